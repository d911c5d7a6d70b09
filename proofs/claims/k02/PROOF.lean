import PyProof.Rows.All
import Wide.All
import OpenK.AllK
import Wide.FinOn
import Lean
import PyProof.EqAt
import PyProof.EqKinds
import PyProof.TupleCall
import PySem.Challenge.RW_foldrule_k02_what_is_refused
set_option Elab.async false
set_option linter.all false
set_option maxRecDepth 100000
/-! THE HAND LAYER, for ints, bools, texts, own classes, LISTS and tuples (index, slices, in, append, pop ..), calls, loops. Paste it whole ahead of your own text; what your proof does not reach may be deleted. -/
namespace L2
open PySem PySem.Spec PyProof.Rows

/-- a key: an int or a str -/
abbrev Key := Sum Int Str
def keyIs : Key → Value → Bool
  | .inl k, v => Value.isInt k v
  | .inr x, v => Value.isStrOf x v
def keyH (w : World) : Key → Int
  | .inl k => hashInt k
  | .inr x => hashStr w x
theorem keyIs_shape : ∀ {k : Key} {v : Value}, keyIs k v = true → (∃ i t, k = Sum.inl i ∧ v = Value.int i t) ∨ (∃ x t, k = Sum.inr x ∧ v = Value.str x t)
  | .inl i, v, h => by
    obtain ⟨t, e⟩ := Value.isInt_shape (k := i) (v := v) h
    exact .inl ⟨i, t, rfl, e⟩
  | .inr x, v, h => by
    obtain ⟨t, e⟩ := Value.isStrOf_shape (x := x) (v := v) h
    exact .inr ⟨x, t, rfl, e⟩
theorem keyIs_int (i : Int) (t : Tok) : keyIs (.inl i) (.int i t) = true := by simp [keyIs, Value.isInt]
theorem keyIs_str (x : Str) (t : Tok) : keyIs (.inr x) (.str x t) = true := by simp [keyIs, Value.isStrOf]
theorem key_ll (a b : Int) : decide ((Sum.inl a : Key) = Sum.inl b) = (a == b) := by
  by_cases e : a = b
  · subst e; simp
  · have h : ¬ (Sum.inl a : Key) = Sum.inl b := fun q => e (Sum.inl.inj q)
    rw [decide_eq_false h]
    exact (beq_eq_false_iff_ne.mpr e).symm
theorem key_rr (a b : Str) : decide ((Sum.inr a : Key) = Sum.inr b) = decide (a = b) := by
  by_cases e : a = b
  · subst e; simp
  · have h : ¬ (Sum.inr a : Key) = Sum.inr b := fun q => e (Sum.inr.inj q)
    rw [decide_eq_false h, decide_eq_false e]
theorem key_lr (a : Int) (b : Str) : decide ((Sum.inl a : Key) = Sum.inr b) = false := decide_eq_false (fun q => nomatch q)
theorem key_rl (a : Str) (b : Int) : decide ((Sum.inr a : Key) = Sum.inl b) = false := decide_eq_false (fun q => nomatch q)

def mixKind (prog : Program) (w : World) : PySem.KeyKind prog w Key where
  is := keyIs
  hash := keyH w
  inj := fun v a b ha hb => by
    rcases keyIs_shape ha with ⟨i, t, rfl, rfl⟩ | ⟨x, t, rfl, rfl⟩
    · rcases keyIs_shape hb with ⟨j, u, rfl, e⟩ | ⟨y, u, rfl, e⟩
      · injection e with e1 _; rw [e1]
      · exact nomatch e
    · rcases keyIs_shape hb with ⟨j, u, rfl, e⟩ | ⟨y, u, rfl, e⟩
      · exact nomatch e
      · injection e with e1 _; rw [e1]
  byValue := fun k v h => by
    rcases keyIs_shape h with ⟨i, t, rfl, rfl⟩ | ⟨x, t, rfl, rfl⟩ <;> rfl
  pyHash := fun hv h => by
    rcases keyIs_shape hv with ⟨i, t, rfl, rfl⟩ | ⟨x, t, rfl, rfl⟩
    · exact wpAny_pyHash_int h
    · exact wpAny_pyHash_str h
  eqBool := fun hu hv h => by
    rcases keyIs_shape hu with ⟨i, t, rfl, rfl⟩ | ⟨x, t, rfl, rfl⟩
    · rcases keyIs_shape hv with ⟨j, u, rfl, rfl⟩ | ⟨y, u, rfl, rfl⟩
      · rw [key_ll] at h; exact wpAny_eqBool_int h
      · rw [key_lr] at h; exact SeqAt.EqAt.int_str i t y u _ _ _ _ h
    · rcases keyIs_shape hv with ⟨j, u, rfl, rfl⟩ | ⟨y, u, rfl, rfl⟩
      · rw [key_rl] at h; exact SeqAt.EqAt.str_int x t j u _ _ _ _ h
      · rw [key_rr] at h; exact wpAny_eqBool_str h
  «strs» := fun k x t v h => by
    rcases keyIs_shape h with ⟨i, u, rfl, e⟩ | ⟨y, u, rfl, e⟩
    · exact nomatch e
    · injection e with e1 _
      subst e1
      cases v <;> rfl

theorem mixKind_int (prog : Program) (w : World) (i : Int) (t : Tok) : (mixKind prog w).is (.inl i) (.int i t) = true := keyIs_int i t
theorem mixKind_str (prog : Program) (w : World) (x : Str) (t : Tok) : (mixKind prog w).is (.inr x) (.str x t) = true := keyIs_str x t
end L2

namespace L2
open PySem PySem.Spec PyProof.Rows

/-- a value, without the heap -/
inductive V where
  | non | bl (b : Bool) | int (i : Int) | str (x : Str) | byt (b : Array UInt8) | flt (b : UInt64) | ref (a : Addr) | ty (n : String)
  deriving DecidableEq

def RelV : V → Value → Prop
  | .non, u => u = Value.none
  | .bl b, u => u = Value.bool b
  | .int i, u => ∃ t, u = Value.int i t
  | .str x, u => ∃ t, u = Value.str x t
  | .byt b, u => ∃ t, u = Value.bytes b t
  | .flt b, u => ∃ t, u = Value.float b t
  | .ref a, u => u = Value.ref a
  | .ty n, u => u = Value.type n

abbrev Vals : List V → List Value → Prop := Paired RelV
theorem Vals.length {xs : List V} {us : List Value} (r : Vals xs us) : xs.length = us.length := Paired.length r
theorem Vals.get : ∀ {xs : List V} {us : List Value} {i : Nat} {x : V}, Vals xs us → xs[i]? = some x → ∃ u, us[i]? = some u ∧ RelV x u
  | _, _, _, _, .nil, e => by simp at e
  | _, _, 0, _, .cons r _, e => by simp at e; subst e; exact ⟨_, rfl, r⟩
  | _, _, i + 1, x, .cons _ t, e => by
    obtain ⟨u, h1, h2⟩ := Vals.get (i := i) (x := x) t (by simpa using e)
    exact ⟨u, by simpa using h1, h2⟩
theorem Vals.set {x : V} {u : Value} (r : RelV x u) : ∀ {xs : List V} {us : List Value} (i : Nat), Vals xs us → Vals (xs.set i x) (us.set i u)
  | _, _, _, .nil => .nil
  | _, _, 0, .cons _ t => .cons r t
  | _, _, i + 1, .cons q t => .cons q (Vals.set r i t)
theorem Vals.append : ∀ {xs ys : List V} {us ws : List Value}, Vals xs us → Vals ys ws → Vals (xs ++ ys) (us ++ ws)
  | _, _, _, _, .nil, s => s
  | _, _, _, _, .cons r t, s => .cons r (Vals.append t s)
theorem Vals.take : ∀ {xs : List V} {us : List Value} (n : Nat), Vals xs us → Vals (xs.take n) (us.take n)
  | _, _, 0, _ => .nil
  | _, _, _ + 1, .nil => .nil
  | _, _, n + 1, .cons r t => .cons r (Vals.take n t)
theorem Vals.drop : ∀ {xs : List V} {us : List Value} (n : Nat), Vals xs us → Vals (xs.drop n) (us.drop n)
  | _, _, 0, r => r
  | _, _, _ + 1, .nil => .nil
  | _, _, n + 1, .cons _ t => Vals.drop n t
theorem Vals.none_of : ∀ {xs : List V} {us : List Value} {i : Nat}, Vals xs us → xs[i]? = none → us[i]? = none := fun {xs us i} r e => by
  have h1 := r.length
  have h2 : xs.length ≤ i := List.getElem?_eq_none_iff.mp e
  exact List.getElem?_eq_none_iff.mpr (by (first | lia | omega))

def RelO : Option V → Option Value → Prop
  | some v, some u => RelV v u
  | none, none => True
  | _, _ => False
def KV {κ : Type} : List (κ × V) → List (κ × Value) → Prop := Paired fun (p : κ × V) (q : κ × Value) => p.1 = q.1 ∧ RelV p.2 q.2

/-- a key of a dict (00_mix): an int or a text -/
def kV : Key → V
  | .inl i => .int i
  | .inr x => .str x

/-- what stands at a tracked address -/
inductive HO where
  /-- a list -/
  | lst (xs : List V)
  /-- a tuple (never changes) -/
  | tup (xs : List V)
  /-- a dict whose keys are ints and texts; one whose keys are tuples of ints and texts (the empty one is both) -/
  | dK (kvs : List (Key × V)) | dT (kvs : List (List Key × V))
  /-- a set of ints: its members, its size -/
  | set (S : Int → Bool) (n : Nat)
  /-- an instance of the class at C, its dict at dx, its attributes -/
  | ins (C dx : Addr) (fs : List (Str × V))
  /-- the dict of the instance at x -/
  | own (x : Addr)
  /-- the dict of an exception -/
  | xd (fs : List (Str × V))
  /-- a bound method, f of x -/
  | met (f x : Addr)
  /-- a range object lo, lo + 1, .. below hi -/
  | rng (lo hi : Int)
  /-- a thing that is known to the object (the script; a dict while a loop walks it): read, never written while it is so -/
  | frz (o : Obj) (u : HO)
  /-- a code object's table -/
  | tbl (ps : Array Value)
  /-- any other thing, by what is true of its one object (a def of one's own: SetO a S n := HO.ext fun h => ..) -/
  | ext (φ : Heap → Prop)

abbrev Hp := Addr → Option HO
def upd (H : Hp) (a : Addr) (o : HO) : Hp := fun b => if b = a then some o else H b
theorem upd_same {H : Hp} {a : Addr} {o : HO} : upd H a o a = some o := by unfold upd; rw [if_pos rfl]
theorem upd_ne {H : Hp} {a b : Addr} {o : HO} (h : b ≠ a) : upd H a o b = H b := by unfold upd; rw [if_neg h]
theorem upd_upd {H : Hp} {a : Addr} {o u : HO} : upd (upd H a o) a u = upd H a u := by
  funext b; unfold upd; split <;> rfl
/-- two objects of different content stand apart -/
theorem ne_of {H : Hp} {a b : Addr} {o u : HO} (h : H a = some o) (h' : H b = some u) (d : o ≠ u) : a ≠ b := by
  intro e; subst e; rw [h] at h'; exact d (Option.some.inj h')
theorem ne_of_none {H : Hp} {a b : Addr} {o : HO} (h : H a = some o) (h' : H b = none) : a ≠ b := by
  intro e; subst e; rw [h] at h'; cases h'

section
variable (P : Program) (w : World)
def ObjOk (H : Hp) (h : Heap) (a : Addr) : HO → Prop
  | .lst xs => xs.length ≤ sizeLine ∧ ∃ (its : List Value) (n : Nat), Vals xs its ∧ h.get? a = some { cls := .type "list", data := .seq its.toArray n }
  | .tup xs => xs.length ≤ sizeLine ∧ ∃ its : List Value, Vals xs its ∧ IsTup h a its.toArray
  | .dK kvs => kvs.length ≤ sizeLine ∧ (a == sysModules) = false ∧ ∃ vs, KV kvs vs ∧ h.DictOf (mixKind P w) a vs
  | .dT kvs => kvs.length ≤ sizeLine ∧ (a == sysModules) = false ∧ ∃ xs : List (List Key × Addr × Value),
      Paired (fun (p : List Key × V) (q : List Key × Addr × Value) => p.1 = q.1 ∧ H q.2.1 = some (.tup (p.1.map kV)) ∧ RelV p.2 q.2.2) kvs xs ∧
      ∃ o es ep, h.get? a = some o ∧ o.ExactDict ∧ o.data = .dict es ep ∧ es.toList = xs.map (entryOfKey (tupleKind (mixKind P w))) ∧ (xs.map (·.1)).Nodup
  | .set S n => h.SetOf (intKind P w) a S n
  | .ins C dx fs => H dx = some (.own a) ∧ fs.length ≤ 1000 ∧ dx ≠ a ∧ h.get? a = some (PySem.W.instObj C dx) ∧
      ∃ mA, h.Ns1 dx mA ∧ (∀ f, RelO (fs.lookup f) (mA f)) ∧ PySem.Within mA (fs.map (·.1))
  | .own _ => ∃ o, h.get? a = some o
  | .xd fs => ∃ mA, h.Ns1 a mA ∧ ∀ f, RelO (fs.lookup f) (mA f)
  | .rng lo hi => ∃ t u v, h.get? a = some { cls := .type "range", data := .fields #[.int lo t, .int hi u, .int 1 v] }
  | .frz o u => h.get? a = some o ∧ ObjOk H h a u
  | .tbl ps => h.get? a = some { cls := .none, data := .fields ps }
  | .met f x => h.get? a = some (PySem.W.methodObj (.ref f) (.ref x))
  | .ext φ => φ h ∧ (∃ o, h.get? a = some o) ∧ ∀ h1 h2 : Heap, φ h1 → (∀ o, h1.get? a = some o → h2.get? a = some o) → φ h2
/-- the abstract heap is held -/
def HOk (H : Hp) (h : Heap) : Prop := ∀ a o, H a = some o → ObjOk P w H h a o
end

section
variable {P : Program} {w : World} {H H' : Hp} {h h' : Heap} {a : Addr} {o : HO}
theorem ObjOk.lt (x : ObjOk P w H h a o) : a < h.objs.size := by
  cases o with
  | lst xs => obtain ⟨_, _, _, _, e⟩ := x; exact Heap.lt_size e
  | tup xs => obtain ⟨_, _, _, p⟩ := x; exact p.lt
  | dK kvs => obtain ⟨_, _, _, _, o, _, _, e, _⟩ := x; exact Heap.lt_size e
  | dT kvs => obtain ⟨_, _, _, _, o, _, _, e, _⟩ := x; exact Heap.lt_size e
  | set S n => obtain ⟨o, _, _, _, e, _⟩ := x; exact Heap.lt_size e
  | ins C dx fs => obtain ⟨_, _, _, e, _⟩ := x; exact Heap.lt_size e
  | own y => obtain ⟨_, e⟩ := x; exact Heap.lt_size e
  | xd fs => obtain ⟨_, ⟨_, _, _, e, _⟩, _⟩ := x; exact Heap.lt_size e
  | rng lo hi => obtain ⟨_, _, _, e⟩ := x; exact Heap.lt_size e
  | frz ob u => obtain ⟨e, _⟩ := x; exact Heap.lt_size e
  | tbl ps => exact Heap.lt_size (show h.get? a = some _ from x)
  | met f y => exact Heap.lt_size (show h.get? a = some _ from x)
  | ext φ => obtain ⟨_, ⟨_, e⟩, _⟩ := x; exact Heap.lt_size e
theorem Paired.mapP {α β : Type} {F G : α → β → Prop} : ∀ {l₁ : List α} {l₂ : List β}, Paired F l₁ l₂ → (∀ a b, F a b → G a b) → Paired G l₁ l₂
  | _, _, .nil, _ => .nil
  | _, _, .cons r t, f => .cons (f _ _ r) (Paired.mapP t f)
/-- what an object's description leans on: its own object, its own dict, the tuples -/
theorem ObjOk.stay (x : ObjOk P w H h a o) (k : ∀ b u, (b = a ∨ H b = some (.own a)) → h.get? b = some u → h'.get? b = some u)
    (ho : ∀ b, H b = some (.own a) → H' b = some (.own a)) (ht : ∀ b xs, H b = some (.tup xs) → H' b = some (.tup xs)) : ObjOk P w H' h' a o := by
  induction o with
  | lst xs => obtain ⟨z, its, n, r, e⟩ := x; exact ⟨z, its, n, r, k _ _ (.inl rfl) e⟩
  | tup xs => obtain ⟨z, its, r, ob, e, c⟩ := x; exact ⟨z, its, r, ob, k _ _ (.inl rfl) e, c⟩
  | dK kvs => obtain ⟨z, y, vs, r, ob, es, ep, e, c⟩ := x; exact ⟨z, y, vs, r, ob, es, ep, k _ _ (.inl rfl) e, c⟩
  | dT kvs =>
    obtain ⟨z, y, xs, r, ob, es, ep, e, c⟩ := x
    exact ⟨z, y, xs, Paired.mapP r fun p q z => ⟨z.1, ht _ _ z.2.1, z.2.2⟩, ob, es, ep, k _ _ (.inl rfl) e, c⟩
  | set S n => obtain ⟨ob, es, ep, t, e, c⟩ := x; exact ⟨ob, es, ep, t, k _ _ (.inl rfl) e, c⟩
  | ins C dx fs =>
    obtain ⟨d, z, ne, e, mA, ⟨od, es, ep, e2, c⟩, r⟩ := x
    exact ⟨ho _ d, z, ne, k _ _ (.inl rfl) e, mA, ⟨od, es, ep, k _ _ (.inr d) e2, c⟩, r⟩
  | own y => obtain ⟨ob, e⟩ := x; exact ⟨ob, k _ _ (.inl rfl) e⟩
  | xd fs => obtain ⟨mA, ⟨od, es, ep, e, c⟩, r⟩ := x; exact ⟨mA, ⟨od, es, ep, k _ _ (.inl rfl) e, c⟩, r⟩
  | rng lo hi => obtain ⟨t, u, v, e⟩ := x; exact ⟨t, u, v, k _ _ (.inl rfl) e⟩
  | frz ob u ih => obtain ⟨e, q⟩ := x; exact ⟨k _ _ (.inl rfl) e, ih q⟩
  | tbl ps =>
    have e : h.get? a = some { cls := .none, data := .fields ps } := x
    show h'.get? a = some { cls := .none, data := .fields ps }
    exact k a _ (.inl rfl) e
  | met f y =>
    have e : h.get? a = some (PySem.W.methodObj (.ref f) (.ref y)) := x
    show h'.get? a = some (PySem.W.methodObj (.ref f) (.ref y))
    exact k a _ (.inl rfl) e
  | ext φ => obtain ⟨p, ⟨o, e⟩, st⟩ := x; exact ⟨st _ _ p fun o q => k _ _ (.inl rfl) q, ⟨o, k _ _ (.inl rfl) e⟩, st⟩
theorem HOk.lt (x : HOk P w H h) (e : H a = some o) : a < h.objs.size := (x a o e).lt
theorem HOk.fresh (x : HOk P w H h) (e : h.objs.size ≤ a) : H a = none := by
  cases q : H a with
  | none => rfl
  | some u => exact absurd (Nat.lt_of_lt_of_le (x.lt q) e) (Nat.lt_irrefl _)
/-- every object of the heap is kept -/
theorem HOk.kept (x : HOk P w H h) (k : ∀ b u, h.get? b = some u → h'.get? b = some u) : HOk P w H h' := fun a o e =>
  (x a o e).stay (fun b u _ q => k b u q) (fun _ q => q) fun _ _ q => q
/-- a new object is laid and tracked -/
theorem HOk.laid (x : HOk P w H h) (k : ∀ b u, h.get? b = some u → h'.get? b = some u) (hp : h.objs.size ≤ a) (new : ObjOk P w (upd H a o) h' a o) : HOk P w (upd H a o) h' := fun b u e => by
  have hn := x.fresh hp
  by_cases hb : b = a
  · subst hb; rw [upd_same] at e; cases e; exact new
  · rw [upd_ne hb] at e
    exact (x b u e).stay (fun c v _ q => k c v q) (fun c q => by rw [upd_ne (ne_of_none q hn)]; exact q) fun c xs q => by rw [upd_ne (ne_of_none q hn)]; exact q
end

/-- what may be read as u: it is u, or a known u -/
def Rd (H : Hp) (a : Addr) (u : HO) : Prop := H a = some u ∨ ∃ o, H a = some (.frz o u)
theorem Rd.of {H : Hp} {a : Addr} {u : HO} (h : H a = some u) : Rd H a u := .inl h
theorem Rd.ok {P : Program} {w : World} {H : Hp} {h : Heap} {a : Addr} {u : HO} (r : Rd H a u) (x : HOk P w H h) : ObjOk P w H h a u := by
  rcases r with r | ⟨o, r⟩
  · exact x a u r
  · obtain ⟨_, q⟩ := x a _ r
    exact q
/-- what may be written -/
def Mut : Option HO → Prop
  | some (.lst _) => True
  | some (.dK _) => True
  | some (.dT _) => True
  | some (.set _ _) => True
  | some (.ins _ _ _) => True
  | some (.ext _) => True
  | _ => False
section
variable {P : Program} {w : World} {H : Hp} {h h' : Heap} {x e : Addr} {o' : HO}
/-- the object at e is changed: x itself, or the dict of the instance x -/
theorem HOk.write (ok : HOk P w H h) (mu : Mut (H x)) (he : e = x ∨ H e = some (.own x)) (k : ∀ b u, b ≠ e → h.get? b = some u → h'.get? b = some u) (heo : ∃ u, h'.get? e = some u)
    (new : ObjOk P w (upd H x o') h' x o') : HOk P w (upd H x o') h' := fun b u q => by
  have nown : ∀ c y, H c = some (.own y) → c ≠ x := fun c y r z => by subst z; rw [r] at mu; exact mu
  have ntup : ∀ c xs, H c = some (.tup xs) → c ≠ x := fun c xs r z => by subst z; rw [r] at mu; exact mu
  by_cases hb : b = x
  · subst hb; rw [upd_same] at q; cases q; exact new
  · rw [upd_ne hb] at q
    by_cases hbe : b = e
    · have q' : H b = some (.own x) := by
        rcases he with z | z
        · exact absurd (hbe.trans z) hb
        · rw [hbe]; exact z
      rw [q] at q'; cases q'
      obtain ⟨v, hv⟩ := heo
      exact ⟨v, by rw [hbe]; exact hv⟩
    · refine (ok b u q).stay (fun c v hc r => k c v ?_ r) (fun c r => by rw [upd_ne (nown c b r)]; exact r) fun c xs r => by rw [upd_ne (ntup c xs r)]; exact r
      rcases hc with rfl | hc
      · exact hbe
      · rintro rfl
        rcases he with z | z
        · exact nown c b hc z
        · rw [hc] at z; cases z; exact hb rfl
end

/-! ### kept unless tracked; of the frames at fs (the callers') the slots may change (an exception that passes writes there); of the records at ex (iterators) nothing is said -/
structure Un (fs ex : List Addr) (H H' : Hp) (h h' : Heap) : Prop where
  keep : ∀ b o, h.get? b = some o → H b = none → b ∉ fs → b ∉ ex → h'.get? b = some o
  slot : ∀ b o, h.get? b = some o → H b = none → b ∈ fs → b ∉ ex → ∃ sl, h'.get? b = some { o with slots := sl }
  free : ∀ b o, h.get? b = some o → H b = none → b ∉ ex → H' b = none
  there : ∀ b o, h.get? b = some o → b ∉ ex → ∃ o', h'.get? b = some o'
  tups : ∀ b xs, H b = some (.tup xs) → H' b = some (.tup xs)
  frzs : ∀ b o u, H b = some (.frz o u) → H' b = some (.frz o u)
  tbls : ∀ b ps, H b = some (.tbl ps) → ∃ more, H' b = some (.tbl (ps ++ more))
section
variable {fs fs' ex ex' : List Addr} {H H1 H2 : Hp} {h h1 h2 h' : Heap} {a x e : Addr} {o : HO}
theorem Un.any (u : Un fs ex H H1 h h1) {b : Addr} {ob : Obj} (q : h.get? b = some ob) (n : H b = none) (hx : b ∉ ex) : ∃ sl, h1.get? b = some { ob with slots := sl } := by
  by_cases hb : b ∈ fs
  · exact u.slot b ob q n hb hx
  · exact ⟨ob.slots, u.keep b ob q n hb hx⟩
theorem Un.trans (a : Un fs ex H H1 h h1) (b : Un fs ex H1 H2 h1 h2) : Un fs ex H H2 h h2 where
  keep := fun c ob q n hc hx => b.keep c ob (a.keep c ob q n hc hx) (a.free c ob q n hx) hc hx
  slot := fun c ob q n hc hx => by
    obtain ⟨sl, e1⟩ := a.slot c ob q n hc hx
    obtain ⟨sl', e2⟩ := b.slot c _ e1 (a.free c ob q n hx) hc hx
    exact ⟨sl', e2⟩
  free := fun c ob q n hx => by
    obtain ⟨o', e1⟩ := a.there c ob q hx
    exact b.free c o' e1 (a.free c ob q n hx) hx
  there := fun c ob q hx => by
    obtain ⟨o', e1⟩ := a.there c ob q hx
    exact b.there c o' e1 hx
  tups := fun c xs q => b.tups c xs (a.tups c xs q)
  frzs := fun c ob xs q => b.frzs c ob xs (a.frzs c ob xs q)
  tbls := fun c ps q => by
    obtain ⟨m1, e1⟩ := a.tbls c ps q
    obtain ⟨m2, e2⟩ := b.tbls c _ e1
    exact ⟨m1 ++ m2, by rw [e2, Array.append_assoc]⟩
theorem Un.kept (k : ∀ b u, h.get? b = some u → h'.get? b = some u) : Un fs ex H H h h' :=
  ⟨fun b ob q _ _ _ => k b ob q, fun b ob q _ _ _ => ⟨ob.slots, k b ob q⟩, fun _ _ _ n _ => n, fun b ob q _ => ⟨ob, k b ob q⟩, fun _ _ q => q, fun _ _ _ q => q, fun _ ps q => ⟨#[], by rw [q]; simp⟩⟩
theorem Un.refl : Un fs ex H H h h := Un.kept fun _ _ q => q
theorem Un.laid (k : ∀ b u, h.get? b = some u → h'.get? b = some u) (hp : h.objs.size ≤ a) (hn : H a = none) : Un fs ex H (upd H a o) h h' where
  keep := fun b u q _ _ _ => k b u q
  slot := fun b u q _ _ _ => ⟨u.slots, k b u q⟩
  free := fun b u q n _ => by rw [upd_ne (Nat.ne_of_lt (Nat.lt_of_lt_of_le (Heap.lt_size q) hp))]; exact n
  there := fun b u q _ => ⟨u, k b u q⟩
  tups := fun b xs q => by rw [upd_ne (ne_of_none q hn)]; exact q
  frzs := fun b u xs q => by rw [upd_ne (ne_of_none q hn)]; exact q
  tbls := fun b ps q => ⟨#[], by rw [upd_ne (ne_of_none q hn), q]; simp⟩
theorem Un.write (mu : Mut (H x)) (he : e = x ∨ H e = some (.own x)) (k : ∀ b u, b ≠ e → h.get? b = some u → h'.get? b = some u) (heo : ∃ u, h'.get? e = some u) : Un fs ex H (upd H x o) h h' := by
  have hx : ∀ b, H b = none → b ≠ x := fun b n z => by subst z; rw [n] at mu; exact mu
  have hb : ∀ b, H b = none → b ≠ e := fun b n z => by
    subst z
    rcases he with r | r
    · exact hx b n r
    · rw [n] at r; cases r
  have hm : ∀ b u, H b = some u → ¬ Mut (some u) → b ≠ x := fun b u q nm z => by subst z; rw [q] at mu; exact nm mu
  refine ⟨fun b u q n _ _ => k b u (hb b n) q, fun b u q n _ _ => ⟨u.slots, k b u (hb b n) q⟩, fun b u q n _ => by rw [upd_ne (hx b n)]; exact n, fun b u q _ => ?_,
    fun b xs q => by rw [upd_ne (hm b _ q fun z => z)]; exact q, fun b u xs q => by rw [upd_ne (hm b _ q fun z => z)]; exact q, fun b ps q => ⟨#[], by rw [upd_ne (hm b _ q fun z => z), q]; simp⟩⟩
  by_cases hbe : b = e
  · subst hbe; exact heo
  · exact ⟨u, k b u hbe q⟩
theorem Un.mono (u : Un fs ex H H1 h h1) (hs : ∀ b ∈ fs, b ∈ fs') (hx : ∀ b ∈ ex, b ∈ ex') : Un fs' ex' H H1 h h1 :=
  ⟨fun b ob q n hb he => u.keep b ob q n (fun z => hb (hs b z)) fun z => he (hx b z), fun _ _ q n _ he => u.any q n fun z => he (hx _ z), fun b ob q n he => u.free b ob q n fun z => he (hx b z), fun b ob q he => u.there b ob q fun z => he (hx b z), u.tups, u.frzs, u.tbls⟩
end

/-! ### the heap without what is tracked -/
def trk (h : Heap) (H : Hp) : List Addr := (List.range h.objs.size).filter fun a => (H a).isSome
def hidT (h : Heap) (H : Hp) : Heap := PySem.W.hideAll h (trk h H)
theorem hidT_size (h : Heap) (H : Hp) : (hidT h H).objs.size = h.objs.size := PySem.W.hideAll_size _ _
theorem hidT_get {h : Heap} {H : Hp} {b : Addr} {o : Obj} (e : h.get? b = some o) (n : H b = none) : (hidT h H).get? b = some o :=
  PySem.W.hideAll_get _ e fun hm => by
    have q : (H b).isSome = true := (List.mem_filter.mp hm).2
    rw [n] at q; simp at q
theorem of_hidT {h : Heap} {H : Hp} {b : Addr} {o : Obj} (e : (hidT h H).get? b = some o) : h.get? b = some o ∧ H b = none := by
  have e' : h.get? b = some o := PySem.W.of_hideAll (trk h H) e
  refine ⟨e', ?_⟩
  cases q : H b with
  | none => rfl
  | some x =>
    have hm : b ∈ trk h H := List.mem_filter.mpr ⟨List.mem_range.mpr (Heap.lt_size e'), by simp [q]⟩
    have z : (hidT h H).get? b = none := PySem.W.hideAll_none (trk h H) hm
    rw [z] at e; cases e

/-! ### OpenK's ledger, filled with every new object but one -/
def allNews (g h : Heap) (L : Addr) : List (Addr × Obj) := (List.range h.objs.size).filterMap fun a => if a = L ∨ (g.get? a).isSome = true then none else (h.get? a).map fun o => (a, o)
def rest (g h : Heap) (L d : Addr) : List (Addr × Obj) := (allNews g h L).filter fun p => decide (p.1 ≠ d)
end L2

namespace L2
open PySem PySem.Spec PyProof.Rows

/-- the module's facts, over the base: the heap at the law's entry without what is tracked there -/
structure Mod (K : PySem.W.Frag) (mg : Str → Option Value) (base : Heap) : Prop where
  kin : K.In base
  glob : base.Ns mainGlobals mg
  blt : ∃ mb, base.Ns builtinsNs mb ∧ ∀ x : Str, x ≠ "__name__" → mb x = bootBuiltins x
  nolimit : base.NoLimit

/-- the context: a def's body (or a comprehension's block) running. base: fixed through the whole law; s₀, H₀: the entry; outer: the frames whose slots others may change (a def's callers); stack: all frames that run;
   ex: iterators that were made ahead of the entry and are walked here (a comprehension's); fn: the names whose cells were made at the entry (a def: all; a comprehension's block: its own); calm: not within an except suite; pn: pins that every state bears; xe: what is wanted of an exception that leaves the code -/
structure Cx where
  prog : Program
  w : World
  K : PySem.W.Frag
  mg : Str → Option Value
  base : Heap
  A : Around
  N : List Str
  s₀ : Shared
  H₀ : Hp
  env : Env
  outer : List Env
  stack : List Env
  ex : List Addr
  fn : Str → Bool
  calm : Bool
  pn : List (Addr × Obj)
  xe : Value → Shared → Prop
/-- the callers' frames -/
def frs (l : List Env) : List Addr := l.filterMap (·.frame)
abbrev Cx.fs (X : Cx) : List Addr := frs X.outer

def Vis (sc : Scope) (x : Str) : Prop := sc.names.lookup x = some .local ∨ sc.names.lookup x = some .cell ∨ sc.names.lookup x = some .free
def Loc (sc : Scope) (x : Str) : Prop := sc.names.lookup x = some .local ∨ sc.names.lookup x = some .cell
def Look (env : Env) (h : Heap) (m : Str → Option Value) (x : Str) (u : Value) : Prop :=
  (env.kindOf x = some .local ∧ m x = some u) ∨ ((env.kindOf x = some .cell ∨ env.kindOf x = some .free) ∧ ∃ c, env.cells.lookup x = some c ∧ h.IsCell c (some u))

structure Cx.Ok (X : Cx) : Prop where
  mod : Mod X.K X.mg X.base
  kind : X.env.scope.kind = .function
  glob : X.env.globals = mainGlobals
  blt : X.env.builtins = builtinsNs
  above : X.s₀.heap.objs.size ≤ X.env.locals
  inj : ∀ x y c, X.env.cells.lookup x = some c → X.env.cells.lookup y = some c → x = y
  has : ∀ x, (X.env.kindOf x = some .cell ∨ X.env.kindOf x = some .free) → ∃ c, X.env.cells.lookup x = some c
  cab : ∀ x c, X.fn x = true → X.env.cells.lookup x = some c → X.s₀.heap.objs.size ≤ c
  hd : X.calm = true → X.A.handled = none
  frames : X.A.frames = some X.stack
  stk : X.stack = X.outer ∨ (X.stack = X.env :: X.outer ∧ X.env.frame = some X.env.locals)
  exf : ∀ b ∈ X.ex, b ≠ X.env.locals ∧ ∀ x c, X.env.cells.lookup x = some c → c ≠ b
  bs : ∀ b o, X.base.get? b = some o → X.s₀.heap.get? b = some o ∧ X.H₀ b = none
  bsz : X.base.objs.size ≤ X.s₀.heap.objs.size
  noex : ∀ b o, X.base.get? b = some o → b ∉ X.ex
  exfs : ∀ b ∈ X.ex, b ∉ X.fs
  funs : X.s₀.heap.FunFrames X.base X.outer
  frf : ∀ b ∈ X.fs, X.H₀ b = none

structure Inv (X : Cx) (pins : List (Addr × Obj)) (σ : List (Option V)) (H : Hp) (s : Shared) : Prop where
  ok : X.Ok
  os : s.os = X.s₀.os
  bare : AllBare s.gens
  base : Un X.fs X.ex X.H₀ H X.s₀.heap s.heap
  loc : ∃ m, s.heap.Ns X.env.locals m ∧ ∀ (i : Nat) (x : Str) (v : V), X.N[i]? = some x → σ[i]? = some (some v) → Vis X.env.scope x → ∃ u, RelV v u ∧ Look X.env s.heap m x u
  cell : ∀ x c, X.env.cells.lookup x = some c → ∃ v, s.heap.IsCell c v
  free : H X.env.locals = none
  freeC : ∀ x c, X.env.cells.lookup x = some c → H c = none
  pin : ∀ p ∈ X.pn ++ pins, s.heap.get? p.1 = some p.2 ∧ H p.1 = none ∧ p.1 ≠ X.env.locals ∧ p.1 ∉ X.fs ∧ ∀ v, p.2.data ≠ .cell v
  hok : HOk X.prog X.w H s.heap
  len : σ.length = X.N.length

section
variable {X : Cx} {pins : List (Addr × Obj)} {σ : List (Option V)} {H H' : Hp} {s : Shared} {h' : Heap}

theorem Cx.Ok.nofr (ok : X.Ok) {b : Addr} {o : Obj} (e : X.base.get? b = some o) : b ∉ X.fs := fun hb => by
  have := (ok.funs.mem hb).1
  rw [e] at this; cases this
theorem Inv.bs (I : Inv X pins σ H s) : ∀ b o, X.base.get? b = some o → s.heap.get? b = some o ∧ H b = none := fun b o e =>
  ⟨I.base.keep b o (I.ok.bs b o e).1 (I.ok.bs b o e).2 (I.ok.nofr e) (I.ok.noex b o e), I.base.free b o (I.ok.bs b o e).1 (I.ok.bs b o e).2 (I.ok.noex b o e)⟩
theorem Inv.bk (I : Inv X pins σ H s) : ∀ b o, X.base.get? b = some o → s.heap.get? b = some o := fun b o e => (I.bs b o e).1
theorem Inv.mod (I : Inv X pins σ H s) : Mod X.K X.mg X.base := I.ok.mod
theorem Inv.kIn (I : Inv X pins σ H s) : X.K.In s.heap := I.ok.mod.kin.keeps I.bk
theorem Inv.nolimit (I : Inv X pins σ H s) : s.heap.NoLimit := I.ok.mod.nolimit.keeps I.bk
/-- the frame over the base: for OpenK's rules (K.In X.base is I.mod.kin) -/
theorem Inv.fr (I : Inv X pins σ H s) : ∃ m, Fr X.base X.env.locals s.heap m :=
  let ⟨m, hn, _⟩ := I.loc
  ⟨m, hn, I.bk, Nat.le_trans I.ok.bsz I.ok.above⟩
theorem Inv.lt (I : Inv X pins σ H s) : X.env.locals < s.heap.objs.size := let ⟨_, hn, _⟩ := I.loc; hn.lt
theorem Inv.sz (I : Inv X pins σ H s) : X.s₀.heap.objs.size ≤ s.heap.objs.size := Nat.le_trans I.ok.above (Nat.le_of_lt I.lt)
theorem Inv.nofs (I : Inv X pins σ H s) {a : Addr} (h : s.heap.objs.size ≤ a) : a ∉ X.fs := fun hb => by
  obtain ⟨_, o, ho, _⟩ := I.ok.funs.mem hb
  exact absurd (Nat.lt_of_lt_of_le (Heap.lt_size ho) (Nat.le_trans I.sz h)) (Nat.lt_irrefl _)
theorem Inv.cne (I : Inv X pins σ H s) : ∀ x c, X.env.cells.lookup x = some c → c ≠ X.env.locals := fun x c e z => by
  obtain ⟨v, o, ho, hd⟩ := I.cell x c e
  obtain ⟨m, ⟨o', es, ep, ho', hd', _⟩, _⟩ := I.loc
  rw [z, ho'] at ho; cases ho; rw [hd'] at hd; cases hd
theorem Inv.funs (I : Inv X pins σ H s) : s.heap.FunFrames X.base X.outer := by
  have all : ∀ (l : List Env), (∀ b ∈ frs l, b ∈ X.fs) → X.s₀.heap.FunFrames X.base l → s.heap.FunFrames X.base l := by
    intro l
    induction l with
    | nil => intro _ _; trivial
    | cons env r ih =>
      intro hs hl
      obtain ⟨hk, ⟨L, o, hf, hn, ho, hd⟩, hr⟩ := hl
      have hL : L ∈ X.fs := hs L (by unfold frs; rw [List.filterMap_cons, hf]; exact List.mem_cons_self)
      obtain ⟨sl, e⟩ := I.base.slot L o ho (I.ok.frf L hL) hL fun z => I.ok.exfs L z hL
      exact ⟨hk, ⟨L, _, hf, hn, e, hd⟩, ih (fun b hb => hs b (by unfold frs; rw [List.filterMap_cons, hf]; exact List.mem_cons_of_mem _ hb)) hr⟩
  exact all X.outer (fun _ hb => hb) I.ok.funs

/-- the frames that run, for a call -/
theorem Inv.stack (I : Inv X pins σ H s) : s.heap.FunFrames X.base X.stack := by
  rcases I.ok.stk with e | ⟨e, hf⟩
  · rw [e]; exact I.funs
  · rw [e]
    obtain ⟨m, hn, _⟩ := I.loc
    refine .cons (by rw [I.ok.kind]; decide) hf hn ?_ I.funs
    exact Heap.get?_none_of_le (Nat.le_trans I.ok.bsz I.ok.above)
theorem Inv.stkSub (I : Inv X pins σ H s) : ∀ b ∈ frs X.stack, b ∈ X.env.locals :: X.fs := fun b hb => by
  rcases I.ok.stk with e | ⟨e, hf⟩
  · rw [e] at hb; exact List.mem_cons_of_mem _ hb
  · rw [e] at hb
    unfold frs at hb
    rw [List.filterMap_cons, hf] at hb
    exact hb
theorem Inv.stkFree (I : Inv X pins σ H s) : ∀ b ∈ frs X.stack, H b = none := fun b hb => by
  rcases List.mem_cons.mp (I.stkSub b hb) with e | hb
  · rw [e]; exact I.free
  · obtain ⟨_, o, ho, _⟩ := I.ok.funs.mem hb
    exact I.base.free b o ho (I.ok.frf b hb) fun z => I.ok.exfs b z hb

/-- THE STEP: the untracked objects but the frame and the records at ch are kept (the callers' frames up to slots), the frame's map is kept, the new abstract heap is held -/
theorem Inv.step {g' : Array GenState} {t' : Nat} {d' : Drawn} {ch : List Addr} (I : Inv X pins σ H s)
    (hch : ∀ b ∈ ch, (b ∈ X.ex ∨ X.s₀.heap.objs.size ≤ b) ∧ b ≠ X.env.locals ∧ (∀ x c, X.env.cells.lookup x = some c → c ≠ b) ∧ ∀ p ∈ X.pn ++ pins, p.1 ≠ b)
    (keep : ∀ b o, b ≠ X.env.locals → b ∉ X.fs → b ∉ ch → s.heap.get? b = some o → H b = none → h'.get? b = some o)
    (slot : ∀ b o, b ≠ X.env.locals → b ∈ X.fs → b ∉ ch → s.heap.get? b = some o → H b = none → ∃ sl, h'.get? b = some { o with slots := sl }) (free : ∀ b o, b ∉ ch → s.heap.get? b = some o → H b = none → H' b = none)
    (there : ∀ b o, b ∉ ch → s.heap.get? b = some o → ∃ o', h'.get? b = some o')
    (tups : ∀ b xs, H b = some (.tup xs) → H' b = some (.tup xs)) (frzs : ∀ b o u, H b = some (.frz o u) → H' b = some (.frz o u)) (tbls : ∀ b ps, H b = some (.tbl ps) → ∃ more, H' b = some (.tbl (ps ++ more)))
    (ns : ∀ m, s.heap.Ns X.env.locals m → h'.Ns X.env.locals m) (hok : HOk X.prog X.w H' h') (hg : AllBare g') :
    Inv X pins σ H' { s with heap := h', gens := g', drawn := d', toks := t' } := by
  have neL : ∀ b o, X.s₀.heap.get? b = some o → b ≠ X.env.locals := fun b o e => Nat.ne_of_lt (Nat.lt_of_lt_of_le (Heap.lt_size e) I.ok.above)
  have neC : ∀ b o, X.s₀.heap.get? b = some o → b ∉ X.ex → b ∉ ch := fun b o e hx hb => by
    rcases (hch b hb).1 with z | z
    · exact hx z
    · exact absurd (Nat.lt_of_lt_of_le (Heap.lt_size e) z) (Nat.lt_irrefl _)
  have cellK : ∀ x c, X.env.cells.lookup x = some c → ∀ v, s.heap.IsCell c v → h'.IsCell c v := fun x c e v ⟨o, ho, hd⟩ => by
    have nch : c ∉ ch := fun z => (hch c z).2.2.1 x c e rfl
    by_cases hc : c ∈ X.fs
    · obtain ⟨sl, q⟩ := slot c o (I.cne x c e) hc nch ho (I.freeC x c e)
      exact ⟨_, q, hd⟩
    · exact ⟨o, keep c o (I.cne x c e) hc nch ho (I.freeC x c e), hd⟩
  refine ⟨I.ok, I.os, hg, ⟨fun b o e n hb hx => ?_, fun b o e n hb hx => ?_, fun b o e n hx => ?_, fun b o e hx => ?_, fun b xs e => tups b xs (I.base.tups b xs e), fun b o xs e => frzs b o xs (I.base.frzs b o xs e), fun b ps e => ?_⟩, ?_, fun x c e => ?_, ?_, fun x c e => ?_, fun p hp => ?_, hok, I.len⟩
  · exact keep b o (neL b o e) hb (neC b o e hx) (I.base.keep b o e n hb hx) (I.base.free b o e n hx)
  · obtain ⟨sl, e1⟩ := I.base.slot b o e n hb hx
    obtain ⟨sl', e2⟩ := slot b _ (neL b o e) hb (neC b o e hx) e1 (I.base.free b o e n hx)
    exact ⟨sl', e2⟩
  · obtain ⟨o', e1⟩ := I.base.there b o e hx
    exact free b o' (neC b o e hx) e1 (I.base.free b o e n hx)
  · obtain ⟨o', e1⟩ := I.base.there b o e hx
    exact there b o' (neC b o e hx) e1
  · obtain ⟨m1, e1⟩ := I.base.tbls b ps e
    obtain ⟨m2, e2⟩ := tbls b _ e1
    exact ⟨m1 ++ m2, by rw [e2, Array.append_assoc]⟩
  · obtain ⟨m, hn, hl⟩ := I.loc
    refine ⟨m, ns m hn, fun i x v e1 e2 e3 => ?_⟩
    obtain ⟨u, r, l⟩ := hl i x v e1 e2 e3
    refine ⟨u, r, ?_⟩
    rcases l with l | ⟨k, c, e, z⟩
    · exact .inl l
    · exact .inr ⟨k, c, e, cellK x c e _ z⟩
  · obtain ⟨v, z⟩ := I.cell x c e
    exact ⟨v, cellK x c e v z⟩
  · obtain ⟨m, ⟨o, _, _, ho, _⟩, _⟩ := I.loc
    exact free _ o (fun z => (hch _ z).2.1 rfl) ho I.free
  · obtain ⟨v, o, ho, hd⟩ := I.cell x c e
    exact free c o (fun z => (hch c z).2.2.1 x c e rfl) ho (I.freeC x c e)
  · obtain ⟨e, n, ne, nf, d⟩ := I.pin p hp
    have nch : p.1 ∉ ch := fun z => (hch p.1 z).2.2.2 p hp rfl
    exact ⟨keep p.1 p.2 ne nf nch e n, free p.1 p.2 nch e n, ne, nf, d⟩
/-- .. where the frame's own object is kept too -/
theorem Inv.un {t' : Nat} (I : Inv X pins σ H s) (u : Un X.fs [] H H' s.heap h') (hok : HOk X.prog X.w H' h') : Inv X pins σ H' { s with heap := h', toks := t' } := by
  obtain ⟨m, ⟨o, es, ep, ho, r⟩, _⟩ := id I.loc
  obtain ⟨sl, hL⟩ := u.any ho I.free (by simp)
  exact I.step (g' := s.gens) (d' := s.drawn) (ch := []) (fun _ z => nomatch z) (fun b o _ hb _ e n => u.keep b o e n hb (by simp)) (fun b o _ hb _ e n => u.slot b o e n hb (by simp)) (fun b o _ e n => u.free b o e n (by simp)) (fun b o _ e => u.there b o e (by simp)) u.tups u.frzs u.tbls (fun m' hm => by
    obtain ⟨o', es', ep', ho', r'⟩ := hm
    rw [ho] at ho'; cases ho'
    exact ⟨_, es', ep', hL, r'⟩) hok I.bare
/-- behind a call (or a comprehension's block): the slots of this frame may have changed too, the records at ch may have turned -/
theorem Inv.call {g' : Array GenState} {t' : Nat} {d' : Drawn} {ch : List Addr} (I : Inv X pins σ H s) (u : Un (frs X.stack) ch H H' s.heap h') (hok : HOk X.prog X.w H' h') (hg : AllBare g')
    (hch : ∀ b ∈ ch, (b ∈ X.ex ∨ X.s₀.heap.objs.size ≤ b) ∧ b ≠ X.env.locals ∧ (∀ x c, X.env.cells.lookup x = some c → c ≠ b) ∧ ∀ p ∈ X.pn ++ pins, p.1 ≠ b) :
    Inv X pins σ H' { s with heap := h', gens := g', drawn := d', toks := t' } := by
  obtain ⟨m, ⟨o, es, ep, ho, r⟩, _⟩ := id I.loc
  obtain ⟨sl, hL⟩ := u.any ho I.free fun z => (hch _ z).2.1 rfl
  exact I.step (ch := ch) hch (fun b o hL hb hc e n => u.keep b o e n (fun z => (List.mem_cons.mp (I.stkSub b z)).elim hL hb) hc) (fun b o _ _ hc e n => u.any e n hc) (fun b o hc e n => u.free b o e n hc) (fun b o hc e => u.there b o e hc) u.tups u.frzs u.tbls (fun m' hm => by
    obtain ⟨o', es', ep', ho', r'⟩ := hm
    rw [ho] at ho'; cases ho'
    exact ⟨_, es', ep', hL, r'⟩) hok hg
/-- an untracked record of ours (an iterator) has turned -/
theorem Inv.turned {t' : Nat} {it : Addr} (I : Inv X pins σ H s) (k : ∀ b o, b ≠ it → s.heap.get? b = some o → h'.get? b = some o) (hn : H it = none) (hL : it ≠ X.env.locals)
    (h1 : it ∈ X.ex ∨ X.s₀.heap.objs.size ≤ it) (h2 : ∀ x c, X.env.cells.lookup x = some c → c ≠ it) (h3 : ∀ p ∈ X.pn ++ pins, p.1 ≠ it) : Inv X pins σ H { s with heap := h', toks := t' } := by
  have nit : ∀ b u, H b = some u → b ≠ it := fun b u e z => by rw [z, hn] at e; cases e
  refine I.step (g' := s.gens) (d' := s.drawn) (ch := [it]) (fun b hb => ?_) (fun b o _ _ hc e _ => k b o (fun z => hc (by simp [z])) e) (fun b o _ _ hc e _ => ⟨o.slots, k b o (fun z => hc (by simp [z])) e⟩) (fun _ _ _ _ n => n)
    (fun b o hc e => ⟨o, k b o (fun z => hc (by simp [z])) e⟩) (fun _ _ e => e) (fun _ _ _ e => e) (fun b ps e => ⟨#[], by rw [e]; simp⟩) (fun m hm => ?_) (fun b u e => ?_) I.bare
  · have e : b = it := by simpa using hb
    subst e
    exact ⟨h1, hL, h2, h3⟩
  · obtain ⟨o, es, ep, ho, r⟩ := hm
    exact ⟨o, es, ep, k _ o (Ne.symm hL) ho, r⟩
  · refine (I.hok b u e).stay (fun c v hc q => k c v ?_ q) (fun _ q => q) fun _ _ q => q
    rcases hc with z | z
    · rw [z]; exact nit b u e
    · exact nit c _ z
theorem Inv.tok (I : Inv X pins σ H s) (t : Nat) : Inv X pins σ H { s with toks := t } := I.un (h' := s.heap) (t' := t) Un.refl I.hok
/-- all objects kept -/
theorem Inv.kept {t' : Nat} (I : Inv X pins σ H s) (k : ∀ b u, s.heap.get? b = some u → h'.get? b = some u) : Inv X pins σ H { s with heap := h', toks := t' } := I.un (Un.kept k) (I.hok.kept k)
/-- a new object laid and tracked -/
theorem Inv.laid {a : Addr} {o : HO} {t' : Nat} (I : Inv X pins σ H s) (k : ∀ b u, s.heap.get? b = some u → h'.get? b = some u) (hp : s.heap.objs.size ≤ a) (new : ObjOk X.prog X.w (upd H a o) h' a o) :
    Inv X pins σ (upd H a o) { s with heap := h', toks := t' } := I.un (Un.laid k hp (I.hok.fresh hp)) (I.hok.laid k hp new)
/-- an object written -/
theorem Inv.write {x e : Addr} {o : HO} {t' : Nat} (I : Inv X pins σ H s) (mu : Mut (H x)) (he : e = x ∨ H e = some (.own x)) (k : ∀ b u, b ≠ e → s.heap.get? b = some u → h'.get? b = some u) (heo : ∃ u, h'.get? e = some u)
    (new : ObjOk X.prog X.w (upd H x o) h' x o) : Inv X pins σ (upd H x o) { s with heap := h', toks := t' } := I.un (Un.write mu he k heo) (I.hok.write mu he k heo new)
/-- forgetting slots, pins -/
theorem Inv.weak {σ' : List (Option V)} (I : Inv X pins σ H s) (hl : σ'.length = σ.length) (w : ∀ (i : Nat) v, σ'[i]? = some (some v) → σ[i]? = some (some v)) : Inv X pins σ' H s :=
  ⟨I.ok, I.os, I.bare, I.base, let ⟨m, hn, hl'⟩ := I.loc; ⟨m, hn, fun i x v e1 e2 e3 => hl' i x v e1 (w i v e2) e3⟩, I.cell, I.free, I.freeC, I.pin, I.hok, hl.trans I.len⟩
theorem Inv.pins_of {pins' : List (Addr × Obj)} (I : Inv X pins σ H s) (h : ∀ p ∈ pins', s.heap.get? p.1 = some p.2 ∧ H p.1 = none ∧ p.1 ≠ X.env.locals ∧ p.1 ∉ X.fs ∧ ∀ v, p.2.data ≠ .cell v) : Inv X pins' σ H s :=
  ⟨I.ok, I.os, I.bare, I.base, I.loc, I.cell, I.free, I.freeC, fun p hp => (List.mem_append.mp hp).elim (fun z => I.pin p (List.mem_append_left _ z)) (h p), I.hok, I.len⟩

theorem nodup_ix {N : List Str} (hN : N.Nodup) {i j : Nat} {x : Str} (a : N[i]? = some x) (b : N[j]? = some x) : i = j := by
  obtain ⟨h1, e1⟩ := List.getElem?_eq_some_iff.mp a
  obtain ⟨h2, e2⟩ := List.getElem?_eq_some_iff.mp b
  exact (List.getElem_inj hN).mp (e1.trans e2.symm)

/-- a name is stored; what changed -/
theorem store_ok2 {M : Model} {A : Around} {E : Value → Shared → Prop} {i : Nat} {x : Str} {v : V} {u : Value} {Q : Unit → Shared → Prop} (I : Inv X pins σ H s) (hN : X.N.Nodup) (hi : X.N[i]? = some x) (hx : Loc X.env.scope x) (r : RelV v u)
    (h : ∀ s', Inv X pins (σ.set i (some v)) H s' → (∃ a, Heap.SameBut a s.heap s'.heap ∧ (a = X.env.locals ∨ X.env.cells.lookup x = some a)) → Q () s') (hf : X.fn x = true ∨ X.env.scope.names.lookup x = some .local := by first | exact .inl rfl | exact .inr rfl | assumption) : wpAny M A (storeName X.env x u) Q E s := by
  obtain ⟨m, hn, hl⟩ := id I.loc
  have hcls : (X.env.scope.kind == .class || (X.env.scope.kind == .module && X.env.locals != X.env.globals)) = false := by rw [I.ok.kind]; rfl
  have hiσ : i < σ.length := by rw [I.len]; exact (List.getElem?_eq_some_iff.mp hi).1
  have cne := I.cne
  have tracked : ∀ {a : Addr} {h' : Heap}, (∃ o, s.heap.get? a = some o ∧ H a = none) → Heap.SameBut a s.heap h' → HOk X.prog X.w H h' := fun {a h'} ha hs b ob e => by
    obtain ⟨_, _, hfree⟩ := ha
    refine (I.hok b ob e).stay (fun c w' hc q => (hs.2 c ?_).trans q) (fun _ q => q) fun _ _ q => q
    rintro rfl
    rcases hc with rfl | hc
    · rw [hfree] at e; cases e
    · rw [hfree] at hc; cases hc
  rcases hx with hk | hk
  · refine wpAny_storeName_local hk hn (fun h' hn' hs => ?_) hcls
    obtain ⟨oL, _, _, hoL, _⟩ := id hn
    refine h _ ⟨I.ok, I.os, I.bare, ⟨fun b o e n hb hx => ?_, fun b o e n hb hx => ?_, I.base.free, fun b o e hx => ?_, I.base.tups, I.base.frzs, I.base.tbls⟩, ⟨_, hn', fun j y v' e1 e2 e3 => ?_⟩, fun y c e => ?_, I.free, I.freeC, fun p hp => ?_, tracked ⟨oL, hoL, I.free⟩ hs, by simpa using I.len⟩ ⟨_, hs, .inl rfl⟩
    · exact (hs.2 b (Nat.ne_of_lt (Nat.lt_of_lt_of_le (Heap.lt_size e) I.ok.above))).trans (I.base.keep b o e n hb hx)
    · obtain ⟨sl, e1⟩ := I.base.slot b o e n hb hx
      exact ⟨sl, (hs.2 b (Nat.ne_of_lt (Nat.lt_of_lt_of_le (Heap.lt_size e) I.ok.above))).trans e1⟩
    · obtain ⟨o', e1⟩ := I.base.there b o e hx
      exact ⟨o', (hs.2 b (Nat.ne_of_lt (Nat.lt_of_lt_of_le (Heap.lt_size e) I.ok.above))).trans e1⟩
    · by_cases hj : j = i
      · subst hj
        rw [hi] at e1; cases e1
        rw [List.getElem?_set_self hiσ] at e2
        cases e2
        exact ⟨u, r, .inl ⟨hk, by simp⟩⟩
      · rw [List.getElem?_set_ne (Ne.symm hj)] at e2
        obtain ⟨u', r', q⟩ := hl j y v' e1 e2 e3
        refine ⟨u', r', ?_⟩
        rcases q with ⟨k, e⟩ | ⟨k, c, e, z⟩
        · refine .inl ⟨k, ?_⟩
          have : y ≠ x := fun e => hj (nodup_ix hN e1 (e ▸ hi))
          simp [this, e]
        · exact .inr ⟨k, c, e, z.sameBut hs (cne y c e)⟩
    · obtain ⟨w', z⟩ := I.cell y c e
      exact ⟨w', z.sameBut hs (cne y c e)⟩
    · obtain ⟨e, n, ne, nf, d⟩ := I.pin p hp
      exact ⟨(hs.2 p.1 ne).trans e, n, ne, nf, d⟩
  · have hfn : X.fn x = true := by
      rcases hf with z | z
      · exact z
      · rw [z] at hk; cases hk
    obtain ⟨c, hc⟩ := I.ok.has x (.inl hk)
    obtain ⟨w', z⟩ := I.cell x c hc
    refine wpAny_storeName_cell I.ok.kind hk hc z (fun h' hc' hs => ?_)
    obtain ⟨oc, hoc, hocd⟩ := id z
    refine h { s with heap := h' } ⟨I.ok, I.os, I.bare, ⟨fun b o e n hb hx => ?_, fun b o e n hb hx => ?_, I.base.free, fun b o e hx => ?_, I.base.tups, I.base.frzs, I.base.tbls⟩, ⟨m, hn.sameBut hs (Ne.symm (cne x c hc)), fun j y v' e1 e2 e3 => ?_⟩, fun y c' e => ?_, I.free, I.freeC, fun p hp => ?_, tracked ⟨oc, hoc, I.freeC x c hc⟩ hs, by simpa using I.len⟩ ⟨c, hs, .inr hc⟩
    · exact (hs.2 b (Nat.ne_of_lt (Nat.lt_of_lt_of_le (Heap.lt_size e) (I.ok.cab x c hfn hc)))).trans (I.base.keep b o e n hb hx)
    · obtain ⟨sl, e1⟩ := I.base.slot b o e n hb hx
      exact ⟨sl, (hs.2 b (Nat.ne_of_lt (Nat.lt_of_lt_of_le (Heap.lt_size e) (I.ok.cab x c hfn hc)))).trans e1⟩
    · obtain ⟨o', e1⟩ := I.base.there b o e hx
      exact ⟨o', (hs.2 b (Nat.ne_of_lt (Nat.lt_of_lt_of_le (Heap.lt_size e) (I.ok.cab x c hfn hc)))).trans e1⟩
    · by_cases hj : j = i
      · subst hj
        rw [hi] at e1; cases e1
        rw [List.getElem?_set_self hiσ] at e2
        cases e2
        exact ⟨u, r, .inr ⟨.inl hk, c, hc, hc'⟩⟩
      · rw [List.getElem?_set_ne (Ne.symm hj)] at e2
        obtain ⟨u', r', q⟩ := hl j y v' e1 e2 e3
        refine ⟨u', r', ?_⟩
        rcases q with q | ⟨k, c', e, z'⟩
        · exact .inl q
        · refine .inr ⟨k, c', e, z'.sameBut hs ?_⟩
          rintro rfl
          exact hj (nodup_ix hN e1 (I.ok.inj _ _ _ e hc ▸ hi))
    · by_cases hcc : c' = c
      · subst hcc; exact ⟨_, hc'⟩
      · obtain ⟨w2, z2⟩ := I.cell y c' e
        exact ⟨w2, z2.sameBut hs hcc⟩
    · obtain ⟨e, n, ne, nf, d⟩ := I.pin p hp
      refine ⟨(hs.2 p.1 ?_).trans e, n, ne, nf, d⟩
      intro q
      rw [q, hoc] at e
      have q' : oc = p.2 := Option.some.inj e
      exact d w' (by rw [← q']; exact hocd)
theorem store_ok {M : Model} {A : Around} {E : Value → Shared → Prop} {i : Nat} {x : Str} {v : V} {u : Value} {Q : Unit → Shared → Prop} (I : Inv X pins σ H s) (hN : X.N.Nodup) (hi : X.N[i]? = some x) (hx : Loc X.env.scope x) (r : RelV v u)
    (h : ∀ s', Inv X pins (σ.set i (some v)) H s' → Q () s') (hf : X.fn x = true ∨ X.env.scope.names.lookup x = some .local := by first | exact .inl rfl | exact .inr rfl | assumption) : wpAny M A (storeName X.env x u) Q E s :=
  store_ok2 I hN hi hx r (fun s' I' _ => h s' I') hf
/-- behind a call or a block, the state as it is -/
theorem Inv.call' {s' : Shared} {ch : List Addr} (I : Inv X pins σ H s) (ho : s'.os = s.os) (u : Un (frs X.stack) ch H H' s.heap s'.heap) (hok : HOk X.prog X.w H' s'.heap) (hg : AllBare s'.gens)
    (hch : ∀ b ∈ ch, (b ∈ X.ex ∨ X.s₀.heap.objs.size ≤ b) ∧ b ≠ X.env.locals ∧ (∀ x c, X.env.cells.lookup x = some c → c ≠ b) ∧ ∀ p ∈ X.pn ++ pins, p.1 ≠ b) : Inv X pins σ H' s' := by
  obtain ⟨h', g', d', t', o'⟩ := s'
  have e : o' = s.os := ho
  subst e
  exact I.call (g' := g') (t' := t') (d' := d') u hok hg hch
end

/-! ### the judgements -/
/-- an exception: its class, its own dict's address (where it has one), the abstract heap behind it -/
abbrev XK := Value → Option Addr → Hp → Prop
abbrev St := List (Option V)
abbrev VK := V → Hp → Prop
/-- an expression's reading; a test's; an argument list's -/
abbrev TE := St → Hp → VK → Prop
abbrev TT := St → Hp → (Bool → Hp → Prop) → Prop
abbrev TA := St → Hp → (List V → Hp → Prop) → Prop
/-- what is wanted behind a statement -/
structure Ends where
  nx : St → Hp → Prop
  rt : VK
  bk : St → Hp → Prop := fun _ _ => False
  ct : St → Hp → Prop := fun _ _ => False
abbrev TS := Ends → St → Hp → Prop

def EP (X : Cx) (pins : List (Addr × Obj)) (σ : St) (Q : VK) (u : Value) (s' : Shared) : Prop := ∃ v H', Inv X pins σ H' s' ∧ RelV v u ∧ Q v H'
def TP (X : Cx) (pins : List (Addr × Obj)) (σ : St) (Q : Bool → Hp → Prop) (b : Bool) (s' : Shared) : Prop := ∃ H', Inv X pins σ H' s' ∧ Q b H'
def AP (X : Cx) (pins : List (Addr × Obj)) (σ : St) (Q : List V → Hp → Prop) (us : List Value) (s' : Shared) : Prop := ∃ vs H', Inv X pins σ H' s' ∧ Vals vs us ∧ Q vs H'
def SP (X : Cx) (pins : List (Addr × Obj)) (D : Ends) (f : Flow) (s' : Shared) : Prop :=
  match f with
  | .next => ∃ σ' H', Inv X pins σ' H' s' ∧ D.nx σ' H'
  | .brk => ∃ σ' H', Inv X pins σ' H' s' ∧ D.bk σ' H'
  | .cont => ∃ σ' H', Inv X pins σ' H' s' ∧ D.ct σ' H'
  | .ret u => ∃ v σ' H', Inv X pins σ' H' s' ∧ RelV v u ∧ D.rt v H'

def PE (X : Cx) (e : Expr) (t : TE) : Prop :=
  ∀ (pins : List (Addr × Obj)) (s : Shared) (σ : St) (H : Hp) (Q : VK), Inv X pins σ H s → t σ H Q → wpAny (model X.prog X.w) X.A (eval e X.env) (EP X pins σ Q) X.xe s
def PT (X : Cx) (e : Expr) (t : TT) : Prop :=
  ∀ (pins : List (Addr × Obj)) (s : Shared) (σ : St) (H : Hp) (Q : Bool → Hp → Prop), Inv X pins σ H s → t σ H Q → wpAny (model X.prog X.w) X.A (isTrue e X.env (eval e X.env)) (TP X pins σ Q) X.xe s
/-- a test whatever its 'whole' is (and, or) -/
def PW (X : Cx) (e : Expr) (t : TT) : Prop :=
  ∀ (whole : Sem Value) (pins : List (Addr × Obj)) (s : Shared) (σ : St) (H : Hp) (Q : Bool → Hp → Prop), Inv X pins σ H s → t σ H Q → wpAny (model X.prog X.w) X.A (isTrue e X.env whole) (TP X pins σ Q) X.xe s
theorem PW.pt {X : Cx} {e : Expr} {t : TT} (h : PW X e t) : PT X e t := h _
/-- an argument list (no star), from the left -/
def PA (X : Cx) (es : List Expr) (t : TA) : Prop :=
  ∀ (pos : Pos) (pins : List (Addr × Obj)) (s : Shared) (σ : St) (H : Hp) (Q : List V → Hp → Prop), Inv X pins σ H s → t σ H Q → wpAny (model X.prog X.w) X.A (spliced (backTo pos (starEach es X.env))) (AP X pins σ Q) X.xe s
def PS (X : Cx) (st : Stmt) (t : TS) : Prop :=
  ∀ (pins : List (Addr × Obj)) (s : Shared) (σ : St) (H : Hp) (D : Ends), Inv X pins σ H s → t D σ H → wpAny (model X.prog X.w) X.A (exec st X.env) (SP X pins D) X.xe s
def PSs (X : Cx) (st : List Stmt) (t : TS) : Prop :=
  ∀ (pins : List (Addr × Obj)) (s : Shared) (σ : St) (H : Hp) (D : Ends), Inv X pins σ H s → t D σ H → wpAny (model X.prog X.w) X.A (execs st X.env) (SP X pins D) X.xe s
/-- weaken the end -/
theorem thn {α : Type} {t : Sem α} {Q Q' : α → Shared → Prop} {M : Model} {A : Around} {E : Value → Shared → Prop} {s : Shared} (h : wpAny M A t Q E s) (hQ : ∀ a s, Q a s → Q' a s) : wpAny M A t Q' E s := wpAny_mono h hQ fun _ _ x => x
end L2

namespace L2
open PySem PySem.Spec PyProof.Rows
section
variable {X : Cx}

/-! ### names and constants -/
def tVar (i : Nat) : TE := fun σ H Q => ∃ v, σ[i]? = some (some v) ∧ Q v H
def tC (v : V) : TE := fun _ H Q => Q v H
theorem pe_var {i : Nat} {x : Str} {pos : Pos} (hN : X.N[i]? = some x) (hv : Vis X.env.scope x) (hd : (x == ("__debug__" : Str)) = false := by decide) (hcd : (x == ("__classdict__" : Str)) = false := by decide) : PE X (.Name x pos) (tVar i) := by
  intro pins s σ H Q I h
  obtain ⟨v, e, h⟩ := h
  obtain ⟨m, hn, hl⟩ := I.loc
  obtain ⟨u, r, l⟩ := hl i x v hN e hv
  have fin : EP X pins σ Q u s := ⟨v, H, I, r, h⟩
  rcases l with ⟨hk, hm⟩ | ⟨hk, c, hc, hcell⟩
  · exact wpAny_Name (wpAny_loadName_local I.ok.kind hk hn hm fin) hd
  · rcases hk with hk | hk
    · exact wpAny_Name (wpAny_loadName_cell I.ok.kind hk hc hcell fin) hd
    · exact wpAny_Name (wpAny_loadName_free I.ok.kind hk hc hcell fin hcd) hd
theorem pe_int {i j pos} : PE X (.Constant (.int i) j pos) (tC (.int i)) := fun _ _ _ H _ I h => wpAny_Constant_int ⟨.int i, H, I.tok _, ⟨_, rfl⟩, h⟩
theorem pe_bl {b j pos} : PE X (.Constant (.bool b) j pos) (tC (.bl b)) := fun _ _ _ H _ I h => Constant_bool ⟨.bl b, H, I, rfl, h⟩
theorem pe_non {j pos} : PE X (.Constant .none j pos) (tC .non) := fun _ _ _ H _ I h => Constant_none ⟨.non, H, I, rfl, h⟩
theorem pe_str {x j pos} : PE X (.Constant (.str x) j pos) (tC (.str x)) := fun _ _ _ H _ I h => Calls.Constant_str ⟨.str x, H, I.tok _, ⟨_, rfl⟩, h⟩

/-- a global name of the def -/
def Gl (X : Cx) (x : Str) : Prop := X.env.kindOf x = some .globalImplicit
theorem ld_glob {E : Value → Shared → Prop} {pins : List (Addr × Obj)} {s : Shared} {σ : St} {H : Hp} {x : Str} {u : Value} {pos : Pos} {Q : Value → Shared → Prop} (I : Inv X pins σ H s) (hg : Gl X x) (hm : X.mg x = some u) (h : Q u s)
    (hd : (x == ("__debug__" : Str)) = false := by decide) : wpAny (model X.prog X.w) X.A (eval (.Name x pos) X.env) Q E s :=
  Calls.Name_function_global I.ok.kind hg (Calls.loadGlobal_global (by rw [I.ok.glob]; exact I.mod.glob.keeps I.bk) hm h) hd
theorem ld_blt {E : Value → Shared → Prop} {pins : List (Addr × Obj)} {s : Shared} {σ : St} {H : Hp} {x : Str} {u : Value} {pos : Pos} {Q : Value → Shared → Prop} (I : Inv X pins σ H s) (hg : Gl X x) (hm : X.mg x = none) (hv : bootBuiltins x = some u) (h : Q u s)
    (hn : x ≠ "__name__" := by decide) (hd : (x == ("__debug__" : Str)) = false := by decide) : wpAny (model X.prog X.w) X.A (eval (.Name x pos) X.env) Q E s := by
  obtain ⟨mb, h1, h2⟩ := I.mod.blt
  exact Calls.Name_function_global I.ok.kind hg (Calls.loadGlobal_builtin (by rw [I.ok.glob]; exact I.mod.glob.keeps I.bk) hm (by rw [I.ok.blt]; exact h1.keeps I.bk) ((h2 x hn).trans hv) h) hd
/-- a module's constant, a class, a function, as a value -/
theorem pe_glob {x : Str} {v : V} {u : Value} {pos : Pos} (hg : Gl X x) (hm : X.mg x = some u) (r : RelV v u) (hd : (x == ("__debug__" : Str)) = false := by decide) : PE X (.Name x pos) (tC v) :=
  fun _ _ _ H _ I h => ld_glob I hg hm ⟨v, H, I, r, h⟩ hd
theorem pe_bltn {x : Str} {v : V} {u : Value} {pos : Pos} (hg : Gl X x) (hm : X.mg x = none) (hv : bootBuiltins x = some u) (r : RelV v u) (hn : x ≠ "__name__" := by decide) (hd : (x == ("__debug__" : Str)) = false := by decide) : PE X (.Name x pos) (tC v) :=
  fun _ _ _ H _ I h => ld_blt I hg hm hv ⟨v, H, I, r, h⟩ hn hd

/-! ### arithmetic -/
variable {a b : Expr} {ta tb : TE} {pos : Pos}
/-! ### comparisons -/
def PC (X : Cx) (op : CmpOp) (a b : Expr) (t : TE) : Prop :=
  ∀ (pins : List (Addr × Obj)) (s : Shared) (σ : St) (H : Hp) (Q : VK), Inv X pins σ H s → t σ H Q →
    wpAny (model X.prog X.w) X.A (eval a X.env) (fun v s₁ => wpAny (model X.prog X.w) X.A (eval b X.env) (fun u s₂ => wpAny (model X.prog X.w) X.A (compareOp op v u) (EP X pins σ Q) X.xe s₂) X.xe s₁) X.xe s
theorem nobehind (b : Expr) {op : CmpOp} (h : op ≠ .In) (h2 : op ≠ .NotIn) : behindInMarks op b = false := by
  have e1 : (op == CmpOp.In) = false := by cases op <;> first | rfl | exact absurd rfl h
  have e2 : (op == CmpOp.NotIn) = false := by cases op <;> first | rfl | exact absurd rfl h2
  cases b <;> simp [behindInMarks, e1, e2]
/-- a comparison as a value, as a test -/
def tB (t : TE) : TT := fun σ H Q => t σ H fun x H1 => ∃ c, x = .bl c ∧ Q c H1
theorem pt_cmp {op : CmpOp} {t : TE} (h : PC X op a b t) (h1 : behindInMarks op b = false := by first | exact nobehind _ (by decide) (by decide) | rfl) : PT X (.Compare a [op] [b] pos) (tB t) := by
  intro pins s σ H Q I hw
  refine wpAny_isTrue_Compare1 (thn (h pins s σ H _ I hw) fun v s1 h1 => thn h1 fun u s2 h2 => thn h2 fun c s3 ⟨x, H1, I1, r1, q1⟩ => ?_) h1
  obtain ⟨d, rfl, q⟩ := q1
  cases r1
  exact wpAny_truthy_bool ⟨H1, I1, q⟩
/-! ### and, or, not -/
variable {tA tB' : TT} {rest : List Expr}
def tAnd (t u : TT) : TT := fun σ H Q => t σ H fun c H1 => if c = true then u σ H1 Q else Q false H1
def tOr (t u : TT) : TT := fun σ H Q => t σ H fun c H1 => if c = true then Q true H1 else u σ H1 Q
def tNot (t : TT) : TT := fun σ H Q => t σ H fun c H1 => Q (!c) H1
theorem pw_and1 (ha : PT X a tA) : PW X (.BoolOp .And [a] pos) tA := by
  intro wh pins s σ H Q I h
  refine isTrue_and (thn (ha pins s σ H Q I h) fun c s1 e => ?_)
  cases c with
  | true => exact isTrue_and_nil e
  | false => exact e
theorem pw_or1 (ha : PT X a tA) : PW X (.BoolOp .Or [a] pos) tA := by
  intro wh pins s σ H Q I h
  refine isTrue_or (thn (ha pins s σ H Q I h) fun c s1 e => ?_)
  cases c with
  | false => exact isTrue_or_nil e
  | true => exact e
theorem pw_and (ha : PT X a tA) (hb : PW X (.BoolOp .And (b :: rest) pos) tB') : PW X (.BoolOp .And (a :: b :: rest) pos) (tAnd tA tB') := by
  intro wh pins s σ H Q I h
  refine isTrue_and (thn (ha pins s σ H _ I h) fun c s1 ⟨H1, I1, q1⟩ => ?_)
  cases c with
  | true => exact hb wh pins s1 σ H1 Q I1 q1
  | false => exact ⟨H1, I1, q1⟩
theorem pw_or (ha : PT X a tA) (hb : PW X (.BoolOp .Or (b :: rest) pos) tB') : PW X (.BoolOp .Or (a :: b :: rest) pos) (tOr tA tB') := by
  intro wh pins s σ H Q I h
  refine isTrue_or (thn (ha pins s σ H _ I h) fun c s1 ⟨H1, I1, q1⟩ => ?_)
  cases c with
  | true => exact ⟨H1, I1, q1⟩
  | false => exact hb wh pins s1 σ H1 Q I1 q1
theorem pt_not (ha : PT X a tA) : PT X (.UnaryOp .Not a pos) (tNot tA) := by
  intro pins s σ H Q I h
  exact isTrue_not (ha pins s σ H (fun c H1 => Q (!c) H1) I h)
/-- .. as values (bools) -/
def tAndV (ta tb : TE) : TE := fun σ H Q => ta σ H fun x H1 => ∃ c, x = .bl c ∧ if c = true then tb σ H1 Q else Q (.bl false) H1
def tOrV (ta tb : TE) : TE := fun σ H Q => ta σ H fun x H1 => ∃ c, x = .bl c ∧ if c = true then Q (.bl true) H1 else tb σ H1 Q
def tNotV (ta : TE) : TE := fun σ H Q => ta σ H fun x H1 => ∃ c, x = .bl c ∧ Q (.bl (!c)) H1
theorem pe_not (ha : PE X a ta) : PE X (.UnaryOp .Not a pos) (tNotV ta) := by
  intro pins s σ H Q I h
  refine UnaryOp_ (thn (ha pins s σ H _ I h) fun v s1 ⟨x, H1, I1, r1, q1⟩ => ?_)
  obtain ⟨c, rfl, q1⟩ := q1
  cases r1
  exact not_of (wpAny_truthy_bool ⟨.bl (!c), H1, I1, rfl, q1⟩)
/-- a if t else b -/
def tIf (t : TT) (ta tb : TE) : TE := fun σ H Q => t σ H fun c H1 => if c = true then ta σ H1 Q else tb σ H1 Q
theorem pe_ifExp {c : Expr} (hc : PT X c tA) (ha : PE X a ta) (hb : PE X b tb) : PE X (.IfExp c a b pos) (tIf tA ta tb) := by
  intro pins s σ H Q I h
  refine wpAny_IfExp (thn (hc pins s σ H _ I h) fun d s1 ⟨H1, I1, q1⟩ => ?_)
  cases d with
  | true => exact ha pins s1 σ H1 Q I1 q1
  | false => exact hb pins s1 σ H1 Q I1 q1
end
end L2

namespace L2
open PySem PySem.Spec PyProof.Rows

/-! ### a list, a tuple that is read: tracked, frozen, or an object of the module -/
def SqL (K : PySem.W.Frag) (H : Hp) (a : Addr) (xs : List V) : Prop :=
  Rd H a (.lst xs) ∨
    ∃ (o : Obj) (its : Array Value) (n : Nat), K.lookup a = some o ∧ o.cls = .type "list" ∧ o.dict = none ∧ o.data = .seq its n ∧ its.size ≤ sizeLine ∧ Vals xs its.toList
def SqT (K : PySem.W.Frag) (H : Hp) (a : Addr) (xs : List V) : Prop :=
  Rd H a (.tup xs) ∨
    ∃ (o : Obj) (its : Array Value) (n : Nat), K.lookup a = some o ∧ o.cls = .type "tuple" ∧ o.data = .seq its n ∧ its.size ≤ sizeLine ∧ Vals xs its.toList
def absV : Value → Option V
  | .none => some .non
  | .bool b => some (.bl b)
  | .int i _ => some (.int i)
  | .str x _ => some (.str x)
  | .bytes b _ => some (.byt b)
  | .float b _ => some (.flt b)
  | .ref a => some (.ref a)
  | .type n => some (.ty n)
  | _ => none
theorem RelV.abs {x : V} {u : Value} (r : RelV x u) : absV u = some x := by
  cases x with
  | non => cases r; rfl
  | bl _ => cases r; rfl
  | int _ => obtain ⟨t, rfl⟩ := r; rfl
  | str _ => obtain ⟨t, rfl⟩ := r; rfl
  | byt _ => obtain ⟨t, rfl⟩ := r; rfl
  | flt _ => obtain ⟨t, rfl⟩ := r; rfl
  | ref _ => cases r; rfl
  | ty _ => cases r; rfl
theorem RelV.inj {x y : V} {u : Value} (r : RelV x u) (q : RelV y u) : x = y := Option.some.inj (r.abs.symm.trans q.abs)
theorem Vals.inj : ∀ {xs ys : List V} {us : List Value}, Vals xs us → Vals ys us → xs = ys
  | _, _, _, .nil, .nil => rfl
  | _, _, _, .cons r t, .cons r' t' => by rw [r.inj r', Vals.inj t t']
section
variable {X : Cx} {pins : List (Addr × Obj)} {σ : St} {H : Hp} {s : Shared} {a : Addr} {xs ys : List V}
theorem SqL.of {K : PySem.W.Frag} (h : H a = some (.lst xs)) : SqL K H a xs := .inl (.inl h)
theorem SqT.of {K : PySem.W.Frag} (h : H a = some (.tup xs)) : SqT K H a xs := .inl (.inl h)
theorem Inv.list (I : Inv X pins σ H s) (h : SqL X.K H a xs) : ∃ its : List Value, Vals xs its ∧ PlainL s.heap a its.toArray ∧ xs.length ≤ sizeLine := by
  rcases h with h | ⟨o, its, n, hk, hc, hd, hs, hz, r⟩
  · obtain ⟨z, its, n, r, e⟩ := h.ok I.hok
    exact ⟨its, r, ⟨_, n, e, rfl, rfl, rfl⟩, z⟩
  · refine ⟨its.toList, r, ⟨o, n, I.kIn a o hk, hc, hd, by simpa using hs⟩, ?_⟩
    have e := r.length
    simp only [Array.length_toList] at e
    (first | lia | omega)
theorem Inv.tuple (I : Inv X pins σ H s) (h : SqT X.K H a xs) : ∃ its : List Value, Vals xs its ∧ IsTup s.heap a its.toArray ∧ xs.length ≤ sizeLine := by
  rcases h with h | ⟨o, its, n, hk, hc, hs, hz, r⟩
  · obtain ⟨z, its, r, p⟩ := h.ok I.hok
    exact ⟨its, r, p, z⟩
  · refine ⟨its.toList, r, ⟨o, I.kIn a o hk, hc, n, by simpa using hs⟩, ?_⟩
    have e := r.length
    simp only [Array.length_toList] at e
    (first | lia | omega)
theorem Inv.list_inj (I : Inv X pins σ H s) (h : SqL X.K H a xs) (h' : SqL X.K H a ys) : xs = ys := by
  obtain ⟨its, r, ⟨o, n, e, _, _, d⟩, _⟩ := I.list h
  obtain ⟨its', r', ⟨o', n', e', _, _, d'⟩, _⟩ := I.list h'
  rw [e] at e'; cases e'
  rw [d] at d'
  injection d' with d1 _
  have : its = its' := by simpa using congrArg Array.toList d1
  subst this
  exact r.inj r'
theorem Inv.tuple_inj (I : Inv X pins σ H s) (h : SqT X.K H a xs) (h' : SqT X.K H a ys) : xs = ys := by
  obtain ⟨its, r, ⟨o, e, _, n, d⟩, _⟩ := I.tuple h
  obtain ⟨its', r', ⟨o', e', _, n', d'⟩, _⟩ := I.tuple h'
  rw [e] at e'; cases e'
  rw [d] at d'
  injection d' with d1 _
  have : its = its' := by simpa using congrArg Array.toList d1
  subst this
  exact r.inj r'
end

/-! ### another wish about exceptions -/
abbrev Cx.wish (X : Cx) (E : Value → Shared → Prop) : Cx := { X with xe := E }
/-- no exception leaves -/
abbrev Cx.nox (X : Cx) : Cx := X.wish fun _ _ => False
theorem Cx.Ok.wish {X : Cx} (ok : X.Ok) (E : Value → Shared → Prop) : (X.wish E).Ok :=
  ⟨ok.mod, ok.kind, ok.glob, ok.blt, ok.above, ok.inj, ok.has, ok.cab, ok.hd, ok.frames, ok.stk, ok.exf, ok.bs, ok.bsz, ok.noex, ok.exfs, ok.funs, ok.frf⟩
theorem Cx.Ok.unwish {X : Cx} {E : Value → Shared → Prop} (ok : (X.wish E).Ok) : X.Ok :=
  ⟨ok.mod, ok.kind, ok.glob, ok.blt, ok.above, ok.inj, ok.has, ok.cab, ok.hd, ok.frames, ok.stk, ok.exf, ok.bs, ok.bsz, ok.noex, ok.exfs, ok.funs, ok.frf⟩
section
variable {X : Cx} {pins : List (Addr × Obj)} {σ : St} {H : Hp} {s : Shared} {E : Value → Shared → Prop}
theorem Inv.wish (I : Inv X pins σ H s) (E : Value → Shared → Prop) : Inv (X.wish E) pins σ H s := ⟨I.ok.wish E, I.os, I.bare, I.base, I.loc, I.cell, I.free, I.freeC, I.pin, I.hok, I.len⟩
theorem Inv.unwish (I : Inv (X.wish E) pins σ H s) : Inv X pins σ H s := ⟨I.ok.unwish, I.os, I.bare, I.base, I.loc, I.cell, I.free, I.freeC, I.pin, I.hok, I.len⟩
theorem SP.unwish {D : Ends} {f : Flow} {s' : Shared} (h : SP (X.wish E) pins D f s') : SP X pins D f s' := by
  cases f with
  | next => obtain ⟨σ', H', I, q⟩ := h; exact ⟨σ', H', I.unwish, q⟩
  | brk => obtain ⟨σ', H', I, q⟩ := h; exact ⟨σ', H', I.unwish, q⟩
  | cont => obtain ⟨σ', H', I, q⟩ := h; exact ⟨σ', H', I.unwish, q⟩
  | ret u => obtain ⟨v, σ', H', I, r, q⟩ := h; exact ⟨v, σ', H', I.unwish, r, q⟩
theorem PE.nox {e : Expr} {t : TE} (h : PE X.nox e t) : PE X e t := fun pins s σ H Q I hw =>
  wpAny_mono (h pins s σ H Q (I.wish _) hw) (fun _ _ ⟨v, H', I', r, q⟩ => ⟨v, H', I'.unwish, r, q⟩) fun _ _ z => False.elim z
theorem PT.nox {e : Expr} {t : TT} (h : PT X.nox e t) : PT X e t := fun pins s σ H Q I hw =>
  wpAny_mono (h pins s σ H Q (I.wish _) hw) (fun _ _ ⟨H', I', q⟩ => ⟨H', I'.unwish, q⟩) fun _ _ z => False.elim z
theorem PSs.nox {st : List Stmt} {t : TS} (h : PSs X.nox st t) : PSs X st t := fun pins s σ H D I hw =>
  wpAny_mono (h pins s σ H D (I.wish _) hw) (fun _ _ q => q.unwish) fun _ _ z => False.elim z
end

/-! ### blocks and small statements -/
section
variable {X : Cx} {st : Stmt} {rest : List Stmt} {t u : TS} {e : Expr} {te : TE} {pos : Pos}
def tNext : TS := fun D σ H => D.nx σ H
def tSeq (t u : TS) : TS := fun D σ H => t { D with nx := u D } σ H
theorem pss_nil : PSs X [] tNext := fun _ _ σ H _ I h => wpAny_execs_nil ⟨σ, H, I, h⟩
theorem pss_cons (h1 : PS X st t) (h2 : PSs X rest u) : PSs X (st :: rest) (tSeq t u) := by
  intro pins s σ H D I h
  refine wpAny_execs_cons (thn (h1 pins s σ H { D with nx := u D } I h) fun f s1 q => ?_)
  cases f with
  | next =>
    obtain ⟨σ', H', I', q⟩ := q
    exact h2 pins s1 σ' H' D I' q
  | ret v => exact q
  | brk => exact q
  | cont => exact q
theorem pss_one (h1 : PS X st t) : PSs X [st] t := by
  intro pins s σ H D I h
  refine wpAny_execs_cons (thn (h1 pins s σ H D I h) fun f s1 q => ?_)
  cases f with
  | next => exact wpAny_execs_nil q
  | ret v => exact q
  | brk => exact q
  | cont => exact q
def tBreak : TS := fun D σ H => D.bk σ H
def tCont : TS := fun D σ H => D.ct σ H
/-- in a def's body nothing is shown -/
theorem Inv.quiet {pins : List (Addr × Obj)} {σ : St} {H : Hp} {s : Shared} (I : Inv X pins σ H s) : interactive X.env = false := by simp [interactive, I.ok.kind]
/-- an expression whose value is dropped -/
def tDrop (te : TE) : TS := fun D σ H => te σ H fun _ H1 => D.nx σ H1
theorem ps_expr (he : PE X e te) (hs : swapsWith e none pos.line X.env = pure false := by rfl) : PS X (.Expr e pos) (tDrop te) := by
  intro pins s σ H D I h
  exact wpAny_Expr_any (thn (he pins s σ H _ I h) fun v s1 ⟨x, H1, I1, r1, q1⟩ => ⟨σ, H1, I1, q1⟩) I.quiet hs
def tRet (te : TE) : TS := fun D σ H => te σ H D.rt
theorem ps_ret (he : PE X e te) : PS X (.Return (some e) pos) (tRet te) := by
  intro pins s σ H D I h
  exact wpAny_Return_some (thn (he pins s σ H _ I h) fun v s1 ⟨x, H1, I1, r1, q1⟩ => ⟨x, σ, H1, I1, r1, q1⟩)
def tRetN : TS := fun D _ H => D.rt .non H
def tIfS (c : TT) (t u : TS) : TS := fun D σ H => c σ H fun b H1 => if b = true then t D σ H1 else u D σ H1
theorem ps_if {c : Expr} {a b : List Stmt} {tc : TT} (hc : PT X c tc) (ha : PSs X a t) (hb : PSs X b u) : PS X (.If c a b pos) (tIfS tc t u) := by
  intro pins s σ H D I h
  refine wpAny_If (thn (hc pins s σ H _ I h) fun d s1 ⟨H1, I1, q1⟩ => ?_)
  cases d with
  | true => exact ha pins s1 σ H1 D I1 q1
  | false => exact hb pins s1 σ H1 D I1 q1
/-- code that the proof never comes to -/
def tNever : TS := fun _ _ _ => False
end

/-! ### targets -/
abbrev TG := V → St → Hp → (St → Hp → Prop) → Prop
abbrev TGs := List V → St → Hp → (St → Hp → Prop) → Prop
def PG (X : Cx) (target : Expr) (t : TG) : Prop :=
  ∀ (pins : List (Addr × Obj)) (s : Shared) (σ : St) (H : Hp) (v : V) (u : Value) (Q : St → Hp → Prop), Inv X pins σ H s → RelV v u → t v σ H Q →
    wpAny (model X.prog X.w) X.A (assign target X.env u) (fun _ s' => ∃ σ' H', Inv X pins σ' H' s' ∧ Q σ' H') X.xe s
/-- several targets, one after another -/
def PGs (X : Cx) (ts : List Expr) (t : TGs) : Prop :=
  ∀ (pins : List (Addr × Obj)) (s : Shared) (σ : St) (H : Hp) (vs : List V) (us : List Value) (Q : St → Hp → Prop), Inv X pins σ H s → Vals vs us → t vs σ H Q →
    wpAny (model X.prog X.w) X.A (assignInOrder ((assignEach ts X.env).map (·.2)) us) (fun _ s' => ∃ σ' H', Inv X pins σ' H' s' ∧ Q σ' H') X.xe s
/-- o[i] = v, by values -/
abbrev TSet := V → V → V → Hp → (Hp → Prop) → Prop
def PSet (X : Cx) (t : TSet) : Prop :=
  ∀ (pins : List (Addr × Obj)) (s : Shared) (σ : St) (H : Hp) (o i v : V) (ov iv u : Value) (Q : Hp → Prop), Inv X pins σ H s → RelV o ov → RelV i iv → RelV v u → t o i v H Q →
    wpAny (model X.prog X.w) X.A (setItem ov iv u) (fun _ s' => ∃ H', Inv X pins σ H' s' ∧ Q H') X.xe s
section
variable {X : Cx} {pos : Pos}
def gName (i : Nat) : TG := fun v σ H Q => Q (σ.set i (some v)) H
theorem pg_name {i : Nat} {x : Str} (hN : X.N.Nodup) (hi : X.N[i]? = some x) (hx : Loc X.env.scope x) (hf : X.fn x = true ∨ X.env.scope.names.lookup x = some .local := by first | exact .inl rfl | exact .inr rfl | assumption) : PG X (.Name x pos) (gName i) := by
  intro pins s σ H v u Q I r h
  exact wpAny_assign_Name (store_ok I hN hi hx r (fun s' I' => ⟨_, H, I', h⟩) hf)
def gNil : TGs := fun vs σ H Q => vs = [] ∧ Q σ H
def gCons (t : TG) (u : TGs) : TGs := fun vs σ H Q => ∃ v r, vs = v :: r ∧ t v σ H fun σ' H' => u r σ' H' Q
theorem pgs_nil : PGs X [] gNil := by
  intro pins s σ H vs us Q I r h
  obtain ⟨e, h⟩ := h
  subst e
  cases r
  exact assignInOrder_nil ⟨σ, H, I, h⟩
theorem pgs_cons {e : Expr} {es : List Expr} {t : TG} {u : TGs} (h1 : PG X e t) (h2 : PGs X es u)
    (hs : (assignEach (e :: es) X.env).map (·.2) = assign e X.env :: (assignEach es X.env).map (·.2) := by rfl) : PGs X (e :: es) (gCons t u) := by
  intro pins s σ H vs us Q I r h
  obtain ⟨v, vr, e1, h⟩ := h
  subst e1
  cases r with
  | cons r rr =>
    rw [hs]
    refine assignInOrder_cons (thn (h1 pins s σ H _ _ _ I r h) fun _ s1 ⟨σ1, H1, I1, q1⟩ => ?_)
    exact h2 pins s1 σ1 H1 _ _ Q I1 rr q1
/-- (a, b, ..) = a tuple of that length -/
def gTup (K : PySem.W.Frag) (n : Nat) (t : TGs) : TG := fun v σ H Q => ∃ a xs, v = .ref a ∧ SqT K H a xs ∧ xs.length = n ∧ t xs σ H Q
theorem pg_tup {es : List Expr} {k : Nat} {t : TGs} {n : Nat} (hc : X.calm = true) (h : PGs X es t)
    (hn : (assignEach es X.env).length = n := by rfl) (hst : (assignEach es X.env).findIdx? (·.1) = none := by rfl) : PG X (.Tuple es k pos) (gTup X.K n t) := by
  intro pins s σ H v u Q I r hw
  obtain ⟨a, xs, e1, hq, hl, hw⟩ := hw
  subst e1
  cases r
  obtain ⟨its, rv, ht, hz⟩ := I.tuple hq
  refine assign_Tuple_tuple (I.ok.hd hc) ht (by simp [hn, ← hl, rv.length]) hst fun h' hx => ?_
  have I1 : Inv X pins σ H { s with heap := h' } := I.kept (t' := s.toks) fun b o e => hx b o (Nat.ne_of_lt (Heap.lt_size e)) e
  exact h pins _ σ H xs _ Q I1 (by simpa using rv) hw
/-- o[i] = .. -/
def gSub (to ti : TE) (t : TSet) : TG := fun v σ H Q => to σ H fun o H1 => ti σ H1 fun i H2 => t o i v H2 fun H3 => Q σ H3
theorem pg_sub {o i : Expr} {to ti : TE} {t : TSet} (ho : PE X o to) (hi : PE X i ti) (hs : PSet X t)
    (ha : ∀ v, assign (.Subscript o i pos) X.env v = (do
      let ov ← holding [v] (eval o X.env)
      let iv ← holding [v, ov] (eval i X.env)
      standAt pos
      holding [v, ov, iv] (setItem ov iv v)
      release [v, ov, iv] []) := by intro _; rfl) : PG X (.Subscript o i pos) (gSub to ti t) := by
  intro pins s σ H v u Q I r h
  rw [ha]
  refine wpAny_bind (wpAny_holding (thn (ho pins s σ H _ I h) fun ov s1 ⟨x, H1, I1, r1, q1⟩ => ?_))
  refine wpAny_bind (wpAny_holding (thn (hi pins s1 σ H1 _ I1 q1) fun iv s2 ⟨y, H2, I2, r2, q2⟩ => ?_))
  refine wpAny_bind (wpAny_standAt (wpAny_bind (wpAny_holding (thn (hs pins s2 σ H2 x y v ov iv u _ I2 r1 r2 r q2) fun _ s3 ⟨H3, I3, q3⟩ => ?_))))
  exact wpAny_release ⟨σ, H3, I3, q3⟩
/-- target = value -/
def tAsg (te : TE) (g : TG) : TS := fun D σ H => te σ H fun x H1 => g x σ H1 D.nx
theorem ps_asg {tg e : Expr} {te : TE} {g : TG} (he : PE X e te) (hg : PG X tg g) (hs : swapsWithSole [tg] e pos.line X.env = pure false := by rfl) (hw : swappedStores [tg] e X.env = pure none := by rfl)
    (h1 : (assignEach [tg] X.env).map (·.2) = [assign tg X.env] := by rfl) : PS X (.Assign [tg] e pos) (tAsg te g) := by
  intro pins s σ H D I h
  refine wpAny_Assign_stores (thn (he pins s σ H _ I h) fun v s1 ⟨x, H1, I1, r1, q1⟩ => ?_) hs hw
  rw [h1]
  exact thn (hg pins s1 σ H1 x v _ I1 r1 q1) fun _ s2 q => q
/-- name = value -/
theorem ps_set {i : Nat} {x : Str} {e : Expr} {te : TE} {pos' : Pos} (hN : X.N.Nodup) (hi : X.N[i]? = some x) (hx : Loc X.env.scope x) (he : PE X e te) (hs : swapsWith e (some (.Name x pos')) pos.line X.env = pure false := by rfl) (hf : X.fn x = true ∨ X.env.scope.names.lookup x = some .local := by first | exact .inl rfl | exact .inr rfl | assumption) :
    PS X (.Assign [.Name x pos'] e pos) (tAsg te (gName i)) := by
  intro pins s σ H D I h
  refine wpAny_Assign_Name (thn (he pins s σ H _ I h) fun v s1 ⟨y, H1, I1, r1, q1⟩ => ?_) hs
  exact store_ok I1 hN hi hx r1 (fun s2 I2 => ⟨_, H1, I2, q1⟩) hf
end

/-! ### while -/
section
variable {X : Cx} {pos : Pos}
end

/-! ### what a loop or a comprehension walks -/
/-- at turn i: it yields x (the heap may grow), or it stops -/
structure It where
  go : Nat → Hp → Prop
  yld : Nat → Hp → V → Hp → Prop
  stop : Nat → Hp → Prop
/-- the iterator's own objects may turn: they are not the frame's, not pinned, younger than the entry (or a comprehension's own) -/
def FpOk (X : Cx) (pins : List (Addr × Obj)) (H : Hp) (b : Addr) : Prop :=
  H b = none ∧ b ≠ X.env.locals ∧ b ∉ X.fs ∧ (b ∈ X.ex ∨ X.s₀.heap.objs.size ≤ b) ∧ (∀ x c, X.env.cells.lookup x = some c → c ≠ b) ∧ ∀ p ∈ X.pn ++ pins, p.1 ≠ b
theorem Inv.fpOk {X : Cx} {pins : List (Addr × Obj)} {σ : St} {H H' : Hp} {s : Shared} {b : Addr} (I : Inv X pins σ H s) (hb : s.heap.objs.size ≤ b) (hn : H' b = none) : FpOk X pins H' b := by
  refine ⟨hn, Nat.ne_of_gt (Nat.lt_of_lt_of_le I.lt hb), I.nofs hb, .inr (Nat.le_trans I.sz hb), fun x c e z => ?_, fun p hp z => ?_⟩
  · obtain ⟨v, q⟩ := I.cell x c e
    exact absurd (Nat.lt_of_lt_of_le q.lt (by rw [z]; exact hb)) (Nat.lt_irrefl _)
  · exact absurd (Nat.lt_of_lt_of_le (Heap.lt_size (I.pin p hp).1) (by rw [z]; exact hb)) (Nat.lt_irrefl _)
structure Turn (P : Program) (w : World) (K : PySem.W.Frag) (tg : Expr) (J : It) (fp : List Addr) (it : Addr) (tn : Nat → Heap → Prop) : Prop where
  mem : it ∈ fp
  obj : ∀ i h, tn i h → ∀ b ∈ fp, ∃ o, h.get? b = some o ∧ ∀ v, o.data ≠ .cell v
  keep : ∀ i h h', tn i h → (∀ b ∈ fp, ∀ o, h.get? b = some o → h'.get? b = some o) → tn i h'
  item : ∀ (X : Cx), X.prog = P → X.w = w → X.K = K → X.calm = true → ∀ (i : Nat) (pins : List (Addr × Obj)) (s : Shared) (σ : St) (H : Hp) (E : Value → Shared → Prop), Inv X pins σ H s → (∀ b ∈ fp, FpOk X pins H b) → tn i s.heap → J.go i H →
    wpAny (model P w) X.A (pyNext (.ref it)) (fun r s1 => ∃ u, r = some u ∧
      wpAny (model P w) X.A (letOwnedTupleGo tg (.ref it) u) (fun _ s2 => ∃ x H', Inv X pins σ H' s2 ∧ RelV x u ∧ J.yld i H x H' ∧ tn (i + 1) s2.heap ∧ ∀ b ∈ fp, H' b = none) E s1) E s
  done : ∀ (X : Cx), X.prog = P → X.w = w → X.K = K → X.calm = true → ∀ (i : Nat) (pins : List (Addr × Obj)) (s : Shared) (σ : St) (H : Hp) (E : Value → Shared → Prop), Inv X pins σ H s → (∀ b ∈ fp, FpOk X pins H b) → tn i s.heap → J.stop i H →
    wpAny (model P w) X.A (pyNext (.ref it)) (fun r s1 => r = none ∧ Inv X pins σ H s1) E s
  self : ∀ (A : Around) (i : Nat) (s : Shared) (Q : Value → Shared → Prop) (E : Value → Shared → Prop), tn i s.heap → Q (.ref it) s → wpAny (model P w) A (pyIter (.ref it)) Q E s
abbrev TI := St → Hp → (It → Hp → Prop) → Prop
/-- an iterator has come -/
def PIE (X : Cx) (pins : List (Addr × Obj)) (σ : St) (tg : Expr) (R : It → Hp → Prop) (itv : Value) (s2 : Shared) : Prop :=
  ∃ (it : Addr) (fp : List Addr) (tn : Nat → Heap → Prop) (J : It) (H' : Hp), itv = .ref it ∧ Inv X pins σ H' s2 ∧ Turn X.prog X.w X.K tg J fp it tn ∧ tn 0 s2.heap ∧ (∀ b ∈ fp, FpOk X pins H' b) ∧ R J H'
def PI (X : Cx) (tg iter : Expr) (wi : TI) : Prop :=
  ∀ (pins : List (Addr × Obj)) (s : Shared) (σ : St) (H : Hp) (R : It → Hp → Prop), Inv X pins σ H s → wi σ H R →
    wpAny (model X.prog X.w) X.A (eval iter X.env) (fun v s1 => wpAny (model X.prog X.w) X.A (pyIter v) (PIE X pins σ tg R) X.xe s1) X.xe s

/-- the step ahead of the store is nothing for an iterator that keeps no tuple -/
theorem go_of {M : Model} {A : Around} {E : Value → Shared → Prop} {s : Shared} {tg : Expr} {it : Addr} {u : Value} {o : Obj} {n : String} {vs : Array Value} {Q : Unit → Shared → Prop} (ho : s.heap.get? it = some o) (hc : o.cls = .type n) (hd : o.data = .fields vs)
    (hn : ["enumerate", "zip", "dict_itemiterator", "dict_reverseitemiterator", "odict_iterator", "itertools.zip_longest", "itertools.pairwise"].contains n = false) (hQ : Q () s) : wpAny M A (letOwnedTupleGo tg (.ref it) u) Q E s := by
  unfold letOwnedTupleGo
  cases tg <;> first
    | exact wpAny_pure hQ
    | (cases u <;> first
        | exact wpAny_pure hQ
        | (refine wpAny_bind (wpAny_load ho ?_)
           rw [hc, hd]
           show wpAny M A (if (["enumerate", "zip", "dict_itemiterator", "dict_reverseitemiterator", "odict_iterator", "itertools.zip_longest", "itertools.pairwise"].contains n && vs[0]? == some (rawInt _)) = true then _ else _) Q E s
           rw [if_neg (by intro h; rw [hn, Bool.false_and] at h; cases h)]
           exact wpAny_pure hQ))

/-- the list at a, as it stands at each turn (a loop may append to it) -/
def Itl (K : PySem.W.Frag) (a : Addr) : It :=
  ⟨fun i H => ∃ xs x, SqL K H a xs ∧ xs[i]? = some x, fun i H x H' => H' = H ∧ ∀ xs, SqL K H a xs → xs[i]? = some x, fun i H => ∃ xs, SqL K H a xs ∧ xs.length ≤ i⟩
def Itt (K : PySem.W.Frag) (a : Addr) : It :=
  ⟨fun i H => ∃ xs x, SqT K H a xs ∧ xs[i]? = some x, fun i H x H' => H' = H ∧ ∀ xs, SqT K H a xs → xs[i]? = some x, fun i H => ∃ xs, SqT K H a xs ∧ xs.length ≤ i⟩
/-- lo, lo + 1, .. (n of them) -/
def Itr (lo : Int) (n : Nat) : It := ⟨fun i _ => i < n, fun i H x H' => H' = H ∧ x = .int (lo + i), fun i _ => n ≤ i⟩
theorem turn_list {P : Program} {w : World} {K : PySem.W.Frag} {tg : Expr} (a it : Addr) : Turn P w K tg (Itl K a) [it] it (fun i h => h.IsListIter it a i) where
  mem := by simp
  obj := fun i h st b hb => by
    have e : b = it := by simpa using hb
    subst e
    obtain ⟨o, e, c, d⟩ := st
    exact ⟨o, e, fun v z => by rw [d] at z; cases z⟩
  keep := fun i h h' st k => st.at fun o e => k it (by simp) o e
  item := by
    intro X hP hw hK hc i pins s σ H E I hf st hg
    subst hP hw hK
    obtain ⟨xs, x, hq, hx⟩ := hg
    obtain ⟨its, rv, p, hz⟩ := I.list hq
    obtain ⟨u, hu, ru⟩ := rv.get hx
    obtain ⟨f0, f1, f2, f3, f4, f5⟩ := hf it (by simp)
    refine wpAny_pyNext_list_item st p.isList (x := u) (by simpa using hu) fun h' st' sb => ?_
    have I1 : Inv X pins σ H { s with heap := h' } := I.turned (t' := s.toks) (fun b o hb e => (sb.2 b hb).trans e) f0 f1 f3 f4 f5
    obtain ⟨o, e, c, d⟩ := id st'
    exact ⟨u, rfl, go_of (s := { s with heap := h' }) e c d (by decide) ⟨x, H, I1, ru, ⟨rfl, fun ys hy => by rw [I.list_inj hy hq]; exact hx⟩, st', fun b hb => (hf b hb).1⟩⟩
  done := by
    intro X hP hw hK hc i pins s σ H E I hf st hg
    subst hP hw hK
    obtain ⟨xs, hq, hx⟩ := hg
    obtain ⟨its, rv, p, hz⟩ := I.list hq
    obtain ⟨f0, f1, f2, f3, f4, f5⟩ := hf it (by simp)
    have hl := rv.length
    exact wpAny_pyNext_list_end (I.ok.hd hc) st p.isList (by simp; (first | lia | omega)) fun h' eb => ⟨rfl, I.turned (t' := s.toks) (fun b o hb e => eb b o hb e) f0 f1 f3 f4 f5⟩
  self := fun _ _ _ _ _ st h => wpAny_pyIter_listiter st h
theorem turn_tuple {P : Program} {w : World} {K : PySem.W.Frag} {tg : Expr} (a it : Addr) : Turn P w K tg (Itt K a) [it] it (fun i h => h.IsTupleIter it a i) where
  mem := by simp
  obj := fun i h st b hb => by
    have e : b = it := by simpa using hb
    subst e
    obtain ⟨o, e, c, d⟩ := st
    exact ⟨o, e, fun v z => by rw [d] at z; cases z⟩
  keep := fun i h h' st k => st.at fun o e => k it (by simp) o e
  item := by
    intro X hP hw hK hc i pins s σ H E I hf st hg
    subst hP hw hK
    obtain ⟨xs, x, hq, hx⟩ := hg
    obtain ⟨its, rv, p, hz⟩ := I.tuple hq
    obtain ⟨u, hu, ru⟩ := rv.get hx
    obtain ⟨f0, f1, f2, f3, f4, f5⟩ := hf it (by simp)
    refine wpAny_pyNext_tuple_item st (show s.heap.IsTuple a its.toArray from p) (x := u) (by simpa using hu) fun h' st' sb => ?_
    have I1 : Inv X pins σ H { s with heap := h' } := I.turned (t' := s.toks) (fun b o hb e => (sb.2 b hb).trans e) f0 f1 f3 f4 f5
    obtain ⟨o, e, c, d⟩ := id st'
    exact ⟨u, rfl, go_of (s := { s with heap := h' }) e c d (by decide) ⟨x, H, I1, ru, ⟨rfl, fun ys hy => by rw [I.tuple_inj hy hq]; exact hx⟩, st', fun b hb => (hf b hb).1⟩⟩
  done := by
    intro X hP hw hK hc i pins s σ H E I hf st hg
    subst hP hw hK
    obtain ⟨xs, hq, hx⟩ := hg
    obtain ⟨its, rv, p, hz⟩ := I.tuple hq
    obtain ⟨f0, f1, f2, f3, f4, f5⟩ := hf it (by simp)
    have hl := rv.length
    exact wpAny_pyNext_tuple_end (I.ok.hd hc) st (show s.heap.IsTuple a its.toArray from p) (by simp; (first | lia | omega)) fun h' eb => ⟨rfl, I.turned (t' := s.toks) (fun b o hb e => eb b o hb e) f0 f1 f3 f4 f5⟩
  self := fun _ _ _ _ _ st h => wpAny_pyIter_tupleiter st h
theorem turn_range {P : Program} {w : World} {K : PySem.W.Frag} {tg : Expr} (it : Addr) (lo : Int) (n : Nat) : Turn P w K tg (Itr lo n) [it] it (fun i h => IsRangeIter h it (lo + (i : Nat) * 1) ((n : Int) - (i : Nat)) 1) where
  mem := by simp
  obj := fun i h st b hb => by
    have e : b = it := by simpa using hb
    subst e
    exact ⟨_, st, fun v z => by
      have z' : Data.fields _ = Data.cell v := z
      cases z'⟩
  keep := fun i h h' st k => k it (by simp) _ st
  item := by
    intro X hP hw hK hc i pins s σ H E I hf st hg
    subst hP hw hK
    obtain ⟨f0, f1, f2, f3, f4, f5⟩ := hf it (by simp)
    have W := Walks.range (prog := X.prog) (w := X.w) (I.ok.hd hc) it lo 1 n
    refine W.item i s _ _ hg st fun v h' tk hv st' kk => ?_
    obtain ⟨t, rfl⟩ := hv
    have I1 : Inv X pins σ H { s with heap := h', toks := tk } := I.turned (fun b o hb e => kk b o (by simpa using hb) e) f0 f1 f3 f4 f5
    refine ⟨_, rfl, go_of (s := { s with heap := h', toks := tk }) (n := "range_iterator") st' rfl rfl (by decide) ⟨.int (lo + i), H, I1, ⟨t, ?_⟩, ⟨rfl, rfl⟩, st', fun b hb => (hf b hb).1⟩⟩
    rw [Int.mul_one]
  done := by
    intro X hP hw hK hc i pins s σ H E I hf st hg
    subst hP hw hK
    obtain ⟨f0, f1, f2, f3, f4, f5⟩ := hf it (by simp)
    exact wpAny_pyNext_range_end (I.ok.hd hc) st (by have : n ≤ i := hg; (first | lia | omega)) fun h' eb => ⟨rfl, I.turned (t' := s.toks) (fun b o hb e => eb b o hb e) f0 f1 f3 f4 f5⟩
  self := fun _ _ _ _ _ st h => wpAny_pyIter_rangeiter st h
end L2

namespace L2
open PySem PySem.Spec PyProof.Rows
section
variable {X : Cx} {tg : Expr}
def iList (K : PySem.W.Frag) (tl : TE) : TI := fun σ H R => tl σ H fun x H1 => ∃ a, x = .ref a ∧ (∃ xs, SqL K H1 a xs) ∧ R (Itl K a) H1
def iTup (K : PySem.W.Frag) (tl : TE) : TI := fun σ H R => tl σ H fun x H1 => ∃ a, x = .ref a ∧ (∃ xs, SqT K H1 a xs) ∧ R (Itt K a) H1
theorem pi_list {l : Expr} {tl : TE} (hl : PE X l tl) : PI X tg l (iList X.K tl) := by
  intro pins s σ H R I h
  refine thn (hl pins s σ H _ I h) fun v s1 ⟨x, H1, I1, r1, q1⟩ => ?_
  obtain ⟨a, e, ⟨xs, hq⟩, q⟩ := q1
  subst e
  cases r1
  obtain ⟨its, rv, p, hz⟩ := I1.list hq
  refine wpAny_pyIter_list p.isList ?_
  refine ⟨s1.heap.objs.size, [s1.heap.objs.size], _, _, H1, rfl, I1.kept (t' := s1.toks) fun b o e => Heap.get?_push_of_some _ e, turn_list a _, ⟨_, Heap.get?_push_size _ rfl, rfl, rfl⟩, fun b hb => ?_, q⟩
  have e : b = s1.heap.objs.size := by simpa using hb
  subst e
  exact I1.fpOk (Nat.le_refl _) (I1.hok.fresh (Nat.le_refl _))
theorem pi_tup {l : Expr} {tl : TE} (hl : PE X l tl) : PI X tg l (iTup X.K tl) := by
  intro pins s σ H R I h
  refine thn (hl pins s σ H _ I h) fun v s1 ⟨x, H1, I1, r1, q1⟩ => ?_
  obtain ⟨a, e, ⟨xs, hq⟩, q⟩ := q1
  subst e
  cases r1
  obtain ⟨its, rv, p, hz⟩ := I1.tuple hq
  refine wpAny_pyIter_tuple (show s1.heap.IsTuple a its.toArray from p) ?_
  refine ⟨s1.heap.objs.size, [s1.heap.objs.size], _, _, H1, rfl, I1.kept (t' := s1.toks) fun b o e => Heap.get?_push_of_some _ e, turn_tuple a _, ⟨_, Heap.get?_push_size _ rfl, rfl, rfl⟩, fun b hb => ?_, q⟩
  have e : b = s1.heap.objs.size := by simpa using hb
  subst e
  exact I1.fpOk (Nat.le_refl _) (I1.hok.fresh (Nat.le_refl _))
/-- a range object just made, walked -/
theorem range_it {pins : List (Addr × Obj)} {σ : St} {H : Hp} {s : Shared} {R : It → Hp → Prop} {E : Value → Shared → Prop} {lo hi : Int} {t u v : Tok} {tk : Nat} (I : Inv X pins σ H s) (h1 : -(2 ^ 62) ≤ lo) (h2 : lo < 2 ^ 62) (h3 : -(2 ^ 62) ≤ hi) (h4 : hi < 2 ^ 62)
    (q : R (Itr lo (hi - lo).toNat) H) : wpAny (model X.prog X.w) X.A (pyIter (.ref s.heap.objs.size)) (PIE X pins σ tg R) E { s with heap := s.heap.push { cls := .type "range", data := .fields #[.int lo t, .int hi u, .int 1 v] }, toks := tk } := by
  refine wpAny_pyIter_range (IsRange.new ..) (small_one h1 h2 h3 h4) ?_
  have I1 : Inv X pins σ H { s with heap := s.heap.push { cls := .type "range", data := .fields #[.int lo t, .int hi u, .int 1 v] }, toks := tk } := I.kept fun b o e => Heap.get?_push_of_some _ e
  refine ⟨(s.heap.push { cls := .type "range", data := .fields #[.int lo t, .int hi u, .int 1 v] }).objs.size, [(s.heap.push { cls := .type "range", data := .fields #[.int lo t, .int hi u, .int 1 v] }).objs.size], _, _, H, rfl,
    I1.kept (t' := tk) fun b o e => Heap.get?_push_of_some _ e, turn_range _ lo (hi - lo).toNat, ?_, fun b hb => ?_, q⟩
  · have e1 : lo + ((0 : Nat) : Int) * 1 = lo := by simp
    have e2 : (((hi - lo).toNat : Nat) : Int) - ((0 : Nat) : Int) = Builtin.Range.rangeSize lo hi 1 := by rw [rangeSize_one]; split <;> (first | lia | omega)
    show IsRangeIter _ _ (lo + ((0 : Nat) : Int) * 1) ((((hi - lo).toNat : Nat) : Int) - ((0 : Nat) : Int)) 1
    rw [e1, e2]
    exact Heap.get?_push_size _ rfl
  · have e : b = (s.heap.push { cls := .type "range", data := .fields #[.int lo t, .int hi u, .int 1 v] }).objs.size := by simpa using hb
    subst e
    exact I1.fpOk (Nat.le_refl _) (I1.hok.fresh (Nat.le_refl _))
def iRng1 (ta : TA) : TI := fun σ H R => ta σ H fun vs H1 => ∃ j : Int, vs = [.int j] ∧ -(2 ^ 62) ≤ j ∧ j < 2 ^ 62 ∧ R (Itr 0 j.toNat) H1
theorem pi_range1 {a : Expr} {ta : TA} {p pos : Pos} (hg : Gl X "range") (hm : X.mg "range" = none) (ha : PA X [a] ta) (hs : starEach [a] X.env = [(false, eval a X.env)] := by rfl) : PI X tg (.Call (.Name "range" p) [a] [] pos) (iRng1 ta) := by
  intro pins s σ H R I h
  refine Call_ (ld_blt I hg hm boot_range (PyProof.Rows.callWith_type1 (thn (ha pos pins s σ H _ I h) fun us s1 ⟨vs, H1, I1, r1, q1⟩ => ?_) hs rfl))
  obtain ⟨j, e, q1, q2, q⟩ := q1
  subst e
  cases r1 with
  | cons r rr =>
    cases rr
    obtain ⟨t, rfl⟩ := r
    exact call_range_1 (range_it I1 (by (first | lia | omega)) (by (first | lia | omega)) q1 q2 (by simpa using q))
/-! ### for -/
/-- W: the invariant by the turn and a measure; N: what the body is to reach -/
def tFor (wi : TI) (g : TG) (tb : TS) : TS := fun D σ H => wi σ H fun J H1 => ∃ W : Nat → Nat → St → Hp → Prop, (∃ m, W 0 m σ H1) ∧ ∀ i m σ H, W i m σ H →
  (J.stop i H ∧ D.nx σ H) ∨ (J.go i H ∧ ∃ N : St → Hp → Prop, (∀ σ' H', N σ' H' → ∃ m', m' < m ∧ W (i + 1) m' σ' H') ∧ ∀ x H', J.yld i H x H' → g x σ H' fun σ2 H2 => tb { D with nx := N, ct := N, bk := D.nx } σ2 H2)
/-- the records at fp as they stand -/
def pinsAt (fp : List Addr) (h : Heap) : List (Addr × Obj) := fp.filterMap fun b => (h.get? b).map fun o => (b, o)
theorem mem_pinsAt {fp : List Addr} {h : Heap} {b : Addr} {o : Obj} (hb : b ∈ fp) (e : h.get? b = some o) : (b, o) ∈ pinsAt fp h := List.mem_filterMap.mpr ⟨b, hb, by rw [e]; rfl⟩
theorem of_pinsAt {fp : List Addr} {h : Heap} {p : Addr × Obj} (hp : p ∈ pinsAt fp h) : p.1 ∈ fp ∧ h.get? p.1 = some p.2 := by
  obtain ⟨b, hb, e⟩ := List.mem_filterMap.mp hp
  cases q : h.get? b with
  | none => rw [q] at e; cases e
  | some o =>
    rw [q] at e
    have e' : (b, o) = p := Option.some.inj e
    subst e'
    exact ⟨hb, q⟩
theorem Inv.pinned {pins : List (Addr × Obj)} {σ : St} {H : Hp} {s : Shared} {fp : List Addr} (I : Inv X pins σ H s) (hf : ∀ b ∈ fp, FpOk X pins H b) (ho : ∀ b ∈ fp, ∃ o, s.heap.get? b = some o ∧ ∀ v, o.data ≠ .cell v) : Inv X (pins ++ pinsAt fp s.heap) σ H s :=
  I.pins_of fun p hp => (List.mem_append.mp hp).elim (fun z => I.pin p (List.mem_append_right _ z)) fun z => by
    obtain ⟨hb, e⟩ := of_pinsAt z
    obtain ⟨f0, f1, f2, _⟩ := hf p.1 hb
    obtain ⟨o, e', d⟩ := ho p.1 hb
    rw [e] at e'; cases e'
    exact ⟨e, f0, f1, f2, d⟩
theorem Inv.unpinned {pins pl : List (Addr × Obj)} {σ : St} {H : Hp} {s : Shared} (I : Inv X (pins ++ pl) σ H s) : Inv X pins σ H s := I.pins_of fun p hp => I.pin p (List.mem_append_right _ (List.mem_append_left _ hp))
theorem ps_for {iter : Expr} {body : List Stmt} {wi : TI} {g : TG} {tb : TS} {pos : Pos} (hp : PassesOwn (model X.prog X.w) X.A X.env X.xe) (hc : X.calm = true) (hi : PI X tg iter wi) (hg : PG X tg g) (hb : PSs X body tb)
    (hs : ∀ x, foldedSetIterable iter X.env x = pure x := by intro _; rfl) : PS X (.For tg iter body [] pos) (tFor wi g tb) := by
  intro pins s σ H D I h
  refine wpAny_For (thn (hi pins s σ H _ I h) fun v s1 h1 => thn h1 fun itv s2 h2 => ?_) hs
  obtain ⟨it, fp, tn, J, H2, e, I2, T, st2, f2, W, ⟨m0, w0⟩, turn⟩ := h2
  subst e
  -- what stays true of the iterator's objects through the loop
  have stat : ∀ {H' : Hp}, (∀ b ∈ fp, H' b = none) → ∀ b ∈ fp, FpOk X pins H' b := fun hn b hb => ⟨hn b hb, (f2 b hb).2⟩
  refine codeAny_forLoop_any (fun n s' => ∃ i σ' H', Inv X pins σ' H' s' ∧ tn i s'.heap ∧ (∀ b ∈ fp, H' b = none) ∧ W i n σ' H') ?_ m0 ⟨0, σ, H2, I2, st2, fun b hb => (f2 b hb).1, w0⟩
  rintro n s3 ⟨i, σ3, H3, I3, st3, fr3, w3⟩
  rcases turn i n σ3 H3 w3 with ⟨stop, qn⟩ | ⟨go, N, hN, step⟩
  · refine wpAny_passesOwn hp (thn (T.done X rfl rfl rfl hc i pins s3 σ3 H3 X.xe I3 (stat fr3) st3 stop) fun r s4 ⟨hr, I4⟩ => ?_)
    subst hr
    exact wpAny_execs_nil ⟨σ3, H3, I4, qn⟩
  · refine wpAny_passesOwn hp (thn (T.item X rfl rfl rfl hc i pins s3 σ3 H3 X.xe I3 (stat fr3) st3 go) fun r s4 ⟨u, hr, h4⟩ => ?_)
    subst hr
    refine wpAny_passesOwn hp (thn h4 fun _ s5 ⟨x, H5, I5, r5, y5, st5, fr5⟩ => ?_)
    have I5' := I5.pinned (stat fr5) (T.obj _ _ st5)
    refine wpAny_passesOwn hp (thn (hg _ s5 σ3 H5 x u _ I5' r5 (step x H5 y5)) fun _ s6 ⟨σ6, H6, I6, q6⟩ => ?_)
    refine wpAny_passesOwn hp (thn (hb _ s6 σ6 H6 _ I6 q6) fun f s7 q7 => ?_)
    have again : ∀ {σ7 : St} {H7 : Hp}, Inv X (pins ++ pinsAt fp s5.heap) σ7 H7 s7 → N σ7 H7 → ∃ m, m < n ∧ ∃ i σ' H', Inv X pins σ' H' s7 ∧ tn i s7.heap ∧ (∀ b ∈ fp, H' b = none) ∧ W i m σ' H' := fun {σ7 H7} I7 n7 => by
      obtain ⟨m', hm, w7⟩ := hN σ7 H7 n7
      refine ⟨m', hm, i + 1, σ7, H7, I7.unpinned, T.keep _ _ _ st5 fun b hb o e => (I7.pin (b, o) (List.mem_append_right _ (List.mem_append_right _ (mem_pinsAt hb e)))).1, fun b hb => ?_, w7⟩
      obtain ⟨o, e, d⟩ := T.obj _ _ st5 b hb
      exact (I7.pin (b, o) (List.mem_append_right _ (List.mem_append_right _ (mem_pinsAt hb e)))).2.1
    cases f with
    | next => obtain ⟨σ7, H7, I7, n7⟩ := q7; exact again I7 n7
    | cont => obtain ⟨σ7, H7, I7, n7⟩ := q7; exact again I7 n7
    | brk => obtain ⟨σ7, H7, I7, q7⟩ := q7; exact ⟨σ7, H7, I7.unpinned, q7⟩
    | ret v => obtain ⟨x7, σ7, H7, I7, r7, q7⟩ := q7; exact ⟨x7, σ7, H7, I7.unpinned, r7, q7⟩
end

/-! ### the forms one uses -/
/-- over a list that the body leaves as it is -/
theorem for_list {K : PySem.W.Frag} {a : Addr} {xs : List V} {g : TG} {tb : TS} {D : Ends} {σ : St} {H : Hp} (Pv : Nat → St → Hp → Prop) (h0 : Pv 0 σ H) (hl : ∀ i σ H, i ≤ xs.length → Pv i σ H → SqL K H a xs)
    (hs : ∀ i x σ H, xs[i]? = some x → Pv i σ H → g x σ H fun σ2 H2 => tb { D with nx := Pv (i + 1), ct := Pv (i + 1), bk := D.nx } σ2 H2) (hd : ∀ σ H, Pv xs.length σ H → D.nx σ H) :
    ∃ W : Nat → Nat → St → Hp → Prop, (∃ m, W 0 m σ H) ∧ ∀ i m σ H, W i m σ H →
      ((Itl K a).stop i H ∧ D.nx σ H) ∨ ((Itl K a).go i H ∧ ∃ N : St → Hp → Prop, (∀ σ' H', N σ' H' → ∃ m', m' < m ∧ W (i + 1) m' σ' H') ∧ ∀ x H', (Itl K a).yld i H x H' → g x σ H' fun σ2 H2 => tb { D with nx := N, ct := N, bk := D.nx } σ2 H2) := by
  refine ⟨fun i m σ H => m = xs.length - i ∧ i ≤ xs.length ∧ Pv i σ H, ⟨xs.length, by simp, Nat.zero_le _, h0⟩, ?_⟩
  rintro i m σ H ⟨rfl, hi, p⟩
  have q := hl i σ H hi p
  by_cases hlt : i < xs.length
  · refine .inr ⟨⟨xs, xs[i], q, by simp [hlt]⟩, Pv (i + 1), fun σ' H' p' => ⟨xs.length - (i + 1), by (first | lia | omega), rfl, hlt, p'⟩, fun x H' y => ?_⟩
    obtain ⟨e, y⟩ := y
    subst e
    exact hs i x σ _ (y xs q) p
  · have e : i = xs.length := by (first | lia | omega)
    subst e
    exact .inl ⟨⟨xs, q, Nat.le_refl _⟩, hd σ H p⟩
theorem for_tup {K : PySem.W.Frag} {a : Addr} {xs : List V} {g : TG} {tb : TS} {D : Ends} {σ : St} {H : Hp} (Pv : Nat → St → Hp → Prop) (h0 : Pv 0 σ H) (hl : ∀ i σ H, i ≤ xs.length → Pv i σ H → SqT K H a xs)
    (hs : ∀ i x σ H, xs[i]? = some x → Pv i σ H → g x σ H fun σ2 H2 => tb { D with nx := Pv (i + 1), ct := Pv (i + 1), bk := D.nx } σ2 H2) (hd : ∀ σ H, Pv xs.length σ H → D.nx σ H) :
    ∃ W : Nat → Nat → St → Hp → Prop, (∃ m, W 0 m σ H) ∧ ∀ i m σ H, W i m σ H →
      ((Itt K a).stop i H ∧ D.nx σ H) ∨ ((Itt K a).go i H ∧ ∃ N : St → Hp → Prop, (∀ σ' H', N σ' H' → ∃ m', m' < m ∧ W (i + 1) m' σ' H') ∧ ∀ x H', (Itt K a).yld i H x H' → g x σ H' fun σ2 H2 => tb { D with nx := N, ct := N, bk := D.nx } σ2 H2) := by
  refine ⟨fun i m σ H => m = xs.length - i ∧ i ≤ xs.length ∧ Pv i σ H, ⟨xs.length, by simp, Nat.zero_le _, h0⟩, ?_⟩
  rintro i m σ H ⟨rfl, hi, p⟩
  have q := hl i σ H hi p
  by_cases hlt : i < xs.length
  · refine .inr ⟨⟨xs, xs[i], q, by simp [hlt]⟩, Pv (i + 1), fun σ' H' p' => ⟨xs.length - (i + 1), by (first | lia | omega), rfl, hlt, p'⟩, fun x H' y => ?_⟩
    obtain ⟨e, y⟩ := y
    subst e
    exact hs i x σ _ (y xs q) p
  · have e : i = xs.length := by (first | lia | omega)
    subst e
    exact .inl ⟨⟨xs, q, Nat.le_refl _⟩, hd σ H p⟩
theorem for_range {lo : Int} {n : Nat} {g : TG} {tb : TS} {D : Ends} {σ : St} {H : Hp} (Pv : Nat → St → Hp → Prop) (h0 : Pv 0 σ H)
    (hs : ∀ i σ H, i < n → Pv i σ H → g (.int (lo + i)) σ H fun σ2 H2 => tb { D with nx := Pv (i + 1), ct := Pv (i + 1), bk := D.nx } σ2 H2) (hd : ∀ σ H, Pv n σ H → D.nx σ H) :
    ∃ W : Nat → Nat → St → Hp → Prop, (∃ m, W 0 m σ H) ∧ ∀ i m σ H, W i m σ H →
      ((Itr lo n).stop i H ∧ D.nx σ H) ∨ ((Itr lo n).go i H ∧ ∃ N : St → Hp → Prop, (∀ σ' H', N σ' H' → ∃ m', m' < m ∧ W (i + 1) m' σ' H') ∧ ∀ x H', (Itr lo n).yld i H x H' → g x σ H' fun σ2 H2 => tb { D with nx := N, ct := N, bk := D.nx } σ2 H2) := by
  refine ⟨fun i m σ H => m = n - i ∧ i ≤ n ∧ Pv i σ H, ⟨n, by simp, Nat.zero_le _, h0⟩, ?_⟩
  rintro i m σ H ⟨rfl, hi, p⟩
  by_cases hlt : i < n
  · refine .inr ⟨hlt, Pv (i + 1), fun σ' H' p' => ⟨n - (i + 1), by (first | lia | omega), rfl, hlt, p'⟩, fun x H' y => ?_⟩
    obtain ⟨e, y⟩ := y
    subst e y
    exact hs i σ _ hlt p
  · have e : i = n := by (first | lia | omega)
    subst e
    exact .inl ⟨Nat.le_refl _, hd σ H p⟩
end L2

namespace L2
open PySem PySem.Spec PyProof.Rows

abbrev R2 := V → V → Hp → VK → Prop
/-- a two-place operation on values: f is binaryOp op, inplaceOp op or compareOp op -/
def OpR (X : Cx) (f : Value → Value → Sem Value) (r : R2) : Prop :=
  ∀ (pins : List (Addr × Obj)) (s : Shared) (σ : St) (H : Hp) (x y : V) (v u : Value) (Q : VK), Inv X pins σ H s → RelV x v → RelV y u → r x y H Q →
    wpAny (model X.prog X.w) X.A (f v u) (EP X pins σ Q) X.xe s
/-- a one-place operation -/
def UnR (X : Cx) (f : Value → Sem Value) (r : V → Hp → VK → Prop) : Prop :=
  ∀ (pins : List (Addr × Obj)) (s : Shared) (σ : St) (H : Hp) (x : V) (v : Value) (Q : VK), Inv X pins σ H s → RelV x v → r x H Q →
    wpAny (model X.prog X.w) X.A (f v) (EP X pins σ Q) X.xe s
/-- a call of a value that is known (a builtin, a type) with values -/
def CallR (X : Cx) (f : Value) (r : List V → Hp → VK → Prop) : Prop :=
  ∀ (pins : List (Addr × Obj)) (s : Shared) (σ : St) (H : Hp) (xs : List V) (us : List Value) (Q : VK), Inv X pins σ H s → Vals xs us → r xs H Q →
    wpAny (model X.prog X.w) X.A (call f us) (EP X pins σ Q) X.xe s
/-- a value's truth -/
def TruR (X : Cx) (r : V → Hp → (Bool → Hp → Prop) → Prop) : Prop :=
  ∀ (pins : List (Addr × Obj)) (s : Shared) (σ : St) (H : Hp) (x : V) (v : Value) (Q : Bool → Hp → Prop), Inv X pins σ H s → RelV x v → r x H Q →
    wpAny (model X.prog X.w) X.A (truthy v) (TP X pins σ Q) X.xe s

def tOp (r : R2) (ta tb : TE) : TE := fun σ H Q => ta σ H fun x H1 => tb σ H1 fun y H2 => r x y H2 Q
def tUn (r : V → Hp → VK → Prop) (ta : TE) : TE := fun σ H Q => ta σ H fun x H1 => r x H1 Q
/-- ints in, under C, and a value out -/
def rI (C : Int → Int → Prop) (g : Int → Int → V) : R2 := fun x y H Q => ∃ i j, x = .int i ∧ y = .int j ∧ C i j ∧ Q (g i j) H
def rI0 (g : Int → Int → V) : R2 := fun x y H Q => ∃ i j, x = .int i ∧ y = .int j ∧ Q (g i j) H
def rU (g : Int → V) : V → Hp → VK → Prop := fun x H Q => ∃ i, x = .int i ∧ Q (g i) H

section
variable {X : Cx} {a b c : Expr} {ta tb tc : TE} {pos : Pos}

theorem binT (ha : PE X a ta) (hb : PE X b tb) {pins : List (Addr × Obj)} {s : Shared} {σ : St} {H : Hp} {R : V → V → Hp → Prop} (I : Inv X pins σ H s)
    (h : ta σ H fun x H1 => tb σ H1 fun y H2 => R x y H2) {Q : Value → Shared → Prop} {f : Value → Value → Sem Value}
    (hf : ∀ v u s2 x y H2, Inv X pins σ H2 s2 → RelV x v → RelV y u → R x y H2 → wpAny (model X.prog X.w) X.A (f v u) Q X.xe s2) :
    wpAny (model X.prog X.w) X.A (eval a X.env) (fun v s₁ => wpAny (model X.prog X.w) X.A (eval b X.env) (fun u s₂ => wpAny (model X.prog X.w) X.A (f v u) Q X.xe s₂) X.xe s₁) X.xe s := by
  refine thn (ha pins s σ H _ I h) fun v s1 ⟨x, H1, I1, r1, q1⟩ => ?_
  refine thn (hb pins s1 σ H1 _ I1 q1) fun u s2 ⟨y, H2, I2, r2, q2⟩ => ?_
  exact hf v u s2 x y H2 I2 r1 r2 q2

theorem pe_op {op : Operator} {r : R2} (ho : OpR X (binaryOp op) r) (ha : PE X a ta) (hb : PE X b tb) : PE X (.BinOp a op b pos) (tOp r ta tb) := by
  intro pins s σ H Q I h
  exact wpAny_BinOp (binT ha hb I h fun v u s2 x y H2 I2 rx ry q => ho pins s2 σ H2 x y v u Q I2 rx ry q)
theorem pe_un {op : UnaryOp} {r : V → Hp → VK → Prop} (ho : UnR X (unaryOp op) r) (ha : PE X a ta) : PE X (.UnaryOp op a pos) (tUn r ta) := by
  intro pins s σ H Q I h
  exact UnaryOp_ (thn (ha pins s σ H _ I h) fun v s1 ⟨x, H1, I1, r1, q1⟩ => ho pins s1 σ H1 x v Q I1 r1 q1)
/-! ### ints -/
theorem opI {f : Value → Value → Sem Value} {C : Int → Int → Prop} {g : Int → Int → Int}
    (rule : ∀ (i j : Int) (t u : Tok) (s : Shared) (Q : Value → Shared → Prop) (E : Value → Shared → Prop), C i j → Q (.int (g i j) s.toks) { s with toks := s.toks + 1 } → wpAny (model X.prog X.w) X.A (f (.int i t) (.int j u)) Q E s) :
    OpR X f (rI C fun i j => .int (g i j)) := by
  intro pins s σ H x y v u Q I rx ry h
  obtain ⟨i, j, rfl, rfl, hc, q⟩ := h
  obtain ⟨t, rfl⟩ := rx
  obtain ⟨t', rfl⟩ := ry
  exact rule i j t t' s _ _ hc ⟨.int (g i j), H, I.tok _, ⟨_, rfl⟩, q⟩
theorem opI0 {f : Value → Value → Sem Value} {g : Int → Int → Int}
    (rule : ∀ (i j : Int) (t u : Tok) (s : Shared) (Q : Value → Shared → Prop) (E : Value → Shared → Prop), Q (.int (g i j) s.toks) { s with toks := s.toks + 1 } → wpAny (model X.prog X.w) X.A (f (.int i t) (.int j u)) Q E s) :
    OpR X f (rI0 fun i j => .int (g i j)) := by
  intro pins s σ H x y v u Q I rx ry h
  obtain ⟨i, j, rfl, rfl, q⟩ := h
  obtain ⟨t, rfl⟩ := rx
  obtain ⟨t', rfl⟩ := ry
  exact rule i j t t' s _ _ ⟨.int (g i j), H, I.tok _, ⟨_, rfl⟩, q⟩
theorem opB0 {f : Value → Value → Sem Value} {g : Int → Int → Bool}
    (rule : ∀ (i j : Int) (t u : Tok) (s : Shared) (Q : Value → Shared → Prop) (E : Value → Shared → Prop), Q (.bool (g i j)) s → wpAny (model X.prog X.w) X.A (f (.int i t) (.int j u)) Q E s) :
    OpR X f (rI0 fun i j => .bl (g i j)) := by
  intro pins s σ H x y v u Q I rx ry h
  obtain ⟨i, j, rfl, rfl, q⟩ := h
  obtain ⟨t, rfl⟩ := rx
  obtain ⟨t', rfl⟩ := ry
  exact rule i j t t' s _ _ ⟨.bl (g i j), H, I, rfl, q⟩

def CDiv (i j : Int) : Prop := 0 < j ∧ j < 1073741824
def CMul (i j : Int) : Prop := (-(2 ^ 64) < i ∧ i < 2 ^ 64) ∨ (-(2 ^ 64) < j ∧ j < 2 ^ 64)
theorem CMul.ok {i j : Int} (h : CMul i j) : IntMulOk i j := by
  rcases h with ⟨h1, h2⟩ | ⟨h1, h2⟩
  · exact .of_left (intBits_le_64 h1 h2)
  · exact .of_right (intBits_le_64 h1 h2)
theorem op_add : OpR X (binaryOp .Add) (rI0 fun i j => .int (i + j)) := opI0 fun _ _ _ _ _ _ _ q => add_int q
theorem op_sub : OpR X (binaryOp .Sub) (rI0 fun i j => .int (i - j)) := opI0 fun _ _ _ _ _ _ _ q => sub_int q
theorem op_mul : OpR X (binaryOp .Mult) (rI CMul fun i j => .int (i * j)) := opI fun _ _ _ _ _ _ _ hc q => mul_int q hc.ok
/-- // by a positive divisor -/
theorem op_fdiv : OpR X (binaryOp .FloorDiv) (rI CDiv fun i j => .int (i / j)) := opI fun i j _ _ _ _ _ hc q => by
  have h1 : (0 : Int) < j := hc.1
  have h2 : j < 1073741824 := hc.2
  exact floordiv_int (by (first | lia | omega)) (by rw [Int.fdiv_eq_ediv_of_nonneg i (by (first | lia | omega))]; exact q) (.inl (PyProof.noPylong_small (by (first | lia | omega))))
/-- % by a positive divisor of any size -/
theorem op_mod : OpR X (binaryOp .Mod) (rI (fun _ j => 0 < j) fun i j => .int (i % j)) := opI fun i j _ _ _ _ _ hc q => by
  have h1 : (0 : Int) < j := hc
  exact mod_int' (by (first | lia | omega)) (by rw [Int.fmod_eq_emod_of_nonneg i (by (first | lia | omega))]; exact q)
theorem unI {f : Value → Sem Value} {g : Int → Int}
    (rule : ∀ (i : Int) (t : Tok) (s : Shared) (Q : Value → Shared → Prop) (E : Value → Shared → Prop), Q (.int (g i) s.toks) { s with toks := s.toks + 1 } → wpAny (model X.prog X.w) X.A (f (.int i t)) Q E s) :
    UnR X f (rU fun i => .int (g i)) := by
  intro pins s σ H x v Q I rx h
  obtain ⟨i, rfl, q⟩ := h
  obtain ⟨t, rfl⟩ := rx
  exact rule i t s _ _ ⟨.int (g i), H, I.tok _, ⟨_, rfl⟩, q⟩
theorem un_neg : UnR X (unaryOp .USub) (rU fun i => .int (-i)) := unI fun _ _ _ _ _ q => neg_int q
/-! ### bools among ints: n += (a < b) -/
end

/-! ### comparisons -/
/-- the scalars that == tells apart as data does -/
def scal : V → V → Bool
  | .non, .non => true | .non, .int _ => true | .int _, .non => true | .non, .bl _ => true | .bl _, .non => true | .non, .str _ => true | .str _, .non => true
  | .int _, .int _ => true | .bl _, .bl _ => true | .str _, .str _ => true | .byt _, .byt _ => true
  | .int _, .str _ => true | .str _, .int _ => true | .bl _, .str _ => true | .str _, .bl _ => true
  | _, _ => false
def rEq : R2 := fun x y H Q => scal x y = true ∧ Q (.bl (decide (x = y))) H
def rNe : R2 := fun x y H Q => scal x y = true ∧ Q (.bl (!decide (x = y))) H

theorem dec_int {i j : Int} : decide (V.int i = V.int j) = (i == j) := by
  rw [Bool.eq_iff_iff]
  simp
theorem dec_bl {i j : Bool} : decide (V.bl i = V.bl j) = (i == j) := by
  rw [Bool.eq_iff_iff]
  simp
theorem dec_str {i j : Str} : decide (V.str i = V.str j) = (i == j) := by
  rw [Bool.eq_iff_iff]
  simp
theorem dec_byt {i j : Array UInt8} : decide (V.byt i = V.byt j) = (i.toList == j.toList) := by
  rw [Bool.eq_iff_iff]
  cases i
  cases j
  simp

section
variable {X : Cx} {a b c : Expr} {ta tb tc : TE} {pos : Pos}
theorem fin_bl {pins : List (Addr × Obj)} {σ : St} {H : Hp} {s : Shared} {Q : VK} {k k' : Bool} (I : Inv X pins σ H s) (q : Q (.bl k) H) (e : k = k') : EP X pins σ Q (.bool k') s := by
  subst e
  exact ⟨.bl k, H, I, rfl, q⟩
theorem op_eq : OpR X (compareOp .Eq) rEq := by
  intro pins s σ H x y v u Q I rx ry h
  obtain ⟨hs, q⟩ := h
  cases x with
  | non =>
    cases rx
    cases y with
    | non => cases ry; exact PySem.EqNone.eq_none_none (fin_bl I q (by simp))
    | bl j => cases ry; exact PySem.EqNone.eq_none_bool (fin_bl I q (by simp))
    | int j => obtain ⟨t', rfl⟩ := ry; exact PySem.EqNone.eq_none_int (fin_bl I q (by simp))
    | str j => obtain ⟨t', rfl⟩ := ry; exact PySem.EqNone.eq_none_str (fin_bl I q (by simp))
    | _ => exact absurd (show false = true from hs) Bool.false_ne_true
  | bl i =>
    cases rx
    cases y with
    | non => cases ry; exact PySem.EqNone.eq_bool_none (fin_bl I q (by simp))
    | bl j => cases ry; exact eq_bool (fin_bl I q dec_bl)
    | str j => obtain ⟨t', rfl⟩ := ry; exact PySem.EqMixed.eq_bool_str (fin_bl I q (by simp))
    | _ => exact absurd (show false = true from hs) Bool.false_ne_true
  | int i =>
    obtain ⟨t, rfl⟩ := rx
    cases y with
    | non => cases ry; exact PySem.EqNone.eq_int_none (fin_bl I q (by simp))
    | int j => obtain ⟨t', rfl⟩ := ry; exact eq_int (fin_bl I q dec_int)
    | str j => obtain ⟨t', rfl⟩ := ry; exact PySem.EqMixed.eq_int_str (fin_bl I q (by simp))
    | _ => exact absurd (show false = true from hs) Bool.false_ne_true
  | str i =>
    obtain ⟨t, rfl⟩ := rx
    cases y with
    | non => cases ry; exact PySem.EqNone.eq_str_none (fin_bl I q (by simp))
    | bl j => cases ry; exact PySem.EqMixed.eq_str_bool (fin_bl I q (by simp))
    | int j => obtain ⟨t', rfl⟩ := ry; exact PySem.EqMixed.eq_str_int (fin_bl I q (by simp))
    | str j => obtain ⟨t', rfl⟩ := ry; exact eq_str (fin_bl I q dec_str)
    | _ => exact absurd (show false = true from hs) Bool.false_ne_true
  | byt i =>
    obtain ⟨t, rfl⟩ := rx
    cases y with
    | byt j => obtain ⟨t', rfl⟩ := ry; exact PySem.W.eq_bytes (fin_bl I q dec_byt)
    | _ => exact absurd (show false = true from hs) Bool.false_ne_true
  | _ => cases y <;> exact absurd (show false = true from hs) Bool.false_ne_true
theorem op_ne : OpR X (compareOp .NotEq) rNe := by
  intro pins s σ H x y v u Q I rx ry h
  obtain ⟨hs, q⟩ := h
  cases x with
  | non =>
    cases rx
    cases y with
    | non => cases ry; exact PySem.EqNone.ne_none_none (fin_bl I q (by simp))
    | bl j => cases ry; exact PySem.EqNone.ne_none_bool (fin_bl I q (by simp))
    | int j => obtain ⟨t', rfl⟩ := ry; exact PySem.EqNone.ne_none_int (fin_bl I q (by simp))
    | str j => obtain ⟨t', rfl⟩ := ry; exact PySem.EqNone.ne_none_str (fin_bl I q (by simp))
    | _ => exact absurd (show false = true from hs) Bool.false_ne_true
  | bl i =>
    cases rx
    cases y with
    | non => cases ry; exact PySem.EqNone.ne_bool_none (fin_bl I q (by simp))
    | bl j => cases ry; exact ne_bool (fin_bl I q (congrArg not dec_bl))
    | str j => obtain ⟨t', rfl⟩ := ry; exact PySem.EqMixed.ne_bool_str (fin_bl I q (by simp))
    | _ => exact absurd (show false = true from hs) Bool.false_ne_true
  | int i =>
    obtain ⟨t, rfl⟩ := rx
    cases y with
    | non => cases ry; exact PySem.EqNone.ne_int_none (fin_bl I q (by simp))
    | int j => obtain ⟨t', rfl⟩ := ry; exact ne_int (fin_bl I q (congrArg not dec_int))
    | str j => obtain ⟨t', rfl⟩ := ry; exact PySem.EqMixed.ne_int_str (fin_bl I q (by simp))
    | _ => exact absurd (show false = true from hs) Bool.false_ne_true
  | str i =>
    obtain ⟨t, rfl⟩ := rx
    cases y with
    | non => cases ry; exact PySem.EqNone.ne_str_none (fin_bl I q (by simp))
    | bl j => cases ry; exact PySem.EqMixed.ne_str_bool (fin_bl I q (by simp))
    | int j => obtain ⟨t', rfl⟩ := ry; exact PySem.EqMixed.ne_str_int (fin_bl I q (by simp))
    | str j => obtain ⟨t', rfl⟩ := ry; exact ne_str (fin_bl I q (congrArg not dec_str))
    | _ => exact absurd (show false = true from hs) Bool.false_ne_true
  | byt i =>
    obtain ⟨t, rfl⟩ := rx
    cases y with
    | byt j => obtain ⟨t', rfl⟩ := ry; exact PySem.W.ne_bytes (fin_bl I q (congrArg not dec_byt))
    | _ => exact absurd (show false = true from hs) Bool.false_ne_true
  | _ => cases y <;> exact absurd (show false = true from hs) Bool.false_ne_true

theorem op_lt : OpR X (compareOp .Lt) (rI0 fun i j => .bl (decide (i < j))) := opB0 fun _ _ _ _ _ _ _ q => lt_int q
theorem op_le : OpR X (compareOp .LtE) (rI0 fun i j => .bl (decide (i ≤ j))) := opB0 fun _ _ _ _ _ _ _ q => le_int q
theorem op_gt : OpR X (compareOp .Gt) (rI0 fun i j => .bl (decide (j < i))) := opB0 fun _ _ _ _ _ _ _ q => gt_int q
theorem op_ge : OpR X (compareOp .GtE) (rI0 fun i j => .bl (decide (j ≤ i))) := opB0 fun _ _ _ _ _ _ _ q => ge_int q
/-- is None, is not None: the right side a value none -/
theorem op_isN : OpR X (compareOp .Is) (fun x y H Q => y = .non ∧ Q (.bl (decide (x = .non))) H) := by
  intro pins s σ H x y v u Q I rx ry h
  obtain ⟨rfl, q⟩ := h
  cases ry
  refine is_none_gen (fin_bl I q ?_)
  cases x <;> first
    | (cases rx; rfl)
    | (obtain ⟨t, rfl⟩ := rx; rfl)
/-- two rules for one operation: by cases -/
theorem OpR.or {f : Value → Value → Sem Value} {r r' : R2} (h : OpR X f r) (h' : OpR X f r') : OpR X f (fun x y H Q => r x y H Q ∨ r' x y H Q) := by
  intro pins s σ H x y v u Q I rx ry q
  rcases q with q | q
  · exact h pins s σ H x y v u Q I rx ry q
  · exact h' pins s σ H x y v u Q I rx ry q

theorem nomark (b : Expr) {op : CmpOp} (h : op ≠ .In := by decide) (h2 : op ≠ .NotIn := by decide) : behindInMarks op b = false := by
  have e1 : (op == CmpOp.In) = false := by cases op <;> first | rfl | exact absurd rfl h
  have e2 : (op == CmpOp.NotIn) = false := by cases op <;> first | rfl | exact absurd rfl h2
  cases b <;> simp [behindInMarks, e1, e2]
/-- a comparison as a value; hm: nomark b, or (for in, not in) by with_unfolding_all rfl -/
theorem pe_cmpR {op : CmpOp} {r : R2} (ho : OpR X (compareOp op) r) (ha : PE X a ta) (hb : PE X b tb) (hm : behindInMarks op b = false) : PE X (.Compare a [op] [b] pos) (tOp r ta tb) := by
  intro pins s σ H Q I h
  exact wpAny_Compare1 (binT ha hb I h fun v u s2 x y H2 I2 rx ry q => ho pins s2 σ H2 x y v u Q I2 rx ry q) hm
/-- a reading of a value as a test -/
def tTest (t : TE) : TT := fun σ H Q => t σ H fun x H' => ∃ k, x = .bl k ∧ Q k H'
theorem pt_cmpR {op : CmpOp} {r : R2} (ho : OpR X (compareOp op) r) (ha : PE X a ta) (hb : PE X b tb) (hm : behindInMarks op b = false) : PT X (.Compare a [op] [b] pos) (tTest (tOp r ta tb)) := by
  intro pins s σ H Q I h
  refine wpAny_isTrue_Compare1 (thn (ha pins s σ H _ I h) fun v s1 ⟨x, H1, I1, r1, q1⟩ => thn (hb pins s1 σ H1 _ I1 q1) fun u s2 ⟨y, H2, I2, r2, q2⟩ =>
    thn (ho pins s2 σ H2 x y v u _ I2 r1 r2 q2) fun c s3 ⟨z, H3, I3, r3, k, e, q3⟩ => ?_) hm
  subst e
  cases r3
  exact wpAny_truthy_bool ⟨H3, I3, q3⟩
/-- a op1 b op2 c -/
def tChain (r r' : R2) (ta tb tc : TE) : TE := fun σ H Q => ta σ H fun x H1 => tb σ H1 fun y H2 => r x y H2 fun z H3 => ∃ k, z = .bl k ∧
  (if k = true then tc σ H3 fun w' H4 => r' y w' H4 Q else Q (.bl false) H3)
/-! ### truth -/
/-- a value's truth by the abstract heap -/
def TruV (K : PySem.W.Frag) (x : V) (H : Hp) (k : Bool) : Prop :=
  match x with
  | .non => k = false
  | .bl b => k = b
  | .int i => k = (i != 0)
  | .str y => y.length ≤ sizeLine ∧ k = ((y.length : Int) != 0)
  | .byt y => y.size ≤ sizeLine ∧ k = ((y.size : Int) != 0)
  | .ref p => (∃ xs, SqL K H p xs ∧ k = !xs.isEmpty) ∨ (∃ xs, SqT K H p xs ∧ k = !xs.isEmpty) ∨ ∃ kvs, H p = some (.dK kvs) ∧ k = !kvs.isEmpty
  | _ => False
theorem isEmpty_kv {κ : Type} {kvs : List (κ × V)} {vs : List (κ × Value)} (r : KV kvs vs) : (!vs.isEmpty) = !kvs.isEmpty := by
  cases r <;> rfl
theorem isEmpty_of {xs : List V} {its : List Value} (r : Vals xs its) : (!its.toArray.isEmpty) = !xs.isEmpty := by
  cases r <;> simp
theorem line63 : (sizeLine : Nat) < 2 ^ 63 := by rw [sizeLine_eq]; decide
theorem tru_ok : TruR X (fun x H Q => ∃ k, TruV X.K x H k ∧ Q k H) := by
  intro pins s σ H x v Q I rx h
  obtain ⟨k, e, q⟩ := h
  have hl := line63
  have hs : sizeLine = 16777216 := sizeLine_eq
  cases x with
  | non =>
    cases rx
    have e' : k = false := e
    subst e'
    exact truthy_none ⟨H, I, q⟩
  | bl b =>
    cases rx
    have e' : k = b := e
    subst e'
    exact wpAny_truthy_bool ⟨H, I, q⟩
  | int i =>
    obtain ⟨t, rfl⟩ := rx
    have e' : k = (i != 0) := e
    subst e'
    exact PySem.P.truthy_int ⟨H, I, q⟩
  | str y =>
    obtain ⟨t, rfl⟩ := rx
    obtain ⟨hy, e'⟩ : y.length ≤ sizeLine ∧ k = ((y.length : Int) != 0) := e
    subst e'
    exact PySem.P.truthy_str (by (first | lia | omega)) ⟨H, I.tok _, q⟩
  | byt y =>
    obtain ⟨t, rfl⟩ := rx
    obtain ⟨hy, e'⟩ : y.size ≤ sizeLine ∧ k = ((y.size : Int) != 0) := e
    subst e'
    exact PySem.W.truthy_bytes (by (first | lia | omega)) ⟨H, I.tok _, q⟩
  | ref p =>
    cases rx
    have e' : (∃ xs, SqL X.K H p xs ∧ k = !xs.isEmpty) ∨ (∃ xs, SqT X.K H p xs ∧ k = !xs.isEmpty) ∨ ∃ kvs, H p = some (.dK kvs) ∧ k = !kvs.isEmpty := e
    rcases e' with ⟨xs, hx, e'⟩ | ⟨xs, hx, e'⟩ | ⟨kvs, hx, e'⟩
    · subst e'
      obtain ⟨its, r, pl, hz⟩ := I.list hx
      have hlen := r.length
      exact wpAny_truthy_list pl.isList (by simp only [List.size_toArray]; (first | lia | omega)) ⟨H, I.tok _, by rw [isEmpty_of r]; exact q⟩
    · subst e'
      obtain ⟨its, r, pl, hz⟩ := I.tuple hx
      have hlen := r.length
      exact truthy_tuple pl (by simp only [List.size_toArray]; (first | lia | omega)) ⟨H, I.tok _, by rw [isEmpty_of r]; exact q⟩
    · subst e'
      obtain ⟨hz, hS, vs, r, m⟩ : kvs.length ≤ sizeLine ∧ (p == sysModules) = false ∧ ∃ vs, KV kvs vs ∧ s.heap.DictOf (mixKind X.prog X.w) p vs := I.hok p _ hx
      have hlen : kvs.length = vs.length := Paired.length r
      exact wpAny_truthy_dict hS m (by (first | lia | omega)) ⟨H, I.tok _, by rw [isEmpty_kv r]; exact q⟩
  | _ => exact (show False from e).elim
/-- any expression whose test is its value's truth (a name, a call, a subscript, a field ..: he by fun _ => rfl) -/
theorem pt_truth (ha : PE X a ta) (he : ∀ whole, isTrue a X.env whole = (do let v ← whole; standAt a.pos; holding [v] (truthy v))) :
    PT X a (fun σ H Q => ta σ H fun x H' => ∃ k, TruV X.K x H' k ∧ Q k H') := by
  intro pins s σ H Q I h
  exact isTrue_plain (thn (ha pins s σ H _ I h) fun v s1 ⟨x, H1, I1, r1, q1⟩ => tru_ok pins s1 σ H1 x v Q I1 r1 q1) (he _)

/-! ### strs and bytes -/
theorem op_add_str : OpR X (binaryOp .Add) (fun x y H Q => ∃ i j, x = .str i ∧ y = .str j ∧ i.length + j.length ≤ sizeLine ∧ Q (.str (i ++ j)) H) := by
  intro pins s σ H x y v u Q I rx ry h
  obtain ⟨i, j, rfl, rfl, hz, q⟩ := h
  obtain ⟨t, rfl⟩ := rx
  obtain ⟨t', rfl⟩ := ry
  exact add_str (fun t' tk => ⟨.str (i ++ j), H, I.tok _, ⟨_, rfl⟩, q⟩) hz
/-! ### scalar builtins, by CallR -/
theorem vals1 {x : V} {us : List Value} (r : Vals [x] us) : ∃ u, us = [u] ∧ RelV x u := by
  cases r with
  | cons r1 r2 => cases r2; exact ⟨_, rfl, r1⟩
theorem vals2 {x y : V} {us : List Value} (r : Vals [x, y] us) : ∃ u w', us = [u, w'] ∧ RelV x u ∧ RelV y w' := by
  cases r with
  | cons r1 r2 =>
    cases r2 with
    | cons r3 r4 => cases r4; exact ⟨_, _, rfl, r1, r3⟩
theorem call_max2 (hc : X.calm = true) : CallR X (.builtin "max") (fun xs H Q => ∃ i j, xs = [.int i, .int j] ∧ Q (.int (if j > i then j else i)) H) := by
  intro pins s σ H xs us Q I r h
  obtain ⟨i, j, rfl, q⟩ := h
  obtain ⟨u, w', rfl, ⟨t, rfl⟩, ⟨t', rfl⟩⟩ := vals2 r
  refine max_two_ints (I.ok.hd hc) fun h' tk k => ⟨_, H, I.kept k, ?_, q⟩
  by_cases hj : j > i
  · rw [if_pos hj, if_pos hj]; exact ⟨_, rfl⟩
  · rw [if_neg hj, if_neg hj]; exact ⟨_, rfl⟩
theorem call_str_int : CallR X (.type "str") (fun xs H Q => ∃ i, xs = [.int i] ∧ i.natAbs.log2 < 1920 ∧ Q (.str (toString i)) H) := by
  intro pins s σ H xs us Q I r h
  obtain ⟨i, rfl, hz, q⟩ := h
  obtain ⟨u, rfl, t, rfl⟩ := vals1 r
  exact PySem.P.str_of_int hz ⟨.str _, H, I.tok _, ⟨_, rfl⟩, q⟩
end
end L2

namespace L2
open PySem PySem.Spec PyProof.Rows

/-! ### an instance, its attributes a map -/
section
variable {prog : Program} {w : World} {A : Around} {E : Value → Shared → Prop} {s : Shared} {K : PySem.W.Frag} {x dx C f : Addr} {mA : Str → Option Value} {name : Str} {v : Value}

end

/-! ### the attributes as a list of pairs -/
theorem RelO.some_of {v : V} {o : Option Value} (r : RelO (some v) o) : ∃ u, o = some u ∧ RelV v u := by
  cases o with
  | none => exact (show False from r).elim
  | some u => exact ⟨u, rfl, r⟩
theorem RelO.none_of {o : Option Value} (r : RelO none o) : o = none := by
  cases o with
  | none => rfl
  | some u => exact (show False from r).elim
section
variable {P : Program} {w : World} {H H' : Hp} {h h' : Heap} {a C dx : Addr} {fs fs' : List (Str × V)}
end

/-! ### what of the text a class must have -/
structure Cls (K : PySem.W.Frag) (C : Addr) : Prop where
  pg : PySem.W.plainGet K C Str.empty = true
  hd : PySem.W.hasDictIn K C = true
  po : PySem.W.plainOver K C = true
  sa : PySem.W.findIn K (.ref C) "__setattr__" = some (some (.builtin "object.__setattr__"))
theorem Cls.get {K : PySem.W.Frag} {C : Addr} (c : Cls K C) (f : Str) : PySem.W.plainGet K C f = true := c.pg
section
variable {X : Cx} {pins : List (Addr × Obj)} {σ : St} {H : Hp} {s : Shared} {a C dx : Addr} {fs : List (Str × V)} {f : Str} {v : V} {A : Around} {E : Value → Shared → Prop}

end

/-! ### readings and rules -/
section
variable {X : Cx} {o e value : Expr} {f : Str} {pos pos' tpos : Pos} {ta tv : TE}
end

/-! ### isinstance -/
section
variable {X : Cx} {pins : List (Addr × Obj)} {σ : St} {H : Hp} {s : Shared} {A : Around} {E : Value → Shared → Prop} {Q : Value → Shared → Prop} {c : Value} {b : Bool}
/-- the type of a value, as the fragment's deciders take it; for an instance its class -/
inductive TyOf (K : PySem.W.Frag) (H : Hp) : V → Value → Prop where
  | non : TyOf K H .non (.type "NoneType")
  | bl (x : Bool) : TyOf K H (.bl x) (.type "bool")
  | int (i : Int) : TyOf K H (.int i) (.type "int")
  | str (x : Str) : TyOf K H (.str x) (.type "str")
  | flt (x : UInt64) : TyOf K H (.flt x) (.type "float")
  | lst {a : Addr} {xs : List V} (e : H a = some (.lst xs)) : TyOf K H (.ref a) (.type "list")
  | frz {a : Addr} {o : Obj} {xs : List V} (e : H a = some (.frz o (.lst xs))) : TyOf K H (.ref a) (.type "list")
  | tup {a : Addr} {xs : List V} (e : H a = some (.tup xs)) : TyOf K H (.ref a) (.type "tuple")
  | dK {a : Addr} {kvs : List (Key × V)} (e : H a = some (.dK kvs)) : TyOf K H (.ref a) (.type "dict")
  | dT {a : Addr} {kvs : List (List Key × V)} (e : H a = some (.dT kvs)) : TyOf K H (.ref a) (.type "dict")
  | ins {a C dx : Addr} {fs : List (Str × V)} (e : H a = some (.ins C dx fs)) (cl : Cls K C) (ha : PySem.W.findIn K (.ref C) "__class__" = some (some (.builtin "object.__class__")))
      (hn : PySem.W.specialIn K (.builtin "object.__class__") "__get__" = some (some (.builtin "getset_descriptor.__get__"))) (htk : PySem.W.takesIn K (.builtin "object.__class__") = some true)
      (hm : PySem.W.mroIn K C (.type "object") = some true) : TyOf K H (.ref a) (.ref C)
end
end L2

namespace L2
open PySem PySem.Spec PyProof.Rows

/-! ### room -/
structure Room (k : Nat) (A : Around) : Prop where
  hd : A.handled = none
  dp : A.depth + 3 * k + 5 < recursionLimit
  un : A.units + 16 * k + 200 < cLine
theorem Room.mono {j k : Nat} {A : Around} (r : Room k A) (h : j ≤ k) : Room j A := ⟨r.hd, by have := r.dp; (first | lia | omega), by have := r.un; (first | lia | omega)⟩
theorem Room.deeper {k : Nat} {A : Around} (r : Room (k + 1) A) (env : Env) : Room k (A.deeper env) :=
  ⟨r.hd, by have := r.dp; show A.depth + 1 + 3 * k + 5 < _; (first | lia | omega), by have := r.un; show A.units + 3 + 16 * k + 200 < _; (first | lia | omega)⟩
theorem Room.in1 {k : Nat} {A : Around} (r : Room (k + 1) A) : Room k A.in1 :=
  ⟨r.hd, by have := r.dp; show A.depth + 3 * k + 5 < _; (first | lia | omega), by have := r.un; show A.units + 1 + 16 * k + 200 < _; (first | lia | omega)⟩
theorem make_depth {A : Around} {C : Addr} {us : List Value} {kw : List (Str × Value)} : (A.under (.builtin "type.__call__" ⟨.ref C :: us, kw⟩)).depth = A.depth + 1 := by
  first | rfl | simp [Around.under, Code.weight, Code.isCreation, Code.isGuard, Code.isCaller, Code.frames, Code.isFrame, guardIds]
theorem make_units {A : Around} {C : Addr} {us : List Value} {kw : List (Str × Value)} : (A.under (.builtin "type.__call__" ⟨.ref C :: us, kw⟩)).units = A.units + 1 := by
  first | rfl | simp [Around.under, Code.cUnits, Code.frames, Code.isFrame]
theorem Room.make {k : Nat} {A : Around} (r : Room (k + 1) A) (C : Addr) (us : List Value) (kw : List (Str × Value)) : Room k (A.under (.builtin "type.__call__" ⟨.ref C :: us, kw⟩)) :=
  ⟨r.hd, by have := r.dp; rw [make_depth]; (first | lia | omega), by have := r.un; rw [make_units]; (first | lia | omega)⟩
theorem Room.depth {k : Nat} {A : Around} (r : Room k A) : A.depth < recursionLimit := by have := r.dp; (first | lia | omega)
theorem Room.units {k : Nat} {A : Around} (r : Room k A) : A.units + 64 < cLine := by have := r.un; (first | lia | omega)
/-! ### argument lists and displays -/
def tNil : TA := fun _ H Q => Q [] H
def tCons (ta : TE) (tr : TA) : TA := fun σ H Q => ta σ H fun x H1 => tr σ H1 fun xs H2 => Q (x :: xs) H2
section
variable {X : Cx} {e : Expr} {es : List Expr} {te : TE} {t : TA} {pos : Pos}
theorem pa_nil : PA X [] tNil := fun _ _ _ _ H Q I h => Calls.spliced_nil ⟨[], H, I, .nil, h⟩
theorem pa_cons (ha : PE X e te) (hr : PA X es t) (hs : starEach (e :: es) X.env = (false, eval e X.env) :: starEach es X.env := by rfl) : PA X (e :: es) (tCons te t) := by
  intro pos pins s σ H Q I h
  rw [hs]
  show wpAny _ _ (spliced ((false, eval e X.env) :: backTo pos (starEach es X.env))) _ _ s
  refine Calls.spliced_cons (thn (ha pins s σ H _ I h) fun u s1 ⟨x, H1, I1, r1, q1⟩ => ?_)
  exact thn (hr pos pins s1 σ H1 _ I1 q1) fun us s2 ⟨xs, H2, I2, r2, q2⟩ => ⟨x :: xs, H2, I2, .cons r1 r2, q2⟩

/-- a tuple, a list of written items -/
def tTup (t : TA) : TE := fun σ H Q => t σ H fun xs H1 => xs.length ≤ sizeLine ∧ ∀ p, H1 p = none → Q (.ref p) (upd H1 p (.tup xs))
def tLst (t : TA) : TE := fun σ H Q => t σ H fun xs H1 => xs.length ≤ sizeLine ∧ ∀ p, H1 p = none → Q (.ref p) (upd H1 p (.lst xs))
theorem pe_tup {x1} (h : PA X es t) : PE X (.Tuple es x1 pos) (tTup t) := by
  intro pins s σ H Q I hq
  refine wpAny_Tuple_spliced (thn (h pos pins s σ H _ I hq) fun us s1 ⟨xs, H1, I1, r, z, q⟩ => ⟨by rw [← r.length]; exact z, ?_⟩)
  have hf : H1 s1.heap.objs.size = none := I1.hok.fresh (Nat.le_refl _)
  refine ⟨.ref s1.heap.objs.size, upd H1 s1.heap.objs.size (.tup xs), I1.laid (t' := s1.toks) (fun b u e => Heap.get?_push_of_some _ e) (Nat.le_refl _) ?_, rfl, q _ hf⟩
  exact ⟨z, us, r, ⟨_, Heap.get?_push_size _ rfl, rfl, _, rfl⟩⟩
theorem pe_lst (h : PA X es t) : PE X (.List es pos) (tLst t) := by
  intro pins s σ H Q I hq
  refine wpAny_List_spliced (thn (h pos pins s σ H _ I hq) fun us s1 ⟨xs, H1, I1, r, z, q⟩ => ⟨by rw [← r.length]; exact z, ?_⟩)
  have hf : H1 s1.heap.objs.size = none := I1.hok.fresh (Nat.le_refl _)
  refine ⟨.ref s1.heap.objs.size, upd H1 s1.heap.objs.size (.lst xs), I1.laid (t' := s1.toks) (fun b u e => Heap.get?_push_of_some _ e) (Nat.le_refl _) ?_, rfl, q _ hf⟩
  exact ⟨z, us, 0, r, Heap.get?_push_size _ rfl⟩
end

/-! ### what a def promises -/
/-- a def's promise: the bound arguments in the parameters' order, the heap, the wanted end, the wanted exception -/
abbrev Sp := List V → Hp → VK → XK → Prop
/-- how an exception lies behind a call (file 08 gives it): the callers' frames, abstract heap and state ahead of the call, the wish, the exception, the state -/
abbrev CXT := List Env → Hp → Shared → XK → Value → Shared → Prop

/-- the state at a call -/
structure Env0 (P : Program) (w : World) (K : PySem.W.Frag) (mg : Str → Option Value) (base : Heap) (A : Around) (outer : List Env) (s : Shared) (H : Hp) : Prop where
  frames : A.frames = some outer
  mod : Mod K mg base
  bs : ∀ b o, base.get? b = some o → s.heap.get? b = some o ∧ H b = none
  bsz : base.objs.size ≤ s.heap.objs.size
  funs : s.heap.FunFrames base outer
  frf : ∀ b ∈ frs outer, H b = none
  hok : HOk P w H s.heap
  bare : AllBare s.gens
/-- a call's end -/
def CE (outer : List Env) (P : Program) (w : World) (H : Hp) (s : Shared) (Q : VK) (u : Value) (s' : Shared) : Prop :=
  ∃ v H', s'.os = s.os ∧ AllBare s'.gens ∧ Un (frs outer) [] H H' s.heap s'.heap ∧ HOk P w H' s'.heap ∧ RelV v u ∧ Q v H'
def CR (CX : CXT) (outer : List Env) (P : Program) (w : World) (H : Hp) (s : Shared) (Q : VK) (E : XK) (r : Result) (s' : Shared) : Prop :=
  match r with
  | .ok (.ret u) => CE outer P w H s Q u s'
  | .ok _ => False
  | .error e => CX outer H s E e s'
structure FnOk (P : Program) (w : World) (K : PySem.W.Frag) (mg : Str → Option Value) (base : Heap) (CX : CXT) (k : Nat) (f : Addr) (fd : FuncData) (ps : List Str) (sp : Sp) : Prop where
  len : ∀ vs H Q E, sp vs H Q E → vs.length = ps.length
  run : ∀ (A : Around) (outer : List Env) (s : Shared) (H : Hp) (args : Args) (us : List Value) (vs : List V) (Q : VK) (E : XK), Room k A → Env0 P w K mg base A outer s H → BindsTo s fd args (ps.zip us) → Vals vs us → sp vs H Q E →
    codeAny (model P w) A (.call (.ref f) args) (CR CX outer P w H s Q E) s
theorem FnOk.mono {P : Program} {w : World} {K : PySem.W.Frag} {mg : Str → Option Value} {base : Heap} {CX : CXT} {j k : Nat} {f : Addr} {fd : FuncData} {ps : List Str} {sp : Sp} (F : FnOk P w K mg base CX j f fd ps sp) (h : j ≤ k) :
    FnOk P w K mg base CX k f fd ps sp := ⟨F.len, fun A outer s H args us vs Q E hr => F.run A outer s H args us vs Q E (hr.mono h)⟩
/-- a weaker promise -/
theorem FnOk.imp {P : Program} {w : World} {K : PySem.W.Frag} {mg : Str → Option Value} {base : Heap} {CX : CXT} {k : Nat} {f : Addr} {fd : FuncData} {ps : List Str} {sp sp' : Sp} (F : FnOk P w K mg base CX k f fd ps sp)
    (h : ∀ vs H Q E, sp' vs H Q E → sp vs H Q E) : FnOk P w K mg base CX k f fd ps sp' :=
  ⟨fun vs H Q E q => F.len vs H Q E (h _ _ _ _ q), fun A outer s H args us vs Q E hr he hb hv hs => F.run A outer s H args us vs Q E hr he hb hv (h _ _ _ _ hs)⟩

theorem Env0.make {P : Program} {w : World} {K : PySem.W.Frag} {mg : Str → Option Value} {base : Heap} {A : Around} {outer : List Env} {s : Shared} {H : Hp} (e : Env0 P w K mg base A outer s H) (C : Addr) (us : List Value) (kw : List (Str × Value)) :
    Env0 P w K mg base (A.under (.builtin "type.__call__" ⟨.ref C :: us, kw⟩)) outer s H := ⟨by first | exact e.frames | (simpa [Around.under, Code.envs, Code.isFrame, pushEnvs] using e.frames), e.mod, e.bs, e.bsz, e.funs, e.frf, e.hok, e.bare⟩
theorem Env0.in1 {P : Program} {w : World} {K : PySem.W.Frag} {mg : Str → Option Value} {base : Heap} {A : Around} {outer : List Env} {s : Shared} {H : Hp} (e : Env0 P w K mg base A outer s H) :
    Env0 P w K mg base A.in1 outer s H := ⟨e.frames, e.mod, e.bs, e.bsz, e.funs, e.frf, e.hok, e.bare⟩

section
variable {X : Cx} {pins : List (Addr × Obj)} {σ : St} {H : Hp} {s s' : Shared}
/-- from a body: what a callee wants -/
theorem Inv.env0 (I : Inv X pins σ H s) : Env0 X.prog X.w X.K X.mg X.base X.A X.stack s H :=
  ⟨I.ok.frames, I.ok.mod, I.bs, Nat.le_trans I.ok.bsz I.sz, I.stack, I.stkFree, I.hok, I.bare⟩
/-- behind a call -/
theorem Inv.after {Q : VK} {u : Value} (I : Inv X pins σ H s) (h : CE X.stack X.prog X.w H s Q u s') : EP X pins σ Q u s' := by
  obtain ⟨v, H', os, bare, un, hok, r, q⟩ := h
  obtain ⟨hh, g, d, t, os'⟩ := s'
  obtain rfl : os' = s.os := os
  exact ⟨v, H', I.call (h' := hh) (g' := g) (d' := d) (t' := t) (ch := []) un hok bare (fun b z => absurd z (by simp)), r, q⟩
end

/-! ### calls -/
/-- f(..): the written arguments, then the defaults dvs; E: what is wanted of an exception -/
def tCall (sp : Sp) (dvs : List V) (E : XK) (t : TA) : TE := fun σ H Q => t σ H fun vs H1 => sp (vs ++ dvs) H1 Q E
/-- how the parameters are bound: us the positional arguments, kw the keywords' values by name, ds the defaults that fill up -/
def Binds (K : PySem.W.Frag) (fd : FuncData) (ps : List Str) (ds : List Value) : Prop :=
  ∀ (s : Shared) (us : List Value), K.In s.heap → (us ++ ds).length = ps.length → BindsTo s fd ⟨us, []⟩ (ps.zip (us ++ ds))
/-- every parameter is given -/
theorem Binds.all {K : PySem.W.Frag} {fd : FuncData} {ps : List Str} (h : ∀ us : List Value, us.length = ps.length → bindArgs fd ⟨us, []⟩ = pure (ps.zip us)) : Binds K fd ps [] := fun s us _ hl => by
  rw [List.append_nil] at hl ⊢
  exact .of_eq (h us hl)

/-- an exception of a callee reaches what this body wants of exceptions -/
def Passes (CX : CXT) (X : Cx) (E : XK) : Prop := ∀ (pins : List (Addr × Obj)) (σ : St) (H : Hp) (s : Shared) (e : Value) (s' : Shared), Inv X pins σ H s → CX X.stack H s E e s' → X.xe e s'

section
variable {X : Cx} {CX : CXT} {k : Nat} {f C : Addr} {fd : FuncData} {ps : List Str} {sp : Sp} {dvs : List V} {ds : List Value} {E : XK} {x m : Str} {p pos apos : Pos} {e o : Expr} {es : List Expr} {ta : TE} {t : TA}

/-- the callee runs -/
theorem run_fn {pins : List (Addr × Obj)} {σ : St} {H : Hp} {s : Shared} {Q : VK} {us : List Value} {vs : List V} (F : FnOk X.prog X.w X.K X.mg X.base CX k f fd ps sp) (hr : Room k X.A) (hb : Binds X.K fd ps ds) (hd : Vals dvs ds) (hx : Passes CX X E)
    (I : Inv X pins σ H s) (r : Vals vs us) (h : sp (vs ++ dvs) H Q E) : wpAny (model X.prog X.w) X.A (call (.ref f) us) (EP X pins σ Q) X.xe s := by
  have r2 : Vals (vs ++ dvs) (us ++ ds) := r.append hd
  have hl : (us ++ ds).length = ps.length := by rw [← r2.length]; exact F.len _ _ _ _ h
  refine wpAny_call (codeAny_mono (F.run X.A X.stack s H ⟨us, []⟩ (us ++ ds) (vs ++ dvs) Q E hr I.env0 (hb s us I.kIn hl) r2 h) fun r s' hq => ?_)
  cases r with
  | error e => exact hx pins σ H s e s' I hq
  | ok fl =>
    cases fl with
    | ret u => exact I.after hq
    | next => exact False.elim hq
    | brk => exact False.elim hq
    | cont => exact False.elim hq

theorem pe_call (F : FnOk X.prog X.w X.K X.mg X.base CX k f fd ps sp) (hr : Room k X.A) (hg : Gl X x) (hm : X.mg x = some (.ref f)) (hk : PySem.W.keepIn X.K (.ref f) = true) (hb : Binds X.K fd ps ds) (hd : Vals dvs ds) (hx : Passes CX X E)
    (ha : PA X (e :: es) t) (hdb : (x == ("__debug__" : Str)) = false := by decide) (he : starEach (e :: es) X.env = (false, eval e X.env) :: starEach es X.env := by rfl) (hpl : (backTo pos (starEach es X.env)).any (·.1) = false := by rfl) :
    PE X (.Call (.Name x p) (e :: es) [] pos) (tCall sp dvs E t) := by
  intro pins s σ H Q I h
  refine wpAny_Call_Name_kw (ld_glob I hg hm ?_ hdb)
  refine PySem.W.callWith_K (h₀ := X.base) I.ok.mod.kin hk (thn (ha pos pins s σ H _ I h) fun us s1 ⟨vs, H1, I1, r, q⟩ => ⟨I1.kIn, ?_⟩) he hpl
  exact run_fn F hr hb hd hx I1 r q
end

/-! ### keywords -/
section
variable {X : Cx} {CX : CXT} {k : Nat} {f C : Addr} {fd : FuncData} {ps ks : List Str} {sp : Sp} {E : XK} {x m : Str} {p pos apos kpos : Pos} {e o : Expr} {es : List Expr} {kws : List Keyword} {te ta : TE} {t tk : TA} {nm : Option Str}
variable {g : List Value → List Value → List Value} {gV : List V → List V → List V}
end

/-! ### a def's body keeps its promise -/
/-- names: the parameters first -/
structure FnScope (N P : List Str) (sc : Scope) : Prop where
  kind : sc.kind = .function
  co : sc.isCoroutine = false
  gen : sc.isGenerator = false
  nd : N.Nodup
  pre : N.take P.length = P
  par : ∀ x ∈ P, sc.names.lookup x = some .local ∨ sc.names.lookup x = some .cell
  nofree : ∀ y ∈ sc.names, y.2 ≠ .free

theorem bindL_out {kindOf : Str → Option NameKind} {x : Str} : ∀ {binds : List (Str × Value)} {m : Str → Option Value}, (∀ v, (x, v) ∉ binds) → bindL kindOf binds m x = m x
  | [], _, _ => rfl
  | (n, v) :: r, m, h => by
    unfold bindL
    rw [bindL_out fun w hw => h w (List.mem_cons_of_mem _ hw)]
    split
    · have : x ≠ n := by rintro rfl; exact h v List.mem_cons_self
      simp [this]
    · rfl
theorem bindC_out {kindOf : Str → Option NameKind} {x : Str} : ∀ {binds : List (Str × Value)} {m : Str → Option Value}, (∀ v, (x, v) ∉ binds) → bindC kindOf binds m x = m x
  | [], _, _ => rfl
  | (n, v) :: r, m, h => by
    unfold bindC
    rw [bindC_out fun w hw => h w (List.mem_cons_of_mem _ hw)]
    split
    · rfl
    · have : x ≠ n := by rintro rfl; exact h v List.mem_cons_self
      simp [this]
theorem bindL_get {kindOf : Str → Option NameKind} {x : Str} {v : Value} : ∀ {P : List Str} {vs : List Value} {i : Nat} {m : Str → Option Value}, P.Nodup → P[i]? = some x → vs[i]? = some v → kindOf x = some .local →
    bindL kindOf (P.zip vs) m x = some v
  | [], _, _, _, _, h, _, _ => by simp at h
  | _ :: _, [], _, _, _, _, h, _ => by simp at h
  | p :: P, w :: vs, 0, m, nd, h1, h2, hk => by
    simp at h1 h2; subst h1; subst h2
    show bindL kindOf ((p, w) :: P.zip vs) m p = _
    unfold bindL
    rw [bindL_out fun v hv => (List.nodup_cons.mp nd).1 (List.of_mem_zip hv).1, if_pos hk]
    simp
  | p :: P, w :: vs, i + 1, m, nd, h1, h2, hk => by
    show bindL kindOf ((p, w) :: P.zip vs) m x = _
    unfold bindL
    exact bindL_get (i := i) (List.nodup_cons.mp nd).2 (by simpa using h1) (by simpa using h2) hk
theorem bindC_get {kindOf : Str → Option NameKind} {x : Str} {v : Value} : ∀ {P : List Str} {vs : List Value} {i : Nat} {m : Str → Option Value}, P.Nodup → P[i]? = some x → vs[i]? = some v → kindOf x ≠ some .local →
    bindC kindOf (P.zip vs) m x = some v
  | [], _, _, _, _, h, _, _ => by simp at h
  | _ :: _, [], _, _, _, _, h, _ => by simp at h
  | p :: P, w :: vs, 0, m, nd, h1, h2, hk => by
    simp at h1 h2; subst h1; subst h2
    show bindC kindOf ((p, w) :: P.zip vs) m p = _
    unfold bindC
    rw [bindC_out fun v hv => (List.nodup_cons.mp nd).1 (List.of_mem_zip hv).1, if_neg hk]
    simp
  | p :: P, w :: vs, i + 1, m, nd, h1, h2, hk => by
    show bindC kindOf ((p, w) :: P.zip vs) m x = _
    unfold bindC
    exact bindC_get (i := i) (List.nodup_cons.mp nd).2 (by simpa using h1) (by simpa using h2) hk

/-- the names' values at the entry -/
def start (N : List Str) (vs : List V) : St := vs.map some ++ List.replicate (N.length - vs.length) none

/-- the context of a def's body, at its entry; an exception leaves the frame, then lies as CX says -/
def cxOf (CX : CXT) (P : Program) (w : World) (K : PySem.W.Frag) (mg : Str → Option Value) (base : Heap) (N : List Str) (qual : Str) (scope : Scope) (f : Addr) (cd : Value) (A : Around) (outer : List Env) (s : Shared) (H : Hp) (E : XK) : Cx where
  prog := P
  w := w
  K := K
  mg := mg
  base := base
  A := A.deeper (envOfC qual scope s.heap.objs.size f cd)
  N := N
  s₀ := s
  H₀ := H
  env := envOfC qual scope s.heap.objs.size f cd
  outer := outer
  stack := envOfC qual scope s.heap.objs.size f cd :: outer
  ex := []
  calm := true
  fn := fun _ => true
  pn := []
  xe := fun e s' => wpAny (model P w) (A.deeper (envOfC qual scope s.heap.objs.size f cd)) (leaving (envOfC qual scope s.heap.objs.size f cd) e) (fun _ s'' => CX outer H s E e s'') (fun e' s'' => CX outer H s E e' s'') s'

theorem cell_has {sc : Scope} {n : Nat} {x : Str} (h : sc.names.lookup x = some .cell) : ∃ c, (cellsFrom n sc.names []).lookup x = some c := by
  have q := PySem.W.cellsFrom_some sc.names n [] (.inl h)
  exact Option.isSome_iff_exists.mp q

theorem inv_start {CX : CXT} {P : Program} {w : World} {K : PySem.W.Frag} {mg : Str → Option Value} {base : Heap} {N ps : List Str} {qual : Str} {scope : Scope} {f : Addr} {cd : Value} {A : Around} {outer : List Env} {s s1 : Shared} {H : Hp} {E : XK} {us : List Value} {vs : List V}
    (S : FnScope N ps scope) (hd : A.handled = none) (e0 : Env0 P w K mg base A outer s H) (hl : vs.length = ps.length) (r : Vals vs us)
    (x : InCallC s s.heap.objs.size (bindL (envOfC qual scope s.heap.objs.size f cd).kindOf (ps.zip us) fun _ => none) (cellsFrom (s.heap.objs.size + 1) scope.names []) (bindC (envOfC qual scope s.heap.objs.size f cd).kindOf (ps.zip us) fun _ => none) s1) :
    Inv (cxOf CX P w K mg base N qual scope f cd A outer s H E) [] (start N vs) H s1 := by
  have hpl : ps.length ≤ N.length := by have := congrArg List.length S.pre; rw [List.length_take] at this; (first | lia | omega)
  obtain ⟨h1, tk, rfl, hk⟩ := x.done
  have noA : ∀ b : Addr, b ∉ (cxOf CX P w K mg base N qual scope f cd A outer s H E).ex := fun b z => absurd (show b ∈ ([] : List Addr) from z) (by simp)
  refine ⟨⟨e0.mod, S.kind, rfl, rfl, Nat.le_refl _, fun y z c h1 h2 => ?_, fun y hy => ?_, fun y c _ h => ?_, fun _ => hd, Around.frames_deeper e0.frames, .inr ⟨rfl, rfl⟩, fun b z => absurd z (noA b), e0.bs, e0.bsz, fun b _ _ => noA b, fun b z => absurd z (noA b), e0.funs, e0.frf⟩,
    rfl, e0.bare, Un.kept hk, ⟨_, x.toInCall.ns, fun i y v h1 h2 h3 => ?_⟩, fun y c h => ⟨_, x.cell y c h⟩, e0.hok.fresh (Nat.le_refl _), fun y c h => ?_, fun p hp => absurd (show p ∈ ([] : List (Addr × Obj)) from hp) (by simp), e0.hok.kept hk, ?_⟩
  · exact name_of_addr x.apart (PySem.mem_of_lookup h1) (PySem.mem_of_lookup h2)
  · have hy : scope.names.lookup y = some .cell ∨ scope.names.lookup y = some .free := hy
    rcases hy with hy | hy
    · exact cell_has hy
    · exact absurd rfl (S.nofree _ (PySem.mem_of_lookup hy))
  · exact Nat.le_of_lt (x.above y c (PySem.mem_of_lookup h))
  · have hi : i < vs.length := by
      unfold start at h2
      by_cases hi : i < vs.length
      · exact hi
      · rw [List.getElem?_append_right (by simpa using hi)] at h2
        rw [List.getElem?_replicate] at h2
        split at h2 <;> cases h2
    have ha : vs[i]? = some v := by
      unfold start at h2
      rw [List.getElem?_append_left (by simpa using hi), List.getElem?_map] at h2
      cases e : vs[i]? with
      | none => rw [e] at h2; cases h2
      | some a => rw [e] at h2; cases h2; rfl
    obtain ⟨u, hu, rv⟩ := r.get ha
    have hp : ps[i]? = some y := by
      rw [← S.pre, List.getElem?_take_of_lt (by (first | lia | omega))]; exact h1
    have ndP : ps.Nodup := by rw [← S.pre]; exact S.nd.sublist (List.take_sublist _ _)
    refine ⟨u, rv, ?_⟩
    rcases S.par y (List.mem_of_getElem? hp) with k | k
    · exact .inl ⟨k, bindL_get ndP hp hu k⟩
    · obtain ⟨c, e⟩ := cell_has (n := s.heap.objs.size + 1) k
      refine .inr ⟨.inl k, c, e, ?_⟩
      have q := x.cell y c e
      rw [bindC_get ndP hp hu (by show scope.names.lookup y ≠ _; rw [k]; decide)] at q
      exact q
  · exact e0.hok.fresh (Nat.le_of_lt (x.above y c (PySem.mem_of_lookup h)))
  · unfold start
    show _ = N.length
    rw [List.length_append, List.length_map, List.length_replicate]
    (first | lia | omega)

/-- THE RULE: a def (or a method) of the text, by its body. The body's reading t is chosen for each entry; it is run at the parameters' values -/
theorem fn_of {CX : CXT} {P : Program} {w : World} {K : PySem.W.Frag} {mg : Str → Option Value} {base : Heap} {k : Nat} {f : Addr} {name qual : Str} {params : Arguments} {body : List Stmt} {scope : Scope} {dV kV doc pm cdv ct oc : Value} {an od : Option Addr}
    {osl : Array (Option Value)} {N ps : List Str} {sp : Sp} (lk : K.lookup f = some ⟨oc, od, .func (PySem.W.fnOf name qual params body scope dV kV doc pm an cdv ct), osl⟩) (hcd : PySem.W.codeIn K cdv qual = true) (S : FnScope N ps scope)
    (len : ∀ vs H Q E, sp vs H Q E → vs.length = ps.length)
    (hbody : ∀ (A : Around) (outer : List Env) (s : Shared) (H : Hp) (vs : List V) (Q : VK) (E : XK), Room k (A.deeper (envOfC qual scope s.heap.objs.size f cdv)) → sp vs H Q E →
      ∃ t, PSs (cxOf CX P w K mg base N qual scope f cdv A outer s H E) body t ∧ t { nx := fun _ H' => Q .non H', rt := Q } (start N vs) H) :
    FnOk P w K mg base CX (k + 1) f (PySem.W.fnOf name qual params body scope dV kV doc pm an cdv ct) ps sp := by
  refine ⟨len, fun A outer s H args us vs Q E hr e0 hb r hsp => ?_⟩
  have hl := len _ _ _ _ hsp
  have KX : K.In s.heap := e0.mod.kin.keeps fun b o e => (e0.bs b o e).1
  have lim : s.heap.NoLimit := e0.mod.nolimit.keeps fun b o e => (e0.bs b o e).1
  have hkind : ∀ y ∈ ps.zip us, scope.names.lookup y.1 = some .local ∨ (scope.names.lookup y.1 = some .cell ∧ ((cellsFrom (s.heap.objs.size + 1) scope.names []).lookup y.1).isSome = true) := fun ⟨n, v⟩ hy => by
    rcases S.par n (List.of_mem_zip hy).1 with q | q
    · exact .inl q
    · exact .inr ⟨q, PySem.W.cellsFrom_some _ _ _ (.inl q)⟩
  refine codeAny_call_function hr.depth (KX _ _ lk) rfl S.co S.gen rfl (PySem.W.codeRec_of KX hcd) (hb _ _ _ _ ?_)
  refine wpAny_newFunctionEnv_cells S.kind hkind fun env he s1 x => ?_
  subst he
  refine ⟨lim.keeps x.toInCall.keep, codeAny_func ?_⟩
  obtain ⟨t, ht, hq⟩ := hbody A outer s H vs Q E (hr.deeper _) hsp
  have I : Inv (cxOf CX P w K mg base N qual scope f cdv A outer s H E) [] (start N vs) H s1 := inv_start S hr.hd e0 hl r x
  refine wpAny_mono (ht [] s1 (start N vs) H _ I hq) (fun fl s' hs => ?_) fun e s' hs => hs
  have fin : ∀ {σ' : St} {H' : Hp} {v : V} {u : Value}, Inv (cxOf CX P w K mg base N qual scope f cdv A outer s H E) [] σ' H' s' → RelV v u → Q v H' → CE outer P w H s Q u s' :=
    fun {σ' H' v u} J rv q => ⟨v, H', J.os, J.bare, J.base, J.hok, rv, q⟩
  cases fl with
  | ret u =>
    obtain ⟨v, σ', H', J, rv, q⟩ := hs
    exact fin J rv q
  | next =>
    obtain ⟨σ', H', J, q⟩ := hs
    exact fin (v := V.non) (u := Value.none) J rfl q
  | brk =>
    obtain ⟨_, _, _, q⟩ := hs
    exact False.elim q
  | cont =>
    obtain ⟨_, _, _, q⟩ := hs
    exact False.elim q
end L2

namespace L2
open PySem PySem.Spec PyProof.Rows
section
variable {X : Cx} {x : Str} {p pos : Pos} {e : Expr} {es : List Expr} {t : TA} {id T : String} {r : List V → Hp → VK → Prop}

def tCB (r : List V → Hp → VK → Prop) (t : TA) : TE := fun σ H Q => t σ H fun vs H1 => r vs H1 Q
/-- f(e, ..), f a built-in function -/
theorem pe_callB (hc : CallR X (.builtin id) r) (hg : Gl X x) (hm : X.mg x = none) (hv : bootBuiltins x = some (.builtin id)) (ha : PA X (e :: es) t) (hn : x ≠ "__name__" := by decide) (hdb : (x == ("__debug__" : Str)) = false := by decide)
    (he : starEach (e :: es) X.env = (false, eval e X.env) :: starEach es X.env := by rfl) (hpl : (backTo pos (starEach es X.env)).any (·.1) = false := by rfl) : PE X (.Call (.Name x p) (e :: es) [] pos) (tCB r t) := by
  intro pins s σ H Q I h
  refine wpAny_Call_Name_kw (ld_blt I hg hm hv ?_ hn hdb)
  exact PyProof.Rows.callWith_builtin1 (thn (ha pos pins s σ H _ I h) fun us s1 ⟨vs, H1, I1, r1, q1⟩ => hc pins s1 σ H1 vs us Q I1 r1 q1) he hpl
/-- T(e, ..), T a built-in type -/
theorem pe_callTy (hc : CallR X (.type T) r) (hg : Gl X x) (hm : X.mg x = none) (hv : bootBuiltins x = some (.type T)) (ha : PA X (e :: es) t) (hn : x ≠ "__name__" := by decide) (hdb : (x == ("__debug__" : Str)) = false := by decide)
    (he : starEach (e :: es) X.env = (false, eval e X.env) :: starEach es X.env := by rfl) (hpl : (backTo pos (starEach es X.env)).any (·.1) = false := by rfl) : PE X (.Call (.Name x p) (e :: es) [] pos) (tCB r t) := by
  intro pins s σ H Q I h
  refine wpAny_Call_Name_kw (ld_blt I hg hm hv ?_ hn hdb)
  exact PyProof.Rows.callWith_type1 (thn (ha pos pins s σ H _ I h) fun us s1 ⟨vs, H1, I1, r1, q1⟩ => hc pins s1 σ H1 vs us Q I1 r1 q1) he hpl
end
end L2

namespace HT
open PySem PyProof.Rows

section
open PySem.SeqAt
open PySem.AutoSeq1 (wpAny_loadPart')
open PySem.MeetsSeq PySem.MeetsSeq2 PySem.MeetsSeq3

end

section
variable {prog : Program} {w : World} {A : Around} {E : Value → Shared → Prop} {s : Shared}

/-! ### t[a:b], not the whole -/
/-- a slice's bound as a place among n (d where it is left out) -/
def sIx (n d : Nat) : Option Int → Nat
  | none => d
  | some v => if v < 0 then (v + (n : Int)).toNat else min v.toNat n
theorem sIx_none (n d : Nat) : sIx n d none = d := rfl
theorem sIx_nat (n d k : Nat) : sIx n d (some (k : Int)) = min k n := by
  show (if (k : Int) < 0 then ((k : Int) + (n : Int)).toNat else min (k : Int).toNat n) = min k n
  rw [if_neg (by (first | lia | omega)), Int.toNat_natCast]
end
end HT

namespace L2
open PySem PySem.Spec PyProof.Rows

/-! ### the parts of a slice -/
abbrev TO := St → Hp → (Option Int → Hp → Prop) → Prop
/-- a slice's part (left out, or an int) -/
def PO (X : Cx) (e : Option Expr) (t : TO) : Prop :=
  ∀ (pins : List (Addr × Obj)) (s : Shared) (σ : St) (H : Hp) (Q : Option Int → Hp → Prop), Inv X pins σ H s → t σ H Q →
    wpAny (model X.prog X.w) X.A (evalPart e X.env) (fun u s' => ∃ o H', Inv X pins σ H' s' ∧ IsPart u o ∧ Q o H') X.xe s
def tNoPart : TO := fun _ H Q => Q none H
def tPart (t : TE) : TO := fun σ H Q => t σ H fun x H1 => ∃ i, x = .int i ∧ Q (some i) H1

theorem intsAre_of {ns : List Int} : ∀ {us : List Value}, Vals (ns.map V.int) us → IntsAre us ns := by
  induction ns with
  | nil => intro us r; rw [List.map_nil] at r; cases r; exact .nil
  | cons n ns ih =>
    intro us r
    rw [List.map_cons] at r
    cases r with
    | cons r1 r2 =>
      obtain ⟨t, e⟩ := r1
      subst e
      exact .cons n t (ih r2)

section
variable {X : Cx} {e : Expr} {te : TE} {lo hi : Option Expr} {tl th : TO} {pos p2 : Pos}

theorem po_none : PO X none tNoPart := by
  intro pins s σ H Q I h
  rw [evalPart_none]
  exact wpAny_pure ⟨none, H, I, .none, h⟩
theorem po_some (h : PE X e te) : PO X (some e) (tPart te) := by
  intro pins s σ H Q I hw
  rw [evalPart_some]
  refine thn (h pins s σ H _ I hw) fun u s1 ⟨x, H1, I1, r1, q1⟩ => ?_
  obtain ⟨i, rfl, q⟩ := q1
  obtain ⟨t, rfl⟩ := r1
  exact ⟨some i, H1, I1, .int i t, q⟩

/-- what a slice of a value is, by values: the slice object stands at sl -/
def SlR (X : Cx) (r : V → Option Int → Option Int → Hp → VK → Prop) : Prop :=
  ∀ (pins : List (Addr × Obj)) (s : Shared) (σ : St) (H : Hp) (x : V) (v vl vu : Value) (lo hi : Option Int) (sl : Addr) (Q : VK), Inv X pins σ H s → RelV x v → s.heap.IsSliceOf sl vl vu .none → IsPart vl lo → IsPart vu hi → r x lo hi H Q →
    ∃ T id, typeLookup (.type T) "__getitem__" = pure (some (.builtin id)) ∧ s.TypeIs v T ∧ wpAny (model X.prog X.w) X.A (getItem v (.ref sl)) (EP X pins σ Q) X.xe s
theorem SlR.or {r r' : V → Option Int → Option Int → Hp → VK → Prop} (h : SlR X r) (h' : SlR X r') : SlR X (fun x lo hi H Q => r x lo hi H Q ∨ r' x lo hi H Q) := by
  intro pins s σ H x v vl vu lo hi sl Q I rx hs pl pu q
  rcases q with q | q
  · exact h pins s σ H x v vl vu lo hi sl Q I rx hs pl pu q
  · exact h' pins s σ H x v vl vu lo hi sl Q I rx hs pl pu q
def tSl (r : V → Option Int → Option Int → Hp → VK → Prop) (te : TE) (tl th : TO) : TE := fun σ H Q => te σ H fun x H1 => tl σ H1 fun l H2 => th σ H2 fun u H3 => r x l u H3 Q
/-- a[lo:hi], any a -/
theorem pe_slice {r : V → Option Int → Option Int → Hp → VK → Prop} (hr : SlR X r) (he : PE X e te) (hl : PO X lo tl) (hu : PO X hi th) : PE X (.Subscript e (.Slice lo hi none p2) pos) (tSl r te tl th) := by
  intro pins s σ H Q I h
  refine Subscript_ (thn (he pins s σ H _ I h) fun v s1 ⟨x, H1, I1, r1, q1⟩ => ?_)
  refine wpAny_Slice (thn (hl pins s1 σ H1 _ I1 q1) fun vl s2 ⟨l, H2, I2, pl, q2⟩ => thn (hu pins s2 σ H2 _ I2 q2) fun vu s3 ⟨u, H3, I3, pu, q3⟩ => ?_)
  rw [evalPart_none]
  refine wpAny_pure ?_
  have I4 : Inv X pins σ H3 { s3 with heap := s3.heap.push { cls := .type "slice", data := .fields #[vl, vu, .none] } } := I3.kept (t' := s3.toks) fun b ob q => Heap.get?_push_of_some _ q
  obtain ⟨T, id, hT, ht, hg⟩ := hr pins { s3 with heap := s3.heap.push { cls := .type "slice", data := .fields #[vl, vu, .none] } } σ H3 x v vl vu l u s3.heap.objs.size Q I4 r1 (Heap.IsSliceOf.new ..) pl pu q3
  show wpAny (model X.prog X.w) X.A (subscriptTail e (.Slice lo hi none p2) v (.ref s3.heap.objs.size)) (EP X pins σ Q) X.xe { s3 with heap := s3.heap.push { cls := .type "slice", data := .fields #[vl, vu, .none] } }
  exact tail_any (ops := [.ref s3.heap.objs.size, v]) ht hT hg (by with_unfolding_all rfl)

/-- the items of xs[lo:hi] -/
def cutV (xs : List V) (lo hi : Option Int) : List V := (xs.drop (HT.sIx xs.length 0 lo)).take (HT.sIx xs.length xs.length hi - HT.sIx xs.length 0 lo)
theorem cutV_length (xs : List V) (lo hi : Option Int) : (cutV xs lo hi).length ≤ xs.length := by
  unfold cutV
  rw [List.length_take, List.length_drop]
  (first | lia | omega)
/-! ### t < u, t + u -/
end
end L2

namespace L2
open PySem PySem.Spec PyProof.Rows

/-! ### places -/
/-- the place that an index of any sign means -/
def ixN (n : Nat) (i : Int) : Option Nat := if 0 ≤ i then (if i < n then some i.toNat else none) else if -(n : Int) ≤ i then some (i + n).toNat else none
def atI {α : Type} (xs : List α) (i : Int) : Option α := (ixN xs.length i).bind fun j => xs[j]?
theorem ixN_seq {n : Nat} {i : Int} {j : Nat} (h : ixN n i = some j) : seqIndex? i n = some j ∧ j < n ∧ -(n : Int) ≤ i ∧ i < n := by
  unfold ixN at h
  by_cases h0 : 0 ≤ i
  · rw [if_pos h0] at h
    by_cases h1 : i < n
    · rw [if_pos h1] at h
      have e : i.toNat = j := Option.some.inj h
      exact ⟨by rw [seqIndex_of h0 h1, e], by (first | lia | omega), by (first | lia | omega), h1⟩
    · rw [if_neg h1] at h; cases h
  · rw [if_neg h0] at h
    by_cases h1 : -(n : Int) ≤ i
    · rw [if_pos h1] at h
      have e : (i + n).toNat = j := Option.some.inj h
      exact ⟨by rw [seqIndex_neg (by (first | lia | omega)) h1, e], by (first | lia | omega), h1, by (first | lia | omega)⟩
    · rw [if_neg h1] at h; cases h
theorem atI_get {α : Type} {xs : List α} {i : Int} {v : α} (h : atI xs i = some v) : ∃ j, seqIndex? i xs.length = some j ∧ xs[j]? = some v ∧ j < xs.length ∧ -(xs.length : Int) ≤ i ∧ i < xs.length := by
  unfold atI at h
  cases e : ixN xs.length i with
  | none => rw [e] at h; cases h
  | some j =>
    rw [e] at h
    obtain ⟨h1, h2, h3, h4⟩ := ixN_seq e
    exact ⟨j, h1, h, h2, h3, h4⟩
theorem atI_nat {α : Type} {xs : List α} {j : Nat} {v : α} (h : xs[j]? = some v) : atI xs (j : Int) = some v := by
  have hj : j < xs.length := (List.getElem?_eq_some_iff.mp h).1
  have e : ixN xs.length (j : Int) = some j := by
    unfold ixN
    rw [if_pos (by (first | lia | omega)), if_pos (by (first | lia | omega))]; simp
  unfold atI; rw [e]; exact h
/-! ### what may be subscripted -/
/-- what stands as an index of a plain subscript -/
def PlainIx (b : Expr) : Prop := ∀ o i, subscripted b false o i = operate [o, i] (getItem o i)
/-- a subscript by values -/
def IxR (X : Cx) (r : R2) : Prop :=
  ∀ (value slice : Expr) (pins : List (Addr × Obj)) (s : Shared) (σ : St) (H : Hp) (x y : V) (v u : Value) (Q : VK), Inv X pins σ H s → RelV x v → RelV y u → r x y H Q →
    subscripted slice false v u = operate [v, u] (getItem v u) → wpAny (model X.prog X.w) X.A (subscriptTail value slice v u) (EP X pins σ Q) X.xe s
/-- a call of a builtin's method by values: the receiver, the arguments -/
def MtR (X : Cx) (id : String) (r : V → List V → Hp → VK → Prop) : Prop :=
  ∀ (pins : List (Addr × Obj)) (s : Shared) (σ : St) (H : Hp) (x : V) (xs : List V) (v : Value) (us : List Value) (Q : VK), Inv X pins σ H s → RelV x v → Vals xs us → r x xs H Q →
    wpAny (model X.prog X.w) X.A (call (.builtin id) (v :: us)) (EP X pins σ Q) X.xe s
section
variable {X : Cx} {a b : Expr} {ta tb : TE} {pos : Pos}
theorem IxR.or {r r' : R2} (h : IxR X r) (h' : IxR X r') : IxR X (fun x y H Q => r x y H Q ∨ r' x y H Q) := by
  intro value slice pins s σ H x y v u Q I rx ry q hs
  rcases q with q | q
  · exact h value slice pins s σ H x y v u Q I rx ry q hs
  · exact h' value slice pins s σ H x y v u Q I rx ry q hs
theorem MtR.or {id : String} {r r' : V → List V → Hp → VK → Prop} (h : MtR X id r) (h' : MtR X id r') : MtR X id (fun x xs H Q => r x xs H Q ∨ r' x xs H Q) := by
  intro pins s σ H x xs v us Q I rx rs q
  rcases q with q | q
  · exact h pins s σ H x xs v us Q I rx rs q
  · exact h' pins s σ H x xs v us Q I rx rs q
/-- a[b] -/
theorem pe_ix {r : R2} (hr : IxR X r) (ha : PE X a ta) (hb : PE X b tb) (hs : PlainIx b) : PE X (.Subscript a b pos) (tOp r ta tb) := by
  intro pins s σ H Q I h
  exact Subscript_ (binT ha hb I h fun v u s2 x y H2 I2 rx ry q => hr a b pins s2 σ H2 x y v u Q I2 rx ry q (hs _ _))

def rIxL (K : PySem.W.Frag) : R2 := fun x y H Q => ∃ p xs i v, x = .ref p ∧ y = .int i ∧ SqL K H p xs ∧ atI xs i = some v ∧ Q v H
def rIxT (K : PySem.W.Frag) : R2 := fun x y H Q => ∃ p xs i v, x = .ref p ∧ y = .int i ∧ SqT K H p xs ∧ atI xs i = some v ∧ Q v H
theorem ix_list : IxR X (rIxL X.K) := by
  intro value slice pins s σ H x y v u Q I rx ry h hs
  obtain ⟨p, xs, i, z, rfl, rfl, hq, he, q⟩ := h
  cases rx
  obtain ⟨t, rfl⟩ := ry
  obtain ⟨its, r, pl, hz⟩ := I.list hq
  obtain ⟨j, h1, h2, h3, h4, h5⟩ := atI_get he
  obtain ⟨w, ew, rw'⟩ := r.get h2
  have hl := r.length
  have hn := line63
  have fin : EP X pins σ Q w s := ⟨z, H, I, rw', q⟩
  by_cases h0 : 0 ≤ i
  · have hj : i.toNat = j := by
      rw [seqIndex_of h0 h5] at h1
      exact Option.some.inj h1
    exact item_listR pl.isList h0 (by (first | lia | omega)) (by rw [hj]; simpa using ew) fin hs
  · have hj : (i + (its.toArray.size : Int)).toNat = j := by
      rw [seqIndex_neg (by (first | lia | omega)) h4] at h1
      rw [List.size_toArray, ← hl]
      exact Option.some.inj h1
    exact subscriptTail_builtinR (x := w) pl.isList.typeIs slot_list_getitem.lookup
      (wpAny_getItem_list_neg (Q := fun r s' => r = w ∧ EP X pins σ Q r s') pl.isList (by (first | lia | omega)) (by rw [List.size_toArray] <;> (first | lia | omega)) (by (first | lia | omega)) (by rw [hj]; simpa using ew) ⟨rfl, fin⟩) hs
theorem ix_tup : IxR X (rIxT X.K) := by
  intro value slice pins s σ H x y v u Q I rx ry h hs
  obtain ⟨p, xs, i, z, rfl, rfl, hq, he, q⟩ := h
  cases rx
  obtain ⟨t, rfl⟩ := ry
  obtain ⟨its, r, pl, hz⟩ := I.tuple hq
  obtain ⟨j, h1, h2, h3, h4, h5⟩ := atI_get he
  obtain ⟨w, ew, rw'⟩ := r.get h2
  have hl := r.length
  have hn := line63
  have fin : EP X pins σ Q w s := ⟨z, H, I, rw', q⟩
  exact subscriptTail_builtinR (x := w) pl.typeIs slot_tuple_getitem.lookup
    (getItem_tuple (j := j) (Q := fun r s' => r = w ∧ EP X pins σ Q r s') pl (by (first | lia | omega)) (by (first | lia | omega)) (by rw [List.size_toArray, ← hl]; exact h1) (by simpa using ew) ⟨rfl, fin⟩) hs
/-! ### xs[i] = v, any sign -/
/-- the list's object behind a store -/
theorem mapSeq_set (its : List Value) (n j : Nat) (u : Value) : Obj.mapSeq (·.setIfInBounds j u) { cls := .type "list", data := .seq its.toArray n } = { cls := .type "list", data := .seq (its.set j u).toArray n } := by
  simp [Obj.mapSeq]
theorem Inv.lst {pins : List (Addr × Obj)} {σ : St} {H : Hp} {s : Shared} {p : Addr} {xs : List V} (I : Inv X pins σ H s) (h : H p = some (.lst xs)) :
    ∃ (its : List Value) (n : Nat), Vals xs its ∧ s.heap.get? p = some { cls := .type "list", data := .seq its.toArray n } ∧ xs.length ≤ sizeLine := by
  obtain ⟨z, its, n, r, e⟩ := I.hok p _ h
  exact ⟨its, n, r, e, z⟩
/-- the list at p is written by an update of its object -/
theorem Inv.lstUpd {pins : List (Addr × Obj)} {σ : St} {H : Hp} {s : Shared} {p : Addr} {xs ys : List V} {its its' : List Value} {n n' : Nat} {f : Obj → Obj} (I : Inv X pins σ H s) (h : H p = some (.lst xs))
    (ho : s.heap.get? p = some { cls := .type "list", data := .seq its.toArray n }) (hf : f { cls := .type "list", data := .seq its.toArray n } = { cls := .type "list", data := .seq its'.toArray n' }) (r : Vals ys its') (hz : ys.length ≤ sizeLine) (t : Nat) :
    Inv X pins σ (upd H p (.lst ys)) { s with heap := s.heap.update p f, toks := t } := by
  have e : (s.heap.update p f).get? p = some { cls := .type "list", data := .seq its'.toArray n' } := by
    rw [Heap.get?_update_self f ho (by rw [hf] <;> rfl), hf]
  refine I.write (x := p) (e := p) (by rw [h]; trivial) (.inl rfl) (fun b u hb q => (Heap.get?_update_other _ _ (Ne.symm hb)).trans q) ⟨_, e⟩ ?_
  exact ⟨hz, its', n', r, e⟩
def rSetL : V → V → V → Hp → (Hp → Prop) → Prop := fun o i v H Q => ∃ p xs k j, o = .ref p ∧ i = .int k ∧ H p = some (.lst xs) ∧ ixN xs.length k = some j ∧ Q (upd H p (.lst (xs.set j v)))
theorem set_list : PSet X rSetL := by
  intro pins s σ H o i v ov iv u Q I ro ri rv h
  obtain ⟨p, xs, k, j, rfl, rfl, hp, hj, q⟩ := h
  cases ro
  obtain ⟨t, rfl⟩ := ri
  obtain ⟨its, n, r, ho, hz⟩ := I.lst hp
  obtain ⟨h1, h2, h3, h4⟩ := ixN_seq hj
  have hl := r.length
  have hn := line63
  have I' : Inv X pins σ (upd H p (.lst (xs.set j v))) { s with heap := s.heap.update p (Obj.mapSeq (·.setIfInBounds j u)) } :=
    I.lstUpd hp ho (mapSeq_set its n j u) (r.set rv j) (by rw [List.length_set]; exact hz) s.toks
  by_cases h0 : 0 ≤ k
  · have hk : k.toNat = j := by
      rw [seqIndex_of h0 h4] at h1
      exact Option.some.inj h1
    exact PySem.W.ki_setAt ho h0 (by (first | lia | omega)) (by rw [List.size_toArray, ← hl]; exact h4) (by rw [hk]; exact ⟨_, I', q⟩)
  · have hk : (k + (its.toArray.size : Int)).toNat = j := by
      rw [seqIndex_neg (by (first | lia | omega)) h3] at h1
      rw [List.size_toArray, ← hl]
      exact Option.some.inj h1
    exact PySem.W.ki_setBack ho (by (first | lia | omega)) (by rw [List.size_toArray, ← hl]; exact h3) (by (first | lia | omega)) (by rw [hk]; exact ⟨_, I', q⟩)

/-! ### slices -/
theorem slice_bounds (lo hi : Option Int) (n : Nat) : (sliceBounds lo hi none n).1 = ((HT.sIx n 0 lo : Nat) : Int) ∧ (sliceBounds lo hi none n).2.1 = ((HT.sIx n n hi : Nat) : Int) ∧ (sliceBounds lo hi none n).2.2 = 1 := by
  refine ⟨?_, ?_, rfl⟩
  · cases lo with
    | none => simp [sliceBounds, HT.sIx]
    | some i =>
      simp only [sliceBounds, HT.sIx, Option.getD_none, show (1 : Int) > 0 by decide, if_true]
      by_cases h : i < 0
      · simp only [h, if_true] <;> (first | lia | omega)
      · simp only [h, if_false] <;> (first | lia | omega)
  · cases hi with
    | none => simp [sliceBounds, HT.sIx]
    | some i =>
      simp only [sliceBounds, HT.sIx, Option.getD_none, show (1 : Int) > 0 by decide, if_true]
      by_cases h : i < 0
      · simp only [h, if_true] <;> (first | lia | omega)
      · simp only [h, if_false] <;> (first | lia | omega)
theorem slicePick_cut (its : List Value) (lo hi : Option Int) : slicePick its.toArray lo hi none = ((its.drop (HT.sIx its.length 0 lo)).take (HT.sIx its.length its.length hi - HT.sIx its.length 0 lo)).toArray := by
  obtain ⟨h1, h2, h3⟩ := slice_bounds lo hi its.toArray.size
  unfold slicePick
  rw [h1, h2, h3]
  simp only [sliceRange_one, pick_run, List.size_toArray] <;> rfl
/-- xs[lo:hi] of a list: a new list -/
def rSlL (K : PySem.W.Frag) : V → Option Int → Option Int → Hp → VK → Prop := fun x lo hi H Q => ∃ a xs, x = .ref a ∧ SqL K H a xs ∧ ∀ p, H p = none → Q (.ref p) (upd H p (.lst (cutV xs lo hi)))
theorem sl_list : SlR X (rSlL X.K) := by
  intro pins s σ H x v vl vu lo hi sl Q I rx hs pl pu h
  obtain ⟨a, xs, rfl, hx, q⟩ := h
  cases rx
  obtain ⟨its, r, ht, hz⟩ := I.list hx
  have hlen := r.length
  refine ⟨"list", _, slot_list_getitem.lookup, ht.isList.typeIs, ?_⟩
  refine wpAny_getItem_list_slice ht.isList hs pl pu .none (by simp) ?_ (by rw [List.size_toArray] <;> (first | lia | omega))
  rw [slicePick_cut, ← hlen]
  refine ⟨.ref s.heap.objs.size, _, I.laid (t' := s.toks) (o := .lst (cutV xs lo hi)) (fun b ob q => Heap.get?_push_of_some _ q) (Nat.le_refl _) ?_, rfl, q _ (I.hok.fresh (Nat.le_refl _))⟩
  exact ⟨Nat.le_trans (cutV_length xs lo hi) hz, _, 0, (r.drop (HT.sIx xs.length 0 lo)).take (HT.sIx xs.length xs.length hi - HT.sIx xs.length 0 lo), Heap.get?_push_size _ rfl⟩

/-! ### in, not in: flat items -/
/-! ### len, list(x), tuple(x) of any list or tuple that is read -/
theorem call_len_seq : CallR X (.builtin "len") (fun xs H Q => ∃ p ys, xs = [.ref p] ∧ (SqL X.K H p ys ∨ SqT X.K H p ys) ∧ Q (.int ys.length) H) := by
  intro pins s σ H xs us Q I r h
  obtain ⟨p, ys, rfl, hq, q⟩ := h
  obtain ⟨u, rfl, rx⟩ := vals1 r
  cases rx
  have hn := line63
  rcases hq with hq | hq
  · obtain ⟨its, r', pl, hz⟩ := I.list hq
    have hlen := r'.length
    exact Calls.call_len_list pl.isList (by simp only [List.size_toArray] <;> (first | lia | omega)) ⟨.int ys.length, H, I.tok _, ⟨s.toks + 1, by rw [List.size_toArray, hlen]⟩, q⟩
  · obtain ⟨its, r', pl, hz⟩ := I.tuple hq
    have hlen := r'.length
    exact len_tuple pl (by simp only [List.size_toArray] <;> (first | lia | omega)) ⟨.int ys.length, H, I.tok _, ⟨s.toks + 1, by rw [List.size_toArray, hlen]⟩, q⟩
theorem CallR.or {f : Value} {r r' : List V → Hp → VK → Prop} (h : CallR X f r) (h' : CallR X f r') : CallR X f (fun xs H Q => r xs H Q ∨ r' xs H Q) := by
  intro pins s σ H xs us Q I rs q
  rcases q with q | q
  · exact h pins s σ H xs us Q I rs q
  · exact h' pins s σ H xs us Q I rs q
theorem call_list_of : CallR X (.type "list") (fun xs H Q => ∃ p ys, xs = [.ref p] ∧ (SqL X.K H p ys ∨ SqT X.K H p ys) ∧ ∀ l, H l = none → Q (.ref l) (upd H l (.lst ys))) := by
  intro pins s σ H xs us Q I r h
  obtain ⟨p, ys, rfl, hq, q⟩ := h
  obtain ⟨u, rfl, rx⟩ := vals1 r
  cases rx
  have fin : ∀ (its : List Value), Vals ys its → ys.length ≤ sizeLine → ∀ (h' : Heap) (c' : Nat), (∀ b o', s.heap.get? b = some o' → h'.get? b = some o') →
      h'.get? s.heap.objs.size = some { cls := .type "list", dict := none, data := .seq its.toArray c', slots := #[] } → EP X pins σ Q (.ref s.heap.objs.size) { s with heap := h' } := fun its r' hz h' c' kp e =>
    ⟨.ref s.heap.objs.size, _, I.laid (t' := s.toks) kp (Nat.le_refl _) (show ObjOk X.prog X.w _ h' _ (.lst ys) from ⟨hz, its, c', r', e⟩), rfl, q _ (I.hok.fresh (Nat.le_refl _))⟩
  rcases hq with hq | hq
  · obtain ⟨its, r', pl, hz⟩ := I.list hq
    have hlen := r'.length
    obtain ⟨o, ho, hc, n, hd⟩ := pl.isList
    exact call_list_seq p (.inl rfl) ho hc hd (fun h' c' kp e => fin its r' hz h' c' kp e) (by simp only [List.size_toArray] <;> (first | lia | omega))
  · obtain ⟨its, r', pl, hz⟩ := I.tuple hq
    have hlen := r'.length
    obtain ⟨o, ho, hc, n, hd⟩ := pl
    exact call_list_seq p (.inr rfl) ho hc hd (fun h' c' kp e => fin its r' hz h' c' kp e) (by simp only [List.size_toArray] <;> (first | lia | omega))
/-! ### the call of a builtin's method: o.m(..) -/
/-- the value is of that builtin type -/
def tyV (K : PySem.W.Frag) (T : String) (x : V) (H : Hp) : Prop := match x with
  | .str _ => T = "str"
  | .int _ => T = "int"
  | .ref p => (T = "list" ∧ ∃ xs, SqL K H p xs) ∨ (T = "tuple" ∧ ∃ o, K.lookup p = some o ∧ o.cls = .type "tuple" ∧ o.dict = none) ∨
      (T = "dict" ∧ ((∃ kvs, H p = some (.dK kvs)) ∨ ∃ kvs, H p = some (.dT kvs))) ∨ (T = "set" ∧ ∃ S n, H p = some (.set S n))
  | _ => False
theorem tyV_is {pins : List (Addr × Obj)} {σ : St} {H : Hp} {s : Shared} {T : String} {x : V} {v : Value} (I : Inv X pins σ H s) (r : RelV x v) (ty : tyV X.K T x H) :
    s.TypeIs v T ∧ ∀ a, v = .ref a → ∃ ob, s.heap.get? a = some ob ∧ ob.dict = none := by
  cases x with
  | str z =>
    obtain ⟨t, rfl⟩ := r
    cases (show T = "str" from ty)
    exact ⟨typeIs_str s z t, fun _ e => nomatch e⟩
  | int i =>
    obtain ⟨t, rfl⟩ := r
    cases (show T = "int" from ty)
    exact ⟨typeIs_int s i t, fun _ e => nomatch e⟩
  | ref p =>
    cases r
    rcases ty with ⟨rfl, xs, hq⟩ | ⟨rfl, o, hk, hc, hd⟩ | ⟨rfl, hk⟩ | ⟨rfl, S, n, hk⟩
    · obtain ⟨its, _, pl, _⟩ := I.list hq
      refine ⟨pl.isList.typeIs, fun a e => ?_⟩
      cases e
      obtain ⟨o, n, e, c, hd, _⟩ := pl
      exact ⟨o, e, hd⟩
    · refine ⟨⟨o, I.kIn p o hk, hc⟩, fun a e => ?_⟩
      cases e
      exact ⟨o, I.kIn _ o hk, hd⟩
    · have z : ∃ o, s.heap.get? p = some o ∧ o.ExactDict := by
        rcases hk with ⟨kvs, hk⟩ | ⟨kvs, hk⟩
        · obtain ⟨_, _, _, _, o, _, _, e, ex, _⟩ := I.hok p _ hk
          exact ⟨o, e, ex⟩
        · obtain ⟨_, _, _, _, o, _, _, e, ex, _⟩ := I.hok p _ hk
          exact ⟨o, e, ex⟩
      obtain ⟨o, e, ex⟩ := z
      refine ⟨⟨o, e, ex.1⟩, fun a e2 => ?_⟩
      cases e2
      exact ⟨o, e, ex.2.1⟩
    · obtain ⟨o, _, _, _, e, ex, _⟩ := I.hok p _ hk
      refine ⟨⟨o, e, ex.1⟩, fun a e2 => ?_⟩
      cases e2
      exact ⟨o, e, ex.2.1⟩
  | _ => exact False.elim ty
def tBM0 (K : PySem.W.Frag) (T : String) (r : V → List V → Hp → VK → Prop) (to : TE) : TE := fun σ H Q => to σ H fun x H1 => tyV K T x H1 ∧ r x [] H1 Q
def tBM (K : PySem.W.Frag) (T : String) (r : V → List V → Hp → VK → Prop) (to : TE) (t : TA) : TE := fun σ H Q => to σ H fun x H1 => tyV K T x H1 ∧ t σ H1 fun xs H2 => r x xs H2 Q
variable {o e : Expr} {es : List Expr} {to : TE} {t : TA} {name : Str} {apos cpos : Pos} {T id : String} {r : V → List V → Hp → VK → Prop}
theorem pe_bm0 (pa : PlainAttrs T) (slot : Slot T name id) (hty : typeOf (.builtin id) = pure (.type "method_descriptor")) (hm : MtR X id r) (ho : PE X o to)
    (hbase : attributeBase o name X.env (eval o X.env) = eval o X.env := by rfl) (hline : (apos.endLine == cpos.line) = true := by rfl) : PE X (.Call (.Attribute o name apos) [] [] cpos) (tBM0 X.K T r to) := by
  intro pins s σ H Q I h
  refine wpAny_Call_method0_late hbase hline (thn (ho pins s σ H _ I h) fun v s1 ⟨x, H1, I1, r1, ty, q1⟩ => ?_)
  obtain ⟨h1, h2⟩ := tyV_is I1 r1 ty
  exact ⟨T, id, pa, slot, hty, h1, h2, Calls.callWith_builtin rfl (PySem.evalArgs_none (hm pins s1 σ H1 x [] v [] Q I1 r1 .nil q1))⟩
theorem pe_bm (pa : PlainAttrs T) (slot : Slot T name id) (hty : typeOf (.builtin id) = pure (.type "method_descriptor")) (hm : MtR X id r) (ho : PE X o to) (ha : PA X (e :: es) t)
    (hbase : attributeBase o name X.env (eval o X.env) = eval o X.env := by rfl)
    (hfew : ((backTo cpos (starEach (e :: es) X.env)).all (fun x => !x.1) && (backToKw cpos (keywordEach [] X.env)).all (fun x => x.1.isSome)
      && decide ((e :: es).length + ([] : List Keyword).length + (if ([] : List Keyword).isEmpty then 0 else 1) < 30)) = true := by rfl)
    (hline : (apos.endLine == cpos.line) = true := by rfl) (hs : starEach (e :: es) X.env = (false, eval e X.env) :: starEach es X.env := by rfl) (hplain : (backTo cpos (starEach es X.env)).any (·.1) = false := by rfl) :
    PE X (.Call (.Attribute o name apos) (e :: es) [] cpos) (tBM X.K T r to t) := by
  intro pins s σ H Q I h
  refine wpAny_Call_method_late hbase hfew hline rfl (thn (ho pins s σ H _ I h) fun v s1 ⟨x, H1, I1, r1, ty, q1⟩ => ?_)
  obtain ⟨h1, h2⟩ := tyV_is I1 r1 ty
  refine ⟨T, id, pa, slot, hty, h1, h2, ?_⟩
  have hA := ha cpos pins s1 σ H1 _ I1 q1
  rw [hs] at hA ⊢
  refine Calls.callWith_builtin (by show (false || (backTo cpos (starEach es X.env)).any (·.1)) = false; rw [hplain] <;> rfl) (Calls.evalArgs_plain ?_)
  exact thn hA fun us s2 ⟨vs, H2, I2, r2, q2⟩ => hm pins s2 σ H2 x vs v us Q I2 r1 r2 q2
/- xs.append(e), list.index on a module's tuple .. are MtR facts of 06m -/
end
end L2

namespace L2
open PySem PySem.Spec PyProof.Rows

def MtM (X : Cx) (id : String) (r : V → List V → Hp → VK → Prop) : Prop :=
  ∀ (pins : List (Addr × Obj)) (s : Shared) (σ : St) (H : Hp) (x : V) (xs : List V) (v : Value) (us : List Value) (Q : VK), Inv X pins σ H s → RelV x v → Vals xs us → r x xs H Q →
    wpAny (model X.prog X.w) X.A (call (.builtin id) (v :: us)) (EP X pins σ Q) X.xe s

/-! ### lists of values -/
theorem Vals.one : ∀ {x : V} {us : List Value}, Vals [x] us → ∃ u, us = [u] ∧ RelV x u
  | _, _, .cons r .nil => ⟨_, rfl, r⟩
theorem Vals.two {x y : V} {us : List Value} (h : Vals [x, y] us) : ∃ u v, us = [u, v] ∧ RelV x u ∧ RelV y v := by
  cases h with
  | cons r h =>
    obtain ⟨v, rfl, q⟩ := Vals.one h
    exact ⟨_, _, rfl, r, q⟩
theorem Vals.zero : ∀ {us : List Value}, Vals [] us → us = []
  | _, .nil => rfl
theorem Vals.dropLast {xs : List V} {us : List Value} (h : Vals xs us) : Vals xs.dropLast us.dropLast := by
  induction h with
  | nil => exact .nil
  | cons r t ih =>
    cases t with
    | nil => exact .nil
    | cons q t' => exact .cons r ih
theorem Vals.eraseIdx : ∀ {xs : List V} {us : List Value} (i : Nat), Vals xs us → Vals (xs.eraseIdx i) (us.eraseIdx i)
  | _, _, _, .nil => .nil
  | _, _, 0, .cons _ t => t
  | _, _, i + 1, .cons r t => .cons r (Vals.eraseIdx i t)
theorem Vals.reverse {xs : List V} {us : List Value} (h : Vals xs us) : Vals xs.reverse us.reverse := by
  induction h with
  | nil => exact .nil
  | cons r t ih => rw [List.reverse_cons, List.reverse_cons]; exact Vals.append ih (.cons r .nil)
section
variable {X : Cx} {pins : List (Addr × Obj)} {σ : St} {H : Hp} {s : Shared} {l b : Addr} {xs ys zs : List V}

/-! ### the two steps: a tracked list is rewritten, a new list is laid -/
theorem Inv.lset {its its' : List Value} {n : Nat} {f : Array Value → Array Value} {t' : Nat} (I : Inv X pins σ H s) (hH : H l = some (.lst xs))
    (e : s.heap.get? l = some { cls := .type "list", data := .seq its.toArray n }) (hf : f its.toArray = its'.toArray) (hv : Vals ys its') (hz : ys.length ≤ sizeLine) :
    Inv X pins σ (upd H l (.lst ys)) { s with heap := s.heap.update l (Obj.mapSeq f), toks := t' } := by
  have q := PySem.IsL.update e f
  rw [hf] at q
  refine I.write (x := l) (e := l) (by rw [hH]; exact trivial) (.inl rfl) (fun b' u hb hu => (Heap.get?_update_other s.heap (Obj.mapSeq f) (Ne.symm hb)).trans hu) ⟨_, q⟩ ?_
  exact ⟨hz, its', _, hv, q⟩
theorem Inv.lnew {its : List Value} {t' : Nat} (I : Inv X pins σ H s) (hv : Vals ys its) (hz : ys.length ≤ sizeLine) :
    Inv X pins σ (upd H s.heap.objs.size (.lst ys)) { s with heap := s.heap.push { cls := .type "list", data := .seq its.toArray }, toks := t' } :=
  I.laid (fun _ _ q => Heap.get?_push_of_some _ q) (Nat.le_refl _) ⟨hz, its, 0, hv, Heap.get?_push_size _ rfl⟩
theorem Inv.fresh (I : Inv X pins σ H s) : H s.heap.objs.size = none := I.hok.fresh (Nat.le_refl _)
theorem Inv.lstM (I : Inv X pins σ H s) (hH : H l = some (.lst xs)) : xs.length ≤ sizeLine ∧ ∃ (its : List Value) (n : Nat), Vals xs its ∧ xs.length = its.length ∧ s.heap.get? l = some { cls := .type "list", data := .seq its.toArray n } := by
  obtain ⟨z, its, n, r, e⟩ := I.hok l _ hH
  exact ⟨z, its, n, r, r.length, e⟩

end

section
variable {X : Cx}

/-! ### methods -/
def rAppend : V → List V → Hp → VK → Prop := fun x vs H Q => ∃ l xs y, x = .ref l ∧ vs = [y] ∧ H l = some (.lst xs) ∧ xs.length < sizeLine ∧ Q .non (upd H l (.lst (xs ++ [y])))
theorem mt_append : MtM X "list.append" rAppend := by
  intro pins s σ H x vs v us Q I rx rv h
  obtain ⟨l, xs, y, rfl, rfl, hH, hz, q⟩ := h
  cases rx
  obtain ⟨u, rfl, ru⟩ := rv.one
  obtain ⟨z, its, n, r, hl, e⟩ := I.lstM hH
  refine call_meets F.slot_list_append ⟨_, e, rfl⟩ F.entry_list_append (F.args_list_append_2 _ _) (PySem.list_append l its.toArray n u (by rw [List.size_toArray]; (first | lia | omega))) ⟨e, ?_⟩
  refine ⟨.non, _, I.lset (its' := its ++ [u]) hH e (by simp) (r.append (.cons ru .nil)) ?_, rfl, q⟩
  rw [List.length_append, List.length_singleton]
  (first | lia | omega)

def rPop : V → List V → Hp → VK → Prop := fun x vs H Q => ∃ l xs y, x = .ref l ∧ vs = [] ∧ H l = some (.lst xs) ∧ xs[xs.length - 1]? = some y ∧ Q y (upd H l (.lst xs.dropLast))
def rClear : V → List V → Hp → VK → Prop := fun x vs H Q => ∃ l xs, x = .ref l ∧ vs = [] ∧ H l = some (.lst xs) ∧ Q .non (upd H l (.lst []))
/-! ### list + list, list += list, list * int -/
def rCat : R2 := fun x y H Q => ∃ l b xs zs, x = .ref l ∧ y = .ref b ∧ H l = some (.lst xs) ∧ H b = some (.lst zs) ∧ xs.length + zs.length ≤ sizeLine ∧ ∀ p, H p = none → Q (.ref p) (upd H p (.lst (xs ++ zs)))
theorem op_cat : OpR X (binaryOp .Add) rCat := by
  intro pins s σ H x y v u Q I rx ry h
  obtain ⟨l, b, xs, zs, rfl, rfl, hH, hB, hz, q⟩ := h
  cases rx
  cases ry
  obtain ⟨z, its, n, r, hl, e⟩ := I.lstM hH
  obtain ⟨z2, its2, n2, r2, hl2, e2⟩ := I.lstM hB
  refine PySem.P.add_list e e2 ?_ (by rw [List.size_toArray, List.size_toArray]; (first | lia | omega))
  have ea : its.toArray ++ its2.toArray = (its ++ its2).toArray := by simp
  rw [ea]
  exact ⟨.ref _, _, I.lnew (t' := s.toks) (r.append r2) (by rw [List.length_append]; (first | lia | omega)), rfl, q _ I.fresh⟩
/-! ### del xs[i] -/
end

/-! ### xs[a:b] = ys -/
section
variable {prog : Program} {w : World} {A : Around} {E : Value → Shared → Prop} {s : Shared}
end

section
variable {X : Cx}
end
end L2

namespace Att
open PySem PySem.W PySem.Calls PyProof.Rows

/-! ### the script -/
theorem ints_of_wellAll {P : Params} {h : Heap} : ∀ (ns : List Int) (vs : List Value), WellAll P h vs (ns.map WData.int) → IntsAre vs ns := by
  intro ns
  induction ns with
  | nil =>
    intro vs w
    rw [List.map_nil] at w
    cases w
    exact .nil
  | cons n ns ih =>
    intro vs w
    rw [List.map_cons] at w
    cases w with
    | cons a b =>
      cases a
      exact .cons _ _ (ih _ b)

theorem script_of {l : OpenLaw} {n : Nat} (hn : l.most = some n) {P : Params} {h : Heap} {args : List WData} {vals : List Value}
    (hpre : l.row.toRowW.claim.pre args = true) (hwl : WellAll P h vals args) :
    ∃ a vs ns, vals = [Value.ref a] ∧ args = [WData.list (ns.map WData.int)] ∧ h.get? a = some { cls := .type "list", data := .seq vs.toArray } ∧ IntsAre vs ns ∧ ns.length ≤ n := by
  have hsh : WShape.hasAll [] args [.list .int] = true := (pre_splitW hpre).1
  have hc : l.pre.holds [] { args := args } = true := (pre_splitW hpre).2
  obtain ⟨d, r, rfl, h1, h2⟩ := hasAllW_cons hsh
  obtain rfl := hasAllW_nil h2
  obtain ⟨xs, rfl, h3⟩ := hasW_list h1
  obtain ⟨ns, rfl⟩ := items_int h3
  have hlen : ns.length ≤ n := by
    unfold OpenLaw.pre at hc
    have h4 : (WTm.not (.lt (.lit (.int (n : Int))) (.len (.arg 0)))).holds [] { args := [.list (ns.map .int)] } = true := by
      have h4 := (holds_andW hc).1
      rw [hn] at h4
      exact h4
    have h5 := condW_of h4 (w_not (w_lt w_lit (w_len_list (w_arg rfl))))
    rw [List.length_map] at h5
    refine Nat.le_of_not_lt fun q => ?_
    have q' : (n : Int) < ((ns.length : Nat) : Int) := by (first | lia | omega)
    first
      | (rw [decide_eq_true q'] at h5; exact absurd h5 (by decide))
      | (simp at h5; (first | lia | omega))
  cases hwl with
  | cons w1 w2 =>
    cases w2
    cases w1 with
    | list ho hall => exact ⟨_, _, ns, rfl, rfl, ho, ints_of_wellAll ns _ hall, hlen⟩

theorem post_true (l : OpenLaw) (args : List WData) : l.row.toRowW.claim.post args (.bool true) args = true :=
  postW_of (r := l.row.toRowW) (X := (true == true))
    (show WShape.has [] (.bool true) .bool = true by first | rfl | decide | simp [WShape.has, WShape.arms, WShape.armsAll])
    (show (WTm.eq .res (.lit (.bool true))).value [] { args := args, res := some (.bool true), after := args } = some (.bool (true == true)) from w_eq_bool (w_res rfl) w_lit) rfl

/-! ### the attachment: holds_open's last premise (the goal 'hc' behind k_head) from a wpAny of the law's body -/
/-- the same from a codeAny of the CALL (for a layer whose function contracts speak of calls) -/
theorem attach_call {l : OpenLaw} {n : Nat} {q : Program} {loose : List Str} {XP : (Str → Option Value) → Heap → Prop} {YP : World → Heap → Prop} {d : DefRec}
    (hn : l.most = some n) (hdf : d.params.defaults = [])
    (call : ∀ (w : World) (s₀ s₁ : Shared) (mg mb : Str → Option Value) (fa : Addr) (o : Obj) (pm cd doc : Value) (a : Addr) (vs : List Value) (ns : List Int),
      Ground q loose [] XP w s₀ mg mb s₁.heap → YP w s₁.heap →
      s₁.heap.get? fa = some o → o.data = .func (docDef d.name d.params d.body d.scope pm cd doc) → s₁.heap.CodeRec cd d.name → mg d.name = some (.ref fa) →
      s₁.heap.get? a = some { cls := .type "list", data := .seq vs.toArray } → IntsAre vs ns → ns.length ≤ n → s₁.gens = #[] →
      codeAny (model l.prog w) callerA (.call (.ref fa) ⟨[.ref a], []⟩) (fun r s' => r = .ok (.ret (.bool true)) ∧ OldK s₁.heap s'.heap ∧ s'.os = s₁.os ∧ AllBare s'.gens) s₁) :
    WalkO q loose XP YP l.row.toRowW d [] (fun f vs => PySem.call f vs) := by
  intro w s₀ s₁ mg mb G Y fa o pm cd doc dV kV ho hd hcd hD hmg hg args vals as hpre hlay hrd hwl hlo
  obtain rfl : dV = .none := Dflts.none hD hdf
  obtain rfl : kV = .none := Dflts.noKw hD
  obtain ⟨a, vs, ns, rfl, rfl, hobj, hints, hlen⟩ := script_of hn hpre hwl
  refine enter_call (codeAny_mono (call w s₀ s₁ mg mb fa o pm cd doc a vs ns G Y ho (fd_plain hd) hcd hmg hobj hints hlen hg) fun r s' hq => ?_)
  obtain ⟨rfl, h2, h3, h4⟩ := hq
  exact ⟨.inl ⟨.bool true, .bool true, [], rfl, fun _ => rfl, .bool true, post_true l _, fun _ => ⟨List.Pairwise.nil, fun _ hm => (nomatch hm)⟩⟩, h2, h3, h4⟩

/-! ### rules over ANY heap (no ledger) from facts about the written part K: the library's own take a ledger (News) for what they write -/
section
variable {prog : Program} {w : World} {A : Around} {E : Value → Shared → Prop} {s : Shared} {K : Frag}

/-! the whole heap as the ledger: makes every rule that writes through a ledger a rule over any heap -/
def ledger (h : Heap) (L d : Addr) : List (Addr × Obj) := (List.range h.objs.size).filterMap fun a => if a = L ∨ a = d then none else (h.get? a).map fun o => (a, o)
end
end Att

namespace L2
open PySem PySem.Spec PyProof.Rows

theorem vals_ints : ∀ {vs : List Value} {ns : List Int}, IntsAre vs ns → Vals (ns.map V.int) vs
  | _, _, .nil => .nil
  | _, _, .cons n t h => .cons ⟨t, rfl⟩ (vals_ints h)

/-- nothing is tracked but the script, known to the object (or it is an object of the module) -/
def Only (H : Hp) : Prop := ∀ b, H b = none ∨ ∃ o xs, H b = some (.frz o (.lst xs))

/-- THE HEAD: the law's promise, at the heap behind the top. F, the promise of the law's def, may use that base is part of the heap (so K.In base, base.Ns mainGlobals mg stand in Mod) -/
theorem law_call {P : Program} {w : World} {K : PySem.W.Frag} {mg mb : Str → Option Value} {CX : CXT} {k : Nat} {fa a : Addr} {fd : FuncData} {x : Str} {sp : Sp} {s₁ : Shared} {vs : List Value} {ns : List Int}
    (KX : K.In s₁.heap) (hns : s₁.heap.Ns mainGlobals mg) (hb : s₁.heap.Ns builtinsNs mb) (hbb : ∀ x : Str, x ≠ "__name__" → mb x = bootBuiltins x) (hlim : s₁.heap.NoLimit) (hg : s₁.gens = #[])
    (ha : s₁.heap.get? a = some { cls := .type "list", data := .seq vs.toArray }) (hi : IntsAre vs ns) (hl : ns.length ≤ sizeLine) (hr : Room k callerA)
    (F : ∀ base : Heap, K.In base → base.Ns mainGlobals mg → FnOk P w K mg base CX k fa fd [x] sp) (hbind : ∀ (s : Shared) (u : Value), BindsTo s fd ⟨[u], []⟩ [(x, u)])
    (hsp : ∀ H : Hp, Only H → SqL K H a (ns.map V.int) → sp [.ref a] H (fun v _ => v = .bl true) fun _ _ _ => False)
    (hCX : ∀ H e s', CX [] H s₁ (fun _ _ _ => False) e s' → False) :
    codeAny (model P w) callerA (.call (.ref fa) ⟨[.ref a], []⟩) (fun r s' => r = .ok (.ret (.bool true)) ∧ OldK s₁.heap s'.heap ∧ s'.os = s₁.os ∧ AllBare s'.gens) s₁ := by
  have rv := vals_ints hi
  have lenV := hi.length
  -- from an abstract heap in which nothing but the script may be tracked
  have core : ∀ H : Hp, Only H → SqL K H a (ns.map V.int) → HOk P w H s₁.heap → (∀ b, H b ≠ none → b = a) → (H a ≠ none → K.lookup a = none) →
      codeAny (model P w) callerA (.call (.ref fa) ⟨[.ref a], []⟩) (fun r s' => r = .ok (.ret (.bool true)) ∧ OldK s₁.heap s'.heap ∧ s'.os = s₁.os ∧ AllBare s'.gens) s₁ := by
    intro H hO hS hok hA hK
    have base_of : ∀ {b : Addr} {o : Obj}, s₁.heap.get? b = some o → H b = none → (hidT s₁.heap H).get? b = some o := fun e n => hidT_get e n
    have noA : ∀ {b : Addr} {o : Obj} {es : Array DictEntry} {ep : Nat}, s₁.heap.get? b = some o → o.data = .dict es ep → H b = none := fun {b o es ep} e d => by
      cases q : H b with
      | none => rfl
      | some u =>
        have e' : b = a := hA b (by rw [q]; simp)
        subst e'
        rw [ha] at e; cases e
        have d' : Data.seq vs.toArray _ = Data.dict es ep := d
        cases d'
    have nsK : ∀ {b : Addr} {m : Str → Option Value}, s₁.heap.Ns b m → (hidT s₁.heap H).Ns b m := fun {b m} ⟨o, es, ep, e, d, r⟩ => ⟨o, es, ep, base_of e (noA e d), d, r⟩
    have hKb : K.In (hidT s₁.heap H) := fun b o e => base_of (KX b o e) (by
      cases q : H b with
      | none => rfl
      | some u =>
        have e' : b = a := hA b (by rw [q]; simp)
        subst e'
        rw [hK (by rw [q]; simp)] at e; cases e)
    have hM : Mod K mg (hidT s₁.heap H) := ⟨hKb, nsK hns, ⟨mb, nsK hb, hbb⟩, let ⟨mc, h1, h2⟩ := hlim; ⟨mc, nsK h1, h2⟩⟩
    have e0 : Env0 P w K mg (hidT s₁.heap H) callerA [] s₁ H := ⟨rfl, hM, fun b o e => of_hidT e, Nat.le_of_eq (hidT_size _ _), trivial, fun b hb => absurd (show b ∈ ([] : List Addr) from hb) (by simp), hok, .of_eq hg⟩
    refine codeAny_mono ((F _ hKb (nsK hns)).run callerA [] s₁ H ⟨[.ref a], []⟩ [.ref a] [.ref a] _ _ hr e0 (hbind s₁ (.ref a)) (.cons rfl .nil) (hsp H hO hS)) fun r s' h => ?_
    cases r with
    | error e => exact (hCX H e s' h).elim
    | ok fl =>
      cases fl with
      | next => exact False.elim h
      | brk => exact False.elim h
      | cont => exact False.elim h
      | ret u =>
        obtain ⟨v, H', os, bare, un, hok', r', q⟩ := h
        have q' : v = .bl true := q
        subst q'
        obtain rfl : u = Value.bool true := r'
        refine ⟨rfl, OldK.of_keep fun b o e => ?_, os, bare⟩
        cases q : H b with
        | none => exact un.keep b o e q (by intro z; exact absurd (show b ∈ ([] : List Addr) from z) (by simp)) (by simp)
        | some u =>
          rcases hO b with z | ⟨ob, xs, z⟩
          · rw [q] at z; cases z
          · have z2 := un.frzs b ob _ z
            obtain ⟨e1, _⟩ := hok b _ z
            obtain ⟨e2, _⟩ := hok' b _ z2
            rw [e] at e1; cases e1
            exact e2
  cases hk : K.lookup a with
  | some o =>
    -- the script is one of the module's own objects
    have e := KX a o hk
    rw [ha] at e
    cases e
    refine core (fun _ => none) (fun _ => .inl rfl) (.inr ⟨_, vs.toArray, _, hk, rfl, rfl, rfl, by rw [List.size_toArray, lenV]; exact hl, by simpa using rv⟩) (fun b u z => by have z' : (none : Option HO) = some u := z; cases z') (fun b z => absurd rfl z) fun z => absurd rfl z
  | none =>
    refine core (fun b => if b = a then some (.frz { cls := .type "list", data := .seq vs.toArray } (.lst (ns.map V.int))) else none) (fun b => ?_) (.inl (.inr ⟨{ cls := .type "list", data := .seq vs.toArray }, if_pos rfl⟩)) (fun b u z => ?_) (fun b z => ?_) fun _ => hk
    · by_cases hb : b = a
      · exact .inr ⟨_, _, if_pos hb⟩
      · exact .inl (if_neg hb)
    · by_cases hb : b = a
      · have z' := (if_pos hb).symm.trans z
        cases z'
        subst hb
        exact ⟨ha, by rw [List.length_map]; exact hl, vs, _, rv, ha⟩
      · have z' := (if_neg hb).symm.trans z
        cases z'
    · by_cases hb : b = a
      · exact hb
      · exact absurd (if_neg hb) z
end L2

namespace L2
open PySem PySem.Spec PyProof.Rows

/-- the goal that k_head leaves (case hc), from the law's promise. F gives the function object fd (K's own) once, then the promise over every base -/
theorem walk_of {l : PySem.W.OpenLaw} {n k : Nat} {q : Program} {loose : List Str} {XP : (Str → Option Value) → Heap → Prop} {YP : World → Heap → Prop} {d : DefRec} {K : Params → PySem.W.Frag} {CX : World → CXT} {sp : World → Sp} {x : Str}
    (hn : l.most = some n) (hn2 : n ≤ sizeLine) (hdf : d.params.defaults = []) (hr : Room k callerA)
    (hY : ∀ (w : World) (h : Heap), YP w h → (K w.params).In h)
    (F : ∀ (w : World) (mg : Str → Option Value) (fa : Addr) (h : Heap), (K w.params).In h → h.Ns mainGlobals mg → mg d.name = some (.ref fa) →
      ∃ fd : FuncData, (∀ (s : Shared) (u : Value), BindsTo s fd ⟨[u], []⟩ [(x, u)]) ∧
        ∀ base : Heap, (K w.params).In base → base.Ns mainGlobals mg → FnOk l.prog w (K w.params) mg base (CX w) k fa fd [x] (sp w))
    (hsp : ∀ (w : World) (H : Hp) (a : Addr) (ns : List Int), ns.length ≤ n → Only H → SqL (K w.params) H a (ns.map V.int) → sp w [.ref a] H (fun v _ => v = .bl true) fun _ _ _ => False)
    (hCX : ∀ (w : World) (H : Hp) (s : Shared) (e : Value) (s' : Shared), CX w [] H s (fun _ _ _ => False) e s' → False) :
    PySem.W.WalkO q loose XP YP l.row.toRowW d [] (fun f vs => PySem.call f vs) := by
  refine Att.attach_call hn hdf fun w s₀ s₁ mg mb fa o pm cd doc a vs ns G Y ho hd hcd hmg hobj hints hlen hg => ?_
  have KX := hY w _ Y
  obtain ⟨fd, hb, hF⟩ := F w mg fa _ KX G.T.g hmg
  exact law_call KX G.T.g G.T.b G.T.builtins G.T.nolimit hg hobj hints (Nat.le_trans hlen hn2) hr hF hb (fun H hO hS => hsp w H a ns hlen hO hS) fun H e s' => hCX w H s₁ e s'
end L2

/- THE LAST THEOREM (shape; LID, My.* are yours):
   My.Adr: a structure of the addresses that your layer names (classes, functions); My.Txt K t: a structure (Prop) of the equations over K;
   My.txt_mk : {K} {implicit addresses ..} (e1 : nsIn K mainGlobals "law" = some (some (.ref f))) (e2 : K.lookup f = some ⟨oc, od, .func (fnOf "law" "law" params body scope dV kV doc pm an cdv ct), sl⟩) (e3 : codeIn K cdv "law" = true) .. : ∃ t, My.Txt K t

(the tactic k_is has no namespace: write k_is) -/

/-! SHORT WORDS over the layer: a def of the text, its body, what a loop and a test want. -/
namespace L2
open PySem PySem.Spec PyProof.Rows

/-! ### the text by places -/
def defArgs (s : Stmt) : Arguments := match s with
  | .FunctionDef _ a _ _ _ _ _ _ _ _ => a
  | _ => { posonlyargs := [], args := [], vararg := none, kwonlyargs := [], kw_defaults := [], kwarg := none, defaults := [] }
def defBody (s : Stmt) : List Stmt := match s with
  | .FunctionDef _ _ b _ _ _ _ _ _ _ => b
  | _ => []
def defScope (s : Stmt) : Scope := match s with
  | .FunctionDef _ _ _ _ _ _ sc _ _ _ => sc
  | _ => { kind := .function, names := [], isGenerator := false, isCoroutine := false }

/-! ### no exception leaves a def -/
abbrev CX0 : CXT := fun _ _ _ _ _ _ => False
abbrev E0 : XK := fun _ _ _ => False
/-! ### a def (or method) of the text as it stands behind the top -/
structure Fun (K : PySem.W.Frag) (x qual : Str) (st : Stmt) (f : Addr) (fd : FuncData) : Prop where
  ex : ∃ (oc : Value) (od : Option Addr) (kV doc pm : Value) (an : Option Addr) (cdv ct : Value) (osl : Array (Option Value)),
    fd = PySem.W.fnOf x qual (defArgs st) (defBody st) (defScope st) .none kV doc pm an cdv ct ∧ K.lookup f = some ⟨oc, od, .func fd, osl⟩ ∧ PySem.W.codeIn K cdv qual = true
  kp : PySem.W.keepIn K (.ref f) = true
section
variable {P : Program} {w : World} {K : PySem.W.Frag} {mg : Str → Option Value} {base : Heap}
/-- how its arguments bind (no defaults): h is «fun _ _ _ _ _ _ us hl => match us, hl with | [_, _], _ => rfl», one _ a parameter -/
theorem Fun.binds {x qual : Str} {st : Stmt} {f : Addr} {fd : FuncData} {ps : List Str} (F : Fun K x qual st f fd)
    (h : ∀ (kV doc pm : Value) (an : Option Addr) (cdv ct : Value) (us : List Value), us.length = ps.length → bindArgs (PySem.W.fnOf x qual (defArgs st) (defBody st) (defScope st) .none kV doc pm an cdv ct) ⟨us, []⟩ = pure (ps.zip us)) : Binds K fd ps [] := by
  obtain ⟨oc, od, kV, doc, pm, an, cdv, ct, osl, rfl, lk, hcd⟩ := F.ex
  exact .all (h kV doc pm an cdv ct)
theorem fun_mk {x qual : Str} {st : Stmt} {f : Addr} {oc : Value} {od an : Option Addr} {osl : Array (Option Value)} {kV doc pm cdv ct : Value} (l : K.lookup f = some ⟨oc, od, .func (PySem.W.fnOf x qual (defArgs st) (defBody st) (defScope st) .none kV doc pm an cdv ct), osl⟩)
    (c : PySem.W.codeIn K cdv qual = true) (k : PySem.W.keepIn K (.ref f) = true) : Fun K x qual st f (PySem.W.fnOf x qual (defArgs st) (defBody st) (defScope st) .none kV doc pm an cdv ct) := ⟨⟨oc, od, kV, doc, pm, an, cdv, ct, osl, rfl, l, c⟩, k⟩
end
theorem small1000 {n : Nat} (h : n ≤ 1000) : n < sizeLine := Nat.lt_of_le_of_lt h (by decide)

/-! ### expressions in short: the name that stands in the i-th slot -/
section
variable {X : Cx}
theorem pv (i : Nat) {x : Str} {pos : Pos} (hN : X.N[i]? = some x := by rfl) (hv : Vis X.env.scope x := by first | exact Or.inl rfl | exact Or.inr (Or.inl rfl) | exact Or.inr (Or.inr rfl)) (hd : (x == ("__debug__" : Str)) = false := by decide)
    (hcd : (x == ("__classdict__" : Str)) = false := by decide) : PE X (.Name x pos) (tVar i) := pe_var hN hv hd hcd
end

/-! ### tests -/
theorem ite2 {c A B : Prop} [Decidable c] (h1 : c → A) (h2 : ¬ c → B) : if c then A else B := by
  by_cases h : c
  · rw [if_pos h]
    exact h1 h
  · rw [if_neg h]
    exact h2 h
/-! ### heaps -/
/-- all that was tracked is as it was -/
def Same (H H' : Hp) : Prop := ∀ b o, H b = some o → H' b = some o
theorem Same.refl (H : Hp) : Same H H := fun _ _ h => h
theorem Same.trans {H H1 H2 : Hp} (a : Same H H1) (b : Same H1 H2) : Same H H2 := fun c o h => b c o (a c o h)
theorem Same.free {H H' : Hp} (e : Same H H') {l : Addr} (h : H' l = Option.none) : H l = Option.none := by
  cases q : H l with
  | none => rfl
  | some o =>
    rw [e l o q] at h
    cases h
theorem Same.seq {K : PySem.W.Frag} {H H' : Hp} {a : Addr} {xs : List V} (e : Same H H') (h : SqL K H a xs) : SqL K H' a xs := by
  rcases h with (h | ⟨o, h⟩) | h
  · exact .inl (.inl (e _ _ h))
  · exact .inl (.inr ⟨o, e _ _ h⟩)
  · exact .inr h

end L2

/-! EXTENSION A: a list comprehension with one clause, a plain name as its target, at most one test -/
namespace L2
open PySem PySem.Spec PyProof.Rows

section
variable {prog : Program} {w : World} {A : Around} {R : Result → Shared → Prop} {s : Shared}
theorem compLoop_any {elt target iter : Expr} {ifs : List Expr} {scope : Scope} {pos : Pos} {it acc : Value} {env : Env} (I : Nat → Shared → Prop)
    (turn : ∀ n s, I n s → wpAny (model prog w) A (pyNext it) (fun r s₁ => match r with
      | none => R (.ok .next) s₁
      | some v => wpAny (model prog w) A (letOwnedTupleGo target it v) (fun _ s₁' => wpAny (model prog w) A (assign target env v) (fun _ s₂ =>
          wpAny (model prog w) A (forIn ifs true fun c r => if r = true then do let ok ← isTrue c env (eval c env); pure (ForInStep.yield ok) else pure (ForInStep.yield r)) (fun ok s₃ =>
            if ok = true then wpAny (model prog w) A (eval elt env) (fun x s₄ =>
              wpAny (model prog w) A (call (.builtin "list.append") [acc, x]) (fun _ s₅ => ∃ m, m < n ∧ I m s₅) (fun _ _ => False) s₄) (fun _ _ => False) s₃
            else ∃ m, m < n ∧ I m s₃) (fun _ _ => False) s₂) (fun _ _ => False) s₁') (fun _ _ => False) s₁) (fun _ _ => False) s)
    (n : Nat) (h : I n s) :
    codeAny (model prog w) A (.compLoop (.ListComp elt [⟨target, iter, ifs, 0⟩] scope pos) 0 it acc env) R s := by
  refine codeAny_loop rfl I (fun n s hI => ?_) n h
  show wpAny _ A ((compTurn (.ListComp elt [⟨target, iter, ifs, 0⟩] scope pos) 0 it acc env).onRaise (fun x => do noteFrame x env; theTreesLotGoes x)) _ _ s
  refine wpAny_noted ?_
  rw [compTurn_list]
  refine wpAny_bind (wpAny_standAt (wpAny_bind (wpAny_mono (turn n s hI) (fun r s₁ h₁ => ?_) fun _ _ h' => h'.elim)))
  cases r with
  | none => exact wpAny_pure h₁
  | some v =>
    refine wpAny_bind (wpAny_mono h₁ (fun _ s₁' h₁' => ?_) fun _ _ h' => h'.elim)
    refine wpAny_bind (wpAny_mono h₁' (fun _ s₂ h₂ => wpAny_bind (wpAny_mono h₂ (fun ok s₃ h₃ => ?_) fun _ _ h' => h'.elim)) fun _ _ h' => h'.elim)
    cases ok with
    | false => exact wpAny_pure ⟨rfl, h₃⟩
    | true =>
      exact wpAny_bind (wpAny_bind (wpAny_mono h₃ (fun x s₄ h₄ => wpAny_bind (wpAny_mono h₄ (fun _ s₅ h₅ => wpAny_pure (wpAny_pure ⟨rfl, h₅⟩)) fun _ _ h' => h'.elim)) fun _ _ h' => h'.elim))
end

/-- the context of a comprehension's block: entered at s (the accumulator laid), its names at C -/
def Cx.blk (X : Cx) (cs : Scope) (cl : List (Str × Addr)) (N : List Str) (C : Addr) (fp : List Addr) (s : Shared) (H : Hp) : Cx where
  prog := X.prog
  w := X.w
  K := X.K
  mg := X.mg
  base := X.base
  A := X.A
  N := N
  s₀ := s
  H₀ := H
  env := compEnvC cs cl C X.env
  outer := X.stack
  stack := X.stack
  ex := fp
  fn := fun _ => false
  calm := X.calm
  pn := []
  xe := fun _ _ => False

/-- what the block's scope must have; caps: the names read from around, with their slots there -/
structure CompScope (X : Cx) (cs : Scope) (cl : List (Str × Addr)) (x : Str) (caps : List (Str × Nat)) : Prop where
  clos : closureFor cs X.env = pure cl
  sub : ∀ y c, cl.lookup y = some c → X.env.cells.lookup y = some c
  kind : cs.kind = .function
  nocell : ∀ y ∈ cs.names, y.2 ≠ .cell
  names : ∀ y ∈ cs.names, y.2 = .local → cs.names.lookup y.1 = some .local
  has : ∀ y, (relabel cs X.env).names.lookup y = some .cell ∨ (relabel cs X.env).names.lookup y = some .free → ∃ c, cl.lookup y = some c
  var : cs.names.lookup x = some .local
  nd : (x :: caps.map (·.1)).Nodup
  capN : ∀ p ∈ caps, X.N[p.2]? = some p.1
  capK : ∀ p ∈ caps, ((relabel cs X.env).names.lookup p.1 = some .cell ∨ (relabel cs X.env).names.lookup p.1 = some .free) ∧ (X.env.kindOf p.1 = some .cell ∨ X.env.kindOf p.1 = some .free)

/-! ### the scope by computation -/
def closL (cells : List (Str × Addr)) : List (Str × NameKind) → List (Str × Addr) → Option (List (Str × Addr))
  | [], acc => some acc
  | (n, k) :: r, acc => if k = .free then (match cells.lookup n with | some c => closL cells r ((n, c) :: acc) | none => none) else closL cells r acc
theorem closL_for {env : Env} : ∀ (names : List (Str × NameKind)) (acc cl : List (Str × Addr)), closL env.cells names acc = some cl →
    (forIn names acc fun (x : Str × NameKind) (c : List (Str × Addr)) => if (x.2 == NameKind.free) = true then (do let a ← cellOf env x.1; pure (ForInStep.yield ((x.1, a) :: c))) else pure (ForInStep.yield c) : Sem (List (Str × Addr))) = pure cl
  | [], acc, cl, h => by cases h; rfl
  | (n, k) :: r, acc, cl, h => by
    rw [List.forIn_cons]
    unfold closL at h
    by_cases hk : k = .free
    · rw [if_pos hk] at h
      have hb : (k == NameKind.free) = true := by simp [hk]
      simp only [hb, if_true]
      cases q : env.cells.lookup n with
      | none => rw [q] at h; cases h
      | some c =>
        rw [q] at h
        have e : cellOf env n = pure c := by unfold cellOf; rw [q]
        rw [e]
        exact closL_for r _ cl h
    · rw [if_neg hk] at h
      have hb : (k == NameKind.free) = false := by simpa using hk
      simp only [hb, Bool.false_eq_true, if_false]
      exact closL_for r _ cl h
theorem closureFor_of {cs : Scope} {env : Env} {cl : List (Str × Addr)} (h : closL env.cells cs.names [] = some cl) : closureFor cs env = pure cl := by
  have e := closL_for (env := env) cs.names [] cl h
  have e2 : closureFor cs env = ((forIn cs.names ([] : List (Str × Addr)) fun (x : Str × NameKind) (c : List (Str × Addr)) => if (x.2 == NameKind.free) = true then (do let a ← cellOf env x.1; pure (ForInStep.yield ((x.1, a) :: c))) else pure (ForInStep.yield c) : Sem (List (Str × Addr))) >>= pure) := by
    unfold closureFor
    rfl
  rw [e2, e]
  rfl
theorem closL_mem {cells : List (Str × Addr)} : ∀ (names : List (Str × NameKind)) (acc cl : List (Str × Addr)), closL cells names acc = some cl →
    (∀ y c, (y, c) ∈ cl → (y, c) ∈ acc ∨ cells.lookup y = some c) ∧ (∀ p ∈ acc, p ∈ cl) ∧ ∀ y, (y, NameKind.free) ∈ names → ∃ c, (y, c) ∈ cl
  | [], acc, cl, h => by cases h; exact ⟨fun y c h => .inl h, fun p h => h, fun y h => nomatch h⟩
  | (n, k) :: r, acc, cl, h => by
    unfold closL at h
    by_cases hk : k = .free
    · rw [if_pos hk] at h
      cases q : cells.lookup n with
      | none => rw [q] at h; cases h
      | some c =>
        rw [q] at h
        obtain ⟨h1, h2, h3⟩ := closL_mem r _ cl h
        refine ⟨fun y d hd => ?_, fun p hp => h2 p (List.mem_cons_of_mem _ hp), fun y hy => ?_⟩
        · rcases h1 y d hd with z | z
          · rcases List.mem_cons.mp z with z | z
            · cases z; exact .inr q
            · exact .inl z
          · exact .inr z
        · rcases List.mem_cons.mp hy with z | z
          · cases z; exact ⟨c, h2 _ List.mem_cons_self⟩
          · exact h3 y z
    · rw [if_neg hk] at h
      obtain ⟨h1, h2, h3⟩ := closL_mem r _ cl h
      refine ⟨h1, h2, fun y hy => ?_⟩
      rcases List.mem_cons.mp hy with z | z
      · cases z; exact absurd rfl hk
      · exact h3 y z
theorem mem_of_lookup {α : Type} : ∀ {l : List (Str × α)} {y : Str} {c : α}, l.lookup y = some c → (y, c) ∈ l
  | (n, d) :: r, y, c, h => by
    rw [List.lookup_cons] at h
    cases q : y == n with
    | true => rw [q] at h; cases h; rw [beq_iff_eq.mp q]; exact List.mem_cons_self
    | false => rw [q] at h; exact List.mem_cons_of_mem _ (mem_of_lookup h)
theorem lookup_of_mem {α : Type} : ∀ {l : List (Str × α)} {y : Str} {c : α}, (y, c) ∈ l → ∃ d, l.lookup y = some d
  | (n, d) :: r, y, c, h => by
    rw [List.lookup_cons]
    cases q : y == n with
    | true => exact ⟨d, rfl⟩
    | false =>
      rcases List.mem_cons.mp h with z | z
      · cases z; simp at q
      · exact lookup_of_mem z
theorem relabel_back {env : Env} : ∀ {names : List (Str × NameKind)} {y : Str} {k : NameKind}, (names.map fun (n, k) => if (k == NameKind.free && env.scope.kind == .function && env.kindOf n == some .cell) then (n, NameKind.cell) else (n, k)).lookup y = some k →
    ∃ k', names.lookup y = some k' ∧ (k' = k ∨ k' = .free)
  | (n, k') :: r, y, k, h => by
    have ih := @relabel_back env r y k
    rw [List.map_cons] at h
    rw [List.lookup_cons]
    by_cases hc : (k' == NameKind.free && env.scope.kind == .function && env.kindOf n == some .cell) = true
    · dsimp only at h
      rw [if_pos hc, List.lookup_cons] at h
      have hf : k' = .free := by
        simp only [Bool.and_eq_true, beq_iff_eq] at hc
        exact hc.1.1
      cases q : y == n with
      | true => exact ⟨k', rfl, .inr hf⟩
      | false => rw [q] at h; exact ih h
    · dsimp only at h
      rw [if_neg hc, List.lookup_cons] at h
      cases q : y == n with
      | true => rw [q] at h; cases h; exact ⟨k', rfl, .inl rfl⟩
      | false => rw [q] at h; exact ih h
theorem relabel_free {env : Env} : ∀ {names : List (Str × NameKind)} {y : Str}, names.lookup y = some .free → (names.map fun (n, k) => if (k == NameKind.free && env.scope.kind == .function && env.kindOf n == some .cell) then (n, NameKind.cell) else (n, k)).lookup y = some .cell ∨
    (names.map fun (n, k) => if (k == NameKind.free && env.scope.kind == .function && env.kindOf n == some .cell) then (n, NameKind.cell) else (n, k)).lookup y = some .free
  | (n, k') :: r, y, h => by
    have ih := @relabel_free env r y
    rw [List.map_cons]
    rw [List.lookup_cons] at h
    by_cases hc : (k' == NameKind.free && env.scope.kind == .function && env.kindOf n == some .cell) = true
    · dsimp only
      rw [if_pos hc, List.lookup_cons]
      cases q : y == n with
      | true => exact .inl rfl
      | false => rw [q] at h; exact ih h
    · dsimp only
      rw [if_neg hc, List.lookup_cons]
      cases q : y == n with
      | true => rw [q] at h; cases h; exact .inr rfl
      | false => rw [q] at h; exact ih h
def compOk (cs : Scope) (x : Str) : Bool := (cs.kind == .function) && cs.names.all (fun y => y.2 != .cell) && cs.names.all (fun y => y.2 != .local || cs.names.lookup y.1 == some .local) && cs.names.lookup x == some .local
def capsOk (N : List Str) (outer inner : List (Str × NameKind)) (caps : List (Str × Nat)) : Bool := caps.all fun p => N[p.2]? == some p.1 && inner.lookup p.1 == some .free && (outer.lookup p.1 == some .cell || outer.lookup p.1 == some .free)
theorem comp_scope {X : Cx} {cs : Scope} {cl : List (Str × Addr)} {x : Str} {caps : List (Str × Nat)} (clos : closL X.env.cells cs.names [] = some cl) (ok : compOk cs x = true) (nd : (x :: caps.map (·.1)).Nodup)
    (cap : capsOk X.N X.env.scope.names cs.names caps = true) : CompScope X cs cl x caps := by
  simp only [compOk, Bool.and_eq_true, List.all_eq_true, beq_iff_eq, bne_iff_ne, ne_eq, Bool.or_eq_true] at ok
  obtain ⟨⟨⟨k1, k2⟩, k3⟩, k4⟩ := ok
  simp only [capsOk, List.all_eq_true, Bool.and_eq_true, beq_iff_eq, Bool.or_eq_true] at cap
  obtain ⟨m1, m2, m3⟩ := closL_mem cs.names [] cl clos
  exact
    { clos := closureFor_of clos
      sub := fun y c h => by
        rcases m1 y c (mem_of_lookup h) with z | z
        · cases z
        · exact z
      kind := k1
      nocell := fun y hy => k2 y hy
      names := fun y hy hl => (k3 y hy).resolve_left fun z => z hl
      has := fun y h => by
        have key : ∀ k, (relabel cs X.env).names.lookup y = some k → (k = .cell ∨ k = .free) → ∃ c, cl.lookup y = some c := fun k h hk => by
          obtain ⟨k', h1, h2⟩ := relabel_back h
          have mem := mem_of_lookup h1
          have hf : k' = .free := by
            rcases h2 with z | z
            · subst z
              rcases hk with z | z
              · exact absurd z (k2 _ mem)
              · exact z
            · exact z
          subst hf
          obtain ⟨c, hc⟩ := m3 y mem
          exact lookup_of_mem hc
        rcases h with h | h
        · exact key _ h (.inl rfl)
        · exact key _ h (.inr rfl)
      var := k4
      nd := nd
      capN := fun p hp => (cap p hp).1.1
      capK := fun p hp => ⟨relabel_free (cap p hp).1.2, (cap p hp).2⟩ }

/-- the block's slots: the loop's name, then the captured -/
def capSt (σ : St) (caps : List (Str × Nat)) : St := caps.map fun p => (σ[p.2]?).join

/-- W: by the turn and a measure; D: where the new list lies -/
def CompW (caps : List (Str × Nat)) (tt : TT) (te : TE) (σ : St) (Q : VK) (J : It) (H1 : Hp) : Prop := ∀ D, H1 D = none → ∃ W : Nat → Nat → Hp → Prop, (∃ m, W 0 m (upd H1 D (.lst []))) ∧ ∀ i m H, W i m H →
  (J.stop i H ∧ Q (.ref D) H) ∨ (J.go i H ∧ ∀ x H', J.yld i H x H' → tt (some x :: capSt σ caps) H' fun b H2 => if b = true then
      te (some x :: capSt σ caps) H2 fun y H3 => ∃ acc, H3 D = some (.lst acc) ∧ acc.length < sizeLine ∧ ∃ m', m' < m ∧ W (i + 1) m' (upd H3 D (.lst (acc ++ [y])))
    else ∃ m', m' < m ∧ W (i + 1) m' H2)
def tComp (wi : TI) (caps : List (Str × Nat)) (tt : TT) (te : TE) : TE := fun σ H Q => wi σ H (CompW caps tt te σ Q)

/-- the tests of a clause -/
def PTs (X : Cx) (ifs : List Expr) (t : TT) : Prop :=
  ∀ (pins : List (Addr × Obj)) (s : Shared) (σ : St) (H : Hp) (Q : Bool → Hp → Prop), Inv X pins σ H s → t σ H Q →
    wpAny (model X.prog X.w) X.A (forIn ifs true fun c r => if r = true then do let ok ← isTrue c X.env (eval c X.env); pure (ForInStep.yield ok) else pure (ForInStep.yield r)) (TP X pins σ Q) X.xe s
def ttNil : TT := fun _ H Q => Q true H
theorem pts_nil {X : Cx} : PTs X [] ttNil := fun _ _ _ H _ I h => wpAny_tests_nil ⟨H, I, h⟩
theorem pts_one {X : Cx} {c : Expr} {t : TT} (h : PT X c t) : PTs X [c] t := fun pins s σ H Q I q => wpAny_tests_one (h pins s σ H Q I q)

section
variable {X : Cx} {cs : Scope} {cl : List (Str × Addr)} {x : Str} {px pos : Pos} {caps : List (Str × Nat)} {iter elt : Expr} {ifs : List Expr} {wi : TI} {tt : TT} {te : TE}

/-- the block runs, from the accumulator's laying on: behind it the abstract heap and, of the block's names, that they lie at C -/
theorem comp_run {pins : List (Addr × Obj)} {σ : St} {H2 : Hp} {s2 : Shared} {it : Addr} {fp : List Addr} {tn : Nat → Heap → Prop} {J : It} {Q : V → Hp → Prop} {E : Value → Shared → Prop} {RR : Value → Addr → Result → Shared → Prop} (S : CompScope X cs cl x caps)
    (hc : X.calm = true) (ht : ∀ C fp s H, PTs (X.blk cs cl (x :: caps.map (·.1)) C fp s H) ifs tt) (he : ∀ C fp s H, PE (X.blk cs cl (x :: caps.map (·.1)) C fp s H) elt te)
    (I2 : Inv X pins σ H2 s2) (T : Turn X.prog X.w X.K (.Name x px) J fp it tn) (st2 : tn 0 s2.heap) (f2 : ∀ b ∈ fp, FpOk X pins H2 b)
    (hW : ∀ D, H2 D = none → ∃ W : Nat → Nat → Hp → Prop, (∃ m, W 0 m (upd H2 D (.lst []))) ∧ ∀ i m H, W i m H →
      (J.stop i H ∧ Q (.ref D) H) ∨ (J.go i H ∧ ∀ x H', J.yld i H x H' → tt (some x :: capSt σ caps) H' fun b H2 => if b = true then
        te (some x :: capSt σ caps) H2 fun y H3 => ∃ acc, H3 D = some (.lst acc) ∧ acc.length < sizeLine ∧ ∃ m', m' < m ∧ W (i + 1) m' (upd H3 D (.lst (acc ++ [y])))
      else ∃ m', m' < m ∧ W (i + 1) m' H2))
    (hR : ∀ D C H' s' m, Inv X pins σ H' s' → Q (.ref D) H' → s'.heap.Ns C m → H' C = none → C ≠ X.env.locals → X.s₀.heap.objs.size ≤ C → (∀ x c, X.env.cells.lookup x = some c → c ≠ C) → (∀ p ∈ X.pn ++ pins, p.1 ≠ C) → RR (.ref D) C (.ok .next) s') :
    wpAny (model X.prog X.w) X.A (newList []) (fun acc s₃ => wpAny (model X.prog X.w) X.A (newFunctionEnv cs X.env.globals cl [] X.env.qual none .none (some X.env)) (fun cenv s₄ =>
      codeAny (model X.prog X.w) X.A (.compStart (.ListComp elt [⟨.Name x px, iter, ifs, 0⟩] cs pos) 0 (.ref it) acc { cenv with scope := relabel cs X.env }) (RR acc cenv.locals) s₄) E s₃) E s2 := by
  refine wpAny_newObj_type (wpAny_newFunctionEnv S.nocell (by intro y hy; simp at hy) (fun h4 hns4 hsb4 => ?_) S.kind)
  dsimp only at hns4 hsb4 ⊢
  have I3 : Inv X pins σ (upd H2 s2.heap.objs.size (.lst [])) { s2 with heap := s2.heap.push { cls := .type "list", data := .seq ([] : List Value).toArray } } := I2.lnew (t' := s2.toks) (ys := []) (its := []) .nil (Nat.zero_le _)
  obtain ⟨W, ⟨m0, w0⟩, turn⟩ := hW s2.heap.objs.size I2.fresh
  -- the state with the accumulator; C: where the block's names lie
  generalize hs3 : ({ s2 with heap := s2.heap.push { cls := .type "list", data := .seq ([] : List Value).toArray } } : Shared) = s3 at I3
  have eh3 : s3.heap = s2.heap.push { cls := .type "list", data := .seq ([] : List Value).toArray } := by rw [← hs3]
  have eh3' : (s2.heap.push { cls := .type "list", dict := none, data := .seq ([] : List Value).toArray }) = s3.heap := eh3.symm
  simp only [eh3'] at hns4 hsb4 ⊢
  have e4 : ({ s2 with heap := h4, toks := s2.toks + ([] : List (Str × Value)).length } : Shared) = { s3 with heap := h4, toks := s3.toks } := by rw [← hs3]; rfl
  have hD3 : s2.heap.objs.size < s3.heap.objs.size := by rw [eh3, Heap.size_push]; exact Nat.lt_succ_self _
  have kold : ∀ b u, s3.heap.get? b = some u → h4.get? b = some u := fun b u e => hsb4.extBut b u (Nat.ne_of_lt (Heap.lt_size e)) (Heap.get?_push_of_some _ e)
  have k23 : ∀ b u, s2.heap.get? b = some u → s3.heap.get? b = some u := fun b u e => by rw [eh3]; exact Heap.get?_push_of_some _ e
  have fpl : ∀ b ∈ fp, b < s2.heap.objs.size := fun b hb => let ⟨_, e, _⟩ := T.obj _ _ st2 b hb; Heap.lt_size e
  generalize hH3 : upd H2 s2.heap.objs.size (.lst []) = H3 at I3 w0
  have fr3 : ∀ b ∈ fp, H3 b = none := fun b hb => by rw [← hH3, upd_ne (Nat.ne_of_lt (fpl b hb))]; exact (f2 b hb).1
  generalize hD : s2.heap.objs.size = D at *
  generalize hC : s3.heap.objs.size = C at *
  have ok := I3.ok
  have fsX : ∀ b ∈ fp, b ∉ frs X.stack := fun b hb h => by
    rcases List.mem_cons.mp (I3.stkSub b h) with e | e
    · exact (f2 b hb).2.1 e
    · exact (f2 b hb).2.2.1 e
  have ok' : (X.blk cs cl (x :: caps.map (·.1)) C fp s3 H3).Ok :=
    { mod := ok.mod, kind := S.kind, glob := ok.glob, blt := ok.blt, above := Nat.le_of_eq hC
      inj := fun y z c a b => ok.inj y z c (S.sub y c a) (S.sub z c b)
      has := fun y h => S.has y h
      cab := fun y c h => nomatch h
      hd := ok.hd, frames := ok.frames, stk := .inl rfl
      exf := fun b hb => ⟨Nat.ne_of_lt (Nat.lt_trans (fpl b hb) hD3), fun y c e => (f2 b hb).2.2.2.2.1 y c (S.sub y c e)⟩
      bs := fun b o e => I3.bs b o e
      bsz := Nat.le_trans ok.bsz I3.sz
      noex := fun b o e hb => by
        rcases (f2 b hb).2.2.2.1 with q | q
        · exact ok.noex b o e q
        · exact absurd (Heap.lt_size (ok.bs b o e).1) (Nat.not_lt.mpr q)
      exfs := fsX
      funs := I3.stack, frf := I3.stkFree }
  have I4 : Inv (X.blk cs cl (x :: caps.map (·.1)) C fp s3 H3) [] (none :: capSt σ caps) H3 { s3 with heap := h4, toks := s3.toks } :=
    { ok := ok', os := rfl, bare := I3.bare, base := Un.kept kold
      loc := by
        refine ⟨_, hns4, fun i y v hN hσ _ => ?_⟩
        cases i with
        | zero => exact absurd hσ (by simp)
        | succ i =>
          have hN' : (caps.map (·.1))[i]? = some y := hN
          have hσ' : (caps.map fun p => (σ[p.2]?).join)[i]? = some (some v) := hσ
          rw [List.getElem?_map] at hN' hσ'
          obtain ⟨p, hp, rfl⟩ := Option.map_eq_some_iff.mp hN'
          rw [hp, Option.map_some] at hσ'
          have hj : (σ[p.2]?).join = some v := Option.some.inj hσ'
          have hj' : σ[p.2]? = some (some v) := by
            cases q : σ[p.2]? with
            | none => rw [q] at hj; cases hj
            | some o => rw [q] at hj; exact congrArg some hj
          have mem : p ∈ caps := List.mem_of_getElem? hp
          obtain ⟨m, _, hl⟩ := I3.loc
          obtain ⟨k1, k2⟩ := S.capK p mem
          obtain ⟨u, ru, hlk⟩ := hl p.2 p.1 v (S.capN p mem) hj' (k2.elim (fun q => .inr (.inl q)) fun q => .inr (.inr q))
          refine ⟨u, ru, ?_⟩
          rcases hlk with ⟨q, _⟩ | ⟨_, c, hc1, hc2⟩
          · rcases k2 with k | k <;> (rw [q] at k; cases k)
          · obtain ⟨c', hc'⟩ := S.has p.1 k1
            have e : c' = c := Option.some.inj ((S.sub p.1 c' hc').symm.trans hc1)
            subst e
            exact .inr ⟨k1, c', hc', hc2.keeps kold⟩
      cell := fun y c e => let ⟨v, q⟩ := I3.cell y c (S.sub y c e); ⟨v, q.keeps kold⟩
      free := by have q := I3.fresh; rw [hC] at q; exact q
      freeC := fun y c e => I3.freeC y c (S.sub y c e)
      pin := fun p hp => absurd hp (by simp [Cx.blk])
      hok := I3.hok.kept kold
      len := by simp [capSt, Cx.blk] }
  have loop : codeAny (model X.prog X.w) X.A (.compLoop (.ListComp elt [⟨.Name x px, iter, ifs, 0⟩] cs pos) 0 (.ref it) (.ref D) (compEnvC cs cl C X.env)) (RR (.ref D) C) { s3 with heap := h4, toks := s3.toks } := by
    have stat : ∀ {H' : Hp}, (∀ b ∈ fp, H' b = none) → ∀ b ∈ fp, FpOk (X.blk cs cl (x :: caps.map (·.1)) C fp s3 H3) [] H' b := fun hn b hb => ⟨hn b hb, (ok'.exf b hb).1, fsX b hb, .inl hb, (ok'.exf b hb).2, fun p hp => absurd hp (by simp [Cx.blk])⟩
    refine compLoop_any (fun n s' => ∃ i H', Inv (X.blk cs cl (x :: caps.map (·.1)) C fp s3 H3) [] (none :: capSt σ caps) H' s' ∧ tn i s'.heap ∧ (∀ b ∈ fp, H' b = none) ∧ W i n H') ?_ m0
      ⟨0, H3, I4, T.keep _ _ _ st2 (fun b hb o e => kold b o (k23 b o e)), fr3, w0⟩
    rintro n s5 ⟨i, H5, I5, st5, fr5, w5⟩
    rcases turn i n H5 w5 with ⟨stop, qn⟩ | ⟨go, step⟩
    · refine thn (T.done (X.blk cs cl (x :: caps.map (·.1)) C fp s3 H3) rfl rfl rfl hc i [] s5 _ H5 _ I5 (stat fr5) st5 stop) fun r s6 ⟨hr, I6⟩ => ?_
      subst hr
      obtain ⟨m, hn6, _⟩ := I6.loc
      have IX : Inv X pins σ H5 s6 := I3.call' (s' := s6) I6.os I6.base I6.hok I6.bare fun b hb => ⟨(f2 b hb).2.2.2.1, (f2 b hb).2.1, (f2 b hb).2.2.2.2.1, (f2 b hb).2.2.2.2.2⟩
      refine hR D C H5 s6 m IX qn hn6 I6.free ?_ ?_ ?_ ?_
      · rw [← hC]; exact Nat.ne_of_gt I3.lt
      · rw [← hC]; exact I3.sz
      · intro y c e
        obtain ⟨_, o, q, _⟩ := I3.cell y c e
        rw [← hC]; exact Nat.ne_of_lt (Heap.lt_size q)
      · intro p hp
        rw [← hC]; exact Nat.ne_of_lt (Heap.lt_size (I3.pin p hp).1)
    · refine thn (T.item (X.blk cs cl (x :: caps.map (·.1)) C fp s3 H3) rfl rfl rfl hc i [] s5 _ H5 _ I5 (stat fr5) st5 go) fun r s6 ⟨u, hr, h6⟩ => ?_
      subst hr
      refine thn h6 fun _ s7 ⟨v, H7, I7, r7, y7, st7, fr7⟩ => ?_
      have I7' := I7.pinned (stat fr7) (T.obj _ _ st7)
      have lv : (relabel cs X.env).names.lookup x = some .local := lookup_relabel_local S.var
      have pg : PG (X.blk cs cl (x :: caps.map (·.1)) C fp s3 H3) (.Name x px) (gName 0) := pg_name S.nd rfl (.inl lv) (.inr lv)
      refine thn (pg _ s7 _ H7 v u (fun σ' H' => σ' = some v :: capSt σ caps ∧ H' = H7) I7' r7 ⟨rfl, rfl⟩) fun _ s8 ⟨σ8, H8, I8, e8, e8'⟩ => ?_
      subst e8 e8'
      have again : ∀ {H9 : Hp} {s9 : Shared} {m' : Nat}, Inv (X.blk cs cl (x :: caps.map (·.1)) C fp s3 H3) ([] ++ pinsAt fp s7.heap) (some v :: capSt σ caps) H9 s9 → m' < n → W (i + 1) m' H9 →
          ∃ m, m < n ∧ ∃ i H', Inv (X.blk cs cl (x :: caps.map (·.1)) C fp s3 H3) [] (none :: capSt σ caps) H' s9 ∧ tn i s9.heap ∧ (∀ b ∈ fp, H' b = none) ∧ W i m H' := fun {H9 s9 m'} I9 hm w9 => by
        have pin9 : ∀ b ∈ fp, ∀ o, s7.heap.get? b = some o → s9.heap.get? b = some o ∧ H9 b = none := fun b hb o e =>
          let q := I9.pin (b, o) (List.mem_append_right _ (List.mem_append_right _ (mem_pinsAt hb e))); ⟨q.1, q.2.1⟩
        refine ⟨m', hm, i + 1, H9, I9.unpinned.weak rfl (fun j z hz => ?_), T.keep _ _ _ st7 (fun b hb o e => (pin9 b hb o e).1), fun b hb => ?_, w9⟩
        · cases j with
          | zero => exact absurd hz (by simp)
          | succ j => exact hz
        · obtain ⟨o, e, _⟩ := T.obj _ _ st7 b hb
          exact (pin9 b hb o e).2
      refine thn (ht C fp s3 H3 _ s8 _ H8 _ I8 (step v H8 y7)) fun b s9 ⟨H9, I9, q9⟩ => ?_
      cases b with
      | false =>
        rw [if_neg (by simp)] at q9 ⊢
        obtain ⟨m', hm, w9⟩ := q9
        exact again I9 hm w9
      | true =>
        rw [if_pos rfl] at q9 ⊢
        refine thn (he C fp s3 H3 _ s9 _ H9 _ I9 q9) fun y s10 ⟨z, H10, I10, r10, acc, hacc, hlen, m', hm, w10⟩ => ?_
        refine thn (mt_append _ s10 _ H10 (.ref D) [z] (.ref D) [y] (fun _ H' => H' = upd H10 D (.lst (acc ++ [z]))) I10 rfl (.cons r10 .nil) ⟨D, acc, z, rfl, rfl, hacc, hlen, rfl⟩) fun _ s11 ⟨_, H11, I11, _, e11⟩ => ?_
        subst e11
        exact again I11 hm w10
  rw [e4]
  exact codeAny_compStart_list loop (T.self _ 0 _ _ _ (T.keep _ _ _ st2 fun b hb o e => kold b o (k23 b o e)) loop)

theorem pe_comp (S : CompScope X cs cl x caps) (hc : X.calm = true) (hi : PI X (.Name x px) iter wi) (ht : ∀ C fp s H, PTs (X.blk cs cl (x :: caps.map (·.1)) C fp s H) ifs tt) (he : ∀ C fp s H, PE (X.blk cs cl (x :: caps.map (·.1)) C fp s H) elt te)
    (hs : ∀ x, foldedSetIterable iter X.env x = pure x := by intro _; rfl) : PE X (.ListComp elt [⟨.Name x px, iter, ifs, 0⟩] cs pos) (tComp wi caps tt te) := by
  intro pins s σ H Q I h
  rw [eval_ListComp]
  refine wpAny_comprehension_free (use := none) rfl hs S.clos S.kind S.names (thn (hi pins s σ H _ I h) fun v s1 h1 => thn h1 fun itv s2 h2 => ?_)
  obtain ⟨it, fp, tn, J, H2, rfl, I2, T, st2, f2, hW⟩ := h2
  refine comp_run (RR := fun acc C => compPost (model X.prog X.w) X.A X.xe none (EP X pins σ Q) acc C) S hc ht he I2 T st2 f2 hW ?_
  intro D C H' s' m IX q hn hC hL hs0 hcl hp
  exact ⟨m, hn, fun h' hsb => ⟨.ref D, H', IX.turned (t' := s'.toks) (it := C) (fun b o hb e => hsb.extBut b o hb e) hC hL (.inr hs0) hcl hp, rfl, q⟩⟩

/-- name = [comprehension], where the store comes ahead of the block's names' end -/
theorem ps_setC {i : Nat} {y : Str} {py spos : Pos} (S : CompScope X cs cl x caps) (hc : X.calm = true) (hN : X.N.Nodup) (hiN : X.N[i]? = some y) (hy : X.env.scope.names.lookup y = some .local) (hi : PI X (.Name x px) iter wi)
    (ht : ∀ C fp s H, PTs (X.blk cs cl (x :: caps.map (·.1)) C fp s H) ifs tt) (he : ∀ C fp s H, PE (X.blk cs cl (x :: caps.map (·.1)) C fp s H) elt te)
    (hsw : swapsWith (.ListComp elt [⟨.Name x px, iter, ifs, 0⟩] cs pos) (some (.Name y py)) spos.line X.env = pure true := by rfl)
    (hs : ∀ x, foldedSetIterable iter X.env x = pure x := by intro _; rfl) : PS X (.Assign [.Name y py] (.ListComp elt [⟨.Name x px, iter, ifs, 0⟩] cs pos) spos) (tAsg (tComp wi caps tt te) (gName i)) := by
  intro pins s σ H D I h
  rw [exec_Assign_Name_used _ _ _ _ hsw]
  refine wpAny_bind (wpAny_standAt (wpAny_bind ?_))
  show wpAny _ _ (do let _ ← comprehension (.ListComp elt [⟨.Name x px, iter, ifs, 0⟩] cs pos) cs X.env _ (newList []) false (eval iter X.env) (some (assign (.Name y py) X.env))) _ _ s
  refine wpAny_bind (wpAny_mono (wpAny_comprehension_free (use := some (assign (.Name y py) X.env)) (Q := fun _ s' => SP X pins D .next s') rfl hs S.clos S.kind S.names
    (thn (hi pins s σ H _ I h) fun v s1 h1 => thn h1 fun itv s2 h2 => ?_)) (fun _ s' hq => wpAny_pure (wpAny_pure hq)) fun _ _ e => e)
  obtain ⟨it, fp, tn, J, H2, rfl, I2, T, st2, f2, hW⟩ := h2
  refine comp_run (Q := fun v H' => gName i v σ H' D.nx) (RR := fun acc C => compPost (model X.prog X.w) X.A X.xe (some (assign (.Name y py) X.env)) (fun _ s' => SP X pins D .next s') acc C) S hc ht he I2 T st2 f2 hW ?_
  intro Dl C H' s' m IX q hn hC hL hs0 hcl hp
  show wpAny _ _ (assign (.Name y py) X.env (.ref Dl)) _ _ s'
  refine wpAny_assign_Name (store_ok2 IX hN hiN (.inl hy) (v := .ref Dl) rfl (fun s'' I'' hch => ?_) (.inr hy))
  obtain ⟨a, hsa, ha⟩ := hch
  have hCa : C ≠ a := by
    rcases ha with e | e
    · rw [e]; exact hL
    · exact fun z => hcl _ _ e z.symm
  exact ⟨m, hn.sameBut hsa hCa, fun h' hsb => ⟨_, H', I''.turned (t' := s''.toks) (it := C) (fun b o hb e => hsb.extBut b o hb e) hC hL (.inr hs0) hcl hp, q⟩⟩
end

/-! ### the forms one uses -/
/-- the word of a loop of n turns, with its measure -/
def Wn (Pv : Nat → Hp → Prop) (n i m : Nat) (H : Hp) : Prop := Pv i H ∧ i ≤ n ∧ m = n - i
theorem wn_next {Pv : Nat → Hp → Prop} {n i : Nat} {H : Hp} (lt : i < n) (p : Pv (i + 1) H) : ∃ m', m' < n - i ∧ Wn Pv n (i + 1) m' H := ⟨n - (i + 1), by (first | lia | omega), p, lt, rfl⟩
/-- over a range: the turn i (its int lo + i) adds one item; D: the new list -/
theorem comp_range {lo : Int} {n : Nat} {tt : TT} {te : TE} {caps : List (Str × Nat)} {σ : St} {H1 : Hp} {Q : VK} (Pv : Addr → Nat → Hp → Prop) (h0 : ∀ D, H1 D = none → Pv D 0 (upd H1 D (.lst [])))
    (hs : ∀ D i H, H1 D = none → i < n → Pv D i H → tt (some (.int (lo + i)) :: capSt σ caps) H fun b H2 => if b = true then
      te (some (.int (lo + i)) :: capSt σ caps) H2 fun y H3 => ∃ acc, H3 D = some (.lst acc) ∧ acc.length < sizeLine ∧ ∃ m', m' < n - i ∧ Wn (Pv D) n (i + 1) m' (upd H3 D (.lst (acc ++ [y]))) else ∃ m', m' < n - i ∧ Wn (Pv D) n (i + 1) m' H2)
    (hd : ∀ D H, H1 D = none → Pv D n H → Q (.ref D) H) : CompW caps tt te σ Q (Itr lo n) H1 := by
  intro D hD
  refine ⟨Wn (Pv D) n, ⟨n, h0 D hD, Nat.zero_le _, rfl⟩, fun i m H ⟨p, hi, hm⟩ => ?_⟩
  subst hm
  by_cases e : i = n
  · subst e
    exact .inl ⟨Nat.le_refl _, hd D H hD p⟩
  · have lt : i < n := by (first | lia | omega)
    refine .inr ⟨lt, fun x H' hy => ?_⟩
    obtain ⟨rfl, rfl⟩ := hy
    exact hs D i H' hD lt p
/-- over a list that stays -/
theorem comp_list {K : PySem.W.Frag} {a : Addr} {xs : List V} {tt : TT} {te : TE} {caps : List (Str × Nat)} {σ : St} {H1 : Hp} {Q : VK} (Pv : Addr → Nat → Hp → Prop) (h0 : ∀ D, H1 D = none → Pv D 0 (upd H1 D (.lst [])))
    (hl : ∀ D i H, H1 D = none → i ≤ xs.length → Pv D i H → SqL K H a xs)
    (hs : ∀ D i x H, H1 D = none → xs[i]? = some x → Pv D i H → tt (some x :: capSt σ caps) H fun b H2 => if b = true then
      te (some x :: capSt σ caps) H2 fun y H3 => ∃ acc, H3 D = some (.lst acc) ∧ acc.length < sizeLine ∧ ∃ m', m' < xs.length - i ∧ Wn (Pv D) xs.length (i + 1) m' (upd H3 D (.lst (acc ++ [y]))) else ∃ m', m' < xs.length - i ∧ Wn (Pv D) xs.length (i + 1) m' H2)
    (hd : ∀ D H, H1 D = none → Pv D xs.length H → Q (.ref D) H) : CompW caps tt te σ Q (Itl K a) H1 := by
  intro D hD
  refine ⟨Wn (Pv D) xs.length, ⟨xs.length, h0 D hD, Nat.zero_le _, rfl⟩, fun i m H ⟨p, hi, hm⟩ => ?_⟩
  subst hm
  by_cases e : i = xs.length
  · subst e
    exact .inl ⟨⟨xs, hl D _ _ hD (Nat.le_refl _) p, Nat.le_refl _⟩, hd D H hD p⟩
  · have lt : i < xs.length := by (first | lia | omega)
    have hx : xs[i]? = some xs[i] := List.getElem?_eq_getElem lt
    refine .inr ⟨⟨xs, xs[i], hl D i H hD hi p, hx⟩, fun x H' hy => ?_⟩
    obtain ⟨rfl, hy⟩ := hy
    exact hs D i x H' hD (hy xs (hl D i H' hD hi p)) p
end L2

/-! EXTENSION B: data compared, isinstance, min, max, sum, sorted of few ints, zip -/
namespace L2
open PySem PySem.Spec PyProof.Rows

/-! ### data read off the abstract heap -/
mutual
inductive RdD (K : PySem.W.Frag) (H : Hp) : V → PyData → Prop
  | non : RdD K H .non .none
  | bl (b : Bool) : RdD K H (.bl b) (.bool b)
  | int (i : Int) : RdD K H (.int i) (.int i)
  | str (x : Str) : RdD K H (.str x) (.str x)
  | lst {a : Addr} {xs : List V} {ds : List PyData} : SqL K H a xs → RdAll K H xs ds → RdD K H (.ref a) (.list ds)
  | tup {a : Addr} {xs : List V} {ds : List PyData} : SqT K H a xs → RdAll K H xs ds → RdD K H (.ref a) (.tuple ds)
inductive RdAll (K : PySem.W.Frag) (H : Hp) : List V → List PyData → Prop
  | nil : RdAll K H [] []
  | cons {x : V} {xs : List V} {d : PyData} {ds : List PyData} : RdD K H x d → RdAll K H xs ds → RdAll K H (x :: xs) (d :: ds)
end
theorem rdInts {K : PySem.W.Frag} {H : Hp} : ∀ ns : List Int, RdAll K H (ns.map V.int) (ns.map PyData.int)
  | [] => .nil
  | n :: r => .cons (.int n) (rdInts r)
section
variable {X : Cx} {pins : List (Addr × Obj)} {σ : St} {H : Hp} {s : Shared}
mutual
theorem rd_reads (I : Inv X pins σ H s) : ∀ (d : PyData) {x : V} {u : Value}, RdD X.K H x d → RelV x u → ∃ as, Reads s.heap u d as
  | .none, _, u, h, r => by
    cases h
    cases (show u = Value.none from r); exact ⟨_, .none⟩
  | .bool b, _, u, h, r => by
    cases h
    cases (show u = Value.bool b from r); exact ⟨_, .bool b⟩
  | .int i, _, u, h, r => by
    cases h
    obtain ⟨t, rfl⟩ := (show ∃ t, u = Value.int i t from r); exact ⟨_, .int i t⟩
  | .str x, _, u, h, r => by
    cases h
    obtain ⟨t, rfl⟩ := (show ∃ t, u = Value.str x t from r); exact ⟨_, .str x t⟩
  | .list ds, _, u, h, r => by
    cases h with
    | @lst a xs _ hl hr =>
    cases (show u = Value.ref a from r)
    obtain ⟨its, rv, ⟨o, n, e, h1, _, h2⟩, _⟩ := I.list hl
    obtain ⟨as, h3⟩ := rd_readsAll I ds hr rv
    exact ⟨_, .list e h1 h2 h3⟩
  | .tuple ds, _, u, h, r => by
    cases h with
    | @tup a xs _ hl hr =>
    cases (show u = Value.ref a from r)
    obtain ⟨its, rv, ⟨o, e, h1, n, h2⟩, _⟩ := I.tuple hl
    obtain ⟨as, h3⟩ := rd_readsAll I ds hr rv
    exact ⟨_, .tuple e h1 h2 h3⟩
  | .dict _, _, _, h, _ => by cases h
theorem rd_readsAll (I : Inv X pins σ H s) : ∀ (ds : List PyData) {xs : List V} {us : List Value}, RdAll X.K H xs ds → Vals xs us → ∃ as, ReadsAll s.heap us ds as
  | [], _, _, .nil, .nil => ⟨_, .nil⟩
  | d :: ds, _, _, .cons h hr, .cons r rr => by
    obtain ⟨as, h1⟩ := rd_reads I d h r
    obtain ⟨bs, h2⟩ := rd_readsAll I ds hr rr
    exact ⟨_, .cons h1 h2⟩
end
end
section
variable {X : Cx}
theorem op_eqD (hu : X.A.units + 64 < cLine) : OpR X (compareOp .Eq) (fun x y H Q => ∃ da db, RdD X.K H x da ∧ RdD X.K H y db ∧ da.canLay0 = true ∧ db.canLay0 = true ∧ da.depth ≤ 64 ∧ Q (.bl (PyData.eqv da db)) H) := by
  intro pins s σ H x y v u Q I rx ry h
  obtain ⟨da, db, hx, hy, c1, c2, hd, q⟩ := h
  obtain ⟨as, r1⟩ := rd_reads I da hx rx
  obtain ⟨bs, r2⟩ := rd_reads I db hy ry
  exact SeqAt.compareEq_reads r1 r2 c1 c2 (by (first | lia | omega)) ⟨.bl _, H, I, rfl, q⟩
theorem op_neD (hu : X.A.units + 64 < cLine) : OpR X (compareOp .NotEq) (fun x y H Q => ∃ da db, RdD X.K H x da ∧ RdD X.K H y db ∧ da.canLay0 = true ∧ db.canLay0 = true ∧ da.depth ≤ 64 ∧ Q (.bl (!PyData.eqv da db)) H) := by
  intro pins s σ H x y v u Q I rx ry h
  obtain ⟨da, db, hx, hy, c1, c2, hd, q⟩ := h
  obtain ⟨as, r1⟩ := rd_reads I da hx rx
  obtain ⟨bs, r2⟩ := rd_reads I db hy ry
  exact SeqAt.compareNe_reads r1 r2 c1 c2 (by (first | lia | omega)) ⟨.bl _, H, I, rfl, q⟩
end
/-- ints; lists of ints -/
def dI (ns : List Int) : PyData := .list (ns.map .int)
def dII (nss : List (List Int)) : PyData := .list (nss.map dI)
theorem lay_ints : ∀ ns : List Int, PyData.canLayAll0 (ns.map PyData.int) = true
  | [] => by simp [PyData.canLayAll0]
  | _ :: r => by simp [PyData.canLayAll0, PyData.canLay0, lay_ints r]
theorem depth_ints : ∀ ns : List Int, PyData.depthAll (ns.map PyData.int) = 0
  | [] => by simp [PyData.depthAll]
  | _ :: r => by simp [PyData.depthAll, PyData.depth, depth_ints r]
theorem dI_lay (ns : List Int) : (dI ns).canLay0 = true := by unfold dI; simp only [PyData.canLay0]; exact lay_ints ns
theorem dI_depth (ns : List Int) : (dI ns).depth = 1 := by unfold dI; simp only [PyData.depth]; rw [depth_ints]
theorem dII_layAll : ∀ nss : List (List Int), PyData.canLayAll0 (nss.map dI) = true
  | [] => by simp [PyData.canLayAll0]
  | n :: r => by simp [PyData.canLayAll0, dI_lay n, dII_layAll r]
theorem dII_depthAll : ∀ nss : List (List Int), PyData.depthAll (nss.map dI) ≤ 1
  | [] => by simp [PyData.depthAll]
  | n :: r => by
    have h := dII_depthAll r
    simp only [List.map_cons, PyData.depthAll, dI_depth]
    (first | lia | omega)
theorem dII_lay (nss : List (List Int)) : (dII nss).canLay0 = true := by unfold dII; simp only [PyData.canLay0]; exact dII_layAll nss
theorem dII_depth (nss : List (List Int)) : (dII nss).depth ≤ 2 := by
  have h := dII_depthAll nss
  unfold dII; simp only [PyData.depth]; (first | lia | omega)
theorem eqv_dI (ns ms : List Int) : PyData.eqv (dI ns) (dI ms) = decide (ns = ms) := by unfold dI; simp only [PyData.eqv]; exact PySem.W.ked_eqvAll ns ms
theorem eqv_dIIAll : ∀ a b : List (List Int), PyData.eqvAll (a.map dI) (b.map dI) = decide (a = b)
  | [], [] => by simp [PyData.eqvAll]
  | [], _ :: _ => by simp [PyData.eqvAll]
  | _ :: _, [] => by simp [PyData.eqvAll]
  | x :: r, y :: t => by
    simp only [List.map_cons, PyData.eqvAll, eqv_dI, eqv_dIIAll r t]
    by_cases h : x = y <;> by_cases h' : r = t <;> simp [h, h']
theorem eqv_dII (a b : List (List Int)) : PyData.eqv (dII a) (dII b) = decide (a = b) := by unfold dII; simp only [PyData.eqv]; exact eqv_dIIAll a b
/-- the refs of lists of ints -/
def RdI (K : PySem.W.Frag) (H : Hp) : List V → List (List Int) → Prop
  | [], [] => True
  | x :: xs, n :: ns => (∃ a, x = .ref a ∧ SqL K H a (n.map V.int)) ∧ RdI K H xs ns
  | _, _ => False
theorem RdI.all {K : PySem.W.Frag} {H : Hp} : ∀ {xs : List V} {nss : List (List Int)}, RdI K H xs nss → RdAll K H xs (nss.map dI)
  | [], [], _ => .nil
  | [], _ :: _, h => nomatch h
  | _ :: _, [], h => nomatch h
  | _ :: _, n :: _, ⟨⟨a, e, h⟩, hr⟩ => by subst e; exact .cons (.lst h (rdInts n)) (RdI.all hr)
section
variable {X : Cx}
/-- two lists of ints -/
theorem op_eqI (hu : X.A.units + 64 < cLine) : OpR X (compareOp .Eq) (fun x y H Q => ∃ (a b : Addr) (ns ms : List Int), x = .ref a ∧ y = .ref b ∧ SqL X.K H a (ns.map V.int) ∧ SqL X.K H b (ms.map V.int) ∧ Q (.bl (decide (ns = ms))) H) := by
  intro pins s σ H x y v u Q I rx ry h
  obtain ⟨a, b, ns, ms, rfl, rfl, h1, h2, q⟩ := h
  exact op_eqD hu pins s σ H _ _ v u Q I rx ry ⟨dI ns, dI ms, .lst h1 (rdInts ns), .lst h2 (rdInts ms), dI_lay ns, dI_lay ms, by rw [dI_depth]; (first | lia | omega), by rw [eqv_dI]; exact q⟩
theorem op_neI (hu : X.A.units + 64 < cLine) : OpR X (compareOp .NotEq) (fun x y H Q => ∃ (a b : Addr) (ns ms : List Int), x = .ref a ∧ y = .ref b ∧ SqL X.K H a (ns.map V.int) ∧ SqL X.K H b (ms.map V.int) ∧ Q (.bl (!decide (ns = ms))) H) := by
  intro pins s σ H x y v u Q I rx ry h
  obtain ⟨a, b, ns, ms, rfl, rfl, h1, h2, q⟩ := h
  exact op_neD hu pins s σ H _ _ v u Q I rx ry ⟨dI ns, dI ms, .lst h1 (rdInts ns), .lst h2 (rdInts ms), dI_lay ns, dI_lay ms, by rw [dI_depth]; (first | lia | omega), by rw [eqv_dI]; exact q⟩
theorem op_neII (hu : X.A.units + 64 < cLine) : OpR X (compareOp .NotEq) (fun x y H Q => ∃ (a b : Addr) (xs ys : List V) (nss mss : List (List Int)), x = .ref a ∧ y = .ref b ∧ SqL X.K H a xs ∧ SqL X.K H b ys ∧ RdI X.K H xs nss ∧ RdI X.K H ys mss ∧ Q (.bl (!decide (nss = mss))) H) := by
  intro pins s σ H x y v u Q I rx ry h
  obtain ⟨a, b, xs, ys, ns, ms, rfl, rfl, h1, h2, h3, h4, q⟩ := h
  exact op_neD hu pins s σ H _ _ v u Q I rx ry ⟨dII ns, dII ms, .lst h1 h3.all, .lst h2 h4.all, dII_lay ns, dII_lay ms, by have := dII_depth ns; (first | lia | omega), by rw [eqv_dII]; exact q⟩

/-! ### isinstance -/
def rIsi (K : PySem.W.Frag) : List V → Hp → VK → Prop := fun xs H Q => ∃ x T t b, xs = [x, .ty T] ∧ TyOf K H x t ∧ PySem.W.kitOne K t (.type T) = some b ∧ Q (.bl b) H
/-! ### min, max, sum, sorted of a list of ints -/
theorem ints_of_vals : ∀ {ns : List Int} {us : List Value}, Vals (ns.map V.int) us → IntsAre us ns := fun r => intsAre_of r
theorem Inv.intItems {pins : List (Addr × Obj)} {s : Shared} {σ : St} {H : Hp} {p : Addr} {ns : List Int} (I : Inv X pins σ H s) (h : SqL X.K H p (ns.map V.int)) :
    ∃ (vs : List Value), IntsAre vs ns ∧ s.heap.IsList p vs.toArray := by
  obtain ⟨its, r, pl, _⟩ := I.list h
  exact ⟨its, ints_of_vals r, pl.isList⟩
theorem call_maxL (hc : X.calm = true) : CallR X (.builtin "max") (fun xs H Q => ∃ (p : Addr) (ns : List Int), xs = [.ref p] ∧ SqL X.K H p (ns.map V.int) ∧ 0 < ns.length ∧ ∀ M, M ∈ ns → (∀ a ∈ ns, a ≤ M) → Q (.int M) H) := by
  intro pins s σ H xs us Q I r h
  obtain ⟨p, ns, rfl, hl, hne, q⟩ := h
  obtain ⟨u, rfl, ru⟩ := vals1 r
  cases (show u = Value.ref p from ru)
  obtain ⟨vs, hi, hv⟩ := I.intItems hl
  obtain ⟨xs, e⟩ := hi.allInts.items
  have hns : ns = xs.toList.map (·.1) := by rw [← hi.numsOf, ← nums_intItems, ← e]
  have hsz : 0 < xs.size := by
    have h3 := hne; rw [hns, List.length_map, Array.length_toList] at h3; exact h3
  rw [e] at hv
  refine max_intList (I.ok.hd hc) hv hsz fun v h' tk hv hk => ?_
  obtain ⟨t, rfl⟩ := intItems_at hv
  obtain ⟨h1, h2⟩ := argBest_gt (numAt xs) (xs.size - 1)
  refine ⟨.int _, H, I.kept hk, ⟨t, rfl⟩, q _ ?_ fun a ha => ?_⟩
  · rw [hns, numAt_eq]; exact getD_mem (by rw [List.length_map, Array.length_toList]; (first | lia | omega))
  · rw [hns] at ha
    obtain ⟨j, hj, rfl⟩ := mem_getD ha
    rw [List.length_map, Array.length_toList] at hj
    rw [← numAt_eq]; exact h2 j (by (first | lia | omega))
theorem call_minL (hc : X.calm = true) : CallR X (.builtin "min") (fun xs H Q => ∃ (p : Addr) (ns : List Int), xs = [.ref p] ∧ SqL X.K H p (ns.map V.int) ∧ 0 < ns.length ∧ ∀ M, M ∈ ns → (∀ a ∈ ns, M ≤ a) → Q (.int M) H) := by
  intro pins s σ H xs us Q I r h
  obtain ⟨p, ns, rfl, hl, hne, q⟩ := h
  obtain ⟨u, rfl, ru⟩ := vals1 r
  cases (show u = Value.ref p from ru)
  obtain ⟨vs, hi, hv⟩ := I.intItems hl
  obtain ⟨xs, e⟩ := hi.allInts.items
  have hns : ns = xs.toList.map (·.1) := by rw [← hi.numsOf, ← nums_intItems, ← e]
  have hsz : 0 < xs.size := by
    have h3 := hne; rw [hns, List.length_map, Array.length_toList] at h3; exact h3
  rw [e] at hv
  refine min_intList (I.ok.hd hc) hv hsz fun v h' tk hv hk => ?_
  obtain ⟨t, rfl⟩ := intItems_at hv
  obtain ⟨h1, h2⟩ := argBest_lt (numAt xs) (xs.size - 1)
  refine ⟨.int _, H, I.kept hk, ⟨t, rfl⟩, q _ ?_ fun a ha => ?_⟩
  · rw [hns, numAt_eq]; exact getD_mem (by rw [List.length_map, Array.length_toList]; (first | lia | omega))
  · rw [hns] at ha
    obtain ⟨j, hj, rfl⟩ := mem_getD ha
    rw [List.length_map, Array.length_toList] at hj
    rw [← numAt_eq]; exact h2 j (by (first | lia | omega))
/-- sorted of fewer than 64 ints: a new list -/
theorem call_sortedL : CallR X (.builtin "sorted") (fun xs H Q => ∃ (p : Addr) (ns : List Int), xs = [.ref p] ∧ SqL X.K H p (ns.map V.int) ∧ ns.length < 64 ∧ ∀ (l : Addr) (ms : List Int), H l = none → ms.Perm ns → ms.Pairwise (· ≤ ·) → Q (.ref l) (upd H l (.lst (ms.map V.int)))) := by
  intro pins s σ H xs us Q I r h
  obtain ⟨p, ns, rfl, hl, hlen, q⟩ := h
  obtain ⟨u, rfl, ru⟩ := vals1 r
  cases (show u = Value.ref p from ru)
  obtain ⟨vs, hi, hv⟩ := I.intItems hl
  have hl2 := hi.length
  refine sorted_ints hv hi (by (first | lia | omega)) fun out ms a1 a2 a3 => ?_
  obtain ⟨e, he⟩ := sortedAll_at s.heap vs out
  have hz : (ms.map V.int).length ≤ sizeLine := by
    rw [List.length_map, a2.length_eq]
    exact Nat.le_of_lt (small1000 (by (first | lia | omega)))
  refine ⟨.ref (s.heap.objs.size + 1), _, I.laid (t' := s.toks) (fun _ _ => sortedAll_old) (Nat.le_succ _) (show ObjOk X.prog X.w _ _ _ (.lst (ms.map V.int)) from ⟨hz, out.toList, e, vals_ints a1, ?_⟩), rfl, q _ _ (I.hok.fresh (Nat.le_succ _)) a2 a3⟩
  rw [he]
  all_goals rfl
end

/-! ### records that turn while a new object is laid -/
section
variable {X : Cx} {pins : List (Addr × Obj)} {σ : St} {H : Hp} {s : Shared} {h' : Heap} {a : Addr} {o : HO} {ch : List Addr} {t' : Nat}
theorem Inv.laidCh (I : Inv X pins σ H s) (k : ∀ b u, b ∉ ch → s.heap.get? b = some u → h'.get? b = some u) (hf : ∀ b ∈ ch, FpOk X pins H b) (hp : s.heap.objs.size ≤ a) (new : ObjOk X.prog X.w (upd H a o) h' a o) :
    Inv X pins σ (upd H a o) { s with heap := h', toks := t' } := by
  have hn : H a = none := I.hok.fresh hp
  have trk : ∀ b u, H b = some u → b ∉ ch := fun b u e hb => by rw [(hf b hb).1] at e; cases e
  have old : ∀ b, b ≠ a → upd H a o b = H b := fun b hb => upd_ne hb
  have lt : ∀ {b u}, H b = some u → b ≠ a := fun e z => by rw [z, hn] at e; cases e
  have ltH : ∀ {b u}, s.heap.get? b = some u → b ≠ a := fun e z => Nat.lt_irrefl _ (Nat.lt_of_lt_of_le (z ▸ Heap.lt_size e) hp)
  refine I.call' (ch := ch) (s' := { s with heap := h', toks := t' }) rfl ?_ ?_ I.bare fun b hb => ⟨(hf b hb).2.2.2.1, (hf b hb).2.1, (hf b hb).2.2.2.2.1, (hf b hb).2.2.2.2.2⟩
  · exact
      { keep := fun b u e _ _ hx => k b u hx e
        slot := fun b u e _ _ hx => ⟨u.slots, k b u hx e⟩
        free := fun b u e q _ => by rw [old b (ltH e)]; exact q
        there := fun b u e hx => ⟨u, k b u hx e⟩
        tups := fun b xs e => by rw [old b (lt e)]; exact e
        frzs := fun b u v e => by rw [old b (lt e)]; exact e
        tbls := fun b ps e => ⟨#[], by rw [old b (lt e)]; simpa using e⟩ }
  · intro b u e
    by_cases hb : b = a
    · subst hb
      rw [upd_same] at e; cases e
      exact new
    · rw [old b hb] at e
      refine (I.hok b u e).stay (fun c v hc q => k c v ?_ q) (fun c hc => by rw [old c (lt hc)]; exact hc) fun c xs hc => by rw [old c (lt hc)]; exact hc
      rcases hc with rfl | hc
      · exact trk _ _ e
      · exact trk _ _ hc
end

/-! ### zip of two lists, walked by a pair of names -/
def Itz (K : PySem.W.Frag) (a b : Addr) : It :=
  ⟨fun i H => ∃ xs ys x y, SqL K H a xs ∧ SqL K H b ys ∧ xs[i]? = some x ∧ ys[i]? = some y,
   fun i H v H' => ∃ t x y, v = .ref t ∧ H t = none ∧ H' = upd H t (.tup [x, y]) ∧ (∀ xs, SqL K H a xs → xs[i]? = some x) ∧ (∀ ys, SqL K H b ys → ys[i]? = some y),
   fun i H => ∃ xs ys, SqL K H a xs ∧ SqL K H b ys ∧ (xs.length ≤ i ∨ ys.length ≤ i)⟩
def ZipSt (z TI TO i1 i2 a b : Addr) (i : Nat) (h : Heap) : Prop := IsZip h z TI TO .none ∧ IsPair h TI (.ref i1) (.ref i2) ∧ (∃ x y, IsPair h TO x y) ∧ h.IsListIter i1 a i ∧ h.IsListIter i2 b i
theorem turn_zip {P : Program} {w : World} {K : PySem.W.Frag} {es : List Expr} {kk : Nat} {pos : Pos} {z TI TO i1 i2 a b : Addr} (D : ZipApart z TI TO i1 i2 a b) :
    Turn P w K (.Tuple es kk pos) (Itz K a b) [z, TI, TO, i1, i2] z (ZipSt z TI TO i1 i2 a b) where
  mem := .head _
  obj := fun i h st c hc => by
    obtain ⟨hz, hTI, ⟨x, y, hTO⟩, ⟨o1, e1, _, d1⟩, ⟨o2, e2, _, d2⟩⟩ := st
    simp only [List.mem_cons, List.mem_nil_iff, or_false] at hc
    rcases hc with rfl | rfl | rfl | rfl | rfl
    · exact ⟨_, hz, fun v q => nomatch q⟩
    · exact ⟨_, hTI, fun v q => nomatch q⟩
    · exact ⟨_, hTO, fun v q => nomatch q⟩
    · exact ⟨_, e1, fun v q => by rw [d1] at q; cases q⟩
    · exact ⟨_, e2, fun v q => by rw [d2] at q; cases q⟩
  keep := fun i h h' st k => by
    obtain ⟨hz, hTI, ⟨x, y, hTO⟩, h1, h2⟩ := st
    exact ⟨k z (by simp) _ hz, k TI (by simp) _ hTI, ⟨x, y, k TO (by simp) _ hTO⟩, h1.at fun o e => k i1 (by simp) o e, h2.at fun o e => k i2 (by simp) o e⟩
  item := fun X eP eW eK hc i pins s σ H E I hf st go => by
    subst eP eW eK
    obtain ⟨hz, hTI, ⟨x0, y0, hTO⟩, h1, h2⟩ := st
    obtain ⟨xs, ys, x, y, hxs, hys, hx, hy⟩ := go
    obtain ⟨its, r1, p1, z1⟩ := I.list hxs
    obtain ⟨jts, r2, p2, z2⟩ := I.list hys
    obtain ⟨u, hu, ru⟩ := r1.get hx
    obtain ⟨v, hv, rv⟩ := r2.get hy
    refine wpAny_pyNext_zip_item D hz hTI hTO h1 h2 p1.isList p2.isList (x := u) (y := v) (by simpa using hu) (by simpa using hv) fun h' a1 a2 a3 a4 a5 a6 hk => ⟨_, rfl, ?_⟩
    refine wpAny_letOwnedTupleGo_zip a1 fun h'' b1 hs => ?_
    have zT : s.heap.objs.size ≠ z := Nat.ne_of_gt (Heap.lt_size hz)
    have kk : ∀ c o, c ∉ [z, TI, TO, i1, i2] → s.heap.get? c = some o → h''.get? c = some o := fun c o hc e => by
      simp only [List.mem_cons, List.mem_nil_iff, or_false, not_or] at hc
      exact hs.extBut c o hc.1 (hk c o hc.1 hc.2.2.1 hc.2.2.2.1 hc.2.2.2.2 e)
    refine ⟨.ref s.heap.objs.size, upd H s.heap.objs.size (.tup [x, y]), I.laidCh (t' := s.toks) (ch := [z, TI, TO, i1, i2]) kk hf (Nat.le_refl _) ?_, rfl, ⟨_, x, y, rfl, I.fresh, rfl, fun zs hzs => ?_, fun zs hzs => ?_⟩, ?_, fun c hc => ?_⟩
    · exact ⟨by show 2 ≤ sizeLine; decide, [u, v], .cons ru (.cons rv .nil), ⟨_, hs.extBut _ _ zT a5, rfl, _, rfl⟩⟩
    · rw [I.list_inj hzs hxs]; exact hx
    · rw [I.list_inj hzs hys]; exact hy
    · exact ⟨b1, hs.extBut _ _ D.TIz (hk _ _ D.TIz D.TITO D.TIi1 D.TIi2 hTI), ⟨_, _, hs.extBut _ _ D.TOz a2⟩, a3.extBut hs.extBut D.i1z, a4.extBut hs.extBut D.i2z⟩
    · rw [upd_ne]
      · exact (hf c hc).1
      · obtain ⟨o, e⟩ : ∃ o, s.heap.get? c = some o := by
          obtain ⟨o1, e1, _⟩ := h1
          obtain ⟨o2, e2, _⟩ := h2
          simp only [List.mem_cons, List.mem_nil_iff, or_false] at hc
          rcases hc with rfl | rfl | rfl | rfl | rfl
          · exact ⟨_, hz⟩
          · exact ⟨_, hTI⟩
          · exact ⟨_, hTO⟩
          · exact ⟨_, e1⟩
          · exact ⟨_, e2⟩
        exact Nat.ne_of_lt (Heap.lt_size e)
  done := fun X eP eW eK hc i pins s σ H E I hf st stop => by
    subst eP eW eK
    obtain ⟨hz, hTI, ⟨x0, y0, hTO⟩, h1, h2⟩ := st
    obtain ⟨xs, ys, hxs, hys, hend⟩ := stop
    obtain ⟨its, r1, p1, z1⟩ := I.list hxs
    obtain ⟨jts, r2, p2, z2⟩ := I.list hys
    have l1 := r1.length
    have l2 := r2.length
    refine wpAny_pyNext_zip_end (I.ok.hd hc) D hz hTI hTO h1 h2 p1.isList p2.isList ?_ fun h' hk => ⟨rfl, ?_⟩
    · rcases hend with e | e
      · exact .inl (Array.getElem?_eq_none (by simp; (first | lia | omega)))
      · exact .inr (Array.getElem?_eq_none (by simp; (first | lia | omega)))
    · have trk : ∀ b u, H b = some u → b ∉ [z, TI, TO, i1, i2] := fun b u e hb => by rw [(hf b hb).1] at e; cases e
      have kk : ∀ c o, c ∉ [z, TI, TO, i1, i2] → s.heap.get? c = some o → h'.get? c = some o := fun c o hc e => by
        simp only [List.mem_cons, List.mem_nil_iff, or_false, not_or] at hc
        exact hk c o hc.1 hc.2.2.1 hc.2.2.2.1 hc.2.2.2.2 e
      refine I.call' (ch := [z, TI, TO, i1, i2]) (s' := { s with heap := h' }) rfl ?_ ?_ I.bare fun b hb => ⟨(hf b hb).2.2.2.1, (hf b hb).2.1, (hf b hb).2.2.2.2.1, (hf b hb).2.2.2.2.2⟩
      · exact
          { keep := fun b u e _ _ hx => kk b u hx e
            slot := fun b u e _ _ hx => ⟨u.slots, kk b u hx e⟩
            free := fun b u e q _ => q
            there := fun b u e hx => ⟨u, kk b u hx e⟩
            tups := fun b xs e => e
            frzs := fun b u v e => e
            tbls := fun b ps e => ⟨#[], by simpa using e⟩ }
      · intro b u e
        refine (I.hok b u e).stay (fun c v hc q => kk c v ?_ q) (fun c hc => hc) fun c xs hc => hc
        rcases hc with rfl | hc
        · exact trk _ _ e
        · exact trk _ _ hc
  self := fun A i s Q E st h => wpAny_pyIter_zip st.1 h

def iZip (K : PySem.W.Frag) (ta : TA) : TI := fun σ H R => ta σ H fun vs H1 => ∃ a b, vs = [.ref a, .ref b] ∧ (∃ xs, SqL K H1 a xs) ∧ (∃ ys, SqL K H1 b ys) ∧ R (Itz K a b) H1
section
variable {X : Cx}
theorem pi_zip {e1 e2 : Expr} {ta : TA} {p pos pos' : Pos} {es : List Expr} {kk : Nat} (hg : Gl X "zip") (hm : X.mg "zip" = none) (ha : PA X [e1, e2] ta)
    (hs : starEach [e1, e2] X.env = [(false, eval e1 X.env), (false, eval e2 X.env)] := by rfl) (hs2 : starEach [e2] X.env = [(false, eval e2 X.env)] := by rfl) :
    PI X (.Tuple es kk pos') (.Call (.Name "zip" p) [e1, e2] [] pos) (iZip X.K ta) := by
  intro pins s σ H R I h
  refine Call_ (ld_blt I hg hm PyProof.Rows.Boot.«zip» (PyProof.Rows.callWith_type1 (thn (ha pos pins s σ H _ I h) fun us s1 ⟨vs, H1, I1, r1, q1⟩ => ?_) (by rw [hs, hs2]) (by rw [hs2]; rfl)))
  obtain ⟨a, b, e, ⟨xs, hxs⟩, ⟨ys, hys⟩, q⟩ := q1
  subst e
  cases r1 with
  | cons r rr =>
    cases rr with
    | cons r' rr =>
      cases rr
      cases r
      cases r'
      obtain ⟨its, v1, p1, _⟩ := I1.list hxs
      obtain ⟨jts, v2, p2, _⟩ := I1.list hys
      have la : a < s1.heap.objs.size := by obtain ⟨o, n, e, _⟩ := p1; exact Heap.lt_size e
      have lb : b < s1.heap.objs.size := by obtain ⟨o, n, e, _⟩ := p2; exact Heap.lt_size e
      have hn : ∀ i j : Nat, i ≠ j → s1.heap.objs.size + i ≠ s1.heap.objs.size + j := fun i j h e => h (Nat.add_left_cancel e)
      have ha : ∀ k : Nat, a ≠ s1.heap.objs.size + k := fun k => Nat.ne_of_lt (Nat.lt_of_lt_of_le la (Nat.le_add_right _ _))
      have hb : ∀ k : Nat, b ≠ s1.heap.objs.size + k := fun k => Nat.ne_of_lt (Nat.lt_of_lt_of_le lb (Nat.le_add_right _ _))
      refine call_zip_2 p1.isList p2.isList fun h' z1 z2 z3 z4 z5 hsz hk => ?_
      refine wpAny_pyIter_zip z1 ⟨s1.heap.objs.size + 4, [s1.heap.objs.size + 4, s1.heap.objs.size + 2, s1.heap.objs.size + 3, s1.heap.objs.size, s1.heap.objs.size + 1], _, Itz X.K a b, H1, rfl, I1.kept (t' := s1.toks) hk,
        turn_zip (TI := s1.heap.objs.size + 2) (TO := s1.heap.objs.size + 3) (i1 := s1.heap.objs.size) (i2 := s1.heap.objs.size + 1) ⟨hn 2 4 (by decide), hn 3 4 (by decide), hn 0 4 (by decide), hn 1 4 (by decide), hn 2 3 (by decide), hn 2 0 (by decide), hn 2 1 (by decide), hn 3 0 (by decide), hn 3 1 (by decide), hn 0 1 (by decide), ha 4, ha 3, ha 0, ha 1, hb 4, hb 3, hb 0, hb 1⟩,
        ⟨z1, z2, ⟨_, _, z3⟩, z4, z5⟩, fun c hc => ?_, q⟩
      have hcl : s1.heap.objs.size ≤ c := by
        simp only [List.mem_cons, List.mem_nil_iff, or_false] at hc
        rcases hc with rfl | rfl | rfl | rfl | rfl
        · exact Nat.le_add_right _ _
        · exact Nat.le_add_right _ _
        · exact Nat.le_add_right _ _
        · exact Nat.le_refl _
        · exact Nat.le_add_right _ _
      exact I1.fpOk hcl (I1.hok.fresh hcl)
end
end L2

/-! EXTENSION C: how an exception lies behind a call; defs that never raise; the forms of loops -/
namespace L2
open PySem PySem.Spec PyProof.Rows

/-- an exception in flight: its object a (untracked), its class; B: what no frame's passing touches -/
def CXE (P : Program) (w : World) : CXT := fun outer H s E e s' => ∃ (a : Addr) (cls a0 : Value) (B : Heap) (H' : Hp), e = .ref a ∧ s'.os = s.os ∧ AllBare s'.gens ∧ Un (frs outer) [] H H' s.heap s'.heap ∧ HOk P w H' s'.heap ∧ H' a = none ∧
  (∀ b u, H' b = some u → ∃ o, B.get? b = some o) ∧ (∀ b o, s.heap.get? b = some o → b ∉ frs outer → ∃ o', B.get? b = some o') ∧ Heap.FlyingW B outer a cls a0 s'.heap ∧ E cls none H'
theorem passN {P : Program} {w : World} {X : Cx} : Passes (CXE P w) X E0 := fun _ _ _ _ _ _ _ h => by
  obtain ⟨_, _, _, _, _, _, _, _, _, _, _, _, _, _, z⟩ := h
  exact z.elim

section
variable {P : Program} {w : World} {K : PySem.W.Frag} {mg : Str → Option Value} {base : Heap}
/-- a def that never raises -/
theorem Fun.okN {CX : CXT} {x qual : Str} {st : Stmt} {f : Addr} {fd : FuncData} {N ps : List Str} {k : Nat} {sp : Sp} (F : Fun K x qual st f fd) (S : FnScope N ps (defScope st)) (len : ∀ vs H Q E, sp vs H Q E → vs.length = ps.length)
    (hbody : ∀ (cdv : Value) (A : Around) (outer : List Env) (s : Shared) (H : Hp) (vs : List V) (Q : VK) (E : XK), Room k (A.deeper (envOfC qual (defScope st) s.heap.objs.size f cdv)) → sp vs H Q E →
      ∃ t, PSs (cxOf CX P w K mg base N qual (defScope st) f cdv A outer s H E).nox (defBody st) t ∧ t { nx := fun _ H' => Q .non H', rt := Q } (start N vs) H) : FnOk P w K mg base CX (k + 1) f fd ps sp := by
  obtain ⟨oc, od, kV, doc, pm, an, cdv, ct, osl, rfl, lk, hcd⟩ := F.ex
  refine fn_of lk hcd S len fun A outer s H vs Q E hr hsp => ?_
  obtain ⟨t, h, q⟩ := hbody cdv A outer s H vs Q E hr hsp
  exact ⟨t, h.nox, q⟩
/-- a def that may raise -/
theorem Fun.okX {CX : CXT} {x qual : Str} {st : Stmt} {f : Addr} {fd : FuncData} {N ps : List Str} {k : Nat} {sp : Sp} (F : Fun K x qual st f fd) (S : FnScope N ps (defScope st)) (len : ∀ vs H Q E, sp vs H Q E → vs.length = ps.length)
    (hbody : ∀ (cdv : Value) (A : Around) (outer : List Env) (s : Shared) (H : Hp) (vs : List V) (Q : VK) (E : XK), Room k (A.deeper (envOfC qual (defScope st) s.heap.objs.size f cdv)) → sp vs H Q E →
      ∃ t, PSs (cxOf CX P w K mg base N qual (defScope st) f cdv A outer s H E) (defBody st) t ∧ t { nx := fun _ H' => Q .non H', rt := Q } (start N vs) H) : FnOk P w K mg base CX (k + 1) f fd ps sp := by
  obtain ⟨oc, od, kV, doc, pm, an, cdv, ct, osl, rfl, lk, hcd⟩ := F.ex
  exact fn_of lk hcd S len fun A outer s H vs Q E hr hsp => hbody cdv A outer s H vs Q E hr hsp
end

/-! ### zip's loop -/
theorem for_zip {K : PySem.W.Frag} {a b : Addr} {xs ys : List V} {g : TG} {tb : TS} {D : Ends} {σ : St} {H : Hp} (Pv : Nat → St → Hp → Prop) (h0 : Pv 0 σ H) (hl : ∀ i σ H, i ≤ min xs.length ys.length → Pv i σ H → SqL K H a xs ∧ SqL K H b ys)
    (hs : ∀ i x y t σ H, xs[i]? = some x → ys[i]? = some y → H t = none → Pv i σ H → g (.ref t) σ (upd H t (.tup [x, y])) fun σ2 H2 => tb { D with nx := Pv (i + 1), ct := Pv (i + 1), bk := D.nx } σ2 H2) (hd : ∀ σ H, Pv (min xs.length ys.length) σ H → D.nx σ H) :
    ∃ W : Nat → Nat → St → Hp → Prop, (∃ m, W 0 m σ H) ∧ ∀ i m σ H, W i m σ H → ((Itz K a b).stop i H ∧ D.nx σ H) ∨ ((Itz K a b).go i H ∧ ∃ N : St → Hp → Prop, (∀ σ' H', N σ' H' → ∃ m', m' < m ∧ W (i + 1) m' σ' H') ∧
      ∀ x H', (Itz K a b).yld i H x H' → g x σ H' fun σ2 H2 => tb { D with nx := N, ct := N, bk := D.nx } σ2 H2) := by
  refine ⟨fun i m σ H => Pv i σ H ∧ i ≤ min xs.length ys.length ∧ m = min xs.length ys.length - i, ⟨_, h0, Nat.zero_le _, rfl⟩, fun i m σ H ⟨p, hi, hm⟩ => ?_⟩
  obtain ⟨l1, l2⟩ := hl i σ H hi p
  by_cases e : i = min xs.length ys.length
  · subst e
    exact .inl ⟨⟨xs, ys, l1, l2, by (first | lia | omega)⟩, hd σ H p⟩
  · have lx : i < xs.length := by (first | lia | omega)
    have ly : i < ys.length := by (first | lia | omega)
    have hx : xs[i]? = some xs[i] := List.getElem?_eq_getElem lx
    have hy : ys[i]? = some ys[i] := List.getElem?_eq_getElem ly
    refine .inr ⟨⟨xs, ys, xs[i], ys[i], l1, l2, hx, hy⟩, Pv (i + 1), fun σ' H' q => ⟨min xs.length ys.length - (i + 1), by (first | lia | omega), q, by (first | lia | omega), rfl⟩, fun v H' hv => ?_⟩
    obtain ⟨t, x, y, rfl, ht, rfl, h1, h2⟩ := hv
    exact hs i x y t σ H (h1 xs l1) (h2 ys l2) ht p

/-! ### heaps: what a def may do -/
/-- behind a def that makes one list l: all that was tracked stays, l is new -/
structure NewL (H H' : Hp) (l : Addr) (xs : List V) : Prop where
  same : Same H H'
  new : H l = none
  at_ : H' l = some (.lst xs)
theorem same_new {H : Hp} {p : Addr} (h : H p = none) (o : HO) : Same H (upd H p o) := fun b u q => by rw [upd_ne (ne_of_none q h)]; exact q
theorem same_tup {H H1 : Hp} (h : Same H H1) {p : Addr} (hp : H1 p = none) (o : HO) : Same H (upd H1 p o) := h.trans (same_new hp o)
theorem upd_keep {H : Hp} {a b : Addr} {o u : HO} (h : H a = some o) (hb : H b = none) : upd H b u a = some o := by rw [upd_ne (ne_of_none h hb)]; exact h
theorem same_upd {H H1 : Hp} (h : Same H H1) {p : Addr} (hp : H p = none) (o : HO) : Same H (upd H1 p o) := fun b u q => by rw [upd_ne (ne_of_none q hp)]; exact h b u q
section
variable {X : Cx}
theorem call_lenL : CallR X (.builtin "len") (fun xs H Q => ∃ p ys, xs = [.ref p] ∧ SqL X.K H p ys ∧ Q (.int ys.length) H) := by
  intro pins s σ H xs us Q I r h
  obtain ⟨p, ys, e, hs, q⟩ := h
  exact call_len_seq pins s σ H xs us Q I r ⟨p, ys, e, .inl hs, q⟩
end
theorem hu64_of {A : Around} {k : Nat} (hr : Room k A) : A.units + 64 < cLine := hr.units
theorem getI {ns : List Int} {i : Nat} {x : Int} (h : ns[i]? = some x) : (ns.map V.int)[i]? = some (.int x) := by rw [List.getElem?_map, h]; rfl
theorem ofGetI {ns : List Int} {i : Nat} {x : V} (h : (ns.map V.int)[i]? = some x) : ∃ n, ns[i]? = some n ∧ x = .int n := by
  rw [List.getElem?_map] at h
  obtain ⟨n, h1, h2⟩ := Option.map_eq_some_iff.mp h
  exact ⟨n, h1, h2.symm⟩
end L2
namespace L2
open PySem PySem.Spec PyProof.Rows
theorem cxK {CX : CXT} {P : Program} {w : World} {K : PySem.W.Frag} {mg : Str → Option Value} {base : Heap} {N : List Str} {qual : Str} {scope : Scope} {f : Addr} {cd : Value} {A : Around} {outer : List Env} {s : Shared} {H : Hp} {E : XK} :
    (cxOf CX P w K mg base N qual scope f cd A outer s H E).K = K := rfl
theorem blkK {X : Cx} {cs : Scope} {cl : List (Str × Addr)} {N : List Str} {C : Addr} {fp : List Addr} {s : Shared} {H : Hp} : (X.blk cs cl N C fp s H).K = X.K := rfl
end L2
namespace L2
open PySem PySem.Spec PyProof.Rows
theorem tyL {K : PySem.W.Frag} {H : Hp} {p : Addr} {xs : List V} (h : H p = some (.lst xs)) : tyV K "list" (.ref p) H := .inl ⟨rfl, _, SqL.of h⟩
/-- all that was tracked is as it was, but the list at p -/
def SameB (p : Addr) (H H' : Hp) : Prop := ∀ b o, b ≠ p → H b = some o → H' b = some o
theorem SameB.refl (p : Addr) (H : Hp) : SameB p H H := fun _ _ _ h => h
theorem SameB.upd {p : Addr} {H H' : Hp} (h : SameB p H H') (o : HO) : SameB p H (upd H' p o) := fun b u hb e => by rw [upd_ne hb]; exact h b u hb e
theorem SameB.new {p : Addr} {H H' : Hp} (h : SameB p H H') {q : Addr} (hq : H' q = none) (o : HO) : SameB p H (L2.upd H' q o) := fun b u hb e => by
  have z := h b u hb e
  rw [upd_ne (ne_of_none z hq)]; exact z
theorem SameB.trans {p : Addr} {H H1 H2 : Hp} (h : SameB p H H1) (k : SameB p H1 H2) : SameB p H H2 := fun b o hb e => k b o hb (h b o hb e)
theorem SameB.same {p : Addr} {H H' : Hp} (h : SameB p H H') (hp : H p = none) : Same H H' := fun b o e => h b o (ne_of_none e hp) e
theorem SameB.seq {K : PySem.W.Frag} {p a : Addr} {H H' : Hp} {xs : List V} (h : SameB p H H') (ha : a ≠ p) (hs : SqL K H a xs) : SqL K H' a xs := by
  rcases hs with (e | ⟨o, e⟩) | e
  · exact .inl (.inl (h _ _ ha e))
  · exact .inl (.inr ⟨o, h _ _ ha e⟩)
  · exact .inr e
theorem small12 {n : Nat} (h : n ≤ 900) : n < sizeLine := small1000 (by (first | lia | omega))
theorem small12' {n : Nat} (h : n ≤ 900) : n ≤ sizeLine := Nat.le_of_lt (small12 h)
end L2
namespace L2
open PySem PySem.Spec PyProof.Rows
/-! ### the rules that name the written part, K told from outside -/
def rLenL (K : PySem.W.Frag) : List V → Hp → VK → Prop := fun xs H Q => ∃ p ys, xs = [.ref p] ∧ SqL K H p ys ∧ Q (.int ys.length) H
def rLenT (K : PySem.W.Frag) : List V → Hp → VK → Prop := fun xs H Q => ∃ p ys, xs = [.ref p] ∧ SqT K H p ys ∧ Q (.int ys.length) H
def rListOf (K : PySem.W.Frag) : List V → Hp → VK → Prop := fun xs H Q => ∃ p ys, xs = [.ref p] ∧ SqL K H p ys ∧ ∀ l, H l = none → Q (.ref l) (upd H l (.lst ys))
def rMaxL (K : PySem.W.Frag) : List V → Hp → VK → Prop := fun xs H Q => ∃ (p : Addr) (ns : List Int), xs = [.ref p] ∧ SqL K H p (ns.map V.int) ∧ 0 < ns.length ∧ ∀ M, M ∈ ns → (∀ a ∈ ns, a ≤ M) → Q (.int M) H
def rMinL (K : PySem.W.Frag) : List V → Hp → VK → Prop := fun xs H Q => ∃ (p : Addr) (ns : List Int), xs = [.ref p] ∧ SqL K H p (ns.map V.int) ∧ 0 < ns.length ∧ ∀ M, M ∈ ns → (∀ a ∈ ns, M ≤ a) → Q (.int M) H
def rSortedL (K : PySem.W.Frag) : List V → Hp → VK → Prop := fun xs H Q => ∃ (p : Addr) (ns : List Int), xs = [.ref p] ∧ SqL K H p (ns.map V.int) ∧ ns.length < 64 ∧ ∀ (l : Addr) (ms : List Int), H l = none → ms.Perm ns → ms.Pairwise (· ≤ ·) → Q (.ref l) (upd H l (.lst (ms.map V.int)))
def rEqI (K : PySem.W.Frag) : R2 := fun x y H Q => ∃ (a b : Addr) (ns ms : List Int), x = .ref a ∧ y = .ref b ∧ SqL K H a (ns.map V.int) ∧ SqL K H b (ms.map V.int) ∧ Q (.bl (decide (ns = ms))) H
def rNeI (K : PySem.W.Frag) : R2 := fun x y H Q => ∃ (a b : Addr) (ns ms : List Int), x = .ref a ∧ y = .ref b ∧ SqL K H a (ns.map V.int) ∧ SqL K H b (ms.map V.int) ∧ Q (.bl (!decide (ns = ms))) H
def rEqII (K : PySem.W.Frag) : R2 := fun x y H Q => ∃ (a b : Addr) (xs ys : List V) (nss mss : List (List Int)), x = .ref a ∧ y = .ref b ∧ SqL K H a xs ∧ SqL K H b ys ∧ RdI K H xs nss ∧ RdI K H ys mss ∧ Q (.bl (decide (nss = mss))) H
def rNeII (K : PySem.W.Frag) : R2 := fun x y H Q => ∃ (a b : Addr) (xs ys : List V) (nss mss : List (List Int)), x = .ref a ∧ y = .ref b ∧ SqL K H a xs ∧ SqL K H b ys ∧ RdI K H xs nss ∧ RdI K H ys mss ∧ Q (.bl (!decide (nss = mss))) H
theorem ix_listK (K : PySem.W.Frag) {X : Cx} (e : X.K = K := by rfl) : IxR X (rIxL K) := e ▸ ix_list
theorem ix_tupK (K : PySem.W.Frag) {X : Cx} (e : X.K = K := by rfl) : IxR X (rIxT K) := e ▸ ix_tup
theorem sl_listK (K : PySem.W.Frag) {X : Cx} (e : X.K = K := by rfl) : SlR X (rSlL K) := e ▸ sl_list
theorem call_lenK (K : PySem.W.Frag) {X : Cx} (e : X.K = K := by rfl) : CallR X (.builtin "len") (rLenL K) := e ▸ call_lenL
theorem call_listK (K : PySem.W.Frag) {X : Cx} (e : X.K = K := by rfl) : CallR X (.type "list") (rListOf K) := by
  subst e
  intro pins s σ H xs us Q I r h
  obtain ⟨p, ys, e, hs, q⟩ := h
  exact call_list_of pins s σ H xs us Q I r ⟨p, ys, e, .inl hs, q⟩
theorem call_maxK (K : PySem.W.Frag) {X : Cx} (hc : X.calm = true := by rfl) (e : X.K = K := by rfl) : CallR X (.builtin "max") (rMaxL K) := e ▸ call_maxL hc
theorem call_minK (K : PySem.W.Frag) {X : Cx} (hc : X.calm = true := by rfl) (e : X.K = K := by rfl) : CallR X (.builtin "min") (rMinL K) := e ▸ call_minL hc
theorem call_sortedK (K : PySem.W.Frag) {X : Cx} (e : X.K = K := by rfl) : CallR X (.builtin "sorted") (rSortedL K) := e ▸ call_sortedL
theorem op_eqIK (K : PySem.W.Frag) {X : Cx} (hu : X.A.units + 64 < cLine) (e : X.K = K := by rfl) : OpR X (compareOp .Eq) (rEqI K) := e ▸ op_eqI hu
theorem op_neIK (K : PySem.W.Frag) {X : Cx} (hu : X.A.units + 64 < cLine) (e : X.K = K := by rfl) : OpR X (compareOp .NotEq) (rNeI K) := e ▸ op_neI hu
theorem op_neIIK (K : PySem.W.Frag) {X : Cx} (hu : X.A.units + 64 < cLine) (e : X.K = K := by rfl) : OpR X (compareOp .NotEq) (rNeII K) := e ▸ op_neII hu
theorem pi_listK (K : PySem.W.Frag) {X : Cx} {tg l : Expr} {tl : TE} (hl : PE X l tl) (e : X.K = K := by rfl) : PI X tg l (iList K tl) := e ▸ pi_list hl
theorem pi_zipK (K : PySem.W.Frag) {X : Cx} {e1 e2 : Expr} {ta : TA} {p pos pos' : Pos} {es : List Expr} {kk : Nat} (hg : Gl X "zip") (hm : X.mg "zip" = none) (ha : PA X [e1, e2] ta) (e : X.K = K := by rfl)
    (hs : starEach [e1, e2] X.env = [(false, eval e1 X.env), (false, eval e2 X.env)] := by rfl) (hs2 : starEach [e2] X.env = [(false, eval e2 X.env)] := by rfl) :
    PI X (.Tuple es kk pos') (.Call (.Name "zip" p) [e1, e2] [] pos) (iZip K ta) := e ▸ pi_zip hg hm ha hs hs2
def tTruth (K : PySem.W.Frag) (ta : TE) : TT := fun σ H Q => ta σ H fun x H' => ∃ k, TruV K x H' k ∧ Q k H'
theorem pt_truthK (K : PySem.W.Frag) {X : Cx} {a : Expr} {ta : TE} (ha : PE X a ta) (he : ∀ whole, isTrue a X.env whole = (do let v ← whole; standAt a.pos; holding [v] (truthy v))) (e : X.K = K := by rfl) : PT X a (tTruth K ta) := e ▸ pt_truth ha he
theorem truBl {K : PySem.W.Frag} {b k : Bool} {H : Hp} : TruV K (.bl b) H k ↔ k = b := Iff.rfl
theorem pe_bmK (K : PySem.W.Frag) {X : Cx} {o e : Expr} {es : List Expr} {to : TE} {t : TA} {name : Str} {apos cpos : Pos} {T id : String} {r : V → List V → Hp → VK → Prop} (pa : PlainAttrs T) (slot : Slot T name id) (hty : typeOf (.builtin id) = pure (.type "method_descriptor")) (hm : MtR X id r) (ho : PE X o to) (ha : PA X (e :: es) t) (hK : X.K = K := by rfl)
    (hbase : attributeBase o name X.env (eval o X.env) = eval o X.env := by rfl) (hfew : ((backTo cpos (starEach (e :: es) X.env)).all (fun x => !x.1) && (backToKw cpos (keywordEach [] X.env)).all (fun x => x.1.isSome) && decide ((e :: es).length + ([] : List Keyword).length + (if ([] : List Keyword).isEmpty then 0 else 1) < 30)) = true := by rfl)
    (hline : (apos.endLine == cpos.line) = true := by rfl) (hs : starEach (e :: es) X.env = (false, eval e X.env) :: starEach es X.env := by rfl) (hplain : (backTo cpos (starEach es X.env)).any (·.1) = false := by rfl) :
    PE X (.Call (.Attribute o name apos) (e :: es) [] cpos) (tBM K T r to t) := hK ▸ pe_bm pa slot hty hm ho ha hbase hfew hline hs hplain
theorem pe_bm0K (K : PySem.W.Frag) {X : Cx} {o : Expr} {to : TE} {name : Str} {apos cpos : Pos} {T id : String} {r : V → List V → Hp → VK → Prop} (pa : PlainAttrs T) (slot : Slot T name id) (hty : typeOf (.builtin id) = pure (.type "method_descriptor")) (hm : MtR X id r) (ho : PE X o to) (hK : X.K = K := by rfl)
    (hbase : attributeBase o name X.env (eval o X.env) = eval o X.env := by rfl) (hline : (apos.endLine == cpos.line) = true := by rfl) : PE X (.Call (.Attribute o name apos) [] [] cpos) (tBM0 K T r to) := hK ▸ pe_bm0 pa slot hty hm ho hbase hline
theorem pg_tupK (K : PySem.W.Frag) (n : Nat) {X : Cx} {es : List Expr} {k : Nat} {t : TGs} {pos : Pos} (hc : X.calm = true) (h : PGs X es t) (e : X.K = K := by rfl) (hn : (assignEach es X.env).length = n := by rfl) (hst : (assignEach es X.env).findIdx? (·.1) = none := by rfl) : PG X (.Tuple es k pos) (gTup K n t) := e ▸ pg_tup hc h hn hst
end L2
namespace L2
theorem scalII (i j : Int) : scal (.int i) (.int j) = true := rfl
theorem scalNI (j : Int) : scal .non (.int j) = true := rfl
theorem scalIN (j : Int) : scal (.int j) .non = true := rfl
theorem scalBB (i j : Bool) : scal (.bl i) (.bl j) = true := rfl
theorem scalSS (i j : PySem.Str) : scal (.str i) (.str j) = true := rfl
theorem scalNN : scal .non .non = true := rfl
end L2

/-! EXTENSION R: a dict walked by its entries, whatever the keys -/
namespace L2
open PySem
/-- the dict's entries as they lie -/
def RawD (h : Heap) (d : Addr) (es : Array DictEntry) (ep : Nat) : Prop := ∃ o, h.get? d = some o ∧ o.ExactDict ∧ o.data = .dict es ep
theorem RawD.ty {s : Shared} {d : Addr} {es : Array DictEntry} {ep : Nat} (x : RawD s.heap d es ep) : s.TypeIs (.ref d) "dict" := let ⟨o, e, c, _⟩ := x; ⟨o, e, c.1⟩
theorem RawD.mono {h h' : Heap} {d : Addr} {es : Array DictEntry} {ep : Nat} (x : RawD h d es ep) (k : ∀ o, h.get? d = some o → h'.get? d = some o) : RawD h' d es ep := let ⟨o, e, r⟩ := x; ⟨o, k o e, r⟩
section
variable {P : Program} {w : World} {A : Around} {E : Value → Shared → Prop} {s : Shared} {d it : Addr} {es : Array DictEntry} {ep i : Nat}

/-! ### keys -/
theorem raw_iter {Q : Value → Shared → Prop} (nd : (d == sysModules) = false) (x : RawD s.heap d es ep)
    (q : Q (.ref s.heap.objs.size) { s with heap := s.heap.push { cls := .type "dict_keyiterator", data := .fields #[.ref d, .int 0 0, .int es.size 0, .int ep 0] } }) :
    wpAny (model P w) A (pyIter (.ref d)) Q E s := by
  have ty := x.ty
  obtain ⟨o, e1, e2, e3⟩ := x
  refine wpAny_pyIter_slot ty F.slot_dict_iter (wpAny_call_entry F.slot_dict_iter ty F.entry_dict_iter ?_ (F.args_dict_iter_1 _))
  unfold Builtin.«dict.__iter__»; refine wpAny_bind ?_
  unfold Builtin.Dict.dictSlotNone; refine wpAny_bind (wpAny_notOrdered_dict ty ?_)
  show wpAny _ _ (pure (Value.ref d)) _ _ s; refine wpAny_pure ?_
  show wpAny _ _ (Builtin.Dict.showsAll d >>= _) _ _ s; unfold Builtin.Dict.showsAll
  rw [if_neg (by rw [nd]; decide)]; refine wpAny_bind (wpAny_pure ?_)
  refine wpAny_bind (wpAny_dictEntries e1 e3 ?_)
  refine wpAny_bind (wpAny_dictEpoch e1 e3 ?_)
  refine wpAny_bind (wpAny_newObj_type (wpAny_pure ⟨_, rfl, "dict_keyiterator", _, ⟨_, Heap.get?_push_size _ rfl, rfl⟩, F.slot_dict_keyiterator_next.lookup, ?_⟩))
  simpa [rawInt] using q
theorem raw_next {Q : Option Value → Shared → Prop} (y : s.heap.IsKeyIter it d i es.size ep) (x : RawD s.heap d es ep) {en : DictEntry} (hx : es[i]? = some en)
    (q : ∀ h', h'.IsKeyIter it d (i + 1) es.size ep → Heap.SameBut it s.heap h' → Q (some en.key) { s with heap := h' }) :
    wpAny (model P w) A (pyNext (.ref it)) Q E s := by
  have ty := y.typeIs
  obtain ⟨o, a1, a2, a3⟩ := id y
  obtain ⟨od, e1, e2, e3⟩ := x
  obtain ⟨li, hen⟩ := Array.getElem?_eq_some_iff.mp hx
  unfold pyNext
  refine wpAny_bind (wpAny_attempt (wpAny_callSpecial?_slot (name := Str.ofString "__next__") ty F.slot_dict_keyiterator_next
    (wpAny_call_entry F.slot_dict_keyiterator_next ty F.entry_dict_keyiterator_next ?_ (F.args_dict_keyiterator_next_1 _))))
  refine wpAny_bind (wpAny_pure ?_); refine wpAny_bind ?_; refine wpAny_bind ?_
  first | refine wpAny_bind (wpAny_typeNameOfWhole_keyiter ty (wpAny_pure ?_)) | refine wpAny_bind (wpAny_typeNameOf_keyiter ty (wpAny_pure ?_))
  refine wpAny_bind (wpAny_fieldsOf a1 a3 ?_)
  have ow : Builtin.Dict_items.ownsTuple "dict_keyiterator" = false := by decide
  simp only [ow, Bool.false_eq_true, if_false]
  show wpAny _ _ (if (Value.ref d == Value.none) = true then _ else _) _ _ s; rw [if_neg (show ¬ ((Value.ref d == Value.none) = true) from Bool.false_ne_true)]
  refine wpAny_bind (wpAny_pure ?_); refine wpAny_bind (wpAny_dictEntries e1 e3 ?_)
  rw [if_neg (by simp)]
  refine wpAny_bind (wpAny_pure ?_); refine wpAny_bind (wpAny_dictEpoch e1 e3 ?_)
  rw [if_neg (by simp)]; refine wpAny_pure ?_
  simp only [show ¬ ((i : Int) < 0) from by (first | lia | omega), if_false, Int.toNat_natCast, hx]
  refine wpAny_bind ?_
  first | refine wpAny_bind (wpAny_typeNameOfWhole_keyiter ty (wpAny_pure ?_)) | refine wpAny_bind (wpAny_typeNameOf_keyiter ty (wpAny_pure ?_))
  refine wpAny_bind (wpAny_isOneOf_keyiter ty ?_)
  show wpAny _ _ (setField (.ref it) 1 (rawInt ((i : Int) + 1)) >>= _) _ _ s; refine wpAny_bind (wpAny_setField a1 a3 (by simp) ?_)
  have y' : (s.heap.update it (Obj.mapFields (·.setIfInBounds 1 (rawInt ((i : Int) + 1))))).IsKeyIter it d (i + 1) es.size ep :=
    ⟨_, Heap.get?_update_self _ a1 (Obj.isFreed_of_fields (Obj.data_mapFields a3 _)), (Obj.cls_mapFields ..).trans a2, by rw [Obj.data_mapFields a3]; simp [rawInt]⟩
  refine wpAny_bind (wpAny_holding ?_)
  refine wpAny_bind (wpAny_isOneOf_keyiter (s := { s with heap := s.heap.update it (Obj.mapFields (·.setIfInBounds 1 (rawInt ((i : Int) + 1)))) }) y'.typeIs ?_)
  exact wpAny_pure (wpAny_pure ⟨_, rfl, wpAny_pure (q _ y' (Heap.SameBut.update ..))⟩)
theorem raw_end {Q : Option Value → Shared → Prop} (hd : A.handled = none) (y : s.heap.IsKeyIter it d i es.size ep) (x : RawD s.heap d es ep) (hx : es[i]? = none)
    (q : ∀ h', Heap.ExtBut it s.heap h' → Q none { s with heap := h' }) : wpAny (model P w) A (pyNext (.ref it)) Q E s := by
  have ty := y.typeIs
  obtain ⟨o, a1, a2, a3⟩ := id y
  obtain ⟨od, e1, e2, e3⟩ := x
  unfold pyNext
  refine wpAny_bind (wpAny_attempt (wpAny_callSpecial?_slot (name := Str.ofString "__next__") ty F.slot_dict_keyiterator_next
    (wpAny_call_entry F.slot_dict_keyiterator_next ty F.entry_dict_keyiterator_next ?_ (F.args_dict_keyiterator_next_1 _))))
  refine wpAny_bind (wpAny_pure ?_); refine wpAny_bind ?_; refine wpAny_bind ?_
  first | refine wpAny_bind (wpAny_typeNameOfWhole_keyiter ty (wpAny_pure ?_)) | refine wpAny_bind (wpAny_typeNameOf_keyiter ty (wpAny_pure ?_))
  refine wpAny_bind (wpAny_fieldsOf a1 a3 ?_)
  have ow : Builtin.Dict_items.ownsTuple "dict_keyiterator" = false := by decide
  simp only [ow, Bool.false_eq_true, if_false]
  show wpAny _ _ (if (Value.ref d == Value.none) = true then _ else _) _ _ s; rw [if_neg (show ¬ ((Value.ref d == Value.none) = true) from Bool.false_ne_true)]
  refine wpAny_bind (wpAny_pure ?_); refine wpAny_bind (wpAny_dictEntries e1 e3 ?_)
  rw [if_neg (by simp)]
  refine wpAny_bind (wpAny_pure ?_); refine wpAny_bind (wpAny_dictEpoch e1 e3 ?_)
  rw [if_neg (by simp)]; refine wpAny_pure ?_
  simp only [show ¬ ((i : Int) < 0) from by (first | lia | omega), if_false, Int.toNat_natCast, hx]
  refine wpAny_bind ?_
  first | refine wpAny_bind (wpAny_typeNameOfWhole_keyiter ty (wpAny_pure ?_)) | refine wpAny_bind (wpAny_typeNameOf_keyiter ty (wpAny_pure ?_))
  show wpAny _ _ (setField (.ref it) 0 .none >>= _) _ _ s; refine wpAny_bind (wpAny_setField a1 a3 (by simp) ?_)
  show wpAny _ _ (newExc (.type "StopIteration") [] >>= _) _ _ _; refine wpAny_bind ?_; simp only [newExc, newTuple]
  refine wpAny_bind (wpAny_newObj_type ?_ (by size_fits)); refine wpAny_bind (m := firstArgMember _ _) (wpAny_of_eq (a := Value.none) (by first | rfl | (simp only [firstArgMember]; rfl)) ?_)
  refine wpAny_newObj_type ?_ (by size_fits); simp only [raiseNew]; refine wpAny_bind (wpAny_handled ?_)
  rw [show A.in1.handled = none from hd]; refine wpAny_bind (wpAny_pure (wpAny_throw ?_))
  refine wpAny_bind (wpAny_isInstance (T := "StopIteration") (b := true) ⟨_, Heap.get?_push_size _ rfl, rfl⟩ isSubtype_stop ?_); exact wpAny_pure (q _ (((Heap.SameBut.update ..).extBut.push _).push _))
theorem raw_walk (hd : A.handled = none) (hne : d ≠ it) : Walks P w A it [it, d] [it] es.size (fun i v => ∃ en, es[i]? = some en ∧ v = en.key) (fun i h => h.IsKeyIter it d i es.size ep ∧ RawD h d es ep) where
  sub := fun b hb => by simp at hb; simp [hb]
  frame := fun _ _ _ st hk => ⟨by
    obtain ⟨o, e, r⟩ := st.1
    exact ⟨o, hk it (by simp) o e, r⟩, st.2.mono fun o e => hk d (by simp) o e⟩
  item := fun i s Q E hi st hQ => by
    refine raw_next st.1 st.2 (en := es[i]) (by simp [hi]) fun h' y' sb => ?_
    exact hQ _ h' s.toks ⟨_, by simp [hi], rfl⟩ ⟨y', st.2.mono fun o e => sb.extBut d o hne e⟩ fun b o hb e => sb.extBut b o (fun z => hb (by simp [z])) e
  done := fun s Q E st hQ => raw_end hd st.1 st.2 (by simp) fun h' eb => hQ h' s.toks fun b o hb e => eb b o (fun z => hb (by simp [z])) e
  self := fun _ _ _ _ st hQ => wpAny_pyIter_keyiter st.1 hQ

/-! ### values -/
theorem raw_values {R : Value → Shared → Prop} (nd : (d == sysModules) = false) (x : RawD s.heap d es ep) (q : R (.ref s.heap.objs.size) { s with heap := s.heap.push { cls := .type "dict_values", data := .fields #[.ref d] } }) :
    wpAny (model P w) A (call (.builtin "dict.values") [.ref d]) R E s := by
  have ty := x.ty
  refine wpAny_call_entry F.slot_dict_values ty F.entry_dict_values ?_ (F.args_dict_values_1 _)
  refine wpAny_bind ?_
  unfold Builtin.Dict.noArgs
  refine wpAny_bind (wpAny_notOrdered_dict ty ?_)
  show wpAny _ _ (pure d) _ _ s; refine wpAny_pure ?_
  show wpAny _ _ (Builtin.Dict.showsAll d >>= _) _ _ s; unfold Builtin.Dict.showsAll
  rw [if_neg (by rw [nd]; decide)]; refine wpAny_bind (wpAny_pure ?_)
  exact wpAny_bind (wpAny_newObj_type (wpAny_pure ⟨_, rfl, q⟩))
theorem raw_iterV {v : Addr} {Q : Value → Shared → Prop} (vw : s.heap.IsValuesView v d) (x : RawD s.heap d es ep)
    (q : Q (.ref s.heap.objs.size) { s with heap := s.heap.push { cls := .type "dict_valueiterator", data := .fields #[.ref d, .int 0 0, .int es.size 0, .int ep 0] } }) :
    wpAny (model P w) A (pyIter (.ref v)) Q E s := by
  have ty := vw.typeIs
  obtain ⟨ov, b1, b2, b3⟩ := id vw
  obtain ⟨o, e1, e2, e3⟩ := x
  refine wpAny_pyIter_slot ty F.slot_dict_values_iter (wpAny_call_entry F.slot_dict_values_iter ty F.entry_dict_values_iter ?_ (F.args_dict_values_iter_1 _))
  unfold Builtin.«dict_values.__iter__»; refine wpAny_bind (wpAny_pure ?_); refine wpAny_bind ?_
  unfold Builtin.Dict_items.dictOf; refine wpAny_bind (wpAny_field b1 b3 (x := .ref d) rfl (wpAny_pure ?_)); refine wpAny_bind ?_
  unfold Builtin.Dict_items.newIterator; refine wpAny_bind (wpAny_dictEntries e1 e3 ?_); refine wpAny_bind (wpAny_dictEpoch e1 e3 ?_)
  have ow : Builtin.Dict_items.ownsTuple "dict_valueiterator" = false := by decide
  simp only [ow, Bool.false_eq_true, if_false]
  refine wpAny_newObj_type (wpAny_pure ⟨_, rfl, "dict_valueiterator", _, ⟨_, Heap.get?_push_size _ rfl, rfl⟩, F.slot_dict_valueiterator_next.lookup, ?_⟩)
  simpa [rawInt] using q
theorem raw_nextV {Q : Option Value → Shared → Prop} (y : s.heap.IsValIter it d i es.size ep) (x : RawD s.heap d es ep) {en : DictEntry} (hx : es[i]? = some en)
    (q : ∀ h', h'.IsValIter it d (i + 1) es.size ep → Heap.SameBut it s.heap h' → Q (some en.val) { s with heap := h' }) :
    wpAny (model P w) A (pyNext (.ref it)) Q E s := by
  have ty := y.typeIs
  obtain ⟨o, a1, a2, a3⟩ := id y
  obtain ⟨od, e1, e2, e3⟩ := x
  obtain ⟨li, hen⟩ := Array.getElem?_eq_some_iff.mp hx
  unfold pyNext
  refine wpAny_bind (wpAny_attempt (wpAny_callSpecial?_slot (name := Str.ofString "__next__") ty F.slot_dict_valueiterator_next
    (wpAny_call_entry F.slot_dict_valueiterator_next ty F.entry_dict_valueiterator_next ?_ (F.args_dict_valueiterator_next_1 _))))
  refine wpAny_bind (wpAny_pure ?_); refine wpAny_bind ?_; refine wpAny_bind ?_
  first | refine wpAny_bind (wpAny_typeNameOfWhole_valiter ty (wpAny_pure ?_)) | refine wpAny_bind (wpAny_typeNameOf_valiter ty (wpAny_pure ?_))
  refine wpAny_bind (wpAny_fieldsOf a1 a3 ?_)
  have ow : Builtin.Dict_items.ownsTuple "dict_valueiterator" = false := by decide
  simp only [ow, Bool.false_eq_true, if_false]
  show wpAny _ _ (if (Value.ref d == Value.none) = true then _ else _) _ _ s; rw [if_neg (show ¬ ((Value.ref d == Value.none) = true) from Bool.false_ne_true)]
  refine wpAny_bind (wpAny_pure ?_); refine wpAny_bind (wpAny_dictEntries e1 e3 ?_)
  rw [if_neg (by simp)]
  refine wpAny_bind (wpAny_pure ?_); refine wpAny_bind (wpAny_dictEpoch e1 e3 ?_)
  rw [if_neg (by simp)]; refine wpAny_pure ?_
  simp only [show ¬ ((i : Int) < 0) from by (first | lia | omega), if_false, Int.toNat_natCast, hx]
  refine wpAny_bind ?_
  first | refine wpAny_bind (wpAny_typeNameOfWhole_valiter ty (wpAny_pure ?_)) | refine wpAny_bind (wpAny_typeNameOf_valiter ty (wpAny_pure ?_))
  refine wpAny_bind (wpAny_isOneOf_valiter ty ?_)
  show wpAny _ _ (setField (.ref it) 1 (rawInt ((i : Int) + 1)) >>= _) _ _ s; refine wpAny_bind (wpAny_setField a1 a3 (by simp) ?_)
  have y' : (s.heap.update it (Obj.mapFields (·.setIfInBounds 1 (rawInt ((i : Int) + 1))))).IsValIter it d (i + 1) es.size ep :=
    ⟨_, Heap.get?_update_self _ a1 (Obj.isFreed_of_fields (Obj.data_mapFields a3 _)), (Obj.cls_mapFields ..).trans a2, by rw [Obj.data_mapFields a3]; simp [rawInt]⟩
  refine wpAny_bind (wpAny_holding ?_)
  refine wpAny_bind (wpAny_isOneOf_valiter (s := { s with heap := s.heap.update it (Obj.mapFields (·.setIfInBounds 1 (rawInt ((i : Int) + 1)))) }) y'.typeIs ?_)
  refine wpAny_bind (wpAny_isOneOf_valiter (s := { s with heap := s.heap.update it (Obj.mapFields (·.setIfInBounds 1 (rawInt ((i : Int) + 1)))) }) y'.typeIs ?_)
  exact wpAny_pure (wpAny_pure ⟨_, rfl, wpAny_pure (q _ y' (Heap.SameBut.update ..))⟩)
theorem raw_endV {Q : Option Value → Shared → Prop} (hd : A.handled = none) (y : s.heap.IsValIter it d i es.size ep) (x : RawD s.heap d es ep) (hx : es[i]? = none)
    (q : ∀ h', Heap.ExtBut it s.heap h' → Q none { s with heap := h' }) : wpAny (model P w) A (pyNext (.ref it)) Q E s := by
  have ty := y.typeIs
  obtain ⟨o, a1, a2, a3⟩ := id y
  obtain ⟨od, e1, e2, e3⟩ := x
  unfold pyNext
  refine wpAny_bind (wpAny_attempt (wpAny_callSpecial?_slot (name := Str.ofString "__next__") ty F.slot_dict_valueiterator_next
    (wpAny_call_entry F.slot_dict_valueiterator_next ty F.entry_dict_valueiterator_next ?_ (F.args_dict_valueiterator_next_1 _))))
  refine wpAny_bind (wpAny_pure ?_); refine wpAny_bind ?_; refine wpAny_bind ?_
  first | refine wpAny_bind (wpAny_typeNameOfWhole_valiter ty (wpAny_pure ?_)) | refine wpAny_bind (wpAny_typeNameOf_valiter ty (wpAny_pure ?_))
  refine wpAny_bind (wpAny_fieldsOf a1 a3 ?_)
  have ow : Builtin.Dict_items.ownsTuple "dict_valueiterator" = false := by decide
  simp only [ow, Bool.false_eq_true, if_false]
  show wpAny _ _ (if (Value.ref d == Value.none) = true then _ else _) _ _ s; rw [if_neg (show ¬ ((Value.ref d == Value.none) = true) from Bool.false_ne_true)]
  refine wpAny_bind (wpAny_pure ?_); refine wpAny_bind (wpAny_dictEntries e1 e3 ?_)
  rw [if_neg (by simp)]
  refine wpAny_bind (wpAny_pure ?_); refine wpAny_bind (wpAny_dictEpoch e1 e3 ?_)
  rw [if_neg (by simp)]; refine wpAny_pure ?_
  simp only [show ¬ ((i : Int) < 0) from by (first | lia | omega), if_false, Int.toNat_natCast, hx]
  refine wpAny_bind ?_
  first | refine wpAny_bind (wpAny_typeNameOfWhole_valiter ty (wpAny_pure ?_)) | refine wpAny_bind (wpAny_typeNameOf_valiter ty (wpAny_pure ?_))
  show wpAny _ _ (setField (.ref it) 0 .none >>= _) _ _ s; refine wpAny_bind (wpAny_setField a1 a3 (by simp) ?_)
  show wpAny _ _ (newExc (.type "StopIteration") [] >>= _) _ _ _; refine wpAny_bind ?_; simp only [newExc, newTuple]
  refine wpAny_bind (wpAny_newObj_type ?_ (by size_fits)); refine wpAny_bind (m := firstArgMember _ _) (wpAny_of_eq (a := Value.none) (by first | rfl | (simp only [firstArgMember]; rfl)) ?_)
  refine wpAny_newObj_type ?_ (by size_fits); simp only [raiseNew]; refine wpAny_bind (wpAny_handled ?_)
  rw [show A.in1.handled = none from hd]; refine wpAny_bind (wpAny_pure (wpAny_throw ?_))
  refine wpAny_bind (wpAny_isInstance (T := "StopIteration") (b := true) ⟨_, Heap.get?_push_size _ rfl, rfl⟩ isSubtype_stop ?_); exact wpAny_pure (q _ (((Heap.SameBut.update ..).extBut.push _).push _))
theorem raw_walkV (hd : A.handled = none) (hne : d ≠ it) : Walks P w A it [it, d] [it] es.size (fun i v => ∃ en, es[i]? = some en ∧ v = en.val) (fun i h => h.IsValIter it d i es.size ep ∧ RawD h d es ep) where
  sub := fun b hb => by simp at hb; simp [hb]
  frame := fun _ _ _ st hk => ⟨by
    obtain ⟨o, e, r⟩ := st.1
    exact ⟨o, hk it (by simp) o e, r⟩, st.2.mono fun o e => hk d (by simp) o e⟩
  item := fun i s Q E hi st hQ => by
    refine raw_nextV st.1 st.2 (en := es[i]) (by simp [hi]) fun h' y' sb => ?_
    exact hQ _ h' s.toks ⟨_, by simp [hi], rfl⟩ ⟨y', st.2.mono fun o e => sb.extBut d o hne e⟩ fun b o hb e => sb.extBut b o (fun z => hb (by simp [z])) e
  done := fun s Q E st hQ => raw_endV hd st.1 st.2 (by simp) fun h' eb => hQ h' s.toks fun b o hb e => eb b o (fun z => hb (by simp [z])) e
  self := fun _ _ _ _ st hQ => wpAny_pyIter_valiter st.1 hQ

/-! ### items -/
theorem raw_items {R : Value → Shared → Prop} (nd : (d == sysModules) = false) (x : RawD s.heap d es ep) (q : R (.ref s.heap.objs.size) { s with heap := s.heap.push { cls := .type "dict_items", data := .fields #[.ref d] } }) :
    wpAny (model P w) A (call (.builtin "dict.items") [.ref d]) R E s := by
  have ty := x.ty
  refine wpAny_call_entry F.slot_dict_items ty F.entry_dict_items ?_ (F.args_dict_items_1 _)
  unfold Builtin.«dict.items»
  refine wpAny_bind ?_
  unfold Builtin.Dict.noArgs
  refine wpAny_bind (wpAny_notOrdered_dict ty ?_)
  show wpAny _ _ (pure d) _ _ s; refine wpAny_pure ?_
  show wpAny _ _ (Builtin.Dict.showsAll d >>= _) _ _ s; unfold Builtin.Dict.showsAll
  rw [if_neg (by rw [nd]; decide)]; refine wpAny_bind (wpAny_pure ?_)
  exact wpAny_bind (wpAny_newObj_type (wpAny_pure ⟨_, rfl, q⟩))
theorem raw_iterI {v : Addr} {Q : Value → Shared → Prop} (vw : s.heap.IsItemsView v d) (x : RawD s.heap d es ep)
    (q : Q (.ref s.heap.objs.size) { s with heap := s.heap.push { cls := .type "dict_itemiterator", data := .fields #[.none, .bool false, .ref d, .int 0 0, .int es.size 0, .int ep 0, .none, .none] } }) :
    wpAny (model P w) A (pyIter (.ref v)) Q E s := by
  have ty := vw.typeIs
  obtain ⟨ov, b1, b2, b3⟩ := id vw
  obtain ⟨o, e1, e2, e3⟩ := x
  refine wpAny_pyIter_slot ty F.slot_dict_items_iter (wpAny_call_entry F.slot_dict_items_iter ty F.entry_dict_items_iter ?_ (F.args_dict_items_iter_1 _))
  unfold Builtin.«dict_items.__iter__»; refine wpAny_bind (wpAny_pure ?_); refine wpAny_bind ?_
  unfold Builtin.Dict_items.dictOf; refine wpAny_bind (wpAny_field b1 b3 (x := .ref d) rfl (wpAny_pure ?_)); refine wpAny_bind ?_
  unfold Builtin.Dict_items.newIterator; refine wpAny_bind (wpAny_dictEntries e1 e3 ?_); refine wpAny_bind (wpAny_dictEpoch e1 e3 ?_)
  have ow : Builtin.Dict_items.ownsTuple "dict_itemiterator" = true := by decide
  simp only [ow, if_true]
  refine wpAny_newObj_type (wpAny_pure ⟨_, rfl, "dict_itemiterator", _, ⟨_, Heap.get?_push_size _ rfl, rfl⟩, F.slot_dict_itemiterator_next.lookup, ?_⟩)
    (by simp only [sizeOk, Builtin.Dict_items.ownedTupleFields, List.size_toArray, List.length_append, List.length_cons, List.length_nil, sizeLine_eq]; (first | lia | omega))
  simpa [rawInt, Builtin.Dict_items.ownedTupleFields] using q
theorem raw_nextI {ok ov : Value} {Q : Option Value → Shared → Prop} (y : IsItemIter s.heap it d i es.size ep ok ov) (x : RawD s.heap d es ep) {en : DictEntry} (hx : es[i]? = some en)
    (q : ∀ h', IsItemIterOut h' it d (i + 1) es.size ep en.key en.val s.heap.objs.size → h'.get? s.heap.objs.size = some { cls := .type "tuple", data := .seq #[en.key, en.val] } →
      h'.objs.size = s.heap.objs.size + 1 → (∀ b o, b ≠ it → s.heap.get? b = some o → h'.get? b = some o) → Q (some (.ref s.heap.objs.size)) { s with heap := h' }) :
    wpAny (model P w) A (pyNext (.ref it)) Q E s := by
  obtain ⟨hp, g, dr, tk, os⟩ := s
  obtain ⟨od, e1, e2, e3⟩ := x
  have ty : Shared.TypeIs ⟨hp, g, dr, tk, os⟩ (.ref it) "dict_itemiterator" := ⟨_, y, rfl⟩
  obtain ⟨li, hen⟩ := Array.getElem?_eq_some_iff.mp hx
  unfold pyNext
  refine wpAny_bind (wpAny_attempt (wpAny_callSpecial?_slot (name := Str.ofString "__next__") ty F.slot_dict_itemiterator_next
    (wpAny_call_entry F.slot_dict_itemiterator_next ty F.entry_dict_itemiterator_next ?_ (F.args_dict_itemiterator_next_1 _))))
  refine wpAny_bind (wpAny_pure ?_); refine wpAny_bind ?_; refine wpAny_bind ?_
  first | refine wpAny_bind (wpAny_typeNameOfWhole_itemiter ty (wpAny_pure ?_)) | refine wpAny_bind (wpAny_typeNameOf_itemiter ty (wpAny_pure ?_))
  refine wpAny_bind (wpAny_fieldsOf y rfl ?_)
  have ow : Builtin.Dict_items.ownsTuple "dict_itemiterator" = true := by decide
  simp only [ow, if_true]
  show wpAny _ _ (if (Value.ref d == Value.none) = true then _ else _) _ _ ⟨hp, g, dr, tk, os⟩; rw [if_neg (show ¬ ((Value.ref d == Value.none) = true) from Bool.false_ne_true)]
  refine wpAny_bind (wpAny_pure ?_); refine wpAny_bind (wpAny_dictEntries e1 e3 ?_)
  rw [if_neg (by simp)]
  refine wpAny_bind (wpAny_pure ?_); refine wpAny_bind (wpAny_dictEpoch e1 e3 ?_)
  rw [if_neg (by simp)]; refine wpAny_pure ?_
  simp only [show ¬ ((i : Int) < 0) from by (first | lia | omega), if_false, Int.toNat_natCast, hx]
  refine wpAny_bind ?_
  first | refine wpAny_bind (wpAny_typeNameOfWhole_itemiter ty (wpAny_pure ?_)) | refine wpAny_bind (wpAny_typeNameOf_itemiter ty (wpAny_pure ?_))
  refine wpAny_bind (wpAny_isOneOf_itemiter ty ?_)
  show wpAny _ _ (setField (.ref it) 3 (rawInt ((i : Int) + 1)) >>= _) _ _ ⟨hp, g, dr, tk, os⟩; refine wpAny_bind (wpAny_setField_rec y (by simp) fun h1 y1 m1 => ?_)
  replace m1 : Heap.SameBut it hp h1 := m1
  replace y1 : IsItemIter h1 it d (i + 1) es.size ep ok ov := by
    have z : ((i + 1 : Nat) : Int) = (i : Int) + 1 := by (first | lia | omega)
    unfold IsItemIter; rw [z]; simpa [rawInt] using y1
  have ty1 : Shared.TypeIs ⟨h1, g, dr, tk, os⟩ (.ref it) "dict_itemiterator" := ⟨_, y1, rfl⟩
  refine wpAny_bind (wpAny_holding ?_); refine wpAny_bind (wpAny_isOneOf_itemiter ty1 ?_); refine wpAny_bind (wpAny_isOneOf_itemiter ty1 ?_)
  show wpAny _ _ (Builtin.Dict_items.pairFromOwner (.ref it) 6 en.key en.val) _ _ ⟨h1, g, dr, tk, os⟩
  unfold Builtin.Dict_items.pairFromOwner; refine wpAny_bind (wpAny_newTuple ?_)
  have y2 : IsItemIter (h1.push { cls := .type "tuple", data := .seq #[en.key, en.val] }) it d (i + 1) es.size ep ok ov := Heap.get?_push_of_some _ y1
  generalize eh2 : h1.push { cls := .type "tuple", data := .seq #[en.key, en.val] } = h2 at y2
  have z1 : h1.objs.size = hp.objs.size := m1.1
  have il : it < hp.objs.size := Heap.lt_size y
  have t2 : h2.get? hp.objs.size = some { cls := .type "tuple", data := .seq #[en.key, en.val] } := by rw [← eh2, ← z1]; exact Heap.get?_push_size _ rfl
  have z2 : h2.objs.size = hp.objs.size + 1 := by rw [← eh2, Heap.size_push, z1]
  have k2 : ∀ b o, b ≠ it → hp.get? b = some o → h2.get? b = some o := fun b o hb e => by rw [← eh2]; exact Heap.get?_push_of_some _ (m1.extBut b o hb e)
  show wpAny _ _ (Builtin.Dict_items.ownedTupleIsFree (.ref it) >>= _) _ _ ⟨h2, g, dr, tk, os⟩; rw [z1]; clear eh2 y1 m1 ty1 z1 h1
  refine wpAny_bind ?_; unfold Builtin.Dict_items.ownedTupleIsFree
  refine wpAny_bind (wpAny_field y2 rfl (x := .none) rfl (wpAny_pure ?_)); simp only [if_true]
  refine wpAny_bind (wpAny_field y2 rfl (x := ok) rfl ?_); refine wpAny_bind (wpAny_field y2 rfl (x := ov) rfl ?_)
  refine wpAny_bind (wpAny_setField_rec y2 (by simp) fun h3 y3 m3 => ?_)
  replace m3 : Heap.SameBut it h2 h3 := m3; replace y3 : IsItemIter h3 it d (i + 1) es.size ep en.key ov := y3
  refine wpAny_bind (wpAny_setField_rec y3 (by simp) fun h4 y4 m4 => ?_)
  replace m4 : Heap.SameBut it h3 h4 := m4; replace y4 : IsItemIter h4 it d (i + 1) es.size ep en.key en.val := y4
  refine wpAny_bind (wpAny_setField_rec y4 (by simp) fun h5 y5 m5 => ?_)
  replace m5 : Heap.SameBut it h4 h5 := m5; replace y5 : IsItemIterOut h5 it d (i + 1) es.size ep en.key en.val hp.objs.size := y5
  refine wpAny_bind (wpAny_setField_rec y5 (by simp) fun h6 y6 m6 => ?_)
  replace m6 : Heap.SameBut it h5 h6 := m6; replace y6 : IsItemIterOut h6 it d (i + 1) es.size ep en.key en.val hp.objs.size := y6
  have kk : ∀ b o, b ≠ it → h2.get? b = some o → h6.get? b = some o := fun b o hb e => m6.extBut b o hb (m5.extBut b o hb (m4.extBut b o hb (m3.extBut b o hb e)))
  refine wpAny_bind (wpAny_letGo (wpAny_pure (wpAny_pure ⟨_, rfl, wpAny_pure (q h6 y6 (kk _ _ (Nat.ne_of_gt il) t2) ?_ fun b o hb e => kk b o hb (k2 b o hb e))⟩)))
  show h6.objs.size = hp.objs.size + 1; rw [m6.1, m5.1, m4.1, m3.1, z2]
theorem raw_endI {ok ov : Value} {Q : Option Value → Shared → Prop} (hd : A.handled = none) (y : IsItemIter s.heap it d i es.size ep ok ov) (x : RawD s.heap d es ep) (hx : es[i]? = none)
    (q : ∀ h', Heap.ExtBut it s.heap h' → Q none { s with heap := h' }) : wpAny (model P w) A (pyNext (.ref it)) Q E s := by
  obtain ⟨od, e1, e2, e3⟩ := x
  have ty : s.TypeIs (.ref it) "dict_itemiterator" := ⟨_, y, rfl⟩
  unfold pyNext
  refine wpAny_bind (wpAny_attempt (wpAny_callSpecial?_slot (name := Str.ofString "__next__") ty F.slot_dict_itemiterator_next
    (wpAny_call_entry F.slot_dict_itemiterator_next ty F.entry_dict_itemiterator_next ?_ (F.args_dict_itemiterator_next_1 _))))
  refine wpAny_bind (wpAny_pure ?_); refine wpAny_bind ?_; refine wpAny_bind ?_
  first | refine wpAny_bind (wpAny_typeNameOfWhole_itemiter ty (wpAny_pure ?_)) | refine wpAny_bind (wpAny_typeNameOf_itemiter ty (wpAny_pure ?_))
  refine wpAny_bind (wpAny_fieldsOf y rfl ?_)
  have ow : Builtin.Dict_items.ownsTuple "dict_itemiterator" = true := by decide
  simp only [ow, if_true]
  show wpAny _ _ (if (Value.ref d == Value.none) = true then _ else _) _ _ s; rw [if_neg (show ¬ ((Value.ref d == Value.none) = true) from Bool.false_ne_true)]
  refine wpAny_bind (wpAny_pure ?_); refine wpAny_bind (wpAny_dictEntries e1 e3 ?_)
  rw [if_neg (by simp)]
  refine wpAny_bind (wpAny_pure ?_); refine wpAny_bind (wpAny_dictEpoch e1 e3 ?_)
  rw [if_neg (by simp)]; refine wpAny_pure ?_
  simp only [show ¬ ((i : Int) < 0) from by (first | lia | omega), if_false, Int.toNat_natCast, hx]
  refine wpAny_bind ?_
  first | refine wpAny_bind (wpAny_typeNameOfWhole_itemiter ty (wpAny_pure ?_)) | refine wpAny_bind (wpAny_typeNameOf_itemiter ty (wpAny_pure ?_))
  show wpAny _ _ (setField (.ref it) 2 .none >>= _) _ _ s; refine wpAny_bind (wpAny_setField y rfl (by simp) ?_)
  show wpAny _ _ (newExc (.type "StopIteration") [] >>= _) _ _ _; refine wpAny_bind ?_; simp only [newExc, newTuple]
  refine wpAny_bind (wpAny_newObj_type ?_ (by size_fits)); refine wpAny_bind (m := firstArgMember _ _) (wpAny_of_eq (a := Value.none) (by first | rfl | (simp only [firstArgMember]; rfl)) ?_)
  refine wpAny_newObj_type ?_ (by size_fits); simp only [raiseNew]; refine wpAny_bind (wpAny_handled ?_)
  rw [show A.in1.handled = none from hd]; refine wpAny_bind (wpAny_pure (wpAny_throw ?_))
  refine wpAny_bind (wpAny_isInstance (T := "StopIteration") (b := true) ⟨_, Heap.get?_push_size _ rfl, rfl⟩ isSubtype_stop ?_); exact wpAny_pure (q _ (((Heap.SameBut.update ..).extBut.push _).push _))

/-! ### min(.., key=f), f known to keep the heap and to tell an int -/
/-- all objects of h are in h' -/
def Kp (h h' : Heap) : Prop := ∀ b o, h.get? b = some o → h'.get? b = some o
section
variable {I S : Addr} {fp wr : List Addr} {n : Nat} {PV : Nat → Value → Prop} {St : Nat → Heap → Prop} {f : String} {R : Result → Shared → Prop}
theorem mk_loop (W : Walks P w A.in1 I fp wr n PV St) (kf : Nat → Int) (hSf : S ∉ fp) (hwr : ∀ b ∈ wr, s.heap.objs.size ≤ b) (hS0 : s.heap.objs.size ≤ S)
    (turn : ∀ (i : Nat) (v : Value) (h : Heap) (tk : Nat), i < n → PV i v → Kp s.heap h → wpAny (model P w) A.in1 (call (.builtin f) [v]) (fun x s' => ∃ (t : Tok) (h' : Heap) (tk' : Nat), x = .int (kf i) t ∧ s' = { s with heap := h', toks := tk' } ∧ Kp h h') (fun _ _ => False) { s with heap := h, toks := tk })
    (hR : ∀ i v h' tk', i < n → PV i v → (∀ j, j < n → kf i ≤ kf j ∧ (j < i → kf i < kf j)) → Kp s.heap h' → R (.ok (.ret v)) { s with heap := h', toks := tk' }) :
    ∀ (r j i : Nat) (h : Heap) (tk : Nat) (vb : Value) (tb : Tok) (c : Nat), n - (j + 1) = r → j + 1 ≤ n → Kp s.heap h → h.get? S = some { cls := .type "list", data := .seq #[vb, .int (kf i) tb] c } → St (j + 1) h → PV i vb → i ≤ j →
      (∀ j', j' ≤ j → kf i ≤ kf j' ∧ (j' < i → kf i < kf j')) → codeAny (model P w) A (.builtin "min.loop" ⟨[.ref I, .builtin f, .ref S], []⟩) R { s with heap := h, toks := tk } := by
  have nm : (toString "min" ++ toString ".loop" : String) = "min.loop" := by decide
  have hSw : S ∉ wr := fun z => hSf (W.sub _ z)
  have low : ∀ b o, s.heap.get? b = some o → b ∉ wr := fun b o e z => Nat.lt_irrefl _ (Nat.lt_of_lt_of_le (Heap.lt_size e) (hwr b z))
  have lowS : ∀ b o, s.heap.get? b = some o → S ≠ b := fun b o e z => Nat.lt_irrefl _ (Nat.lt_of_lt_of_le (Heap.lt_size e) (z ▸ hS0))
  intro r
  induction r with
  | zero =>
    intro j i h tk vb tb c hr hj hk hS hst hvb hij best
    have hin : n = j + 1 := by (first | lia | omega)
    subst hin
    refine codeAny_builtin F.entry_min_loop ?_
    rw [Around.under_plainId F.plain_min_loop _]
    show wpAny _ A.in1 (seqItems? (.ref S) >>= _) _ _ _
    refine wpAny_bind (wpAny_seqItems hS rfl ?_)
    show wpAny _ A.in1 (tryCatch (pyNext (.ref I)) _ >>= _) _ _ _
    refine wpAny_bind (wpAny_tryCatch (W.done _ _ _ hst fun h' tk' hk' => ?_))
    have hS' := hk' S _ hSw hS
    show wpAny _ A.in1 (updateSeq S (fun _ => #[]) >>= _) _ _ _
    refine wpAny_bind ?_
    refine wpAny_updateSeq hS' rfl (wpAny_bind (wpAny_letGo (wpAny_pure ?_)))
    exact hR i vb _ _ (by (first | lia | omega)) hvb (fun j' hj' => best j' (by (first | lia | omega))) fun b o e => (Heap.get?_update_other _ _ (lowS b o e)).trans (hk' b o (low b o e) (hk b o e))
  | succ r ih =>
    intro j i h tk vb tb c hr hj hk hS hst hvb hij best
    have hlt : j + 1 < n := by (first | lia | omega)
    refine codeAny_builtin F.entry_min_loop ?_
    rw [Around.under_plainId F.plain_min_loop _]
    show wpAny _ A.in1 (seqItems? (.ref S) >>= _) _ _ _
    refine wpAny_bind (wpAny_seqItems hS rfl ?_)
    show wpAny _ A.in1 (tryCatch (pyNext (.ref I)) _ >>= _) _ _ _
    refine wpAny_bind (wpAny_tryCatch (W.item (j + 1) _ _ _ hlt hst fun v h' tk' hP hst' hk' => ?_))
    have k1 : Kp s.heap h' := fun b o e => hk' b o (low b o e) (hk b o e)
    have hS1 := hk' S _ hSw hS
    show wpAny _ A.in1 (tryCatch (holding [v] (call (.builtin f) [v])) _ >>= _) _ _ _
    refine wpAny_bind (wpAny_tryCatch (wpAny_holding (wpAny_mono (turn (j + 1) v h' tk' hlt hP k1) (fun x s'' z => ?_) fun _ _ z => z.elim)))
    obtain ⟨t2, h2, tk2, rfl, rfl, k2⟩ := z
    have hS2 := k2 S _ hS1
    have st2 : St (j + 1 + 1) h2 := W.frame _ _ _ hst' fun b _ o e => k2 b o e
    show wpAny _ A.in1 (tryCatch (holding [v, .int (kf (j + 1)) t2] (richCompare .Lt (.int (kf (j + 1)) t2) (.int (kf i) tb) >>= _)) _ >>= _) _ _ _
    refine wpAny_bind (wpAny_tryCatch (wpAny_holding (wpAny_bind (CmpOf.ints_lt (prog := P) (w := w) (A := A.in1) (P := fun i v => ∃ t, v = .int (kf i) t) kf (fun i v h => h) (j + 1) i _ _ _ _ _ ⟨t2, rfl⟩ ⟨tb, rfl⟩ ?_))))
    refine wpAny_bind (wpAny_holding (wpAny_truthy_bool ?_))
    refine wpAny_bind (wpAny_letGo (wpAny_pure ?_))
    by_cases lt : kf (j + 1) < kf i
    · simp only [lt, decide_true, if_true]
      refine wpAny_bind ?_
      refine wpAny_updateSeq hS2 rfl (wpAny_bind (wpAny_letGo ?_))
      rw [nm]
      refine wpAny_pure ⟨plainId_quiet F.plain_min_loop _, ih (j + 1) (j + 1) _ _ v t2 _ (by (first | lia | omega)) hlt (fun b o e => ?_) (Heap.get?_update_self _ hS2 rfl) (W.frame _ _ _ st2 fun b hb o e => ?_) hP (Nat.le_refl _) fun j' hj' => ?_⟩
      · exact (Heap.get?_update_other _ _ (lowS b o e)).trans (k2 b o (k1 b o e))
      · exact (Heap.get?_update_other _ _ (fun z : S = b => hSf (by rw [z]; exact hb))).trans e
      · by_cases e : j' = j + 1
        · subst e; exact ⟨by (first | lia | omega), fun _ => by (first | lia | omega)⟩
        · have b1 := best j' (by (first | lia | omega))
          have b2 := b1.1
          exact ⟨by (first | lia | omega), fun _ => by (first | lia | omega)⟩
    · simp only [lt, decide_false, Bool.false_eq_true, if_false]
      refine wpAny_bind (wpAny_letGo ?_)
      rw [nm]
      refine wpAny_pure ⟨plainId_quiet F.plain_min_loop _, ih (j + 1) i _ _ vb tb c (by (first | lia | omega)) hlt (fun b o e => k2 b o (k1 b o e)) hS2 st2 hvb (by (first | lia | omega)) fun j' hj' => ?_⟩
      by_cases e : j' = j + 1
      · subst e; exact ⟨by (first | lia | omega), fun _ => by (first | lia | omega)⟩
      · exact best j' (by (first | lia | omega))
theorem mk_key (a v : Value) : argsOk "min" ⟨[a], [(Str.ofString "key", v)]⟩ := by unfold argsOk; kernel_rfl
theorem mk_min {x : Value} {Q : Value → Shared → Prop}
    (h : wpAny (model P w) A.in1 (pyIter x) (fun itv s2 => ∃ (I : Addr) (fp wr : List Addr) (n : Nat) (PV : Nat → Value → Prop) (St : Nat → Heap → Prop) (kf : Nat → Int) (h2 : Heap), itv = .ref I ∧ s2 = { s with heap := h2 } ∧ s.heap.objs.size ≤ h2.objs.size ∧ Kp s.heap h2 ∧ Walks P w A.in1 I fp wr n PV St ∧ St 0 h2 ∧ (∀ b ∈ fp, b < h2.objs.size) ∧
      (∀ b ∈ wr, s.heap.objs.size ≤ b) ∧ 0 < n ∧
      (∀ (i : Nat) (v : Value) (h : Heap) (tk : Nat), i < n → PV i v → Kp s.heap h → wpAny (model P w) A.in1 (call (.builtin f) [v]) (fun x s' => ∃ (t : Tok) (h' : Heap) (tk' : Nat), x = .int (kf i) t ∧ s' = { s with heap := h', toks := tk' } ∧ Kp h h') (fun _ _ => False) { s with heap := h, toks := tk }) ∧
      ∀ i v h' tk', i < n → PV i v → (∀ j, j < n → kf i ≤ kf j ∧ (j < i → kf i < kf j)) → Kp s.heap h' → Q v { s with heap := h', toks := tk' }) E s) :
    wpAny (model P w) A (call (.builtin "min") [x] [(Str.ofString "key", .builtin f)]) Q E s := by
  have nm : (toString "min" ++ toString ".loop" : String) = "min.loop" := by decide
  refine PyProof.Rows.kmk_tree F.kind_min F.plain_min F.entry_min (mk_key _ _) ?_
  show wpAny _ A.in1 (Builtin.Builtins.bindParams "min" ["key", "default"] 0 ⟨[], [(Str.ofString "key", .builtin f)]⟩ >>= _) _ _ s
  refine wpAny_bind (wpAny_of_eq (show Builtin.Builtins.bindParams "min" ["key", "default"] 0 ⟨[], [(Str.ofString "key", .builtin f)]⟩ = pure [some (.builtin f), none] from rfl) ?_)
  refine wpAny_bind (wpAny_pure ?_)
  refine wpAny_bind (wpAny_mono h (fun itv s2 z => ?_) fun _ _ z => z)
  obtain ⟨I, fp, wr, n, PV, St, kf, h2, rfl, rfl, sz, k2, W, hst, hfp, hwr, hn, turn, hQ⟩ := z
  refine wpAny_bind (wpAny_newList ?_ (Nat.zero_le _))
  rw [nm]
  have hSf : h2.objs.size ∉ fp := fun z => Nat.lt_irrefl _ (hfp _ z)
  have hSw : h2.objs.size ∉ wr := fun z => hSf (W.sub _ z)
  have low : ∀ b o, s.heap.get? b = some o → b ∉ wr := fun b o e z => Nat.lt_irrefl _ (Nat.lt_of_lt_of_le (Heap.lt_size e) (hwr b z))
  have gS : (h2.push { cls := .type "list", data := .seq ([] : List Value).toArray }).get? h2.objs.size = some { cls := .type "list", data := .seq #[] } := Heap.get?_push_size _ rfl
  refine wpAny_pure ⟨plainId_quiet F.plain_min_loop _, ?_⟩
  refine codeAny_builtin F.entry_min_loop ?_
  rw [Around.under_plainId F.plain_min_loop _]
  show wpAny _ A.in1 (seqItems? (.ref _) >>= _) _ _ _
  refine wpAny_bind (wpAny_seqItems gS rfl ?_)
  show wpAny _ A.in1 (tryCatch (pyNext (.ref I)) _ >>= _) _ _ _
  refine wpAny_bind (wpAny_tryCatch (W.item 0 _ _ _ hn (W.frame _ _ _ hst fun b _ o e => Heap.get?_push_of_some _ e) fun v h' tk' hP hst' hk' => ?_))
  have k1 : Kp s.heap h' := fun b o e => hk' b o (low b o e) (Heap.get?_push_of_some _ (k2 b o e))
  have hS1 := hk' _ _ hSw gS
  show wpAny _ A.in1 (tryCatch (holding [v] (call (.builtin f) [v])) _ >>= _) _ _ _
  refine wpAny_bind (wpAny_tryCatch (wpAny_holding (wpAny_mono (turn 0 v h' tk' hn hP k1) (fun x s'' z => ?_) fun _ _ z => z.elim)))
  obtain ⟨t2, h3, tk2, rfl, rfl, k3⟩ := z
  have hS3 := k3 _ _ hS1
  show wpAny _ A.in1 (updateSeq h2.objs.size (fun _ => #[v, .int (kf 0) t2]) >>= _) _ _ _
  refine wpAny_bind ?_
  refine wpAny_updateSeq hS3 rfl ?_
  rw [nm]
  refine wpAny_pure ⟨plainId_quiet F.plain_min_loop _, mk_loop (s := s) W kf hSf hwr sz turn (R := fun r s' => match r with | .ok (.ret v) => Q v s' | .ok _ => False | .error e => E e s') (fun i v h' tk' a b c d => hQ i v h' tk' a b c d) _ 0 0 _ _ v t2 _ rfl hn (fun b o e => ?_) (Heap.get?_update_self _ hS3 rfl) (W.frame _ _ _ hst' fun b hb o e => ?_) hP (Nat.le_refl _) fun j' hj' => ?_⟩
  · exact (Heap.get?_update_other _ _ (fun z : h2.objs.size = b => Nat.lt_irrefl _ (Nat.lt_of_lt_of_le (Heap.lt_size e) (z ▸ sz)))).trans (k3 b o (k1 b o e))
  · exact (Heap.get?_update_other _ _ (fun z : h2.objs.size = b => hSf (by rw [z]; exact hb))).trans (k3 b o e)
  · have e : j' = 0 := by (first | lia | omega)
    subst e
    exact ⟨by (first | lia | omega), fun z => absurd z (Nat.lt_irrefl _)⟩
end
end

section
variable {P : Program} {w : World} {A : Around} {E : Value → Shared → Prop} {s : Shared}
/-- sum of what a walk yields, the heap kept -/
theorem raw_sumT {x : Addr} {items : Array Value} {val : Nat → Int} {Q : Value → Shared → Prop} (hh : A.handled = none) (ht : s.heap.IsTuple x items) (hl : x < s.heap.objs.size) (hv : ∀ (i : Nat) (v : Value), items[i]? = some v → ∃ t, v = Value.int (val i) t)
    (q : ∀ h' tk t, Kp s.heap h' → Q (.int (preSum val items.size) t) { s with heap := h', toks := tk }) : wpAny (model P w) A (call (.builtin "sum") [.ref x]) Q E s := by
  have ne : x ≠ s.heap.objs.size := Nat.ne_of_lt hl
  refine call_sum_walkAnyS (wpAny_pyIter_tuple ht ⟨s.heap.objs.size, _, _, _, _, _, _, val, rfl, (Walks.tuple (prog := P) (w := w) (A := A.in1) hh s.heap.objs.size x ne items).toS, ⟨⟨_, Heap.get?_push_size _ rfl, rfl, rfl⟩, ?_⟩, fun b hb => ?_, hv, fun s' t' hm => ?_⟩)
  · exact ht.at fun o e => Heap.get?_push_of_some _ e
  · rw [Heap.size_push]
    simp only [List.mem_cons, List.mem_nil_iff, or_false] at hb
    rcases hb with rfl | rfl
    · exact Nat.lt_succ_self _
    · exact Nat.lt_succ_of_lt hl
  · rw [Moved.eq_with hm]
    exact q _ _ _ fun b o e => hm.heap b o (fun z => absurd (Heap.lt_size e) (by rw [List.mem_singleton.mp z]; exact Nat.lt_irrefl _)) (Heap.get?_push_of_some _ e)
theorem raw_sumV {v d : Addr} {es : Array DictEntry} {ep : Nat} {val : Nat → Int} {Q : Value → Shared → Prop} (hh : A.handled = none) (vw : s.heap.IsValuesView v d) (x : RawD s.heap d es ep) (hv : ∀ (i : Nat) (en : DictEntry), es[i]? = some en → ∃ t, en.val = Value.int (val i) t)
    (q : ∀ h' tk t, Kp s.heap h' → Q (.int (preSum val es.size) t) { s with heap := h', toks := tk }) : wpAny (model P w) A (call (.builtin "sum") [.ref v]) Q E s := by
  have hl : d < s.heap.objs.size := by obtain ⟨o, e, _⟩ := x; exact Heap.lt_size e
  have ne : d ≠ s.heap.objs.size := Nat.ne_of_lt hl
  refine call_sum_walkAnyS (raw_iterV vw x ⟨s.heap.objs.size, _, _, _, _, _, _, val, rfl, (raw_walkV (P := P) (w := w) (A := A.in1) (es := es) (ep := ep) hh ne).toS, ⟨⟨_, Heap.get?_push_size _ rfl, rfl, rfl⟩, ?_⟩, fun b hb => ?_, fun i u hu => ?_, fun s' t' hm => ?_⟩)
  · exact x.mono fun o e => Heap.get?_push_of_some _ e
  · rw [Heap.size_push]
    simp only [List.mem_cons, List.mem_nil_iff, or_false] at hb
    rcases hb with rfl | rfl
    · exact Nat.lt_succ_self _
    · exact Nat.lt_succ_of_lt hl
  · obtain ⟨en, h1, rfl⟩ := hu
    exact hv i en h1
  · rw [Moved.eq_with hm]
    exact q _ _ _ fun b o e => hm.heap b o (fun z => absurd (Heap.lt_size e) (by rw [List.mem_singleton.mp z]; exact Nat.lt_irrefl _)) (Heap.get?_push_of_some _ e)
end
theorem entry_itemiter_iter : entryFor table "dict_itemiterator.__iter__" = some Builtin.«dict_keyiterator.__iter__» :=
  entryFor_alias (id' := "dict_keyiterator.__iter__") (by kernel_rfl) rfl (by decide +kernel) (by kernel_rfl)
theorem iter_itemiter {P : Program} {w : World} {A : Around} {E : Value → Shared → Prop} {s : Shared} {it d : Addr} {i n ep : Nat} {ok ov : Value} {Q : Value → Shared → Prop} (y : IsItemIter s.heap it d i n ep ok ov) (h : Q (.ref it) s) : wpAny (model P w) A (pyIter (.ref it)) Q E s := by
  have ty : s.TypeIs (.ref it) "dict_itemiterator" := ⟨_, y, rfl⟩
  refine wpAny_pyIter_slot ty F.slot_dict_itemiterator_iter (wpAny_call_entry F.slot_dict_itemiterator_iter ty entry_itemiter_iter ?_ (F.args_dict_itemiterator_iter_1 _))
  show wpAny _ _ (ret (.ref it)) _ _ s
  exact wpAny_pure ⟨_, rfl, "dict_itemiterator", _, ty, F.slot_dict_itemiterator_next.lookup, h⟩
end L2

namespace L2
open PySem PySem.Spec PyProof.Rows

/-! ### lists of pairs as tables -/
section
variable {κ : Type} [DecidableEq κ]
def valV (kvs : List (κ × V)) (k : κ) : Option V := (kvs.find? fun kv => decide (kv.1 = k)).map (·.2)
/-- in its place, or at the end -/
def putK (kvs : List (κ × V)) (k : κ) (v : V) : List (κ × V) :=
  if (kvs.any fun kv => decide (kv.1 = k)) = true then kvs.map (fun kv => if kv.1 = k then (kv.1, v) else kv) else kvs ++ [(k, v)]
def dropK (kvs : List (κ × V)) (k : κ) : List (κ × V) := kvs.filter fun kv => decide (kv.1 ≠ k)

theorem valV_pos {p : κ × V} {r : List (κ × V)} {k : κ} (e : p.1 = k) : valV (p :: r) k = some p.2 := by simp [valV, List.find?_cons, e]
theorem valV_neg {p : κ × V} {r : List (κ × V)} {k : κ} (e : ¬ p.1 = k) : valV (p :: r) k = valV r k := by simp [valV, List.find?_cons, e]
theorem valV_any (k : κ) : ∀ kvs : List (κ × V), (kvs.any fun kv => decide (kv.1 = k)) = (valV kvs k).isSome
  | [] => rfl
  | p :: r => by
    rw [List.any_cons]
    by_cases e : p.1 = k
    · simp only [valV_pos e, decide_eq_true e, Bool.true_or, Option.isSome_some]
    · rw [valV_neg e, decide_eq_false e, Bool.false_or]; exact valV_any k r
theorem length_putK (kvs : List (κ × V)) (k : κ) (v : V) : (putK kvs k v).length ≤ kvs.length + 1 := by
  unfold putK
  split
  · rw [List.length_map]; (first | lia | omega)
  · rw [List.length_append, List.length_cons, List.length_nil]; (first | lia | omega)
theorem putK_new {kvs : List (κ × V)} {k : κ} (v : V) (h : valV kvs k = none) : putK kvs k v = kvs ++ [(k, v)] := by
  unfold putK
  rw [valV_any, h]
  exact if_neg (by decide)

theorem RelO.isSome_eq {o : Option V} {u : Option Value} (r : RelO o u) : o.isSome = u.isSome := by
  cases o with
  | none => cases u with
    | none => rfl
    | some _ => exact (show False from r).elim
  | some _ => cases u with
    | none => exact (show False from r).elim
    | some _ => rfl
theorem RelO.getD {o : Option V} {u : Option Value} {d : V} {d' : Value} (r : RelO o u) (rd : RelV d d') : RelV (o.getD d) (u.getD d') := by
  cases o with
  | none => cases u with
    | none => exact rd
    | some _ => exact (show False from r).elim
  | some _ => cases u with
    | none => exact (show False from r).elim
    | some _ => exact r

/-- raw tables of the same keys -/
theorem KV.val {kvs : List (κ × V)} {vs : List (κ × Value)} (r : KV kvs vs) (k : κ) : RelO (valV kvs k) (valueAt vs k) := by
  unfold KV at r
  induction r with
  | nil => exact True.intro
  | @cons p q ps qs h t ih =>
    obtain ⟨h1, h2⟩ := h
    by_cases e : p.1 = k
    · have e' : q.1 = k := h1.symm.trans e
      have b : valueAt (q :: qs) k = some q.2 := by simp [valueAt, List.find?_cons, e']
      rw [valV_pos e, b]; exact h2
    · have e' : ¬ q.1 = k := fun z => e (h1.trans z)
      have b : valueAt (q :: qs) k = valueAt qs k := by simp [valueAt, List.find?_cons, e']
      rw [valV_neg e, b]; exact ih
theorem KV.any {kvs : List (κ × V)} {vs : List (κ × Value)} (r : KV kvs vs) (k : κ) : (kvs.any fun kv => decide (kv.1 = k)) = vs.any fun kv => decide (kv.1 = k) := by
  unfold KV at r
  induction r with
  | nil => rfl
  | cons h t ih => rw [List.any_cons, List.any_cons, ih, h.1]
theorem KV.repl {kvs : List (κ × V)} {vs : List (κ × Value)} (r : KV kvs vs) (k : κ) {y : V} {u : Value} (ry : RelV y u) :
    KV (kvs.map fun kv => if kv.1 = k then (kv.1, y) else kv) (vs.map fun kv => if kv.1 = k then (kv.1, u) else kv) := by
  unfold KV at r ⊢
  induction r with
  | nil => exact .nil
  | @cons p q ps qs h t ih =>
    rw [List.map_cons, List.map_cons]
    refine .cons ?_ ih
    obtain ⟨h1, h2⟩ := h
    by_cases e : p.1 = k
    · rw [if_pos e, if_pos (h1.symm.trans e)]; exact ⟨h1, ry⟩
    · rw [if_neg e, if_neg (fun z => e (h1.trans z))]; exact ⟨h1, h2⟩
theorem KV.put {kvs : List (κ × V)} {vs : List (κ × Value)} (r : KV kvs vs) (k : κ) {y : V} {u : Value} (ry : RelV y u) : KV (putK kvs k y) (stored vs k u) := by
  unfold putK stored
  rw [r.any k]
  by_cases e : (vs.any fun kv => decide (kv.1 = k)) = true
  · rw [if_pos e, if_pos e]; exact r.repl k ry
  · rw [if_neg e, if_neg e]; exact Paired.snoc r ⟨rfl, ry⟩
theorem KV.keys {kvs : List (κ × V)} {vs : List (κ × Value)} (r : KV kvs vs) : kvs.map (·.1) = vs.map (·.1) := by
  unfold KV at r
  induction r with
  | nil => rfl
  | cons h t ih => rw [List.map_cons, List.map_cons, ih, h.1]
theorem KV.length {kvs : List (κ × V)} {vs : List (κ × Value)} (r : KV kvs vs) : kvs.length = vs.length := Paired.length r
end

/-! ### a tracked dict, its keys ints and texts or tuples of these -/
theorem kV_is {P : Program} {w : World} {k : Key} {u : Value} (r : RelV (kV k) u) : (mixKind P w).is k u = true := by
  cases k with
  | inl i => obtain ⟨t, e⟩ := (show ∃ t, u = Value.int i t from r); subst e; exact mixKind_int P w i t
  | inr x => obtain ⟨t, e⟩ := (show ∃ t, u = Value.str x t from r); subst e; exact mixKind_str P w x t
theorem items_are {P : Program} {w : World} : ∀ {ks : List Key} {us : List Value}, Vals (ks.map kV) us → ItemsAre (mixKind P w) ks us
  | [], _, r => by rw [List.map_nil] at r; cases r; exact .nil
  | k :: ks, _, r => by
    rw [List.map_cons] at r
    cases r with
    | cons h t => exact .cons (kV_is h) (items_are t)

/-- raw entries of a dict with tuple keys -/
abbrev KT (H : Hp) : List (List Key × V) → List (List Key × Addr × Value) → Prop := Paired fun p q => p.1 = q.1 ∧ H q.2.1 = some (.tup (p.1.map kV)) ∧ RelV p.2 q.2.2
theorem KT.val {H : Hp} {kvs : List (List Key × V)} {xs : List (List Key × Addr × Value)} (r : KT H kvs xs) (k : List Key) : RelO (valV kvs k) ((atKey xs k).map (·.2)) := by
  induction r with
  | nil => exact True.intro
  | @cons p q ps qs h t ih =>
    obtain ⟨h1, _, h2⟩ := h
    by_cases e : p.1 = k
    · have e' : q.1 = k := h1.symm.trans e
      have b : atKey (q :: qs) k = some q.2 := by simp [atKey, List.find?_cons, e']
      rw [valV_pos e, b]; exact h2
    · have e' : ¬ q.1 = k := fun z => e (h1.trans z)
      have b : atKey (q :: qs) k = atKey qs k := by simp [atKey, List.find?_cons, e']
      rw [valV_neg e, b]; exact ih
theorem KT.repl {H : Hp} {kvs : List (List Key × V)} {xs : List (List Key × Addr × Value)} (r : KT H kvs xs) (k : List Key) {y : V} {u : Value} (ry : RelV y u) :
    KT H (kvs.map fun kv => if kv.1 = k then (kv.1, y) else kv) (xs.map (putAt k u)) := by
  induction r with
  | nil => exact .nil
  | @cons p q ps qs h t ih =>
    rw [List.map_cons, List.map_cons]
    refine .cons ?_ ih
    obtain ⟨h1, h2, h3⟩ := h
    unfold putAt
    by_cases e : p.1 = k
    · rw [if_pos e, if_pos (h1.symm.trans e)]; exact ⟨h1, h2, ry⟩
    · rw [if_neg e, if_neg (fun z => e (h1.trans z))]; exact ⟨h1, h2, h3⟩
theorem KT.put {H : Hp} {kvs : List (List Key × V)} {xs : List (List Key × Addr × Value)} (r : KT H kvs xs) (k : List Key) {b : Addr} {y : V} {u : Value} (hb : H b = some (.tup (k.map kV))) (ry : RelV y u) :
    KT H (putK kvs k y) (storedH xs k b u) := by
  have e : (kvs.any fun kv => decide (kv.1 = k)) = (atKey xs k).isSome := by
    rw [valV_any, (r.val k).isSome_eq, Option.isSome_map]
  unfold putK storedH
  rw [e]
  by_cases q : (atKey xs k).isSome = true
  · rw [if_pos q, if_pos q]; exact r.repl k ry
  · rw [if_neg q, if_neg q]; exact Paired.snoc r ⟨rfl, hb, ry⟩
theorem KT.keeps {H H' : Hp} {kvs : List (List Key × V)} {xs : List (List Key × Addr × Value)} (r : KT H kvs xs) (ht : ∀ b ys, H b = some (.tup ys) → H' b = some (.tup ys)) : KT H' kvs xs :=
  Paired.mapP r fun _ _ z => ⟨z.1, ht _ _ z.2.1, z.2.2⟩

section
variable {P : Program} {w : World} {H : Hp} {h : Heap} {a : Addr}
theorem rd_of {u : HO} (ok : HOk P w H h) (e : Rd H a u) : ObjOk P w H h a u := e.ok ok
theorem dk_rd {kvs : List (Key × V)} (ok : HOk P w H h) (e : Rd H a (.dK kvs)) : kvs.length ≤ sizeLine ∧ (a == sysModules) = false ∧ ∃ vs, KV kvs vs ∧ h.DictOf (mixKind P w) a vs :=
  show ObjOk P w H h a (.dK kvs) from rd_of ok e
theorem dk_of {kvs : List (Key × V)} (ok : HOk P w H h) (e : H a = some (.dK kvs)) : kvs.length ≤ sizeLine ∧ (a == sysModules) = false ∧ ∃ vs, KV kvs vs ∧ h.DictOf (mixKind P w) a vs := dk_rd ok (.inl e)
/-- a tracked tuple of ints and texts is a key -/
theorem key_of {ks : List Key} (ok : HOk P w H h) (e : H a = some (.tup (ks.map kV))) : (tupleKind (mixKind P w)).is h ks a := by
  obtain ⟨_, its, r, o, h1, h2, n, h3⟩ := (show ObjOk P w H h a (.tup (ks.map kV)) from ok a _ e)
  exact ⟨o, its.toArray, n, h1, h2, h3, by simpa using items_are r⟩
theorem dt_rd {kvs : List (List Key × V)} (ok : HOk P w H h) (e : Rd H a (.dT kvs)) : kvs.length ≤ sizeLine ∧ (a == sysModules) = false ∧
    ∃ xs, KT H kvs xs ∧ h.DictOfH (tupleKind (mixKind P w)) a xs := by
  obtain ⟨z, y, xs, r, o, es, ep, h1, h2, h3, h4, h5⟩ := (show ObjOk P w H h a (.dT kvs) from rd_of ok e)
  refine ⟨z, y, xs, r, o, es, ep, h1, h2, h3, h4, fun x hx => ?_, h5⟩
  have all : ∀ {l : List (List Key × V)} {m : List (List Key × Addr × Value)}, KT H l m → ∀ x ∈ m, (tupleKind (mixKind P w)).is h x.1 x.2.1 := by
    intro l m q
    induction q with
    | nil => intro x hx; exact nomatch hx
    | @cons p q ps qs hq t ih =>
      intro x hx
      rcases List.mem_cons.mp hx with e | hx
      · subst e
        exact key_of ok (by rw [← hq.1]; exact hq.2.1)
      · exact ih x hx
  exact all r x hx
theorem dt_of {kvs : List (List Key × V)} (ok : HOk P w H h) (e : H a = some (.dT kvs)) : kvs.length ≤ sizeLine ∧ (a == sysModules) = false ∧
    ∃ xs, KT H kvs xs ∧ h.DictOfH (tupleKind (mixKind P w)) a xs := dt_rd ok (.inl e)
end

/-- what the dict at a holds at the key y -/
def DGet (H : Hp) (a : Addr) (y : V) (r : Option V) : Prop :=
  (∃ kvs k, Rd H a (.dK kvs) ∧ y = kV k ∧ r = valV kvs k) ∨ ∃ kvs k b, Rd H a (.dT kvs) ∧ y = .ref b ∧ H b = some (.tup (k.map kV)) ∧ r = valV kvs k
/-- the heap behind a[y] = v -/
def DPut (H : Hp) (a : Addr) (y v : V) (H' : Hp) : Prop :=
  (∃ kvs k, H a = some (.dK kvs) ∧ y = kV k ∧ kvs.length < sizeLine ∧ H' = upd H a (.dK (putK kvs k v))) ∨
  ∃ kvs k b, H a = some (.dT kvs) ∧ y = .ref b ∧ H b = some (.tup (k.map kV)) ∧ kvs.length < sizeLine ∧ H' = upd H a (.dT (putK kvs k v))
theorem DGet.k {H : Hp} {a : Addr} {kvs : List (Key × V)} {k : Key} (e : H a = some (.dK kvs)) : DGet H a (kV k) (valV kvs k) := .inl ⟨kvs, k, .inl e, rfl, rfl⟩
theorem DGet.t {H : Hp} {a b : Addr} {kvs : List (List Key × V)} {k : List Key} (e : H a = some (.dT kvs)) (eb : H b = some (.tup (k.map kV))) : DGet H a (.ref b) (valV kvs k) := .inr ⟨kvs, k, b, .inl e, rfl, eb, rfl⟩
theorem DPut.k {H : Hp} {a : Addr} {kvs : List (Key × V)} {k : Key} {v : V} (e : H a = some (.dK kvs)) (hl : kvs.length < sizeLine) : DPut H a (kV k) v (upd H a (.dK (putK kvs k v))) := .inl ⟨kvs, k, e, rfl, hl, rfl⟩
theorem DPut.t {H : Hp} {a b : Addr} {kvs : List (List Key × V)} {k : List Key} {v : V} (e : H a = some (.dT kvs)) (eb : H b = some (.tup (k.map kV))) (hl : kvs.length < sizeLine) :
    DPut H a (.ref b) v (upd H a (.dT (putK kvs k v))) := .inr ⟨kvs, k, b, e, rfl, eb, hl, rfl⟩

section
variable {X : Cx} {pins : List (Addr × Obj)} {σ : St} {H : Hp} {s : Shared} {a : Addr} {y v : V} {u r : Value} {o : Option V} {A : Around} {E : Value → Shared → Prop}

theorem Inv.big (I : Inv X pins σ H s) : sysModules < s.heap.objs.size := by
  have h : mainGlobals < s.heap.objs.size := (I.mod.glob.keeps I.bk).lt
  exact Nat.lt_trans (by decide) h

/-- d[y], there -/
theorem d_getItem {Q : Value → Shared → Prop} (hu : A.units + 1 < cLine) (I : Inv X pins σ H s) (g : DGet H a y (some v)) (ry : RelV y u) (h : ∀ w' s', Inv X pins σ H s' → RelV v w' → Q w' s') :
    wpAny (model X.prog X.w) A (getItem (.ref a) u) Q E s := by
  rcases g with ⟨kvs, k, e, ey, l⟩ | ⟨kvs, k, b, e, ey, eb, l⟩
  · subst ey
    obtain ⟨z, hd, vs, rel, dd⟩ := dk_rd I.hok e
    obtain ⟨w', hw, rw'⟩ := RelO.some_of (v := v) (o := valueAt vs k) (by rw [l]; exact rel.val k)
    exact wpAny_getItem_of (kV_is ry) dd.mapOf hw (h w' _ (I.tok _) rw')
  · subst ey
    cases (show u = Value.ref b from ry)
    obtain ⟨z, hd, xs, rel, dd⟩ := dt_rd I.hok e
    obtain ⟨w', hw, rw'⟩ := RelO.some_of (v := v) (o := (atKey xs k).map (·.2)) (by rw [l]; exact rel.val k)
    obtain ⟨p, hp, hp2⟩ := Option.map_eq_some_iff.mp hw
    refine wpAny_getItem_heap (tupleKind_room_in1 hu) (key_of I.hok eb) dd hp ?_
    rw [hp2]
    exact h w' _ (I.tok _) rw'
theorem d_notIn {Q : Value → Shared → Prop} (hu : A.units + 1 < cLine) (I : Inv X pins σ H s) (g : DGet H a y o) (ry : RelV y u) (h : ∀ s', Inv X pins σ H s' → Q (.bool (!o.isSome)) s') :
    wpAny (model X.prog X.w) A (compareOp .NotIn u (.ref a)) Q E s := by
  rcases g with ⟨kvs, k, e, ey, l⟩ | ⟨kvs, k, b, e, ey, eb, l⟩
  · subst ey
    obtain ⟨z, hd, vs, rel, dd⟩ := dk_rd I.hok e
    refine wpAny_notIn_of (kV_is ry) hd dd.mapOf ?_
    rw [← (rel.val k).isSome_eq, ← l]
    exact h _ (I.tok _)
  · subst ey
    cases (show u = Value.ref b from ry)
    obtain ⟨z, hd, xs, rel, dd⟩ := dt_rd I.hok e
    refine wpAny_notIn_heap (tupleKind_room_in1 hu) (key_of I.hok eb) hd dd ?_
    have q := (rel.val k).isSome_eq
    rw [Option.isSome_map] at q
    rw [← q, ← l]
    exact h _ (I.tok _)
/-- a dict's object is replaced -/
theorem d_write {h' : Heap} {t' : Nat} {ob : HO} (I : Inv X pins σ H s) (mu : Mut (H a)) (hs : Heap.SameBut a s.heap h') (he : ∃ q, h'.get? a = some q) (new : ObjOk X.prog X.w (upd H a ob) h' a ob) :
    Inv X pins σ (upd H a ob) { s with heap := h', toks := t' } :=
  I.write (x := a) (e := a) mu (.inl rfl) (fun b q hb z => (hs.2 b hb).trans z) he new
theorem dk_new {P : Program} {w : World} {H' : Hp} {h' : Heap} {kvs : List (Key × V)} {vs : List (Key × Value)} (z : kvs.length ≤ sizeLine) (hd : (a == sysModules) = false) (rel : KV kvs vs) (dd : h'.DictOf (mixKind P w) a vs) :
    ObjOk P w H' h' a (.dK kvs) := ⟨z, hd, vs, rel, dd⟩
/-- d[y] = v -/
theorem d_setItem {H' : Hp} {Q : Unit → Shared → Prop} (hu : A.units + 1 < cLine) (I : Inv X pins σ H s) (g : DPut H a y v H') (ry : RelV y u) (rv : RelV v r) (h : ∀ s', Inv X pins σ H' s' → Q () s') :
    wpAny (model X.prog X.w) A (setItem (.ref a) u r) Q E s := by
  rcases g with ⟨kvs, k, e, ey, l, eH⟩ | ⟨kvs, k, b, e, ey, eb, l, eH⟩
  · subst ey eH
    obtain ⟨z, hd, vs, rel, dd⟩ := dk_of I.hok e
    have hz : vs.length ≤ sizeLine := by rw [← rel.length]; exact z
    have hl : (putK kvs k v).length ≤ sizeLine := by have := length_putK kvs k v; (first | lia | omega)
    refine wpAny_setItem_pairs (hsz := hz) (kV_is ry) dd fun h' dd' hs => h _ ?_
    have he : ∃ q, h'.get? a = some q := let ⟨q, _, _, hq, _⟩ := dd'; ⟨q, hq⟩
    exact d_write I (by rw [e]; exact True.intro) hs he (dk_new hl hd (rel.put k rv) dd')
  · subst ey eH
    cases (show u = Value.ref b from ry)
    obtain ⟨z, hd, xs, rel, dd⟩ := dt_of I.hok e
    have hz : xs.length ≤ sizeLine := by rw [← Paired.length rel]; exact z
    have hl : (putK kvs k v).length ≤ sizeLine := by have := length_putK kvs k v; (first | lia | omega)
    refine wpAny_setItem_heap (hsz := hz) (tupleKind_room_in1 hu) (key_of I.hok eb) dd fun h' dd' hs => h _ ?_
    obtain ⟨q, es, ep, hq, h2, h3, h4, _, h5⟩ := dd'
    refine d_write I (by rw [e]; exact True.intro) hs ⟨q, hq⟩ ⟨hl, hd, _, (rel.put k eb rv).keeps fun c ys ec => ?_, q, es, ep, hq, h2, h3, h4, h5⟩
    rw [upd_ne (ne_of ec e (fun z => nomatch z))]
    exact ec
end

section
variable {X : Cx} {pins : List (Addr × Obj)} {σ : St} {H : Hp} {s : Shared} {a : Addr} {kvs : List (Key × V)} {k : Key} {u : Value} {A : Around} {E : Value → Shared → Prop}
end

/-! ### readings and rules -/
/-- the element of a subscription, not a slice -/
def NoSl (i : Expr) : Prop := ∀ ov iv, subscripted i false ov iv = operate [ov, iv] (getItem ov iv)
theorem subD_of {prog : Program} {w : World} {A : Around} {E : Value → Shared → Prop} {s : Shared} {env : Env} {value slice : Expr} {pos : Pos} {T id : String} {Q : Value → Shared → Prop}
    (hl : typeLookup (.type T) "__getitem__" = pure (some (.builtin id))) (hs : NoSl slice)
    (h : wpAny (model prog w) A (eval value env) (fun o s₁ => wpAny (model prog w) A (eval slice env) (fun i s₂ => s₂.TypeIs o T ∧ wpAny (model prog w) A (getItem o i) Q E s₂) E s₁) E s) :
    wpAny (model prog w) A (eval (.Subscript value slice pos) env) Q E s := by
  refine Subscript_ (wpAny_mono h (fun o s₁ h₁ => wpAny_mono h₁ (fun i s₂ h₂ => ?_) fun _ _ x => x) fun _ _ x => x)
  obtain ⟨hT, h₂⟩ := h₂
  unfold subscriptTail
  refine wpAny_bind ?_
  rw [getitemInPython_of_ne hT.not_modules]
  refine wpAny_bind (wpAny_specialOf hT hl ?_)
  have fin : wpAny (model prog w) A (subscripted slice false o i) (fun r s₃ => wpAny (model prog w) A (letTemporaryGo value o r >>= fun _ => pure r) Q E s₃) E s₂ := by
    rw [hs o i]
    exact wpAny_operating (wpAny_mono h₂ (fun r s₃ h₃ => wpAny_bind (wpAny_letTemporaryGo (wpAny_pure h₃))) fun _ _ x => x)
  first
    | exact wpAny_pure (wpAny_bind fin)
    | exact wpAny_bind (wpAny_pure (wpAny_bind fin))
    | exact wpAny_bind fin

theorem dict_typeIs {X : Cx} {pins : List (Addr × Obj)} {σ : St} {H : Hp} {s : Shared} {a : Addr} {y : V} {o : Option V} (I : Inv X pins σ H s) (g : DGet H a y o) : s.TypeIs (.ref a) "dict" := by
  rcases g with ⟨kvs, k, e, _, _⟩ | ⟨kvs, k, b, e, _, _, _⟩
  · obtain ⟨_, _, vs, _, dd⟩ := dk_rd I.hok e
    exact dd.typeIs
  · obtain ⟨_, _, xs, _, dd⟩ := dt_rd I.hok e
    exact dd.typeIs
/-- d[y] -/
def tDGet (td ty : TE) : TE := fun σ H Q => td σ H fun x H1 => ty σ H1 fun y H2 => ∃ a v, x = .ref a ∧ DGet H2 a y (some v) ∧ Q v H2
/-- y in d, y not in d -/
def tDIn (ty td : TE) : TE := fun σ H Q => ty σ H fun y H1 => td σ H1 fun x H2 => ∃ a o, x = .ref a ∧ DGet H2 a y o ∧ Q (.bl o.isSome) H2
def tDNotIn (ty td : TE) : TE := fun σ H Q => ty σ H fun y H1 => td σ H1 fun x H2 => ∃ a o, x = .ref a ∧ DGet H2 a y o ∧ Q (.bl (!o.isSome)) H2
/-- d[y] = v -/
def sDPut (td ty tv : TE) : TS := fun D σ H => tv σ H fun v H1 => td σ H1 fun x H2 => ty σ H2 fun y H3 => ∃ a H4, x = .ref a ∧ DPut H3 a y v H4 ∧ D.nx σ H4
section
variable {X : Cx} {o i e value : Expr} {pos pos' tpos : Pos} {td ty tv : TE}
theorem pe_dget (hu : X.A.units + 1 < cLine) (ho : PE X o td) (hi : PE X i ty) (hs : NoSl i) : PE X (.Subscript o i pos) (tDGet td ty) := by
  intro pins s σ H Q I h
  refine subD_of PySem.F.slot_dict_getitem.lookup hs (thn (ho pins s σ H _ I h) fun u s1 ⟨x, H1, I1, rx, q1⟩ => thn (hi pins s1 σ H1 _ I1 q1) fun iv s2 ⟨y, H2, I2, ry, a, v, ex, g, q2⟩ => ?_)
  subst ex
  obtain rfl : u = Value.ref a := rx
  exact ⟨dict_typeIs I2 g, d_getItem hu I2 g ry fun w' s3 I3 rw' => ⟨v, H2, I3, rw', q2⟩⟩
theorem pc_dnotin (hu : X.A.units + 1 < cLine) (hi : PE X i ty) (ho : PE X o td) : PC X .NotIn i o (tDNotIn ty td) := by
  intro pins s σ H Q I h
  refine thn (hi pins s σ H _ I h) fun iv s1 ⟨y, H1, I1, ry, q1⟩ => thn (ho pins s1 σ H1 _ I1 q1) fun u s2 ⟨x, H2, I2, rx, a, ov, ex, g, q2⟩ => ?_
  subst ex
  obtain rfl : u = Value.ref a := rx
  exact d_notIn hu I2 g ry fun s3 I3 => ⟨.bl (!ov.isSome), H2, I3, rfl, q2⟩
theorem ps_dput (hu : X.A.units + 1 < cLine) (ho : PE X o td) (hi : PE X i ty) (hv : PE X value tv) (hs : swapsWith value (some (.Subscript o i pos')) pos.line X.env = pure false) :
    PS X (.Assign [.Subscript o i pos'] value pos) (sDPut td ty tv) := by
  intro pins s σ H D I h
  refine wpAny_Assign_Subscript (thn (hv pins s σ H _ I h) fun r s1 ⟨v, H1, I1, rv, q1⟩ => thn (ho pins s1 σ H1 _ I1 q1) fun u s2 ⟨x, H2, I2, rx, q2⟩ => thn (hi pins s2 σ H2 _ I2 q2) fun iv s3 ⟨y, H3, I3, ry, a, H4, ex, g, q3⟩ => ?_) hs
  subst ex
  obtain rfl : u = Value.ref a := rx
  exact d_setItem hu I3 g ry rv fun s4 I4 => ⟨σ, H4, I4, q3⟩
end

/-! ### displays -/
theorem dt_empty {P : Program} {w : World} {H : Hp} (h : Heap) (hb : sysModules < h.objs.size) : ObjOk P w H (h.push { cls := .type "dict", data := .dict #[] }) h.objs.size (.dT []) :=
  ⟨Nat.zero_le _, beq_eq_false_iff_ne.mpr (Ne.symm (Nat.ne_of_lt hb)), [], .nil, _, #[], 0, Heap.get?_push_size _ rfl, ⟨rfl, rfl, rfl⟩, rfl, rfl, List.nodup_nil⟩
def tDNewT : TE := fun _ H Q => ∀ p, H p = none → Q (.ref p) (upd H p (.dT []))
section
variable {X : Cx} {pos : Pos}
theorem pe_dnewT : PE X (.Dict [] [] pos) tDNewT := fun pins s σ H Q I h =>
  wpAny_Dict_empty ⟨.ref s.heap.objs.size, _, I.laid (a := s.heap.objs.size) (o := .dT []) (t' := s.toks) (fun _ _ q => Heap.get?_push_of_some _ q) (Nat.le_refl _) (dt_empty s.heap I.big), rfl, h _ (I.hok.fresh (Nat.le_refl _))⟩
end

/-! ### methods -/
structure M2 (X : Cx) (o : Expr) (m : Str) (apos : Pos) (e f : Expr) (cpos : Pos) : Prop where
  base : attributeBase o m X.env (eval o X.env) = eval o X.env
  few : ((backTo cpos (starEach [e, f] X.env)).all (fun x => !x.1) && (backToKw cpos (keywordEach [] X.env)).all (fun x => x.1.isSome)
    && decide (([e, f] : List Expr).length + ([] : List Keyword).length + (if ([] : List Keyword).isEmpty then 0 else 1) < 30)) = true
  line : (apos.endLine == cpos.line) = true
  trees : backTo cpos (starEach [e, f] X.env) = [(false, eval e X.env), (false, eval f X.env)]

/-- a is a dict, whatever its keys -/
def IsD (H : Hp) (a : Addr) : Prop := (∃ kvs, Rd H a (.dK kvs)) ∨ ∃ kvs, Rd H a (.dT kvs)
theorem isD_at {X : Cx} {pins : List (Addr × Obj)} {σ : St} {H : Hp} {s : Shared} {a : Addr} (I : Inv X pins σ H s) (d : IsD H a) :
    s.TypeIs (.ref a) "dict" ∧ (∀ b, Value.ref a = .ref b → ∃ ob, s.heap.get? b = some ob ∧ ob.dict = none) ∧ (a == sysModules) = false := by
  rcases d with ⟨kvs, e⟩ | ⟨kvs, e⟩
  · obtain ⟨_, hd, vs, _, dd⟩ := dk_rd I.hok e
    refine ⟨dd.typeIs, fun b q => ?_, hd⟩
    cases q
    obtain ⟨ob, _, _, h1, h2, _⟩ := dd
    exact ⟨ob, h1, h2.2.1⟩
  · obtain ⟨_, hd, xs, _, dd⟩ := dt_rd I.hok e
    refine ⟨dd.typeIs, fun b q => ?_, hd⟩
    cases q
    obtain ⟨ob, _, _, h1, h2, _⟩ := dd
    exact ⟨ob, h1, h2.2.1⟩

section
variable {X : Cx} {pins : List (Addr × Obj)} {σ : St} {H : Hp} {s : Shared} {a : Addr} {y d : V} {u r : Value} {o : Option V} {A : Around} {E : Value → Shared → Prop}
/-- d.get(y, x) -/
theorem d_get2 {Q : Value → Shared → Prop} (hu : A.units + 1 < cLine) (I : Inv X pins σ H s) (g : DGet H a y o) (ry : RelV y u) (rd : RelV d r) (h : ∀ w' s', Inv X pins σ H s' → RelV (o.getD d) w' → Q w' s') :
    wpAny (model X.prog X.w) A (call (.builtin "dict.get") [.ref a, u, r]) Q E s := by
  rcases g with ⟨kvs, k, e, ey, l⟩ | ⟨kvs, k, b, e, ey, eb, l⟩
  · subst ey
    obtain ⟨z, hd, vs, rel, dd⟩ := dk_rd I.hok e
    refine call_meetsIn PySem.F.slot_dict_get dd.typeIs PySem.F.entry_dict_get (PySem.F.args_dict_get_3 _ _ _) (meets_dict_get_default (mixKind X.prog X.w) a (kV_is ry) hd r) ⟨_, dd.mapOf, h _ _ (I.tok _) ?_⟩
    rw [l]
    exact (rel.val k).getD rd
  · subst ey
    cases (show u = Value.ref b from ry)
    obtain ⟨z, hd, xs, rel, dd⟩ := dt_rd I.hok e
    refine call_meetsIn PySem.F.slot_dict_get dd.typeIs PySem.F.entry_dict_get (PySem.F.args_dict_get_3 _ _ _) (meetsH_dict_get_default (tupleKind (mixKind X.prog X.w)) a b hd r) ⟨tupleKind_room_in1 hu, k, xs, key_of I.hok eb, dd, h _ _ (I.tok _) ?_⟩
    rw [l]
    exact (rel.val k).getD rd
end

def tDGet2 (td ty tx : TE) : TE := fun σ H Q => td σ H fun x H1 => ∃ a, x = .ref a ∧ IsD H1 a ∧ ty σ H1 fun y H2 => tx σ H2 fun z H3 => ∃ o, DGet H3 a y o ∧ Q (o.getD z) H3
section
variable {X : Cx} {o e f : Expr} {apos cpos : Pos} {td ty tx : TE}
theorem pe_dget2 (hu : X.A.units + 1 < cLine) (ho : PE X o td) (he : PE X e ty) (hf : PE X f tx) (m : M2 X o "get" apos e f cpos) : PE X (.Call (.Attribute o "get" apos) [e, f] [] cpos) (tDGet2 td ty tx) := by
  intro pins s σ H Q I h
  refine wpAny_Call_method m.base m.few m.line PySem.F.plainAttrs_dict PySem.F.slot_dict_get PySem.F.type_dict_get (thn (ho pins s σ H _ I h) fun u s1 ⟨x, H1, I1, rx, a, ex, d, q1⟩ => ?_)
  subst ex
  obtain rfl : u = Value.ref a := rx
  obtain ⟨t1, t2, _⟩ := isD_at I1 d
  refine ⟨t1, t2, ?_⟩
  rw [m.trees]
  refine Calls.callWith_builtin rfl (Calls.evalArgs_plain (Calls.spliced_cons (thn (he pins s1 σ H1 _ I1 q1) fun iv s2 ⟨y, H2, I2, ry, q2⟩ =>
    Calls.spliced_cons (thn (hf pins s2 σ H2 _ I2 q2) fun fv s3 ⟨z, H3, I3, rz, ov, g, q3⟩ => Calls.spliced_nil ?_))))
  exact d_get2 hu I3 g ry rz fun w' s4 I4 rw' => ⟨_, H3, I4, rw', q3⟩
end

/-! ### dict(d): a copy -/
section
variable {X : Cx} {pins : List (Addr × Obj)} {σ : St} {H : Hp} {s : Shared} {a : Addr} {kvs : List (Key × V)} {A : Around} {E : Value → Shared → Prop}
end

section
variable {X : Cx} {pins : List (Addr × Obj)} {σ : St} {H : Hp} {s : Shared} {a : Addr} {y : V} {u : Value} {A : Around} {E : Value → Shared → Prop}
end
end L2

/-! EXTENSION E: dicts with tuple keys: made, walked, summed, asked for the least -/
namespace L2
open PySem PySem.Spec PyProof.Rows
/-- a key of two ints -/
def keyR (r : Int × Int) : List Key := [.inl r.1, .inl r.2]
theorem keyR_inj {a b : Int × Int} (h : keyR a = keyR b) : a = b := by
  obtain ⟨a1, a2⟩ := a
  obtain ⟨b1, b2⟩ := b
  simp only [keyR, List.cons.injEq, Sum.inl.injEq, and_true] at h
  rw [h.1, h.2]
theorem keyR_map (r : Int × Int) : (keyR r).map kV = [.int r.1, .int r.2] := rfl
section
variable {P : Program} {w : World} {H : Hp} {h : Heap} {a : Addr} {kvs : List (List Key × V)}
theorem Paired.getR {α β : Type} {F : α → β → Prop} : ∀ {l : List α} {m : List β}, Paired F l m → ∀ {i : Nat} {x : α}, l[i]? = some x → ∃ y, m[i]? = some y ∧ F x y
  | _, _, .nil, _, _, e => by simp at e
  | _, _, .cons r _, 0, _, e => by simp at e; subst e; exact ⟨_, rfl, r⟩
  | _, _, .cons _ t, i + 1, x, e => by
    obtain ⟨y, h1, h2⟩ := Paired.getR t (i := i) (x := x) (by simpa using e)
    exact ⟨y, by simpa using h1, h2⟩
theorem dt_raw (ok : HOk P w H h) (e : Rd H a (.dT kvs)) : ∃ (es : Array DictEntry) (ep : Nat), RawD h a es ep ∧ (a == sysModules) = false ∧ kvs.length ≤ sizeLine ∧ es.size = kvs.length ∧
    ∀ (i : Nat) (k : List Key) (v : V), kvs[i]? = some (k, v) → ∃ (en : DictEntry) (kt : Addr), es[i]? = some en ∧ en.key = .ref kt ∧ H kt = some (.tup (k.map kV)) ∧ RelV v en.val := by
  obtain ⟨z, y, xs, r, o, es, ep, h1, h2, h3, h4, h5⟩ := (show ObjOk P w H h a (.dT kvs) from rd_of ok e)
  refine ⟨es, ep, ⟨o, h1, h2, h3⟩, y, z, ?_, fun i k v hi => ?_⟩
  · rw [← Array.length_toList, h4, List.length_map, ← Paired.length r]
  · obtain ⟨x, hx, q1, q2, q3⟩ := Paired.getR r hi
    refine ⟨entryOfKey (tupleKind (mixKind P w)) x, x.2.1, ?_, rfl, q2, q3⟩
    rw [← Array.getElem?_toList, h4, List.getElem?_map, hx]; rfl
end
section
variable {X : Cx} {pins : List (Addr × Obj)} {σ : St} {H : Hp} {s : Shared} {a : Addr} {kvs : List (List Key × V)}
/-- a dict that a loop walks is known to its object -/
theorem Inv.freeze (I : Inv X pins σ H s) (e : H a = some (.dT kvs)) : ∃ o, s.heap.get? a = some o ∧ Inv X pins σ (upd H a (.frz o (.dT kvs))) s := by
  obtain ⟨z, y, xs, r, o, es, ep, h1, h2, h3, h4, h5⟩ := (show ObjOk X.prog X.w H s.heap a (.dT kvs) from I.hok a _ e)
  refine ⟨o, h1, I.write (x := a) (e := a) (h' := s.heap) (t' := s.toks) (by rw [e]; exact True.intro) (.inl rfl) (fun b u _ q => q) ⟨o, h1⟩ ⟨h1, ?_⟩⟩
  exact ⟨z, y, xs, Paired.mapP r fun p q u => ⟨u.1, by rw [upd_ne (ne_of u.2.1 e (fun z => nomatch z))]; exact u.2.1, u.2.2⟩, o, es, ep, h1, h2, h3, h4, h5⟩
end

/-! ### d.items() in a for -/
def Iti (a : Addr) (o : Obj) : It :=
  ⟨fun i H => ∃ kvs, H a = some (.frz o (.dT kvs)) ∧ i < kvs.length,
   fun i H v H' => ∃ t kt k x, v = .ref t ∧ H t = none ∧ H' = upd H t (.tup [.ref kt, x]) ∧ H kt = some (.tup (k.map kV)) ∧ ∀ kvs, H a = some (.frz o (.dT kvs)) → kvs[i]? = some (k, x),
   fun i H => ∃ kvs, H a = some (.frz o (.dT kvs)) ∧ kvs.length ≤ i⟩
theorem turn_items {P : Program} {w : World} {K : PySem.W.Frag} {es : List Expr} {kk : Nat} {pos : Pos} {it a : Addr} {o : Obj} {ents : Array DictEntry} {ep : Nat} (hod : o.data = .dict ents ep) :
    Turn P w K (.Tuple es kk pos) (Iti a o) [it] it (fun i h => ∃ ok ov, IsItemIter h it a i ents.size ep ok ov) where
  mem := .head _
  obj := fun i h st c hc => by
    obtain ⟨ok, ov, y⟩ := st
    cases List.mem_singleton.mp hc
    exact ⟨_, y, fun v q => nomatch q⟩
  keep := fun i h h' st k => by
    obtain ⟨ok, ov, y⟩ := st
    exact ⟨ok, ov, k it (by simp) _ y⟩
  item := fun X eP eW eK hc i pins s σ H E I hf st go => by
    subst eP eW eK
    obtain ⟨ok, ov, y⟩ := st
    obtain ⟨kvs, ea, hi⟩ := go
    obtain ⟨f0, f1, f2, f3, f4, f5⟩ := hf it (by simp)
    obtain ⟨es', ep', rd, nd, z, sz, at_⟩ := dt_raw I.hok (a := a) (kvs := kvs) (.inr ⟨o, ea⟩)
    have eo : s.heap.get? a = some o := (show ObjOk X.prog X.w H s.heap a (.frz o (.dT kvs)) from I.hok a _ ea).1
    have ee : es' = ents ∧ ep' = ep := by
      obtain ⟨o', q1, q2, q3⟩ := rd
      rw [eo] at q1; cases q1
      rw [hod] at q3; cases q3; exact ⟨rfl, rfl⟩
    obtain ⟨rfl, rfl⟩ := ee
    obtain ⟨⟨k, x⟩, hk⟩ : ∃ p, kvs[i]? = some p := ⟨kvs[i], List.getElem?_eq_getElem hi⟩
    obtain ⟨en, kt, e1, e2, e3, e4⟩ := at_ i k x hk
    refine raw_nextI y rd e1 fun h' a1 a2 a3 a4 => ⟨_, rfl, ?_⟩
    refine wpAny_letOwnedTupleGo_items a1 fun h'' b1 hs => ?_
    have zT : s.heap.objs.size ≠ it := Nat.ne_of_gt (Heap.lt_size y)
    have kk : ∀ c o, c ∉ [it] → s.heap.get? c = some o → h''.get? c = some o := fun c o hc e => by
      have hc' : c ≠ it := by simpa using hc
      exact hs.extBut c o hc' (a4 c o hc' e)
    refine ⟨.ref s.heap.objs.size, upd H s.heap.objs.size (.tup [.ref kt, x]), I.laidCh (t' := s.toks) (ch := [it]) kk hf (Nat.le_refl _) ?_, rfl, ⟨_, kt, k, x, rfl, I.fresh, rfl, e3, fun kvs' q => ?_⟩, ⟨_, _, b1⟩, fun c hc => ?_⟩
    · exact ⟨by show 2 ≤ sizeLine; decide, [en.key, en.val], .cons e2 (.cons e4 .nil), ⟨_, hs.extBut _ _ zT a2, rfl, _, rfl⟩⟩
    · rw [ea] at q; cases q; exact hk
    · cases List.mem_singleton.mp hc
      rw [upd_ne (Nat.ne_of_lt (Heap.lt_size y))]; exact f0
  done := fun X eP eW eK hc i pins s σ H E I hf st stop => by
    subst eP eW eK
    obtain ⟨ok, ov, y⟩ := st
    obtain ⟨kvs, ea, hi⟩ := stop
    obtain ⟨f0, f1, f2, f3, f4, f5⟩ := hf it (by simp)
    obtain ⟨es', ep', rd, nd, z, sz, at_⟩ := dt_raw I.hok (a := a) (kvs := kvs) (.inr ⟨o, ea⟩)
    have eo : s.heap.get? a = some o := (show ObjOk X.prog X.w H s.heap a (.frz o (.dT kvs)) from I.hok a _ ea).1
    have ee : es' = ents ∧ ep' = ep := by
      obtain ⟨o', q1, q2, q3⟩ := rd
      rw [eo] at q1; cases q1
      rw [hod] at q3; cases q3; exact ⟨rfl, rfl⟩
    obtain ⟨rfl, rfl⟩ := ee
    exact raw_endI (I.ok.hd hc) y rd (Array.getElem?_eq_none (by (first | lia | omega))) fun h' eb => ⟨rfl, I.turned (t' := s.toks) (fun b o hb e => eb b o hb e) f0 f1 f3 f4 f5⟩
  self := fun A i s Q E st h => by
    obtain ⟨ok, ov, y⟩ := st
    exact iter_itemiter y h
/-- d.items(): a view of the dict at a -/
def rItems : V → List V → Hp → VK → Prop := fun x xs H Q => ∃ a kvs, x = .ref a ∧ xs = [] ∧ Rd H a (.dT kvs) ∧ ∀ v, H v = none → Q (.ref v) (upd H v (.ext fun h => h.IsItemsView v a))
def rValues : V → List V → Hp → VK → Prop := fun x xs H Q => ∃ a kvs, x = .ref a ∧ xs = [] ∧ Rd H a (.dT kvs) ∧ ∀ v, H v = none → Q (.ref v) (upd H v (.ext fun h => h.IsValuesView v a))
def iView (tl : TE) : TI := fun σ H R => tl σ H fun x H1 => ∃ v a kvs, x = .ref v ∧ H1 v = some (.ext fun h => h.IsItemsView v a) ∧ H1 a = some (.dT kvs) ∧ ∀ o, R (Iti a o) (upd H1 a (.frz o (.dT kvs)))
section
variable {X : Cx}
theorem mt_items : MtR X "dict.items" rItems := by
  intro pins s σ H x xs v us Q I rx rxs h
  obtain ⟨a, kvs, rfl, rfl, e, q⟩ := h
  cases (show v = Value.ref a from rx)
  cases rxs
  obtain ⟨es, ep, rd, nd, _⟩ := dt_raw I.hok e
  refine raw_items nd rd ⟨.ref s.heap.objs.size, _, I.laid (a := s.heap.objs.size) (o := .ext fun h => h.IsItemsView s.heap.objs.size a) (t' := s.toks) (fun _ _ q => Heap.get?_push_of_some _ q) (Nat.le_refl _) ?_, rfl, q _ (I.hok.fresh (Nat.le_refl _))⟩
  exact ⟨⟨_, Heap.get?_push_size _ rfl, rfl, rfl⟩, ⟨_, Heap.get?_push_size _ rfl⟩, fun h1 h2 ⟨o, p1, p2⟩ k => ⟨o, k o p1, p2⟩⟩
theorem mt_values : MtR X "dict.values" rValues := by
  intro pins s σ H x xs v us Q I rx rxs h
  obtain ⟨a, kvs, rfl, rfl, e, q⟩ := h
  cases (show v = Value.ref a from rx)
  cases rxs
  obtain ⟨es, ep, rd, nd, _⟩ := dt_raw I.hok e
  refine raw_values nd rd ⟨.ref s.heap.objs.size, _, I.laid (a := s.heap.objs.size) (o := .ext fun h => h.IsValuesView s.heap.objs.size a) (t' := s.toks) (fun _ _ q => Heap.get?_push_of_some _ q) (Nat.le_refl _) ?_, rfl, q _ (I.hok.fresh (Nat.le_refl _))⟩
  exact ⟨⟨_, Heap.get?_push_size _ rfl, rfl, rfl⟩, ⟨_, Heap.get?_push_size _ rfl⟩, fun h1 h2 ⟨o, p1, p2⟩ k => ⟨o, k o p1, p2⟩⟩
theorem pi_view {es : List Expr} {kk : Nat} {pos : Pos} {l : Expr} {tl : TE} (hl : PE X l tl) : PI X (.Tuple es kk pos) l (iView tl) := by
  intro pins s σ H R I h
  refine thn (hl pins s σ H _ I h) fun u s1 ⟨x, H1, I1, r1, q1⟩ => ?_
  obtain ⟨v, a, kvs, rfl, ev, ea, q⟩ := q1
  cases (show u = Value.ref v from r1)
  obtain ⟨vw, _⟩ := (show ObjOk X.prog X.w H1 s1.heap v (.ext fun h => h.IsItemsView v a) from I1.hok v _ ev)
  obtain ⟨o, eo, I2⟩ := I1.freeze ea
  obtain ⟨ents, ep, rd, nd, z, sz, at_⟩ := dt_raw I1.hok (a := a) (kvs := kvs) (.inl ea)
  have hod : o.data = .dict ents ep := by
    obtain ⟨o', q1, q2, q3⟩ := rd
    rw [eo] at q1; cases q1; exact q3
  refine raw_iterI vw rd ?_
  refine ⟨s1.heap.objs.size, [s1.heap.objs.size], _, _, _, rfl, I2.kept (t' := s1.toks) fun b o e => Heap.get?_push_of_some _ e, turn_items (a := a) (o := o) hod, ⟨_, _, Heap.get?_push_size _ rfl⟩, fun b hb => ?_, q o⟩
  cases List.mem_singleton.mp hb
  exact I2.fpOk (Nat.le_refl _) (I2.hok.fresh (Nat.le_refl _))
end
theorem for_items {a : Addr} {o : Obj} {kvs : List (List Key × V)} {g : TG} {tb : TS} {D : Ends} {σ : St} {H : Hp} (Pv : Nat → St → Hp → Prop) (h0 : Pv 0 σ H) (hl : ∀ i σ H, i ≤ kvs.length → Pv i σ H → H a = some (.frz o (.dT kvs)))
    (hs : ∀ i k x t kt σ H, kvs[i]? = some (k, x) → H t = none → H kt = some (.tup (k.map kV)) → Pv i σ H → g (.ref t) σ (upd H t (.tup [.ref kt, x])) fun σ2 H2 => tb { D with nx := Pv (i + 1), ct := Pv (i + 1), bk := D.nx } σ2 H2) (hd : ∀ σ H, Pv kvs.length σ H → D.nx σ H) :
    ∃ W : Nat → Nat → St → Hp → Prop, (∃ m, W 0 m σ H) ∧ ∀ i m σ H, W i m σ H → ((Iti a o).stop i H ∧ D.nx σ H) ∨ ((Iti a o).go i H ∧ ∃ N : St → Hp → Prop, (∀ σ' H', N σ' H' → ∃ m', m' < m ∧ W (i + 1) m' σ' H') ∧
      ∀ x H', (Iti a o).yld i H x H' → g x σ H' fun σ2 H2 => tb { D with nx := N, ct := N, bk := D.nx } σ2 H2) := by
  refine ⟨fun i m σ H => Pv i σ H ∧ i ≤ kvs.length ∧ m = kvs.length - i, ⟨_, h0, Nat.zero_le _, rfl⟩, fun i m σ H ⟨p, hi, hm⟩ => ?_⟩
  have l1 := hl i σ H hi p
  by_cases e : i = kvs.length
  · subst e
    exact .inl ⟨⟨kvs, l1, Nat.le_refl _⟩, hd σ H p⟩
  · refine .inr ⟨⟨kvs, l1, by (first | lia | omega)⟩, Pv (i + 1), fun σ' H' q => ⟨kvs.length - (i + 1), by (first | lia | omega), q, by (first | lia | omega), rfl⟩, fun v H' hv => ?_⟩
    obtain ⟨t, kt, k, x, rfl, ht, rfl, h1, h2⟩ := hv
    exact hs i k x t kt σ H (h2 kvs l1) ht h1 p

/-! ### sum -/
theorem preSum_list {ns : List Int} {val : Nat → Int} (h : ∀ i n, ns[i]? = some n → val i = n) : preSum val ns.length = ns.sum := by
  have key : ∀ (k : Nat) , k ≤ ns.length → preSum val k = (ns.take k).sum := by
    intro k
    induction k with
    | zero => intro _; rfl
    | succ k ih =>
      intro hk
      have hn : ns[k]? = some ns[k] := List.getElem?_eq_getElem (by (first | lia | omega))
      show preSum val k + val k = _
      rw [ih (by (first | lia | omega)), h k _ hn, List.take_add_one, hn, List.sum_append]
      simp
  rw [key _ (Nat.le_refl _), List.take_length]
theorem vals_int_at {ns : List Int} {us : List Value} (r : Vals (ns.map V.int) us) (i : Nat) (v : Value) (h : us[i]? = some v) : ∃ t, v = .int (ns.getD i 0) t := by
  have hl := r.length
  rw [List.length_map] at hl
  have hi : i < us.length := (List.getElem?_eq_some_iff.mp h).1
  have hn : ns[i]? = some ns[i] := List.getElem?_eq_getElem (by (first | lia | omega))
  obtain ⟨u, h1, t, h2⟩ := r.get (show (ns.map V.int)[i]? = some (.int ns[i]) by rw [List.getElem?_map, hn]; rfl)
  rw [h] at h1; cases h1
  exact ⟨t, by rw [h2]; simp [List.getD, hn]⟩
def rSumT (K : PySem.W.Frag) : List V → Hp → VK → Prop := fun xs H Q => ∃ (p : Addr) (ns : List Int), xs = [.ref p] ∧ SqT K H p (ns.map V.int) ∧ Q (.int ns.sum) H
def rSumV : List V → Hp → VK → Prop := fun xs H Q => ∃ (v a : Addr) (kvs : List (List Key × V)) (ns : List Int), xs = [.ref v] ∧ H v = some (.ext fun h => h.IsValuesView v a) ∧ Rd H a (.dT kvs) ∧ kvs.map (·.2) = ns.map V.int ∧ Q (.int ns.sum) H
theorem call_sumT (K : PySem.W.Frag) {X : Cx} (hc : X.calm = true := by rfl) (e : X.K = K := by rfl) : CallR X (.builtin "sum") (rSumT K) := by
  subst e
  intro pins s σ H xs us Q I r h
  obtain ⟨p, ns, rfl, hl, q⟩ := h
  obtain ⟨u, rfl, ru⟩ := vals1 r
  cases (show u = Value.ref p from ru)
  obtain ⟨its, rv, pt, _⟩ := I.tuple hl
  have lp : p < s.heap.objs.size := by obtain ⟨o, e, _⟩ := pt; exact Heap.lt_size e
  have hlen := rv.length
  rw [List.length_map] at hlen
  refine raw_sumT (val := fun i => ns.getD i 0) (I.ok.hd hc) (show s.heap.IsTuple p its.toArray from pt) lp (fun i v hv => vals_int_at rv i v (by simpa using hv)) fun h' tk t k => ⟨.int ns.sum, H, I.kept k, ⟨t, ?_⟩, q⟩
  rw [List.size_toArray, ← hlen, preSum_list]
  intro i n hn; simp [List.getD, hn]
theorem call_sumV {X : Cx} (hc : X.calm = true := by rfl) : CallR X (.builtin "sum") rSumV := by
  intro pins s σ H xs us Q I r h
  obtain ⟨v, a, kvs, ns, rfl, ev, ea, en, q⟩ := h
  obtain ⟨u, rfl, ru⟩ := vals1 r
  cases (show u = Value.ref v from ru)
  obtain ⟨vw, _⟩ := (show ObjOk X.prog X.w H s.heap v (.ext fun h => h.IsValuesView v a) from I.hok v _ ev)
  obtain ⟨es, ep, rd, nd, z, sz, at_⟩ := dt_raw I.hok ea
  have hlen : kvs.length = ns.length := by have := congrArg List.length en; simpa using this
  refine raw_sumV (val := fun i => ns.getD i 0) (I.ok.hd hc) vw rd (fun i x hx => ?_) fun h' tk t k => ⟨.int ns.sum, H, I.kept k, ⟨t, ?_⟩, q⟩
  · have hi : i < kvs.length := by have := (Array.getElem?_eq_some_iff.mp hx).1; (first | lia | omega)
    obtain ⟨x', kt, e1, e2, e3, e4⟩ := at_ i kvs[i].1 kvs[i].2 (List.getElem?_eq_getElem hi)
    rw [hx] at e1; cases e1
    have hv : (kvs.map (·.2))[i]? = some kvs[i].2 := by rw [List.getElem?_map, List.getElem?_eq_getElem hi]; rfl
    rw [en] at hv
    obtain ⟨n, h1, h2⟩ := ofGetI hv
    rw [h2] at e4
    obtain ⟨t, e5⟩ := e4
    exact ⟨t, by rw [e5]; simp [List.getD, h1]⟩
  · rw [sz, hlen, preSum_list]
    intro i n hn; simp [List.getD, hn]

/-! ### min(d, key=sum) -/
def tMinS (ta : TA) : TE := fun σ H Q => ta σ H fun vs H1 => ∃ (a : Addr) (kvs : List (List Key × V)) (rs : List (Int × Int)), vs = [.ref a] ∧ Rd H1 a (.dT kvs) ∧ kvs.map (·.1) = rs.map keyR ∧ 0 < rs.length ∧
  ∀ (i : Nat) (r : Int × Int) (kt : Addr), rs[i]? = some r → (∀ (j : Nat) (r' : Int × Int), rs[j]? = some r' → r.1 + r.2 ≤ r'.1 + r'.2 ∧ (j < i → r.1 + r.2 < r'.1 + r'.2)) → H1 kt = some (.tup [.int r.1, .int r.2]) → Q (.ref kt) H1
theorem pe_minSum {X : Cx} {e : Expr} {ta : TA} {p p2 pos kpos : Pos} (hc : X.calm = true) (hg : Gl X "min") (hm : X.mg "min" = none) (hg2 : Gl X "sum") (hm2 : X.mg "sum" = none) (ha : PA X [e] ta) (hs : backTo pos (starEach [e] X.env) = (false, eval e X.env) :: backTo pos (starEach [] X.env) := by rfl) :
    PE X (.Call (.Name "min" p) [e] [⟨some "key", .Name "sum" p2, kpos⟩] pos) (tMinS ta) := by
  intro pins s σ H Q I h
  refine wpAny_Call_Name_kw (ld_blt I hg hm PyProof.Rows.Boot.«min» ?_)
  refine PyProof.Rows.callWith_kw (thn (ha pos pins s σ H _ I h) fun us s1 ⟨vs, H1, I1, r1, q1⟩ => ?_) hs (by rw [hs]; rfl)
  obtain ⟨a, kvs, rs, rfl, ea, ek, hn, q⟩ := q1
  obtain ⟨u, rfl, ru⟩ := vals1 r1
  cases (show u = Value.ref a from ru)
  refine PyProof.Rows.kws_cons (ld_blt I1 hg2 hm2 PyProof.Rows.Boot.«sum» (PyProof.Rows.kws_nil ?_))
  obtain ⟨es, ep, rd, nd, z, sz, at_⟩ := dt_raw I1.hok ea
  have hlen : kvs.length = rs.length := by have := congrArg List.length ek; simpa using this
  have la : a < s1.heap.objs.size := by obtain ⟨o, e, _⟩ := rd; exact Heap.lt_size e
  have ne : a ≠ s1.heap.objs.size := Nat.ne_of_lt la
  have key : ∀ (i : Nat) (v : Value), (∃ en, es[i]? = some en ∧ v = en.key) → ∃ kt r, v = .ref kt ∧ rs[i]? = some r ∧ H1 kt = some (.tup [.int r.1, .int r.2]) := fun i v hv => by
    obtain ⟨en, h1, rfl⟩ := hv
    have hi : i < kvs.length := by have := (Array.getElem?_eq_some_iff.mp h1).1; (first | lia | omega)
    obtain ⟨x', kt, e1, e2, e3, e4⟩ := at_ i kvs[i].1 kvs[i].2 (List.getElem?_eq_getElem hi)
    rw [h1] at e1; cases e1
    have hv : (kvs.map (·.1))[i]? = some kvs[i].1 := by rw [List.getElem?_map, List.getElem?_eq_getElem hi]; rfl
    rw [ek, List.getElem?_map] at hv
    obtain ⟨r, h2, h3⟩ := Option.map_eq_some_iff.mp hv
    exact ⟨kt, r, e2, h2, by rw [e3, ← h3, keyR_map]⟩
  have hh := I1.ok.hd hc
  refine mk_min (f := "sum") (raw_iter nd rd ⟨s1.heap.objs.size, _, _, es.size, _, _, fun i => (rs.getD i (0, 0)).1 + (rs.getD i (0, 0)).2, _, rfl, rfl, ?_, fun b o e => Heap.get?_push_of_some _ e, raw_walk (P := X.prog) (w := X.w) (A := X.A.in1) (es := es) (ep := ep) hh ne,
    ⟨⟨_, Heap.get?_push_size _ rfl, rfl, rfl⟩, rd.mono fun o e => Heap.get?_push_of_some _ e⟩, fun b hb => ?_, fun b hb => ?_, by (first | lia | omega), fun i v h tk hi hv hk => ?_, fun i v h' tk' hi hv hb hk => ?_⟩)
  · rw [Heap.size_push]; exact Nat.le_succ _
  · rw [Heap.size_push]
    simp only [List.mem_cons, List.mem_nil_iff, or_false] at hb
    rcases hb with rfl | rfl
    · exact Nat.lt_succ_self _
    · exact Nat.lt_succ_of_lt la
  · cases List.mem_singleton.mp hb; exact Nat.le_refl _
  · obtain ⟨kt, r, rfl, hr, ht⟩ := key i v hv
    obtain ⟨_, its, rv, pt⟩ := (show ObjOk X.prog X.w H1 s1.heap kt (.tup [.int r.1, .int r.2]) from I1.hok kt _ ht)
    have pt' : h.IsTuple kt its.toArray := (show s1.heap.IsTuple kt its.toArray from pt).at fun o e => hk kt o e
    have lk : kt < h.objs.size := by obtain ⟨o, e, _⟩ := pt'; exact Heap.lt_size e
    have rv' : Vals (([r.1, r.2] : List Int).map V.int) its := rv
    have hl2 := rv'.length
    refine raw_sumT (s := { s1 with heap := h, toks := tk }) (val := fun i => ([r.1, r.2] : List Int).getD i 0) hh pt' lk (fun i v hv => vals_int_at rv' i v (by simpa using hv)) fun h' tk' t k => ⟨t, h', tk', ?_, rfl, k⟩
    have e1 : its.toArray.size = ([r.1, r.2] : List Int).length := by rw [List.size_toArray, ← hl2]; rfl
    rw [e1, preSum_list (ns := [r.1, r.2]) (by intro i n hn; simp [List.getD, hn])]
    simp [List.getD, hr]
  · obtain ⟨kt, r, rfl, hr, ht⟩ := key i v hv
    refine ⟨.ref kt, H1, I1.kept hk, rfl, q i r kt hr (fun j r' hj => ?_) ht⟩
    have hjl : j < es.size := by have := (List.getElem?_eq_some_iff.mp hj).1; (first | lia | omega)
    have := hb j hjl
    simpa [List.getD, hr, hj] using this

/-! ### {k: v} with a tuple of two ints for a key -/
def tDisp1 (tk tv : TE) : TE := fun σ H Q => ∀ p, H p = none → tk σ (upd H p (.dT [])) fun x H1 => tv σ H1 fun y H2 => ∃ kt r, x = .ref kt ∧ H2 kt = some (.tup (List.map kV r)) ∧ H2 p = some (.dT []) ∧ Q (.ref p) (upd H2 p (.dT [(r, y)]))
theorem pe_disp1 {X : Cx} {pos : Pos} {k v : Expr} {tk tv : TE} (hu : X.A.units < cLine) (hk : PE X k tk) (hv : PE X v tv) : PE X (.Dict [some k] [v] pos) (tDisp1 tk tv) := by
  intro pins s σ H Q I q
  have hn := I.hok.fresh (Nat.le_refl s.heap.objs.size)
  have I1 := I.laid (a := s.heap.objs.size) (o := .dT []) (h' := s.heap.push { cls := .type "dict", data := .dict #[] }) (t' := s.toks) (fun _ _ q => Heap.get?_push_of_some _ q) (Nat.le_refl _) (dt_empty s.heap I.big)
  refine wpAny_Dict_any rfl rfl (by simp) (by simp) ?_
  refine pairTrees_cons_walk (thn (hk pins _ σ _ _ I1 (q _ hn)) fun u s1 ⟨x, H1, I1, rx, q1⟩ => thn (hv pins s1 σ H1 _ I1 q1) fun w2 s2 ⟨y, H2, I2, ry, q2⟩ => pairTrees_nil_walk ?_)
  obtain ⟨kt, r, rfl, ht, hp, q3⟩ := q2
  cases (show u = Value.ref kt from rx)
  obtain ⟨z, hd, xs, rel, dd⟩ := dt_of I2.hok hp
  cases rel
  unfold storeAll
  simp only [List.forIn_cons, List.forIn_nil]
  refine wpAny_bind (wpAny_bind (wpAny_dictSet_heap (hsz := Nat.zero_le _) (knd := tupleKind (mixKind X.prog X.w)) hu (key_of I2.hok ht) dd fun h' dd' hs => wpAny_pure (wpAny_pure ⟨.ref s.heap.objs.size, _, ?_, rfl, q3⟩)))
  obtain ⟨o, es, ep, hq, h2, h3, h4, _, h5⟩ := dd'
  refine d_write I2 (by rw [hp]; exact True.intro) hs ⟨o, hq⟩ ⟨by show 1 ≤ sizeLine; decide, hd, _, ?_, o, es, ep, hq, h2, h3, h4, h5⟩
  refine .cons ⟨rfl, ?_, ry⟩ .nil
  show upd H2 s.heap.objs.size _ kt = _
  rw [upd_ne (ne_of ht hp (fun z => nomatch z))]
  exact ht
theorem hu1_of {A : Around} {k : Nat} (hr : Room k A) : A.units + 1 < cLine := by have := hr.units; (first | lia | omega)
theorem hu0_of {A : Around} {k : Nat} (hr : Room k A) : A.units < cLine := by have := hr.units; (first | lia | omega)
theorem pi_tupK (K : PySem.W.Frag) {X : Cx} {tg l : Expr} {tl : TE} (hl : PE X l tl) (e : X.K = K := by rfl) : PI X tg l (iTup K tl) := e ▸ pi_tup hl
theorem cut_from (xs : List V) (k : Nat) : cutV xs (some (k : Int)) none = xs.drop k := by
  unfold cutV
  rw [HT.sIx_nat, HT.sIx_none, List.take_of_length_le (by rw [List.length_drop]; (first | lia | omega))]
  by_cases h : k ≤ xs.length
  · rw [Nat.min_eq_left h]
  · rw [Nat.min_eq_right (by (first | lia | omega)), List.drop_length, List.drop_of_length_le (by (first | lia | omega))]
end L2

/-! ### enumerate of a list, walked by a pair of names -/
namespace L2
open PySem PySem.Spec PyProof.Rows
def Ite (K : PySem.W.Frag) (a : Addr) : It :=
  ⟨fun i H => ∃ xs x, SqL K H a xs ∧ xs[i]? = some x,
   fun i H v H' => ∃ t x, v = .ref t ∧ H t = none ∧ H' = upd H t (.tup [.int i, x]) ∧ ∀ xs, SqL K H a xs → xs[i]? = some x,
   fun i H => ∃ xs, SqL K H a xs ∧ xs.length ≤ i⟩
theorem turn_enum {P : Program} {w : World} {K : PySem.W.Frag} {es : List Expr} {kk : Nat} {pos : Pos} {e it a : Addr} (ne : e ≠ it) (nea : a ≠ e) (nia : a ≠ it) :
    Turn P w K (.Tuple es kk pos) (Ite K a) [e, it] e (fun i h => (∃ old, IsEnum h e it i old) ∧ h.IsListIter it a i) where
  mem := .head _
  obj := fun i h st c hc => by
    obtain ⟨⟨old, y⟩, o1, e1, _, d1⟩ := st
    simp only [List.mem_cons, List.mem_nil_iff, or_false] at hc
    rcases hc with rfl | rfl
    · exact ⟨_, y, fun v q => nomatch q⟩
    · exact ⟨_, e1, fun v q => by rw [d1] at q; cases q⟩
  keep := fun i h h' st k => by
    obtain ⟨⟨old, y⟩, h1⟩ := st
    exact ⟨⟨old, k e (by simp) _ y⟩, h1.at fun o q => k it (by simp) o q⟩
  item := fun X eP eW eK hc i pins s σ H E I hf st go => by
    subst eP eW eK
    obtain ⟨⟨old, y⟩, h1⟩ := st
    obtain ⟨xs, x, hxs, hx⟩ := go
    obtain ⟨its, r1, p1, z1⟩ := I.list hxs
    obtain ⟨u, hu, ru⟩ := r1.get hx
    refine wpAny_pyNext_enum_item y h1 p1.isList (x := u) (by simpa using hu) ne fun h' a1 a2 a3 a4 hk => ⟨_, rfl, ?_⟩
    refine wpAny_letOwnedTupleGo_enum a1 fun h'' b1 hs => ?_
    have zT : s.heap.objs.size ≠ e := Nat.ne_of_gt (Heap.lt_size y)
    have kk : ∀ c o, c ∉ [e, it] → s.heap.get? c = some o → h''.get? c = some o := fun c o hc q => by
      simp only [List.mem_cons, List.mem_nil_iff, or_false, not_or] at hc
      exact hs.extBut c o hc.1 (hk c o hc.1 hc.2 q)
    refine ⟨.ref s.heap.objs.size, upd H s.heap.objs.size (.tup [.int i, x]), I.laidCh (t' := s.toks + 1) (ch := [e, it]) kk hf (Nat.le_refl _) ?_, rfl, ⟨_, x, rfl, I.fresh, rfl, fun zs hzs => ?_⟩, ⟨⟨_, b1⟩, a2.extBut hs.extBut ne.symm⟩, fun c hc => ?_⟩
    · exact ⟨by show 2 ≤ sizeLine; decide, [.int i s.toks, u], .cons ⟨_, rfl⟩ (.cons ru .nil), ⟨_, hs.extBut _ _ zT a3, rfl, _, rfl⟩⟩
    · rw [I.list_inj hzs hxs]; exact hx
    · rw [upd_ne]
      · exact (hf c hc).1
      · obtain ⟨o, q⟩ : ∃ o, s.heap.get? c = some o := by
          obtain ⟨o1, e1, _⟩ := h1
          simp only [List.mem_cons, List.mem_nil_iff, or_false] at hc
          rcases hc with rfl | rfl
          · exact ⟨_, y⟩
          · exact ⟨_, e1⟩
        exact Nat.ne_of_lt (Heap.lt_size q)
  done := fun X eP eW eK hc i pins s σ H E I hf st stop => by
    subst eP eW eK
    obtain ⟨⟨old, y⟩, h1⟩ := st
    obtain ⟨xs, hxs, hi⟩ := stop
    obtain ⟨its, r1, p1, z1⟩ := I.list hxs
    have l1 := r1.length
    obtain ⟨f0, f1, f2, f3, f4, f5⟩ := hf it (by simp)
    exact wpAny_pyNext_enum_end (I.ok.hd hc) y h1 p1.isList (Array.getElem?_eq_none (by simp; (first | lia | omega))) fun h' eb => ⟨rfl, I.turned (t' := s.toks) (fun b o hb q => eb b o hb q) f0 f1 f3 f4 f5⟩
  self := fun A i s Q E st h => by
    obtain ⟨⟨old, y⟩, _⟩ := st
    exact wpAny_pyIter_enum y h
def iEnum (K : PySem.W.Frag) (ta : TA) : TI := fun σ H R => ta σ H fun vs H1 => ∃ a, vs = [.ref a] ∧ (∃ xs, SqL K H1 a xs) ∧ R (Ite K a) H1
theorem pi_enumK (K : PySem.W.Frag) {X : Cx} {e1 : Expr} {ta : TA} {p pos pos' : Pos} {es : List Expr} {kk : Nat} (hg : Gl X "enumerate") (hm : X.mg "enumerate" = none) (ha : PA X [e1] ta) (eK : X.K = K := by rfl)
    (hs : starEach [e1] X.env = [(false, eval e1 X.env)] := by rfl) : PI X (.Tuple es kk pos') (.Call (.Name "enumerate" p) [e1] [] pos) (iEnum K ta) := by
  subst eK
  intro pins s σ H R I h
  refine Call_ (ld_blt I hg hm PyProof.Rows.Boot.«enumerate» (PyProof.Rows.callWith_type1 (thn (ha pos pins s σ H _ I h) fun us s1 ⟨vs, H1, I1, r1, q1⟩ => ?_) hs rfl))
  obtain ⟨a, rfl, ⟨xs, hxs⟩, q⟩ := q1
  obtain ⟨u, rfl, ru⟩ := vals1 r1
  cases (show u = Value.ref a from ru)
  obtain ⟨its, v1, p1, _⟩ := I1.list hxs
  have la : a < s1.heap.objs.size := by obtain ⟨o, n, e, _⟩ := p1; exact Heap.lt_size e
  refine call_enumerate_list p1.isList fun h' z1 z2 hsz hk => ?_
  refine wpAny_pyIter_enum z1 ⟨s1.heap.objs.size + 1, [s1.heap.objs.size + 1, s1.heap.objs.size], _, Ite X.K a, H1, rfl, I1.kept (t' := s1.toks) hk,
    turn_enum (Nat.ne_of_gt (Nat.lt_succ_self _)) (Nat.ne_of_lt (Nat.lt_succ_of_lt la)) (Nat.ne_of_lt la), ⟨⟨_, z1⟩, z2⟩, fun c hc => ?_, q⟩
  have hcl : s1.heap.objs.size ≤ c := by
    simp only [List.mem_cons, List.mem_nil_iff, or_false] at hc
    rcases hc with rfl | rfl
    · exact Nat.le_succ _
    · exact Nat.le_refl _
  exact I1.fpOk hcl (I1.hok.fresh hcl)
theorem for_enum {K : PySem.W.Frag} {a : Addr} {xs : List V} {g : TG} {tb : TS} {D : Ends} {σ : St} {H : Hp} (Pv : Nat → St → Hp → Prop) (h0 : Pv 0 σ H) (hl : ∀ i σ H, i ≤ xs.length → Pv i σ H → SqL K H a xs)
    (hs : ∀ i x t σ H, xs[i]? = some x → H t = none → Pv i σ H → g (.ref t) σ (upd H t (.tup [.int i, x])) fun σ2 H2 => tb { D with nx := Pv (i + 1), ct := Pv (i + 1), bk := D.nx } σ2 H2) (hd : ∀ σ H, Pv xs.length σ H → D.nx σ H) :
    ∃ W : Nat → Nat → St → Hp → Prop, (∃ m, W 0 m σ H) ∧ ∀ i m σ H, W i m σ H → ((Ite K a).stop i H ∧ D.nx σ H) ∨ ((Ite K a).go i H ∧ ∃ N : St → Hp → Prop, (∀ σ' H', N σ' H' → ∃ m', m' < m ∧ W (i + 1) m' σ' H') ∧
      ∀ x H', (Ite K a).yld i H x H' → g x σ H' fun σ2 H2 => tb { D with nx := N, ct := N, bk := D.nx } σ2 H2) := by
  refine ⟨fun i m σ H => Pv i σ H ∧ i ≤ xs.length ∧ m = xs.length - i, ⟨_, h0, Nat.zero_le _, rfl⟩, fun i m σ H ⟨p, hi, hm⟩ => ?_⟩
  have l1 := hl i σ H hi p
  by_cases e : i = xs.length
  · subst e
    exact .inl ⟨⟨xs, l1, Nat.le_refl _⟩, hd σ H p⟩
  · have lx : i < xs.length := by (first | lia | omega)
    refine .inr ⟨⟨xs, xs[i], l1, List.getElem?_eq_getElem lx⟩, Pv (i + 1), fun σ' H' q => ⟨xs.length - (i + 1), by (first | lia | omega), q, by (first | lia | omega), rfl⟩, fun v H' hv => ?_⟩
    obtain ⟨t, x, rfl, ht, rfl, h1⟩ := hv
    exact hs i x t σ H (h1 xs l1) ht p
end L2

/-! EXTENSION V: sum of a list, list(reversed(..)) -/
namespace L2
open PySem PySem.Spec PyProof.Rows
section
variable {P : Program} {w : World} {A : Around} {E : Value → Shared → Prop} {s : Shared}
end
def rSumL (K : PySem.W.Frag) : List V → Hp → VK → Prop := fun xs H Q => ∃ (p : Addr) (ns : List Int), xs = [.ref p] ∧ SqL K H p (ns.map V.int) ∧ Q (.int ns.sum) H
/-! ### list(reversed(l)) -/
section
variable {P : Program} {w : World} {A : Around} {E : Value → Shared → Prop} {s : Shared}
end
theorem vals_of_at : ∀ {xs : List V} {us : List Value}, xs.length = us.length → (∀ (i : Nat) (x : V) (u : Value), xs[i]? = some x → us[i]? = some u → RelV x u) → Vals xs us
  | [], [], _, _ => .nil
  | [], _ :: _, h, _ => by simp at h
  | _ :: _, [], h, _ => by simp at h
  | x :: xs, u :: us, h, f => .cons (f 0 x u rfl rfl) (vals_of_at (by simpa using h) fun i y z h1 h2 => f (i + 1) y z (by simpa using h1) (by simpa using h2))
def tListRev (K : PySem.W.Frag) (te : TE) : TE := fun σ H Q => te σ H fun x H1 => ∃ (a : Addr) (ns : List Int), x = .ref a ∧ SqL K H1 a (ns.map V.int) ∧ ∀ l, H1 l = none → Q (.ref l) (upd H1 l (.lst (ns.reverse.map V.int)))
end L2

/-! EXTENSION W: two lists of ints of one length compared by < and >= -/
namespace L2
open PySem PySem.Spec PyProof.Rows
section
open PySem.SeqAt
open PySem.AutoSeq1 (wpAny_loadPart')
open PySem.MeetsSeq PySem.MeetsSeq2 PySem.MeetsSeq3
end
end L2

/-! EXTENSION X: own exceptions: raised, passed on, caught by a name of their own or of one above -/
namespace L2
open PySem PySem.Spec PyProof.Rows

abbrev bmVE : List Value := [.type "ValueError", .type "Exception", .type "BaseException", .type "object"]
/-- an own error class beneath ValueError -/
def ExcC (K : PySem.W.Frag) (C : Addr) : Prop := PySem.W.excIn K C bmVE "ValueError.__new__" = true
theorem ExcC.obj {K : PySem.W.Frag} {h : Heap} {C : Addr} (q : ExcC K C) (X : K.In h) : ∃ bm N nm q bs hdct sn sub ab col dd k0 k1 k2 k3 k5 mN,
    h.get? C = some (excClassObj nm q C N bs bm hdct sn sub ab col dd k0 k1 k2 k3 k5 "ValueError.__new__") ∧ h.Ns N mN ∧ mN "__init__" = none ∧ OwnTail h bmVE bm := by
  have q' : PySem.W.excIn K C bmVE "ValueError.__new__" = true := q
  unfold PySem.W.excIn at q'
  split at q'
  · rename_i dd cd sl ho
    split at q'
    · rename_i C' bm k0 k1 k2 k3 n k5 hm hs
      simp only [Bool.and_eq_true, beq_iff_eq, Bool.not_eq_true'] at q'
      obtain ⟨⟨⟨⟨⟨e1, e2⟩, hdel⟩, ht⟩, hok⟩, hni⟩ := q'
      subst e1 e2
      obtain ⟨nm, bs, mro, ns, qn, hd, sn, sub, ab, col, del⟩ := cd
      dsimp only at hm hdel hok hni
      subst hm hdel
      have hsl : sl = #[k0, k1, k2, k3, some (.builtin "ValueError.__new__"), k5] := by
        obtain ⟨l⟩ := sl
        simp only at hs
        rw [hs]
      subst hsl
      exact ⟨bm, ns, nm, qn, bs, hd, sn, sub, ab, col, dd, k0, k1, k2, k3, k5, _, X _ _ ho, .of_isNs (PySem.W.isNs_of_in X hok), PySem.W.nsMap_none_of_in X hok hni, PySem.W.tail_of_in X ht⟩
    · cases q'
  · cases q'

/-! ### the heap while an exception flies -/
theorem ObjOk.obj {P : Program} {w : World} {H : Hp} {h : Heap} {a : Addr} {o : HO} (x : ObjOk P w H h a o) : ∃ ob, h.get? a = some ob := by
  cases o with
  | lst xs => obtain ⟨_, _, _, _, e⟩ := x; exact ⟨_, e⟩
  | tup xs => obtain ⟨_, _, _, e⟩ := x; obtain ⟨ob, e, _⟩ := e; exact ⟨_, e⟩
  | dK kvs => obtain ⟨_, _, _, _, e⟩ := x; obtain ⟨ob, _, _, e, _⟩ := e; exact ⟨_, e⟩
  | dT kvs => obtain ⟨_, _, _, _, ob, _, _, e, _⟩ := x; exact ⟨_, e⟩
  | set S n => obtain ⟨o, _, _, _, e, _⟩ := x; exact ⟨_, e⟩
  | ins C dx fs => obtain ⟨_, _, _, e, _⟩ := x; exact ⟨_, e⟩
  | own _ => exact x
  | xd fs => obtain ⟨_, ⟨_, _, _, e, _⟩, _⟩ := x; exact ⟨_, e⟩
  | rng lo hi => obtain ⟨_, _, _, e⟩ := x; exact ⟨_, e⟩
  | frz ob u => obtain ⟨e, _⟩ := x; exact ⟨_, e⟩
  | tbl ps => exact ⟨_, x⟩
  | met f y => exact ⟨_, x⟩
  | ext φ => exact x.2.1

theorem fly_step {P : Program} {w : World} {fs : List Addr} {H H1 : Hp} {h h1 h2 B : Heap} (U : Un fs [] H H1 h h1) (ok : HOk P w H1 h1) (tB : ∀ b u, H1 b = some u → ∃ o, B.get? b = some o)
    (oB : ∀ b o, h.get? b = some o → b ∉ fs → ∃ o', B.get? b = some o') (st1 : ∀ b o, B.get? b = some o → h1.get? b = some o) (st2 : ∀ b o, B.get? b = some o → h2.get? b = some o) (up : h1.UpToSlots h2)
    (ff : ∀ b ∈ fs, ∃ o, h.get? b = some o ∧ H b = none ∧ ∀ vs, o.data ≠ .fields vs) : Un fs [] H H1 h h2 ∧ HOk P w H1 h2 := by
  have inB : ∀ b o, h1.get? b = some o → (∃ o', B.get? b = some o') → h2.get? b = some o := fun b o e ⟨o', q⟩ => by
    have z := st1 b o' q
    rw [e] at z; cases z
    exact st2 b o q
  have nx : ∀ b, b ∉ ([] : List Addr) := fun b hb => nomatch hb
  have slotF : ∀ b ∈ fs, ∀ o, h.get? b = some o → ∃ sl, h2.get? b = some { o with slots := sl } := fun b hb o e => by
    obtain ⟨o', e', hn, hd⟩ := ff b hb
    rw [e] at e'; cases e'
    obtain ⟨sl, q⟩ := U.slot b o e hn hb (nx b)
    obtain ⟨sl2, q2⟩ := up b _ q hd
    exact ⟨sl2, q2⟩
  refine ⟨⟨fun b o e hn hb hx => inB b o (U.keep b o e hn hb hx) (oB b o e hb), fun b o e _ hb _ => slotF b hb o e, U.free, fun b o e hx => ?_, U.tups, U.frzs, U.tbls⟩, fun b u e => ?_⟩
  · by_cases hb : b ∈ fs
    · obtain ⟨sl, q⟩ := slotF b hb o e
      exact ⟨_, q⟩
    · obtain ⟨o', q⟩ := U.there b o e hx
      exact ⟨o', inB b o' q (oB b o e hb)⟩
  · refine (ok b u e).stay (fun c v hc q => inB c v q ?_) (fun c hc => hc) fun c xs hc => hc
    rcases hc with rfl | hc
    · exact tB _ _ e
    · exact tB _ _ hc

section
variable {P : Program} {w : World} {K : PySem.W.Frag} {mg : Str → Option Value} {base : Heap} {N : List Str} {qual : Str} {scope : Scope} {f : Addr} {cd : Value} {A : Around} {outer : List Env} {s0 : Shared} {H0 : Hp} {E : XK}
/-- from a state of the body in which an exception flies: it lies behind the call -/
theorem cxe_of {pins : List (Addr × Obj)} {σ : St} {H1 : Hp} {s1 : Shared} {h2 B : Heap} {e : Addr} {cls a0 : Value} (I : Inv (cxOf (CXE P w) P w K mg base N qual scope f cd A outer s0 H0 E) pins σ H1 s1)
    (tB : ∀ b u, H1 b = some u → ∃ o, B.get? b = some o) (oB : ∀ b o, s0.heap.get? b = some o → b ∉ frs outer → ∃ o', B.get? b = some o') (st1 : ∀ b o, B.get? b = some o → s1.heap.get? b = some o)
    (up : s1.heap.UpToSlots h2) (he : H1 e = none) (fl : Heap.FlyingW B outer e cls a0 h2) (q : E cls none H1) : CXE P w outer H0 s0 E (.ref e) { s1 with heap := h2 } := by
  have ff : ∀ b ∈ frs outer, ∃ o, s0.heap.get? b = some o ∧ H0 b = none ∧ ∀ vs, o.data ≠ .fields vs := fun b hb => by
    have z := Heap.FunFrames.mem I.ok.funs (b := b) hb
    obtain ⟨o, e1, e2⟩ := z.2
    exact ⟨o, e1, I.ok.frf b hb, e2⟩
  obtain ⟨U, ok⟩ := fly_step (h2 := h2) I.base I.hok tB oB st1 fl.1 up ff
  exact ⟨e, cls, a0, B, H1, rfl, I.os, I.bare, U, ok, he, tB, oB, fl, q⟩

/-- an exception of a callee goes on to the caller -/
theorem passE {E' : XK} (h : ∀ c d H', E' c d H' → E c d H') : Passes (CXE P w) (cxOf (CXE P w) P w K mg base N qual scope f cd A outer s0 H0 E) E' := by
  intro pins σ H s e s' I hx
  obtain ⟨a, cls, a0, B, H', rfl, os, bare, U, ok, ha, tB, oB, fl, q⟩ := hx
  have I' : Inv (cxOf (CXE P w) P w K mg base N qual scope f cd A outer s0 H0 E) pins σ H' s' := I.call' (ch := []) os U ok bare fun b hb => nomatch hb
  show wpAny _ _ (leaving _ (.ref a)) _ _ s'
  refine wpAny_leaves_onW I.ok.frames rfl fl fun h2 fl2 up => ?_
  have nin : ∀ b o, s0.heap.get? b = some o → b ∉ frs outer → b ∉ frs (cxOf (CXE P w) P w K mg base N qual scope f cd A outer s0 H0 E).stack := fun b o e1 e2 e3 => by
    rcases List.mem_cons.mp (I.stkSub b e3) with z | z
    · exact absurd (z ▸ Heap.lt_size e1) (Nat.not_lt.mpr I.ok.above)
    · exact e2 z
  refine cxe_of I' tB (fun b o e1 e2 => ?_) fl.1 up ha fl2 (h _ _ _ q)
  obtain ⟨o', e3⟩ := I.base.there b o e1 (fun z => nomatch z)
  exact oB b o' e3 (nin b o e1 e2)

/-- raise C(e, ..) -/
def tRaise (C : Addr) (E : XK) (ta : TA) : TS := fun _ σ H => ta σ H fun vs H1 => vs.length ≤ sizeLine ∧ E (.ref C) none H1
theorem ps_raise {C : Addr} {x : Str} {np cpos pos : Pos} {e : Expr} {es : List Expr} {ta : TA} (q : ExcC K C) (hg : Gl (cxOf (CXE P w) P w K mg base N qual scope f cd A outer s0 H0 E) x) (hm : mg x = some (.ref C))
    (ha : PA (cxOf (CXE P w) P w K mg base N qual scope f cd A outer s0 H0 E) (e :: es) ta) (hdb : (x == ("__debug__" : Str)) = false := by decide)
    (he : starEach (e :: es) (cxOf (CXE P w) P w K mg base N qual scope f cd A outer s0 H0 E).env = (false, eval e (cxOf (CXE P w) P w K mg base N qual scope f cd A outer s0 H0 E).env) :: starEach es (cxOf (CXE P w) P w K mg base N qual scope f cd A outer s0 H0 E).env := by rfl)
    (hpl : (backTo cpos (starEach es (cxOf (CXE P w) P w K mg base N qual scope f cd A outer s0 H0 E).env)).any (·.1) = false := by rfl) :
    PS (cxOf (CXE P w) P w K mg base N qual scope f cd A outer s0 H0 E) (.Raise (some (.Call (.Name x np) (e :: es) [] cpos)) none pos) (tRaise C E ta) := by
  intro pins s σ H D I h
  obtain ⟨bm, Nn, nm, qq, bs, hdct, sn, sub, ab, col, dd, k0, k1, k2, k3, k5, mN, hC, hN, hni, T⟩ := q.obj I.mod.kin
  refine wpAny_Raise_call_subT (nm := nm) (q := qq) (N := Nn) (bs := bs) (bm := bm) (hdct := hdct) (sn := sn) (sub := sub) (ab := ab) (col := col) (dd := dd) (k0 := k0) (k1 := k1) (k2 := k2) (k3 := k3) (k5 := k5)
    PySem.F.excBase_ValueError (mN := mN) (T.hasType PySem.F.excBase_ValueError.hasBase) (I.ok.hd rfl) ?_ hni (ld_glob I hg hm ⟨rfl, ?_⟩ hdb)
  · rw [he]
    show (false || (backTo cpos (starEach es _)).any (·.1)) = false
    rw [hpl]; rfl
  · have hh := ha cpos pins s σ H _ I h
    rw [he] at hh ⊢
    refine Calls.evalArgs_plain (wpAny_mono hh (fun us s1 h1 => ?_) fun _ _ y => y)
    obtain ⟨vs, H1, I1, r1, hl, qE⟩ := h1
    refine ⟨rfl, by rw [← r1.length]; exact hl, I1.bk _ _ hC, hN.keeps I1.bk, T.keeps I1.bk, fun h' e' hx => ?_⟩
    show wpAny _ _ (leaving _ (.ref e')) _ _ { s1 with heap := h' }
    have hin : ∀ env ∈ (cxOf (CXE P w) P w K mg base N qual scope f cd A outer s0 H0 E).stack, ∀ b, env.frame = some b → b ∈ frs (cxOf (CXE P w) P w K mg base N qual scope f cd A outer s0 H0 E).stack := fun env henv b hb => List.mem_filterMap.mpr ⟨env, henv, hb⟩
    have gB : ∀ b o, s1.heap.get? b = some o → b ∉ frs (cxOf (CXE P w) P w K mg base N qual scope f cd A outer s0 H0 E).stack → (PySem.W.hideAll s1.heap (frs (cxOf (CXE P w) P w K mg base N qual scope f cd A outer s0 H0 E).stack)).get? b = some o := fun b o e1 e2 => PySem.W.hideAll_get _ e1 e2
    refine wpAny_leaves_madeW I1.ok.frames rfl (fun b o e1 => PySem.W.of_hideAll _ e1) (PySem.W.funFrames_hide I1.stack hin) hx fun h2 t fl _ _ up => ?_
    have hn : H1 e' = none := by
      cases z : H1 e' with
      | none => rfl
      | some u =>
        obtain ⟨ob, z2⟩ := (I1.hok e' u z).obj
        rw [hx.new] at z2; cases z2
    have tB : ∀ b u, H1 b = some u → ∃ o, (PySem.W.hideAll s1.heap (frs (cxOf (CXE P w) P w K mg base N qual scope f cd A outer s0 H0 E).stack)).get? b = some o := fun b u z => by
      obtain ⟨ob, z2⟩ := (I1.hok b u z).obj
      exact ⟨ob, gB b ob z2 fun z3 => by rw [I1.stkFree b z3] at z; cases z⟩
    have I2 : Inv (cxOf (CXE P w) P w K mg base N qual scope f cd A outer s0 H0 E) pins σ H1 { s1 with heap := h', toks := s1.toks } := I1.kept hx.keeps
    refine cxe_of I2 tB (fun b o e1 e2 => ?_) (fun b o e1 => hx.keeps b o (PySem.W.of_hideAll _ e1)) up hn fl qE
    obtain ⟨o', e3⟩ := I1.base.there b o e1 (fun z => nomatch z)
    refine ⟨o', gB b o' e3 fun z => ?_⟩
    rcases List.mem_cons.mp (I1.stkSub b z) with z | z
    · exact absurd (z ▸ Heap.lt_size e1) (Nat.not_lt.mpr I1.ok.above)
    · exact e2 z
end
end L2

/-! EXTENSION Y: try with one except .. as -/
namespace L2
open PySem PySem.Spec PyProof.Rows

section
variable {X : Cx} {pins : List (Addr × Obj)} {σ : St} {H : Hp} {s : Shared}
/-- a local name goes -/
theorem Inv.gone {ie : Nat} {n : Str} {m : Str → Option Value} {v : Option Value} {h' : Heap} {t' : Nat} (I : Inv X pins σ H s) (hN : X.N.Nodup) (hi : X.N[ie]? = some n)
    (hl : ∀ (i : Nat) (x : Str) (v : V), X.N[i]? = some x → σ[i]? = some (some v) → Vis X.env.scope x → ∃ u, RelV v u ∧ Look X.env s.heap m x u) (hn : h'.Ns X.env.locals (fun x => if x = n then v else m x)) (hs : Heap.SameBut X.env.locals s.heap h') :
    Inv X pins (σ.set ie none) H { s with heap := h', toks := t' } := by
  have neL : ∀ b o, X.s₀.heap.get? b = some o → b ≠ X.env.locals := fun b o e => Nat.ne_of_lt (Nat.lt_of_lt_of_le (Heap.lt_size e) I.ok.above)
  have k : ∀ b o, b ≠ X.env.locals → s.heap.get? b = some o → h'.get? b = some o := fun b o hb e => hs.extBut b o hb e
  refine { ok := I.ok, os := I.os, bare := I.bare, base := ?_, loc := ⟨_, hn, fun i x w hx hσ hv => ?_⟩, cell := fun x c e => ?_, free := I.free, freeC := I.freeC, pin := fun p hp => ?_, hok := fun b u e => ?_, len := by rw [List.length_set]; exact I.len }
  · exact
      { keep := fun b o e h1 h2 h3 => k b o (neL b o e) (I.base.keep b o e h1 h2 h3)
        slot := fun b o e h1 h2 h3 => let ⟨sl, q⟩ := I.base.slot b o e h1 h2 h3; ⟨sl, k b _ (neL b o e) q⟩
        free := I.base.free
        there := fun b o e h1 => let ⟨o', q⟩ := I.base.there b o e h1; ⟨o', k b o' (neL b o e) q⟩
        tups := I.base.tups, frzs := I.base.frzs, tbls := I.base.tbls }
  · by_cases hii : i = ie
    · subst hii
      have hlt : i < σ.length := by
        have := (List.getElem?_eq_some_iff.mp hx).1
        rw [I.len]; exact this
      rw [List.getElem?_set_self hlt] at hσ
      cases hσ
    · rw [List.getElem?_set_ne (Ne.symm hii)] at hσ
      obtain ⟨u, ru, lk⟩ := hl i x w hx hσ hv
      have hxn : x ≠ n := fun e => hii (nodup_ix hN (e ▸ hx) hi)
      refine ⟨u, ru, ?_⟩
      rcases lk with ⟨a1, a2⟩ | ⟨a1, c, a2, a3⟩
      · exact .inl ⟨a1, by show (if x = n then v else m x) = some u; rw [if_neg hxn]; exact a2⟩
      · obtain ⟨o, e1, e2⟩ := a3
        exact .inr ⟨a1, c, a2, o, k c o (I.cne x c a2) e1, e2⟩
  · obtain ⟨w, o, e1, e2⟩ := I.cell x c e
    exact ⟨w, o, k c o (I.cne x c e) e1, e2⟩
  · obtain ⟨a1, a2, a3, a4, a5⟩ := I.pin p hp
    exact ⟨k _ _ a3 a1, a2, a3, a4, a5⟩
  · refine (I.hok b u e).stay (fun c w hc q => k c w ?_ q) (fun c hc => hc) fun c xs hc => hc
    rcases hc with rfl | hc
    · intro z; rw [z, I.free] at e; cases e
    · intro z; rw [z, I.free] at hc; cases hc
end

/-- the exception's object, known by its class -/
def exO (a C : Addr) : HO := .ext fun h => ∃ o vs, h.get? a = some o ∧ o.cls = .ref C ∧ o.data = .fields vs

def Cx.tr (X : Cx) (pn : List (Addr × Obj)) (E : XK) : Cx := { X with pn := pn, xe := fun e s' => ∃ pins σ H s, Inv { X with pn := pn } pins σ H s ∧ CXE X.prog X.w X.stack H s E e s' }
def Cx.hdl (X : Cx) (pn : List (Addr × Obj)) (a : Addr) : Cx := { X with pn := pn, A := X.A.mark (some (.ref a)), calm := false, xe := fun _ _ => False }
theorem Cx.Ok.pns {X : Cx} (ok : X.Ok) (pn : List (Addr × Obj)) : Cx.Ok { X with pn := pn } := ⟨ok.mod, ok.kind, ok.glob, ok.blt, ok.above, ok.inj, ok.has, ok.cab, ok.hd, ok.frames, ok.stk, ok.exf, ok.bs, ok.bsz, ok.noex, ok.exfs, ok.funs, ok.frf⟩
theorem Cx.Ok.trr {X : Cx} (ok : X.Ok) (pn : List (Addr × Obj)) (E : XK) : (X.tr pn E).Ok := ⟨ok.mod, ok.kind, ok.glob, ok.blt, ok.above, ok.inj, ok.has, ok.cab, ok.hd, ok.frames, ok.stk, ok.exf, ok.bs, ok.bsz, ok.noex, ok.exfs, ok.funs, ok.frf⟩
theorem Cx.Ok.hdl {X : Cx} (ok : X.Ok) (pn : List (Addr × Obj)) (a : Addr) : (X.hdl pn a).Ok := ⟨ok.mod, ok.kind, ok.glob, ok.blt, ok.above, ok.inj, ok.has, ok.cab, (fun z => nomatch z), ok.frames, ok.stk, ok.exf, ok.bs, ok.bsz, ok.noex, ok.exfs, ok.funs, ok.frf⟩
section
variable {X : Cx} {pins pn : List (Addr × Obj)} {σ : St} {H : Hp} {s : Shared} {E : XK} {a : Addr}
theorem Inv.toTr (I : Inv X pins σ H s) : Inv (X.tr (X.pn ++ pins) E) [] σ H s :=
  ⟨I.ok.trr _ _, I.os, I.bare, I.base, I.loc, I.cell, I.free, I.freeC, fun p hp => I.pin p (by simpa [Cx.tr] using hp), I.hok, I.len⟩
theorem Inv.ofTr {pins' : List (Addr × Obj)} (ok : X.Ok) (I : Inv (X.tr (X.pn ++ pins) E) pins' σ H s) : Inv X pins σ H s :=
  ⟨ok, I.os, I.bare, I.base, I.loc, I.cell, I.free, I.freeC, fun p hp => I.pin p (List.mem_append_left _ hp), I.hok, I.len⟩
theorem Inv.trPn {pins' : List (Addr × Obj)} (I : Inv (X.tr pn E) pins' σ H s) (ok : X.Ok) : Inv { X with pn := pn } pins' σ H s :=
  ⟨ok.pns pn, I.os, I.bare, I.base, I.loc, I.cell, I.free, I.freeC, I.pin, I.hok, I.len⟩
theorem Inv.toHdl {pins' : List (Addr × Obj)} (ok : X.Ok) (I : Inv { X with pn := pn } pins' σ H s) : Inv (X.hdl pn a) pins' σ H s :=
  ⟨ok.hdl pn a, I.os, I.bare, I.base, I.loc, I.cell, I.free, I.freeC, I.pin, I.hok, I.len⟩
theorem Inv.ofHdl {pins' : List (Addr × Obj)} (ok : X.Ok) (I : Inv (X.hdl (X.pn ++ pins) a) pins' σ H s) : Inv X pins σ H s :=
  ⟨ok, I.os, I.bare, I.base, I.loc, I.cell, I.free, I.freeC, fun p hp => I.pin p (List.mem_append_left _ hp), I.hok, I.len⟩
theorem passT {E' : XK} (ok : ∀ {pins : List (Addr × Obj)} {σ : St} {H : Hp} {s : Shared}, Inv (X.tr pn E) pins σ H s → X.Ok) (h : ∀ c d H', E' c d H' → E c d H') : Passes (CXE X.prog X.w) (X.tr pn E) E' := by
  intro pins σ H s e s' I hx
  obtain ⟨a, cls, a0, B, H', rfl, os, bare, U, hok, ha, tB, oB, fl, q⟩ := hx
  exact ⟨pins, σ, H, s, I.trPn (ok I), a, cls, a0, B, H', rfl, os, bare, U, hok, ha, tB, oB, fl, h _ _ _ q⟩
theorem tr_ok {pins : List (Addr × Obj)} (I : Inv (X.tr pn E) pins σ H s) : X.Ok := ⟨I.ok.mod, I.ok.kind, I.ok.glob, I.ok.blt, I.ok.above, I.ok.inj, I.ok.has, I.ok.cab, I.ok.hd, I.ok.frames, I.ok.stk, I.ok.exf, I.ok.bs, I.ok.bsz, I.ok.noex, I.ok.exfs, I.ok.funs, I.ok.frf⟩
end

/-- e's class C' lies beneath C -/
theorem excMatches_own {K : PySem.W.Frag} {M : Model} {A : Around} {E : Value → Shared → Prop} {s : Shared} {e C C' : Addr} {oe : Obj} {Q : Bool → Shared → Prop} (X : K.In s.heap) (qC : ExcC K C) (he : s.heap.get? e = some oe) (hcls : oe.cls = .ref C')
    (m1 : PySem.W.mroIn K C (.type "BaseException") = some true) (m2 : PySem.W.mroIn K C' (.ref C) = some true) (hq : Q true s) : wpAny M A (excMatches (.ref e) (.ref C)) Q E s := by
  obtain ⟨h, g, d, t, os⟩ := s
  obtain ⟨bm, N, nm, qq, bs, hdct, sn, sub, ab, col, dd, k0, k1, k2, k3, k5, mN, hC, hN, hni, T⟩ := qC.obj X
  have L1 := PySem.W.looks_mroIn (M := M) X m1
  have L2 := PySem.W.looks_mroIn (M := M) X m2
  have f := tc_notTuple
  unfold excMatches
  repeat (first | (with_reducible refine wpAny_loadPart_at he ?_; rw [hcls]) | with_reducible refine wpAny_loadPart_at hC ?_ | with_reducible refine L1.at ?_ | with_reducible refine L2.at ?_ | wp_step)
  exact hq

/-- try: body / except x as n: suite. E: what is known of an exception that leaves the body; behind it the names are forgotten -/
def tTry (K : PySem.W.Frag) (C : Addr) (E : XK) (ie : Nat) (tb ts : TS) : TS := fun D σ H => tb D σ H ∧ ∀ cls d H', E cls d H' → ∃ C', cls = .ref C' ∧ PySem.W.mroIn K C' (.ref C) = some true ∧ ∀ a, H' a = none →
  ts { nx := fun σ2 H2 => D.nx (σ2.set ie none) H2, rt := D.rt, bk := fun σ2 H2 => D.bk (σ2.set ie none) H2, ct := fun σ2 H2 => D.ct (σ2.set ie none) H2 } ((List.replicate σ.length none).set ie (some (.ref a))) (upd H' a (exO a C'))
section
variable {X : Cx} {body : List Stmt} {x n : Str} {np hpos pos : Pos} {b0 : Stmt} {suite : List Stmt} {ie : Nat} {tb ts : TS} {E : XK} {C : Addr}
theorem ps_try (hst : X.stack = X.env :: X.outer) (hfr : X.env.frame = some X.env.locals) (hN : X.N.Nodup) (hi : X.N[ie]? = some n) (hn : X.env.scope.names.lookup n = some .local) (hg : Gl X x) (hm : X.mg x = some (.ref C))
    (qC : ExcC X.K C) (m1 : PySem.W.mroIn X.K C (.type "BaseException") = some true) (hb : ∀ pn, PSs (X.tr pn E) body tb) (hs : ∀ pn a, PSs (X.hdl pn a) (b0 :: suite) ts) (hdb : (x == ("__debug__" : Str)) = false := by decide) :
    PS X (.Try body [.ExceptHandler (some (.Name x np)) (some n) (b0 :: suite) hpos] [] [] pos) (tTry X.K C E ie tb ts) := by
  intro pins s σ H D I h
  obtain ⟨hbody, hexc⟩ := h
  have ok := I.ok
  refine wpAny_Try_except (wpAny_mono (hb (X.pn ++ pins) [] s σ H D I.toTr hbody) (fun f s1 q => ?_) fun e s1 q => ?_)
  · cases f with
    | next => obtain ⟨σ', H', I', q⟩ := q; exact wpAny_execs_nil ⟨σ', H', I'.ofTr ok, q⟩
    | brk => obtain ⟨σ', H', I', q⟩ := q; exact ⟨σ', H', I'.ofTr ok, q⟩
    | cont => obtain ⟨σ', H', I', q⟩ := q; exact ⟨σ', H', I'.ofTr ok, q⟩
    | ret v => obtain ⟨u, σ', H', I', r, q⟩ := q; exact ⟨u, σ', H', I'.ofTr ok, r, q⟩
  · obtain ⟨pins', σ', H', sc, Ic, a, cls, a0, B, H1, rfl, os, bare, U, hok, ha, tB, oB, fl, qE⟩ := q
    obtain ⟨C', rfl, m2, hts⟩ := hexc cls none H1 qE
    have ff : ∀ b ∈ frs X.stack, ∃ o, sc.heap.get? b = some o ∧ H' b = none ∧ ∀ vs, o.data ≠ .fields vs := fun b hb' => by
      have z := Heap.FunFrames.mem Ic.stack (b := b) hb'
      obtain ⟨o, e1, e2⟩ := z.2
      exact ⟨o, e1, Ic.stkFree b hb', e2⟩
    -- the state at any later heap of the flight, the exception tracked
    have mkI : ∀ h2 : Heap, Heap.FlyingW B X.stack a (.ref C') a0 h2 → s1.heap.UpToSlots h2 → Inv (X.hdl (X.pn ++ pins) a) pins' σ' (upd H1 a (exO a C')) { s1 with heap := h2 } := fun h2 fl2 up => by
      obtain ⟨U2, ok2⟩ := fly_step (h2 := h2) U hok tB oB fl.1 fl2.1 up ff
      obtain ⟨oe, vs, e1, e2, e3, _⟩ := fl2.first
      have hnew : ∀ o, sc.heap.get? a ≠ some o := fun o e => by
        by_cases hf : a ∈ frs X.stack
        · obtain ⟨o', e4, hn', hd⟩ := ff a hf
          obtain ⟨sl, e5⟩ := U2.slot a o' e4 hn' hf (fun z => nomatch z)
          rw [e1] at e5; cases e5
          exact hd vs e3
        · obtain ⟨o', e4⟩ := oB a o e hf
          rw [fl2.2.1] at e4; cases e4
      have lt : ∀ {b u}, H1 b = some u → b ≠ a := fun e z => by rw [z, ha] at e; cases e
      have U3 : Un (frs X.stack) [] H' (upd H1 a (exO a C')) sc.heap h2 :=
        { keep := U2.keep, slot := U2.slot
          free := fun b o e q hx => by rw [upd_ne (fun z => hnew o (by rw [← z]; exact e))]; exact U2.free b o e q hx
          there := U2.there
          tups := fun b xs e => by have z := U2.tups b xs e; rw [upd_ne (lt z)]; exact z
          frzs := fun b o u e => by have z := U2.frzs b o u e; rw [upd_ne (lt z)]; exact z
          tbls := fun b ps e => by obtain ⟨more, z⟩ := U2.tbls b ps e; exact ⟨more, by rw [upd_ne (lt z)]; exact z⟩ }
      have ok3 : HOk X.prog X.w (upd H1 a (exO a C')) h2 := fun b u e => by
        by_cases hb' : b = a
        · subst hb'
          rw [upd_same] at e; cases e
          exact ⟨⟨oe, vs, e1, e2, e3⟩, ⟨oe, e1⟩, fun g1 g2 ⟨o, ws, q1, q2, q3⟩ kk => ⟨o, ws, kk o q1, q2, q3⟩⟩
        · rw [upd_ne hb'] at e
          exact (ok2 b u e).stay (fun c v _ q => q) (fun c hc => by rw [upd_ne (lt hc)]; exact hc) fun c xs hc => by rw [upd_ne (lt hc)]; exact hc
      exact (Ic.call' (ch := []) (s' := { s1 with heap := h2 }) os U3 ok3 bare fun b hb' => nomatch hb').toHdl ok
    have fl' := fl
    rw [hst] at fl'
    refine wpAny_looks_onW (hst ▸ ok.frames) hfr fl' fun h4 held up4 => ?_
    refine wpAny_landsW held fun h5 fl5 up5 => ?_
    rw [← hst] at fl5
    have I5 := mkI h5 fl5 (up4.trans up5)
    obtain ⟨ob, hob, hobc⟩ := fl5.there
    refine wpAny_handleBy_cons (codeAny_handlers_test (ld_glob I5 hg hm ?_ hdb)) (by intro q; cases q)
    refine excMatches_own I5.kIn qC hob hobc m1 m2 (codeAny_handlers_suite_as ?_)
    refine lands_againW fl5 fun h6 fl6 up6 => ?_
    have I6 := mkI h6 fl6 ((up4.trans up5).trans up6)
    have I6' : Inv (X.hdl (X.pn ++ pins) a) pins' (List.replicate σ.length none) (upd H1 a (exO a C')) { s1 with heap := h6 } := I6.weak (by rw [List.length_replicate, I.len, I6.len]; rfl) fun i v e => by
      rcases List.getElem?_eq_some_iff.mp e with ⟨hlt, e⟩
      rw [List.getElem_replicate] at e; cases e
    refine store_ok (X := X.hdl (X.pn ++ pins) a) I6' hN hi (.inl hn) (v := .ref a) rfl (fun s7 I7 => ?_) (.inr hn)
    refine wpAny_mono (hs (X.pn ++ pins) a pins' s7 _ _ _ I7 (hts a ha)) (fun f s8 q8 => ?_) fun _ _ z => z.elim
    have fin : ∀ {σ2 : St} {H2 : Hp} {R : Shared → Prop}, Inv (X.hdl (X.pn ++ pins) a) pins' σ2 H2 s8 → (∀ s9, Inv X pins (σ2.set ie none) H2 s9 → R s9) →
        wpAny (model X.prog X.w) X.A (do bindName X.env n .none; unbindBehindTheSuite X.env n hpos) (fun _ s9 => R s9) X.xe s8 := fun {σ2 H2 R} I8 k => by
      have I9 := I8.ofHdl ok
      obtain ⟨m, hm', hl⟩ := I9.loc
      refine wpAny_nameGoes_keeps hn hm' (by rw [ok.kind]; rfl) fun h9 v hn9 hs9 => k _ (I9.gone hN hi hl hn9 hs9)
    cases f with
    | next => obtain ⟨σ2, H2, I8, q⟩ := q8; exact fin I8 fun s9 I9 => ⟨_, H2, I9, q⟩
    | brk => obtain ⟨σ2, H2, I8, q⟩ := q8; exact fin I8 fun s9 I9 => ⟨_, H2, I9, q⟩
    | cont => obtain ⟨σ2, H2, I8, q⟩ := q8; exact fin I8 fun s9 I9 => ⟨_, H2, I9, q⟩
    | ret v => obtain ⟨u, σ2, H2, I8, r, q⟩ := q8; exact fin I8 fun s9 I9 => ⟨u, _, H2, I9, r, q⟩
end
end L2

/-! EXTENSION Z: isinstance of an own exception; count and index of a list of bools -/
namespace L2
open PySem PySem.Spec PySem.Calls PyProof.Rows PySem.W PySem.Builtin.ObjectAttr PySem.Builtin PySem.Builtin.Getset_descriptor
section
variable {prog : Program} {w : World} {A : Around} {E : Value → Shared → Prop} {s : Shared} {K : Frag} {x D : Addr}
/-- the exception's object, whatever its dict -/
def XO (x D : Addr) (h : Heap) : Prop := ∃ o vs, h.get? x = some o ∧ o.cls = .ref D ∧ o.data = .fields vs
theorem XO.ty {M : Model} {h : Heap} (p : XO x D h) : Looks M h (typeOf (.ref x)) (.ref D) := by
  obtain ⟨o, vs, e1, e2, e3⟩ := p
  exact e2 ▸ (Looks.ld e1).andThen .now
theorem exc_find {M : Model} {h : Heap} {name : Str} {a g : Value} (X : K.In h) (ha : findIn K (.ref D) name = some (some a)) (hg : specialIn K a "__get__" = some (some g)) (ht : takesIn K a = some true) :
    Looks M h (find (.ref x) (.ref D) name) (.bind g a) := by
  have l1 := looks_findIn (M := M) X ha
  have l2 : Looks M h (getOf (some a)) (some g) := looks_specialIn X hg
  have l3 := looks_takesIn (M := M) X ht
  exact l1.andThen (l2.andThen ((show Looks M h (dataDescriptor? (some a) (some g)) (some (g, a)) from l3.andThen .now).andThen (Looks.tag .now)))
theorem exc_get {tp : Value} {R : Result → Shared → Prop} (X : K.In s.heap) (p : XO x D s.heap) (hm : mroIn K D (.type "object") = some true) (h : R (.ok (.ret (.ref D))) s) :
    codeAny (model prog w) A (.call (.builtin "getset_descriptor.__get__") ⟨[.builtin "object.__class__", .ref x, tp], []⟩) R s := by
  obtain ⟨hh, g, dr, t, os⟩ := s
  have L0 := p.ty (M := model prog w)
  have L1 := looks_mroIn (M := model prog w) X hm
  refine codeAny_call_builtin KF.slot_gs.plain KF.entry_gs (KF.slot_gs.check _ _ _ _ _ _ _ _ KF.type_class (KF.args_gs _ _ _) ?_)
  unfold Builtin.«getset_descriptor.__get__» descrGet
  rw [dga_obj]; refine wpAny_bind (wpAny_pure ?_)
  unfold descrGetter descrCheckInstance descrNameAndClass isInstance; simp only [KF.owner_class]
  repeat lk
  refine ⟨Code.quiet_builtin _ (by decide +kernel), codeAny_builtin KF.entry_class ?_⟩
  unfold Builtin.«object.__class__» shownTypeOf
  repeat lk
  exact h
theorem exc_check {nameV : Value} {Q : Unit → Shared → Prop} (X : K.In s.heap) (p : XO x D s.heap) (hmB : mroIn K D (.type "BaseException") = some true) (hq : Q () s) :
    wpAny (model prog w) A (checkBuiltinCall "BaseException.__getattribute__" ⟨[.ref x, nameV], []⟩) Q E s := by
  obtain ⟨hh, g, dr, t, os⟩ := s
  have hk : builtinKind "BaseException.__getattribute__" = some .slot := by decide +kernel
  have hsplit : splitId "BaseException.__getattribute__" = some ("BaseException", "__getattribute__") := by decide +kernel
  have L0 := p.ty (M := model prog w)
  have L1 := looks_mroIn (M := model prog w) X hmB
  have ha := F.args_bexc_ga (.ref x) nameV
  simp only [checkBuiltinCall, hk, hsplit]
  refine wpAny_bind ?_
  unfold isInstance
  repeat (any_goals (first | assumption | lk))
theorem exc_body {tk : Tok} {Q : Fin → Shared → Prop} (X : K.In s.heap) (p : XO x D s.heap) (ha : findIn K (.ref D) "__class__" = some (some (.builtin "object.__class__"))) (hg : specialIn K (.builtin "object.__class__") "__get__" = some (some (.builtin "getset_descriptor.__get__")))
    (ht : takesIn K (.builtin "object.__class__") = some true) (hm : mroIn K D (.type "object") = some true) (hq : Q (.done (.ret (.ref D))) s) :
    wpAny (model prog w) A (Builtin.«object.__getattribute__» ⟨[.ref x, .str "__class__" tk], []⟩) Q E s := by
  obtain ⟨hh, g, dr, t, os⟩ := s
  have L0 := p.ty (M := model prog w)
  have L1 := exc_find (M := model prog w) (x := x) X ha hg ht
  repeat (any_goals (first | assumption | with_reducible refine L0.at ?_ | with_reducible refine L1.at ?_ | wp_step))
  exact exc_get X p hm (wpAny_pure hq)
theorem exc_open {Q : Option Value → Shared → Prop} (X : K.In s.heap) (p : XO x D s.heap) (hga : findIn K (.ref D) "__getattribute__" = some (some (.builtin "BaseException.__getattribute__"))) (hgt : findIn K (.ref D) "__getattr__" = some none)
    (hmB : mroIn K D (.type "BaseException") = some true) (ha : findIn K (.ref D) "__class__" = some (some (.builtin "object.__class__"))) (hg : specialIn K (.builtin "object.__class__") "__get__" = some (some (.builtin "getset_descriptor.__get__")))
    (ht : takesIn K (.builtin "object.__class__") = some true) (hm : mroIn K D (.type "object") = some true) (k : Q (some (.ref D)) { s with toks := s.toks + 1 }) : wpAny (model prog w) A (getAttr? (.ref x) "__class__") Q E s := by
  obtain ⟨hh, g, dr, t, os⟩ := s
  have L0 := p.ty (M := model prog w)
  have L1 := looks_findIn (M := model prog w) X hga
  have L2 := looks_findIn (M := model prog w) X hgt
  have f3 := PySem.F.excAttr_ValueError.ga.bind (.ref x)
  have hx0 : (false && onTheHeap (Value.builtin "BaseException.__getattribute__")) = false := rfl
  have hx2 : (Value.builtin "BaseException.__getattribute__" == Value.builtin "object.__getattribute__") = false := by decide +kernel
  have hx1 : (onTheHeap (Value.ref D) && Value.builtin "BaseException.__getattribute__" == Value.builtin "object.__getattribute__") = false := by rw [hx2]; rfl
  unfold getAttr? getAttrBy?
  repeat (any_goals (first | assumption | with_reducible refine L0.at ?_ | with_reducible refine L1.at ?_ | with_reducible refine L2.at ?_ | wp_step))
  refine codeAny_call_builtin PySem.F.excAttr_ValueError.ga.plain F.entry_bexc_ga (exc_check X p hmB (exc_body X p ha hg ht hm ?_))
  exact handed_on rfl (wpAny_pure k)
/-- an own error class, as isinstance asks it -/
structure ExcI (K : Frag) (D : Addr) : Prop where
  ga : findIn K (.ref D) "__getattribute__" = some (some (.builtin "BaseException.__getattribute__"))
  gt : findIn K (.ref D) "__getattr__" = some none
  mB : mroIn K D (.type "BaseException") = some true
  hd : hasDictIn K D = true
  ha : findIn K (.ref D) "__class__" = some (some (.builtin "object.__class__"))
  hn : specialIn K (.builtin "object.__class__") "__get__" = some (some (.builtin "getset_descriptor.__get__"))
  tk : takesIn K (.builtin "object.__class__") = some true
  hm : mroIn K D (.type "object") = some true
theorem kitx_exc (q : ExcI K D) : KitX K (.ref x) (.ref D) (XO x D) where
  ty := fun _ _ _ p => p.ty
  it := fun _ _ X _ => by
    obtain ⟨cdD, hcD, _⟩ := any_some q.hd
    unfold clsIn at hcD
    split at hcD
    · rename_i c' d' cd' sl' ho
      intro A' Q' E' s' k z
      unfold isType loadHead
      exact wpAny_bind (wpAny_loadPart (k _ _ (X _ _ ho)) (wpAny_pure z))
    · cases hcD
  ne := fun h tp dd its n sl X htp => by
    obtain ⟨cdD, hcD, _⟩ := any_some q.hd
    refine Bool.eq_false_iff.mpr fun z => ?_
    have e : D = tp := Value.ref.inj (beq_iff_eq.mp z)
    subst e
    unfold clsIn at hcD
    split at hcD
    · rename_i c' d' cd' sl' ho
      have z2 := (X _ _ ho).symm.trans htp
      cases z2
    · cases hcD
  ca := fun {prog w A E Q s} X p k => exc_open X p q.ga q.gt q.mB q.ha q.hn q.tk q.hm k
end
def vC : V → Option Value
  | .ref a => some (.ref a)
  | .ty T => some (.type T)
  | _ => none
def rIsiE (K : PySem.W.Frag) : List V → Hp → VK → Prop := fun xs H Q => ∃ a C y c b, xs = [.ref a, y] ∧ vC y = some c ∧ H a = some (exO a C) ∧ ExcI K C ∧ PySem.W.kitOne K (.ref C) c = some b ∧ Q (.bl b) H
theorem call_isiE (K : PySem.W.Frag) {X : Cx} (e : X.K = K := by rfl) : CallR X (.builtin "isinstance") (rIsiE K) := by
  subst e
  intro pins s σ H xs us Q I r h
  obtain ⟨a, C, y, c, b, rfl, ey, ea, q, e, qq⟩ := h
  obtain ⟨u, w', rfl, ru, rw'⟩ := vals2 r
  cases (show u = Value.ref a from ru)
  obtain ⟨p, _⟩ := (show ObjOk X.prog X.w H s.heap a (.ext fun h => ∃ o vs, h.get? a = some o ∧ o.cls = .ref C ∧ o.data = .fields vs) from I.hok a _ ea)
  have ew : w' = c := by
    cases y with
    | ref d => cases ey; exact rw'
    | ty T => cases ey; exact rw'
    | non => cases ey
    | bl _ => cases ey
    | int _ => cases ey
    | str _ => cases ey
    | byt _ => cases ey
    | flt _ => cases ey
  subst ew
  exact PySem.W.kia_one (kitx_exc q) I.kIn p e (fun z => nomatch z) fun tk => ⟨.bl b, H, I.tok _, rfl, qq⟩

/-! ### count and index -/
def isBl (k : Bool) : Value → Bool
  | .bool b => b == k
  | _ => false
theorem vals_bools {bs : List Bool} {us : List Value} (r : Vals (bs.map V.bl) us) : us = bs.map Value.bool := by
  induction bs generalizing us with
  | nil => cases r; rfl
  | cons b q ih =>
    cases r with
    | cons h t => rw [ih t, show _ = Value.bool b from h]; rfl
def rCount (K : PySem.W.Frag) : V → List V → Hp → VK → Prop := fun x xs H Q => ∃ (a : Addr) (bs : List Bool) (k : Bool), x = .ref a ∧ xs = [.bl k] ∧ SqL K H a (bs.map V.bl) ∧ Q (.int (bs.countP (· == k) : Nat)) H
def rIndex (K : PySem.W.Frag) : V → List V → Hp → VK → Prop := fun x xs H Q => ∃ (a : Addr) (bs : List Bool) (k : Bool) (j : Nat), x = .ref a ∧ xs = [.bl k] ∧ SqL K H a (bs.map V.bl) ∧ bs[j]? = some k ∧ (∀ m, m < j → bs[m]? ≠ some k) ∧ j < 1000 ∧ Q (.int (j : Nat)) H
theorem eq_bl {A : Around} {s : Shared} (k : Bool) {bs : List Bool} (y : Value) (hy : y ∈ (bs.map Value.bool).toArray) : SeqAt.EqAt A s y (.bool k) (isBl k y) := by
  have hy' : y ∈ bs.map Value.bool := by simpa using hy
  obtain ⟨b, _, rfl⟩ := List.mem_map.mp hy'
  exact SeqAt.EqAt.bool_bool b k
theorem count_bl (k : Bool) : ∀ bs : List Bool, (bs.map Value.bool).countP (isBl k) = bs.countP (· == k)
  | [] => rfl
  | b :: q => by rw [List.map_cons, List.countP_cons, List.countP_cons, count_bl k q]; rfl
section
variable {X : Cx}
theorem mt_count (K : PySem.W.Frag) {X : Cx} (e : X.K = K := by rfl) : MtR X "list.count" (rCount K) := by
  subst e
  intro pins s σ H x xs v us Q I rx rxs h
  obtain ⟨a, bs, k, rfl, rfl, hS, q⟩ := h
  cases (show v = Value.ref a from rx)
  obtain ⟨u, rfl, ru⟩ := vals1 rxs
  cases (show u = Value.bool k from ru)
  obtain ⟨its, r, pl, _⟩ := I.list hS
  have hi := vals_bools r
  subst hi
  obtain ⟨⟨cls, dd, data, sl⟩, ho, hc, n, hd⟩ := pl.isList
  simp only at hc hd
  subst hc hd
  refine call_meets PySem.F.slot_list_count ⟨_, ho, rfl⟩ PySem.F.entry_list_count (PySem.F.args_list_count_2 _ _) (SeqAt.list_countAt a (bs.map Value.bool).toArray n dd sl (.bool k) (isBl k)) ⟨ho, fun y hy => eq_bl k y hy, ?_⟩
  rw [show (bs.map Value.bool).toArray.toList = bs.map Value.bool from rfl, count_bl]
  exact ⟨.int (bs.countP (· == k) : Nat), H, I.tok _, ⟨_, rfl⟩, q⟩
theorem mt_index (K : PySem.W.Frag) {X : Cx} (e : X.K = K := by rfl) : MtR X "list.index" (rIndex K) := by
  subst e
  intro pins s σ H x xs v us Q I rx rxs h
  obtain ⟨a, bs, k, j, rfl, rfl, hS, hj, hno, hsm, q⟩ := h
  cases (show v = Value.ref a from rx)
  obtain ⟨u, rfl, ru⟩ := vals1 rxs
  cases (show u = Value.bool k from ru)
  obtain ⟨its, r, pl, _⟩ := I.list hS
  have hi := vals_bools r
  subst hi
  obtain ⟨⟨cls, dd, data, sl⟩, ho, hc, n, hd⟩ := pl.isList
  simp only at hc hd
  subst hc hd
  obtain ⟨hl, hjv⟩ := List.getElem?_eq_some_iff.mp hj
  have hsz : (bs.map Value.bool).toArray.size = bs.length := by simp
  refine call_meets PySem.F.slot_list_index ⟨_, ho, rfl⟩ PySem.F.entry_list_index (PySem.F.args_list_index_2 _ _) (SeqAt.list_indexAt a (bs.map Value.bool).toArray n dd sl (.bool k) (isBl k) j (by rw [hsz]; exact hl) (by (first | lia | omega)) ?_ ?_) ⟨ho, fun y hy => eq_bl k y hy, ?_⟩
  · simp [isBl, hjv]
  · intro m hm hmj
    have hm' : m < bs.length := by rw [hsz] at hm; exact hm
    have := hno m hmj
    simp [isBl]
    intro z
    exact this (by rw [List.getElem?_eq_getElem hm', z])
  · exact ⟨.int (j : Nat), H, I.tok _, ⟨_, rfl⟩, q⟩
end
end L2

/-! EXTENSION Q: the five error classes of the package, as the fragment holds them -/
namespace L2
open PySem PySem.Spec PyProof.Rows PySem.W
def clsA (K : Frag) (x : Str) : Addr := match nsIn K mainGlobals x with
  | some (some (.ref a)) => a
  | _ => 0
def kidN : List Str := ["BadRule", "BadFolding", "NoSuch", "NoText"]
def hasC (K : Frag) (x : Str) : Bool := match nsIn K mainGlobals x with
  | some (some (.ref _)) => true
  | _ => false
def errB (K : Frag) : Bool :=
  ((("RuleError" : Str) :: kidN).all fun x => hasC K x && excIn K (clsA K x) bmVE "ValueError.__new__") && (mroIn K (clsA K "RuleError") (.type "BaseException") == some true) &&
  (kidN.all fun x => (findIn K (.ref (clsA K x)) "__getattribute__" == some (some (.builtin "BaseException.__getattribute__"))) && (findIn K (.ref (clsA K x)) "__getattr__" == some none) && (mroIn K (clsA K x) (.type "BaseException") == some true) && hasDictIn K (clsA K x) && (findIn K (.ref (clsA K x)) "__class__" == some (some (.builtin "object.__class__"))) && (mroIn K (clsA K x) (.type "object") == some true) &&
    (mroIn K (clsA K x) (.ref (clsA K "RuleError")) == some true) && (kitOne K (.ref (clsA K x)) (.ref (clsA K "RuleError")) == some true) && (kitOne K (.ref (clsA K x)) (.type "ValueError") == some true) &&
    kidN.all fun y => kitOne K (.ref (clsA K x)) (.ref (clsA K y)) == some (decide (x = y))) &&
  (specialIn K (.builtin "object.__class__") "__get__" == some (some (.builtin "getset_descriptor.__get__"))) && (takesIn K (.builtin "object.__class__") == some true)
structure Errs (K : Frag) (mg : Str → Option Value) : Prop where
  m : ∀ x ∈ ("RuleError" : Str) :: kidN, mg x = some (.ref (clsA K x))
  q : ∀ x ∈ ("RuleError" : Str) :: kidN, ExcC K (clsA K x)
  b : mroIn K (clsA K "RuleError") (.type "BaseException") = some true
  i : ∀ x ∈ kidN, ExcI K (clsA K x)
  r : ∀ x ∈ kidN, mroIn K (clsA K x) (.ref (clsA K "RuleError")) = some true
  kR : ∀ x ∈ kidN, kitOne K (.ref (clsA K x)) (.ref (clsA K "RuleError")) = some true
  kV : ∀ x ∈ kidN, kitOne K (.ref (clsA K x)) (.type "ValueError") = some true
  k : ∀ x ∈ kidN, ∀ y ∈ kidN, kitOne K (.ref (clsA K x)) (.ref (clsA K y)) = some (decide (x = y))
theorem errs_of {K : Frag} {h : Heap} {mg : Str → Option Value} (X : K.In h) (G : h.Ns mainGlobals mg) (e : errB K = true) : Errs K mg := by
  unfold errB at e
  simp only [Bool.and_eq_true, List.all_eq_true, beq_iff_eq] at e
  obtain ⟨⟨⟨⟨e1, e2⟩, e3⟩, e4⟩, e5⟩ := e
  refine ⟨fun x hx => ?_, fun x hx => (e1 x hx).2, e2, fun x hx => ?_, fun x hx => ?_, fun x hx => ?_, fun x hx => ?_, fun x hx y hy => ?_⟩
  · have h1 := (e1 x hx).1
    unfold hasC at h1
    unfold clsA
    split at h1
    · rename_i a ha
      exact mg_of X G ha
    · cases h1
  · obtain ⟨⟨⟨⟨⟨⟨⟨⟨⟨a1, b1⟩, c1⟩, a2⟩, a3⟩, a4⟩, a5⟩, a6⟩, a7⟩, a8⟩ := e3 x hx
    exact ⟨a1, b1, c1, a2, a3, e4, e5, a4⟩
  · exact (e3 x hx).1.1.1.2
  · exact (e3 x hx).1.1.2
  · exact (e3 x hx).1.2
  · exact (e3 x hx).2 y hy
theorem PS.nox {X : Cx} {st : Stmt} {t : TS} (h : PS X.nox st t) : PS X st t := fun pins s σ H D I hw =>
  wpAny_mono (h pins s σ H D (I.wish _) hw) (fun _ _ q => q.unwish) fun _ _ z => False.elim z
end L2

/-! EXTENSION F: a text with one number in it; a loop in which something may be raised -/
namespace L2
open PySem PySem.Spec PyProof.Rows
def tAnyStr : TE := fun _ H Q => ∀ y, Q (.str y) H
def fstrOk (ps : List Str) (i : Int) : Bool := decide (i.natAbs.log2 < 1920) && ((ps.map Str.length).sum + (toString i : Str).length ≤ 100000 : Bool)
section
variable {X : Cx} {e1 v e3 : Expr} {a b : Str} {i : Int} {p pos : Pos}
/-- a part that is a constant text -/
theorem jp_str {e : Expr} {a out : Str} {rest : List (Sem Value)} {pins : List (Addr × Obj)} {s : Shared} {σ : St} {H : Hp} {Q : Value → Shared → Prop} (h1 : PE X e (tC (.str a))) (I : Inv X pins σ H s) (hl : (out ++ a).length ≤ sizeLine)
    (h : ∀ s1, Inv X pins σ H s1 → wpAny (model X.prog X.w) X.A (joinParts (out ++ a) rest) Q X.xe s1) : wpAny (model X.prog X.w) X.A (joinParts out (eval e X.env :: rest)) Q X.xe s := by
  refine joinParts_cons (thn (h1 pins s σ H (fun y H' => y = .str a ∧ H' = H) I ⟨rfl, rfl⟩) fun u s1 ⟨x, H1, I1, r1, q1, q2⟩ => ?_)
  subst q1 q2
  obtain ⟨t, rfl⟩ := (show ∃ t, u = Value.str a t from r1)
  exact ⟨hl, h s1 I1⟩
theorem jp_int {e : Expr} {i : Int} {out : Str} {rest : List (Sem Value)} {p : Pos} {pins : List (Addr × Obj)} {s : Shared} {σ : St} {H : Hp} {Q : Value → Shared → Prop} (h1 : PE X e (tC (.int i))) (I : Inv X pins σ H s) (hi : i.natAbs.log2 < 1920) (hl : (out ++ (toString i : Str)).length ≤ sizeLine)
    (h : ∀ s1, Inv X pins σ H s1 → wpAny (model X.prog X.w) X.A (joinParts (out ++ (toString i : Str)) rest) Q X.xe s1) : wpAny (model X.prog X.w) X.A (joinParts out (eval (.FormattedValue e (-1) none p) X.env :: rest)) Q X.xe s := by
  refine joinParts_cons (FormattedValue_plain (thn (h1 pins s σ H (fun y H' => y = .int i ∧ H' = H) I ⟨rfl, rfl⟩) fun u s1 ⟨x, H1, I1, r1, q1, q2⟩ => ?_))
  subst q1 q2
  obtain ⟨t, rfl⟩ := (show ∃ t, u = Value.int i t from r1)
  exact formatField_int_small hi ⟨hl, h _ (I1.tok _)⟩
theorem fstr_len {out a : Str} {n m : Nat} (h1 : out.length ≤ n) (h2 : n + a.length ≤ m) : (out ++ a).length ≤ m := by rw [strLen_append]; (first | lia | omega)
theorem pe_fstr3 (h1 : PE X e1 (tC (.str a))) (hv : PE X v (tC (.int i))) (h3 : PE X e3 (tC (.str b))) (hok : fstrOk [a, b] i = true := by decide +kernel)
    (he : evalEach [e3] X.env = [eval e3 X.env] := by rfl) : PE X (.JoinedStr [e1, .FormattedValue v (-1) none p, e3] pos) tAnyStr := by
  intro pins s σ H Q I h
  simp only [fstrOk, Bool.and_eq_true, decide_eq_true_eq, List.map_cons, List.map_nil, List.sum_cons, List.sum_nil] at hok
  obtain ⟨hi, hl⟩ := hok
  have big : 100000 ≤ sizeLine := by rw [sizeLine_eq]; decide
  have l0 : (Str.empty ++ a).length ≤ a.length := by rw [strLen_append]; exact Nat.le_of_eq (Nat.zero_add _)
  refine JoinedStr_many ?_
  rw [he]
  refine jp_str h1 I (by (first | lia | omega)) fun s1 I1 => jp_int hv I1 hi (fstr_len l0 (by (first | lia | omega))) fun s2 I2 => jp_str h3 I2 (fstr_len (n := a.length + (toString i : Str).length) (fstr_len l0 (Nat.le_refl _)) (by (first | lia | omega))) fun s3 I3 => joinParts_nil ⟨.str _, H, I3.tok _, ⟨_, rfl⟩, h _⟩ (fstr_len (n := a.length + (toString i : Str).length) (fstr_len l0 (Nat.le_refl _)) (by (first | lia | omega)))
theorem pe_fstr2 (h1 : PE X e1 (tC (.str a))) (hv : PE X v (tC (.int i))) (hok : fstrOk [a] i = true := by decide +kernel)
    (he : evalEach [] X.env = [] := by rfl) : PE X (.JoinedStr [e1, .FormattedValue v (-1) none p] pos) tAnyStr := by
  intro pins s σ H Q I h
  simp only [fstrOk, Bool.and_eq_true, decide_eq_true_eq, List.map_cons, List.map_nil, List.sum_cons, List.sum_nil] at hok
  obtain ⟨hi, hl⟩ := hok
  have big : 100000 ≤ sizeLine := by rw [sizeLine_eq]; decide
  have l0 : (Str.empty ++ a).length ≤ a.length := by rw [strLen_append]; exact Nat.le_of_eq (Nat.zero_add _)
  refine JoinedStr_many ?_
  rw [he]
  refine jp_str h1 I (by (first | lia | omega)) fun s1 I1 => jp_int hv I1 hi (fstr_len l0 (by (first | lia | omega))) fun s2 I2 => joinParts_nil ⟨.str _, H, I2.tok _, ⟨_, rfl⟩, h _⟩ (fstr_len l0 (by (first | lia | omega)))
end
end L2

/-! EXTENSION S: sets of ints: made of a list, walked through -/
namespace L2
open PySem PySem.Spec PyProof.Rows

/-! ### the table -/
def LtAll (l : List Nat) : Prop := l.Pairwise (· < ·)
theorem ltAll_get {l : List Nat} (h : LtAll l) {i j x y : Nat} (hij : i < j) (hx : l[i]? = some x) (hy : l[j]? = some y) : x < y := by
  obtain ⟨hi, rfl⟩ := List.getElem?_eq_some_iff.mp hx
  obtain ⟨hj, rfl⟩ := List.getElem?_eq_some_iff.mp hy
  exact List.pairwise_iff_getElem.mp h i j hi hj hij
/-- so many lie below j -/
structure Below (l : List Nat) (j p : Nat) : Prop where
  le : p ≤ l.length
  lo : ∀ i x, i < p → l[i]? = some x → x < j
  hi : ∀ i x, p ≤ i → l[i]? = some x → j ≤ x
theorem below_go {xs : Array Nat} {j : Nat} (h : LtAll xs.toList) : ∀ (fuel lo hi : Nat), hi ≤ xs.size → lo ≤ hi → hi - lo ≤ fuel → (∀ i x, i < lo → xs.toList[i]? = some x → x < j) → (∀ i x, hi ≤ i → xs.toList[i]? = some x → j ≤ x) →
    Below xs.toList j (SetTable.below.go xs j fuel lo hi) := by
  intro fuel
  induction fuel with
  | zero =>
    intro lo hi h1 h2 h3 h4 h5
    have e : lo = hi := by (first | lia | omega)
    subst e
    rw [SetTable.below.go]
    exact ⟨by simpa using h1, h4, h5⟩
  | succ n ih =>
    intro lo hi h1 h2 h3 h4 h5
    rw [SetTable.below.go]
    by_cases hlt : lo < hi
    · rw [if_pos hlt]
      have hm : (lo + hi) / 2 < xs.size := by (first | lia | omega)
      have eg : xs.getD ((lo + hi) / 2) j = xs[(lo + hi) / 2] := by simp [Array.getD, hm]
      have eq : xs.toList[(lo + hi) / 2]? = some xs[(lo + hi) / 2] := by rw [Array.getElem?_toList]; exact Array.getElem?_eq_getElem hm
      dsimp only
      rw [eg]
      by_cases hb : xs[(lo + hi) / 2] < j
      · rw [if_pos hb]
        refine ih _ _ h1 (by (first | lia | omega)) (by (first | lia | omega)) (fun i x hi' hx => ?_) h5
        rcases Nat.lt_or_ge i ((lo + hi) / 2) with h6 | h6
        · exact Nat.lt_trans (ltAll_get h h6 hx eq) hb
        · have : i = (lo + hi) / 2 := by (first | lia | omega)
          subst this
          rw [eq] at hx; cases hx; exact hb
      · rw [if_neg hb]
        refine ih _ _ (by (first | lia | omega)) (by (first | lia | omega)) (by (first | lia | omega)) h4 fun i x hi' hx => ?_
        rcases Nat.lt_or_ge ((lo + hi) / 2) i with h6 | h6
        · exact Nat.le_trans (Nat.le_of_not_lt hb) (Nat.le_of_lt (ltAll_get h h6 eq hx))
        · have : i = (lo + hi) / 2 := by (first | lia | omega)
          subst this
          rw [eq] at hx; cases hx; (first | lia | omega)
    · rw [if_neg hlt]
      have e : lo = hi := by (first | lia | omega)
      subst e
      exact ⟨by simpa using h1, h4, h5⟩
theorem below_ok {xs : Array Nat} {j : Nat} (h : LtAll xs.toList) : Below xs.toList j (SetTable.below xs j) :=
  below_go h _ _ _ (Nat.le_refl _) (Nat.zero_le _) (by (first | lia | omega)) (fun i x hi => absurd hi (Nat.not_lt_zero _)) fun i x hi hx => by
    have := (List.getElem?_eq_some_iff.mp hx).1
    rw [Array.length_toList] at this; (first | lia | omega)
theorem ltAll_insert {xs : Array Nat} {j : Nat} (h : LtAll xs.toList) (hj : xs[SetTable.below xs j]? ≠ some j) : LtAll (SetTable.insertAt xs (SetTable.below xs j) j).toList := by
  rw [SetTable.toList_insertAt]
  have B := below_ok (j := j) h
  generalize SetTable.below xs j = p at *
  have e : xs.toList = xs.toList.take p ++ xs.toList.drop p := (List.take_append_drop _ _).symm
  unfold LtAll at h ⊢
  rw [e] at h
  obtain ⟨h1, h2, h3⟩ := List.pairwise_append.mp h
  have up : ∀ y ∈ xs.toList.drop p, j < y := fun y hy => by
    obtain ⟨i, hi⟩ := List.getElem?_of_mem hy
    rw [List.getElem?_drop] at hi
    have h4 := B.hi (p + i) y (by (first | lia | omega)) hi
    rcases Nat.lt_or_eq_of_le h4 with h5 | h5
    · exact h5
    · subst h5
      exfalso
      match i with
      | 0 => exact hj (by rw [← Array.getElem?_toList]; exact hi)
      | i + 1 =>
        obtain ⟨hlt, _⟩ := List.getElem?_eq_some_iff.mp hi
        have h6 : xs.toList[p]? = some (xs.toList[p]'(by (first | lia | omega))) := List.getElem?_eq_getElem _
        have h7 := B.hi p _ (Nat.le_refl _) h6
        have h8 := List.pairwise_iff_getElem.mp (e ▸ List.pairwise_append.mpr ⟨h1, h2, h3⟩ : xs.toList.Pairwise (· < ·)) p (p + (i + 1)) (by (first | lia | omega)) hlt (by (first | lia | omega))
        have h9 := (List.getElem?_eq_some_iff.mp hi).2
        (first | lia | omega)
  have dn : ∀ y ∈ xs.toList.take p, y < j := fun y hy => by
    obtain ⟨i, hi⟩ := List.getElem?_of_mem hy
    have hlt := (List.getElem?_eq_some_iff.mp hi).1
    rw [List.length_take] at hlt
    rw [List.getElem?_take_of_lt (by (first | lia | omega))] at hi
    exact B.lo i y (by (first | lia | omega)) hi
  refine List.pairwise_append.mpr ⟨h1, List.pairwise_cons.mpr ⟨fun y hy => up y hy, h2⟩, fun y hy z hz => ?_⟩
  rcases List.mem_cons.mp hz with rfl | hz
  · exact dn y hy
  · exact h3 y hy z hz
/-- the table's places rise, none was given up -/
structure TabOk (t : SetTable) : Prop where
  no : t.dummies = #[]
  up : LtAll t.place.toList
theorem ltAll_range (n : Nat) : LtAll (List.range n) := List.pairwise_lt_range
theorem TabOk.standIn (t : SetTable) (n : Nat) : TabOk (t.standIn n) := ⟨rfl, by
  show LtAll (Array.range n).toList
  rw [Array.toList_range]; exact ltAll_range n⟩
theorem probe_go {t : SetTable} (k : TabOk t) {f : Nat → Int} {h : Int} (hf : ∀ i, f i ≠ h) : ∀ (fuel : Nat) (p : SetTable.Probe), p.dummy = none → ∀ m, SetTable.probe.go t f h fuel p = some m → ∃ j, m = .empty j none ∧ t.slot j = .empty := by
  intro fuel
  induction fuel with
  | zero => intro p _ m e; cases e
  | succ n ih =>
    intro p hp m e
    rw [SetTable.probe.go] at e
    have adv : (t.advance p).dummy = none := by
      unfold SetTable.advance
      split <;> exact hp
    cases hs : t.slot p.j with
    | empty =>
      rw [hs] at e
      cases e
      exact ⟨p.j, by rw [hp], hs⟩
    | dummy =>
      exfalso
      unfold SetTable.slot at hs
      dsimp only at hs
      split at hs
      · cases hs
      · split at hs
        · rename_i hh
          rw [k.no] at hh
          simp [SetTable.has] at hh
        · cases hs
    | live i =>
      rw [hs] at e
      dsimp only at e
      rw [if_neg (by simpa using hf i)] at e
      exact ih _ adv m e
theorem freeSlot_ok {t : SetTable} (k : TabOk t) {h : Int} {slot : Nat} {wd : Bool} (e : t.freeSlot h = some (slot, wd)) : t.slot slot = .empty := by
  unfold SetTable.freeSlot at e
  split at e
  · rename_i j d hp
    obtain ⟨j', e1, e2⟩ := probe_go k (f := fun _ => h + 1) (h := h) (fun i => by (first | lia | omega)) _ (t.probeStart h) rfl _ hp
    cases e1
    simp at e
    rw [← e.1]; exact e2
  · cases e
theorem slot_empty {t : SetTable} {j : Nat} (h : t.slot j = .empty) : t.place[SetTable.below t.place j]? ≠ some j := fun z => by
  unfold SetTable.slot at h
  dsimp only at h
  rw [if_pos (by simpa using z)] at h
  cases h
theorem TabOk.put {t : SetTable} (k : TabOk t) {j : Nat} (h : t.slot j = .empty) : TabOk (t.put j).1 := by
  refine ⟨?_, ltAll_insert k.up (slot_empty h)⟩
  show (if SetTable.has t.dummies j then _ else t.dummies) = #[]
  rw [k.no]
  simp [SetTable.has]
theorem TabOk.orStandIn {t : SetTable} (k : TabOk t) (n : Nat) : TabOk (t.orStandIn n) := by
  unfold SetTable.orStandIn
  split
  · exact k
  · exact TabOk.standIn t n
theorem led_orStandIn (t : SetTable) (n : Nat) : (t.orStandIn n).led = t.led := by
  unfold SetTable.orStandIn
  split <;> rfl
theorem TabOk.layNew {t : SetTable} (k : TabOk t) (es : Array (Int × Value)) (h : Int) (x : Value) : TabOk (layNew t es h x).2.1 ∧ (layNew t es h x).2.1.led = t.led := by
  unfold PySem.layNew
  split
  · rename_i slot wd e
    exact ⟨(k.put (freeSlot_ok k e)).orStandIn _, led_orStandIn _ _⟩
  · exact ⟨TabOk.standIn _ _, rfl⟩
theorem laid_ok {mask finger moves : Nat} {led plain : Bool} {hs : Array Int} {t : SetTable} {o : Array Nat} (e : SetTable.laid mask finger moves led plain hs = some (t, o)) : TabOk t ∧ t.led = led := by
  unfold SetTable.laid at e
  simp only [Option.bind_eq_bind, Option.pure_def, Option.bind_eq_some_iff, Option.some.injEq, Prod.mk.injEq] at e
  obtain ⟨owner, _, e1, _⟩ := e
  subst e1
  refine ⟨⟨rfl, ?_⟩, rfl⟩
  show LtAll (List.map _ _)
  unfold LtAll
  rw [List.pairwise_map]
  refine List.Pairwise.filterMap _ (fun a a' h b hb b' hb' => ?_) (ltAll_range (mask + 1))
  obtain ⟨_, _, rfl⟩ := Option.map_eq_some_iff.mp hb
  obtain ⟨_, _, rfl⟩ := Option.map_eq_some_iff.mp hb'
  exact h
theorem TabOk.relayAll {t : SetTable} (es : Array (Int × Value)) (n : Nat) : TabOk (relayAll t es n).2.1 ∧ (relayAll t es n).2.1.led = t.led := by
  unfold PySem.relayAll
  split
  · rename_i t' order e
    dsimp only
    split
    · exact laid_ok e
    · exact ⟨TabOk.standIn _ _, rfl⟩
  · exact ⟨TabOk.standIn _ _, rfl⟩

/-! ### the set on the heap -/
def iOf : Value → Int
  | .int n _ => n
  | _ => 0
def AllI (P : Program) (w : World) (l : List (Int × Value)) : Prop := ∀ e ∈ l, ∃ n t, e = ((intKind P w).hash n, Value.int n t)
theorem AllI.elems {P : Program} {w : World} {l : List (Int × Value)} (h : AllI P w l) : ElemsOf (intKind P w) l := fun e he => by
  obtain ⟨n, t, rfl⟩ := h e he
  exact ⟨⟨n, intKind_is _ _ _ _, rfl⟩, rfl⟩
theorem isInt {P : Program} {w : World} (k n : Int) (t : Tok) : (intKind P w).is k (.int n t) = decide (k = n) := KeyKind.is_eq_decide (intKind_is _ _ _ _) k
theorem AllI.find {P : Program} {w : World} {l : List (Int × Value)} (h : AllI P w l) (k : Int) : (∃ e ∈ l, (intKind P w).is k e.2 = true) ↔ k ∈ l.map fun e => iOf e.2 := by
  rw [List.mem_map]
  constructor
  · rintro ⟨e, he, q⟩
    obtain ⟨n, t, rfl⟩ := h e he
    rw [isInt] at q
    exact ⟨_, he, (of_decide_eq_true q).symm⟩
  · rintro ⟨e, he, q⟩
    obtain ⟨n, t, rfl⟩ := h e he
    refine ⟨_, he, ?_⟩
    rw [isInt]
    exact decide_eq_true q.symm
/-- a set of these ints lies at a -/
def SetIs (P : Program) (w : World) (a : Addr) (led : Bool) (ms : List Int) (h : Heap) : Prop :=
  ∃ o es ep t, h.get? a = some o ∧ o.ExactSet ∧ o.data = .set es ep t ∧ AllI P w es.toList ∧ ms = es.toList.map (fun e => iOf e.2) ∧ es.size < scanBound ∧ t.fits es.size = true ∧ TabOk t ∧ t.led = led
theorem SetIs.at {P : Program} {w : World} {a : Addr} {led : Bool} {ms : List Int} {h h' : Heap} (S : SetIs P w a led ms h) (k : ∀ o, h.get? a = some o → h'.get? a = some o) : SetIs P w a led ms h' := by
  obtain ⟨o, es, ep, t, e, r⟩ := S
  exact ⟨o, es, ep, t, k o e, r⟩
section
variable {P : Program} {w : World} {A : Around} {E : Value → Shared → Prop} {s : Shared} {a : Addr} {led : Bool} {ms : List Int}
theorem set_put {o : Obj} {es0 : Array (Int × Value)} {ep : Nat} {t0 : SetTable} {h : Heap} (ho : h.get? a = some o) (hx : o.ExactSet) (hd : o.data = .set es0 ep t0) {es : Array (Int × Value)} {t : SetTable} :
    (h.update a (Obj.putSet es t)).get? a = some { o with data := .set es (ep + 1) t } := by
  have q := Heap.get?_update_self (Obj.putSet es t) ho (by rw [putSet_of es t hd]; rfl)
  rwa [putSet_of es t hd] at q
theorem set_addH {k : Int} {tk : Tok} {Q : Bool → Shared → Prop} (hS : SetIs P w a led ms s.heap) (hr : ms.length + 1 < scanBound)
    (h : ∀ b h' ms', Heap.SameBut a s.heap h' → SetIs P w a led ms' h' → ms'.Perm (if k ∈ ms then ms else ms ++ [k]) → Q b { s with heap := h' }) :
    wpAny (model P w) A (setAddHashed a (.int k tk) ((intKind P w).hash k)) Q E s := by
  obtain ⟨o, es, ep, t, ho, hx, hd, hI, rfl, hb, hf, hT, hl⟩ := hS
  rw [List.length_map, Array.length_toList] at hr
  have gw : ∀ (b : Bool) {s1 : Shared} {R : Unit → Shared → Prop}, R () s1 → wpAny (model P w) A (match b with | true => rule "set.scan.the-table-gave-way" | false => pure ()) R E s1 := fun b s1 R q => by
    cases b
    · exact wpAny_pure q
    · exact wpAny_rule q
  unfold setAddHashed setAddHashedIn
  refine wpAny_holding (wpAny_bind (wpAny_setState_of ho hd hf ?_))
  dsimp only
  rw [byScan_of (knd := intKind P w) rfl hb hI.elems]
  simp only [if_true]
  unfold setAddByScan
  refine wpAny_bind (wpAny_bind (wpAny_rule (wpAny_bind (wpAny_setScan_of (knd := intKind P w) (k := k) (intKind_is _ _ _ _) ho hd hf hI.elems ?_))))
  cases hq : List.findIdx? (fun e => (intKind P w).is k e.2) es.toList with
  | some j =>
    dsimp only
    obtain ⟨hj, hp, _⟩ := List.findIdx?_eq_some_iff_getElem.mp hq
    have hm : k ∈ es.toList.map fun e => iOf e.2 := (hI.find k).mp ⟨_, List.getElem_mem hj, hp⟩
    refine wpAny_pure (wpAny_pure ?_)
    have q := h false s.heap _ (Heap.SameBut.refl a s.heap) ⟨o, es, ep, t, ho, hx, hd, hI, rfl, hb, hf, hT, hl⟩ (by rw [if_pos hm])
    exact q
  | none =>
    dsimp only
    have hm : k ∉ es.toList.map fun e => iOf e.2 := fun z => by
      obtain ⟨e, he, q⟩ := (hI.find k).mpr z
      have q2 := List.findIdx?_eq_none_iff.mp hq e he
      rw [q] at q2; cases q2
    rw [if_neg hm] at h
    have pm := layNew_perm t es ((intKind P w).hash k) (.int k tk)
    have ft := layNew_fits t es ((intKind P w).hash k) (.int k tk)
    obtain ⟨tb, ld⟩ := hT.layNew es ((intKind P w).hash k) (.int k tk)
    generalize layNew t es ((intKind P w).hash k) (.int k tk) = L at pm ft tb ld ⊢
    obtain ⟨es1, t1, wd, gv⟩ := L
    dsimp only at pm ft tb ld ⊢
    rw [Array.toList_push] at pm
    have I1 : AllI P w es1.toList := fun e he => by
      rcases List.mem_append.mp (pm.mem_iff.mp he) with z | z
      · exact hI e z
      · exact ⟨k, tk, List.mem_singleton.mp z⟩
    have m1 : (es1.toList.map fun e => iOf e.2).Perm ((es.toList.map fun e => iOf e.2) ++ [k]) := by
      have q := pm.map fun e => iOf e.2
      rwa [List.map_append] at q
    have z1 : es1.size < scanBound := by
      have q := pm.length_eq
      rw [List.length_append, Array.length_toList, Array.length_toList] at q
      simp at q; (first | lia | omega)
    refine wpAny_bind (gw _ ?_)
    have tail : ∀ t2 : SetTable, t2.fits es1.size = true → TabOk t2 → t2.led = led → ∀ R : Option Bool → Shared → Prop, (∀ h' ms', Heap.SameBut a s.heap h' → SetIs P w a led ms' h' → ms'.Perm ((es.toList.map fun e => iOf e.2) ++ [k]) → R (some true) { s with heap := h' }) →
        wpAny (model P w) A (do
          storeSet a es1 t2
          if (!wd && t2.tooFull) = true then do
              (match (relayAll t2 es1 (SetTable.grown es1.size)).2.2 with | true => rule "set.scan.the-table-gave-way" | false => pure ())
              storeSet a (relayAll t2 es1 (SetTable.grown es1.size)).1 (relayAll t2 es1 (SetTable.grown es1.size)).2.1
              pure (some true)
            else pure (some true)) R E s := by
      intro t2 f2 k2 l2 R hR
      have o1 := set_put (es := es1) (t := t2) ho hx hd
      have sb := Heap.SameBut.update s.heap a (Obj.putSet es1 t2)
      refine wpAny_bind (wpAny_storeSet_of ho hd ?_ (fits_of_scanBound z1))
      split
      · have p2 := relayAll_perm t2 es1 (SetTable.grown es1.size)
        have f3 := relayAll_fits t2 es1 (SetTable.grown es1.size)
        obtain ⟨k3, l3⟩ := TabOk.relayAll (t := t2) es1 (SetTable.grown es1.size)
        generalize relayAll t2 es1 (SetTable.grown es1.size) = Y at p2 f3 k3 l3 ⊢
        obtain ⟨es2, t3, g2⟩ := Y
        dsimp only at p2 f3 k3 l3 ⊢
        have z2 : es2.size < scanBound := by
          have q := p2.length_eq
          rw [Array.length_toList, Array.length_toList] at q
          (first | lia | omega)
        refine wpAny_bind (gw _ (wpAny_bind (wpAny_storeSet_of o1 rfl (wpAny_pure (hR _ _ (sb.trans (Heap.SameBut.update _ a _)) ⟨_, es2, _, t3, set_put o1 hx rfl, hx, rfl, fun e he => I1 e (p2.mem_iff.mp he), rfl, z2, f3, k3, l3.trans l2⟩ ?_)) (fits_of_scanBound z2))))
        exact (p2.map _).trans m1
      · exact wpAny_pure (hR _ _ sb ⟨_, es1, _, t2, o1, hx, rfl, I1, rfl, z1, f2, k2, l2⟩ m1)
    split
    · refine wpAny_bind ?_
      rw [hashByValue_scannable 8 rfl]
      refine wpAny_pure (tail t1 ft tb (ld.trans hl) _ fun h' ms' q1 q2 q3 => ?_)
      dsimp only
      exact wpAny_pure (h true h' ms' q1 q2 q3)
    · refine wpAny_bind (wpAny_pure ?_)
      simp only [if_true]
      refine tail t1 ft tb (ld.trans hl) _ fun h' ms' q1 q2 q3 => ?_
      dsimp only
      exact wpAny_pure (h true h' ms' q1 q2 q3)
end

section
variable {P : Program} {w : World} {A : Around} {R : Result → Shared → Prop} {I S : Addr} {fp wr : List Addr} {G : Array GenState → Array GenState → Prop} {n : Nat} {Pv : Nat → Value → Prop} {St : Nat → Shared → Prop} {led : Bool}
theorem set_loop (W : WalksS P w A.in1 I fp wr G n Pv St) (nf : S ∉ fp) (val : Nat → Int) (hv : ∀ i v, Pv i v → ∃ t, v = .int (val i) t) (hb : n + 1 < scanBound) :
    ∀ (k i : Nat) (s : Shared) (ms : List Int), n - i = k → i ≤ n → St i s → SetIs P w S led ms s.heap → ms.Nodup → (∀ x, x ∈ ms ↔ ∃ j, j < i ∧ val j = x) → ms.length ≤ i →
      (∀ s' ms', Moved (S :: wr) G s s' → SetIs P w S led ms' s'.heap → ms'.Nodup → (∀ x, x ∈ ms' ↔ ∃ j, j < n ∧ val j = x) → R (.ok (.ret .none)) s') → codeAny (model P w) A (.builtin "set.update.loop" ⟨[.ref S, .ref I], []⟩) R s := by
  have nw : S ∉ wr := fun z => nf (W.sub _ z)
  have sub : ∀ b ∈ wr, b ∈ S :: wr := fun b z => List.mem_cons_of_mem _ z
  intro k
  induction k with
  | zero =>
    intro i s ms hk hi st hS nd mem len hR
    obtain rfl : i = n := by (first | lia | omega)
    refine codeAny_builtin F.entry_set_update_loop (by
      rw [Around.under_plainId F.plain_set_update_loop _]
      show wpAny _ A.in1 (pyNext (.ref I) >>= _) _ _ s
      exact wpAny_bind (W.done s _ _ st fun s' mv => wpAny_pure (hR s' ms (mv.mono sub) (hS.at fun o e => mv.heap S o nw e) nd mem)))
  | succ k ih =>
    intro i s ms hk hi st hS nd mem len hR
    have lt : i < n := by (first | lia | omega)
    refine codeAny_builtin F.entry_set_update_loop ?_
    rw [Around.under_plainId F.plain_set_update_loop _]
    show wpAny _ A.in1 (pyNext (.ref I) >>= _) _ _ s
    refine wpAny_bind (W.item i s _ _ lt st fun v s1 hP st1 mv => ?_)
    obtain ⟨t, rfl⟩ := hv i v hP
    have S1 := hS.at fun o e => mv.heap S o nw e
    show wpAny _ A.in1 (holding [Value.int (val i) t] (setAdd S (.int (val i) t)) >>= _) _ _ s1
    refine wpAny_bind (wpAny_holding ?_)
    unfold setAdd
    refine wpAny_holding (wpAny_bind ((intKind P w).pyHash (k := val i) (intKind_is _ _ _ _) (set_addH (s := { s1 with toks := s1.toks + 1 }) (led := led) S1 (by (first | lia | omega)) fun b h' ms' sb S2 pm => ?_)))
    refine wpAny_pure ⟨plainId_quiet F.plain_set_update_loop _, ih (i + 1) _ ms' (by (first | lia | omega)) lt (W.frame _ s1 _ _ st1 (Nat.le_succ _) fun b hb o e => ?_) S2 ?_ (fun x => ?_) ?_ fun s2 ms2 mv2 S3 nd3 mem3 => ?_⟩
    · rw [sb.2 b (fun z => nf (z ▸ hb))]; exact e
    · refine pm.nodup_iff.mpr ?_
      split
      · exact nd
      · rename_i hn
        exact List.nodup_append.mpr ⟨nd, by simp, fun a ha b hb => fun z => hn (by rw [List.mem_singleton] at hb; rw [← hb, ← z]; exact ha)⟩
    · rw [pm.mem_iff]
      have key : (∃ j, j < i + 1 ∧ val j = x) ↔ x ∈ ms ∨ x = val i := by
        rw [mem]
        constructor
        · rintro ⟨j, hj, rfl⟩
          by_cases e : j = i
          · subst e; exact .inr rfl
          · exact .inl ⟨j, by (first | lia | omega), rfl⟩
        · rintro (⟨j, hj, rfl⟩ | rfl)
          · exact ⟨j, by (first | lia | omega), rfl⟩
          · exact ⟨i, by (first | lia | omega), rfl⟩
      rw [key]
      split
      · rename_i hm
        exact ⟨.inl, fun z => z.elim id fun e => e ▸ hm⟩
      · simp
    · rw [pm.length_eq]
      split
      · (first | lia | omega)
      · simp; (first | lia | omega)
    · refine hR s2 ms2 (Moved.trans W.gtrans ((mv.mono sub).then_heap (Nat.le_succ _) fun b o hb e => ?_) mv2) S3 nd3 mem3
      rw [sb.2 b (fun z => hb (z ▸ List.mem_cons_self))]; exact e
end
section
variable {P : Program} {w : World} {A : Around} {E : Value → Shared → Prop} {s : Shared}
def setNew (w : World) : Obj := { cls := .type "set", dict := none, data := .set #[] 0 (.fresh 0 0 (!(w.params.followText "set-order"))) }
theorem raw_setNew (a : Value) {Q : Value → Shared → Prop} (h : Q (.ref s.heap.objs.size) { s with heap := s.heap.push (setNew w) }) :
    codeAny (model P w) A (.call (.builtin "set.__new__") ⟨[.type "set", a], []⟩) (wants Q E) s := by
  have hsub := sub_set_self
  refine codeAny_of_tree (by
    show wpAny _ A.in1 (do checkBuiltinCall "set.__new__" ⟨[.type "set", a], []⟩; again (.builtin "set.__new__" ⟨[.type "set", a], []⟩)) _ _ s
    refine wpAny_bind (wpAny_of_eq (F.newCall_set_1 a) (wpAny_pure ⟨plainId_quiet F.plain_set_new _, codeAny_builtin F.entry_set_new ?_⟩))
    rw [Around.under_plainId F.plain_set_new _]
    unfold Builtin.«set.__new__» Builtin.Frozenset.newClass
    obtain ⟨hp, g, d, tk, os⟩ := s
    wp_walk
    refine wpAny_askSetting (wpAny_pure ?_)
    simp only [newObj]
    exact wpAny_bind (wpAny_alloc (wpAny_pure (wpAny_pure h))))
set_option maxHeartbeats 4000000 in
theorem raw_setOf {l : Addr} {items : Array Value} {ns : List Int} {Q : Value → Shared → Prop} (hh : A.handled = none) (hl : s.heap.IsList l items) (hi : IntsAre items.toList ns) (hb : items.size + 1 < scanBound)
    (h : ∀ (h' : Heap) (tk : Nat) (ms : List Int), SetIs P w s.heap.objs.size (!(w.params.followText "set-order")) ms h' → ms.Nodup → (∀ x, x ∈ ms ↔ x ∈ ns) → (∀ b o, s.heap.get? b = some o → h'.get? b = some o) → Q (.ref s.heap.objs.size) { s with heap := h', toks := tk }) :
    wpAny (model P w) A (call (.type "set") [.ref l]) Q E s := by
  obtain ⟨c, tl, hmro⟩ := F.called_set.mro
  have hmade := F.called_set.made
  have hsub := F.called_set.sub
  have h1 := F.called_set.notType
  have h2 := F.called_set.canCreate
  have hct := F.typeCall_set_1 (.ref l)
  obtain ⟨ol, hol, hcl, nl, hdl⟩ := hl
  have ll : l < s.heap.objs.size := Heap.lt_size hol
  refine wpAny_call (codeAny_of_tree (wpAny_pure ⟨Code.quiet_builtin _ (by decide +kernel), codeAny_builtin F.entry_type_call ?_⟩))
  rw [Around.under_plain (weight_type_call_type "set" [.ref l] []) rfl]
  repeat (any_goals (first | assumption | wp_step))
  refine codeAny_mono (raw_setNew (.ref l) (E := E) (Q := fun obj s1 => obj = .ref s.heap.objs.size ∧ s1 = { s with heap := s.heap.push (setNew w) }) ⟨rfl, rfl⟩) fun r s1 hr => ?_
  cases r with
  | error e => exact hr
  | ok fl =>
    cases fl with
    | ret obj =>
      obtain ⟨rfl, rfl⟩ := hr
      have g0 : (s.heap.push (setNew w)).get? s.heap.objs.size = some (setNew w) := Heap.get?_push_size _ rfl
      have ty : Shared.TypeIs { s with heap := s.heap.push (setNew w) } (.ref s.heap.objs.size) "set" := ⟨_, g0, rfl⟩
      have hli := F.called_set.init.lookup
      have hbi := F.called_set.init.bind (.ref s.heap.objs.size)
      repeat (any_goals (first | assumption | wp_step))
      refine codeAny_mono (codeAny_call_builtin (R := wants (fun r s2 => r = .none ∧ ∃ h' tk ms, s2 = { s with heap := h', toks := tk } ∧ SetIs P w s.heap.objs.size (!(w.params.followText "set-order")) ms h' ∧ ms.Nodup ∧ (∀ x, x ∈ ms ↔ x ∈ ns) ∧ ∀ b o, s.heap.get? b = some o → h'.get? b = some o) E)
        F.called_set.init.plain F.entry_set_init (check_set_init_1 ty ?_)) fun r2 s2 hr2 => ?_
      · obtain ⟨ocls, odict, odata, oslots⟩ := ol
        simp only at hcl hdl
        subst hcl hdl
        have hol2 : (s.heap.push (setNew w)).get? l = some { cls := .type "list", dict := odict, data := .seq items nl, slots := oslots } := Heap.get?_push_of_some _ hol
        have l2 : (s.heap.push (setNew w)).IsList l items := ⟨_, hol2, rfl, nl, rfl⟩
        have y1 := F.sub_list_set
        have y2 := F.sub_list_frozenset
        have y3 : (Value.type "list" == Value.type "dict") = false := by decide
        unfold Builtin.«set.__init__» noKeywords Builtin.Frozenset.updateFrom
        generalize hPI : pyIter = PI
        wp_walk
        subst hPI
        refine wpAny_pyIter_list l2 (wpAny_bind (wpAny_runValue ?_))
        have hz : (s.heap.push (setNew w)).objs.size = s.heap.objs.size + 1 := Heap.size_push ..
        have nI : l ≠ (s.heap.push (setNew w)).objs.size := by rw [hz]; exact Nat.ne_of_lt (Nat.lt_succ_of_lt ll)
        have nS : s.heap.objs.size ∉ [(s.heap.push (setNew w)).objs.size, l] := by
          rw [hz]; simp only [List.mem_cons, List.not_mem_nil, or_false, not_or]; exact ⟨Nat.ne_of_lt (Nat.lt_succ_self _), Nat.ne_of_gt ll⟩
        have g1 : ((s.heap.push (setNew w)).push { cls := .type "list_iterator", data := .fields #[.ref l, .int 0 0] }).get? s.heap.objs.size = some (setNew w) := Heap.get?_push_of_some _ g0
        refine set_loop (led := !(w.params.followText "set-order")) ((Walks.list (show A.in1.in1.in1.handled = none by simp [hh]) _ l nI items).toS) nS (fun i => ns.getD i 0) (fun i v hv => IntsAre.int_at hi i v (by rw [Array.getElem?_toList]; exact hv)) hb _ 0 _ [] rfl (Nat.zero_le _)
          ⟨⟨_, Heap.get?_push_size _ rfl, rfl, rfl⟩, l2.push _⟩ ⟨_, #[], 0, _, g1, ⟨rfl, rfl, rfl⟩, rfl, fun e he => by simp at he, rfl, by decide, rfl, ⟨rfl, List.Pairwise.nil⟩, rfl⟩ List.nodup_nil (fun x => ⟨fun z => by simp at z, fun ⟨j, hj, _⟩ => absurd hj (Nat.not_lt_zero _)⟩) (Nat.le_refl _) fun s3 ms mv S3 nd mem => ?_
        obtain ⟨h', g', d', tk', os'⟩ := s3
        obtain rfl : g' = s.gens := mv.gens
        obtain rfl : d' = s.drawn := mv.drawn
        obtain rfl : os' = s.os := mv.os
        show wpAny _ _ _ _ _ _
        have hlen : ns.length = items.size := by rw [← hi.length, Array.length_toList]
        refine wpAny_pure (wpAny_pure ⟨rfl, h', tk', ms, rfl, S3, nd, fun x => (mem x).trans ⟨fun ⟨j, hj, e⟩ => ?_, fun z => ?_⟩, fun b o e => mv.heap b o ?_ (Heap.get?_push_of_some _ (Heap.get?_push_of_some _ e))⟩)
        · rw [← e]
          have hj' : j < ns.length := by (first | lia | omega)
          simp [List.getD, hj']
        · obtain ⟨j, hj⟩ := List.getElem?_of_mem z
          have hj' := (List.getElem?_eq_some_iff.mp hj).1
          exact ⟨j, by (first | lia | omega), by simp [List.getD, hj]⟩
        · have hb' := Heap.lt_size e
          simp only [List.mem_cons, List.not_mem_nil, or_false, not_or]
          rw [hz]
          exact ⟨Nat.ne_of_lt hb', Nat.ne_of_lt (Nat.lt_succ_of_lt hb')⟩
      · cases r2 with
        | error e => exact hr2
        | ok fl2 =>
          cases fl2 with
          | ret r =>
            obtain ⟨rfl, h', tk, ms, rfl, S3, nd, mem, kk⟩ := hr2
            repeat (any_goals (first | assumption | wp_step))
            exact h _ _ _ S3 nd mem kk
          | _ => exact hr2.elim
    | _ => exact hr.elim
end
end L2

/-! EXTENSION T: a set's iterator; sorted of a set of ints -/
namespace L2
open PySem PySem.Spec PyProof.Rows

theorem slot_si_next : Slot "set_iterator" "__next__" "set_iterator.__next__" := .of (owner := "set_iterator") (n := "__next__")
  (by rw [typeLookup_type, builtinLookup_eq_fast]; kernel_rfl) (by decide +kernel) (by decide +kernel) (by decide +kernel) (by first | exact .inl (by decide +kernel) | exact .inr (by decide +kernel))
  (by rw [isSubtype_type]; kernel_rfl)
theorem slot_si_iter : Slot "set_iterator" "__iter__" "set_iterator.__iter__" := .of (owner := "set_iterator") (n := "__iter__")
  (by rw [typeLookup_type, builtinLookup_eq_fast]; kernel_rfl) (by decide +kernel) (by decide +kernel) (by decide +kernel) (by first | exact .inl (by decide +kernel) | exact .inr (by decide +kernel))
  (by rw [isSubtype_type]; kernel_rfl)
theorem entry_si_next : entryFor table "set_iterator.__next__" = some Builtin.«set_iterator.__next__» := entryFor_of_tree (by kernel_rfl)
theorem entry_si_iter : entryFor table "set_iterator.__iter__" = some Builtin.«dict_keyiterator.__iter__» := entryFor_alias (id' := "dict_keyiterator.__iter__") (by kernel_rfl) rfl (by decide +kernel) (by kernel_rfl)
theorem entry_s_iter : entryFor table "set.__iter__" = some Builtin.«frozenset.__iter__» := entryFor_alias (id' := "frozenset.__iter__") (by kernel_rfl) rfl (by decide +kernel) (by kernel_rfl)
theorem args_si_next (a : Value) : argsOk "set_iterator.__next__" ⟨[a], []⟩ := by unfold argsOk; kernel_rfl
theorem args_si_iter (a : Value) : argsOk "set_iterator.__iter__" ⟨[a], []⟩ := by unfold argsOk; kernel_rfl
theorem len_set : typeLookup (.type "set") "__len__" = pure (some (.builtin "set.__len__")) := by rw [typeLookup_type, builtinLookup_eq_fast]; kernel_rfl

/-! ### an order drawn -/
theorem erase_perm {α : Type} {l : List α} {i : Nat} (h : i < l.length) : (l[i] :: l.eraseIdx i).Perm l := by
  rw [List.eraseIdx_eq_take_drop_succ]
  have e : l = l.take i ++ l[i] :: l.drop (i + 1) := by rw [← List.drop_eq_getElem_cons h, List.take_append_drop]
  conv => rhs; rw [e]
  exact List.perm_middle.symm
theorem pick_go {α : Type} (next : Nat → Nat) : ∀ (fuel k : Nat) (left : List α) (out : Array α), left.length = fuel → (pickOrder.go next fuel k left out).toList.Perm (out.toList ++ left)
  | 0, k, left, out, h => by
    have : left = [] := List.length_eq_zero_iff.mp h
    subst this
    rw [pickOrder.go]; simp
  | fuel + 1, k, left, out, h => by
    rw [pickOrder.go]
    have hl : next k % left.length < left.length := Nat.mod_lt _ (by (first | lia | omega))
    rw [List.getElem?_eq_getElem hl]
    dsimp only
    refine (pick_go next fuel (k + 1) _ _ (by rw [List.length_eraseIdx_of_lt hl]; (first | lia | omega))).trans ?_
    rw [Array.toList_push, List.append_assoc]
    exact List.Perm.append_left _ (erase_perm hl)
theorem pick_perm {α : Type} (next : Nat → Nat) (xs : Array α) : (pickOrder next xs).toList.Perm xs.toList := by
  have q := pick_go next xs.size 0 xs.toList #[] (by simp)
  simpa [pickOrder] using q
section
variable {P : Program} {w : World} {A : Around} {E : Value → Shared → Prop} {s : Shared}
theorem wp_choose' {src : Source} {n : Nat} {Q : Nat → Shared → Prop} (hn : n ≠ 0) (h : ∀ i d, i < n → Q i { s with drawn := d }) : wpAny (model P w) A (choose src n) Q E s := fun _ _ _ => ⟨hn, h _ _ (Nat.mod_lt _ (Nat.pos_of_ne_zero hn))⟩
theorem wp_draw {α : Type} : ∀ (n : Nat) (xs : List α) (s : Shared) (Q : List α → Shared → Prop), xs.length = n → (∀ ys d, ys.Perm xs → Q ys { s with drawn := d }) → wpAny (model P w) A (drawOrder n xs) Q E s
  | 0, xs, s, Q, hl, h => by
    have : xs = [] := List.length_eq_zero_iff.mp hl
    subst this
    rw [drawOrder]
    exact wpAny_pure (h [] s.drawn .rfl)
  | n + 1, [], s, Q, hl, h => by simp at hl
  | n + 1, x :: xs, s, Q, hl, h => by
    rw [drawOrder]
    refine wpAny_bind (wp_choose' (by simp) fun i d hi => ?_)
    rw [List.getElem?_eq_getElem hi]
    dsimp only
    refine wpAny_bind (wp_draw n _ _ _ (by rw [List.length_eraseIdx_of_lt hi]; simpa using hl) fun ys d' p => wpAny_pure (h _ d' ?_))
    exact (List.Perm.cons _ p).trans (erase_perm hi)
    all_goals exact fun z => nomatch z
end

/-! ### the iterator -/
def SIt (h : Heap) (it a : Addr) (first : Value) (i n ep : Nat) : Prop := h.get? it = some { cls := .type "set_iterator", data := .fields #[first, .int i 0, .ref a, .int n 0, .int ep 0] }
section
variable {P : Program} {w : World} {A : Around} {E : Value → Shared → Prop} {s : Shared} {it a : Addr} {first : Value} {i n ep : Nat} {o : Obj} {es : Array (Int × Value)} {t : SetTable}
theorem SIt.ty (y : SIt s.heap it a first i n ep) : s.TypeIs (.ref it) "set_iterator" := ⟨_, y, rfl⟩
theorem si_self {Q : Value → Shared → Prop} (y : SIt s.heap it a first i n ep) (h : Q (.ref it) s) : wpAny (model P w) A (pyIter (.ref it)) Q E s := by
  refine wpAny_pyIter_slot y.ty slot_si_iter (wpAny_call_entry slot_si_iter y.ty entry_si_iter ?_ (args_si_iter _))
  show wpAny _ _ (ret (.ref it)) _ _ s
  exact wpAny_pure ⟨_, rfl, "set_iterator", _, y.ty, slot_si_next.lookup, h⟩
/-- the end: StopIteration, behind one or two fields set -/
theorem stop_wp {Q : Option Value → Shared → Prop} (hd : A.handled = none) {h1 : Heap} (q : ∀ h', (∀ b o, h1.get? b = some o → h'.get? b = some o) → Q none { s with heap := h' }) :
    wpAny (model P w) A.in1 (newExc (.type "StopIteration") [] >>= fun e => (raiseNew e : Sem Fin)) (fun r s' => False) (fun e s' => wpAny (model P w) A (isInstance e (.type "StopIteration") >>= fun b => if b = true then pure none else throw e) Q E s') { s with heap := h1 } := by
  refine wpAny_bind ?_; simp only [newExc, newTuple]
  refine wpAny_bind (wpAny_newObj_type ?_ (by size_fits)); refine wpAny_bind (m := firstArgMember _ _) (wpAny_of_eq (a := Value.none) (by first | rfl | (simp only [firstArgMember]; rfl)) ?_)
  refine wpAny_newObj_type ?_ (by size_fits); simp only [raiseNew]; refine wpAny_bind (wpAny_handled ?_)
  rw [show A.in1.handled = none from hd]; refine wpAny_bind (wpAny_pure (wpAny_throw ?_))
  refine wpAny_bind (wpAny_isInstance (T := "StopIteration") (b := true) ⟨_, Heap.get?_push_size _ rfl, rfl⟩ isSubtype_stop ?_)
  exact wpAny_pure (q _ fun b o e => Heap.get?_push_of_some _ (Heap.get?_push_of_some _ e))
end
end L2

/-! EXTENSION U: a set walked through; sorted of a set of ints -/
namespace L2
open PySem PySem.Spec PyProof.Rows
section
variable {P : Program} {w : World} {A : Around} {E : Value → Shared → Prop} {s : Shared} {it a : Addr} {first : Value} {i n ep : Nat} {o : Obj} {es : Array (Int × Value)} {t : SetTable}
theorem fld_set {h : Heap} {vs : Array Value} (y : h.get? it = some { cls := .type "set_iterator", data := .fields vs }) (k : Nat) (x : Value) :
    (h.update it (Obj.mapFields (·.setIfInBounds k x))).get? it = some { cls := .type "set_iterator", data := .fields (vs.setIfInBounds k x) } ∧ ∀ b u, b ≠ it → h.get? b = some u → (h.update it (Obj.mapFields (·.setIfInBounds k x))).get? b = some u :=
  ⟨Heap.get?_update_self _ y rfl, fun b u hb e => (Heap.get?_update_other _ _ (Ne.symm hb)).trans e⟩
theorem si_next {slot : Nat} {v : Value} {nx : Nat} {Q : Option Value → Shared → Prop} (y : SIt s.heap it a (.int slot 0) i es.size ep) (ho : s.heap.get? a = some o) (hd : o.data = .set es ep t) (hf : t.fits es.size = true)
    (hn : ∀ (A' : Around) (E' : Value → Shared → Prop) (R : Option (Value × Nat) → Shared → Prop), R (some (v, nx)) s → wpAny (model P w) A' (setNext a slot i ep) R E' s)
    (q : ∀ h', SIt h' it a (.int nx 0) (i + 1) es.size ep → (∀ b u, b ≠ it → s.heap.get? b = some u → h'.get? b = some u) → Q (some v) { s with heap := h' }) :
    wpAny (model P w) A (pyNext (.ref it)) Q E s := by
  unfold pyNext
  refine wpAny_bind (wpAny_attempt (wpAny_callSpecial?_slot (name := Str.ofString "__next__") y.ty slot_si_next (wpAny_call_entry slot_si_next y.ty entry_si_next ?_ (args_si_next _))))
  unfold Builtin.«set_iterator.__next__»
  refine wpAny_bind (wpAny_pure ?_)
  refine wpAny_bind (wpAny_fieldsOf y rfl ?_)
  refine wpAny_bind ?_
  unfold setEntries
  refine wpAny_bind (wpAny_setState_of ho hd hf (wpAny_pure ?_))
  rw [if_neg (by simp)]
  dsimp only
  simp only [Int.toNat_natCast]
  refine wpAny_bind (hn _ _ _ ?_)
  dsimp only
  obtain ⟨y1, k1⟩ := fld_set y 0 (rawInt nx)
  obtain ⟨y2, k2⟩ := fld_set y1 1 (rawInt ((i : Int) + 1))
  refine wpAny_bind (wpAny_setField y rfl (by simp) (wpAny_bind (wpAny_setField y1 rfl (by simp) (wpAny_pure ⟨_, rfl, wpAny_pure (q _ ?_ fun b u hb e => k2 b u hb (k1 b u hb e))⟩))))
  simpa [rawInt, SIt] using y2
theorem si_stop {slot : Nat} {Q : Option Value → Shared → Prop} (hh : A.handled = none) (y : SIt s.heap it a (.int slot 0) i es.size ep) (ho : s.heap.get? a = some o) (hd : o.data = .set es ep t) (hf : t.fits es.size = true)
    (hn : ∀ (A' : Around) (E' : Value → Shared → Prop) (R : Option (Value × Nat) → Shared → Prop), R none s → wpAny (model P w) A' (setNext a slot i ep) R E' s)
    (q : ∀ h', (∀ b u, b ≠ it → s.heap.get? b = some u → h'.get? b = some u) → Q none { s with heap := h' }) :
    wpAny (model P w) A (pyNext (.ref it)) Q E s := by
  unfold pyNext
  refine wpAny_bind (wpAny_attempt (wpAny_callSpecial?_slot (name := Str.ofString "__next__") y.ty slot_si_next (wpAny_call_entry slot_si_next y.ty entry_si_next ?_ (args_si_next _))))
  unfold Builtin.«set_iterator.__next__»
  refine wpAny_bind (wpAny_pure ?_)
  refine wpAny_bind (wpAny_fieldsOf y rfl ?_)
  refine wpAny_bind ?_
  unfold setEntries
  refine wpAny_bind (wpAny_setState_of ho hd hf (wpAny_pure ?_))
  rw [if_neg (by simp)]
  dsimp only
  simp only [Int.toNat_natCast]
  refine wpAny_bind (hn _ _ _ ?_)
  dsimp only
  obtain ⟨y1, k1⟩ := fld_set y 2 .none
  refine wpAny_bind (wpAny_setField y rfl (by simp) ?_)
  exact wpAny_mono (stop_wp hh fun h' k2 => q h' fun b u hb e => k2 b u (k1 b u hb e)) (fun _ _ z => z.elim) fun _ _ z => z
/-- what the iterator finds in its turns -/
structure Nxt (P : Program) (w : World) (a : Addr) (o : Obj) (es : Array (Int × Value)) (ep : Nat) (vs : List Value) (sl : Nat → Nat) : Prop where
  zero : sl 0 = 0
  step : ∀ (i : Nat) (v : Value) (s : Shared) (A : Around) (E : Value → Shared → Prop) (R : Option (Value × Nat) → Shared → Prop), vs[i]? = some v → s.heap.get? a = some o → R (some (v, sl (i + 1))) s → wpAny (model P w) A (setNext a (sl i) i ep) R E s
  stop : ∀ (s : Shared) (A : Around) (E : Value → Shared → Prop) (R : Option (Value × Nat) → Shared → Prop), s.heap.get? a = some o → R none s → wpAny (model P w) A (setNext a (sl vs.length) vs.length ep) R E s
theorem nxt_text (hd : o.data = .set es ep t) (hf : t.fits es.size = true) (hb : w.params.followText "set-order" = true) : Nxt P w a o es ep ((pickOrder (w.params.setOrder a ep) es).toList.map (·.2)) fun _ => 0 := by
  have key : ∀ (i : Nat) (s : Shared) (A : Around) (E : Value → Shared → Prop) (R : Option (Value × Nat) → Shared → Prop), s.heap.get? a = some o → R (((pickOrder (w.params.setOrder a ep) es)[i]?).map fun e => (e.2, 0)) s → wpAny (model P w) A (setNext a 0 i ep) R E s := fun i s A E R ho h => by
    unfold setNext setsByText
    refine wpAny_bind (wpAny_setState_of ho hd hf ?_)
    refine wpAny_bind (wpAny_bind (wpAny_askSetting (wpAny_pure ?_)))
    rw [if_pos (by exact hb)]
    dsimp only
    rw [if_neg (by simp)]
    refine wpAny_bind ?_
    unfold setWalk setsByText
    refine wpAny_bind (wpAny_setState_of ho hd hf ?_)
    refine wpAny_bind (wpAny_bind (wpAny_askSetting (wpAny_pure ?_)))
    rw [if_pos (by exact hb)]
    exact wpAny_bind (wpAny_askSetting (wpAny_pure (wpAny_pure h)))
  refine ⟨rfl, fun i v s A E R hv ho h => key i s A E R ho ?_, fun s A E R ho h => key _ s A E R ho ?_⟩
  · rw [List.getElem?_map] at hv
    rw [← Array.getElem?_toList]
    obtain ⟨e, h1, rfl⟩ := Option.map_eq_some_iff.mp hv
    rw [h1]; exact h
  · rw [List.length_map, ← Array.getElem?_toList, List.getElem?_eq_none (Nat.le_refl _)]; exact h
theorem nxt_slots (hd : o.data = .set es ep t) (hf : t.fits es.size = true) (hb : w.params.followText "set-order" = false) (hl : t.led = true) (hT : TabOk t) (hp : (!t.plain && es.size > 1) = false) :
    Nxt P w a o es ep (es.toList.map (·.2)) fun i => if i = 0 then 0 else t.place.getD (i - 1) 0 + 1 := by
  have hz : t.place.size = es.size := by simp [SetTable.fits] at hf; exact hf.1
  have bel : ∀ i, i ≤ es.size → SetTable.below t.place (if i = 0 then 0 else t.place.getD (i - 1) 0 + 1) = i := fun i hi => by
    have B := below_ok (xs := t.place) (j := if i = 0 then 0 else t.place.getD (i - 1) 0 + 1) hT.up
    generalize SetTable.below t.place (if i = 0 then 0 else t.place.getD (i - 1) 0 + 1) = p at B
    have l1 : t.place.toList.length = es.size := by rw [Array.length_toList, hz]
    have gt : ∀ k, (hk : k < es.size) → t.place.toList[k]? = some (t.place.getD k 0) := fun k hk => by
      rw [Array.getElem?_toList]; simp [Array.getD, hz, hk]
    have ble := B.le
    rcases Nat.lt_trichotomy p i with h | h | h
    · exfalso
      have h1 := B.hi p _ (Nat.le_refl _) (gt p (by (first | lia | omega)))
      rw [if_neg (by (first | lia | omega))] at h1
      rcases Nat.lt_or_ge p (i - 1) with h2 | h2
      · have h3 := ltAll_get hT.up h2 (gt p (by (first | lia | omega))) (gt (i - 1) (by (first | lia | omega)))
        (first | lia | omega)
      · have : p = i - 1 := by (first | lia | omega)
        subst this; (first | lia | omega)
    · exact h
    · exfalso
      have h1 := B.lo i _ h (gt i (by (first | lia | omega)))
      by_cases h0 : i = 0
      · rw [if_pos h0] at h1; (first | lia | omega)
      · rw [if_neg h0] at h1
        have h3 := ltAll_get hT.up (i := i - 1) (j := i) (by (first | lia | omega)) (gt (i - 1) (by (first | lia | omega))) (gt i (by (first | lia | omega)))
        (first | lia | omega)
  have key : ∀ (i : Nat), i ≤ es.size → ∀ (s : Shared) (A : Around) (E : Value → Shared → Prop) (R : Option (Value × Nat) → Shared → Prop), s.heap.get? a = some o → R (match es[i]?, t.place[i]? with | some (_, x), some j => some (x, j + 1) | _, _ => none) s →
      wpAny (model P w) A (setNext a (if i = 0 then 0 else t.place.getD (i - 1) 0 + 1) i ep) R E s := fun i hi s A E R ho h => by
    unfold setNext setsByText
    refine wpAny_bind (wpAny_setState_of ho hd hf ?_)
    refine wpAny_bind (wpAny_bind (wpAny_askSetting (wpAny_pure ?_)))
    rw [if_neg (by show ¬ (w.params.followText "set-order" = true); rw [hb]; decide)]
    dsimp only
    rw [if_neg (by show ¬ ((!t.plain && decide (es.size > 1)) = true); rw [hp]; decide), bel i hi]
    show wpAny _ _ ((if (!t.led && !es.isEmpty) = true then (unsupported "set:maker-not-led" : Sem Unit) else pure ()) >>= _) _ _ _
    rw [hl, if_neg (by simp)]
    exact wpAny_bind (wpAny_pure (wpAny_pure h))
  refine ⟨rfl, fun i v s A E R hv ho h => ?_, fun s A E R ho h => ?_⟩
  · rw [List.getElem?_map] at hv
    obtain ⟨e, h1, rfl⟩ := Option.map_eq_some_iff.mp hv
    have li := (List.getElem?_eq_some_iff.mp h1).1
    rw [Array.length_toList] at li
    refine key i (by (first | lia | omega)) s A E R ho ?_
    have h2 : t.place[i]? = some (t.place.getD i 0) := by simp [Array.getD, hz, li]
    rw [← Array.getElem?_toList, h1, h2]
    simpa using h
  · have el : (es.toList.map (·.2)).length = es.size := by rw [List.length_map, Array.length_toList]
    rw [el]
    refine key es.size (Nat.le_refl _) s A E R ho ?_
    rw [Array.getElem?_eq_none (Nat.le_refl _)]
    exact h
/-- the walk by slots or by the text's order -/
theorem walk_nxt (hh : A.handled = none) (ne : a ≠ it) (hd : o.data = .set es ep t) (hf : t.fits es.size = true) {vs : List Value} {sl : Nat → Nat} (N : Nxt P w a o es ep vs sl) (hl : vs.length = es.size) :
    WalksS P w A it [it, a] [it] (fun x y => x = y) vs.length (fun i v => vs[i]? = some v) fun i s => SIt s.heap it a (.int (sl i) 0) i es.size ep ∧ s.heap.get? a = some o where
  sub := fun b hb => by simp at hb; simp [hb]
  grefl := fun _ => rfl
  gtrans := fun _ _ _ h1 h2 => h1.trans h2
  frame := fun i s h' tk st _ k => ⟨k it (by simp) _ st.1, k a (by simp) _ st.2⟩
  item := fun i s Q E hi st hQ => by
    obtain ⟨v, hv⟩ : ∃ v, vs[i]? = some v := ⟨_, List.getElem?_eq_getElem hi⟩
    refine si_next st.1 st.2 hd hf (fun A' E' R r => N.step i v s A' E' R hv st.2 r) fun h' y' k => hQ v _ hv ⟨y', k a o ne st.2⟩ ⟨fun b u hb e => k b u (fun z => hb (by simp [z])) e, rfl, rfl, rfl, Nat.le_refl _⟩
  done := fun s Q E st hQ => si_stop hh st.1 st.2 hd hf (fun A' E' R r => N.stop s A' E' R st.2 r) fun h' k => hQ _ ⟨fun b u hb e => k b u (fun z => hb (by simp [z])) e, rfl, rfl, rfl, Nat.le_refl _⟩
  self := fun i s Q E st h => si_self st.1 h
/-! ### the order drawn ahead -/
theorem si_nextD {tp : Addr} {ps : Array Value} {pn : Nat} {p : Nat} {e : Int × Value} {Q : Option Value → Shared → Prop} (y : SIt s.heap it a (.ref tp) i es.size ep) (ho : s.heap.get? a = some o) (hd : o.data = .set es ep t) (hf : t.fits es.size = true)
    (hp : s.heap.get? tp = some { cls := .type "tuple", data := .seq ps pn }) (hx : ps[i]? = some (.int p 0)) (he : es[p]? = some e)
    (q : ∀ h', SIt h' it a (.ref tp) (i + 1) es.size ep → (∀ b u, b ≠ it → s.heap.get? b = some u → h'.get? b = some u) → Q (some e.2) { s with heap := h' }) :
    wpAny (model P w) A (pyNext (.ref it)) Q E s := by
  unfold pyNext
  refine wpAny_bind (wpAny_attempt (wpAny_callSpecial?_slot (name := Str.ofString "__next__") y.ty slot_si_next (wpAny_call_entry slot_si_next y.ty entry_si_next ?_ (args_si_next _))))
  unfold Builtin.«set_iterator.__next__»
  refine wpAny_bind (wpAny_pure ?_)
  refine wpAny_bind (wpAny_fieldsOf y rfl ?_)
  refine wpAny_bind ?_
  unfold setEntries
  refine wpAny_bind (wpAny_setState_of ho hd hf (wpAny_pure ?_))
  rw [if_neg (by simp)]
  refine wpAny_bind (wpAny_seqItems hp rfl ?_)
  simp only [Int.toNat_natCast, hx]
  refine wpAny_bind ?_
  unfold setNextDrawn
  refine wpAny_bind (wpAny_setState_of ho hd hf ?_)
  dsimp only
  rw [if_neg (by simp)]
  obtain ⟨e1, e2⟩ := e
  rw [he]
  dsimp only
  obtain ⟨y2, k2⟩ := fld_set y 1 (rawInt ((i : Int) + 1))
  refine wpAny_pure (wpAny_bind (wpAny_setField y rfl (by simp) (wpAny_pure ⟨_, rfl, wpAny_pure (q _ ?_ k2)⟩)))
  simpa [rawInt, SIt] using y2
theorem si_stopD {tp : Addr} {ps : Array Value} {pn : Nat} {Q : Option Value → Shared → Prop} (hh : A.handled = none) (y : SIt s.heap it a (.ref tp) i es.size ep) (ho : s.heap.get? a = some o) (hd : o.data = .set es ep t) (hf : t.fits es.size = true)
    (hp : s.heap.get? tp = some { cls := .type "tuple", data := .seq ps pn }) (hx : ps[i]? = none)
    (q : ∀ h', (∀ b u, b ≠ it → s.heap.get? b = some u → h'.get? b = some u) → Q none { s with heap := h' }) :
    wpAny (model P w) A (pyNext (.ref it)) Q E s := by
  unfold pyNext
  refine wpAny_bind (wpAny_attempt (wpAny_callSpecial?_slot (name := Str.ofString "__next__") y.ty slot_si_next (wpAny_call_entry slot_si_next y.ty entry_si_next ?_ (args_si_next _))))
  unfold Builtin.«set_iterator.__next__»
  refine wpAny_bind (wpAny_pure ?_)
  refine wpAny_bind (wpAny_fieldsOf y rfl ?_)
  refine wpAny_bind ?_
  unfold setEntries
  refine wpAny_bind (wpAny_setState_of ho hd hf (wpAny_pure ?_))
  rw [if_neg (by simp)]
  refine wpAny_bind (wpAny_seqItems hp rfl ?_)
  simp only [Int.toNat_natCast, hx]
  obtain ⟨y1, k1⟩ := fld_set y 0 (rawInt 0)
  obtain ⟨y2, k2⟩ := fld_set y1 2 .none
  refine wpAny_bind (wpAny_setField y rfl (by simp) (wpAny_bind (wpAny_setField y1 rfl (by simp) ?_)))
  exact wpAny_mono (stop_wp hh fun h' k3 => q h' fun b u hb e => k3 b u (k2 b u hb (k1 b u hb e))) (fun _ _ z => z.elim) fun _ _ z => z
theorem walk_drawn (hh : A.handled = none) (ne : a ≠ it) {tp : Addr} (ne2 : tp ≠ it) (hd : o.data = .set es ep t) (hf : t.fits es.size = true) {js : List Nat} (hj : ∀ j ∈ js, j < es.size) :
    WalksS P w A it [it, a, tp] [it] (fun x y => x = y) js.length (fun i v => ∃ j e, js[i]? = some j ∧ es[j]? = some e ∧ v = e.2) fun i s => SIt s.heap it a (.ref tp) i es.size ep ∧ s.heap.get? a = some o ∧ s.heap.get? tp = some { cls := .type "tuple", data := .seq (js.map fun (j : Nat) => rawInt j).toArray } where
  sub := fun b hb => by simp at hb; simp [hb]
  grefl := fun _ => rfl
  gtrans := fun _ _ _ h1 h2 => h1.trans h2
  frame := fun i s h' tk st _ k => ⟨k it (by simp) _ st.1, k a (by simp) _ st.2.1, k tp (by simp) _ st.2.2⟩
  item := fun i s Q E hi st hQ => by
    obtain ⟨j, hv⟩ : ∃ j, js[i]? = some j := ⟨_, List.getElem?_eq_getElem hi⟩
    obtain ⟨e, he⟩ : ∃ e, es[j]? = some e := ⟨_, Array.getElem?_eq_getElem (hj j (List.mem_of_getElem? hv))⟩
    refine si_nextD st.1 st.2.1 hd hf st.2.2 (p := j) (by simp [hv, rawInt]) he fun h' y' k => hQ _ _ ⟨j, e, hv, he, rfl⟩ ⟨y', k a o ne st.2.1, k tp _ ne2 st.2.2⟩ ⟨fun b u hb e => k b u (fun z => hb (by simp [z])) e, rfl, rfl, rfl, Nat.le_refl _⟩
  done := fun s Q E st hQ => si_stopD hh st.1 st.2.1 hd hf st.2.2 (by simp) fun h' k => hQ _ ⟨fun b u hb e => k b u (fun z => hb (by simp [z])) e, rfl, rfl, rfl, Nat.le_refl _⟩
  self := fun i s Q E st h => si_self st.1 h
end
end L2

/-! EXTENSION O: sorted of a set of ints -/
namespace L2
open PySem PySem.Spec PyProof.Rows
/-- a walk ahead through these ints -/
structure Ahead (P : Program) (w : World) (it a : Addr) (m : Nat) (ms : List Int) (s : Shared) (fp : List Addr) (vs : List Value) (St : Nat → Shared → Prop) : Prop where
  walk : ∀ A : Around, A.handled = none → WalksS P w A it fp [it] (fun x y => x = y) vs.length (fun i v => vs[i]? = some v) St
  st : St 0 s
  fp : ∀ b ∈ fp, b = a ∨ m ≤ b
  num : IntsAre vs (vs.map iOf)
  perm : (vs.map iOf).Perm ms
  it : m ≤ it
theorem ints_iOf : ∀ {vs : List Value}, (∀ v ∈ vs, ∃ n t, v = Value.int n t) → IntsAre vs (vs.map iOf)
  | [], _ => .nil
  | v :: vs, h => by
    obtain ⟨n, t, rfl⟩ := h v List.mem_cons_self
    exact .cons n t (ints_iOf fun v hv => h v (List.mem_cons_of_mem _ hv))
section
variable {P : Program} {w : World} {A : Around} {E : Value → Shared → Prop} {s : Shared} {a : Addr} {ms : List Int}
theorem WalksS.cast {A : Around} {I : Addr} {fp wr : List Addr} {G : Array GenState → Array GenState → Prop} {n n' : Nat} {Pv Pv' : Nat → Value → Prop} {St : Nat → Shared → Prop} (W : WalksS P w A I fp wr G n Pv St) (e : n = n') (h : ∀ i v, Pv i v → Pv' i v) : WalksS P w A I fp wr G n' Pv' St := by
  subst e
  exact ⟨W.sub, W.grefl, W.gtrans, W.frame, fun i s Q E hi st hQ => W.item i s Q E hi st fun v s' hP => hQ v s' (h i v hP), W.done, W.self⟩
theorem s_iter (hS : SetIs P w a (!(w.params.followText "set-order")) ms s.heap) {Q : Value → Shared → Prop}
    (q : ∀ (it : Addr) (h' : Heap) (d : Drawn) (fp : List Addr) (vs : List Value) (St : Nat → Shared → Prop), Ahead P w it a s.heap.objs.size ms { s with heap := h', drawn := d } fp vs St → (∀ b o, s.heap.get? b = some o → h'.get? b = some o) → Q (.ref it) { s with heap := h', drawn := d }) :
    wpAny (model P w) A (pyIter (.ref a)) Q E s := by
  obtain ⟨o, es, ep, t, ho, hx, hd, hI, rfl, hb, hf, hT, hl⟩ := hS
  have ty : s.TypeIs (.ref a) "set" := ⟨o, ho, hx.1⟩
  have la : a < s.heap.objs.size := Heap.lt_size ho
  refine wpAny_pyIter_slot ty F.slot_set_iter (wpAny_call_entry F.slot_set_iter ty entry_s_iter ?_ (F.args_set_iter_1 _))
  unfold Builtin.«frozenset.__iter__»
  refine wpAny_bind (wpAny_pure ?_)
  refine wpAny_bind ?_
  unfold Builtin.Frozenset.sizeOf setEntries
  refine wpAny_bind (wpAny_bind (wpAny_setState_of ho hd hf (wpAny_pure (wpAny_pure ?_))))
  refine wpAny_bind ?_
  unfold setDrawn setsByText
  refine wpAny_bind (wpAny_setState_of ho hd hf ?_)
  refine wpAny_bind (wpAny_bind (wpAny_askSetting (wpAny_pure (wpAny_pure ?_))))
  dsimp only
  have isI : ∀ v, v ∈ es.toList.map (·.2) → ∃ n t, v = Value.int n t := fun v hv => by
    obtain ⟨e, he, rfl⟩ := List.mem_map.mp hv
    obtain ⟨n, t, rfl⟩ := hI e he
    exact ⟨n, t, rfl⟩
  have fin : ∀ vs sl, Nxt P w a o es ep vs sl → vs.Perm (es.toList.map (·.2)) → wpAny (model P w) A.in1 (do let ep' ← setEpoch a; let i ← newFields "set_iterator" [rawInt 0, rawInt 0, .ref a, rawInt es.size, rawInt ep']; ret i)
      (fun fin s' => ∃ v, fin = Fin.done (Flow.ret v) ∧ ∃ T' r, s'.TypeIs v T' ∧ typeLookup (Value.type T') (Str.ofString "__next__") = pure (some r) ∧ Q v s') E s := by
    intro vs sl N pm
    refine wpAny_bind (wpAny_setEpoch_of ho hd hf (wpAny_bind (wpAny_newObj_type (wpAny_pure ⟨_, rfl, "set_iterator", _, ⟨_, Heap.get?_push_size _ rfl, rfl⟩, slot_si_next.lookup, ?_⟩))))
    have kk : ∀ b u, s.heap.get? b = some u → (s.heap.push { cls := .type "set_iterator", data := .fields [rawInt 0, rawInt 0, .ref a, rawInt es.size, rawInt ep].toArray }).get? b = some u := fun b u e => Heap.get?_push_of_some _ e
    have hvl : vs.length = es.size := by rw [pm.length_eq, List.length_map, Array.length_toList]
    refine q _ _ s.drawn [s.heap.objs.size, a] vs _ ⟨fun A' hh => walk_nxt hh (Nat.ne_of_lt la) hd hf N hvl, ⟨?_, kk _ _ ho⟩, fun b hb => ?_, ints_iOf fun v hv => isI v (pm.mem_iff.mp hv), ?_, Nat.le_refl _⟩ kk
    · rw [N.zero]
      exact Heap.get?_push_size _ rfl
    · simp only [List.mem_cons, List.not_mem_nil, or_false] at hb
      rcases hb with rfl | rfl
      · exact .inr (Nat.le_refl _)
      · exact .inl rfl
    · have z := pm.map iOf
      rwa [List.map_map] at z
  cases hbt : w.params.followText "set-order" with
  | true =>
    rw [if_neg (by show ¬ ((!(w.params.followText "set-order") && (!t.plain && decide (es.size > 1))) = true); rw [hbt]; simp)]
    exact wpAny_bind (wpAny_pure (fin _ _ (nxt_text hd hf hbt) ((pick_perm _ _).map _)))
  | false =>
    rw [hbt] at hl
    cases hp : (!t.plain && decide (es.size > 1)) with
    | false =>
      rw [if_neg (by show ¬ ((!(w.params.followText "set-order") && (!t.plain && decide (es.size > 1))) = true); rw [hp, hbt]; decide)]
      exact wpAny_bind (wpAny_pure (fin _ _ (nxt_slots hd hf hbt hl hT hp) .rfl))
    | true =>
      rw [if_pos (by show (!(w.params.followText "set-order") && (!t.plain && decide (es.size > 1))) = true; rw [hp, hbt]; decide)]
      refine wpAny_bind (wp_draw _ _ _ _ (by simp) fun js d pj => ?_)
      have hjl : js.length = es.size := by rw [pj.length_eq, List.length_range]
      have hj : ∀ j ∈ js, j < es.size := fun j hj => List.mem_range.mp (pj.mem_iff.mp hj)
      refine wpAny_bind (wpAny_newTuple ?_ (by rw [List.length_map, hjl]; exact fits_of_scanBound hb))
      have ho1 : (s.heap.push { cls := .type "tuple", data := .seq (js.map fun (i : Nat) => rawInt i).toArray }).get? a = some o := Heap.get?_push_of_some _ ho
      refine wpAny_bind (wpAny_setEpoch_of (s := { s with heap := s.heap.push { cls := .type "tuple", data := .seq (js.map fun (i : Nat) => rawInt i).toArray }, drawn := d }) ho1 hd hf (wpAny_bind (wpAny_newObj_type (wpAny_pure ⟨_, rfl, "set_iterator", _, ⟨_, Heap.get?_push_size _ rfl, rfl⟩, slot_si_next.lookup, ?_⟩))))
      have hz : (s.heap.push { cls := .type "tuple", data := .seq (js.map fun (i : Nat) => rawInt i).toArray }).objs.size = s.heap.objs.size + 1 := Heap.size_push ..
      have ht : (s.heap.push { cls := .type "tuple", data := .seq (js.map fun (i : Nat) => rawInt i).toArray }).get? s.heap.objs.size = some { cls := .type "tuple", data := .seq (js.map fun (i : Nat) => rawInt i).toArray } := Heap.get?_push_size _ rfl
      have pm : (js.map fun j => ((es[j]?).map (·.2)).getD .none).Perm (es.toList.map (·.2)) := by
        refine (pj.map _).trans (List.Perm.of_eq ?_)
        refine List.ext_getElem (by simp) fun i h1 h2 => ?_
        have h3 : i < es.size := by simpa using h2
        simp [h3]
      have kk : ∀ b u, s.heap.get? b = some u → ((s.heap.push { cls := .type "tuple", data := .seq (js.map fun (i : Nat) => rawInt i).toArray }).push { cls := .type "set_iterator", data := .fields [Value.ref s.heap.objs.size, rawInt 0, .ref a, rawInt es.size, rawInt ep].toArray }).get? b = some u := fun b u e => Heap.get?_push_of_some _ (Heap.get?_push_of_some _ e)
      refine q _ _ d [(s.heap.push { cls := .type "tuple", data := .seq (js.map fun (i : Nat) => rawInt i).toArray }).objs.size, a, s.heap.objs.size] (js.map fun j => ((es[j]?).map (·.2)).getD .none) _ ⟨fun A' hh => WalksS.cast (walk_drawn (js := js) hh (Nat.ne_of_lt (by rw [hz]; exact Nat.lt_succ_of_lt la)) (tp := s.heap.objs.size) (Nat.ne_of_lt (by rw [hz]; exact Nat.lt_succ_self _)) hd hf hj) (by simp) (fun i v hv => ?_), ⟨?_, kk _ _ ho, Heap.get?_push_of_some _ ht⟩, fun b hb => ?_, ints_iOf fun v hv => isI v (pm.mem_iff.mp hv), ?_, ?_⟩ kk
      · obtain ⟨j, e, h1, h2, rfl⟩ := hv
        rw [List.getElem?_map, h1]; simp [h2]
      · exact Heap.get?_push_size _ rfl
      · simp only [List.mem_cons, List.not_mem_nil, or_false] at hb
        rcases hb with rfl | rfl | rfl
        · exact .inr (by rw [hz]; exact Nat.le_succ _)
        · exact .inl rfl
        · exact .inr (Nat.le_refl _)
      · have z := pm.map iOf
        rwa [List.map_map (g := iOf) (l := es.toList)] at z
      · rw [hz]; exact Nat.le_succ _
end
end L2

/-! EXTENSION N: what a set holds, as a list; sorted of it -/
namespace L2
open PySem PySem.Spec PyProof.Rows
section
variable {P : Program} {w : World} {A : Around} {E : Value → Shared → Prop} {s : Shared} {a : Addr} {ms : List Int}
theorem SetIs.len {led : Bool} {h : Heap} (hS : SetIs P w a led ms h) : ms.length < scanBound := by
  obtain ⟨o, es, ep, t, ho, hx, hd, hI, rfl, hb, _⟩ := hS
  rw [List.length_map, Array.length_toList]; exact hb
theorem items_all {vs : List Value} {acc : Array Value} (h : ItemsOf (fun i v => vs[i]? = some v) acc vs.length) : acc.toList = vs := by
  obtain ⟨h1, h2⟩ := h
  refine List.ext_getElem? fun i => ?_
  cases e : acc.toList[i]? with
  | none =>
    have := List.getElem?_eq_none_iff.mp e
    rw [Array.length_toList, h1] at this
    rw [List.getElem?_eq_none this]
  | some v => exact (h2 i v (by rw [← Array.getElem?_toList]; exact e)).symm
theorem collect_set (hh : A.handled = none) (hS : SetIs P w a (!(w.params.followText "set-order")) ms s.heap) {Q : List Value → Shared → Prop}
    (q : ∀ (h' : Heap) (tk : Nat) (d : Drawn) (vs : List Value), IntsAre vs (vs.map iOf) → (vs.map iOf).Perm ms → s.heap.objs.size < h'.objs.size → (∀ b o, s.heap.get? b = some o → h'.get? b = some o) → Q vs { s with heap := h', toks := tk, drawn := d }) :
    wpAny (model P w) A (collect (.ref a)) Q E s := by
  have hlen := hS.len
  obtain ⟨o, ho, hc⟩ : ∃ o, s.heap.get? a = some o ∧ o.cls = .type "set" := by
    obtain ⟨o, es, ep, t, ho, hx, _⟩ := hS
    exact ⟨o, ho, hx.1⟩
  have la : a < s.heap.objs.size := Heap.lt_size ho
  unfold collect
  refine wpAny_bind (wpAny_runValue (codeAny_builtin entry_proto_collect' ?_))
  show wpAny _ _ (newList [] >>= fun l => again (.builtin "list.__iadd__" ⟨[l, .ref a], []⟩)) _ _ s
  refine wpAny_bind (wpAny_newList (wpAny_pure ⟨Code.quiet_builtin _ (by decide +kernel), codeAny_builtin entry_list_iadd' ?_⟩))
  rw [Around.under_plainId (show plainId "list.__iadd__" = true by decide +kernel) _]
  show wpAny _ _ (Builtin.List.listExtendWith (.ref s.heap.objs.size) (.ref a) (.ref s.heap.objs.size)) _ _ { s with heap := s.heap.push (seqObj "list" #[] 0) }
  have hS1 : SetIs P w a (!(w.params.followText "set-order")) ms (s.heap.push (seqObj "list" #[] 0)) := hS.at fun o e => Heap.get?_push_of_some _ e
  have hz : (s.heap.push (seqObj "list" #[] 0)).objs.size = s.heap.objs.size + 1 := Heap.size_push ..
  have ty : Shared.TypeIs { s with heap := s.heap.push (seqObj "list" #[] 0) } (.ref a) "set" := ⟨o, Heap.get?_push_of_some _ ho, hc⟩
  have hL : (s.heap.push (seqObj "list" #[] 0)).get? s.heap.objs.size = some (seqObj "list" #[] 0) := Heap.get?_push_size _ rfl
  unfold Builtin.List.listExtendWith
  refine wpAny_bind (wpAny_typeOf ty ?_)
  have e1 : Builtin.List.listSameRef (.ref s.heap.objs.size) (.ref a) = false := by simp [Builtin.List.listSameRef]; exact Nat.ne_of_gt la
  rw [if_neg (by rw [e1]; decide)]
  refine wpAny_bind (s_iter (s := { s with heap := s.heap.push (seqObj "list" #[] 0) }) hS1 fun it h1 d fp vs St H kk => ?_)
  have ty1 : Shared.TypeIs { s with heap := h1, drawn := d } (.ref a) "set" := ⟨o, kk _ _ (Heap.get?_push_of_some _ ho), hc⟩
  refine wpAny_bind (wpAny_holding ?_)
  unfold Builtin.List.listLengthHint
  refine wpAny_bind (wpAny_specialOf ty1 len_set ?_)
  generalize hid : ("set.__len__" : String) = id0
  wp_delta
  rw [show splitId id0 = some ("set", "__len__") from by subst hid; decide +kernel]
  subst hid
  refine wpAny_bind (wpAny_isInstance (b := true) ty1 (by rw [isSubtype_type]; kernel_rfl) ?_)
  rw [if_neg (by decide)]
  dsimp only
  rw [if_pos (by decide +kernel)]
  refine wpAny_bind (wpAny_typeOf ty1 (wpAny_pure ?_))
  rw [if_pos (by decide +kernel)]
  refine wpAny_bind (wpAny_rule (wpAny_bind ?_))
  have L1 : h1.get? s.heap.objs.size = some (seqObj "list" #[] 0) := kk _ _ hL
  unfold Builtin.List.listTouch
  refine wpAny_bind (listUpdate_at (s := { s with heap := h1, drawn := d }) L1 rfl ?_)
  have L2 := Heap.get?_update_self (Obj.mapSeq (·.push Value.none)) L1 rfl
  refine listUpdate_at (s := { s with heap := h1.update s.heap.objs.size (Obj.mapSeq (·.push Value.none)), drawn := d }) L2 rfl ?_
  have L3 := Heap.get?_update_self (Obj.mapSeq (·.pop)) L2 rfl
  have nf : s.heap.objs.size ∉ fp := fun z => by
    rcases H.fp _ z with e | e
    · exact Nat.ne_of_gt la e
    · rw [hz] at e; exact absurd e (Nat.not_le.mpr (Nat.lt_succ_self _))
  have oth : ∀ b u, b ≠ s.heap.objs.size → h1.get? b = some u → ((h1.update s.heap.objs.size (Obj.mapSeq (·.push Value.none))).update s.heap.objs.size (Obj.mapSeq (·.pop))).get? b = some u := fun b u hb e =>
    (Heap.get?_update_other _ _ (Ne.symm hb)).trans ((Heap.get?_update_other _ _ (Ne.symm hb)).trans e)
  have W := H.walk A.in1 (by simpa using hh)
  have st1 : St 0 { s with heap := (h1.update s.heap.objs.size (Obj.mapSeq (·.push Value.none))).update s.heap.objs.size (Obj.mapSeq (·.pop)), drawn := d } := W.frame 0 { s with heap := h1, drawn := d } _ s.toks H.st (Nat.le_refl _) fun b hb o e => oth b o (fun z => nf (z ▸ hb)) e
  have hvl : vs.length = ms.length := by rw [← H.perm.length_eq, List.length_map]
  refine wpAny_pure ⟨plainId_quiet F.plain_extend_loop _, codeAny_extend_loopS (A := A) W (fits_of_scanBound (by (first | lia | omega))) s.heap.objs.size nf (.ref s.heap.objs.size) _ 0 _ #[] _ rfl (Nat.zero_le _) st1 L3 (ItemsOf.nil _) fun s2 acc c mv hL2 hacc => ?_⟩
  have ms2 := mv.heap
  obtain ⟨h2, g2, d2, tk2, os2⟩ := s2
  obtain rfl : s.gens = g2 := mv.gens
  obtain rfl : d2 = d := mv.drawn
  obtain rfl : os2 = s.os := mv.os
  dsimp only
  refine wpAny_bind (wpAny_load hL2 (wpAny_pure ?_))
  rw [items_all hacc]
  refine q _ _ _ vs H.num H.perm (Heap.lt_size hL2) fun b o e => ms2 b o ?_ (oth b o (Nat.ne_of_lt (Heap.lt_size e)) (kk _ _ (Heap.get?_push_of_some _ e)))
  have hb := Heap.lt_size e
  simp only [List.mem_cons, List.not_mem_nil, or_false, not_or]
  refine ⟨Nat.ne_of_lt hb, Nat.ne_of_lt (Nat.lt_of_lt_of_le hb (Nat.le_trans (Nat.le_succ _) ?_))⟩
  have := H.it
  rw [hz] at this
  exact this
end
end L2

/-! EXTENSION M: set(list) and sorted(set) as rules -/
namespace L2
open PySem PySem.Spec PyProof.Rows
/-- list.sort sorts a list of fewer than m unlike ints -/
def SortsTo (P : Program) (w : World) (m : Nat) : Prop := ∀ {A : Around} {E : Value → Shared → Prop} {s : Shared} {a : Addr} {vs : List Value} {ns : List Int} {n : Nat} {R : Fin → Shared → Prop}, s.heap.get? a = some (seqObj "list" vs.toArray n) → IntsAre vs ns → ns.Nodup → vs.length < m →
  (∀ (out : Array Value) (ns' : List Int), IntsAre out.toList ns' → ns'.Perm ns → ns'.Pairwise (· ≤ ·) → R (.done (.ret .none)) { s with heap := sortedHeap s.heap a vs out }) → wpAny (model P w) A (Builtin.«list.sort» ⟨[.ref a], []⟩) R E s
theorem sorts64 {P : Program} {w : World} : SortsTo P w 64 := fun h1 h2 _ h3 h4 => list_sort_tree h1 h2 h3 h4
theorem sortedHeap_old {h : Heap} {a b : Addr} {vs : List Value} {out : Array Value} {o : Obj} (ne : b ≠ a) (e : h.get? b = some o) : (sortedHeap h a vs out).get? b = some o := by
  unfold sortedHeap
  exact (Heap.get?_update_other _ _ (Ne.symm ne)).trans (Heap.get?_push_of_some _ (Heap.get?_push_of_some _ ((Heap.get?_update_other _ _ (Ne.symm ne)).trans e)))
theorem sortedHeap_self {h : Heap} {a : Addr} {vs : List Value} {n : Nat} {out : Array Value} (e : h.get? a = some (seqObj "list" vs.toArray n)) : ∃ k, (sortedHeap h a vs out).get? a = some (seqObj "list" out k) := by
  unfold sortedHeap
  have e1 := get?_update_seq e (fun _ => (#[] : Array Value))
  have e2 := Heap.get?_push_of_some (seqObj "list" #[] 0) (Heap.get?_push_of_some (seqObj "tuple" vs.toArray 0) e1)
  exact ⟨_, get?_update_seq e2 fun _ => out⟩
section
variable {P : Program} {w : World} {A : Around} {E : Value → Shared → Prop} {s : Shared} {a : Addr} {ms : List Int} {m : Nat}
theorem raw_sortedSet (LS : SortsTo P w m) (hh : A.handled = none) (hS : SetIs P w a (!(w.params.followText "set-order")) ms s.heap) (nd : ms.Nodup) (hm : ms.length < m) {Q : Value → Shared → Prop}
    (q : ∀ (h' : Heap) (tk : Nat) (d : Drawn) (l : Addr) (out : Array Value) (n : Nat) (ns : List Int), s.heap.objs.size ≤ l → h'.get? l = some (seqObj "list" out n) → IntsAre out.toList ns → ns.Perm ms → ns.Pairwise (· ≤ ·) → (∀ b o, s.heap.get? b = some o → h'.get? b = some o) → Q (.ref l) { s with heap := h', toks := tk, drawn := d }) :
    wpAny (model P w) A (call (.builtin "sorted") [.ref a]) Q E s := by
  have hlen := hS.len
  refine Calls.call_function_entry kind_sorted plain_sorted entry_sorted (args_sorted1 _) ?_
  unfold Builtin.«sorted»
  refine wpAny_bind (m := checkCount "sorted" 1 1 _) (wpAny_pure (wpAny_bind (collect_set (by simpa using hh) hS fun h1 tk d vs hI pm hsz kk => ?_)))
  have hvl : vs.length = ms.length := by rw [← pm.length_eq, List.length_map]
  refine wpAny_bind (wpAny_newList ?_ (fits_of_scanBound (by (first | lia | omega))))
  have hL : (h1.push (seqObj "list" vs.toArray 0)).get? h1.objs.size = some (seqObj "list" vs.toArray 0) := Heap.get?_push_size _ rfl
  refine wpAny_bind (wpAny_holding (wpAny_call_entry (s := { s with heap := h1.push (seqObj "list" vs.toArray 0), toks := tk, drawn := d }) slot_list_sort ⟨_, hL, rfl⟩ entry_list_sort (LS hL hI (pm.nodup_iff.mpr nd) (by (first | lia | omega)) fun out ns a1 a2 a3 => ⟨_, rfl, ?_⟩) (args_list_sort _)))
  obtain ⟨k, ek⟩ := sortedHeap_self (out := out) hL
  refine wpAny_pure ⟨_, rfl, q _ tk d h1.objs.size out k ns (Nat.le_of_lt hsz) ek a1 (a2.trans pm) a3 fun b o e => sortedHeap_old (Nat.ne_of_lt (Heap.lt_size (kk b o e))) (Heap.get?_push_of_some _ (kk b o e))⟩
end
def setO (P : Program) (w : World) (a : Addr) (ms : List Int) : HO := .ext (SetIs P w a (!(w.params.followText "set-order")) ms)
theorem Inv.drew {X : Cx} {pins : List (Addr × Obj)} {σ : St} {H : Hp} {s : Shared} (I : Inv X pins σ H s) (d : Drawn) : Inv X pins σ H { s with drawn := d } := ⟨I.ok, I.os, I.bare, I.base, I.loc, I.cell, I.free, I.freeC, I.pin, I.hok, I.len⟩
def rSetOf (P : Program) (w : World) (K : PySem.W.Frag) : List V → Hp → VK → Prop := fun xs H Q => ∃ (p : Addr) (ns : List Int), xs = [.ref p] ∧ SqL K H p (ns.map V.int) ∧ ns.length + 1 < scanBound ∧ ∀ (a : Addr) (ms : List Int), H a = none → ms.Nodup → (∀ x, x ∈ ms ↔ x ∈ ns) → Q (.ref a) (upd H a (setO P w a ms))
theorem call_setK (P : Program) (w : World) (K : PySem.W.Frag) {X : Cx} (hc : X.calm = true) (e1 : X.prog = P := by rfl) (e2 : X.w = w := by rfl) (e3 : X.K = K := by rfl) : CallR X (.type "set") (rSetOf P w K) := by
  subst e1 e2 e3
  intro pins s σ H xs us Q I r h
  obtain ⟨p, ns, rfl, hl, hlen, q⟩ := h
  obtain ⟨u, rfl, ru⟩ := vals1 r
  cases (show u = Value.ref p from ru)
  obtain ⟨vs, hi, hv⟩ := I.intItems hl
  have hl2 := hi.length
  refine raw_setOf (items := vs.toArray) (I.ok.hd hc) hv (by simpa using hi) (by simpa [hl2] using hlen) fun h' tk ms S nd mem kk => ?_
  refine ⟨.ref s.heap.objs.size, _, I.laid (t' := tk) kk (Nat.le_refl _) (show ObjOk X.prog X.w _ _ _ (setO X.prog X.w s.heap.objs.size ms) from ⟨S, ?_, fun g1 g2 z k2 => z.at k2⟩), rfl, q _ ms (I.hok.fresh (Nat.le_refl _)) nd mem⟩
  obtain ⟨o, es, ep, t, ho, _⟩ := S
  exact ⟨o, ho⟩
def rSortedS (P : Program) (w : World) (m : Nat) : List V → Hp → VK → Prop := fun xs H Q => ∃ (a : Addr) (ms : List Int), xs = [.ref a] ∧ H a = some (setO P w a ms) ∧ ms.Nodup ∧ ms.length < m ∧ ∀ (l : Addr) (ks : List Int), H l = none → ks.Perm ms → ks.Pairwise (· ≤ ·) → Q (.ref l) (upd H l (.lst (ks.map V.int)))
theorem call_sortedS (P : Program) (w : World) (m : Nat) (LS : SortsTo P w m) {X : Cx} (hc : X.calm = true) (e1 : X.prog = P := by rfl) (e2 : X.w = w := by rfl) : CallR X (.builtin "sorted") (rSortedS P w m) := by
  subst e1 e2
  intro pins s σ H xs us Q I r h
  obtain ⟨a, ms, rfl, ha, nd, hm, q⟩ := h
  obtain ⟨u, rfl, ru⟩ := vals1 r
  cases (show u = Value.ref a from ru)
  obtain ⟨S, _⟩ := (show ObjOk X.prog X.w H s.heap a (setO X.prog X.w a ms) from I.hok a _ ha)
  have hlen := S.len
  refine raw_sortedSet LS (I.ok.hd hc) S nd hm fun h' tk d l out n ns hl ho a1 a2 a3 kk => ?_
  have hz : (ns.map V.int).length ≤ sizeLine := by
    rw [List.length_map, a2.length_eq]
    exact fits_of_scanBound hlen
  exact ⟨.ref l, _, (I.laid (t' := tk) kk hl (show ObjOk X.prog X.w _ _ _ (.lst (ns.map V.int)) from ⟨hz, out.toList, n, vals_ints a1, by simpa using ho⟩)).drew d, rfl, q l ns (I.hok.fresh hl) a2 a3⟩
end L2

/-! EXTENSION L: list(range(n)) -/
namespace L2
open PySem PySem.Spec PyProof.Rows
def upN (n : Nat) : List Int := (List.range n).map fun (i : Nat) => (i : Int)
def tListRng (te : TE) : TE := fun σ H Q => te σ H fun x H1 => ∃ j : Int, x = .int j ∧ 0 ≤ j ∧ j ≤ 10000 ∧ ∀ l, H1 l = none → Q (.ref l) (upd H1 l (.lst ((upN j.toNat).map V.int)))
theorem pe_listRng {X : Cx} {e : Expr} {te : TE} {p p2 pos pos2 : Pos} (hc : X.calm = true) (hg : Gl X "list") (hm : X.mg "list" = none) (hg2 : Gl X "range") (hm2 : X.mg "range" = none) (ha : PE X e te)
    (hs : starEach [e] X.env = [(false, eval e X.env)] := by rfl)
    (hs2 : starEach [.Call (.Name "range" p2) [e] [] pos2] X.env = [(false, eval (.Call (.Name "range" p2) [e] [] pos2) X.env)] := by rfl) :
    PE X (.Call (.Name "list" p) [.Call (.Name "range" p2) [e] [] pos2] [] pos) (tListRng te) := by
  intro pins s σ H Q I h
  refine Call_ (ld_blt I hg hm PyProof.Rows.Boot.«list» (PyProof.Rows.callWith_type1 ?_ hs2 rfl))
  rw [hs2]
  refine Calls.spliced_cons (Call_ (ld_blt I hg2 hm2 boot_range (PyProof.Rows.callWith_type1 ?_ hs rfl)))
  rw [hs]
  refine Calls.spliced_cons (thn (ha pins s σ H _ I h) fun u s1 ⟨x, H1, I1, r1, q1⟩ => Calls.spliced_nil ?_)
  obtain ⟨j, rfl, j0, j1, q⟩ := q1
  obtain ⟨t, rfl⟩ := (show ∃ t, u = Value.int j t from r1)
  refine call_range_1 (Calls.spliced_nil ?_)
  refine call_list_range (n := j.toNat) (I1.ok.hd hc) (IsRange.new ..) (small_one (by (first | lia | omega)) (by (first | lia | omega)) (by (first | lia | omega)) (by (first | lia | omega))) (by rw [rangeSize_one]; split <;> (first | lia | omega)) (Nat.le_trans (show j.toNat ≤ 10000 by (first | lia | omega)) (by decide)) fun h' tk acc c hk hS hacc => ?_
  have hsz : (s1.heap.push { cls := .type "range", data := .fields #[.int 0 s1.toks, .int j t, .int 1 (s1.toks + 1)] }).objs.size = s1.heap.objs.size + 1 := Heap.size_push ..
  have kk : ∀ b o, s1.heap.get? b = some o → h'.get? b = some o := fun b o e => hk b o (Heap.get?_push_of_some _ e)
  dsimp only at hS ⊢
  rw [hsz] at hS ⊢
  refine ⟨.ref (s1.heap.objs.size + 1), _, I1.laid (a := s1.heap.objs.size + 1) (o := .lst ((upN j.toNat).map V.int)) (t' := tk) kk (Nat.le_succ _) ⟨?_, acc.toList, c, ?_, by simpa using hS⟩, rfl, q _ (I1.hok.fresh (Nat.le_succ _))⟩
  · rw [List.length_map, upN, List.length_map, List.length_range, sizeLine_eq]; (first | lia | omega)
  · obtain ⟨a1, a2⟩ := hacc
    refine vals_of_at (by simp [upN, a1]) fun i x u h1 h2 => ?_
    obtain ⟨n, h3, rfl⟩ := ofGetI h1
    obtain ⟨t', rfl⟩ := a2 i u (by simpa using h2)
    have h4 : n = (i : Int) := by
      rw [upN, List.getElem?_map] at h3
      obtain ⟨k, h5, rfl⟩ := Option.map_eq_some_iff.mp h3
      have := (List.getElem?_eq_some_iff.mp h5).2
      rw [List.getElem_range] at this
      rw [this]
    subst h4
    exact ⟨t', by simp⟩
/-- the rest of a block, hidden until it is reached -/
theorem seq_hide {a b : TS} {D : Ends} {σ : St} {H : Hp} (h : ∀ B : TS, B = b → tSeq a B D σ H) : tSeq a b D σ H := h b rfl
/-- a block cut behind its first statement -/
theorem seq_cut {a b : TS} {D : Ends} {σ : St} {H : Hp} (R : Hp → Prop) (hb : ∀ H', R H' → b D σ H') (ha : ∀ B : TS, (∀ H', R H' → B D σ H') → tSeq a B D σ H) : tSeq a b D σ H := ha b hb
theorem seq_cutS {a b : TS} {D : Ends} {σ : St} {H : Hp} (R : St → Hp → Prop) (hb : ∀ σ' H', R σ' H' → b D σ' H') (ha : ∀ B : TS, (∀ σ' H', R σ' H' → B D σ' H') → tSeq a B D σ H) : tSeq a b D σ H := ha b hb
/-- loops whose word for the next round stays hidden -/
theorem for_rangeH {lo : Int} {n : Nat} {g : TG} {tb : TS} {D : Ends} {σ : St} {H : Hp} (Pv : Nat → St → Hp → Prop) (h0 : Pv 0 σ H)
    (hs : ∀ (N : St → Hp → Prop) (i : Nat), (∀ σ' H', Pv (i + 1) σ' H' → N σ' H') → ∀ σ H, i < n → Pv i σ H → g (.int (lo + i)) σ H fun σ2 H2 => tb { D with nx := N, ct := N, bk := D.nx } σ2 H2) (hd : ∀ σ H, Pv n σ H → D.nx σ H) :
    ∃ W : Nat → Nat → St → Hp → Prop, (∃ m, W 0 m σ H) ∧ ∀ i m σ H, W i m σ H →
      ((Itr lo n).stop i H ∧ D.nx σ H) ∨ ((Itr lo n).go i H ∧ ∃ N : St → Hp → Prop, (∀ σ' H', N σ' H' → ∃ m', m' < m ∧ W (i + 1) m' σ' H') ∧ ∀ x H', (Itr lo n).yld i H x H' → g x σ H' fun σ2 H2 => tb { D with nx := N, ct := N, bk := D.nx } σ2 H2) :=
  for_range Pv h0 (fun i σ H hi p => hs (Pv (i + 1)) i (fun _ _ z => z) σ H hi p) hd
end L2

set_option maxHeartbeats 4000000
local macro_rules | `(tactic| walk_at "rd") => `(tactic| ((try dsimp only [L2.tSeq, L2.tIfS, L2.tOr, L2.tAnd, L2.tNot, L2.tTest, L2.tB, L2.tOp, L2.tUn, L2.tCB, L2.tCons, L2.tNil, L2.tVar, L2.tC, L2.rI0, L2.rI, L2.rU, L2.tNever, L2.tNext, L2.tDrop, L2.tRet, L2.tRetN, L2.tAsg, L2.gName, L2.gTup, L2.gCons, L2.gNil, L2.tCall, L2.tBM, L2.tBM0, L2.rAppend, L2.rClear, L2.rPop, L2.tLst, L2.tTup, L2.rIxL, L2.rIxT, L2.rEq, L2.rNe, L2.rCat, L2.tAndV, L2.tOrV, L2.tNotV, L2.tIf, L2.tBreak, L2.tCont, L2.rIsi, L2.CMul, L2.CDiv, L2.cxK, L2.blkK, L2.capSt, L2.start, List.map_cons, List.map_nil, List.length_cons, List.length_nil, List.replicate_zero, List.replicate_succ, List.nil_append, List.cons_append, List.append_nil, Nat.add_sub_cancel, Nat.reduceAdd, Nat.reduceSub, Nat.sub_self, Nat.zero_add, List.set_cons_zero, List.set_cons_succ, List.getElem?_cons_zero, List.getElem?_cons_succ, Option.join_some, Option.some.injEq, exists_eq_left', exists_eq_left, exists_and_left, exists_eq, exists_eq', List.cons.injEq, L2.V.ref.injEq, L2.V.int.injEq, L2.V.bl.injEq, L2.V.str.injEq, and_true, true_and, if_true, if_false, decide_eq_true_eq, Bool.not_eq_true', Bool.false_eq_true, reduceCtorEq, L2.scalII, L2.scalNI, L2.scalIN, L2.scalBB, L2.scalSS, L2.scalNN, decide_eq_false_iff_not, L2.V.ty.injEq, and_assoc, L2.tTruth, L2.truBl, L2.rLenL, L2.rLenT, L2.rListOf, L2.rMaxL, L2.rMinL, L2.rSortedL, L2.rEqI, L2.rNeI, L2.rEqII, L2.rNeII, L2.tDisp1, L2.tDGet, L2.tDGet2, L2.tDNotIn, L2.tDIn, L2.sDPut, L2.tDNewT, L2.tMinS, L2.rSumT, L2.rSumV, L2.rSumL, L2.rItems, L2.rValues, L2.tSl, L2.tPart, L2.tNoPart, L2.rSlL, L2.tListRev, L2.tChain, L2.rIsiE, L2.rCount, L2.rIndex, L2.tRaise, L2.vC, L2.tListRng, L2.rSetOf, L2.rSortedS]); (try simp only [L2.tSeq, L2.tIfS, L2.tOr, L2.tAnd, L2.tNot, L2.tTest, L2.tB, L2.tOp, L2.tUn, L2.tCB, L2.tCons, L2.tNil, L2.tVar, L2.tC, L2.rI0, L2.rI, L2.rU, L2.tNever, L2.tNext, L2.tDrop, L2.tRet, L2.tRetN, L2.tAsg, L2.gName, L2.gTup, L2.gCons, L2.gNil, L2.tCall, L2.tBM, L2.tBM0, L2.rAppend, L2.rClear, L2.rPop, L2.tLst, L2.tTup, L2.rIxL, L2.rIxT, L2.rEq, L2.rNe, L2.rCat, L2.tAndV, L2.tOrV, L2.tNotV, L2.tIf, L2.tBreak, L2.tCont, L2.rIsi, L2.CMul, L2.CDiv, L2.cxK, L2.blkK, L2.capSt, L2.start, List.map_cons, List.map_nil, List.length_cons, List.length_nil, List.replicate_zero, List.replicate_succ, List.nil_append, List.cons_append, List.append_nil, Nat.add_sub_cancel, Nat.reduceAdd, Nat.reduceSub, Nat.sub_self, Nat.zero_add, List.set_cons_zero, List.set_cons_succ, List.getElem?_cons_zero, List.getElem?_cons_succ, Option.join_some, Option.some.injEq, exists_eq_left', exists_eq_left, exists_and_left, exists_eq, exists_eq', List.cons.injEq, L2.V.ref.injEq, L2.V.int.injEq, L2.V.bl.injEq, L2.V.str.injEq, and_true, true_and, if_true, if_false, decide_eq_true_eq, Bool.not_eq_true', Bool.false_eq_true, reduceCtorEq, L2.scalII, L2.scalNI, L2.scalIN, L2.scalBB, L2.scalSS, L2.scalNN, decide_eq_false_iff_not, L2.V.ty.injEq, and_assoc, L2.tTruth, L2.truBl, L2.rLenL, L2.rLenT, L2.rListOf, L2.rMaxL, L2.rMinL, L2.rSortedL, L2.rEqI, L2.rNeI, L2.rEqII, L2.rNeII, L2.tDisp1, L2.tDGet, L2.tDGet2, L2.tDNotIn, L2.tDIn, L2.sDPut, L2.tDNewT, L2.tMinS, L2.rSumT, L2.rSumV, L2.rSumL, L2.rItems, L2.rValues, L2.tSl, L2.tPart, L2.tNoPart, L2.rSlL, L2.tListRev, L2.tChain, L2.rIsiE, L2.rCount, L2.rIndex, L2.tRaise, L2.vC, L2.tListRng, L2.rSetOf, L2.rSortedS])))
local macro_rules | `(tactic| walk_at "rdT") => `(tactic| ((try dsimp only [L2.ttNil]); (walk_at "rd")))
/-! THE MATHEMATICS A: joints and spans -/
namespace FR

/-- one piece: the turn ahead of it, its length; the place and the way (1 or -1) -/
def stepJ (s : Int × Int) (z : Int × Int) : Int × Int := (s.1 + (if z.1 = 1 then -s.2 else s.2) * z.2, if z.1 = 1 then -s.2 else s.2)
def scanJ (s : Int × Int) : List (Int × Int) → List Int
  | [] => []
  | z :: r => (stepJ s z).1 :: scanJ (stepJ s z) r
theorem scanJ_snoc (zs : List (Int × Int)) (z : Int × Int) : ∀ s, scanJ s (zs ++ [z]) = scanJ s zs ++ [(stepJ (zs.foldl stepJ s) z).1] := by
  induction zs with
  | nil => intro s; rfl
  | cons y r ih => intro s; simp only [List.cons_append, scanJ, ih, List.foldl_cons]
theorem scanJ_length (zs : List (Int × Int)) : ∀ s, (scanJ s zs).length = zs.length := by
  induction zs with
  | nil => intro s; rfl
  | cons y r ih => intro s; simp only [scanJ, List.length_cons, ih]
/-- the turns with the one that no hinge has -/
def zipJ (rs fs : List Int) : List (Int × Int) := ((0 : Int) :: fs).zip rs
def jointsL (rs fs : List Int) : List Int := 0 :: scanJ (0, 1) (zipJ rs fs)
theorem last_scanJ (zs : List (Int × Int)) : (0 :: scanJ (0, 1) zs)[zs.length]? = some (zs.foldl stepJ (0, 1)).1 := by
  have key : ∀ (zs : List (Int × Int)) (s : Int × Int), (s.1 :: scanJ s zs)[zs.length]? = some (zs.foldl stepJ s).1 := by
    intro zs
    induction zs with
    | nil => intro s; rfl
    | cons y r ih =>
      intro s
      simp only [scanJ, List.length_cons, List.getElem?_cons_succ, List.foldl_cons]
      exact ih (stepJ s y)
  exact key zs (0, 1)
/-- the way is 1 or -1 -/
theorem way_one (zs : List (Int × Int)) : (zs.foldl stepJ (0, 1)).2 = 1 ∨ (zs.foldl stepJ (0, 1)).2 = -1 := by
  have key : ∀ (zs : List (Int × Int)) (s : Int × Int), (s.2 = 1 ∨ s.2 = -1) → (zs.foldl stepJ s).2 = 1 ∨ (zs.foldl stepJ s).2 = -1 := by
    intro zs
    induction zs with
    | nil => intro s h; exact h
    | cons y r ih =>
      intro s h
      refine ih _ ?_
      unfold stepJ
      split <;> dsimp only <;> (first | lia | omega)
  exact key zs (0, 1) (.inl rfl)
theorem take_snoc {α : Type} {l : List α} {i : Nat} {x : α} (h : l[i]? = some x) : l.take (i + 1) = l.take i ++ [x] := by
  rw [List.take_add_one, h]; rfl

/-! ### greatest and least -/
def maxZ (ns : List Int) : Int := ns.foldl max 0
def minZ (ns : List Int) : Int := ns.foldl min 0
theorem maxZ_spec : ∀ (ns : List Int) (a : Int), (ns.foldl max a = a ∨ ns.foldl max a ∈ ns) ∧ a ≤ ns.foldl max a ∧ ∀ x ∈ ns, x ≤ ns.foldl max a := by
  intro ns
  induction ns with
  | nil => intro a; exact ⟨.inl rfl, Int.le_refl a, fun x hx => nomatch hx⟩
  | cons y r ih =>
    intro a
    obtain ⟨h1, h2, h3⟩ := ih (max a y)
    rw [List.foldl_cons]
    refine ⟨?_, by (first | lia | omega), fun x hx => ?_⟩
    · rcases h1 with h1 | h1
      · by_cases hy : a ≤ y
        · right; rw [h1, Int.max_eq_right hy]; exact List.mem_cons_self
        · left; rw [h1]; (first | lia | omega)
      · right; exact List.mem_cons_of_mem _ h1
    · rcases List.mem_cons.mp hx with rfl | hx
      · (first | lia | omega)
      · exact h3 x hx
theorem minZ_spec : ∀ (ns : List Int) (a : Int), (ns.foldl min a = a ∨ ns.foldl min a ∈ ns) ∧ ns.foldl min a ≤ a ∧ ∀ x ∈ ns, ns.foldl min a ≤ x := by
  intro ns
  induction ns with
  | nil => intro a; exact ⟨.inl rfl, Int.le_refl a, fun x hx => nomatch hx⟩
  | cons y r ih =>
    intro a
    obtain ⟨h1, h2, h3⟩ := ih (min a y)
    rw [List.foldl_cons]
    refine ⟨?_, by (first | lia | omega), fun x hx => ?_⟩
    · rcases h1 with h1 | h1
      · by_cases hy : y ≤ a
        · right; rw [h1, Int.min_eq_right hy]; exact List.mem_cons_self
        · left; rw [h1]; (first | lia | omega)
      · right; exact List.mem_cons_of_mem _ h1
    · rcases List.mem_cons.mp hx with rfl | hx
      · (first | lia | omega)
      · exact h3 x hx
theorem max_is {ns : List Int} {M : Int} (h0 : (0 : Int) ∈ ns) (hm : M ∈ ns) (h : ∀ a ∈ ns, a ≤ M) : M = maxZ ns := by
  obtain ⟨h1, h2, h3⟩ := maxZ_spec ns 0
  unfold maxZ
  have a1 := h3 M hm
  rcases h1 with e | e
  · rw [e] at a1 ⊢; have := h 0 h0; (first | lia | omega)
  · have := h _ e; (first | lia | omega)
theorem min_is {ns : List Int} {M : Int} (h0 : (0 : Int) ∈ ns) (hm : M ∈ ns) (h : ∀ a ∈ ns, M ≤ a) : M = minZ ns := by
  obtain ⟨h1, h2, h3⟩ := minZ_spec ns 0
  unfold minZ
  have a1 := h3 M hm
  rcases h1 with e | e
  · rw [e] at a1 ⊢; have := h 0 h0; (first | lia | omega)
  · have := h _ e; (first | lia | omega)
def spanL (rs fs : List Int) : Int := maxZ (jointsL rs fs) - minZ (jointsL rs fs)
theorem zero_mem_joints (rs fs : List Int) : (0 : Int) ∈ jointsL rs fs := List.mem_cons_self
theorem joints_length {rs fs : List Int} (h : fs.length + 1 = rs.length) : (jointsL rs fs).length = rs.length + 1 := by
  unfold jointsL zipJ
  rw [List.length_cons, scanJ_length, List.length_zip, List.length_cons]
  (first | lia | omega)

/-- a rule, a folding of it -/
structure IsRule (rs : List Int) : Prop where
  some : 1 ≤ rs.length
  few : rs.length ≤ 12
  lo : ∀ x ∈ rs, 1 ≤ x
  hi : ∀ x ∈ rs, x ≤ 60
structure IsFold (rs fs : List Int) : Prop where
  len : fs.length + 1 = rs.length
  two : ∀ x ∈ fs, x = 0 ∨ x = 1
/-- sorted: the first, the last -/
theorem sorted_first {ms ns : List Int} (p : ms.Perm ns) (o : ms.Pairwise (· ≤ ·)) {x : Int} (h : ms[0]? = some x) : x ∈ ns ∧ ∀ a ∈ ns, x ≤ a := by
  cases ms with
  | nil => cases h
  | cons y r =>
    cases h
    refine ⟨p.subset List.mem_cons_self, fun a ha => ?_⟩
    rcases List.mem_cons.mp (p.symm.subset ha) with rfl | ha
    · exact Int.le_refl _
    · exact (List.pairwise_cons.mp o).1 a ha
theorem sorted_last {ms ns : List Int} (p : ms.Perm ns) (o : ms.Pairwise (· ≤ ·)) {x : Int} {n : Nat} (hn : n + 1 = ms.length) (h : ms[n]? = some x) : x ∈ ns ∧ ∀ a ∈ ns, a ≤ x := by
  refine ⟨p.subset (List.mem_of_getElem? h), fun a ha => ?_⟩
  obtain ⟨i, hi, e⟩ := List.getElem_of_mem (p.symm.subset ha)
  obtain ⟨hn', e'⟩ := List.getElem?_eq_some_iff.mp h
  by_cases q : i = n
  · subst q; rw [← e, ← e']; exact Int.le_refl _
  · have := (List.pairwise_iff_getElem.mp o) i n hi hn' (by (first | lia | omega))
    rw [e, e'] at this; exact this
end FR
/-! THE MATHEMATICS B: rules end to end, told from the other end, greater -/
namespace FR
/-! ### spans -/
theorem span_le (rs fs : List Int) (c : Int) : spanL rs fs ≤ c ↔ ∀ a ∈ jointsL rs fs, ∀ b ∈ jointsL rs fs, a - b ≤ c := by
  obtain ⟨h1, h2, h3⟩ := maxZ_spec (jointsL rs fs) 0
  obtain ⟨g1, g2, g3⟩ := minZ_spec (jointsL rs fs) 0
  have z := zero_mem_joints rs fs
  unfold spanL maxZ minZ
  constructor
  · intro h a ha b hb
    have := h3 a ha
    have := g3 b hb
    (first | lia | omega)
  · intro h
    refine h _ ?_ _ ?_
    · rcases h1 with e | e
      · rw [e]; exact z
      · exact e
    · rcases g1 with e | e
      · rw [e]; exact z
      · exact e
/-- c is the shortest case's length -/
structure IsMin (rs : List Int) (c : Int) : Prop where
  has : ∃ fs, IsFold rs fs ∧ spanL rs fs = c
  low : ∀ fs, IsFold rs fs → c ≤ spanL rs fs
end FR
/-! THE MATHEMATICS C: reaches, the first foldings, counting -/
namespace FR

abbrev Rch := Int × Int
/-- one piece more: the reach behind it -/
def frR (r : Rch) (t L : Int) : Rch := if t = 0 then (r.1 + L, max (r.2 - L) 0) else (r.2 + L, max (r.1 - L) 0)
def sumR (r : Rch) : Int := r.1 + r.2
/-- the reach behind a list of (turn, length) -/
def rchZ (r : Rch) (zs : List (Int × Int)) : Rch := zs.foldl (fun r z => frR r z.1 z.2) r
def rchL (rs fs : List Int) : Rch := rchZ (rs.headD 0, 0) (fs.zip rs.tail)
theorem rchZ_snoc (r : Rch) (zs : List (Int × Int)) (z : Int × Int) : rchZ r (zs ++ [z]) = frR (rchZ r zs) z.1 z.2 := by
  unfold rchZ; rw [List.foldl_append]; rfl
/-- both nought or more -/
def Ge0 (r : Rch) : Prop := 0 ≤ r.1 ∧ 0 ≤ r.2
theorem Ge0.fr {r : Rch} (h : Ge0 r) {t L : Int} (hL : 0 ≤ L) : Ge0 (frR r t L) := by
  obtain ⟨h1, h2⟩ := h
  unfold frR Ge0; split <;> dsimp only <;> (first | lia | omega)
theorem sum_fr {r : Rch} (h : Ge0 r) {t L : Int} (hL : 0 ≤ L) : sumR r ≤ sumR (frR r t L) := by
  obtain ⟨h1, h2⟩ := h
  unfold frR sumR; split <;> dsimp only <;> (first | lia | omega)
theorem Ge0.z {r : Rch} (h : Ge0 r) {zs : List (Int × Int)} (hz : ∀ z ∈ zs, 0 ≤ z.2) : Ge0 (rchZ r zs) := by
  induction zs generalizing r with
  | nil => exact h
  | cons z q ih => exact ih (h.fr (hz z List.mem_cons_self)) fun y hy => hz y (List.mem_cons_of_mem _ hy)
/-- the reach's sum is the span -/
theorem span_gen (zs : List (Int × Int)) : ∀ (p w m M : Int), (w = 1 ∨ w = -1) → m ≤ p → p ≤ M → (∀ z ∈ zs, 0 ≤ z.2 ∧ (z.1 = 0 ∨ z.1 = 1)) →
    (scanJ (p, w) zs).foldl max M - (scanJ (p, w) zs).foldl min m = sumR (rchZ (if w = 1 then (p - m, M - p) else (M - p, p - m)) zs) := by
  induction zs with
  | nil =>
    intro p w m M hw h1 h2 _
    show M - m = _
    unfold rchZ sumR
    rcases hw with rfl | rfl <;> simp <;> (first | lia | omega)
  | cons z r ih =>
    intro p w m M hw h1 h2 hz
    obtain ⟨zl, zt⟩ := hz z List.mem_cons_self
    have hr := fun y hy => hz y (List.mem_cons_of_mem _ hy)
    obtain ⟨t, L⟩ := z
    have hstep : stepJ (p, w) (t, L) = (p + (if t = 1 then -w else w) * L, if t = 1 then -w else w) := rfl
    rw [scanJ, hstep]
    simp only [List.foldl_cons]
    have hw' : (if t = 1 then -w else w) = 1 ∨ (if t = 1 then -w else w) = -1 := by
      split <;> (first | lia | omega)
    rw [ih _ _ _ _ hw' (by (first | lia | omega)) (by (first | lia | omega)) hr]
    show sumR (rchZ _ r) = sumR (rchZ (frR _ t L) r)
    congr 2
    dsimp only at zl zt
    rcases hw with rfl | rfl <;> rcases zt with rfl | rfl <;> simp [frR] <;> (first | lia | omega)
theorem span_rch {rs fs : List Int} (h : IsFold rs fs) (hl : ∀ x ∈ rs, 1 ≤ x) : spanL rs fs = sumR (rchL rs fs) := by
  cases rs with
  | nil => have := h.len; simp at this
  | cons r0 rt =>
    have hr0 : 1 ≤ r0 := hl r0 List.mem_cons_self
    unfold spanL maxZ minZ jointsL zipJ rchL
    rw [List.zip_cons_cons, List.foldl_cons, List.foldl_cons, scanJ, List.foldl_cons, List.foldl_cons]
    have e : stepJ (0, 1) ((0 : Int), r0) = (r0, 1) := by simp [stepJ]
    rw [e]
    rw [span_gen _ r0 1 _ _ (.inl rfl) (by (first | lia | omega)) (by (first | lia | omega))]
    · rw [if_pos rfl]
      congr 2
      simp <;> (first | lia | omega)
    · intro z hz
      obtain ⟨t, L⟩ := z
      have h1 := (List.of_mem_zip hz).1
      have h2 := (List.of_mem_zip hz).2
      exact ⟨by have := hl L (List.mem_cons_of_mem _ h2); dsimp only; (first | lia | omega), h.two t h1⟩

/-! ### the number of a folding -/
def numF (fs : List Int) : Int := fs.foldl (fun n t => 2 * n + t) 0
theorem numF_snoc (fs : List Int) (t : Int) : numF (fs ++ [t]) = 2 * numF fs + t := by unfold numF; rw [List.foldl_append]; rfl
def Two (fs : List Int) : Prop := ∀ x ∈ fs, x = 0 ∨ x = 1
theorem Two.snoc {fs : List Int} {t : Int} (h : Two fs) (ht : t = 0 ∨ t = 1) : Two (fs ++ [t]) := fun x hx => by
  rcases List.mem_append.mp hx with hx | hx
  · exact h x hx
  · cases List.mem_singleton.mp hx; exact ht
theorem snoc_cases {α : Type} (l : List α) : l = [] ∨ ∃ q x, l = q ++ [x] := by
  rcases l.eq_nil_or_concat with h | ⟨q, x, h⟩
  · exact .inl h
  · exact .inr ⟨q, x, by rw [h, List.concat_eq_append]⟩
theorem numF_ge {fs : List Int} (h : Two fs) : 0 ≤ numF fs ∧ numF fs < 2 ^ fs.length := by
  induction hn : fs.length generalizing fs with
  | zero => cases fs with
    | nil => exact ⟨by decide, by decide⟩
    | cons => simp at hn
  | succ n ih =>
    rcases snoc_cases fs with rfl | ⟨q, x, rfl⟩
    · simp at hn
    · have hq : Two q := fun y hy => h y (List.mem_append_left _ hy)
      have hx := h x (List.mem_append_right _ (List.mem_singleton.mpr rfl))
      have := ih hq (by simpa using hn)
      rw [numF_snoc, Int.pow_succ]
      (first | lia | omega)
end FR
/-! THE MATHEMATICS D: the first foldings of each reach -/
namespace FR
/-- the dict of first foldings behind the pieces ls, those of a span within B -/
structure Firsts (r0 B : Int) (ls : List Int) (es : List (Rch × List Int)) : Prop where
  ent : ∀ e ∈ es, e.2.length = ls.length ∧ Two e.2 ∧ e.1 = rchZ (r0, 0) (e.2.zip ls) ∧ sumR e.1 ≤ B
  ord : es.Pairwise fun a b => numF a.2 < numF b.2
  all : ∀ g, g.length = ls.length → Two g → sumR (rchZ (r0, 0) (g.zip ls)) ≤ B → ∃ e ∈ es, e.1 = rchZ (r0, 0) (g.zip ls) ∧ numF e.2 ≤ numF g
theorem Firsts.start {r0 B : Int} (h : r0 ≤ B) : Firsts r0 B [] [((r0, 0), [])] where
  ent := fun e he => by
    cases List.mem_singleton.mp he
    exact ⟨rfl, fun x hx => (nomatch hx), rfl, by simpa [sumR] using h⟩
  ord := List.pairwise_singleton _ _
  all := fun g hg _ _ => by
    cases List.length_eq_zero_iff.mp hg
    exact ⟨_, List.mem_singleton.mpr rfl, rfl, Int.le_refl _⟩
/-- one more entry, unless its reach is there or too wide -/
def addF (B L : Int) (found : List (Rch × List Int)) (e : Rch × List Int) (t : Int) : List (Rch × List Int) :=
  if sumR (frR e.1 t L) ≤ B ∧ (∀ x ∈ found, x.1 ≠ frR e.1 t L) then found ++ [(frR e.1 t L, e.2 ++ [t])] else found
def stepF (B L : Int) (es : List (Rch × List Int)) : List (Rch × List Int) := es.foldl (fun f e => addF B L (addF B L f e 0) e 1) []
theorem stepF_snoc (B L : Int) (es : List (Rch × List Int)) (e : Rch × List Int) : stepF B L (es ++ [e]) = addF B L (addF B L (stepF B L es) e 0) e 1 := by
  unfold stepF; rw [List.foldl_append]; rfl
/-- what stands there when the candidates up to the number n have been looked at -/
structure Half (B L : Int) (C : List (Rch × List Int × Int)) (found : List (Rch × List Int)) (n : Int) : Prop where
  ent : ∀ x ∈ found, ∃ c ∈ C, x.2 = c.2.1 ++ [c.2.2] ∧ x.1 = frR c.1 c.2.2 L ∧ sumR x.1 ≤ B
  ord : found.Pairwise fun a b => numF a.2 < numF b.2
  low : ∀ x ∈ found, numF x.2 < n
  all : ∀ c ∈ C, sumR (frR c.1 c.2.2 L) ≤ B → ∃ x ∈ found, x.1 = frR c.1 c.2.2 L ∧ numF x.2 ≤ 2 * numF c.2.1 + c.2.2
theorem Half.add {B L : Int} {C : List (Rch × List Int × Int)} {found : List (Rch × List Int)} {n : Int} (h : Half B L C found n) {e : Rch × List Int} {t n' : Int} (h1 : n ≤ 2 * numF e.2 + t) (h2 : 2 * numF e.2 + t < n') :
    Half B L (C ++ [(e.1, e.2, t)]) (addF B L found e t) n' := by
  unfold addF
  have lift : ∀ x ∈ found, ∃ c ∈ C ++ [(e.1, e.2, t)], x.2 = c.2.1 ++ [c.2.2] ∧ x.1 = frR c.1 c.2.2 L ∧ sumR x.1 ≤ B := fun x hx => by
    obtain ⟨c, hc, q⟩ := h.ent x hx
    exact ⟨c, List.mem_append_left _ hc, q⟩
  split
  · rename_i hc
    refine ⟨fun x hx => ?_, ?_, fun x hx => ?_, fun c hcm hs => ?_⟩
    · rcases List.mem_append.mp hx with hx | hx
      · exact lift x hx
      · cases List.mem_singleton.mp hx
        exact ⟨_, List.mem_append_right _ (List.mem_singleton.mpr rfl), rfl, rfl, hc.1⟩
    · rw [List.pairwise_append]
      refine ⟨h.ord, List.pairwise_singleton _ _, fun a ha b hb => ?_⟩
      cases List.mem_singleton.mp hb
      have := h.low a ha
      show numF a.2 < numF (e.2 ++ [t])
      rw [numF_snoc]; (first | lia | omega)
    · rcases List.mem_append.mp hx with hx | hx
      · have := h.low x hx; (first | lia | omega)
      · cases List.mem_singleton.mp hx
        show numF (e.2 ++ [t]) < n'
        rw [numF_snoc]; (first | lia | omega)
    · rcases List.mem_append.mp hcm with hcm | hcm
      · obtain ⟨x, hx, q⟩ := h.all c hcm hs
        exact ⟨x, List.mem_append_left _ hx, q⟩
      · cases List.mem_singleton.mp hcm
        refine ⟨_, List.mem_append_right _ (List.mem_singleton.mpr rfl), rfl, ?_⟩
        show numF (e.2 ++ [t]) ≤ _
        rw [numF_snoc]; exact Int.le_refl _
  · rename_i hc
    refine ⟨lift, h.ord, fun x hx => by have := h.low x hx; (first | lia | omega), fun c hcm hs => ?_⟩
    rcases List.mem_append.mp hcm with hcm | hcm
    · exact h.all c hcm hs
    · cases List.mem_singleton.mp hcm
      have hx : ∃ x ∈ found, x.1 = frR e.1 t L := by
        apply Classical.byContradiction
        intro hn
        exact hc ⟨hs, fun x hx z => hn ⟨x, hx, z⟩⟩
      obtain ⟨x, hx, hxe⟩ := hx
      have := h.low x hx
      exact ⟨x, hx, hxe, by show numF x.2 ≤ 2 * numF e.2 + t; (first | lia | omega)⟩
def cands (es : List (Rch × List Int)) : List (Rch × List Int × Int) := es.flatMap fun e => [(e.1, e.2, 0), (e.1, e.2, 1)]
theorem cands_snoc (es : List (Rch × List Int)) (e : Rch × List Int) : cands (es ++ [e]) = (cands es ++ [(e.1, e.2, 0)]) ++ [(e.1, e.2, 1)] := by
  unfold cands; rw [List.flatMap_append]; simp
theorem half_of {B L : Int} : ∀ {k : Nat} {es : List (Rch × List Int)}, es.length = k → (es.Pairwise fun a b => numF a.2 < numF b.2) → (∀ a ∈ es, 0 ≤ numF a.2) → ∀ n, 0 ≤ n → (∀ a ∈ es, 2 * numF a.2 + 2 ≤ n) →
    Half B L (cands es) (stepF B L es) n := by
  intro k
  induction k with
  | zero =>
    intro es hk _ _ n _ _
    cases List.length_eq_zero_iff.mp hk
    exact ⟨fun x hx => (by cases hx), List.Pairwise.nil, fun x hx => (by cases hx), fun c hc => (by cases hc)⟩
  | succ k ih =>
    intro es hk ho h0 n hn hb
    rcases snoc_cases es with rfl | ⟨q, e, rfl⟩
    · simp at hk
    rw [List.pairwise_append] at ho
    obtain ⟨o1, _, o2⟩ := ho
    have he := h0 e (List.mem_append_right _ (List.mem_singleton.mpr rfl))
    have hb' := hb e (List.mem_append_right _ (List.mem_singleton.mpr rfl))
    have H := ih (es := q) (by simpa using hk) o1 (fun a ha => h0 a (List.mem_append_left _ ha)) (2 * numF e.2) (by (first | lia | omega)) (fun a ha => by
      have := o2 a ha e (List.mem_singleton.mpr rfl); (first | lia | omega))
    rw [cands_snoc, stepF_snoc]
    exact (H.add (t := 0) (n' := 2 * numF e.2 + 1) (by (first | lia | omega)) (by (first | lia | omega))).add (t := 1) (by (first | lia | omega)) (by (first | lia | omega))
theorem mem_cands {es : List (Rch × List Int)} {e : Rch × List Int} {t : Int} (h : e ∈ es) (ht : t = 0 ∨ t = 1) : (e.1, e.2, t) ∈ cands es := by
  unfold cands
  rw [List.mem_flatMap]
  refine ⟨e, h, ?_⟩
  rcases ht with rfl | rfl <;> simp
theorem of_cands {es : List (Rch × List Int)} {c : Rch × List Int × Int} (h : c ∈ cands es) : (c.1, c.2.1) ∈ es ∧ (c.2.2 = 0 ∨ c.2.2 = 1) := by
  unfold cands at h
  rw [List.mem_flatMap] at h
  obtain ⟨e, he, hc⟩ := h
  simp only [List.mem_cons, List.mem_nil_iff, or_false] at hc
  rcases hc with rfl | rfl
  · exact ⟨he, .inl rfl⟩
  · exact ⟨he, .inr rfl⟩
theorem exists_bound (es : List (Rch × List Int)) : ∃ n, 0 ≤ n ∧ ∀ a ∈ es, 2 * numF a.2 + 2 ≤ n := by
  induction es with
  | nil => exact ⟨0, Int.le_refl _, fun a ha => by cases ha⟩
  | cons e r ih =>
    obtain ⟨n, h0, h⟩ := ih
    refine ⟨max n (2 * numF e.2 + 2), by (first | lia | omega), fun a ha => ?_⟩
    rcases List.mem_cons.mp ha with rfl | ha
    · (first | lia | omega)
    · have := h a ha; (first | lia | omega)
theorem zip_snoc {f ls : List Int} {t L : Int} (h : f.length = ls.length) : (f ++ [t]).zip (ls ++ [L]) = f.zip ls ++ [(t, L)] := by
  rw [List.zip_append h]; rfl
theorem Firsts.step {r0 B L : Int} {ls : List Int} {es : List (Rch × List Int)} (h : Firsts r0 B ls es) (h0 : 0 ≤ r0) (hls : ∀ x ∈ ls, 0 ≤ x) (hL : 0 ≤ L) : Firsts r0 B (ls ++ [L]) (stepF B L es) := by
  obtain ⟨n, n0, hn⟩ := exists_bound es
  have H := half_of (B := B) (L := L) (k := es.length) rfl h.ord (fun a ha => (numF_ge (h.ent a ha).2.1).1) n n0 hn
  refine ⟨fun e he => ?_, H.ord, fun g hg tg hs => ?_⟩
  · obtain ⟨c, hc, e2, e1, es⟩ := H.ent e he
    obtain ⟨m, ht⟩ := of_cands hc
    obtain ⟨l1, l2, l3, _⟩ := h.ent _ m
    dsimp only at l1 l2 l3
    refine ⟨by rw [e2, List.length_append, List.length_append, l1]; rfl, by rw [e2]; exact l2.snoc ht, ?_, es⟩
    rw [e2, zip_snoc l1, rchZ_snoc, e1, l3]
  · rcases snoc_cases g with rfl | ⟨q, t, rfl⟩
    · simp at hg
    have lq : q.length = ls.length := by simpa using hg
    have tq : Two q := fun y hy => tg y (List.mem_append_left _ hy)
    have ht := tg t (List.mem_append_right _ (List.mem_singleton.mpr rfl))
    rw [zip_snoc lq, rchZ_snoc] at hs ⊢
    have g0 : Ge0 (rchZ (r0, 0) (q.zip ls)) := Ge0.z ⟨h0, Int.le_refl _⟩ fun z hz => hls _ (List.of_mem_zip hz).2
    have hle := sum_fr g0 (t := t) hL
    obtain ⟨e, he, e1, e2⟩ := h.all q lq tq (by dsimp only at hs; (first | lia | omega))
    obtain ⟨x, hx, x1, x2⟩ := H.all _ (mem_cands he ht) (by dsimp only; rw [e1]; exact hs)
    refine ⟨x, hx, by rw [x1, e1], ?_⟩
    rw [numF_snoc]; dsimp only at x2; (first | lia | omega)
theorem firsts_len {B L : Int} (es : List (Rch × List Int)) : (stepF B L es).length ≤ 2 * es.length := by
  have key : ∀ (l : List (Rch × List Int)) (f : List (Rch × List Int)), (l.foldl (fun f e => addF B L (addF B L f e 0) e 1) f).length ≤ f.length + 2 * l.length := by
    have one : ∀ f e t, (addF B L f e t).length ≤ f.length + 1 := fun f e t => by
      unfold addF; split
      · rw [List.length_append]; exact Nat.le_refl _
      · exact Nat.le_succ _
    intro l
    induction l with
    | nil => intro f; exact Nat.le_refl _
    | cons e r ih =>
      intro f
      rw [List.foldl_cons]
      refine Nat.le_trans (ih _) ?_
      have a := one f e 0
      have b := one (addF B L f e 0) e 1
      rw [List.length_cons]; (first | lia | omega)
  have := key es []
  simpa [stepF] using this

/-- the first folding of the least span -/
structure IsFirst (rs : List Int) (c : Int) (f : List Int) : Prop where
  fold : IsFold rs f
  span : spanL rs f = c
  low : ∀ g, IsFold rs g → c ≤ spanL rs g
  fst : ∀ g, IsFold rs g → spanL rs g = c → numF f ≤ numF g
theorem IsFirst.min {rs f : List Int} {c : Int} (h : IsFirst rs c f) : IsMin rs c := ⟨⟨f, h.fold, h.span⟩, h.low⟩
theorem Firsts.best {r0 B : Int} {ls : List Int} {es : List (Rch × List Int)} (h : Firsts r0 B ls es) (hr : ∀ x ∈ r0 :: ls, 1 ≤ x) {i : Nat} {e : Rch × List Int} (hi : es[i]? = some e)
    (hm : ∀ (j : Nat) (x : Rch × List Int), es[j]? = some x → sumR e.1 ≤ sumR x.1 ∧ (j < i → sumR e.1 < sumR x.1)) : IsFirst (r0 :: ls) (sumR e.1) e.2 := by
  obtain ⟨l1, l2, l3, l4⟩ := h.ent e (List.mem_of_getElem? hi)
  have hf : IsFold (r0 :: ls) e.2 := ⟨by rw [List.length_cons, l1], l2⟩
  have sp : ∀ g, IsFold (r0 :: ls) g → g.length = ls.length ∧ spanL (r0 :: ls) g = sumR (rchZ (r0, 0) (g.zip ls)) := fun g hg => ⟨by have := hg.len; simpa using this, span_rch hg hr⟩
  refine ⟨hf, by rw [(sp _ hf).2, ← l3], fun g hg => ?_, fun g hg hs => ?_⟩
  · obtain ⟨g1, g2⟩ := sp g hg
    rw [g2]
    by_cases hb : sumR (rchZ (r0, 0) (g.zip ls)) ≤ B
    · obtain ⟨x, hx, x1, _⟩ := h.all g g1 hg.two hb
      obtain ⟨j, hj⟩ := List.getElem?_of_mem hx
      rw [← x1]; exact (hm j x hj).1
    · (first | lia | omega)
  · obtain ⟨g1, g2⟩ := sp g hg
    rw [g2] at hs
    obtain ⟨x, hx, x1, x2⟩ := h.all g g1 hg.two (by (first | lia | omega))
    obtain ⟨j, hj⟩ := List.getElem?_of_mem hx
    have hmj := (hm j x hj).2
    rw [x1] at hmj
    have hji : ¬ j < i := fun z => by have := hmj z; (first | lia | omega)
    by_cases hij : i = j
    · subst hij
      rw [hi] at hj
      cases hj; exact x2
    · obtain ⟨a1, a2⟩ := List.getElem?_eq_some_iff.mp hi
      obtain ⟨b1, b2⟩ := List.getElem?_eq_some_iff.mp hj
      have := (List.pairwise_iff_getElem.mp h.ord) i j a1 b1 (by (first | lia | omega))
      rw [a2, b2] at this
      (first | lia | omega)

/-! ### the folding by half -/
def halfW (p : Int) : Int := if p ≤ 0 then 1 else -1
def halfL (p w : Int) : List Int → List Int
  | [] => []
  | L :: ls => (if halfW p = w then 0 else 1) :: halfL (p + halfW p * L) (halfW p) ls
def byHalf (rs : List Int) : List Int := halfL (rs.headD 0) 1 rs.tail
theorem halfL_len (p w : Int) (ls : List Int) : (halfL p w ls).length = ls.length := by
  induction ls generalizing p w with
  | nil => rfl
  | cons L r ih => rw [halfL, List.length_cons, ih, List.length_cons]
theorem halfL_two (p w : Int) (ls : List Int) : Two (halfL p w ls) := by
  induction ls generalizing p w with
  | nil => exact fun x hx => by cases hx
  | cons L r ih =>
    intro x hx
    rcases List.mem_cons.mp hx with rfl | hx
    · split
      · exact .inl rfl
      · exact .inr rfl
    · exact ih _ _ x hx
theorem halfW_one (p : Int) : halfW p = 1 ∨ halfW p = -1 := by unfold halfW; split <;> (first | lia | omega)
theorem half_scan {M : Int} : ∀ (ls : List Int) (p w : Int), (w = 1 ∨ w = -1) → (∀ x ∈ ls, 1 ≤ x ∧ x ≤ M) → -M < p → p ≤ M → ∀ x ∈ scanJ (p, w) ((halfL p w ls).zip ls), -M < x ∧ x ≤ M := by
  intro ls
  induction ls with
  | nil => intro p w _ _ _ _ x hx; cases hx
  | cons L r ih =>
    intro p w hw hl h1 h2 x hx
    have hL := hl L List.mem_cons_self
    have hW := halfW_one p
    have e : stepJ (p, w) ((if halfW p = w then 0 else 1 : Int), L) = (p + halfW p * L, halfW p) := by
      unfold stepJ
      by_cases hq : halfW p = w
      · simp [hq]
      · have hw2 : halfW p = -w := by (first | lia | omega)
        have hw3 : ¬ -w = w := by (first | lia | omega)
        simp [hw2, hw3]
    have b : -M < p + halfW p * L ∧ p + halfW p * L ≤ M := by
      unfold halfW
      split
      · rw [Int.one_mul]; (first | lia | omega)
      · rw [Int.neg_mul, Int.one_mul]; (first | lia | omega)
    rw [halfL, List.zip_cons_cons, scanJ, e] at hx
    rcases List.mem_cons.mp hx with rfl | hx
    · exact b
    · exact ih _ _ hW (fun y hy => hl y (List.mem_cons_of_mem _ hy)) b.1 b.2 x hx
theorem byHalf_fold {rs : List Int} (h : 1 ≤ rs.length) : IsFold rs (byHalf rs) := by
  cases rs with
  | nil => simp at h
  | cons r0 ls => exact ⟨by unfold byHalf; rw [List.tail_cons, halfL_len, List.length_cons], halfL_two _ _ _⟩
theorem byHalf_joints {rs : List Int} {M : Int} (h : 1 ≤ rs.length) (hl : ∀ x ∈ rs, 1 ≤ x ∧ x ≤ M) : ∀ x ∈ jointsL rs (byHalf rs), -M < x ∧ x ≤ M := by
  cases rs with
  | nil => simp at h
  | cons r0 ls =>
    intro x hx
    have h0 := hl r0 List.mem_cons_self
    unfold jointsL zipJ byHalf at hx
    rw [List.tail_cons, List.headD_cons, List.zip_cons_cons, scanJ] at hx
    have e : stepJ (0, 1) ((0 : Int), r0) = (r0, 1) := by simp [stepJ]
    rw [e] at hx
    rcases List.mem_cons.mp hx with rfl | hx
    · (first | lia | omega)
    rcases List.mem_cons.mp hx with rfl | hx
    · (first | lia | omega)
    · exact half_scan ls r0 1 (.inl rfl) (fun y hy => hl y (List.mem_cons_of_mem _ hy)) (by (first | lia | omega)) (by (first | lia | omega)) x hx
theorem byHalf_span {rs : List Int} {M : Int} (h : 1 ≤ rs.length) (hl : ∀ x ∈ rs, 1 ≤ x ∧ x ≤ M) : spanL rs (byHalf rs) ≤ 2 * M := by
  rw [span_le]
  intro a ha b hb
  have := byHalf_joints h hl a ha
  have := byHalf_joints h hl b hb
  (first | lia | omega)
/-- some folding fits in twice the longest -/
theorem Firsts.some {r0 B : Int} {ls : List Int} {es : List (Rch × List Int)} (h : Firsts r0 B ls es) {M : Int} (hr : ∀ x ∈ r0 :: ls, 1 ≤ x ∧ x ≤ M) (hB : 2 * M ≤ B) : es ≠ [] := by
  have hf := byHalf_fold (rs := r0 :: ls) (by simp)
  have hs := byHalf_span (rs := r0 :: ls) (by simp) hr
  rw [span_rch hf fun x hx => (hr x hx).1] at hs
  obtain ⟨e, he, _⟩ := h.all (byHalf (r0 :: ls)) (by have := hf.len; simpa using this) hf.two (by
    show sumR (rchL (r0 :: ls) (byHalf (r0 :: ls))) ≤ B
    (first | lia | omega))
  intro z; rw [z] at he; cases he
end FR
/-! THE MATHEMATICS E: counting -/
namespace FR
/-- how many foldings of the pieces ls behind the reach r fit -/
def cnt (c : Int) (r : Rch) : List Int → Int
  | [] => if sumR r ≤ c then 1 else 0
  | L :: ls => cnt c (frR r 0 L) ls + cnt c (frR r 1 L) ls
def atL (c : Int) (r : Rch) : List Int → Int → List Int
  | [], _ => []
  | L :: ls, n => if n < cnt c (frR r 0 L) ls then 0 :: atL c (frR r 0 L) ls n else 1 :: atL c (frR r 1 L) ls (n - cnt c (frR r 0 L) ls)
def numL (c : Int) (r : Rch) : List Int → List Int → Int
  | L :: ls, t :: fs => (if t = 1 then cnt c (frR r 0 L) ls else 0) + numL c (frR r t L) ls fs
  | _, _ => 0
theorem cnt_zero {c : Int} {ls : List Int} (hl : ∀ x ∈ ls, 0 ≤ x) : ∀ {r : Rch}, Ge0 r → c < sumR r → cnt c r ls = 0 := by
  induction ls with
  | nil => intro r _ h; rw [cnt, if_neg (by (first | lia | omega))]
  | cons L q ih =>
    intro r g h
    have hL := hl L List.mem_cons_self
    have hq := fun x hx => hl x (List.mem_cons_of_mem _ hx)
    have a := sum_fr g (t := 0) hL
    have b := sum_fr g (t := 1) hL
    rw [cnt, ih hq (g.fr hL) (by (first | lia | omega)), ih hq (g.fr hL) (by (first | lia | omega))]; rfl
/-- the sum of the numbers times what each reach has still -/
def pot (c : Int) (ls : List Int) (kvs : List (Rch × Int)) : Int := (kvs.map fun x => x.2 * cnt c x.1 ls).sum
def lookM (kvs : List (Rch × Int)) (k : Rch) : Option Int := (kvs.find? fun x => decide (x.1 = k)).map (·.2)
def putM (kvs : List (Rch × Int)) (k : Rch) (v : Int) : List (Rch × Int) :=
  if (kvs.any fun x => decide (x.1 = k)) = true then kvs.map (fun x => if x.1 = k then (x.1, v) else x) else kvs ++ [(k, v)]
theorem pot_append (c : Int) (ls : List Int) (a b : List (Rch × Int)) : pot c ls (a ++ b) = pot c ls a + pot c ls b := by
  unfold pot; rw [List.map_append, List.sum_append]
theorem pot_same {c : Int} {ls : List Int} {k : Rch} {v : Int} : ∀ (kvs : List (Rch × Int)), (kvs.any fun x => decide (x.1 = k)) = false → kvs.map (fun x => if x.1 = k then (x.1, v) else x) = kvs
  | [], _ => rfl
  | x :: r, h => by
    rw [List.any_cons, Bool.or_eq_false_iff] at h
    have hx : ¬ x.1 = k := by simpa using h.1
    rw [List.map_cons, if_neg hx, pot_same (c := c) (ls := ls) r h.2]
theorem pot_put {c : Int} {ls : List Int} {k : Rch} {m : Int} : ∀ (kvs : List (Rch × Int)), (kvs.map (·.1)).Nodup → pot c ls (putM kvs k ((lookM kvs k).getD 0 + m)) = pot c ls kvs + m * cnt c k ls := by
  intro kvs hn
  unfold putM
  by_cases ha : (kvs.any fun x => decide (x.1 = k)) = true
  · rw [if_pos ha]
    have key : ∀ (l : List (Rch × Int)), (l.map (·.1)).Nodup → (l.any fun x => decide (x.1 = k)) = true → pot c ls (l.map (fun x => if x.1 = k then (x.1, (lookM l k).getD 0 + m) else x)) = pot c ls l + m * cnt c k ls := by
      intro l
      induction l with
      | nil => intro _ h; cases h
      | cons x r ih =>
        intro hn h
        rw [List.map_cons, List.nodup_cons] at hn
        by_cases hx : x.1 = k
        · have hr : (r.any fun x => decide (x.1 = k)) = false := by
            rw [Bool.eq_false_iff]
            intro z
            obtain ⟨y, hy, e⟩ := List.any_eq_true.mp z
            exact hn.1 (List.mem_map.mpr ⟨y, hy, by rw [hx]; simpa using e⟩)
          have lk : lookM (x :: r) k = some x.2 := by simp [lookM, hx]
          rw [lk, List.map_cons, if_pos hx, pot_same (c := c) (ls := ls) r hr]
          unfold pot
          rw [List.map_cons, List.map_cons, List.sum_cons, List.sum_cons]
          simp only [Option.getD_some, hx]
          rw [Int.add_mul]; (first | lia | omega)
        · have lk : lookM (x :: r) k = lookM r k := by simp [lookM, hx]
          have h' : (r.any fun x => decide (x.1 = k)) = true := by
            rw [List.any_cons] at h
            simpa [hx] using h
          have := ih hn.2 h'
          rw [lk, List.map_cons, if_neg hx]
          unfold pot at this ⊢
          rw [List.map_cons, List.map_cons, List.sum_cons, List.sum_cons, this]
          (first | lia | omega)
    exact key kvs hn ha
  · rw [if_neg ha, pot_append]
    have lk : lookM kvs k = none := by
      unfold lookM
      rw [List.find?_eq_none.mpr]
      · rfl
      · intro x hx z
        exact ha (List.any_eq_true.mpr ⟨x, hx, z⟩)
    rw [lk]
    simp [pot]
theorem putM_keys (kvs : List (Rch × Int)) (k : Rch) (v : Int) : (putM kvs k v).map (·.1) = if (kvs.any fun x => decide (x.1 = k)) = true then kvs.map (·.1) else kvs.map (·.1) ++ [k] := by
  unfold putM
  split
  · rw [List.map_map]
    apply List.map_congr_left
    intro x _
    show (if x.1 = k then (x.1, v) else x).1 = x.1
    split <;> rfl
  · rw [List.map_append]; rfl
theorem putM_nodup {kvs : List (Rch × Int)} (h : (kvs.map (·.1)).Nodup) (k : Rch) (v : Int) : ((putM kvs k v).map (·.1)).Nodup := by
  rw [putM_keys]
  split
  · exact h
  · rename_i ha
    rw [List.nodup_append]
    refine ⟨h, by simp, fun a h1 b h2 e => ?_⟩
    cases List.mem_singleton.mp h2
    obtain ⟨x, hx, ex⟩ := List.mem_map.mp h1
    exact ha (List.any_eq_true.mpr ⟨x, hx, by simp [ex, e]⟩)
theorem putM_mem {kvs : List (Rch × Int)} {k : Rch} {v : Int} {x : Rch × Int} (h : x ∈ putM kvs k v) : x.1 = k ∨ x ∈ kvs := by
  unfold putM at h
  split at h
  · obtain ⟨y, hy, e⟩ := List.mem_map.mp h
    by_cases hk : y.1 = k
    · rw [if_pos hk] at e; left; rw [← e]; exact hk
    · rw [if_neg hk] at e; right; rw [← e]; exact hy
  · rcases List.mem_append.mp h with h | h
    · exact .inr h
    · cases List.mem_singleton.mp h; exact .inl rfl
theorem putM_len (kvs : List (Rch × Int)) (k : Rch) (v : Int) : (putM kvs k v).length ≤ kvs.length + 1 := by
  unfold putM
  split
  · rw [List.length_map]; (first | lia | omega)
  · rw [List.length_append]; exact Nat.le_refl _
/-- one turn of one entry -/
def addC (c L : Int) (found : List (Rch × Int)) (e : Rch × Int) (t : Int) : List (Rch × Int) :=
  if sumR (frR e.1 t L) ≤ c then putM found (frR e.1 t L) ((lookM found (frR e.1 t L)).getD 0 + e.2) else found
def stepC (c L : Int) (es : List (Rch × Int)) : List (Rch × Int) := es.foldl (fun f e => addC c L (addC c L f e 0) e 1) []
theorem stepC_snoc (c L : Int) (es : List (Rch × Int)) (e : Rch × Int) : stepC c L (es ++ [e]) = addC c L (addC c L (stepC c L es) e 0) e 1 := by
  unfold stepC; rw [List.foldl_append]; rfl
structure Cts (c : Int) (kvs : List (Rch × Int)) : Prop where
  nd : (kvs.map (·.1)).Nodup
  ge : ∀ x ∈ kvs, Ge0 x.1 ∧ sumR x.1 ≤ c
theorem Cts.add {c L : Int} {f : List (Rch × Int)} (h : Cts c f) {e : Rch × Int} (g : Ge0 e.1) (hL : 0 ≤ L) (t : Int) : Cts c (addC c L f e t) := by
  unfold addC
  split
  · rename_i hs
    refine ⟨putM_nodup h.nd _ _, fun x hx => ?_⟩
    rcases putM_mem hx with e' | hx
    · rw [e']; exact ⟨g.fr hL, hs⟩
    · exact h.ge x hx
  · exact h
theorem pot_add {c L : Int} {ls : List Int} {f : List (Rch × Int)} (h : Cts c f) {e : Rch × Int} (g : Ge0 e.1) (hL : 0 ≤ L) (hl : ∀ x ∈ ls, 0 ≤ x) (t : Int) : pot c ls (addC c L f e t) = pot c ls f + e.2 * cnt c (frR e.1 t L) ls := by
  unfold addC
  split
  · exact pot_put f h.nd
  · rw [cnt_zero hl (g.fr hL) (by (first | lia | omega))]; simp
theorem stepC_ok {c L : Int} {ls : List Int} (hL : 0 ≤ L) (hl : ∀ x ∈ ls, 0 ≤ x) {kvs : List (Rch × Int)} (h : ∀ x ∈ kvs, Ge0 x.1) : Cts c (stepC c L kvs) ∧ pot c ls (stepC c L kvs) = pot c (L :: ls) kvs := by
  have key : ∀ (l : List (Rch × Int)) (f : List (Rch × Int)), (∀ x ∈ l, Ge0 x.1) → Cts c f → Cts c (l.foldl (fun f e => addC c L (addC c L f e 0) e 1) f) ∧ pot c ls (l.foldl (fun f e => addC c L (addC c L f e 0) e 1) f) = pot c ls f + pot c (L :: ls) l := by
    intro l
    induction l with
    | nil => intro f _ hf; exact ⟨hf, by simp [pot]⟩
    | cons e r ih =>
      intro f hl' hf
      have g := hl' e List.mem_cons_self
      have h1 := hf.add g hL 0
      have h2 := h1.add g hL 1
      obtain ⟨a, b⟩ := ih (addC c L (addC c L f e 0) e 1) (fun x hx => hl' x (List.mem_cons_of_mem _ hx)) h2
      rw [List.foldl_cons]
      refine ⟨a, ?_⟩
      rw [b, pot_add h1 g hL hl, pot_add hf g hL hl]
      have e2 : pot c (L :: ls) (e :: r) = e.2 * (cnt c (frR e.1 0 L) ls + cnt c (frR e.1 1 L) ls) + pot c (L :: ls) r := by
        unfold pot; rw [List.map_cons, List.sum_cons]; rfl
      rw [e2, Int.mul_add]; (first | lia | omega)
  have := key kvs [] h ⟨by simp, fun x hx => by cases hx⟩
  refine ⟨this.1, ?_⟩
  have h2 := this.2
  simpa [pot, stepC] using h2
theorem stepC_len {c L : Int} (es : List (Rch × Int)) : (stepC c L es).length ≤ 2 * es.length := by
  have one : ∀ f e t, (addC c L f e t).length ≤ f.length + 1 := fun f e t => by
    unfold addC; split
    · exact putM_len _ _ _
    · exact Nat.le_succ _
  have key : ∀ (l f : List (Rch × Int)), (l.foldl (fun f e => addC c L (addC c L f e 0) e 1) f).length ≤ f.length + 2 * l.length := by
    intro l
    induction l with
    | nil => intro f; exact Nat.le_refl _
    | cons e r ih =>
      intro f
      rw [List.foldl_cons]
      refine Nat.le_trans (ih _) ?_
      have a := one f e 0
      have b := one (addC c L f e 0) e 1
      rw [List.length_cons]; (first | lia | omega)
  have := key es []
  simpa [stepC] using this
/-- all of them at the end: the sum of the numbers -/
theorem pot_end {c : Int} {kvs : List (Rch × Int)} (h : Cts c kvs) : pot c [] kvs = (kvs.map (·.2)).sum := by
  unfold pot
  congr 1
  apply List.map_congr_left
  intro x hx
  rw [cnt, if_pos (h.ge x hx).2, Int.mul_one]
def runC (c : Int) (kvs : List (Rch × Int)) (ls : List Int) : List (Rch × Int) := ls.foldl (fun k L => stepC c L k) kvs
theorem runC_snoc (c : Int) (kvs : List (Rch × Int)) (ls : List Int) (L : Int) : runC c kvs (ls ++ [L]) = stepC c L (runC c kvs ls) := by unfold runC; rw [List.foldl_append]; rfl
theorem runC_ok {c : Int} : ∀ (ls : List Int) {kvs : List (Rch × Int)}, (∀ x ∈ ls, 0 ≤ x) → Cts c kvs → Cts c (runC c kvs ls) ∧ ((runC c kvs ls).map (·.2)).sum = pot c ls kvs
  | [], kvs, _, h => ⟨h, (pot_end h).symm⟩
  | L :: ls, kvs, hl, h => by
    obtain ⟨a, b⟩ := stepC_ok (c := c) (hl L List.mem_cons_self) (fun x hx => hl x (List.mem_cons_of_mem _ hx)) (kvs := kvs) fun x hx => (h.ge x hx).1
    obtain ⟨a', b'⟩ := runC_ok ls (fun x hx => hl x (List.mem_cons_of_mem _ hx)) a
    exact ⟨a', b'.trans b⟩
theorem runC_len {c : Int} : ∀ (ls : List Int) (kvs : List (Rch × Int)), (runC c kvs ls).length ≤ 2 ^ ls.length * kvs.length
  | [], kvs => by simp [runC]
  | L :: ls, kvs => by
    have h1 := runC_len (c := c) ls (stepC c L kvs)
    have h2 := stepC_len (c := c) (L := L) kvs
    show (runC c (stepC c L kvs) ls).length ≤ _
    rw [List.length_cons, Nat.pow_succ]
    refine Nat.le_trans h1 ?_
    rw [Nat.mul_assoc]
    exact Nat.mul_le_mul_left _ h2
theorem run_one {c : Int} {r : Rch} (g : Ge0 r) (hs : sumR r ≤ c) {ls : List Int} (hl : ∀ x ∈ ls, 0 ≤ x) : ((runC c [(r, 1)] ls).map (·.2)).sum = cnt c r ls := by
  rw [(runC_ok ls hl (kvs := [(r, 1)]) ⟨by simp, fun x hx => by cases List.mem_singleton.mp hx; exact ⟨g, hs⟩⟩).2]
  simp [pot]
end FR
/-! THE MATHEMATICS G: all foldings in their order -/
namespace FR
/-- where all fit, the number is the one by two -/
theorem cnt_all (c : Int) (ls : List Int) : ∀ r : Rch, (∀ f : List Int, f.length = ls.length → Two f → sumR (rchZ r (f.zip ls)) ≤ c) → cnt c r ls = 2 ^ ls.length := by
  induction ls with
  | nil =>
    intro r h
    have h' : sumR r ≤ c := h [] rfl fun x hx => by cases hx
    rw [cnt, if_pos h']; rfl
  | cons L q ih =>
    intro r h
    have step : ∀ t : Int, (t = 0 ∨ t = 1) → cnt c (frR r t L) q = 2 ^ q.length := fun t ht => ih _ fun f hf tf => h (t :: f) (by simp [hf]) fun x hx => by
      rcases List.mem_cons.mp hx with rfl | hx
      · exact ht
      · exact tf x hx
    rw [cnt, step 0 (.inl rfl), step 1 (.inr rfl), List.length_cons, Int.pow_succ]; (first | lia | omega)
/-- no span is more than all pieces in a row -/
theorem rch_sum (ls : List Int) : ∀ (r : Rch) (f : List Int), Ge0 r → (∀ x ∈ ls, 0 ≤ x) → f.length = ls.length → sumR (rchZ r (f.zip ls)) ≤ sumR r + ls.sum := by
  induction ls with
  | nil => intro r f _ _ hf; cases List.length_eq_zero_iff.mp hf; show sumR r ≤ _; simp
  | cons L q ih =>
    intro r f g hl hf
    cases f with
    | nil => simp at hf
    | cons t f =>
      have hL := hl L List.mem_cons_self
      have := ih (frR r t L) f (g.fr hL) (fun x hx => hl x (List.mem_cons_of_mem _ hx)) (by simpa using hf)
      have h2 : sumR (frR r t L) ≤ sumR r + L := by
        obtain ⟨g1, g2⟩ := g
        unfold frR sumR; split <;> dsimp only <;> (first | lia | omega)
      rw [List.sum_cons]
      show sumR (rchZ (frR r t L) (f.zip q)) ≤ _
      (first | lia | omega)
end FR
namespace FR
open PySem L2
/-- the places behind those of S with a piece of length L, in order -/
def nextP (c L : Int) (S : List Int) : List Int := (upN (c + 1).toNat).filter fun q => decide (q - L ∈ S ∨ q + L ∈ S)
/-- the reachable places, from S on -/
def rowsP (c : Int) : List Int → List Int → List (List Int)
  | S, [] => [S]
  | S, L :: ls => S :: rowsP c (nextP c L S) ls
theorem upN_rise (n : Nat) : (upN n).Pairwise (· < ·) := by
  unfold upN
  rw [List.pairwise_map]
  exact List.Pairwise.imp (fun h => Int.ofNat_lt.mpr h) List.pairwise_lt_range
theorem upN_mem (n : Nat) (x : Int) : x ∈ upN n ↔ 0 ≤ x ∧ x < n := by
  unfold upN
  rw [List.mem_map]
  constructor
  · rintro ⟨k, hk, rfl⟩
    rw [List.mem_range] at hk
    (first | lia | omega)
  · rintro ⟨h1, h2⟩
    exact ⟨x.toNat, List.mem_range.mpr (by (first | lia | omega)), by (first | lia | omega)⟩
theorem upN_len (n : Nat) : (upN n).length = n := by simp [upN]
theorem nextP_rise (c L : Int) (S : List Int) : (nextP c L S).Pairwise (· < ·) := (upN_rise _).filter _
theorem nextP_mem (c L : Int) (S : List Int) (x : Int) : x ∈ nextP c L S ↔ 0 ≤ x ∧ x ≤ c ∧ (x - L ∈ S ∨ x + L ∈ S) := by
  unfold nextP
  rw [List.mem_filter, upN_mem, decide_eq_true_eq]
  constructor
  · rintro ⟨⟨h1, h2⟩, h3⟩
    exact ⟨h1, by (first | lia | omega), h3⟩
  · rintro ⟨h1, h2, h3⟩
    exact ⟨⟨h1, by (first | lia | omega)⟩, h3⟩
theorem nextP_len (c L : Int) (S : List Int) : (nextP c L S).length ≤ (c + 1).toNat := Nat.le_trans (List.length_filter_le _ _) (by rw [upN_len]; exact Nat.le_refl _)
theorem riseExt : ∀ {a b : List Int}, a.Pairwise (· < ·) → b.Pairwise (· < ·) → (∀ x, x ∈ a ↔ x ∈ b) → a = b
  | [], [], _, _, _ => rfl
  | [], y :: b, _, _, h => absurd ((h y).mpr List.mem_cons_self) (fun z => nomatch z)
  | x :: a, [], _, _, h => absurd ((h x).mp List.mem_cons_self) (fun z => nomatch z)
  | x :: a, y :: b, ha, hb, h => by
    obtain ⟨h1, h2⟩ := List.pairwise_cons.mp ha
    obtain ⟨h3, h4⟩ := List.pairwise_cons.mp hb
    have e : x = y := by
      rcases List.mem_cons.mp ((h x).mp List.mem_cons_self) with z | z
      · exact z
      · have := h3 x z
        rcases List.mem_cons.mp ((h y).mpr List.mem_cons_self) with z2 | z2
        · exact z2.symm
        · have := h1 y z2; (first | lia | omega)
    subst e
    rw [riseExt h2 h4 fun z => ?_]
    have hz := h z
    simp only [List.mem_cons] at hz
    constructor
    · intro q
      rcases hz.mp (.inr q) with e | e
      · have := h1 z q; (first | lia | omega)
      · exact e
    · intro q
      rcases hz.mpr (.inr q) with e | e
      · have := h3 z q; (first | lia | omega)
      · exact e
theorem nodup_len : ∀ {l m : List Int}, l.Nodup → (∀ x ∈ l, x ∈ m) → l.length ≤ m.length
  | [], m, _, _ => Nat.zero_le _
  | x :: l, m, h, s => by
    obtain ⟨h1, h2⟩ := List.nodup_cons.mp h
    have hx := s x List.mem_cons_self
    have q := nodup_len (l := l) (m := m.erase x) h2 fun y hy => (List.mem_erase_of_ne (fun e : y = x => h1 (e ▸ hy))).mpr (s y (List.mem_cons_of_mem _ hy))
    rw [List.length_erase_of_mem hx] at q
    have := List.length_pos_of_mem hx
    rw [List.length_cons]; (first | lia | omega)
/-- sorted without twins: rising -/
theorem le_lt {l : List Int} (h : l.Pairwise (· ≤ ·)) (n : l.Nodup) : l.Pairwise (· < ·) := by
  refine List.Pairwise.imp (fun ⟨a, b⟩ => ?_) (h.and n)
  (first | lia | omega)
theorem rowsP_len (c : Int) : ∀ (rs S : List Int), (rowsP c S rs).length = rs.length + 1
  | [], S => rfl
  | L :: ls, S => by rw [rowsP, List.length_cons, rowsP_len c ls, List.length_cons]
theorem rowsP_snoc (c L : Int) : ∀ (rs S : List Int), rowsP c S (rs ++ [L]) = rowsP c S rs ++ [nextP c L ((rowsP c S rs).getLastD [])]
  | [], S => rfl
  | L' :: ls, S => by
    rw [List.cons_append, rowsP, rowsP, rowsP_snoc c L ls, List.cons_append]
    congr 2
    cases h : rowsP c (nextP c L' S) ls with
    | nil => have := rowsP_len c ls (nextP c L' S); rw [h] at this; simp at this
    | cons a b => simp [List.getLastD]
end FR
namespace FR
open PySem L2
theorem getLastD_snoc {α : Type} (l : List α) (x d : α) : (l ++ [x]).getLastD d = x := by
  cases l with
  | nil => rfl
  | cons a b =>
    show (a :: (b ++ [x])).getLast _ = x
    rw [List.getLast_cons (by simp), List.getLast_append]
    simp
theorem rows_last_len (c : Int) : ∀ (rs S : List Int), S.length ≤ (c + 1).toNat → ((rowsP c S rs).getLastD []).length ≤ (c + 1).toNat
  | [], S, h => h
  | L :: ls, S, h => by
    rw [rowsP]
    have e : (S :: rowsP c (nextP c L S) ls).getLastD [] = (rowsP c (nextP c L S) ls).getLastD [] := by
      cases hr : rowsP c (nextP c L S) ls with
      | nil => have := rowsP_len c ls (nextP c L S); rw [hr] at this; simp at this
      | cons a b => simp [List.getLastD]
    rw [e]
    exact rows_last_len c ls _ (nextP_len c L S)
end FR
namespace FR
open PySem L2
def top (i : Nat) : Stmt := PySem.Challenge.pw_foldrule_k02_what_is_refused.main.body.getD i (.Pass ⟨0, 0, 0, 0⟩)
abbrev s_check_rule : Stmt := top 9
theorem sc_check_rule : FnScope ["rule", "length"] ["rule"] (defScope s_check_rule) := ⟨rfl, rfl, rfl, by decide +kernel, rfl, by decide +kernel, by decide +kernel⟩
abbrev s_check_folding : Stmt := top 10
theorem sc_check_folding : FnScope ["rule", "folding", "turn"] ["rule", "folding"] (defScope s_check_folding) := ⟨rfl, rfl, rfl, by decide +kernel, rfl, by decide +kernel, by decide +kernel⟩
abbrev s_joints : Stmt := top 11
theorem sc_joints : FnScope ["rule", "folding", "place", "places", "way", "turn", "length"] ["rule", "folding"] (defScope s_joints) := ⟨rfl, rfl, rfl, by decide +kernel, rfl, by decide +kernel, by decide +kernel⟩
abbrev s_span : Stmt := top 12
theorem sc_span : FnScope ["rule", "folding", "places"] ["rule", "folding"] (defScope s_span) := ⟨rfl, rfl, rfl, by decide +kernel, rfl, by decide +kernel, by decide +kernel⟩
abbrev s_fits : Stmt := top 14
theorem sc_fits : FnScope ["rule", "folding", "case"] ["rule", "folding", "case"] (defScope s_fits) := ⟨rfl, rfl, rfl, by decide +kernel, rfl, by decide +kernel, by decide +kernel⟩
abbrev s_places_behind : Stmt := top 15
theorem sc_places_behind : FnScope ["places", "length", "case", "upward", "downward"] ["places", "length", "case"] (defScope s_places_behind) := ⟨rfl, rfl, rfl, by decide +kernel, rfl, by decide +kernel, by decide +kernel⟩
abbrev s_reachable : Stmt := top 16
theorem sc_reachable : FnScope ["rule", "case", "places", "lists", "length"] ["rule", "case"] (defScope s_reachable) := ⟨rfl, rfl, rfl, by decide +kernel, rfl, by decide +kernel, by decide +kernel⟩
abbrev s_first_reach : Stmt := top 17
theorem sc_first_reach : FnScope ["rule"] ["rule"] (defScope s_first_reach) := ⟨rfl, rfl, rfl, by decide +kernel, rfl, by decide +kernel, by decide +kernel⟩
abbrev s_further_reach : Stmt := top 18
theorem sc_further_reach : FnScope ["reach", "turn", "length"] ["reach", "turn", "length"] (defScope s_further_reach) := ⟨rfl, rfl, rfl, by decide +kernel, rfl, by decide +kernel, by decide +kernel⟩
abbrev s_further_firsts : Stmt := top 19
theorem sc_further_firsts : FnScope ["firsts", "length", "case", "found", "reach", "folding", "turn", "further"] ["firsts", "length", "case"] (defScope s_further_firsts) := ⟨rfl, rfl, rfl, by decide +kernel, rfl, by decide +kernel, by decide +kernel⟩
abbrev s_shortest_case : Stmt := top 20
theorem sc_shortest_case : FnScope ["rule", "enough", "firsts", "length", "best"] ["rule"] (defScope s_shortest_case) := ⟨rfl, rfl, rfl, by decide +kernel, rfl, by decide +kernel, by decide +kernel⟩
abbrev s_by_half : Stmt := top 21
theorem sc_by_half : FnScope ["rule", "place", "way", "folding", "length", "next_way"] ["rule"] (defScope s_by_half) := ⟨rfl, rfl, rfl, by decide +kernel, rfl, by decide +kernel, by decide +kernel⟩
abbrev s_further_counts : Stmt := top 23
theorem sc_further_counts : FnScope ["counts", "length", "case", "found", "reach", "many", "turn", "further"] ["counts", "length", "case"] (defScope s_further_counts) := ⟨rfl, rfl, rfl, by decide +kernel, rfl, by decide +kernel, by decide +kernel⟩
abbrev s_many_beyond : Stmt := top 24
theorem sc_many_beyond : FnScope ["reach", "lengths", "case", "counts", "length"] ["reach", "lengths", "case"] (defScope s_many_beyond) := ⟨rfl, rfl, rfl, by decide +kernel, rfl, by decide +kernel, by decide +kernel⟩
abbrev s_many_going_on : Stmt := top 25
theorem sc_many_going_on : FnScope ["rule", "case", "reach", "hinge", "onward"] ["rule", "case", "reach", "hinge"] (defScope s_many_going_on) := ⟨rfl, rfl, rfl, by decide +kernel, rfl, by decide +kernel, by decide +kernel⟩
abbrev s_many_fits : Stmt := top 26
theorem sc_many_fits : FnScope ["rule", "case"] ["rule", "case"] (defScope s_many_fits) := ⟨rfl, rfl, rfl, by decide +kernel, rfl, by decide +kernel, by decide +kernel⟩
abbrev s_folding_at : Stmt := top 27
theorem sc_folding_at : FnScope ["rule", "case", "number", "reach", "left", "folding", "hinge", "many", "turn"] ["rule", "case", "number"] (defScope s_folding_at) := ⟨rfl, rfl, rfl, by decide +kernel, rfl, by decide +kernel, by decide +kernel⟩
abbrev s_number_of : Stmt := top 28
theorem sc_number_of : FnScope ["rule", "case", "folding", "reach", "number", "hinge", "turn"] ["rule", "case", "folding"] (defScope s_number_of) := ⟨rfl, rfl, rfl, by decide +kernel, rfl, by decide +kernel, by decide +kernel⟩
abbrev s_shown : Stmt := top 30
theorem sc_shown : FnScope ["rule", "folding", "text", "turn", "length", "sign"] ["rule", "folding"] (defScope s_shown) := ⟨rfl, rfl, rfl, by decide +kernel, rfl, by decide +kernel, by decide +kernel⟩
abbrev s_law_cell_at : Stmt := top 32
theorem sc_law_cell_at : FnScope ["script", "k"] ["script", "k"] (defScope s_law_cell_at) := ⟨rfl, rfl, rfl, by decide +kernel, rfl, by decide +kernel, by decide +kernel⟩
abbrev s_law_draw : Stmt := top 33
theorem sc_law_draw : FnScope ["script", "k", "stir"] ["script", "k"] (defScope s_law_draw) := ⟨rfl, rfl, rfl, by decide +kernel, rfl, by decide +kernel, by decide +kernel⟩
abbrev s_law_rule : Stmt := top 34
theorem sc_law_rule : FnScope ["script", "pieces", "most", "rule"] ["script", "pieces"] (defScope s_law_rule) := ⟨rfl, rfl, rfl, by decide +kernel, rfl, by decide +kernel, by decide +kernel⟩
abbrev s_law_folding : Stmt := top 35
theorem sc_law_folding : FnScope ["script", "start", "pieces"] ["script", "start", "pieces"] (defScope s_law_folding) := ⟨rfl, rfl, rfl, by decide +kernel, rfl, by decide +kernel, by decide +kernel⟩
abbrev s_law_joints : Stmt := top 36
theorem sc_law_joints : FnScope ["rule", "folding", "places", "up", "k"] ["rule", "folding"] (defScope s_law_joints) := ⟨rfl, rfl, rfl, by decide +kernel, rfl, by decide +kernel, by decide +kernel⟩
abbrev s_law_span : Stmt := top 37
theorem sc_law_span : FnScope ["rule", "folding", "places"] ["rule", "folding"] (defScope s_law_span) := ⟨rfl, rfl, rfl, by decide +kernel, rfl, by decide +kernel, by decide +kernel⟩
abbrev s_law_alone : Stmt := top 38
theorem sc_law_alone : FnScope ["e", "found"] ["e"] (defScope s_law_alone) := ⟨rfl, rfl, rfl, by decide +kernel, rfl, by decide +kernel, by decide +kernel⟩
abbrev s_law_bad_rule : Stmt := top 39
theorem sc_law_bad_rule : FnScope ["rule", "fault", "cell", "bad", "at"] ["rule", "fault", "cell"] (defScope s_law_bad_rule) := ⟨rfl, rfl, rfl, by decide +kernel, rfl, by decide +kernel, by decide +kernel⟩
abbrev s_law_bad_folding : Stmt := top 40
theorem sc_law_bad_folding : FnScope ["folding", "fault", "cell", "spoiled"] ["folding", "fault", "cell"] (defScope s_law_bad_folding) := ⟨rfl, rfl, rfl, by decide +kernel, rfl, by decide +kernel, by decide +kernel⟩
abbrev s_law_whole_call : Stmt := top 41
theorem sc_law_whole_call : FnScope ["call", "rule", "number"] ["call", "rule", "number"] (defScope s_law_whole_call) := ⟨rfl, rfl, rfl, by decide +kernel, rfl, by decide +kernel, by decide +kernel⟩
abbrev s_law_folded_call : Stmt := top 42
theorem sc_law_folded_call : FnScope ["call", "rule", "folding", "case"] ["call", "rule", "folding", "case"] (defScope s_law_folded_call) := ⟨rfl, rfl, rfl, by decide +kernel, rfl, by decide +kernel, by decide +kernel⟩
abbrev s_law_refused : Stmt := top 43
theorem sc_law_refused : FnScope ["call", "rule", "folding", "number", "case", "found", "e"] ["call", "rule", "folding", "number", "case"] (defScope s_law_refused) := ⟨rfl, rfl, rfl, by decide +kernel, rfl, by decide +kernel, by decide +kernel⟩
abbrev s_law : Stmt := top 44
theorem sc_law : FnScope ["script", "pieces", "rule", "folding", "most", "k", "cell", "number", "case", "bad", "ill", "handed", "call", "due"] ["script"] (defScope s_law) := ⟨rfl, rfl, rfl, by decide +kernel, rfl, by decide +kernel, by decide +kernel⟩

end FR
namespace FR
open PySem L2
theorem max_if (i j : Int) : (if j > i then j else i) = max i j := by
  split <;> (first | lia | omega)
theorem big_small {n : Nat} (h : n ≤ 100000) : n < sizeLine := by rw [sizeLine_eq]; (first | lia | omega)
theorem two_pow {n : Nat} (h : n ≤ 12) : 2 ^ n ≤ 4096 := Nat.pow_le_pow_right (by decide) h
theorem drop_cons {ls : List Int} {i : Nat} {L : Int} (h : ls[i]? = some L) : ls.drop i = L :: ls.drop (i + 1) := by
  obtain ⟨hi, e⟩ := List.getElem?_eq_some_iff.mp h
  rw [List.drop_eq_getElem_cons hi, e]
end FR
namespace FR
open PySem L2
section
variable {P : Program} {w : World} {K : PySem.W.Frag} {mg : Str → Option Value} {base : Heap}
def sp_law_cell_at (K : PySem.W.Frag) : Sp := fun vs H Q _ => ∃ (a : Addr) (ns : List Int) (k : Int), vs = [.ref a, .int k] ∧ SqL K H a (ns.map V.int) ∧ 0 ≤ k ∧ ∀ n, Q (.int n) H
theorem ok_law_cell_at {f : Addr} {fd : FuncData} (F : Fun K "_law_cell_at" "_law_cell_at" s_law_cell_at f fd) (z_len : mg "len" = none) :
    FnOk P w K mg base (CXE P w) 1 f fd ["script", "k"] (sp_law_cell_at K) := by
  refine F.okN sc_law_cell_at (fun vs H Q E h => ?_) (fun cdv A outer s H vs Q E hr h => ?_)
  · obtain ⟨a, ns, k, rfl, _⟩ := h
    rfl
  obtain ⟨a, ns, k, rfl, hS, h0, q⟩ := h
  have ND := sc_law_cell_at.nd
  refine ⟨_, (pss_cons (ps_if (pt_cmpR op_lt (pv 1) (pe_callB (call_lenK K) (by rfl) z_len PySem.boot_len (pa_cons (pv 0) pa_nil)) (nomark _)) (pss_one (ps_ret (pe_ix (ix_listK K) (pv 0) (pv 1) (fun _ _ => rfl)))) pss_nil)
    (pss_one (ps_ret pe_int))), ?_⟩
  walk_at "rd"
  refine ⟨_, hS, ?_⟩
  rw [List.length_map]
  refine ite2 (fun c => ?_) (fun c => q 0)
  obtain ⟨j, rfl⟩ := Int.eq_ofNat_of_zero_le h0
  have hj : j < ns.length := by (first | lia | omega)
  exact ⟨_, hS, _, atI_nat (getI (List.getElem?_eq_getElem hj)), q _⟩
/-- a drawn number: only its bounds matter -/
def sp_law_draw (K : PySem.W.Frag) : Sp := fun vs H Q _ => ∃ (a : Addr) (ns : List Int) (k : Int), vs = [.ref a, .int k] ∧ SqL K H a (ns.map V.int) ∧ 0 ≤ k ∧ k ≤ 1000 ∧ ∀ n, 0 ≤ n → n ≤ 268435455 → Q (.int n) H
theorem ok_law_draw {f : Addr} {fd : FuncData} (F : Fun K "_law_draw" "_law_draw" s_law_draw f fd) {f_law_cell_at : Addr} {d_law_cell_at : FuncData} (G_law_cell_at : FnOk P w K mg base (CXE P w) 1 f_law_cell_at d_law_cell_at ["script", "k"] (sp_law_cell_at K)) (m_law_cell_at : mg "_law_cell_at" = some (.ref f_law_cell_at)) (k_law_cell_at : PySem.W.keepIn K (.ref f_law_cell_at) = true) (b_law_cell_at : Binds K d_law_cell_at ["script", "k"] []) :
    FnOk P w K mg base (CXE P w) 2 f fd ["script", "k"] (sp_law_draw K) := by
  refine F.okN sc_law_draw (fun vs H Q E h => ?_) (fun cdv A outer s H vs Q E hr h => ?_)
  · obtain ⟨a, ns, k, rfl, _⟩ := h
    rfl
  obtain ⟨a, ns, k, rfl, hS, h0, h1, q⟩ := h
  have ND := sc_law_draw.nd
  refine ⟨_, (pss_cons (ps_set (i := 2) ND rfl (Or.inl rfl) (pe_op op_mod (pe_op op_mul (pe_op op_add (pe_op op_add (pe_call G_law_cell_at (hr.mono (by (first | lia | omega))) (by rfl) m_law_cell_at k_law_cell_at b_law_cell_at .nil passN (pa_cons (pv 0) (pa_cons (pe_op op_mod (pv 1) pe_int) pa_nil))) (pe_op op_mul pe_int (pv 1))) pe_int) pe_int) pe_int))
    (pss_cons (ps_set (i := 2) ND rfl (Or.inl rfl) (pe_op op_mod (pe_op op_mul (pv 2) (pv 2)) pe_int))
    (pss_one (ps_ret (pe_op op_fdiv (pe_op op_mod (pe_op op_mul (pv 2) pe_int) pe_int) pe_int))))), ?_⟩
  walk_at "rd"
  refine ⟨by decide, a, ns, k % 61, rfl, hS, Int.emod_nonneg _ (by decide), fun n => ?_⟩
  walk_at "rd"
  have l1 : (0 : Int) ≤ (n + 7919 * k + 104729) * 48271 % 2147483647 := Int.emod_nonneg _ (by decide)
  have l2 : (n + 7919 * k + 104729) * 48271 % 2147483647 < 2147483647 := Int.emod_lt_of_pos _ (by decide)
  generalize (n + 7919 * k + 104729) * 48271 % 2147483647 = x at *
  generalize x * x % 2147483647 = y
  have l3 : (0 : Int) ≤ y * 16807 % 2147483647 := Int.emod_nonneg _ (by decide)
  have l4 : y * 16807 % 2147483647 < 2147483647 := Int.emod_lt_of_pos _ (by decide)
  generalize y * 16807 % 2147483647 = z at *
  refine ⟨.inl (by decide), .inr (by decide), by decide, .inl ⟨by (first | lia | omega), by (first | lia | omega)⟩, by decide, .inr (by decide), by decide, by decide, by decide, q _ (by (first | lia | omega)) (by (first | lia | omega))⟩
/-- a new list: some rule of that many pieces -/
def sp_law_rule (K : PySem.W.Frag) : Sp := fun vs H Q _ => ∃ (a : Addr) (ns : List Int) (k : Int), vs = [.ref a, .int k] ∧ SqL K H a (ns.map V.int) ∧ 1 ≤ k ∧ k ≤ 12 ∧
  ∀ (l : Addr) (H' : Hp) (rs : List Int), NewL H H' l (rs.map V.int) → IsRule rs → (rs.length : Int) = k → Q (.ref l) H'
theorem ok_law_rule {f : Addr} {fd : FuncData} (F : Fun K "_law_rule" "_law_rule" s_law_rule f fd) {f_law_draw : Addr} {d_law_draw : FuncData} (G_law_draw : FnOk P w K mg base (CXE P w) 2 f_law_draw d_law_draw ["script", "k"] (sp_law_draw K)) (m_law_draw : mg "_law_draw" = some (.ref f_law_draw)) (k_law_draw : PySem.W.keepIn K (.ref f_law_draw) = true) (b_law_draw : Binds K d_law_draw ["script", "k"] []) (z_range : mg "range" = none) :
    FnOk P w K mg base (CXE P w) 3 f fd ["script", "pieces"] (sp_law_rule K) := by
  refine F.okN sc_law_rule (fun vs H Q E h => ?_) (fun cdv A outer s H vs Q E hr h => ?_)
  · obtain ⟨a, ns, k, rfl, _⟩ := h
    rfl
  obtain ⟨a, ns, k, rfl, hS, h0, h1, q⟩ := h
  have ND := sc_law_rule.nd
  refine ⟨_, (pss_cons (ps_set (i := 2) ND rfl (Or.inr rfl) (pe_ix (ix_listK K) (pe_lst (pa_cons pe_int (pa_cons pe_int (pa_cons pe_int (pa_cons pe_int pa_nil))))) (pe_op op_mod (pe_call G_law_draw (hr.mono (by (first | lia | omega))) (by rfl) m_law_draw k_law_draw b_law_draw .nil passN (pa_cons (pv 0) (pa_cons pe_int pa_nil))) pe_int) (fun _ _ => rfl)))
    (pss_cons (ps_set (i := 3) ND rfl (Or.inr rfl) (pe_comp (caps := [("most", 2), ("script", 0)]) (comp_scope (by rfl) (by rfl) (by decide) (by rfl)) rfl (pi_range1 (by rfl) z_range (pa_cons (pv 1) pa_nil)) (fun _ _ _ _ => pts_nil) (fun _ _ _ _ => (pe_op op_add pe_int (pe_op op_mod (pe_call G_law_draw (hr.mono (by (first | lia | omega))) (by rfl) m_law_draw k_law_draw b_law_draw .nil passN (pa_cons (pv 2) (pa_cons (pe_op op_add pe_int (pv 0)) pa_nil))) (pv 1))))))
    (pss_cons (ps_if (pt_cmpR op_eq (pe_op op_mod (pe_call G_law_draw (hr.mono (by (first | lia | omega))) (by rfl) m_law_draw k_law_draw b_law_draw .nil passN (pa_cons (pv 0) (pa_cons pe_int pa_nil))) pe_int) pe_int (nomark _)) (pss_one (ps_set (i := 3) ND rfl (Or.inr rfl) (pe_comp (caps := [("rule", 3)]) (comp_scope (by rfl) (by rfl) (by decide) (by rfl)) rfl (pi_range1 (by rfl) z_range (pa_cons (pv 1) pa_nil)) (fun _ _ _ _ => pts_nil) (fun _ _ _ _ => (pe_ix (ix_listK K) (pv 1) (pe_op op_mod (pv 0) pe_int) (fun _ _ => rfl)))))) pss_nil)
    (pss_one (ps_ret (pv 3)))))), ?_⟩
  walk_at "rd"
  refine ⟨by decide, fun p hp => ?_⟩
  have s1 : Same H (upd H p (.lst [.int 4, .int 9, .int 60, .int 20])) := same_new hp _
  have hpp : upd H p (.lst [.int 4, .int 9, .int 60, .int 20]) p = some (.lst [.int 4, .int 9, .int 60, .int 20]) := upd_same
  generalize hH1 : upd H p (.lst [.int 4, .int 9, .int 60, .int 20]) = H1 at *
  refine ⟨a, ns, 2, rfl, s1.seq hS, by decide, by decide, fun d hd0 hd1 => ?_⟩
  have hm : ∃ m : Int, atI ([.int 4, .int 9, .int 60, .int 20] : List V) (d % 4) = some (.int m) ∧ 1 ≤ m ∧ m ≤ 60 := by
    have l1 : 0 ≤ d % 4 := Int.emod_nonneg _ (by decide)
    have l2 : d % 4 < 4 := Int.emod_lt_of_pos _ (by decide)
    have l3 : d % 4 = 0 ∨ d % 4 = 1 ∨ d % 4 = 2 ∨ d % 4 = 3 := by (first | lia | omega)
    rcases l3 with e | e | e | e <;> rw [e]
    · exact ⟨4, rfl, by decide, by decide⟩
    · exact ⟨9, rfl, by decide, by decide⟩
    · exact ⟨60, rfl, by decide, by decide⟩
    · exact ⟨20, rfl, by decide, by decide⟩
  obtain ⟨m, hm, m1, m2⟩ := hm
  walk_at "rd"
  refine ⟨by decide, _, SqL.of hpp, _, hm, ?_⟩
  have hS1 : SqL K H1 a (ns.map V.int) := s1.seq hS
  refine ⟨_, rfl, k, rfl, by (first | lia | omega), by (first | lia | omega), comp_range (fun D i H' => SameB D H1 H' ∧ ∃ acc : List Int, H' D = some (.lst (acc.map V.int)) ∧ acc.length = i ∧ ∀ x ∈ acc, 1 ≤ x ∧ x ≤ 60)
    (fun D hD => ⟨(SameB.refl _ _).upd _, [], upd_same, rfl, fun x hx => nomatch hx⟩) (fun D i H' hD hi h => ?_) (fun D H2 hD h => ?_)⟩
  · obtain ⟨h2, acc, h3, h4, h5⟩ := h
    walk_at "rdT"
    refine ⟨a, ns, _, rfl, (h2.same hD).seq hS1, by (first | lia | omega), by (first | lia | omega), fun e he0 he1 => ?_⟩
    walk_at "rd"
    refine ⟨by (first | lia | omega), _, h3, ?_, ?_⟩
    · rw [List.length_map]; exact small12 (by (first | lia | omega))
    · have l1 : 0 ≤ e % m := Int.emod_nonneg _ (by (first | lia | omega))
      have l2 : e % m < m := Int.emod_lt_of_pos _ (by (first | lia | omega))
      refine wn_next hi ⟨h2.upd _, acc ++ [1 + e % m], ?_, by rw [List.length_append, h4]; rfl, fun x hx => ?_⟩
      · rw [upd_same, List.map_append]; rfl
      · rcases List.mem_append.mp hx with hx | hx
        · exact h5 x hx
        · cases List.mem_singleton.mp hx; (first | lia | omega)
  · obtain ⟨h2, rs, h3, h4, h5⟩ := h
    have s2 : Same H H2 := s1.trans (h2.same hD)
    have hDn : H D = none := s1.free hD
    refine ⟨a, ns, 3, rfl, s2.seq hS, by decide, by decide, fun d' hd0 hd1 => ?_⟩
    walk_at "rd"
    refine ⟨by decide, ite2 (fun c => ?_) (fun c => q D H2 rs ⟨s2, hDn, h3⟩ ⟨by (first | lia | omega), by (first | lia | omega), fun x hx => (h5 x hx).1, fun x hx => (h5 x hx).2⟩ (by (first | lia | omega)))⟩
    refine ⟨_, rfl, k, rfl, by (first | lia | omega), by (first | lia | omega), comp_range (fun D' i H' => SameB D' H2 H' ∧ ∃ acc : List Int, H' D' = some (.lst (acc.map V.int)) ∧ acc.length = i ∧ ∀ x ∈ acc, 1 ≤ x ∧ x ≤ 60)
      (fun D' hD' => ⟨(SameB.refl _ _).upd _, [], upd_same, rfl, fun x hx => nomatch hx⟩) (fun D' i H' hD' hi h => ?_) (fun D' H3 hD' h => ?_)⟩
    · obtain ⟨g2, acc, g3, g4, g5⟩ := h
      walk_at "rdT"
      have li : (0 + (i : Int)) % 2 = ((i % 2 : Nat) : Int) := by (first | lia | omega)
      have lt : i % 2 < rs.length := by (first | lia | omega)
      refine ⟨by decide, _, SqL.of (g2 D _ (ne_of_none h3 hD') h3), _, by rw [li]; exact atI_nat (getI (List.getElem?_eq_getElem lt)), _, g3, ?_, ?_⟩
      · rw [List.length_map]; exact small12 (by (first | lia | omega))
      · refine wn_next hi ⟨g2.upd _, acc ++ [rs[i % 2]], ?_, by rw [List.length_append, g4]; rfl, fun x hx => ?_⟩
        · rw [upd_same, List.map_append]; rfl
        · rcases List.mem_append.mp hx with hx | hx
          · exact g5 x hx
          · cases List.mem_singleton.mp hx; exact h5 _ (List.getElem_mem lt)
    · obtain ⟨g2, rs', g3, g4, g5⟩ := h
      exact q D' H3 rs' ⟨s2.trans (g2.same hD'), s2.free hD', g3⟩ ⟨by (first | lia | omega), by (first | lia | omega), fun x hx => (g5 x hx).1, fun x hx => (g5 x hx).2⟩ (by (first | lia | omega))
/-- a new list: some folding of a rule of that many pieces -/
def sp_law_folding (K : PySem.W.Frag) : Sp := fun vs H Q _ => ∃ (a : Addr) (ns : List Int) (t k : Int), vs = [.ref a, .int t, .int k] ∧ SqL K H a (ns.map V.int) ∧ 0 ≤ t ∧ t ≤ 100 ∧ 1 ≤ k ∧ k ≤ 12 ∧
  ∀ (l : Addr) (H' : Hp) (fs : List Int), NewL H H' l (fs.map V.int) → (∀ x ∈ fs, x = 0 ∨ x = 1) → (fs.length : Int) + 1 = k → Q (.ref l) H'
theorem ok_law_folding {f : Addr} {fd : FuncData} (F : Fun K "_law_folding" "_law_folding" s_law_folding f fd) {f_law_draw : Addr} {d_law_draw : FuncData} (G_law_draw : FnOk P w K mg base (CXE P w) 2 f_law_draw d_law_draw ["script", "k"] (sp_law_draw K)) (m_law_draw : mg "_law_draw" = some (.ref f_law_draw)) (k_law_draw : PySem.W.keepIn K (.ref f_law_draw) = true) (b_law_draw : Binds K d_law_draw ["script", "k"] []) (z_range : mg "range" = none) :
    FnOk P w K mg base (CXE P w) 3 f fd ["script", "start", "pieces"] (sp_law_folding K) := by
  refine F.okN sc_law_folding (fun vs H Q E h => ?_) (fun cdv A outer s H vs Q E hr h => ?_)
  · obtain ⟨a, ns, t, k, rfl, _⟩ := h
    rfl
  obtain ⟨a, ns, t, k, rfl, hS, t0, t1, h0, h1, q⟩ := h
  have ND := sc_law_folding.nd
  refine ⟨_, (pss_one (ps_ret (pe_comp (caps := [("script", 0), ("start", 1)]) (comp_scope (by rfl) (by rfl) (by decide) (by rfl)) rfl (pi_range1 (by rfl) z_range (pa_cons (pe_op op_sub (pv 2) pe_int) pa_nil)) (fun _ _ _ _ => pts_nil) (fun _ _ _ _ => (pe_op op_mod (pe_call G_law_draw (hr.mono (by (first | lia | omega))) (by rfl) m_law_draw k_law_draw b_law_draw .nil passN (pa_cons (pv 1) (pa_cons (pe_op op_add (pv 2) (pv 0)) pa_nil))) pe_int))))), ?_⟩
  refine ⟨_, rfl, _, _, rfl, rfl, k - 1, rfl, by (first | lia | omega), by (first | lia | omega), comp_range (fun D i H' => SameB D H H' ∧ ∃ acc : List Int, H' D = some (.lst (acc.map V.int)) ∧ acc.length = i ∧ ∀ x ∈ acc, x = 0 ∨ x = 1)
    (fun D hD => ⟨(SameB.refl _ _).upd _, [], upd_same, rfl, fun x hx => nomatch hx⟩) (fun D i H' hD hi h => ?_) (fun D H2 hD h => ?_)⟩
  · obtain ⟨h2, acc, h3, h4, h5⟩ := h
    walk_at "rdT"
    refine ⟨a, ns, _, rfl, (h2.same hD).seq hS, by (first | lia | omega), by (first | lia | omega), fun e he0 he1 => ?_⟩
    walk_at "rd"
    refine ⟨by decide, _, h3, ?_, ?_⟩
    · rw [List.length_map]; exact small12 (by (first | lia | omega))
    · have l1 : 0 ≤ e % 2 := Int.emod_nonneg _ (by decide)
      have l2 : e % 2 < 2 := Int.emod_lt_of_pos _ (by decide)
      refine wn_next hi ⟨h2.upd _, acc ++ [e % 2], ?_, by rw [List.length_append, h4]; rfl, fun x hx => ?_⟩
      · rw [upd_same, List.map_append]; rfl
      · rcases List.mem_append.mp hx with hx | hx
        · exact h5 x hx
        · cases List.mem_singleton.mp hx; (first | lia | omega)
  · obtain ⟨h2, fs, h3, h4, h5⟩ := h
    exact q D H2 fs ⟨h2.same hD, hD, h3⟩ h5 (by (first | lia | omega))
/-- a new list with the joints, walked by the law -/
def sp_law_joints (K : PySem.W.Frag) : Sp := fun vs H Q _ => ∃ (a b : Addr) (rs fs : List Int), vs = [.ref a, .ref b] ∧ H a = some (.lst (rs.map V.int)) ∧ H b = some (.lst (fs.map V.int)) ∧ rs.length ≤ 12 ∧ fs.length + 1 = rs.length ∧
  ∀ (l : Addr) (H' : Hp), NewL H H' l ((jointsL rs fs).map V.int) → Q (.ref l) H'
theorem last_at (zs : List (Int × Int)) : atI ((0 :: scanJ (0, 1) zs).map V.int) (-1) = some (.int (zs.foldl stepJ (0, 1)).1) := by
  have h := getI (last_scanJ zs)
  have l : ((0 :: scanJ (0, 1) zs).map V.int).length = zs.length + 1 := by rw [List.length_map, List.length_cons, scanJ_length]
  unfold atI ixN
  rw [if_neg (by decide), l, if_pos (by (first | lia | omega)), Option.bind_some]
  rw [show ((-1 : Int) + ((zs.length + 1 : Nat) : Int)).toNat = zs.length by (first | lia | omega)]
  exact h
theorem ok_law_joints {f : Addr} {fd : FuncData} (F : Fun K "_law_joints" "_law_joints" s_law_joints f fd) (z_range : mg "range" = none) (z_len : mg "len" = none) :
    FnOk P w K mg base (CXE P w) 1 f fd ["rule", "folding"] (sp_law_joints K) := by
  refine F.okN sc_law_joints (fun vs H Q E h => ?_) (fun cdv A outer s H vs Q E hr h => ?_)
  · obtain ⟨a, b, rs, fs, rfl, _⟩ := h
    rfl
  obtain ⟨a, b, rs, fs, rfl, hS, hT, hR, hF, q⟩ := h
  have ND := sc_law_joints.nd
  refine ⟨_, (pss_cons (ps_set (i := 2) ND rfl (Or.inl rfl) (pe_lst (pa_cons pe_int pa_nil)))
    (pss_cons (ps_set (i := 3) ND rfl (Or.inl rfl) pe_bl)
    (pss_cons (ps_for PassesOwn.never rfl (pi_range1 (by rfl) z_range (pa_cons (pe_callB (call_lenK K) (by rfl) z_len PySem.boot_len (pa_cons (pv 0) pa_nil)) pa_nil)) (pg_name (i := 4) ND rfl (Or.inl rfl)) (pss_cons (ps_if (pw_and (pt_cmpR op_gt (pv 4) pe_int (nomark _)) (pw_and1 (pt_cmpR op_eq (pe_ix (ix_listK K) (pv 1) (pe_op op_sub (pv 4) pe_int) (fun _ _ => rfl)) pe_int (nomark _)))).pt (pss_one (ps_set (i := 3) ND rfl (Or.inl rfl) (pe_not (pv 3)))) pss_nil)
    (pss_one (ps_if (pt_truthK K (pv 3) (fun _ => rfl)) (pss_one (ps_expr (pe_bmK K PySem.F.plainAttrs_list PySem.F.slot_list_append PySem.F.type_list_append mt_append (pv 2) (pa_cons (pe_op op_add (pe_ix (ix_listK K) (pv 2) (pe_un un_neg pe_int) (fun _ _ => rfl)) (pe_ix (ix_listK K) (pv 0) (pv 4) (fun _ _ => rfl))) pa_nil)))) (pss_one (ps_expr (pe_bmK K PySem.F.plainAttrs_list PySem.F.slot_list_append PySem.F.type_list_append mt_append (pv 2) (pa_cons (pe_op op_sub (pe_ix (ix_listK K) (pv 2) (pe_un un_neg pe_int) (fun _ _ => rfl)) (pe_ix (ix_listK K) (pv 0) (pv 4) (fun _ _ => rfl))) pa_nil))))))))
    (pss_one (ps_ret (pv 2)))))), ?_⟩
  walk_at "rd"
  refine ⟨(by decide : 1 ≤ sizeLine), fun p hp => ?_⟩
  have s1 : Same H (upd H p (.lst [.int 0])) := same_new hp _
  have pp : upd H p (.lst [.int 0]) p = some (.lst [.int 0]) := upd_same
  have zl : (zipJ rs fs).length = rs.length := by unfold zipJ; rw [List.length_zip, List.length_cons]; (first | lia | omega)
  refine ⟨_, rfl, a, _, rfl, SqL.of (s1 _ _ hS), rs.length, by rw [List.length_map], by (first | lia | omega), by (first | lia | omega), ?_⟩
  rw [Int.toNat_natCast]
  refine for_range (lo := 0) (n := rs.length) (fun i σ H' => H' p = some (.lst ((0 :: scanJ (0, 1) ((zipJ rs fs).take i)).map V.int)) ∧ SameB p H H' ∧ ∃ o, σ = [some (.ref a), some (.ref b), some (.ref p), some (.bl (decide ((((zipJ rs fs).take i).foldl stepJ (0, 1)).2 = 1))), o])
    ⟨pp, (SameB.refl _ _).upd _, _, rfl⟩ (fun i σ H' hi h => ?_) (fun σ H' h => ?_)
  · obtain ⟨h1, h2, o, rfl⟩ := h
    have hw := way_one ((zipJ rs fs).take i)
    have ht : ((0 : Int) :: fs)[i]? = some (((0 : Int) :: fs)[i]'(by rw [List.length_cons]; (first | lia | omega))) := List.getElem?_eq_getElem _
    have hl : rs[i]? = some rs[i] := List.getElem?_eq_getElem hi
    generalize ((0 : Int) :: fs)[i]'(by rw [List.length_cons]; (first | lia | omega)) = t at ht
    generalize rs[i] = l at hl
    have hz : (zipJ rs fs)[i]? = some (t, l) := PyProof.Rows.zip_get ht hl
    have tk := take_snoc hz
    have lT := last_at ((zipJ rs fs).take i)
    have ln : ((0 :: scanJ (0, 1) ((zipJ rs fs).take i)).map V.int).length < sizeLine := by
      rw [List.length_map, List.length_cons, scanJ_length, List.length_take]
      exact small12 (by (first | lia | omega))
    have hat : atI (rs.map V.int) (0 + (i : Int)) = some (.int l) := by rw [Int.zero_add]; exact atI_nat (getI hl)
    have ha' : H' a = some (.lst (rs.map V.int)) := h2 a _ (ne_of_none hS hp) hS
    have hb' : H' b = some (.lst (fs.map V.int)) := h2 b _ (ne_of_none hT hp) hT
    have hb2 : 0 < i → atI (fs.map V.int) (0 + (i : Int) - 1) = some (.int t) := fun hpos => by
      obtain ⟨j, rfl⟩ : ∃ j, i = j + 1 := ⟨i - 1, by (first | lia | omega)⟩
      rw [show (0 : Int) + ((j + 1 : Nat) : Int) - 1 = (j : Int) by (first | lia | omega)]
      exact atI_nat (getI (by simpa using ht))
    have ht0 : i = 0 → t = 0 := fun e => by subst e; simpa using ht.symm
    have fin : ∀ w' : Int, w' = (if t = 1 then -(((zipJ rs fs).take i).foldl stepJ (0, 1)).2 else (((zipJ rs fs).take i).foldl stepJ (0, 1)).2) → ∀ x : Int, x = (((zipJ rs fs).take i).foldl stepJ (0, 1)).1 + w' * l →
        upd H' p (.lst ((0 :: scanJ (0, 1) ((zipJ rs fs).take i)).map V.int ++ [.int x])) p = some (.lst ((0 :: scanJ (0, 1) ((zipJ rs fs).take (i + 1))).map V.int)) ∧ SameB p H (upd H' p (.lst ((0 :: scanJ (0, 1) ((zipJ rs fs).take i)).map V.int ++ [.int x]))) ∧
        decide (w' = 1) = decide ((((zipJ rs fs).take (i + 1)).foldl stepJ (0, 1)).2 = 1) := fun w' hw' x hx => by
      refine ⟨?_, h2.upd _, ?_⟩
      · rw [upd_same, tk, scanJ_snoc, hx, hw', ← List.cons_append, List.map_append]; rfl
      · rw [tk, List.foldl_append, hw']; rfl
    simp only [List.map_cons] at fin
    generalize (((zipJ rs fs).take i).foldl stepJ (0, 1)).2 = T2 at *
    generalize (((zipJ rs fs).take i).foldl stepJ (0, 1)).1 = T1 at *
    have pl := fun (e : (1 : Int) = (if t = 1 then -T2 else T2)) => fin 1 e (T1 + l) (by (first | lia | omega))
    have mn := fun (e : (-1 : Int) = (if t = 1 then -T2 else T2)) => fin (-1) e (T1 - l) (by (first | lia | omega))
    refine seq_cutS (fun σ' H'' => H'' = H' ∧ ∃ up : Bool, σ' = [some (.ref a), some (.ref b), some (.ref p), some (.bl up), some (.int (0 + (i : Int)))] ∧ (up = true → (1 : Int) = (if t = 1 then -T2 else T2)) ∧ (up = false → (-1 : Int) = (if t = 1 then -T2 else T2))) (fun σ' H'' h => ?_) (fun B hB => ?_)
    rotate_left
    · have go : ∀ up : Bool, (up = true → (1 : Int) = (if t = 1 then -T2 else T2)) → (up = false → (-1 : Int) = (if t = 1 then -T2 else T2)) → B _ [some (.ref a), some (.ref b), some (.ref p), some (.bl up), some (.int (0 + (i : Int)))] H' := fun up u1 u2 => hB _ _ ⟨rfl, up, rfl, u1, u2⟩
      walk_at "rd"
      by_cases hpos : 0 < i
      · rw [if_pos (by (first | lia | omega))]
        refine ⟨_, SqL.of hb', _, hb2 hpos, scalII _ _, ?_⟩
        simp only [V.int.injEq]
        by_cases h1' : t = 1
        · rw [if_pos h1']
          refine go _ (fun z => ?_) (fun z => ?_)
          · rw [if_pos h1']; simp at z; (first | lia | omega)
          · rw [if_pos h1']; simp at z; (first | lia | omega)
        · rw [if_neg h1']
          refine go _ (fun z => ?_) (fun z => ?_)
          · rw [if_neg h1']; simp at z; (first | lia | omega)
          · rw [if_neg h1']; simp at z; (first | lia | omega)
      · rw [if_neg (by (first | lia | omega))]
        have h1' : ¬ t = 1 := by have := ht0 (by (first | lia | omega)); (first | lia | omega)
        refine go _ (fun z => ?_) (fun z => ?_)
        · rw [if_neg h1']; simp at z; (first | lia | omega)
        · rw [if_neg h1']; simp at z; (first | lia | omega)
    obtain ⟨rfl, up, rfl, u1, u2⟩ := h
    walk_at "rd"
    cases up with
    | true =>
      rw [if_pos rfl]
      obtain ⟨z1, z2, z3⟩ := pl (u1 rfl)
      exact ⟨tyL h1, _, SqL.of h1, _, lT, _, SqL.of ha', _, hat, _, rfl, _, rfl, _, h1, ln, z1, z2, by rw [← z3]; rfl⟩
    | false =>
      rw [if_neg (by decide)]
      obtain ⟨z1, z2, z3⟩ := mn (u2 rfl)
      exact ⟨tyL h1, _, SqL.of h1, _, lT, _, SqL.of ha', _, hat, _, rfl, _, rfl, _, h1, ln, z1, z2, by rw [← z3]; rfl⟩
  · obtain ⟨h1, h2, o, rfl⟩ := h
    refine ⟨_, rfl, q p H' ⟨h2.same hp, hp, ?_⟩⟩
    rw [h1, List.take_of_length_le (by (first | lia | omega))]
    rfl
def sp_law_span (K : PySem.W.Frag) : Sp := fun vs H Q _ => ∃ (a b : Addr) (rs fs : List Int), vs = [.ref a, .ref b] ∧ H a = some (.lst (rs.map V.int)) ∧ H b = some (.lst (fs.map V.int)) ∧ rs.length ≤ 12 ∧ fs.length + 1 = rs.length ∧
  ∀ H' : Hp, Same H H' → Q (.int (spanL rs fs)) H'
theorem ok_law_span {f : Addr} {fd : FuncData} (F : Fun K "_law_span" "_law_span" s_law_span f fd) {f_law_joints : Addr} {d_law_joints : FuncData} (G_law_joints : FnOk P w K mg base (CXE P w) 1 f_law_joints d_law_joints ["rule", "folding"] (sp_law_joints K)) (m_law_joints : mg "_law_joints" = some (.ref f_law_joints)) (k_law_joints : PySem.W.keepIn K (.ref f_law_joints) = true) (b_law_joints : Binds K d_law_joints ["rule", "folding"] []) (z_sorted : mg "sorted" = none) :
    FnOk P w K mg base (CXE P w) 2 f fd ["rule", "folding"] (sp_law_span K) := by
  refine F.okN sc_law_span (fun vs H Q E h => ?_) (fun cdv A outer s H vs Q E hr h => ?_)
  · obtain ⟨a, b, rs, fs, rfl, _⟩ := h
    rfl
  obtain ⟨a, b, rs, fs, rfl, hS, hT, hR, hF, q⟩ := h
  have ND := sc_law_span.nd
  refine ⟨_, (pss_cons (ps_set (i := 2) ND rfl (Or.inl rfl) (pe_callB (call_sortedK K) (by rfl) z_sorted PyProof.Rows.Boot.«sorted» (pa_cons (pe_call G_law_joints (hr.mono (by (first | lia | omega))) (by rfl) m_law_joints k_law_joints b_law_joints .nil passN (pa_cons (pv 0) (pa_cons (pv 1) pa_nil))) pa_nil)))
    (pss_one (ps_ret (pe_op op_sub (pe_ix (ix_listK K) (pv 2) (pe_un un_neg pe_int) (fun _ _ => rfl)) (pe_ix (ix_listK K) (pv 2) pe_int (fun _ _ => rfl)))))), ?_⟩
  walk_at "rd"
  refine ⟨a, b, rs, fs, rfl, hS, hT, hR, hF, fun l H' hN => ?_⟩
  walk_at "rd"
  have hlen := joints_length hF
  refine ⟨_, SqL.of hN.at_, by (first | lia | omega), fun l2 ms hl2 hp hs => ?_⟩
  have ml := hp.length_eq
  have e1 : ms[ms.length - 1]? = some (ms[ms.length - 1]'(by (first | lia | omega))) := List.getElem?_eq_getElem _
  have e2 : ms[0]? = some (ms[0]'(by (first | lia | omega))) := List.getElem?_eq_getElem _
  have i1 : atI (ms.map V.int) (-1) = some (.int (ms[ms.length - 1]'(by (first | lia | omega)))) := by
    unfold atI ixN
    rw [if_neg (by decide), List.length_map, if_pos (by (first | lia | omega)), Option.bind_some, show ((-1 : Int) + (ms.length : Int)).toNat = ms.length - 1 by (first | lia | omega)]
    exact getI e1
  refine ⟨_, SqL.of upd_same, _, i1, _, SqL.of upd_same, _, atI_nat (j := 0) (getI e2), _, rfl, _, rfl, ?_⟩
  have m1 := sorted_last hp hs (by (first | lia | omega)) e1
  have m2 := sorted_first hp hs e2
  rw [max_is (zero_mem_joints rs fs) m1.1 m1.2, min_is (zero_mem_joints rs fs) m2.1 m2.2]
  exact q _ (same_tup hN.same hl2 _)
end
end FR
namespace FR
open PySem L2
section
variable {P : Program} {w : World} {K : PySem.W.Frag} {mg : Str → Option Value} {base : Heap}
-- ALWAYS
/-- the lists at the addresses -/
structure AtAll (H : Hp) (refs : List Addr) (fs : List (List Int)) : Prop where
  len : refs.length = fs.length
  at_ : ∀ (i : Nat) (r : Addr) (f : List Int), refs[i]? = some r → fs[i]? = some f → H r = some (.lst (f.map V.int))
theorem AtAll.same {H H' : Hp} {refs : List Addr} {fs : List (List Int)} (h : AtAll H refs fs) (g : ∀ r ∈ refs, ∀ o, H r = some o → H' r = some o) : AtAll H' refs fs :=
  ⟨h.len, fun i r f h1 h2 => g r (List.mem_of_getElem? h1) _ (h.at_ i r f h1 h2)⟩
theorem AtAll.snoc {H : Hp} {refs : List Addr} {fs : List (List Int)} (h : AtAll H refs fs) {r : Addr} {f : List Int} (hr : H r = some (.lst (f.map V.int))) : AtAll H (refs ++ [r]) (fs ++ [f]) := by
  refine ⟨by rw [List.length_append, List.length_append, h.len]; rfl, fun i r' f' h1 h2 => ?_⟩
  by_cases hi : i < refs.length
  · rw [List.getElem?_append_left hi] at h1
    rw [List.getElem?_append_left (by rw [← h.len]; exact hi)] at h2
    exact h.at_ i r' f' h1 h2
  · have hl := (List.getElem?_eq_some_iff.mp h1).1
    rw [List.length_append] at hl
    have e : i = refs.length := by simp at hl; (first | lia | omega)
    subst e
    rw [List.getElem?_append_right (Nat.le_refl _)] at h1
    rw [List.getElem?_append_right (by rw [h.len]; exact Nat.le_refl _), h.len] at h2
    simp at h1 h2
    subst h1 h2; exact hr
theorem AtAll.mem {H : Hp} {refs : List Addr} {fs : List (List Int)} (h : AtAll H refs fs) {r : Addr} (hr : r ∈ refs) : ∃ f ∈ fs, H r = some (.lst (f.map V.int)) := by
  obtain ⟨i, hi⟩ := List.getElem?_of_mem hr
  have hl := (List.getElem?_eq_some_iff.mp hi).1
  have hf : fs[i]? = some (fs[i]'(by rw [← h.len]; exact hl)) := List.getElem?_eq_getElem _
  exact ⟨_, List.mem_of_getElem? hf, h.at_ i r _ hi hf⟩
/-- which of the four the exception is -/
def sp_law_alone (K : PySem.W.Frag) : Sp := fun vs H Q _ => ∃ (a : Addr) (nm : Str) (j : Nat), vs = [.ref a] ∧ H a = some (exO a (clsA K nm)) ∧ kidN[j]? = some nm ∧ ∀ H' : Hp, Same H H' → Q (.int (j : Int)) H'
theorem kid_cases {j : Nat} {nm : Str} (h : kidN[j]? = some nm) : (j = 0 ∧ nm = "BadRule") ∨ (j = 1 ∧ nm = "BadFolding") ∨ (j = 2 ∧ nm = "NoSuch") ∨ (j = 3 ∧ nm = "NoText") := by
  match j with
  | 0 => left; exact ⟨rfl, by simpa [kidN] using h.symm⟩
  | 1 => right; left; exact ⟨rfl, by simpa [kidN] using h.symm⟩
  | 2 => right; right; left; exact ⟨rfl, by simpa [kidN] using h.symm⟩
  | 3 => right; right; right; exact ⟨rfl, by simpa [kidN] using h.symm⟩
  | k + 4 => simp [kidN] at h
theorem ok_law_alone {f : Addr} {fd : FuncData} (F : Fun K "_law_alone" "_law_alone" s_law_alone f fd) (Er : Errs K mg) (z_isinstance : mg "isinstance" = none) (z_ValueError : mg "ValueError" = none) :
    FnOk P w K mg base (CXE P w) 1 f fd ["e"] (sp_law_alone K) := by
  refine F.okN sc_law_alone (fun vs H Q E h => ?_) (fun cdv A outer s H vs Q E hr h => ?_)
  · obtain ⟨a, nm, j, rfl, _⟩ := h
    rfl
  obtain ⟨a, nm, j, rfl, ha, hj, q⟩ := h
  have ND := sc_law_alone.nd
  have hm : nm ∈ kidN := List.mem_of_getElem? hj
  refine ⟨_, (pss_cons (ps_set (i := 1) ND rfl (Or.inl rfl) (pe_lst (pa_cons (pe_callB (call_isiE K) (by rfl) z_isinstance PyProof.Rows.Boot.«isinstance» (pa_cons (pv 0) (pa_cons (pe_glob (v := .ref (clsA K "BadRule")) (by rfl) (Er.m "BadRule" (by decide)) rfl) pa_nil))) (pa_cons (pe_callB (call_isiE K) (by rfl) z_isinstance PyProof.Rows.Boot.«isinstance» (pa_cons (pv 0) (pa_cons (pe_glob (v := .ref (clsA K "BadFolding")) (by rfl) (Er.m "BadFolding" (by decide)) rfl) pa_nil))) (pa_cons (pe_callB (call_isiE K) (by rfl) z_isinstance PyProof.Rows.Boot.«isinstance» (pa_cons (pv 0) (pa_cons (pe_glob (v := .ref (clsA K "NoSuch")) (by rfl) (Er.m "NoSuch" (by decide)) rfl) pa_nil))) (pa_cons (pe_callB (call_isiE K) (by rfl) z_isinstance PyProof.Rows.Boot.«isinstance» (pa_cons (pv 0) (pa_cons (pe_glob (v := .ref (clsA K "NoText")) (by rfl) (Er.m "NoText" (by decide)) rfl) pa_nil))) pa_nil))))))
    (pss_cons (ps_if (pw_or (pt_not (pt_truthK K (pe_callB (call_isiE K) (by rfl) z_isinstance PyProof.Rows.Boot.«isinstance» (pa_cons (pv 0) (pa_cons (pe_glob (v := .ref (clsA K "RuleError")) (by rfl) (Er.m "RuleError" (by decide)) rfl) pa_nil))) (fun _ => rfl))) (pw_or (pt_not (pt_truthK K (pe_callB (call_isiE K) (by rfl) z_isinstance PyProof.Rows.Boot.«isinstance» (pa_cons (pv 0) (pa_cons (pe_bltn (v := .ty "ValueError") (by rfl) z_ValueError PyProof.Rows.Boot.«ValueError» rfl) pa_nil))) (fun _ => rfl))) (pw_or1 (pt_cmpR op_ne (pe_bmK K PySem.F.plainAttrs_list PySem.F.slot_list_count PySem.F.type_list_count (mt_count K) (pv 1) (pa_cons pe_bl pa_nil)) pe_int (nomark _))))).pt (pss_one (ps_ret (pe_un un_neg pe_int))) pss_nil)
    (pss_one (ps_ret (pe_bmK K PySem.F.plainAttrs_list PySem.F.slot_list_index PySem.F.type_list_index (mt_index K) (pv 1) (pa_cons pe_bl pa_nil)))))), ?_⟩
  refine seq_hide fun B1 e1 => ?_
  walk_at "rd"
  have hI := Er.i nm hm
  have hK := Er.k nm hm
  refine ⟨_, ha, hI, _, hK "BadRule" (by decide), _, ha, hI, _, hK "BadFolding" (by decide), _, ha, hI, _, hK "NoSuch" (by decide), _, ha, hI, _, hK "NoText" (by decide), (by decide : 4 ≤ sizeLine), fun p hp => ?_⟩
  have s1 := same_new hp (.lst [.bl (decide (nm = "BadRule")), .bl (decide (nm = "BadFolding")), .bl (decide (nm = "NoSuch")), .bl (decide (nm = "NoText"))])
  have hp1 : upd H p (.lst [.bl (decide (nm = "BadRule")), .bl (decide (nm = "BadFolding")), .bl (decide (nm = "NoSuch")), .bl (decide (nm = "NoText"))]) p = some (.lst ([decide (nm = "BadRule"), decide (nm = "BadFolding"), decide (nm = "NoSuch"), decide (nm = "NoText")].map V.bl)) := upd_same
  generalize upd H p (.lst [.bl (decide (nm = "BadRule")), .bl (decide (nm = "BadFolding")), .bl (decide (nm = "NoSuch")), .bl (decide (nm = "NoText"))]) = H1 at *
  have ha' := s1 _ _ ha
  subst e1
  refine seq_hide fun B1 e1 => ?_
  walk_at "rd"
  refine ⟨_, ha', hI, true, Er.kR nm hm, ?_⟩
  rw [if_neg (by decide)]
  refine ⟨_, ha', hI, true, Er.kV nm hm, ?_⟩
  rw [if_neg (by decide)]
  refine ⟨tyL hp1, _, SqL.of hp1, ?_⟩
  have q' := q H1 s1
  split
  · next hc =>
    rcases kid_cases hj with ⟨rfl, rfl⟩ | ⟨rfl, rfl⟩ | ⟨rfl, rfl⟩ | ⟨rfl, rfl⟩ <;> exact absurd (by decide) hc
  subst e1
  walk_at "rd"
  rcases kid_cases hj with ⟨rfl, rfl⟩ | ⟨rfl, rfl⟩ | ⟨rfl, rfl⟩ | ⟨rfl, rfl⟩
  · exact ⟨tyL hp1, _, SqL.of hp1, 0, rfl, fun m hm => by (first | lia | omega), by decide, q'⟩
  · refine ⟨tyL hp1, _, SqL.of hp1, 1, rfl, fun m hm => ?_, by decide, q'⟩
    match m, hm with
    | 0, _ => exact (by decide)
  · refine ⟨tyL hp1, _, SqL.of hp1, 2, rfl, fun m hm => ?_, by decide, q'⟩
    match m, hm with
    | 0, _ => exact (by decide)
    | 1, _ => exact (by decide)
  · refine ⟨tyL hp1, _, SqL.of hp1, 3, rfl, fun m hm => ?_, by decide, q'⟩
    match m, hm with
    | 0, _ => exact (by decide)
    | 1, _ => exact (by decide)
    | 2, _ => exact (by decide)
end
end FR
namespace FR
open PySem L2
-- ALWAYS
/-- refused with this class, all that was there staying -/
def Ref (K : PySem.W.Frag) (H : Hp) (E : XK) (c : Str) : Prop := ∀ H' : Hp, Same H H' → E (.ref (clsA K c)) none H'
theorem Ref.mono {K : PySem.W.Frag} {H H1 : Hp} {E : XK} {c : Str} (h : Ref K H E c) (g : Same H H1) : Ref K H1 E c := fun H' g' => h H' (g.trans g')
theorem Ref.now {K : PySem.W.Frag} {H : Hp} {E : XK} {c : Str} (h : Ref K H E c) : E (.ref (clsA K c)) none H := h H (Same.refl H)
def sp_check_rule (K : PySem.W.Frag) : Sp := fun vs H Q E => ∃ (a : Addr) (rs : List Int), vs = [.ref a] ∧ SqL K H a (rs.map V.int) ∧ (IsRule rs → Q .non H) ∧ (¬ IsRule rs → Ref K H E "BadRule")
section
variable {P : Program} {w : World} {K : PySem.W.Frag} {mg : Str → Option Value} {base : Heap}
theorem ok_check_rule {f : Addr} {fd : FuncData} (F : Fun K "check_rule" "check_rule" s_check_rule f fd) (Er : Errs K mg) (z_len : mg "len" = none) {t_LONGEST_PIECE : Tok} (m_LONGEST_PIECE : mg "LONGEST_PIECE" = some (.int 60 t_LONGEST_PIECE)) {t_MOST_PIECES : Tok} (m_MOST_PIECES : mg "MOST_PIECES" = some (.int 12 t_MOST_PIECES)) :
    FnOk P w K mg base (CXE P w) 1 f fd ["rule"] (sp_check_rule K) := by
  refine F.okX sc_check_rule (fun vs H Q E h => ?_) (fun cdv A outer s H vs Q E hr h => ?_)
  · obtain ⟨a, rs, rfl, _⟩ := h
    rfl
  obtain ⟨a, rs, rfl, hS, q, x0⟩ := h
  have ND := sc_check_rule.nd
  refine ⟨_, (pss_cons (ps_if (pw_or (pt_cmpR op_lt (pe_callB (call_lenK K) (by rfl) z_len PySem.boot_len (pa_cons (pv 0) pa_nil)) pe_int (nomark _)) (pw_or1 (pt_cmpR op_gt (pe_callB (call_lenK K) (by rfl) z_len PySem.boot_len (pa_cons (pv 0) pa_nil)) (pe_glob (v := .int 12) (by rfl) m_MOST_PIECES ⟨_, rfl⟩) (nomark _)))).pt (pss_one (ps_raise (Er.q "BadRule" (by decide)) (by rfl) (Er.m "BadRule" (by decide)) (pa_cons (pe_fstr3 pe_str (pe_glob (v := .int 12) (by rfl) m_MOST_PIECES ⟨_, rfl⟩) pe_str) pa_nil))) pss_nil)
    (pss_one (ps_for PassesOwn.leaving rfl (pi_listK K (pv 0)) (pg_name (i := 1) ND rfl (Or.inl rfl)) (pss_one (ps_if (pw_or (pt_cmpR op_lt (pv 1) pe_int (nomark _)) (pw_or1 (pt_cmpR op_gt (pv 1) (pe_glob (v := .int 60) (by rfl) m_LONGEST_PIECE ⟨_, rfl⟩) (nomark _)))).pt (pss_one (ps_raise (Er.q "BadRule" (by decide)) (by rfl) (Er.m "BadRule" (by decide)) (pa_cons (pe_fstr2 pe_str (pe_glob (v := .int 60) (by rfl) m_LONGEST_PIECE ⟨_, rfl⟩)) pa_nil))) pss_nil))))), ?_⟩
  walk_at "rd"
  refine ⟨_, hS, ?_⟩
  rw [List.length_map]
  refine ite2 (fun hb y => ⟨(by decide : 1 ≤ sizeLine), (x0 fun R => by have := R.some; (first | lia | omega)).now⟩) (fun hb => ⟨_, hS, ?_⟩)
  rw [List.length_map]
  refine ite2 (fun hc y => ⟨(by decide : 1 ≤ sizeLine), (x0 fun R => by have := R.few; (first | lia | omega)).now⟩) (fun hc => ?_)
  refine ⟨_, rfl, a, rfl, ⟨_, hS⟩, for_list (xs := rs.map V.int) (fun i σ H' => H' = H ∧ (∃ o, σ = [some (.ref a), o]) ∧ ∀ x ∈ rs.take i, 1 ≤ x ∧ x ≤ 60) ⟨rfl, ⟨_, rfl⟩, fun x hx => by simp at hx⟩ (fun i σ H' _ h => h.1 ▸ hS) (fun i x σ H' hx h => ?_) (fun σ H' h => ?_)⟩
  · obtain ⟨rfl, ⟨o, rfl⟩, hall⟩ := h
    obtain ⟨n, hn, rfl⟩ := ofGetI hx
    have hm := List.mem_of_getElem? hn
    walk_at "rd"
    refine ite2 (fun hb y => ⟨(by decide : 1 ≤ sizeLine), (x0 fun R => by have := R.lo n hm; (first | lia | omega)).now⟩) (fun hb => ?_)
    refine ite2 (fun hc y => ⟨(by decide : 1 ≤ sizeLine), (x0 fun R => by have := R.hi n hm; (first | lia | omega)).now⟩) (fun hc => ?_)
    rw [take_snoc hn]
    intro x hx
    rcases List.mem_append.mp hx with hx | hx
    · exact hall x hx
    · rw [List.mem_singleton] at hx; subst hx; (first | lia | omega)
  · obtain ⟨rfl, _, hall⟩ := h
    rw [List.length_map, List.take_length] at hall
    exact q ⟨by (first | lia | omega), by (first | lia | omega), fun x hx => (hall x hx).1, fun x hx => (hall x hx).2⟩

def sp_check_folding (K : PySem.W.Frag) : Sp := fun vs H Q E => ∃ (a b : Addr) (rs fs : List Int), vs = [.ref a, .ref b] ∧ SqL K H a (rs.map V.int) ∧ SqL K H b (fs.map V.int) ∧ (IsRule rs → IsFold rs fs → Q .non H) ∧ (¬ IsRule rs → Ref K H E "BadRule") ∧ (IsRule rs → ¬ IsFold rs fs → Ref K H E "BadFolding")
theorem ok_check_folding {f : Addr} {fd : FuncData} (F : Fun K "check_folding" "check_folding" s_check_folding f fd) {f_check_rule : Addr} {d_check_rule : FuncData} (G_check_rule : FnOk P w K mg base (CXE P w) 1 f_check_rule d_check_rule ["rule"] (sp_check_rule K)) (m_check_rule : mg "check_rule" = some (.ref f_check_rule)) (k_check_rule : PySem.W.keepIn K (.ref f_check_rule) = true) (b_check_rule : Binds K d_check_rule ["rule"] []) (Er : Errs K mg) (z_len : mg "len" = none) :
    FnOk P w K mg base (CXE P w) 2 f fd ["rule", "folding"] (sp_check_folding K) := by
  refine F.okX sc_check_folding (fun vs H Q E h => ?_) (fun cdv A outer s H vs Q E hr h => ?_)
  · obtain ⟨a, b, rs, fs, rfl, _⟩ := h
    rfl
  obtain ⟨a, b, rs, fs, rfl, hS, hT, q, x0, x1⟩ := h
  have ND := sc_check_folding.nd
  refine ⟨_, (pss_cons (ps_expr (pe_call G_check_rule (hr.mono (by (first | lia | omega))) (by rfl) m_check_rule k_check_rule b_check_rule .nil (passE (fun _ _ _ z => z)) (pa_cons (pv 0) pa_nil)))
    (pss_cons (ps_if (pt_cmpR op_ne (pe_callB (call_lenK K) (by rfl) z_len PySem.boot_len (pa_cons (pv 1) pa_nil)) (pe_op op_sub (pe_callB (call_lenK K) (by rfl) z_len PySem.boot_len (pa_cons (pv 0) pa_nil)) pe_int) (nomark _)) (pss_one (ps_raise (Er.q "BadFolding" (by decide)) (by rfl) (Er.m "BadFolding" (by decide)) (pa_cons pe_str pa_nil))) pss_nil)
    (pss_one (ps_for PassesOwn.leaving rfl (pi_listK K (pv 1)) (pg_name (i := 2) ND rfl (Or.inl rfl)) (pss_one (ps_if (pw_and (pt_cmpR op_ne (pv 2) pe_int (nomark _)) (pw_and1 (pt_cmpR op_ne (pv 2) pe_int (nomark _)))).pt (pss_one (ps_raise (Er.q "BadFolding" (by decide)) (by rfl) (Er.m "BadFolding" (by decide)) (pa_cons pe_str pa_nil))) pss_nil)))))), ?_⟩
  walk_at "rd"
  refine ⟨a, rs, rfl, hS, fun hR => ?_, x0⟩
  have h0 := hR.some
  refine ⟨_, hT, _, hS, ?_⟩
  rw [List.length_map, List.length_map]
  refine ite2 (fun hb => ⟨(by decide : 1 ≤ sizeLine), (x1 hR fun R => by have := R.len; (first | lia | omega)).now⟩) (fun hb => ?_)
  refine ⟨_, rfl, b, rfl, ⟨_, hT⟩, for_list (xs := fs.map V.int) (fun i σ H' => H' = H ∧ (∃ o, σ = [some (.ref a), some (.ref b), o]) ∧ ∀ x ∈ fs.take i, x = 0 ∨ x = 1) ⟨rfl, ⟨_, rfl⟩, fun x hx => by simp at hx⟩ (fun i σ H' _ h => h.1 ▸ hT) (fun i x σ H' hx h => ?_) (fun σ H' h => ?_)⟩
  · obtain ⟨rfl, ⟨o, rfl⟩, hall⟩ := h
    obtain ⟨n, hn, rfl⟩ := ofGetI hx
    have hm := List.mem_of_getElem? hn
    walk_at "rd"
    refine ite2 (fun hb => ite2 (fun hc => ⟨(by decide : 1 ≤ sizeLine), (x1 hR fun R => by have := R.two n hm; (first | lia | omega)).now⟩) (fun hc => ?_)) (fun hb => ?_)
    all_goals
      rw [take_snoc hn]
      intro x hx
      rcases List.mem_append.mp hx with hx | hx
      · exact hall x hx
      · rw [List.mem_singleton] at hx; subst hx; (first | lia | omega)
  · obtain ⟨rfl, _, hall⟩ := h
    rw [List.length_map, List.take_length] at hall
    exact q hR ⟨by (first | lia | omega), hall⟩
/-- a new list with the joints -/
def sp_joints (K : PySem.W.Frag) : Sp := fun vs H Q E => ∃ (a b : Addr) (rs fs : List Int), vs = [.ref a, .ref b] ∧ H a = some (.lst (rs.map V.int)) ∧ H b = some (.lst (fs.map V.int)) ∧
  (IsRule rs → IsFold rs fs → ∀ (l : Addr) (H' : Hp), NewL H H' l ((jointsL rs fs).map V.int) → Q (.ref l) H') ∧ (¬ IsRule rs → Ref K H E "BadRule") ∧ (IsRule rs → ¬ IsFold rs fs → Ref K H E "BadFolding")
theorem ok_joints {f : Addr} {fd : FuncData} (F : Fun K "joints" "joints" s_joints f fd) {f_check_folding : Addr} {d_check_folding : FuncData} (G_check_folding : FnOk P w K mg base (CXE P w) 2 f_check_folding d_check_folding ["rule", "folding"] (sp_check_folding K)) (m_check_folding : mg "check_folding" = some (.ref f_check_folding)) (k_check_folding : PySem.W.keepIn K (.ref f_check_folding) = true) (b_check_folding : Binds K d_check_folding ["rule", "folding"] []) (z_zip : mg "zip" = none) :
    FnOk P w K mg base (CXE P w) 3 f fd ["rule", "folding"] (sp_joints K) := by
  refine F.okX sc_joints (fun vs H Q E h => ?_) (fun cdv A outer s H vs Q E hr h => ?_)
  · obtain ⟨a, b, rs, fs, rfl, _⟩ := h
    rfl
  obtain ⟨a, b, rs, fs, rfl, hS, hT, q0, x0, x1⟩ := h
  have ND := sc_joints.nd
  refine ⟨_, (pss_cons (ps_expr (pe_call G_check_folding (hr.mono (by (first | lia | omega))) (by rfl) m_check_folding k_check_folding b_check_folding .nil (passE (fun _ _ _ z => z)) (pa_cons (pv 0) (pa_cons (pv 1) pa_nil))))
    (pss_cons (ps_set (i := 2) ND rfl (Or.inl rfl) pe_int)
    (pss_cons (ps_set (i := 3) ND rfl (Or.inl rfl) (pe_lst (pa_cons (pv 2) pa_nil)))
    (pss_cons (ps_set (i := 4) ND rfl (Or.inl rfl) pe_int)
    (pss_cons (PS.nox (ps_for PassesOwn.never rfl (pi_zipK K (by rfl) z_zip (pa_cons (pe_op op_cat (pe_lst (pa_cons pe_int pa_nil)) (pv 1)) (pa_cons (pv 0) pa_nil))) (pg_tupK K 2 rfl (pgs_cons (pg_name (i := 5) ND rfl (Or.inl rfl)) (pgs_cons (pg_name (i := 6) ND rfl (Or.inl rfl)) pgs_nil))) (pss_cons (ps_if (pt_cmpR op_eq (pv 5) pe_int (nomark _)) (pss_one (ps_set (i := 4) ND rfl (Or.inl rfl) (pe_un un_neg (pv 4)))) pss_nil)
    (pss_cons (ps_set (i := 2) ND rfl (Or.inl rfl) (pe_op op_add (pv 2) (pe_op op_mul (pv 4) (pv 6))))
    (pss_one (ps_expr (pe_bmK K PySem.F.plainAttrs_list PySem.F.slot_list_append PySem.F.type_list_append mt_append (pv 3) (pa_cons (pv 2) pa_nil))))))))
    (pss_one (ps_ret (pv 3)))))))), ?_⟩
  walk_at "rd"
  refine ⟨a, b, rs, fs, rfl, .inl (.inl hS), .inl (.inl hT), fun hR hF => ?_, x0, x1⟩
  have q := q0 hR hF
  refine ⟨(by decide : 1 ≤ sizeLine), fun p hp => ?_⟩
  have s1 : Same H (upd H p (.lst [.int 0])) := same_new hp _
  have hl := hF.len
  have hfew := hR.few
  refine ⟨(by decide : 1 ≤ sizeLine), fun p2 hp2 => ⟨_, rfl, p2, b, _, _, rfl, rfl, upd_same, upd_keep (s1 _ _ hT) hp2, ?_, fun c hc => ?_⟩⟩
  · rw [List.length_map]
    exact small12' (by simp only [List.length_cons, List.length_nil]; (first | lia | omega))
  have s2 : Same H (upd (upd H p (.lst [.int 0])) p2 (.lst [.int 0])) := same_tup s1 hp2 _
  have s3 : Same H (upd (upd (upd H p (.lst [.int 0])) p2 (.lst [.int 0])) c (.lst ([.int 0] ++ fs.map V.int))) := same_tup s2 hc _
  have pp : upd (upd (upd H p (.lst [.int 0])) p2 (.lst [.int 0])) c (.lst ([.int 0] ++ fs.map V.int)) p = some (.lst [.int 0]) := upd_keep (upd_keep upd_same hp2) hc
  have pc : p ≠ c := ne_of_none (upd_keep upd_same hp2) hc
  generalize hH3 : upd (upd (upd H p (.lst [.int 0])) p2 (.lst [.int 0])) c (.lst ([.int 0] ++ fs.map V.int)) = H3 at s3 pp
  have hc3 : H3 c = some (.lst (((0 : Int) :: fs).map V.int)) := by rw [← hH3, upd_same]; rfl
  have zl : (zipJ rs fs).length = rs.length := by unfold zipJ; rw [List.length_zip, List.length_cons]; (first | lia | omega)
  refine ⟨_, rfl, c, a, rfl, ⟨_, SqL.of hc3⟩, ⟨_, SqL.of (s3 _ _ hS)⟩, for_zip (xs := ((0 : Int) :: fs).map V.int) (ys := rs.map V.int)
    (fun i σ H' => H' p = some (.lst ((0 :: scanJ (0, 1) ((zipJ rs fs).take i)).map V.int)) ∧ SameB p H3 H' ∧ ∃ o1 o2, σ = [some (.ref a), some (.ref b), some (.int (((zipJ rs fs).take i).foldl stepJ (0, 1)).1), some (.ref p), some (.int (((zipJ rs fs).take i).foldl stepJ (0, 1)).2), o1, o2])
    ⟨pp, SameB.refl _ _, _, _, rfl⟩ (fun i σ H' _ h => ?_) (fun i x y t σ H' hx hy ht h => ?_) (fun σ H' h => ?_)⟩
  · obtain ⟨h1, h2, _⟩ := h
    exact ⟨SqL.of (h2 c _ pc.symm hc3), SqL.of (h2 a _ (ne_of_none hS hp) (s3 _ _ hS))⟩
  · obtain ⟨h1, h2, o1, o2, rfl⟩ := h
    obtain ⟨n, hn, rfl⟩ := ofGetI hx
    obtain ⟨m, hm, rfl⟩ := ofGetI hy
    have hz : (zipJ rs fs)[i]? = some (n, m) := PyProof.Rows.zip_get hn hm
    have tk := take_snoc hz
    have li : i < 12 := by
      have := (List.getElem?_eq_some_iff.mp hm).1
      (first | lia | omega)
    walk_at "rd"
    refine ⟨[.int n, .int m], SqT.of upd_same, rfl, _, _, rfl, _, _, rfl, rfl, ?_⟩
    walk_at "rd"
    have hp' : upd H' t (.tup [.int n, .int m]) p = some (.lst ((0 :: scanJ (0, 1) ((zipJ rs fs).take i)).map V.int)) := upd_keep h1 ht
    have hw := way_one ((zipJ rs fs).take i)
    have sB : ∀ o, SameB p H3 (upd (upd H' t (.tup [.int n, .int m])) p o) := fun o => (h2.new ht _).upd _
    have ln : ((0 :: scanJ (0, 1) ((zipJ rs fs).take i)).map V.int).length < sizeLine := by
      rw [List.length_map, List.length_cons, scanJ_length, List.length_take]
      exact small12 (by (first | lia | omega))
    rw [tk, scanJ_snoc, List.foldl_append]
    simp only [List.foldl_cons, List.foldl_nil, stepJ]
    by_cases hn1 : n = 1
    · subst hn1
      simp only [if_true]
      refine ⟨.inl (by (first | lia | omega)), tyL hp', _, hp', ln, ?_, sB _, trivial, trivial⟩
      rw [upd_same, List.map_append]
      rfl
    · simp only [hn1, if_false]
      refine ⟨.inl (by (first | lia | omega)), tyL hp', _, hp', ln, ?_, sB _, trivial, trivial⟩
      rw [upd_same, List.map_append]
      rfl
  · obtain ⟨h1, h2, o1, o2, rfl⟩ := h
    refine ⟨_, rfl, q p H' ⟨fun d o e => h2 d o (ne_of_none e hp) (s3 d o e), hp, ?_⟩⟩
    rw [h1, List.length_map, List.length_map, List.take_of_length_le (by rw [zl, List.length_cons]; (first | lia | omega))]
    rfl
def sp_span (K : PySem.W.Frag) : Sp := fun vs H Q E => ∃ (a b : Addr) (rs fs : List Int), vs = [.ref a, .ref b] ∧ H a = some (.lst (rs.map V.int)) ∧ H b = some (.lst (fs.map V.int)) ∧ 
  (IsRule rs → IsFold rs fs → ∀ H' : Hp, Same H H' → Q (.int (spanL rs fs)) H') ∧ (¬ IsRule rs → Ref K H E "BadRule") ∧ (IsRule rs → ¬ IsFold rs fs → Ref K H E "BadFolding")
theorem ok_span {f : Addr} {fd : FuncData} (F : Fun K "span" "span" s_span f fd) {f_joints : Addr} {d_joints : FuncData} (G_joints : FnOk P w K mg base (CXE P w) 3 f_joints d_joints ["rule", "folding"] (sp_joints K)) (m_joints : mg "joints" = some (.ref f_joints)) (k_joints : PySem.W.keepIn K (.ref f_joints) = true) (b_joints : Binds K d_joints ["rule", "folding"] []) (z_max : mg "max" = none) (z_min : mg "min" = none) :
    FnOk P w K mg base (CXE P w) 4 f fd ["rule", "folding"] (sp_span K) := by
  refine F.okX sc_span (fun vs H Q E h => ?_) (fun cdv A outer s H vs Q E hr h => ?_)
  · obtain ⟨a, b, rs, fs, rfl, _⟩ := h
    rfl
  obtain ⟨a, b, rs, fs, rfl, hS, hT, q, x0, x1⟩ := h
  have ND := sc_span.nd
  refine ⟨_, (pss_cons (ps_set (i := 2) ND rfl (Or.inl rfl) (pe_call G_joints (hr.mono (by (first | lia | omega))) (by rfl) m_joints k_joints b_joints .nil (passE (fun _ _ _ z => z)) (pa_cons (pv 0) (pa_cons (pv 1) pa_nil))))
    (pss_one (ps_ret (pe_op op_sub (pe_callB (call_maxK K) (by rfl) z_max PyProof.Rows.Boot.«max» (pa_cons (pv 2) pa_nil)) (pe_callB (call_minK K) (by rfl) z_min PyProof.Rows.Boot.«min» (pa_cons (pv 2) pa_nil)))))), ?_⟩
  walk_at "rd"
  refine ⟨a, b, rs, fs, rfl, hS, hT, fun hR hF l H' hN => ?_, x0, x1⟩
  walk_at "rd"
  have hlen := joints_length hF.len
  refine ⟨_, SqL.of hN.at_, by (first | lia | omega), fun M hM1 hM2 => ⟨_, SqL.of hN.at_, by (first | lia | omega), fun M' h1 h2 => ?_⟩⟩
  rw [max_is (zero_mem_joints rs fs) hM1 hM2, min_is (zero_mem_joints rs fs) h1 h2]
  exact q hR hF H' hN.same
end
end FR
namespace FR
open PySem L2
section
variable {P : Program} {w : World} {K : PySem.W.Frag} {mg : Str → Option Value} {base : Heap}
def sp_first_reach (K : PySem.W.Frag) : Sp := fun vs H Q _ => ∃ (a : Addr) (r0 : Int) (ls : List Int), vs = [.ref a] ∧ SqL K H a ((r0 :: ls).map V.int) ∧ ∀ p, H p = none → Q (.ref p) (upd H p (.tup [.int r0, .int 0]))
theorem ok_first_reach {f : Addr} {fd : FuncData} (F : Fun K "first_reach" "first_reach" s_first_reach f fd) :
    FnOk P w K mg base (CXE P w) 1 f fd ["rule"] (sp_first_reach K) := by
  refine F.okN sc_first_reach (fun vs H Q E h => ?_) (fun cdv A outer s H vs Q E hr h => ?_)
  · obtain ⟨a, r0, ls, rfl, _⟩ := h
    rfl
  obtain ⟨a, r0, ls, rfl, hS, q⟩ := h
  refine ⟨_, (pss_one (ps_ret (pe_tup (pa_cons (pe_ix (ix_listK K) (pv 0) pe_int (fun _ _ => rfl)) (pa_cons pe_int pa_nil))))), ?_⟩
  walk_at "rd"
  exact ⟨_, hS, _, atI_nat (j := 0) rfl, (by decide : 2 ≤ sizeLine), fun p hp => q p hp⟩
def sp_further_reach (K : PySem.W.Frag) : Sp := fun vs H Q _ => ∃ (a : Addr) (r : Rch) (t L : Int), vs = [.ref a, .int t, .int L] ∧ SqT K H a [.int r.1, .int r.2] ∧ ∀ p, H p = none → Q (.ref p) (upd H p (.tup [.int (frR r t L).1, .int (frR r t L).2]))
theorem ok_further_reach {f : Addr} {fd : FuncData} (F : Fun K "further_reach" "further_reach" s_further_reach f fd) (z_max : mg "max" = none) :
    FnOk P w K mg base (CXE P w) 1 f fd ["reach", "turn", "length"] (sp_further_reach K) := by
  refine F.okN sc_further_reach (fun vs H Q E h => ?_) (fun cdv A outer s H vs Q E hr h => ?_)
  · obtain ⟨a, r, t, L, rfl, _⟩ := h
    rfl
  obtain ⟨a, r, t, L, rfl, hS, q⟩ := h
  refine ⟨_, (pss_cons (ps_if (pt_cmpR op_eq (pv 1) pe_int (nomark _)) (pss_one (ps_ret (pe_tup (pa_cons (pe_op op_add (pe_ix (ix_tupK K) (pv 0) pe_int (fun _ _ => rfl)) (pv 2)) (pa_cons (pe_callB (call_max2 rfl) (by rfl) z_max PyProof.Rows.Boot.«max» (pa_cons (pe_op op_sub (pe_ix (ix_tupK K) (pv 0) pe_int (fun _ _ => rfl)) (pv 2)) (pa_cons pe_int pa_nil))) pa_nil))))) pss_nil)
    (pss_one (ps_ret (pe_tup (pa_cons (pe_op op_add (pe_ix (ix_tupK K) (pv 0) pe_int (fun _ _ => rfl)) (pv 2)) (pa_cons (pe_callB (call_max2 rfl) (by rfl) z_max PyProof.Rows.Boot.«max» (pa_cons (pe_op op_sub (pe_ix (ix_tupK K) (pv 0) pe_int (fun _ _ => rfl)) (pv 2)) (pa_cons pe_int pa_nil))) pa_nil)))))), ?_⟩
  walk_at "rd"
  unfold frR at q
  refine ite2 (fun c => ?_) (fun c => ?_)
  · rw [if_pos c] at q
    refine ⟨_, hS, _, atI_nat (j := 0) rfl, ?_⟩
    walk_at "rd"
    refine ⟨_, hS, _, atI_nat (j := 1) rfl, ?_⟩
    walk_at "rd"
    rw [max_if]
    exact ⟨(by decide : 2 ≤ sizeLine), fun p hp => q p hp⟩
  · rw [if_neg c] at q
    refine ⟨_, hS, _, atI_nat (j := 1) rfl, ?_⟩
    walk_at "rd"
    refine ⟨_, hS, _, atI_nat (j := 0) rfl, ?_⟩
    walk_at "rd"
    rw [max_if]
    exact ⟨(by decide : 2 ≤ sizeLine), fun p hp => q p hp⟩
/-! ### the dict of first foldings -/
def encX (x : Rch × List Int × Addr) : List Key × V := (keyR x.1, .ref x.2.2)
def prX (x : Rch × List Int × Addr) : Rch × List Int := (x.1, x.2.1)
theorem val_none {xs : List (Rch × List Int × Addr)} {r : Rch} (h : ∀ x ∈ xs, x.1 ≠ r) : valV (xs.map encX) (keyR r) = none := by
  induction xs with
  | nil => rfl
  | cons x q ih =>
    rw [List.map_cons, valV_neg]
    · exact ih fun y hy => h y (List.mem_cons_of_mem _ hy)
    · exact fun z => h x List.mem_cons_self (keyR_inj z)
theorem val_some {xs : List (Rch × List Int × Addr)} {r : Rch} (h : ∃ x ∈ xs, x.1 = r) : ∃ v, valV (xs.map encX) (keyR r) = some v := by
  induction xs with
  | nil => obtain ⟨x, hx, _⟩ := h; cases hx
  | cons x q ih =>
    rw [List.map_cons]
    by_cases e : x.1 = r
    · exact ⟨_, valV_pos (p := encX x) (by show keyR x.1 = _; rw [e])⟩
    · rw [valV_neg (p := encX x) (fun z => e (keyR_inj z))]
      refine ih ?_
      obtain ⟨y, hy, ey⟩ := h
      rcases List.mem_cons.mp hy with rfl | hy
      · exact absurd ey e
      · exact ⟨y, hy, ey⟩
theorem val_first {r : Rch} : ∀ {xs : List (Rch × List Int × Addr)} {i : Nat} {x : Rch × List Int × Addr}, xs[i]? = some x → x.1 = r → (∀ j y, j < i → xs[j]? = some y → y.1 ≠ r) → valV (xs.map encX) (keyR r) = some (.ref x.2.2)
  | [], _, _, h, _, _ => by simp at h
  | y :: q, 0, x, h, e, _ => by
    simp at h; subst h
    rw [List.map_cons]
    exact valV_pos (p := encX y) (by show keyR y.1 = _; rw [e])
  | y :: q, i + 1, x, h, e, hj => by
    rw [List.map_cons, valV_neg (p := encX y) (fun z => hj 0 y (by (first | lia | omega)) rfl (keyR_inj z))]
    exact val_first (i := i) (by simpa using h) e fun j z hji hz => hj (j + 1) z (by (first | lia | omega)) (by simpa using hz)
structure FD (H0 H : Hp) (d f : Addr) (o : Obj) (kv : List (List Key × V)) (G : List (Rch × List Int)) : Prop where
  fd : H d = some (.frz o (.dT kv))
  same : ∀ b u, b ≠ d → H0 b = some u → H b = some u
  ex : ∃ xs : List (Rch × List Int × Addr), H f = some (.dT (xs.map encX)) ∧ xs.map prX = G ∧ ∀ x ∈ xs, H x.2.2 = some (.lst (x.2.1.map V.int)) ∧ H0 x.2.2 = none
theorem FD.new {H0 H : Hp} {d f : Addr} {o : Obj} {kv : List (List Key × V)} {G : List (Rch × List Int)} (h : FD H0 H d f o kv G) {p : Addr} (hp : H p = none) (ob : HO) : FD H0 (upd H p ob) d f o kv G := by
  obtain ⟨a, b, xs, c1, c2, c3⟩ := h
  exact ⟨upd_keep a hp, fun b' u hb e => upd_keep (b b' u hb e) hp, xs, upd_keep c1 hp, c2, fun x hx => ⟨upd_keep (c3 x hx).1 hp, (c3 x hx).2⟩⟩
theorem FD.put {H0 H : Hp} {d f : Addr} {o : Obj} {kv : List (List Key × V)} {xs : List (Rch × List Int × Addr)} (a : H d = some (.frz o (.dT kv))) (b : ∀ b u, b ≠ d → H0 b = some u → H b = some u) (c1 : H f = some (.dT (xs.map encX)))
    (c3 : ∀ x ∈ xs, H x.2.2 = some (.lst (x.2.1.map V.int)) ∧ H0 x.2.2 = none) (f0 : H0 f = none) {r : Rch} {fl : List Int} {c : Addr} (hc : H c = some (.lst (fl.map V.int))) (hc0 : H0 c = none) (hn : ∀ x ∈ xs, x.1 ≠ r) :
    FD H0 (upd H f (.dT (putK (xs.map encX) (keyR r) (.ref c)))) d f o kv (xs.map prX ++ [(r, fl)]) := by
  have df : d ≠ f := ne_of a c1 (fun z => nomatch z)
  refine ⟨by rw [upd_ne df]; exact a, fun b' u hb e => by rw [upd_ne (ne_of_none e f0)]; exact b b' u hb e, xs ++ [(r, fl, c)], ?_, by rw [List.map_append]; rfl, fun x hx => ?_⟩
  · rw [upd_same, putK_new _ (val_none hn), List.map_append]; rfl
  · rcases List.mem_append.mp hx with hx | hx
    · exact ⟨by rw [upd_ne (ne_of (c3 x hx).1 c1 (fun z => nomatch z))]; exact (c3 x hx).1, (c3 x hx).2⟩
    · cases List.mem_singleton.mp hx
      exact ⟨by rw [upd_ne (ne_of hc c1 (fun z => nomatch z))]; exact hc, hc0⟩
def addJ (B L : Int) (G : List (Rch × List Int)) (e : Rch × List Int) : Nat → List (Rch × List Int)
  | 0 => G
  | 1 => addF B L G e 0
  | _ => addF B L (addF B L G e 0) e 1
theorem addJ_succ (B L : Int) (G : List (Rch × List Int)) (e : Rch × List Int) {j : Nat} (hj : j < 2) : addJ B L G e (j + 1) = addF B L (addJ B L G e j) e (j : Int) := by
  match j, hj with
  | 0, _ => rfl
  | 1, _ => rfl
theorem addF_pos {B L : Int} {f : List (Rch × List Int)} {e : Rch × List Int} {t : Int} (h1 : sumR (frR e.1 t L) ≤ B) (h2 : ∀ x ∈ f, x.1 ≠ frR e.1 t L) : addF B L f e t = f ++ [(frR e.1 t L, e.2 ++ [t])] := if_pos ⟨h1, h2⟩
theorem addF_neg {B L : Int} {f : List (Rch × List Int)} {e : Rch × List Int} {t : Int} (h : ¬ (sumR (frR e.1 t L) ≤ B ∧ ∀ x ∈ f, x.1 ≠ frR e.1 t L)) : addF B L f e t = f := if_neg h
theorem addF_len (B L : Int) (f : List (Rch × List Int)) (e : Rch × List Int) (t : Int) : (addF B L f e t).length ≤ f.length + 1 := by
  unfold addF; split
  · rw [List.length_append]; exact Nat.le_refl _
  · exact Nat.le_succ _
theorem addJ_len (B L : Int) (G : List (Rch × List Int)) (e : Rch × List Int) (j : Nat) : (addJ B L G e j).length ≤ G.length + 2 := by
  match j with
  | 0 => exact Nat.le_add_right _ _
  | 1 => have := addF_len B L G e 0; show (addF B L G e 0).length ≤ _; (first | lia | omega)
  | k + 2 => have := addF_len B L G e 0; have := addF_len B L (addF B L G e 0) e 1; show (addF B L (addF B L G e 0) e 1).length ≤ _; (first | lia | omega)
def sp_further_firsts (K : PySem.W.Frag) : Sp := fun vs H Q _ => ∃ (d : Addr) (L B : Int) (xs : List (Rch × List Int × Addr)), vs = [.ref d, .int L, .int B] ∧ H d = some (.dT (xs.map encX)) ∧ (∀ x ∈ xs, H x.2.2 = some (.lst (x.2.1.map V.int))) ∧ xs.length ≤ 40000 ∧ (∀ x ∈ xs, x.2.1.length ≤ 100) ∧
  ∀ (f : Addr) (H' : Hp) (xs' : List (Rch × List Int × Addr)), H f = none → (∀ b u, b ≠ d → H b = some u → H' b = some u) → H' f = some (.dT (xs'.map encX)) → xs'.map prX = stepF B L (xs.map prX) → (∀ x ∈ xs', H' x.2.2 = some (.lst (x.2.1.map V.int)) ∧ H x.2.2 = none) → Q (.ref f) H'
theorem ok_further_firsts {f : Addr} {fd : FuncData} (F : Fun K "further_firsts" "further_firsts" s_further_firsts f fd) {f_further_reach : Addr} {d_further_reach : FuncData} (G_further_reach : FnOk P w K mg base (CXE P w) 1 f_further_reach d_further_reach ["reach", "turn", "length"] (sp_further_reach K)) (m_further_reach : mg "further_reach" = some (.ref f_further_reach)) (k_further_reach : PySem.W.keepIn K (.ref f_further_reach) = true) (b_further_reach : Binds K d_further_reach ["reach", "turn", "length"] []) (z_sum : mg "sum" = none) :
    FnOk P w K mg base (CXE P w) 2 f fd ["firsts", "length", "case"] (sp_further_firsts K) := by
  refine F.okN sc_further_firsts (fun vs H Q E h => ?_) (fun cdv A outer s H vs Q E hr h => ?_)
  · obtain ⟨d, L, B, xs, rfl, _⟩ := h
    rfl
  obtain ⟨d, L, B, xs, rfl, hd, hl, hn, hfl, q⟩ := h
  have ND := sc_further_firsts.nd
  have hu1 := hu1_of hr
  refine ⟨_, (pss_cons (ps_set (i := 3) ND rfl (Or.inl rfl) pe_dnewT)
    (pss_cons (ps_for PassesOwn.never rfl (pi_view (pe_bm0K K PySem.F.plainAttrs_dict PySem.F.slot_dict_items PySem.F.type_dict_items mt_items (pv 0))) (pg_tupK K 2 rfl (pgs_cons (pg_name (i := 4) ND rfl (Or.inl rfl)) (pgs_cons (pg_name (i := 5) ND rfl (Or.inl rfl)) pgs_nil))) (pss_one (ps_for PassesOwn.never rfl (pi_tupK K (pe_tup (pa_cons pe_int (pa_cons pe_int pa_nil)))) (pg_name (i := 6) ND rfl (Or.inl rfl)) (pss_cons (ps_set (i := 7) ND rfl (Or.inl rfl) (pe_call G_further_reach (hr.mono (by (first | lia | omega))) (by rfl) m_further_reach k_further_reach b_further_reach .nil passN (pa_cons (pv 4) (pa_cons (pv 6) (pa_cons (pv 1) pa_nil)))))
    (pss_one (ps_if (pw_and (pt_cmpR op_le (pe_callB (call_sumT K) (by rfl) z_sum PyProof.Rows.Boot.«sum» (pa_cons (pv 7) pa_nil)) (pv 2) (nomark _)) (pw_and1 (pt_cmp (pc_dnotin hu1 (pv 7) (pv 3))))).pt (pss_one (ps_dput hu1 (pv 3) (pv 7) (pe_op op_cat (pv 5) (pe_lst (pa_cons (pv 6) pa_nil))) rfl)) pss_nil))))))
    (pss_one (ps_ret (pv 3))))), ?_⟩
  walk_at "rd"
  intro f hf
  have hdf : upd H f (.dT []) d = some (.dT (xs.map encX)) := upd_keep hd hf
  refine ⟨_, rfl, .inr (.inr (.inl ⟨rfl, .inr ⟨_, hdf⟩⟩)), d, _, rfl, rfl, .inl hdf, fun v hv => ?_⟩
  refine ⟨v, d, xs.map encX, rfl, upd_same, upd_keep hdf hv, fun o => ?_⟩
  have vd : v ≠ d := fun z => by rw [z, hdf] at hv; cases hv
  have fv : f ≠ v := fun z => by rw [← z, upd_same] at hv; cases hv
  have fd' : f ≠ d := (ne_of_none hd hf).symm
  have F0 : FD H (upd (upd (upd H f (.dT [])) v (.ext fun h => h.IsItemsView v d)) d (.frz o (.dT (xs.map encX)))) d f o (xs.map encX) (stepF B L ((xs.take 0).map prX)) := by
    refine ⟨upd_same, fun b u hb e => ?_, [], ?_, rfl, fun x hx => by cases hx⟩
    · rw [upd_ne hb]; exact upd_keep (upd_keep e hf) hv
    · rw [upd_ne fd', upd_ne fv, upd_same]; rfl
  generalize upd (upd (upd H f (.dT [])) v (.ext fun h => h.IsItemsView v d)) d (.frz o (.dT (xs.map encX))) = H1 at F0
  refine for_items (kvs := xs.map encX) (fun i σ H' => FD H H' d f o (xs.map encX) (stepF B L ((xs.take i).map prX)) ∧ ∃ o4 o5 o6 o7, σ = [some (.ref d), some (.int L), some (.int B), some (.ref f), o4, o5, o6, o7])
    ⟨F0, _, _, _, _, rfl⟩ (fun i σ H' _ h => h.1.fd) (fun i k x t kt σ H' hx ht hkt h => ?_) (fun σ H' h => ?_)
  · obtain ⟨F1, o4, o5, o6, o7, rfl⟩ := h
    rw [List.getElem?_map] at hx
    obtain ⟨y, hy, ey⟩ := Option.map_eq_some_iff.mp hx
    cases ey
    have li := (List.getElem?_eq_some_iff.mp hy).1
    have ym := List.mem_of_getElem? hy
    have tk := take_snoc hy
    have F2 := F1.new ht (.tup [.ref kt, .ref y.2.2])
    have hkt2 := upd_keep (u := .tup [.ref kt, .ref y.2.2]) hkt ht
    have Gl : (stepF B L ((xs.take i).map prX)).length ≤ 80000 := by
      have := firsts_len (B := B) (L := L) ((xs.take i).map prX)
      rw [List.length_map, List.length_take] at this
      (first | lia | omega)
    have nxt : stepF B L ((xs.take (i + 1)).map prX) = addJ B L (stepF B L ((xs.take i).map prX)) (prX y) 2 := by
      rw [tk, List.map_append]; exact stepF_snoc _ _ _ _
    rw [nxt]
    generalize stepF B L ((xs.take i).map prX) = G at *
    have tS : SqT K (upd H' t (.tup [.ref kt, .ref y.2.2])) t [.ref kt, .ref y.2.2] := SqT.of upd_same
    generalize upd H' t (.tup [.ref kt, .ref y.2.2]) = H2 at *
    walk_at "rd"
    refine ⟨_, tS, rfl, _, _, rfl, _, _, rfl, rfl, ?_⟩
    refine ⟨(by decide : 2 ≤ sizeLine), fun p hp => ⟨p, rfl, ⟨_, SqT.of upd_same⟩, ?_⟩⟩
    refine for_tup (xs := [.int 0, .int 1]) (fun j σ H' => FD H H' d f o (xs.map encX) (addJ B L G (prX y) j) ∧ H' p = some (.tup [.int 0, .int 1]) ∧ H' kt = some (.tup ((keyR y.1).map kV)) ∧ ∃ o6 o7, σ = [some (.ref d), some (.int L), some (.int B), some (.ref f), some (.ref kt), some (.ref y.2.2), o6, o7])
      ⟨F2.new hp _, upd_same, upd_keep hkt2 hp, _, _, rfl⟩ (fun j σ H' _ h => SqT.of h.2.1) (fun j x σ H3 hx h => ?_) (fun σ H3 h => ?_)
    · obtain ⟨F3, hp3, hkt3, o6, o7, rfl⟩ := h
      have hj : j < 2 := (List.getElem?_eq_some_iff.mp hx).1
      have ex : x = .int (j : Int) := by
        match j, hj with
        | 0, _ => simpa using hx.symm
        | 1, _ => simpa using hx.symm
      subst ex
      rw [addJ_succ _ _ _ _ hj]
      have Jl := addJ_len B L G (prX y) j
      generalize addJ B L G (prX y) j = G3 at *
      walk_at "rd"
      refine ⟨kt, y.1, (j : Int), L, rfl, SqT.of hkt3, fun c hc => ?_⟩
      have F4 := F3.new hc (.tup [.int (frR y.1 j L).1, .int (frR y.1 j L).2])
      have hkt4 := upd_keep (u := .tup [.int (frR y.1 j L).1, .int (frR y.1 j L).2]) hkt3 hc
      have hp4 := upd_keep (u := .tup [.int (frR y.1 j L).1, .int (frR y.1 j L).2]) hp3 hc
      have hc4 : upd H3 c (.tup [.int (frR y.1 j L).1, .int (frR y.1 j L).2]) c = some (.tup ((keyR (frR y.1 j L)).map kV)) := upd_same
      generalize upd H3 c (.tup [.int (frR y.1 j L).1, .int (frR y.1 j L).2]) = H4 at *
      walk_at "rd"
      refine ⟨[(frR y.1 j L).1, (frR y.1 j L).2], SqT.of hc4, ?_⟩
      have es : ([(frR y.1 j L).1, (frR y.1 j L).2] : List Int).sum = sumR (frR y.1 j L) := by simp [sumR]
      rw [es]
      obtain ⟨fd4, same4, xs4, x41, x42, x43⟩ := F4
      have eG : ∀ (p : Prop), (p ∧ ∀ x ∈ G3, x.1 ≠ frR y.1 j L) ↔ (p ∧ ∀ x ∈ xs4, x.1 ≠ frR y.1 j L) := fun p => by
        rw [← x42]
        constructor
        · rintro ⟨a, b⟩; exact ⟨a, fun x hx => b _ (List.mem_map_of_mem (f := prX) hx)⟩
        · rintro ⟨a, b⟩
          refine ⟨a, fun x hx => ?_⟩
          obtain ⟨z, hz, rfl⟩ := List.mem_map.mp hx
          exact b z hz
      refine ite2 (fun c1 => ?_) (fun c1 => ?_)
      · refine ⟨_, DGet.t (k := keyR (frR y.1 j L)) x41 hc4, ?_⟩
        by_cases hex : ∃ x ∈ xs4, x.1 = frR y.1 j L
        · obtain ⟨v, hv⟩ := val_some hex
          have hneg : ¬ (sumR (frR y.1 j L) ≤ B ∧ ∀ x ∈ G3, x.1 ≠ frR y.1 j L) := fun z => by
            obtain ⟨x, h1, h2⟩ := hex
            exact ((eG _).mp z).2 x h1 h2
          rw [hv, if_neg (by simp), addF_neg (e := prX y) hneg]
          exact ⟨⟨fd4, same4, xs4, x41, x42, x43⟩, hp4, hkt4⟩
        · have hno : ∀ x ∈ xs4, x.1 ≠ frR y.1 j L := fun x hx z => hex ⟨x, hx, z⟩
          rw [val_none hno, if_pos (by rfl), addF_pos (e := prX y) c1 ((eG True).mpr ⟨trivial, hno⟩).2]
          refine ⟨(by decide : 1 ≤ sizeLine), fun l1 hl1 => ⟨_, upd_keep (same4 _ _ (by
            intro z; have := hl y ym; rw [z, hd] at this; cases this) (hl y ym)) hl1, _, upd_same, ?_, fun l2 hl2 => ?_⟩⟩
          · rw [List.length_map]
            have := hfl y ym
            exact Nat.le_of_lt (big_small (by simp only [List.length_cons, List.length_nil]; (first | lia | omega)))
          have xx : ∀ {b : Addr} {u : HO}, H4 b = some u → upd (upd H4 l1 (.lst [.int (j : Int)])) l2 (.lst (y.2.1.map V.int ++ [.int (j : Int)])) b = some u := fun e => upd_keep (upd_keep e hl1) hl2
          refine ⟨_, DPut.t (xx x41) (xx hc4) ?_, ?_, ?_, ?_⟩
          · have := congrArg List.length x42
            rw [List.length_map] at this ⊢
            exact big_small (by (first | lia | omega))
          · have := FD.put (H0 := H) (r := frR y.1 j L) (fl := y.2.1 ++ [(j : Int)]) (c := l2) (xx fd4) (fun b u hb e => xx (same4 b u hb e)) (xx x41) (fun x hx => ⟨xx (x43 x hx).1, (x43 x hx).2⟩) hf (by rw [upd_same, List.map_append]; rfl) ?_ hno
            · rw [x42] at this; exact this
            · cases e : H l2 with
              | none => rfl
              | some u =>
                exfalso
                by_cases z : l2 = d
                · rw [z, upd_keep (u := .lst [.int (j : Int)]) fd4 hl1] at hl2; cases hl2
                · rw [upd_keep (u := .lst [.int (j : Int)]) (same4 _ _ z e) hl1] at hl2; cases hl2
          · rw [upd_ne (ne_of (xx hp4) (xx x41) (fun z => nomatch z))]; exact xx hp4
          · rw [upd_ne (ne_of (xx hkt4) (xx x41) (fun z => nomatch z))]; exact xx hkt4
      · rw [addF_neg (e := prX y) (fun z => c1 z.1)]
        exact ⟨⟨fd4, same4, xs4, x41, x42, x43⟩, hp4, hkt4⟩
    · obtain ⟨F3, hp3, hkt3, o6, o7, rfl⟩ := h
      exact ⟨F3, _, _, _, _, rfl⟩
  · obtain ⟨⟨fd4, same4, xs4, x41, x42, x43⟩, o4, o5, o6, o7, rfl⟩ := h
    rw [List.length_map, List.take_length] at x42
    walk_at "rd"
    exact q f H' xs4 hf same4 x41 x42 x43
/-- the shortest case and its first folding -/
def sp_shortest_case (K : PySem.W.Frag) : Sp := fun vs H Q E => ∃ (a : Addr) (rs : List Int), vs = [.ref a] ∧ SqL K H a (rs.map V.int) ∧ (¬ IsRule rs → Ref K H E "BadRule") ∧ (IsRule rs →
  ∀ (t l : Addr) (c : Int) (f : List Int) (H' : Hp), Same H H' → IsFirst rs c f → H t = none → H l = none → H' t = some (.tup [.int c, .ref l]) → H' l = some (.lst (f.map V.int)) → Q (.ref t) H')
theorem ok_shortest_case {f : Addr} {fd : FuncData} (F : Fun K "shortest_case" "shortest_case" s_shortest_case f fd) {f_further_firsts : Addr} {d_further_firsts : FuncData} (G_further_firsts : FnOk P w K mg base (CXE P w) 2 f_further_firsts d_further_firsts ["firsts", "length", "case"] (sp_further_firsts K)) (m_further_firsts : mg "further_firsts" = some (.ref f_further_firsts)) (k_further_firsts : PySem.W.keepIn K (.ref f_further_firsts) = true) (b_further_firsts : Binds K d_further_firsts ["firsts", "length", "case"] []) {f_first_reach : Addr} {d_first_reach : FuncData} (G_first_reach : FnOk P w K mg base (CXE P w) 1 f_first_reach d_first_reach ["rule"] (sp_first_reach K)) (m_first_reach : mg "first_reach" = some (.ref f_first_reach)) (k_first_reach : PySem.W.keepIn K (.ref f_first_reach) = true) (b_first_reach : Binds K d_first_reach ["rule"] []) {f_check_rule : Addr} {d_check_rule : FuncData} (G_check_rule : FnOk P w K mg base (CXE P w) 1 f_check_rule d_check_rule ["rule"] (sp_check_rule K)) (m_check_rule : mg "check_rule" = some (.ref f_check_rule)) (k_check_rule : PySem.W.keepIn K (.ref f_check_rule) = true) (b_check_rule : Binds K d_check_rule ["rule"] []) (z_sum : mg "sum" = none) (z_min : mg "min" = none) (z_max : mg "max" = none) :
    FnOk P w K mg base (CXE P w) 3 f fd ["rule"] (sp_shortest_case K) := by
  refine F.okX sc_shortest_case (fun vs H Q E h => ?_) (fun cdv A outer s H vs Q E hr h => ?_)
  · obtain ⟨a, rs, rfl, _⟩ := h
    rfl
  obtain ⟨a, rs, rfl, hS, x0, q0⟩ := h
  have ND := sc_shortest_case.nd
  have hu1 := hu1_of hr
  have hu0 := hu0_of hr
  refine ⟨_, (pss_cons (ps_expr (pe_call G_check_rule (hr.mono (by (first | lia | omega))) (by rfl) m_check_rule k_check_rule b_check_rule .nil (passE (fun _ _ _ z => z)) (pa_cons (pv 0) pa_nil)))
    (pss_cons (ps_set (i := 1) ND rfl (Or.inl rfl) (pe_op op_mul pe_int (pe_callB (call_maxK K) (by rfl) z_max PyProof.Rows.Boot.«max» (pa_cons (pv 0) pa_nil))))
    (pss_cons (ps_set (i := 2) ND rfl (Or.inl rfl) (pe_disp1 hu0 (pe_call G_first_reach (hr.mono (by (first | lia | omega))) (by rfl) m_first_reach k_first_reach b_first_reach .nil passN (pa_cons (pv 0) pa_nil)) (pe_lst pa_nil)))
    (pss_cons (PS.nox (ps_for PassesOwn.never rfl (pi_listK K (pe_slice (sl_listK K) (pv 0) (po_some pe_int) po_none)) (pg_name (i := 3) ND rfl (Or.inl rfl)) (pss_one (ps_set (i := 2) ND rfl (Or.inl rfl) (pe_call G_further_firsts (hr.mono (by (first | lia | omega))) (by rfl) m_further_firsts k_further_firsts b_further_firsts .nil passN (pa_cons (pv 2) (pa_cons (pv 3) (pa_cons (pv 1) pa_nil))))))))
    (pss_cons (ps_set (i := 4) ND rfl (Or.inl rfl) (pe_minSum rfl (by rfl) z_min (by rfl) z_sum (pa_cons (pv 2) pa_nil)))
    (pss_one (ps_ret (pe_tup (pa_cons (pe_callB (call_sumT K) (by rfl) z_sum PyProof.Rows.Boot.«sum» (pa_cons (pv 4) pa_nil)) (pa_cons (pe_dget hu1 (pv 2) (pv 4) (fun _ _ => rfl)) pa_nil)))))))))), ?_⟩
  refine seq_hide fun B1 e1 => ?_
  walk_at "rd"
  refine ⟨a, rs, rfl, hS, fun hR => ?_, x0⟩
  subst e1
  refine seq_hide fun B1 e1 => ?_
  walk_at "rd"
  have q := q0 hR
  have h1 := hR.some
  have h12 := hR.few
  refine ⟨rs, hS, by (first | lia | omega), fun M hM hM2 => ⟨.inl (by decide), ?_⟩⟩
  obtain ⟨r0, ls, rfl⟩ : ∃ r0 ls, rs = r0 :: ls := by
    cases rs with
    | nil => simp at h1
    | cons r0 ls => exact ⟨r0, ls, rfl⟩
  have hlo : ∀ x ∈ r0 :: ls, 1 ≤ x ∧ x ≤ M := fun x hx => ⟨hR.lo x hx, hM2 x hx⟩
  have hr0 := hlo r0 List.mem_cons_self
  subst e1
  refine seq_hide fun B1 e1 => ?_
  walk_at "rd"
  intro p hp
  have hS1 : SqL K (upd H p (.dT [])) a ((r0 :: ls).map V.int) := (same_new hp _).seq hS
  refine ⟨a, r0, ls, rfl, hS1, fun kt hkt => ?_⟩
  walk_at "rd"
  refine ⟨(by decide : 0 ≤ sizeLine), fun l0 hl0 => ⟨keyR (r0, 0), upd_keep upd_same hl0, upd_keep (upd_keep upd_same hkt) hl0, ?_⟩⟩
  have s1 : Same H (upd (upd (upd (upd H p (.dT [])) kt (.tup [.int r0, .int 0])) l0 (.lst [])) p (.dT [(keyR (r0, 0), .ref l0)])) := fun b u e => by
    rw [upd_ne (ne_of_none e hp)]; exact upd_keep (upd_keep (upd_keep e hp) hkt) hl0
  have hl0' : upd (upd (upd (upd H p (.dT [])) kt (.tup [.int r0, .int 0])) l0 (.lst [])) p (.dT [(keyR (r0, 0), .ref l0)]) l0 = some (.lst []) := by
    rw [upd_ne, upd_same]
    intro z; rw [z, upd_keep (upd_same (H := H) (a := p) (o := .dT [])) hkt] at hl0; cases hl0
  have hp' : upd (upd (upd (upd H p (.dT [])) kt (.tup [.int r0, .int 0])) l0 (.lst [])) p (.dT [(keyR (r0, 0), .ref l0)]) p = some (.dT [(keyR (r0, 0), .ref l0)]) := upd_same
  have l0n : H l0 = none := by
    cases e : H l0 with
    | none => rfl
    | some u => rw [upd_keep (u := .tup [.int r0, .int 0]) (upd_keep (u := .dT []) e hp) hkt] at hl0; cases hl0
  generalize upd (upd (upd (upd H p (.dT [])) kt (.tup [.int r0, .int 0])) l0 (.lst [])) p (.dT [(keyR (r0, 0), .ref l0)]) = H1 at *
  have hS2 : SqL K H1 a ((r0 :: ls).map V.int) := s1.seq hS
  subst e1
  refine seq_hide fun B1 e1 => ?_
  refine ⟨_, rfl, 1, rfl, a, _, rfl, hS2, fun l2 hl2 => ?_⟩
  have hcut : cutV ((r0 :: ls).map V.int) (some 1) none = ls.map V.int := (cut_from _ 1).trans rfl
  rw [hcut]
  have s2 : Same H (upd H1 l2 (.lst (ls.map V.int))) := same_tup s1 hl2 _
  refine ⟨l2, rfl, ⟨_, SqL.of upd_same⟩, for_list (xs := ls.map V.int) (fun i σ H' => Same H H' ∧ H' l2 = some (.lst (ls.map V.int)) ∧ ∃ (d : Addr) (xs : List (Rch × List Int × Addr)) (o3 o4 : Option V), σ = [some (.ref a), some (.int (2 * M)), some (.ref d), o3, o4] ∧
      H d = none ∧ H' d = some (.dT (xs.map encX)) ∧ (∀ x ∈ xs, H' x.2.2 = some (.lst (x.2.1.map V.int)) ∧ H x.2.2 = none) ∧ Firsts r0 (2 * M) (ls.take i) (xs.map prX) ∧ xs.length ≤ 2 ^ i)
    ⟨s2, upd_same, p, [((r0, 0), [], l0)], _, _, rfl, hp, upd_keep hp' hl2, fun x hx => ?_, Firsts.start (by (first | lia | omega)), Nat.le_refl _⟩ (fun i σ H' _ h => SqL.of h.2.1) (fun i x σ H' hx h => ?_) (fun σ H' h => ?_)⟩
  · cases List.mem_singleton.mp hx
    exact ⟨upd_keep hl0' hl2, l0n⟩
  · obtain ⟨g1, g2, d, xs, o3, o4, rfl, d0, hd, hx3, hF, hlen⟩ := h
    obtain ⟨n, hn, rfl⟩ := ofGetI hx
    have li := (List.getElem?_eq_some_iff.mp hn).1
    have nm : n ∈ r0 :: ls := List.mem_cons_of_mem _ (List.mem_of_getElem? hn)
    rw [List.length_cons] at h12
    have p12 := two_pow (n := i) (by (first | lia | omega))
    have tk := take_snoc hn
    walk_at "rd"
    refine ⟨d, n, 2 * M, xs, rfl, hd, fun x hx => (hx3 x hx).1, by (first | lia | omega), fun x hx => ?_, fun f H2 xs' f0 sm hf hpr hx' => ?_⟩
    · have := (hF.ent _ (List.mem_map_of_mem (f := prX) hx)).1
      show x.2.1.length ≤ 100
      have e : (prX x).2.length = x.2.1.length := rfl
      rw [← e, this, List.length_take]; (first | lia | omega)
    have g3 : Same H H2 := fun b u e => sm b u (ne_of_none e d0) (g1 b u e)
    have d2 : l2 ≠ d := ne_of g2 hd (fun z => nomatch z)
    refine ⟨g3, sm _ _ d2 g2, f, rfl, g1.free f0, xs', hf, fun x hx => ⟨(hx' x hx).1, g1.free (hx' x hx).2⟩, ?_, ?_⟩
    · rw [hpr, tk]
      exact hF.step (by (first | lia | omega)) (fun y hy => by have := (hlo y (List.mem_cons_of_mem _ (List.mem_of_mem_take hy))).1; (first | lia | omega)) (by have := (hlo n nm).1; (first | lia | omega))
    · have e1 : xs'.length = (stepF (2 * M) n (xs.map prX)).length := by rw [← hpr, List.length_map]
      have := firsts_len (B := 2 * M) (L := n) (xs.map prX)
      rw [List.length_map] at this
      rw [e1, Nat.pow_succ]; (first | lia | omega)
  · obtain ⟨g1, g2, d, xs, o3, o4, rfl, d0, hd, hx3, hF, hlen⟩ := h
    rw [List.length_map, List.take_length] at hF
    have hne := hF.some hlo (Int.le_refl _)
    subst e1
    dsimp only
    refine seq_hide fun B1 e1 => ?_
    walk_at "rd"
    refine ⟨xs.map encX, .inl hd, xs.map (·.1), by rw [List.map_map, List.map_map]; rfl, ?_, fun i r kt hi hb hkt => ?_⟩
    · rw [List.length_map]
      cases xs with
      | nil => exact absurd rfl hne
      | cons => simp
    rw [List.getElem?_map] at hi
    obtain ⟨x, hxi, rfl⟩ := Option.map_eq_some_iff.mp hi
    have hb' : ∀ (j : Nat) (y : Rch × List Int × Addr), xs[j]? = some y → sumR x.1 ≤ sumR y.1 ∧ (j < i → sumR x.1 < sumR y.1) := fun j y hy => hb j y.1 (by rw [List.getElem?_map, hy]; rfl)
    have hFi : IsFirst (r0 :: ls) (sumR x.1) x.2.1 := hF.best (fun y hy => (hlo y hy).1) (i := i) (e := prX x) (by rw [List.getElem?_map, hxi]; rfl) fun j y hy => by
      rw [List.getElem?_map] at hy
      obtain ⟨z, hz, rfl⟩ := Option.map_eq_some_iff.mp hy
      exact hb' j z hz
    have hval : valV (xs.map encX) (keyR x.1) = some (.ref x.2.2) := val_first hxi rfl fun j y hji hy z => by
      have := (hb' j y hy).2 hji
      rw [z] at this; (first | lia | omega)
    subst e1
    walk_at "rd"
    refine ⟨[x.1.1, x.1.2], SqT.of hkt, ?_⟩
    have es : ([x.1.1, x.1.2] : List Int).sum = sumR x.1 := by simp [sumR]
    rw [es]
    have dg : DGet H' d (.ref kt) (valV (xs.map encX) (keyR x.1)) := DGet.t (k := keyR x.1) hd hkt
    rw [hval] at dg
    refine ⟨_, dg, (by decide : 2 ≤ sizeLine), fun t ht => ?_⟩
    obtain ⟨hxl, hxn⟩ := hx3 x (List.mem_of_getElem? hxi)
    exact q t x.2.2 (sumR x.1) x.2.1 _ (same_tup g1 ht _) hFi (g1.free ht) hxn upd_same (upd_keep hxl ht)
end
end FR
namespace FR
open PySem L2
section
variable {P : Program} {w : World} {K : PySem.W.Frag} {mg : Str → Option Value} {base : Heap}
/-! ### the dict of counts -/
def encC (x : Rch × Int) : List Key × V := (keyR x.1, .int x.2)
theorem valC (k : Rch) : ∀ kvs : List (Rch × Int), valV (kvs.map encC) (keyR k) = (lookM kvs k).map V.int
  | [] => rfl
  | x :: q => by
    rw [List.map_cons]
    by_cases e : x.1 = k
    · rw [valV_pos (p := encC x) (by show keyR x.1 = _; rw [e])]
      simp [lookM, e, encC]
    · rw [valV_neg (p := encC x) (fun z => e (keyR_inj z)), valC k q]
      simp [lookM, e]
theorem anyC (k : Rch) : ∀ kvs : List (Rch × Int), ((kvs.map encC).any fun kv => decide (kv.1 = keyR k)) = kvs.any fun x => decide (x.1 = k)
  | [] => rfl
  | x :: q => by
    rw [List.map_cons, List.any_cons, List.any_cons, anyC k q]
    congr 1
    by_cases e : x.1 = k
    · rw [decide_eq_true e, decide_eq_true (show (encC x).1 = keyR k by show keyR x.1 = _; rw [e])]
    · rw [decide_eq_false e, decide_eq_false (fun z : (encC x).1 = keyR k => e (keyR_inj z))]
theorem putC (kvs : List (Rch × Int)) (k : Rch) (v : Int) : putK (kvs.map encC) (keyR k) (.int v) = (putM kvs k v).map encC := by
  unfold putK putM
  rw [anyC]
  split
  · rw [List.map_map, List.map_map]
    apply List.map_congr_left
    intro x _
    show (if keyR x.1 = keyR k then (keyR x.1, V.int v) else encC x) = encC (if x.1 = k then (x.1, v) else x)
    by_cases e : x.1 = k
    · rw [if_pos e, if_pos (by rw [e])]; rfl
    · rw [if_neg e, if_neg (fun z => e (keyR_inj z))]
  · rw [List.map_append]; rfl
structure CDt (H0 H : Hp) (d f : Addr) (o : Obj) (kv : List (List Key × V)) (G : List (Rch × Int)) : Prop where
  fd : H d = some (.frz o (.dT kv))
  same : ∀ b u, b ≠ d → H0 b = some u → H b = some u
  ex : H f = some (.dT (G.map encC))
theorem CDt.new {H0 H : Hp} {d f : Addr} {o : Obj} {kv : List (List Key × V)} {G : List (Rch × Int)} (h : CDt H0 H d f o kv G) {p : Addr} (hp : H p = none) (ob : HO) : CDt H0 (upd H p ob) d f o kv G := by
  obtain ⟨a, b, c1⟩ := h
  exact ⟨upd_keep a hp, fun b' u hb e => upd_keep (b b' u hb e) hp, upd_keep c1 hp⟩
theorem CDt.put {H0 H : Hp} {d f : Addr} {o : Obj} {kv : List (List Key × V)} {G : List (Rch × Int)} (h : CDt H0 H d f o kv G) (f0 : H0 f = none) (r : Rch) (n : Int) : CDt H0 (upd H f (.dT (putK (G.map encC) (keyR r) (.int n)))) d f o kv (putM G r n) := by
  obtain ⟨a, b, c1⟩ := h
  have df : d ≠ f := ne_of a c1 (fun z => nomatch z)
  exact ⟨by rw [upd_ne df]; exact a, fun b' u hb e => by rw [upd_ne (ne_of_none e f0)]; exact b b' u hb e, by rw [upd_same, putC]⟩
def addK (c L : Int) (G : List (Rch × Int)) (e : Rch × Int) : Nat → List (Rch × Int)
  | 0 => G
  | 1 => addC c L G e 0
  | _ => addC c L (addC c L G e 0) e 1
theorem addK_succ (c L : Int) (G : List (Rch × Int)) (e : Rch × Int) {j : Nat} (hj : j < 2) : addK c L G e (j + 1) = addC c L (addK c L G e j) e (j : Int) := by
  match j, hj with
  | 0, _ => rfl
  | 1, _ => rfl
theorem addC_len (c L : Int) (f : List (Rch × Int)) (e : Rch × Int) (t : Int) : (addC c L f e t).length ≤ f.length + 1 := by
  unfold addC; split
  · exact putM_len _ _ _
  · exact Nat.le_succ _
theorem addK_len (c L : Int) (G : List (Rch × Int)) (e : Rch × Int) (j : Nat) : (addK c L G e j).length ≤ G.length + 2 := by
  match j with
  | 0 => exact Nat.le_add_right _ _
  | 1 => have := addC_len c L G e 0; show (addC c L G e 0).length ≤ _; (first | lia | omega)
  | k + 2 => have := addC_len c L G e 0; have := addC_len c L (addC c L G e 0) e 1; show (addC c L (addC c L G e 0) e 1).length ≤ _; (first | lia | omega)
def sp_further_counts (K : PySem.W.Frag) : Sp := fun vs H Q _ => ∃ (d : Addr) (L c : Int) (kvs : List (Rch × Int)), vs = [.ref d, .int L, .int c] ∧ H d = some (.dT (kvs.map encC)) ∧ kvs.length ≤ 40000 ∧
  ∀ (f : Addr) (H' : Hp), H f = none → (∀ b u, b ≠ d → H b = some u → H' b = some u) → H' f = some (.dT ((stepC c L kvs).map encC)) → Q (.ref f) H'
theorem ok_further_counts {f : Addr} {fd : FuncData} (F : Fun K "further_counts" "further_counts" s_further_counts f fd) {f_further_reach : Addr} {d_further_reach : FuncData} (G_further_reach : FnOk P w K mg base (CXE P w) 1 f_further_reach d_further_reach ["reach", "turn", "length"] (sp_further_reach K)) (m_further_reach : mg "further_reach" = some (.ref f_further_reach)) (k_further_reach : PySem.W.keepIn K (.ref f_further_reach) = true) (b_further_reach : Binds K d_further_reach ["reach", "turn", "length"] []) (z_sum : mg "sum" = none) :
    FnOk P w K mg base (CXE P w) 2 f fd ["counts", "length", "case"] (sp_further_counts K) := by
  refine F.okN sc_further_counts (fun vs H Q E h => ?_) (fun cdv A outer s H vs Q E hr h => ?_)
  · obtain ⟨d, L, c, xs, rfl, _⟩ := h
    rfl
  obtain ⟨d, L, c, xs, rfl, hd, hn, q⟩ := h
  have ND := sc_further_counts.nd
  have hu1 := hu1_of hr
  refine ⟨_, (pss_cons (ps_set (i := 3) ND rfl (Or.inl rfl) pe_dnewT)
    (pss_cons (ps_for PassesOwn.never rfl (pi_view (pe_bm0K K PySem.F.plainAttrs_dict PySem.F.slot_dict_items PySem.F.type_dict_items mt_items (pv 0))) (pg_tupK K 2 rfl (pgs_cons (pg_name (i := 4) ND rfl (Or.inl rfl)) (pgs_cons (pg_name (i := 5) ND rfl (Or.inl rfl)) pgs_nil))) (pss_one (ps_for PassesOwn.never rfl (pi_tupK K (pe_tup (pa_cons pe_int (pa_cons pe_int pa_nil)))) (pg_name (i := 6) ND rfl (Or.inl rfl)) (pss_cons (ps_set (i := 7) ND rfl (Or.inl rfl) (pe_call G_further_reach (hr.mono (by (first | lia | omega))) (by rfl) m_further_reach k_further_reach b_further_reach .nil passN (pa_cons (pv 4) (pa_cons (pv 6) (pa_cons (pv 1) pa_nil)))))
    (pss_one (ps_if (pt_cmpR op_le (pe_callB (call_sumT K) (by rfl) z_sum PyProof.Rows.Boot.«sum» (pa_cons (pv 7) pa_nil)) (pv 2) (nomark _)) (pss_one (ps_dput hu1 (pv 3) (pv 7) (pe_op op_add (pe_dget2 hu1 (pv 3) (pv 7) pe_int ⟨rfl, rfl, rfl, rfl⟩) (pv 5)) rfl)) pss_nil))))))
    (pss_one (ps_ret (pv 3))))), ?_⟩
  walk_at "rd"
  intro f hf
  have hdf : upd H f (.dT []) d = some (.dT (xs.map encC)) := upd_keep hd hf
  refine ⟨_, rfl, .inr (.inr (.inl ⟨rfl, .inr ⟨_, hdf⟩⟩)), d, _, rfl, rfl, .inl hdf, fun v hv => ?_⟩
  refine ⟨v, d, xs.map encC, rfl, upd_same, upd_keep hdf hv, fun o => ?_⟩
  have vd : v ≠ d := fun z => by rw [z, hdf] at hv; cases hv
  have fv : f ≠ v := fun z => by rw [← z, upd_same] at hv; cases hv
  have fd' : f ≠ d := (ne_of_none hd hf).symm
  have F0 : CDt H (upd (upd (upd H f (.dT [])) v (.ext fun h => h.IsItemsView v d)) d (.frz o (.dT (xs.map encC)))) d f o (xs.map encC) (stepC c L (xs.take 0)) := by
    refine ⟨upd_same, fun b u hb e => ?_, ?_⟩
    · rw [upd_ne hb]; exact upd_keep (upd_keep e hf) hv
    · rw [upd_ne fd', upd_ne fv, upd_same]; rfl
  generalize upd (upd (upd H f (.dT [])) v (.ext fun h => h.IsItemsView v d)) d (.frz o (.dT (xs.map encC))) = H1 at F0
  refine for_items (kvs := xs.map encC) (fun i σ H' => CDt H H' d f o (xs.map encC) (stepC c L (xs.take i)) ∧ ∃ o4 o5 o6 o7, σ = [some (.ref d), some (.int L), some (.int c), some (.ref f), o4, o5, o6, o7])
    ⟨F0, _, _, _, _, rfl⟩ (fun i σ H' _ h => h.1.fd) (fun i k x t kt σ H' hx ht hkt h => ?_) (fun σ H' h => ?_)
  · obtain ⟨F1, o4, o5, o6, o7, rfl⟩ := h
    rw [List.getElem?_map] at hx
    obtain ⟨y, hy, ey⟩ := Option.map_eq_some_iff.mp hx
    cases ey
    have li := (List.getElem?_eq_some_iff.mp hy).1
    have tk := take_snoc hy
    have F2 := F1.new ht (.tup [.ref kt, .int y.2])
    have hkt2 := upd_keep (u := .tup [.ref kt, .int y.2]) hkt ht
    have Gl : (stepC c L (xs.take i)).length ≤ 80000 := by
      have := stepC_len (c := c) (L := L) (xs.take i)
      rw [List.length_take] at this
      (first | lia | omega)
    have nxt : stepC c L (xs.take (i + 1)) = addK c L (stepC c L (xs.take i)) y 2 := by
      rw [tk]; exact stepC_snoc _ _ _ _
    rw [nxt]
    generalize stepC c L (xs.take i) = G at *
    have tS : SqT K (upd H' t (.tup [.ref kt, .int y.2])) t [.ref kt, .int y.2] := SqT.of upd_same
    generalize upd H' t (.tup [.ref kt, .int y.2]) = H2 at *
    walk_at "rd"
    refine ⟨_, tS, rfl, _, _, rfl, _, _, rfl, rfl, ?_⟩
    refine ⟨(by decide : 2 ≤ sizeLine), fun p hp => ⟨p, rfl, ⟨_, SqT.of upd_same⟩, ?_⟩⟩
    refine for_tup (xs := [.int 0, .int 1]) (fun j σ H' => CDt H H' d f o (xs.map encC) (addK c L G y j) ∧ H' p = some (.tup [.int 0, .int 1]) ∧ H' kt = some (.tup ((keyR y.1).map kV)) ∧ ∃ o6 o7, σ = [some (.ref d), some (.int L), some (.int c), some (.ref f), some (.ref kt), some (.int y.2), o6, o7])
      ⟨F2.new hp _, upd_same, upd_keep hkt2 hp, _, _, rfl⟩ (fun j σ H' _ h => SqT.of h.2.1) (fun j x σ H3 hx h => ?_) (fun σ H3 h => ?_)
    · obtain ⟨F3, hp3, hkt3, o6, o7, rfl⟩ := h
      have hj : j < 2 := (List.getElem?_eq_some_iff.mp hx).1
      have ex : x = .int (j : Int) := by
        match j, hj with
        | 0, _ => simpa using hx.symm
        | 1, _ => simpa using hx.symm
      subst ex
      rw [addK_succ _ _ _ _ hj]
      have Jl := addK_len c L G y j
      generalize addK c L G y j = G3 at *
      walk_at "rd"
      refine ⟨kt, y.1, (j : Int), L, rfl, SqT.of hkt3, fun b hb => ?_⟩
      have F4 := F3.new hb (.tup [.int (frR y.1 j L).1, .int (frR y.1 j L).2])
      have hkt4 := upd_keep (u := .tup [.int (frR y.1 j L).1, .int (frR y.1 j L).2]) hkt3 hb
      have hp4 := upd_keep (u := .tup [.int (frR y.1 j L).1, .int (frR y.1 j L).2]) hp3 hb
      have hb4 : upd H3 b (.tup [.int (frR y.1 j L).1, .int (frR y.1 j L).2]) b = some (.tup ((keyR (frR y.1 j L)).map kV)) := upd_same
      generalize upd H3 b (.tup [.int (frR y.1 j L).1, .int (frR y.1 j L).2]) = H4 at *
      walk_at "rd"
      refine ⟨[(frR y.1 j L).1, (frR y.1 j L).2], SqT.of hb4, ?_⟩
      have es : ([(frR y.1 j L).1, (frR y.1 j L).2] : List Int).sum = sumR (frR y.1 j L) := by simp [sumR]
      rw [es]
      unfold addC
      refine ite2 (fun c1 => ?_) (fun c1 => ?_)
      · rw [if_pos c1]
        refine ⟨.inr ⟨_, .inl F4.ex⟩, _, DGet.t (k := keyR (frR y.1 j L)) F4.ex hb4, ?_⟩
        rw [valC]
        refine ⟨(lookM G3 (frR y.1 j L)).getD 0, by cases lookM G3 (frR y.1 j L) <;> rfl, _, DPut.t F4.ex hb4 ?_, F4.put hf _ _, ?_, ?_⟩
        · rw [List.length_map]; exact big_small (by (first | lia | omega))
        · rw [upd_ne (ne_of hp4 F4.ex (fun z => nomatch z))]; exact hp4
        · rw [upd_ne (ne_of hkt4 F4.ex (fun z => nomatch z))]; exact hkt4
      · rw [if_neg c1]
        exact ⟨F4, hp4, hkt4⟩
    · obtain ⟨F3, hp3, hkt3, o6, o7, rfl⟩ := h
      exact ⟨F3, _, _, _, _, rfl⟩
  · obtain ⟨F4, o4, o5, o6, o7, rfl⟩ := h
    rw [List.length_map, List.take_length] at F4
    walk_at "rd"
    exact q f H' hf F4.same F4.ex
/-- how many foldings of the lengths fit behind the reach -/
def sp_many_beyond (K : PySem.W.Frag) : Sp := fun vs H Q _ => ∃ (p a : Addr) (c : Int) (r : Rch) (ls : List Int), vs = [.ref p, .ref a, .int c] ∧ H p = some (.tup [.int r.1, .int r.2]) ∧ SqL K H a (ls.map V.int) ∧ Ge0 r ∧ (∀ x ∈ ls, 0 ≤ x) ∧ ls.length ≤ 12 ∧
  ∀ H' : Hp, Same H H' → Q (.int (cnt c r ls)) H'
theorem ok_many_beyond {f : Addr} {fd : FuncData} (F : Fun K "many_beyond" "many_beyond" s_many_beyond f fd) {f_further_counts : Addr} {d_further_counts : FuncData} (G_further_counts : FnOk P w K mg base (CXE P w) 2 f_further_counts d_further_counts ["counts", "length", "case"] (sp_further_counts K)) (m_further_counts : mg "further_counts" = some (.ref f_further_counts)) (k_further_counts : PySem.W.keepIn K (.ref f_further_counts) = true) (b_further_counts : Binds K d_further_counts ["counts", "length", "case"] []) (z_sum : mg "sum" = none) :
    FnOk P w K mg base (CXE P w) 3 f fd ["reach", "lengths", "case"] (sp_many_beyond K) := by
  refine F.okN sc_many_beyond (fun vs H Q E h => ?_) (fun cdv A outer s H vs Q E hr h => ?_)
  · obtain ⟨p, a, c, r, ls, rfl, _⟩ := h
    rfl
  obtain ⟨p, a, c, r, ls, rfl, hp, hS, hG, hL, h12, q⟩ := h
  have ND := sc_many_beyond.nd
  have hu0 := hu0_of hr
  refine ⟨_, (pss_cons (ps_if (pt_cmpR op_gt (pe_callB (call_sumT K) (by rfl) z_sum PyProof.Rows.Boot.«sum» (pa_cons (pv 0) pa_nil)) (pv 2) (nomark _)) (pss_one (ps_ret pe_int)) pss_nil)
    (pss_cons (ps_set (i := 3) ND rfl (Or.inl rfl) (pe_disp1 hu0 (pv 0) pe_int))
    (pss_cons (ps_for PassesOwn.never rfl (pi_listK K (pv 1)) (pg_name (i := 4) ND rfl (Or.inl rfl)) (pss_one (ps_set (i := 3) ND rfl (Or.inl rfl) (pe_call G_further_counts (hr.mono (by (first | lia | omega))) (by rfl) m_further_counts k_further_counts b_further_counts .nil passN (pa_cons (pv 3) (pa_cons (pv 4) (pa_cons (pv 2) pa_nil)))))))
    (pss_one (ps_ret (pe_callB call_sumV (by rfl) z_sum PyProof.Rows.Boot.«sum» (pa_cons (pe_bm0K K PySem.F.plainAttrs_dict PySem.F.slot_dict_values PySem.F.type_dict_values mt_values (pv 3)) pa_nil))))))), ?_⟩
  walk_at "rd"
  refine ⟨[r.1, r.2], SqT.of hp, ?_⟩
  have es : ([r.1, r.2] : List Int).sum = sumR r := by simp [sumR]
  rw [es]
  refine ite2 (fun c1 => ?_) (fun c1 => ?_)
  · have e := cnt_zero hL hG (by (first | lia | omega) : c < sumR r)
    rw [e] at q
    exact q H (Same.refl H)
  intro d hd
  refine ⟨keyR r, upd_keep hp hd, upd_same, ?_⟩
  rw [upd_upd]
  have s1 : Same H (upd H d (.dT [(keyR r, .int 1)])) := same_new hd _
  have hd1 : upd H d (.dT [(keyR r, .int 1)]) d = some (.dT ([(r, 1)].map encC)) := upd_same
  generalize upd H d (.dT [(keyR r, .int 1)]) = H1 at *
  refine ⟨_, rfl, a, rfl, ⟨_, s1.seq hS⟩, for_list (xs := ls.map V.int) (fun i σ H' => Same H H' ∧ ∃ (d : Addr) (o4 : Option V), σ = [some (.ref p), some (.ref a), some (.int c), some (.ref d), o4] ∧ H d = none ∧ H' d = some (.dT ((runC c [(r, 1)] (ls.take i)).map encC)))
    ⟨s1, d, _, rfl, hd, hd1⟩ (fun i σ H' _ h => h.1.seq hS) (fun i x σ H' hx h => ?_) (fun σ H' h => ?_)⟩
  · obtain ⟨g1, d', o4, rfl, d0, hd'⟩ := h
    obtain ⟨n, hn, rfl⟩ := ofGetI hx
    have li := (List.getElem?_eq_some_iff.mp hn).1
    have tk := take_snoc hn
    have p12 := two_pow (n := i) (by (first | lia | omega))
    walk_at "rd"
    refine ⟨d', n, c, _, rfl, hd', ?_, fun f H2 f0 sm hf => ?_⟩
    · have := runC_len (c := c) (ls.take i) [(r, 1)]
      rw [List.length_take, Nat.min_eq_left (by (first | lia | omega))] at this
      simp only [List.length_cons, List.length_nil] at this
      (first | lia | omega)
    refine ⟨fun b u e => sm b u (ne_of_none e d0) (g1 b u e), f, rfl, g1.free f0, ?_⟩
    rw [tk, runC_snoc]; exact hf
  · obtain ⟨g1, d', o4, rfl, d0, hd'⟩ := h
    rw [List.length_map, List.take_length] at hd'
    walk_at "rd"
    refine ⟨.inr (.inr (.inl ⟨rfl, .inr ⟨_, hd'⟩⟩)), _, .inl hd', fun v hv => ?_⟩
    refine ⟨d', upd_same, _, .inl (upd_keep hd' hv), (runC c [(r, 1)] ls).map (·.2), by rw [List.map_map, List.map_map]; rfl, ?_⟩
    rw [run_one hG (by (first | lia | omega)) hL]
    exact q _ (same_tup g1 hv _)
def sp_many_going_on (K : PySem.W.Frag) : Sp := fun vs H Q _ => ∃ (a p : Addr) (c : Int) (r : Rch) (rs : List Int) (k : Nat) (L : Int), vs = [.ref a, .int c, .ref p, .int (k : Int)] ∧ SqL K H a (rs.map V.int) ∧ H p = some (.tup [.int r.1, .int r.2]) ∧ Ge0 r ∧ (∀ x ∈ rs, 0 ≤ x) ∧ rs.length ≤ 12 ∧ rs[k + 1]? = some L ∧
  ∀ H' : Hp, Same H H' → Q (.int (cnt c (frR r 0 L) (rs.drop (k + 2)))) H'
theorem ok_many_going_on {f : Addr} {fd : FuncData} (F : Fun K "many_going_on" "many_going_on" s_many_going_on f fd) {f_many_beyond : Addr} {d_many_beyond : FuncData} (G_many_beyond : FnOk P w K mg base (CXE P w) 3 f_many_beyond d_many_beyond ["reach", "lengths", "case"] (sp_many_beyond K)) (m_many_beyond : mg "many_beyond" = some (.ref f_many_beyond)) (k_many_beyond : PySem.W.keepIn K (.ref f_many_beyond) = true) (b_many_beyond : Binds K d_many_beyond ["reach", "lengths", "case"] []) {f_further_reach : Addr} {d_further_reach : FuncData} (G_further_reach : FnOk P w K mg base (CXE P w) 1 f_further_reach d_further_reach ["reach", "turn", "length"] (sp_further_reach K)) (m_further_reach : mg "further_reach" = some (.ref f_further_reach)) (k_further_reach : PySem.W.keepIn K (.ref f_further_reach) = true) (b_further_reach : Binds K d_further_reach ["reach", "turn", "length"] []) :
    FnOk P w K mg base (CXE P w) 4 f fd ["rule", "case", "reach", "hinge"] (sp_many_going_on K) := by
  refine F.okN sc_many_going_on (fun vs H Q E h => ?_) (fun cdv A outer s H vs Q E hr h => ?_)
  · obtain ⟨a, p, c, r, rs, k, L, rfl, _⟩ := h
    rfl
  obtain ⟨a, p, c, r, rs, k, L, rfl, hS, hp, hG, hL, h12, hk, q⟩ := h
  have ND := sc_many_going_on.nd
  refine ⟨_, (pss_cons (ps_set (i := 4) ND rfl (Or.inl rfl) (pe_call G_further_reach (hr.mono (by (first | lia | omega))) (by rfl) m_further_reach k_further_reach b_further_reach .nil passN (pa_cons (pv 2) (pa_cons pe_int (pa_cons (pe_ix (ix_listK K) (pv 0) (pe_op op_add (pv 3) pe_int) (fun _ _ => rfl)) pa_nil)))))
    (pss_one (ps_ret (pe_call G_many_beyond (hr.mono (by (first | lia | omega))) (by rfl) m_many_beyond k_many_beyond b_many_beyond .nil passN (pa_cons (pv 4) (pa_cons (pe_slice (sl_listK K) (pv 0) (po_some (pe_op op_add (pv 3) pe_int)) po_none) (pa_cons (pv 1) pa_nil))))))), ?_⟩
  walk_at "rd"
  have e1 : ((k : Int) + 1) = ((k + 1 : Nat) : Int) := by (first | lia | omega)
  have e2 : ((k : Int) + 2) = ((k + 2 : Nat) : Int) := by (first | lia | omega)
  refine ⟨_, hS, .int L, by rw [e1]; exact atI_nat (getI hk), p, r, 0, L, rfl, SqT.of hp, fun p2 hp2 => ?_⟩
  walk_at "rd"
  have s1 := same_new hp2 (.tup [.int (frR r 0 L).1, .int (frR r 0 L).2])
  refine ⟨_, s1.seq hS, fun l hl => ?_⟩
  rw [e2, cut_from, ← List.map_drop]
  refine ⟨p2, l, c, frR r 0 L, rs.drop (k + 2), rfl, upd_keep upd_same hl, SqL.of upd_same, hG.fr (hL L (List.mem_of_getElem? hk)), fun x hx => hL x (List.mem_of_mem_drop hx), by rw [List.length_drop]; (first | lia | omega), fun H' g => ?_⟩
  exact q H' ((same_tup s1 hl _).trans g)
def sp_many_fits (K : PySem.W.Frag) : Sp := fun vs H Q E => ∃ (a : Addr) (c : Int) (rs : List Int), vs = [.ref a, .int c] ∧ SqL K H a (rs.map V.int) ∧ (¬ IsRule rs → Ref K H E "BadRule") ∧ (IsRule rs → ∀ r0 ls, rs = r0 :: ls → ∀ H' : Hp, Same H H' → Q (.int (cnt c (r0, 0) ls)) H')
theorem ok_many_fits {f : Addr} {fd : FuncData} (F : Fun K "many_fits" "many_fits" s_many_fits f fd) {f_many_beyond : Addr} {d_many_beyond : FuncData} (G_many_beyond : FnOk P w K mg base (CXE P w) 3 f_many_beyond d_many_beyond ["reach", "lengths", "case"] (sp_many_beyond K)) (m_many_beyond : mg "many_beyond" = some (.ref f_many_beyond)) (k_many_beyond : PySem.W.keepIn K (.ref f_many_beyond) = true) (b_many_beyond : Binds K d_many_beyond ["reach", "lengths", "case"] []) {f_first_reach : Addr} {d_first_reach : FuncData} (G_first_reach : FnOk P w K mg base (CXE P w) 1 f_first_reach d_first_reach ["rule"] (sp_first_reach K)) (m_first_reach : mg "first_reach" = some (.ref f_first_reach)) (k_first_reach : PySem.W.keepIn K (.ref f_first_reach) = true) (b_first_reach : Binds K d_first_reach ["rule"] []) {f_check_rule : Addr} {d_check_rule : FuncData} (G_check_rule : FnOk P w K mg base (CXE P w) 1 f_check_rule d_check_rule ["rule"] (sp_check_rule K)) (m_check_rule : mg "check_rule" = some (.ref f_check_rule)) (k_check_rule : PySem.W.keepIn K (.ref f_check_rule) = true) (b_check_rule : Binds K d_check_rule ["rule"] []) :
    FnOk P w K mg base (CXE P w) 4 f fd ["rule", "case"] (sp_many_fits K) := by
  refine F.okX sc_many_fits (fun vs H Q E h => ?_) (fun cdv A outer s H vs Q E hr h => ?_)
  · obtain ⟨a, c, rs, rfl, _⟩ := h
    rfl
  obtain ⟨a, c, rs, rfl, hS, x0, q0⟩ := h
  have ND := sc_many_fits.nd
  refine ⟨_, (pss_cons (ps_expr (pe_call G_check_rule (hr.mono (by (first | lia | omega))) (by rfl) m_check_rule k_check_rule b_check_rule .nil (passE (fun _ _ _ z => z)) (pa_cons (pv 0) pa_nil)))
    (pss_one (ps_ret (pe_call G_many_beyond (hr.mono (by (first | lia | omega))) (by rfl) m_many_beyond k_many_beyond b_many_beyond .nil passN (pa_cons (pe_call G_first_reach (hr.mono (by (first | lia | omega))) (by rfl) m_first_reach k_first_reach b_first_reach .nil passN (pa_cons (pv 0) pa_nil)) (pa_cons (pe_slice (sl_listK K) (pv 0) (po_some pe_int) po_none) (pa_cons (pv 1) pa_nil))))))), ?_⟩
  walk_at "rd"
  refine ⟨a, rs, rfl, hS, fun hR => ?_, x0⟩
  obtain ⟨r0, ls, rfl⟩ : ∃ r0 ls, rs = r0 :: ls := by
    cases rs with
    | nil => have := hR.some; simp at this
    | cons r0 ls => exact ⟨r0, ls, rfl⟩
  have q := q0 hR r0 ls rfl
  refine ⟨a, r0, ls, rfl, hS, fun p hp => ?_⟩
  walk_at "rd"
  have s1 := same_new hp (.tup [.int r0, .int 0])
  refine ⟨_, s1.seq hS, fun l hl => ?_⟩
  have hcut : cutV ((r0 :: ls).map V.int) (some 1) none = ls.map V.int := (cut_from _ 1).trans rfl
  rw [hcut]
  have hfew := hR.few
  rw [List.length_cons] at hfew
  refine ⟨p, l, c, (r0, 0), ls, rfl, upd_keep upd_same hl, SqL.of upd_same, ⟨by have := hR.lo r0 List.mem_cons_self; show 0 ≤ r0; (first | lia | omega), Int.le_refl _⟩, fun x hx => by have := hR.lo x (List.mem_cons_of_mem _ hx); (first | lia | omega), by (first | lia | omega), fun H' g => ?_⟩
  exact q H' ((same_tup s1 hl _).trans g)
end
end FR
namespace FR
open PySem L2
section
variable {P : Program} {w : World} {K : PySem.W.Frag} {mg : Str → Option Value} {base : Heap}
def sp_fits (K : PySem.W.Frag) : Sp := fun vs H Q E => ∃ (a b : Addr) (c : Int) (rs fs : List Int), vs = [.ref a, .ref b, .int c] ∧ H a = some (.lst (rs.map V.int)) ∧ H b = some (.lst (fs.map V.int)) ∧ (IsRule rs → IsFold rs fs →
  ∀ H' : Hp, Same H H' → Q (.bl (decide (spanL rs fs ≤ c))) H') ∧ (¬ IsRule rs → Ref K H E "BadRule") ∧ (IsRule rs → ¬ IsFold rs fs → Ref K H E "BadFolding")
theorem ok_fits {f : Addr} {fd : FuncData} (F : Fun K "fits" "fits" s_fits f fd) {f_span : Addr} {d_span : FuncData} (G_span : FnOk P w K mg base (CXE P w) 4 f_span d_span ["rule", "folding"] (sp_span K)) (m_span : mg "span" = some (.ref f_span)) (k_span : PySem.W.keepIn K (.ref f_span) = true) (b_span : Binds K d_span ["rule", "folding"] []) :
    FnOk P w K mg base (CXE P w) 5 f fd ["rule", "folding", "case"] (sp_fits K) := by
  refine F.okX sc_fits (fun vs H Q E h => ?_) (fun cdv A outer s H vs Q E hr h => ?_)
  · obtain ⟨a, b, c, rs, fs, rfl, _⟩ := h
    rfl
  obtain ⟨a, b, c, rs, fs, rfl, hS, hT, q, x0, x1⟩ := h
  refine ⟨_, (pss_one (ps_ret (pe_cmpR op_le (pe_call G_span (hr.mono (by (first | lia | omega))) (by rfl) m_span k_span b_span .nil (passE (fun _ _ _ z => z)) (pa_cons (pv 0) (pa_cons (pv 1) pa_nil))) (pv 2) (nomark _)))), ?_⟩
  walk_at "rd"
  refine ⟨a, b, rs, fs, rfl, hS, hT, fun hR hF H' g => ?_, x0, x1⟩
  walk_at "rd"
  exact q hR hF H' g
end
end FR
namespace FR
open PySem L2
section
variable {P : Program} {w : World} {K : PySem.W.Frag} {mg : Str → Option Value} {base : Heap}
/-- the folding of a number (0 ≤ n below how many) -/
def sp_folding_at (K : PySem.W.Frag) : Sp := fun vs H Q E => ∃ (a : Addr) (c n : Int) (rs : List Int), vs = [.ref a, .int c, .int n] ∧ SqL K H a (rs.map V.int) ∧ (¬ IsRule rs → Ref K H E "BadRule") ∧
  (IsRule rs → ∀ r0 ls, rs = r0 :: ls → (0 ≤ n → n < cnt c (r0, 0) ls → ∀ (l : Addr) (H' : Hp), NewL H H' l ((atL c (r0, 0) ls n).map V.int) → Q (.ref l) H') ∧ (¬ (0 ≤ n ∧ n < cnt c (r0, 0) ls) → Ref K H E "NoSuch"))
theorem ok_folding_at {f : Addr} {fd : FuncData} (F : Fun K "folding_at" "folding_at" s_folding_at f fd) {f_further_reach : Addr} {d_further_reach : FuncData} (G_further_reach : FnOk P w K mg base (CXE P w) 1 f_further_reach d_further_reach ["reach", "turn", "length"] (sp_further_reach K)) (m_further_reach : mg "further_reach" = some (.ref f_further_reach)) (k_further_reach : PySem.W.keepIn K (.ref f_further_reach) = true) (b_further_reach : Binds K d_further_reach ["reach", "turn", "length"] []) {f_many_going_on : Addr} {d_many_going_on : FuncData} (G_many_going_on : FnOk P w K mg base (CXE P w) 4 f_many_going_on d_many_going_on ["rule", "case", "reach", "hinge"] (sp_many_going_on K)) (m_many_going_on : mg "many_going_on" = some (.ref f_many_going_on)) (k_many_going_on : PySem.W.keepIn K (.ref f_many_going_on) = true) (b_many_going_on : Binds K d_many_going_on ["rule", "case", "reach", "hinge"] []) {f_first_reach : Addr} {d_first_reach : FuncData} (G_first_reach : FnOk P w K mg base (CXE P w) 1 f_first_reach d_first_reach ["rule"] (sp_first_reach K)) (m_first_reach : mg "first_reach" = some (.ref f_first_reach)) (k_first_reach : PySem.W.keepIn K (.ref f_first_reach) = true) (b_first_reach : Binds K d_first_reach ["rule"] []) {f_many_fits : Addr} {d_many_fits : FuncData} (G_many_fits : FnOk P w K mg base (CXE P w) 4 f_many_fits d_many_fits ["rule", "case"] (sp_many_fits K)) (m_many_fits : mg "many_fits" = some (.ref f_many_fits)) (k_many_fits : PySem.W.keepIn K (.ref f_many_fits) = true) (b_many_fits : Binds K d_many_fits ["rule", "case"] []) (Er : Errs K mg) (z_range : mg "range" = none) (z_len : mg "len" = none) :
    FnOk P w K mg base (CXE P w) 5 f fd ["rule", "case", "number"] (sp_folding_at K) := by
  refine F.okX sc_folding_at (fun vs H Q E h => ?_) (fun cdv A outer s H vs Q E hr h => ?_)
  · obtain ⟨a, c, n, rs, rfl, _⟩ := h
    rfl
  obtain ⟨a, c, n, rs, rfl, hS, x0, qq⟩ := h
  have ND := sc_folding_at.nd
  refine ⟨_, (pss_cons (ps_if (pw_or (pt_cmpR op_ge (pv 2) (pe_call G_many_fits (hr.mono (by (first | lia | omega))) (by rfl) m_many_fits k_many_fits b_many_fits .nil (passE (fun _ _ _ z => z)) (pa_cons (pv 0) (pa_cons (pv 1) pa_nil))) (nomark _)) (pw_or1 (pt_cmpR op_lt (pv 2) pe_int (nomark _)))).pt (pss_one (ps_raise (Er.q "NoSuch" (by decide)) (by rfl) (Er.m "NoSuch" (by decide)) (pa_cons pe_str pa_nil))) pss_nil)
    (pss_cons (ps_set (i := 3) ND rfl (Or.inl rfl) (pe_call G_first_reach (hr.mono (by (first | lia | omega))) (by rfl) m_first_reach k_first_reach b_first_reach .nil passN (pa_cons (pv 0) pa_nil)))
    (pss_cons (ps_set (i := 4) ND rfl (Or.inl rfl) (pv 2))
    (pss_cons (ps_set (i := 5) ND rfl (Or.inl rfl) (pe_lst pa_nil))
    (pss_cons (PS.nox (ps_for PassesOwn.never rfl (pi_range1 (by rfl) z_range (pa_cons (pe_op op_sub (pe_callB (call_lenK K) (by rfl) z_len PySem.boot_len (pa_cons (pv 0) pa_nil)) pe_int) pa_nil)) (pg_name (i := 6) ND rfl (Or.inl rfl)) (pss_cons (ps_set (i := 7) ND rfl (Or.inl rfl) (pe_call G_many_going_on (hr.mono (by (first | lia | omega))) (by rfl) m_many_going_on k_many_going_on b_many_going_on .nil passN (pa_cons (pv 0) (pa_cons (pv 1) (pa_cons (pv 3) (pa_cons (pv 6) pa_nil))))))
    (pss_cons (ps_set (i := 8) ND rfl (Or.inl rfl) (pe_ifExp (pt_cmpR op_lt (pv 4) (pv 7) (nomark _)) pe_int pe_int))
    (pss_cons (ps_if (pt_cmpR op_eq (pv 8) pe_int (nomark _)) (pss_one (ps_set (i := 4) ND rfl (Or.inl rfl) (pe_op op_sub (pv 4) (pv 7)))) pss_nil)
    (pss_cons (ps_expr (pe_bmK K PySem.F.plainAttrs_list PySem.F.slot_list_append PySem.F.type_list_append mt_append (pv 5) (pa_cons (pv 8) pa_nil)))
    (pss_one (ps_set (i := 3) ND rfl (Or.inl rfl) (pe_call G_further_reach (hr.mono (by (first | lia | omega))) (by rfl) m_further_reach k_further_reach b_further_reach .nil passN (pa_cons (pv 3) (pa_cons (pv 8) (pa_cons (pe_ix (ix_listK K) (pv 0) (pe_op op_add (pv 6) pe_int) (fun _ _ => rfl)) pa_nil))))))))))))
    (pss_one (ps_ret (pv 5)))))))), ?_⟩
  refine seq_hide fun B1 e1 => ?_
  walk_at "rd"
  refine ⟨a, c, rs, rfl, hS, x0, fun hR r0 ls ers H1 g1 => ?_⟩
  obtain ⟨q0, qx⟩ := qq hR r0 ls ers
  subst ers
  have hlo : ∀ x ∈ r0 :: ls, 0 ≤ x := fun x hx => by have := hR.lo x hx; (first | lia | omega)
  have hfew := hR.few
  rw [List.length_cons] at hfew
  walk_at "rd"
  refine ite2 (fun hb => ⟨(by decide : 1 ≤ sizeLine), qx (by (first | lia | omega)) _ g1⟩) (fun hb => ?_)
  refine ite2 (fun hc => ⟨(by decide : 1 ≤ sizeLine), qx (by (first | lia | omega)) _ g1⟩) (fun hc => ?_)
  have hn0 : 0 ≤ n := by (first | lia | omega)
  have hn1 : n < cnt c (r0, 0) ls := by (first | lia | omega)
  have q := q0 hn0 hn1
  subst e1
  refine seq_hide fun B1 e1 => ?_
  walk_at "rd"
  refine ⟨a, r0, ls, rfl, g1.seq hS, fun p hp => ?_⟩
  try walk_at "rd"
  subst e1
  refine seq_hide fun B1 e1 => ?_
  walk_at "rd"
  subst e1
  refine seq_hide fun B1 e1 => ?_
  walk_at "rd"
  have s2 := same_tup g1 hp (.tup [.int r0, .int 0])
  refine ⟨(by decide : 0 ≤ sizeLine), fun l hl => ?_⟩
  have ln : H l = none := s2.free hl
  have s3 := same_tup s2 hl (.lst [])
  have hp3 : upd (upd H1 p (.tup [.int r0, .int 0])) l (.lst []) p = some (.tup [.int r0, .int 0]) := upd_keep upd_same hl
  have hl3 : upd (upd H1 p (.tup [.int r0, .int 0])) l (.lst []) l = some (.lst (([] : List Int).map V.int)) := upd_same
  generalize upd (upd H1 p (.tup [.int r0, .int 0])) l (.lst []) = H3 at *
  have en : ((((r0 :: ls).map V.int).length : Int) - 1).toNat = ls.length := by rw [List.length_map, List.length_cons]; (first | lia | omega)
  subst e1
  refine seq_hide fun B1 e1 => ?_
  refine ⟨_, rfl, a, _, rfl, s3.seq hS, _, _, rfl, rfl, _, rfl, ?_, ?_, ?_⟩
  · rw [List.length_map, List.length_cons]; (first | lia | omega)
  · rw [List.length_map, List.length_cons]; (first | lia | omega)
  rw [en]
  refine for_rangeH (lo := 0) (n := ls.length) (fun i σ H' => Same H H' ∧ ∃ (p : Addr) (r : Rch) (m : Int) (fs : List Int) (o6 o7 o8 : Option V), σ = [some (.ref a), some (.int c), some (.int n), some (.ref p), some (.int m), some (.ref l), o6, o7, o8] ∧ H' p = some (.tup [.int r.1, .int r.2]) ∧ Ge0 r ∧
      H' l = some (.lst (fs.map V.int)) ∧ fs.length = i ∧ 0 ≤ m ∧ m < cnt c r (ls.drop i) ∧ atL c (r0, 0) ls n = fs ++ atL c r (ls.drop i) m)
    ⟨s3, p, (r0, 0), n, [], _, _, _, rfl, hp3, ⟨by have := hR.lo r0 List.mem_cons_self; show 0 ≤ r0; (first | lia | omega), Int.le_refl _⟩, hl3, rfl, hn0, hn1, rfl⟩ (fun N i hN σ H' hi h => ?_) (fun σ H' h => ?_)
  · obtain ⟨g4, p', r, m, fs, o6, o7, o8, rfl, hp', hG, hl', hfl, m0, m1, hat⟩ := h
    obtain ⟨L, hL⟩ : ∃ L, ls[i]? = some L := ⟨_, List.getElem?_eq_getElem hi⟩
    have hL' : (r0 :: ls)[i + 1]? = some L := by rw [List.getElem?_cons_succ]; exact hL
    have hdr := drop_cons hL
    have hLge : 0 ≤ L := hlo L (List.mem_of_getElem? hL')
    rw [hdr, cnt] at m1
    rw [hdr, atL] at hat
    refine seq_hide fun B2 e2 => ?_
    walk_at "rd"
    refine ⟨a, p', c, r, r0 :: ls, i, L, by rw [Int.zero_add], g4.seq hS, hp', hG, hlo, by rw [List.length_cons]; (first | lia | omega), hL', fun H5 g5 => ?_⟩
    have e1 : (0 + (i : Int) + 1) = ((i + 1 : Nat) : Int) := by (first | lia | omega)
    have pl : p' ≠ l := ne_of hp' hl' (fun z => nomatch z)
    have hdd : (r0 :: ls).drop (i + 2) = ls.drop (i + 1) := rfl
    rw [hdd]
    subst e2
    walk_at "rd"
    have hlen : (fs.map V.int).length < sizeLine := by rw [List.length_map]; exact small12 (by (first | lia | omega))
    have l5 := g5 _ _ hl'
    have S6 : ∀ o, Same H (upd H5 l o) := fun o => same_upd (g4.trans g5) ln o
    have hp6 : ∀ o, upd H5 l o p' = some (.tup [.int r.1, .int r.2]) := fun o => by rw [upd_ne pl]; exact g5 _ _ hp'
    have at6 : atI ((r0 :: ls).map V.int) (0 + (i : Int) + 1) = some (.int L) := by rw [e1]; exact atI_nat (getI hL')
    by_cases hm : m < cnt c (frR r 0 L) (ls.drop (i + 1))
    · rw [if_pos hm] at hat ⊢
      rw [if_neg (by decide)]
      refine ⟨tyL l5, _, l5, hlen, _, (S6 _).seq hS, _, at6, p', r, 0, L, rfl, SqT.of (hp6 _), fun p2 hp2 => hN _ _ ⟨same_tup (S6 _) hp2 _, p2, frR r 0 L, m, fs ++ [0], _, _, _, rfl, upd_same, hG.fr hLge, ?_, by simp [hfl], m0, hm, by rw [hat]; simp⟩⟩
      rw [List.map_append]; exact upd_keep upd_same hp2
    · rw [if_neg hm] at hat ⊢
      refine ⟨tyL l5, _, l5, hlen, _, (S6 _).seq hS, _, at6, p', r, 1, L, rfl, SqT.of (hp6 _), fun p2 hp2 => hN _ _ ⟨same_tup (S6 _) hp2 _, p2, frR r 1 L, m - cnt c (frR r 0 L) (ls.drop (i + 1)), fs ++ [1], _, _, _, rfl, upd_same, hG.fr hLge, ?_, by simp [hfl], by (first | lia | omega), by (first | lia | omega), by rw [hat]; simp⟩⟩
      rw [List.map_append]; exact upd_keep upd_same hp2
  · obtain ⟨g4, p', r, m, fs, o6, o7, o8, rfl, hp', hG, hl', hfl, m0, m1, hat⟩ := h
    rw [List.drop_length, atL, List.append_nil] at hat
    subst e1
    walk_at "rd"
    refine q l H' ⟨g4, ln, ?_⟩
    rw [hat]; exact hl'
/-- the number of a folding that fits -/
def sp_number_of (K : PySem.W.Frag) : Sp := fun vs H Q E => ∃ (a b : Addr) (c : Int) (rs fs : List Int), vs = [.ref a, .int c, .ref b] ∧ H a = some (.lst (rs.map V.int)) ∧ H b = some (.lst (fs.map V.int)) ∧ (¬ IsRule rs → Ref K H E "BadRule") ∧ (IsRule rs → ¬ IsFold rs fs → Ref K H E "BadFolding") ∧
  (IsRule rs → IsFold rs fs → ¬ spanL rs fs ≤ c → Ref K H E "NoSuch") ∧ (IsRule rs → IsFold rs fs → spanL rs fs ≤ c → ∀ r0 ls, rs = r0 :: ls → ∀ H' : Hp, Same H H' → Q (.int (numL c (r0, 0) ls fs)) H')
theorem ok_number_of {f : Addr} {fd : FuncData} (F : Fun K "number_of" "number_of" s_number_of f fd) {f_further_reach : Addr} {d_further_reach : FuncData} (G_further_reach : FnOk P w K mg base (CXE P w) 1 f_further_reach d_further_reach ["reach", "turn", "length"] (sp_further_reach K)) (m_further_reach : mg "further_reach" = some (.ref f_further_reach)) (k_further_reach : PySem.W.keepIn K (.ref f_further_reach) = true) (b_further_reach : Binds K d_further_reach ["reach", "turn", "length"] []) {f_many_going_on : Addr} {d_many_going_on : FuncData} (G_many_going_on : FnOk P w K mg base (CXE P w) 4 f_many_going_on d_many_going_on ["rule", "case", "reach", "hinge"] (sp_many_going_on K)) (m_many_going_on : mg "many_going_on" = some (.ref f_many_going_on)) (k_many_going_on : PySem.W.keepIn K (.ref f_many_going_on) = true) (b_many_going_on : Binds K d_many_going_on ["rule", "case", "reach", "hinge"] []) {f_first_reach : Addr} {d_first_reach : FuncData} (G_first_reach : FnOk P w K mg base (CXE P w) 1 f_first_reach d_first_reach ["rule"] (sp_first_reach K)) (m_first_reach : mg "first_reach" = some (.ref f_first_reach)) (k_first_reach : PySem.W.keepIn K (.ref f_first_reach) = true) (b_first_reach : Binds K d_first_reach ["rule"] []) {f_fits : Addr} {d_fits : FuncData} (G_fits : FnOk P w K mg base (CXE P w) 5 f_fits d_fits ["rule", "folding", "case"] (sp_fits K)) (m_fits : mg "fits" = some (.ref f_fits)) (k_fits : PySem.W.keepIn K (.ref f_fits) = true) (b_fits : Binds K d_fits ["rule", "folding", "case"] []) (Er : Errs K mg) (z_enumerate : mg "enumerate" = none) :
    FnOk P w K mg base (CXE P w) 6 f fd ["rule", "case", "folding"] (sp_number_of K) := by
  refine F.okX sc_number_of (fun vs H Q E h => ?_) (fun cdv A outer s H vs Q E hr h => ?_)
  · obtain ⟨a, b, c, rs, fs, rfl, _⟩ := h
    rfl
  obtain ⟨a, b, c, rs, fs, rfl, hS, hT, x0, x1, x2, q0⟩ := h
  have ND := sc_number_of.nd
  refine ⟨_, (pss_cons (ps_if (pt_not (pt_truthK K (pe_call G_fits (hr.mono (by (first | lia | omega))) (by rfl) m_fits k_fits b_fits .nil (passE (fun _ _ _ z => z)) (pa_cons (pv 0) (pa_cons (pv 2) (pa_cons (pv 1) pa_nil)))) (fun _ => rfl))) (pss_one (ps_raise (Er.q "NoSuch" (by decide)) (by rfl) (Er.m "NoSuch" (by decide)) (pa_cons pe_str pa_nil))) pss_nil)
    (pss_cons (ps_set (i := 3) ND rfl (Or.inl rfl) (pe_call G_first_reach (hr.mono (by (first | lia | omega))) (by rfl) m_first_reach k_first_reach b_first_reach .nil passN (pa_cons (pv 0) pa_nil)))
    (pss_cons (ps_set (i := 4) ND rfl (Or.inl rfl) pe_int)
    (pss_cons (PS.nox (ps_for PassesOwn.never rfl (pi_enumK K (by rfl) z_enumerate (pa_cons (pv 2) pa_nil)) (pg_tupK K 2 rfl (pgs_cons (pg_name (i := 5) ND rfl (Or.inl rfl)) (pgs_cons (pg_name (i := 6) ND rfl (Or.inl rfl)) pgs_nil))) (pss_cons (ps_if (pt_cmpR op_eq (pv 6) pe_int (nomark _)) (pss_one (ps_set (i := 4) ND rfl (Or.inl rfl) (pe_op op_add (pv 4) (pe_call G_many_going_on (hr.mono (by (first | lia | omega))) (by rfl) m_many_going_on k_many_going_on b_many_going_on .nil passN (pa_cons (pv 0) (pa_cons (pv 1) (pa_cons (pv 3) (pa_cons (pv 5) pa_nil)))))))) pss_nil)
    (pss_one (ps_set (i := 3) ND rfl (Or.inl rfl) (pe_call G_further_reach (hr.mono (by (first | lia | omega))) (by rfl) m_further_reach k_further_reach b_further_reach .nil passN (pa_cons (pv 3) (pa_cons (pv 6) (pa_cons (pe_ix (ix_listK K) (pv 0) (pe_op op_add (pv 5) pe_int) (fun _ _ => rfl)) pa_nil)))))))))
    (pss_one (ps_ret (pv 4))))))), ?_⟩
  refine seq_hide fun B1 e1 => ?_
  walk_at "rd"
  refine ⟨a, b, c, rs, fs, rfl, hS, hT, fun hR hF H1 g1 => ?_, x0, x1⟩
  walk_at "rd"
  refine ite2 (fun hsp => ⟨(by decide : 1 ≤ sizeLine), x2 hR hF hsp _ g1⟩) (fun hsp => ?_)
  have hsp : spanL rs fs ≤ c := by (first | lia | omega)
  obtain ⟨r0, ls, rfl⟩ : ∃ r0 ls, rs = r0 :: ls := by
    cases rs with
    | nil => have := hR.some; simp at this
    | cons r0 ls => exact ⟨r0, ls, rfl⟩
  have q := q0 hR hF hsp r0 ls rfl
  have hlo : ∀ x ∈ r0 :: ls, 0 ≤ x := fun x hx => by have := hR.lo x hx; (first | lia | omega)
  have hfew := hR.few
  rw [List.length_cons] at hfew
  have hlen : fs.length = ls.length := by have := hF.len; simpa using this
  subst e1
  refine seq_hide fun B1 e1 => ?_
  walk_at "rd"
  refine ⟨a, r0, ls, rfl, SqL.of (g1 _ _ hS), fun p hp => ?_⟩
  try walk_at "rd"
  subst e1
  refine seq_hide fun B1 e1 => ?_
  walk_at "rd"
  have s2 := same_tup g1 hp (.tup [.int r0, .int 0])
  have hp2 : upd H1 p (.tup [.int r0, .int 0]) p = some (.tup [.int r0, .int 0]) := upd_same
  generalize upd H1 p (.tup [.int r0, .int 0]) = H2 at *
  subst e1
  refine seq_hide fun B1 e1 => ?_
  refine ⟨_, rfl, b, rfl, ⟨_, SqL.of (s2 _ _ hT)⟩, for_enum (xs := fs.map V.int) (fun i σ H' => Same H H' ∧ ∃ (p : Addr) (r : Rch) (n : Int) (o5 o6 : Option V), σ = [some (.ref a), some (.int c), some (.ref b), some (.ref p), some (.int n), o5, o6] ∧ H' p = some (.tup [.int r.1, .int r.2]) ∧ Ge0 r ∧
      numL c (r0, 0) ls fs = n + numL c r (ls.drop i) (fs.drop i))
    ⟨s2, p, (r0, 0), 0, _, _, rfl, hp2, ⟨by have := hR.lo r0 List.mem_cons_self; show 0 ≤ r0; (first | lia | omega), Int.le_refl _⟩, (Int.zero_add _).symm⟩ (fun i σ H' _ h => SqL.of (h.1 _ _ hT)) (fun i x t σ H' hx ht h => ?_) (fun σ H' h => ?_)⟩
  · obtain ⟨g3, p', r, n, o5, o6, rfl, hp', hG, hnum⟩ := h
    obtain ⟨u, hu, rfl⟩ := ofGetI hx
    have li := (List.getElem?_eq_some_iff.mp hu).1
    obtain ⟨L, hL⟩ : ∃ L, ls[i]? = some L := ⟨_, List.getElem?_eq_getElem (by (first | lia | omega))⟩
    have hL' : (r0 :: ls)[i + 1]? = some L := by rw [List.getElem?_cons_succ]; exact hL
    have hLge : 0 ≤ L := hlo L (List.mem_of_getElem? hL')
    rw [drop_cons hL, drop_cons hu, numL] at hnum
    have g4 := same_tup g3 ht (.tup [.int (i : Int), .int u])
    have hp4 := upd_keep (u := .tup [.int (i : Int), .int u]) hp' ht
    have tS : SqT K (upd H' t (.tup [.int (i : Int), .int u])) t [.int (i : Int), .int u] := SqT.of upd_same
    generalize upd H' t (.tup [.int (i : Int), .int u]) = H4 at *
    walk_at "rd"
    refine ⟨_, tS, rfl, _, _, rfl, _, _, rfl, rfl, ?_⟩
    have e1 : ((i : Int) + 1) = ((i + 1 : Nat) : Int) := by (first | lia | omega)
    have at6 : atI ((r0 :: ls).map V.int) ((i : Int) + 1) = some (.int L) := by rw [e1]; exact atI_nat (getI hL')
    have hdd : (r0 :: ls).drop (i + 2) = ls.drop (i + 1) := rfl
    refine ⟨rfl, ?_⟩
    by_cases hu1 : u = 1
    · subst hu1
      rw [if_pos rfl] at hnum ⊢
      refine ⟨a, p', c, r, r0 :: ls, i, L, rfl, SqL.of (g4 _ _ hS), hp4, hG, hlo, by rw [List.length_cons]; (first | lia | omega), hL', fun H5 g5 => ⟨_, rfl, _, rfl, _, SqL.of (g5 _ _ (g4 _ _ hS)), _, at6, p', r, 1, L, rfl, SqT.of (g5 _ _ hp4), fun p2 hp2 => ⟨same_tup (g4.trans g5) hp2 _, p2, rfl, frR r 1 L, upd_same, hG.fr hLge, ?_⟩⟩⟩
      rw [hdd]; (first | lia | omega)
    · rw [if_neg hu1] at hnum
      rw [if_neg (fun z => hu1 (by cases z; rfl))]
      refine ⟨_, rfl, _, SqL.of (g4 _ _ hS), _, at6, p', r, u, L, rfl, SqT.of hp4, fun p2 hp2 => ⟨same_tup g4 hp2 _, p2, rfl, frR r u L, upd_same, hG.fr hLge, ?_⟩⟩
      (first | lia | omega)
  · obtain ⟨g3, p', r, n, o5, o6, rfl, hp', hG, hnum⟩ := h
    rw [List.length_map, hlen, List.drop_length] at hnum
    have e0 : numL c r [] (fs.drop ls.length) = 0 := rfl
    rw [e0, Int.add_zero] at hnum
    subst e1
    walk_at "rd"
    rw [← hnum]
    exact q H' g3
end
end FR
namespace FR
open PySem L2
section
variable {P : Program} {w : World} {K : PySem.W.Frag} {mg : Str → Option Value} {base : Heap}
-- ALWAYS
abbrev sortM : Nat := 64
theorem sortsM {P : Program} {w : World} : SortsTo P w sortM := sorts64
def sp_places_behind (K : PySem.W.Frag) : Sp := fun vs H Q _ => ∃ (a : Addr) (L c : Int) (ps : List Int), vs = [.ref a, .int L, .int c] ∧ H a = some (.lst (ps.map V.int)) ∧ 2 * ps.length < sortM ∧ 2 * ps.length ≤ 4000 ∧
  ∀ (l : Addr) (H' : Hp), NewL H H' l ((nextP c L ps).map V.int) → Q (.ref l) H'
theorem ok_places_behind {f : Addr} {fd : FuncData} (F : Fun K "places_behind" "places_behind" s_places_behind f fd) (z_sorted : mg "sorted" = none) (z_set : mg "set" = none) :
    FnOk P w K mg base (CXE P w) 1 f fd ["places", "length", "case"] (sp_places_behind K) := by
  refine F.okN sc_places_behind (fun vs H Q E h => ?_) (fun cdv A outer s H vs Q E hr h => ?_)
  · obtain ⟨a, L, c, ps, rfl, _⟩ := h
    rfl
  obtain ⟨a, L, c, ps, rfl, hS, h64, hbig, q⟩ := h
  have ND := sc_places_behind.nd
  refine ⟨_, (pss_cons (ps_setC (i := 3) (caps := [("length", 1)]) (comp_scope (by rfl) (by rfl) (by decide) (by rfl)) rfl ND rfl rfl (pi_listK K (pv 0)) (fun _ _ _ _ => pts_nil) (fun _ _ _ _ => (pe_op op_add (pv 0) (pv 1))))
    (pss_cons (ps_setC (i := 4) (caps := [("length", 1)]) (comp_scope (by rfl) (by rfl) (by decide) (by rfl)) rfl ND rfl rfl (pi_listK K (pv 0)) (fun _ _ _ _ => pts_nil) (fun _ _ _ _ => (pe_op op_sub (pv 0) (pv 1))))
    (pss_one (ps_ret (pe_comp (caps := [("case", 2)]) (comp_scope (by rfl) (by rfl) (by decide) (by rfl)) rfl (pi_listK K (pe_callB (call_sortedS P w sortM sortsM rfl) (by rfl) z_sorted PyProof.Rows.Boot.«sorted» (pa_cons (pe_callTy (call_setK P w K rfl) (by rfl) z_set PyProof.Rows.Boot.«set» (pa_cons (pe_op op_cat (pv 3) (pv 4)) pa_nil)) pa_nil))) (fun _ _ _ _ => (pts_one (pw_and (pt_cmpR op_ge (pv 0) pe_int (nomark _)) (pw_and1 (pt_cmpR op_le (pv 0) (pv 1) (nomark _)))).pt)) (fun _ _ _ _ => (pv 0))))))), ?_⟩
  walk_at "rd"
  refine ⟨_, rfl, a, rfl, ⟨_, SqL.of hS⟩, comp_list (xs := ps.map V.int) (fun D i H' => SameB D H H' ∧ H' D = some (.lst (((ps.take i).map (· + L)).map V.int)))
    (fun D hD => ⟨(SameB.refl _ _).upd _, upd_same⟩) (fun D i H' hD _ h => SqL.of (h.1 a _ (ne_of_none hS hD) hS)) (fun D i x H' hD hx h => ?_) (fun D H2 hD h => ?_)⟩
  · obtain ⟨h1, h2⟩ := h
    obtain ⟨n, hn, rfl⟩ := ofGetI hx
    have li := (List.getElem?_eq_some_iff.mp hn).1
    walk_at "rdT"
    refine ⟨_, h2, ?_, wn_next (by rw [List.length_map]; exact li) ⟨h1.upd _, ?_⟩⟩
    · rw [List.length_map, List.length_map, List.length_take]; exact big_small (by (first | lia | omega))
    · rw [upd_same, take_snoc hn]; simp
  · obtain ⟨h1, h2⟩ := h
    rw [List.length_map, List.take_length] at h2
    have s1 : Same H H2 := h1.same hD
    have hS2 := s1 _ _ hS
    refine ⟨_, rfl, a, rfl, ⟨_, SqL.of hS2⟩, comp_list (xs := ps.map V.int) (fun D i H' => SameB D H2 H' ∧ H' D = some (.lst (((ps.take i).map (· - L)).map V.int)))
      (fun D hD => ⟨(SameB.refl _ _).upd _, upd_same⟩) (fun D i H' hD _ h => SqL.of (h.1 a _ (ne_of_none hS2 hD) hS2)) (fun D' i x H' hD' hx h => ?_) (fun D' H3 hD' h => ?_)⟩
    · obtain ⟨g1, g2⟩ := h
      obtain ⟨n, hn, rfl⟩ := ofGetI hx
      have li := (List.getElem?_eq_some_iff.mp hn).1
      walk_at "rdT"
      refine ⟨_, g2, ?_, wn_next (by rw [List.length_map]; exact li) ⟨g1.upd _, ?_⟩⟩
      · rw [List.length_map, List.length_map, List.length_take]; exact big_small (by (first | lia | omega))
      · rw [upd_same, take_snoc hn]; simp
    · obtain ⟨g1, g2⟩ := h
      rw [List.length_map, List.take_length] at g2
      have s2 : Same H2 H3 := g1.same hD'
      have s3 : Same H H3 := s1.trans s2
      have h3 := s2 _ _ h2
      simp only [tComp, iList, tSeq, tIfS, tOr, tAnd, tNot, tTest, tB, tOp, tUn, tCB, tCons, tNil, tVar, tC, rI0, rI, rU, tNever, tNext, tDrop, tRet, tRetN, tAsg, gName, gTup, gCons, gNil, tCall, tBM, tBM0, rAppend, rClear, rPop, tLst, tTup, rIxL, rIxT, rEq, rNe, rCat, tAndV, tOrV, tNotV, tIf, tBreak, tCont, rIsi, CMul, CDiv, cxK, blkK, capSt, L2.start, List.map_cons, List.map_nil, List.length_cons, List.length_nil, List.replicate_zero, List.replicate_succ, List.nil_append, List.cons_append, List.append_nil, Nat.add_sub_cancel, Nat.reduceAdd, Nat.reduceSub, Nat.sub_self, Nat.zero_add, List.set_cons_zero, List.set_cons_succ, List.getElem?_cons_zero, List.getElem?_cons_succ, Option.join_some, Option.some.injEq, exists_eq_left', exists_eq_left, exists_and_left, exists_eq, exists_eq', List.cons.injEq, V.ref.injEq, V.int.injEq, V.bl.injEq, V.str.injEq, and_true, true_and, if_true, if_false, decide_eq_true_eq, Bool.not_eq_true', Bool.false_eq_true, reduceCtorEq, scalII, scalNI, scalIN, scalBB, scalSS, scalNN, decide_eq_false_iff_not, V.ty.injEq, and_assoc, tTruth, truBl, rLenL, rLenT, rListOf, rMaxL, rMinL, rSortedL, rEqI, rNeI, rEqII, rNeII, tDisp1, tDGet, tDGet2, tDNotIn, tDIn, sDPut, tDNewT, tMinS, rSumT, rSumV, rSumL, rItems, rValues, tSl, tPart, tNoPart, rSlL, tListRev, tChain, rIsiE, rCount, rIndex, tRaise, vC, tListRng, rSetOf, rSortedS]
      refine ⟨_, h3, _, g2, ?_, fun p hp => ⟨ps.map (· + L) ++ ps.map (· - L), ?_, ?_, fun t ms ht nd mem => ⟨ms, upd_same, nd, ?_, fun l ks hl pk ok => ?_⟩⟩⟩
      · simp only [List.length_map]
        rw [sizeLine_eq]; (first | lia | omega)
      · rw [List.map_append]; exact SqL.of upd_same
      · rw [List.length_append, List.length_map, List.length_map]; unfold scanBound; (first | lia | omega)
      · have := nodup_len nd fun x hx => (mem x).mp hx
        rw [List.length_append, List.length_map, List.length_map] at this
        (first | lia | omega)
      have s4 := same_tup (same_tup (same_tup s3 hp (.lst (List.map V.int (ps.map (· + L)) ++ List.map V.int (ps.map (· - L))))) ht (setO P w t ms)) hl (.lst (ks.map V.int))
      have l4 : upd (upd (upd H3 p (.lst (List.map V.int (ps.map (· + L)) ++ List.map V.int (ps.map (· - L))))) t (setO P w t ms)) l (.lst (ks.map V.int)) l = some (.lst (ks.map V.int)) := upd_same
      generalize upd (upd (upd H3 p (.lst (List.map V.int (ps.map (· + L)) ++ List.map V.int (ps.map (· - L))))) t (setO P w t ms)) l (.lst (ks.map V.int)) = H4 at *
      have klen : ks.length ≤ 4000 := by
        have := nodup_len nd fun x hx => (mem x).mp hx
        rw [List.length_append, List.length_map, List.length_map] at this
        rw [pk.length_eq]; (first | lia | omega)
      refine ⟨⟨_, SqL.of l4⟩, comp_list (xs := ks.map V.int) (fun E i H' => SameB E H4 H' ∧ H' E = some (.lst (((ks.take i).filter fun x => decide (0 ≤ x ∧ x ≤ c)).map V.int)))
        (fun E hE => ⟨(SameB.refl _ _).upd _, upd_same⟩) (fun E i H' hE _ h => SqL.of (h.1 l _ (ne_of_none l4 hE) l4)) (fun E i x H' hE hx h => ?_) (fun E H5 hE h => ?_)⟩
      · obtain ⟨k1, k2⟩ := h
        obtain ⟨n, hn, rfl⟩ := ofGetI hx
        have li := (List.getElem?_eq_some_iff.mp hn).1
        have fl := List.length_filter_le (fun x => decide (0 ≤ x ∧ x ≤ c)) (ks.take i)
        rw [List.length_take] at fl
        have no : ¬ (0 ≤ n ∧ n ≤ c) → SameB E H4 H' ∧ H' E = some (.lst (((ks.take (i + 1)).filter fun x => decide (0 ≤ x ∧ x ≤ c)).map V.int)) := fun z => ⟨k1, by
          rw [take_snoc hn, List.filter_append, show [n].filter (fun x => decide (0 ≤ x ∧ x ≤ c)) = [] by simp [z], List.append_nil]
          exact k2⟩
        walk_at "rd"
        refine ite2 (fun c1 => ite2 (fun c2 => ⟨_, k2, ?_, wn_next (by rw [List.length_map]; exact li) ⟨k1.upd _, ?_⟩⟩) (fun c2 => wn_next (by rw [List.length_map]; exact li) (no (by (first | lia | omega))))) (fun c1 => wn_next (by rw [List.length_map]; exact li) (no (by (first | lia | omega))))
        · rw [List.length_map]; exact big_small (by (first | lia | omega))
        · rw [upd_same, take_snoc hn, List.filter_append, show [n].filter (fun x => decide (0 ≤ x ∧ x ≤ c)) = [n] by simp [c1, c2], List.map_append]; rfl
      · obtain ⟨k1, k2⟩ := h
        rw [List.length_map, List.take_length] at k2
        refine q E H5 ⟨s4.trans (k1.same hE), s4.free hE, ?_⟩
        rw [k2]
        congr 3
        refine riseExt ((le_lt ok (pk.nodup_iff.mpr nd)).filter _) (nextP_rise _ _ _) fun x => ?_
        rw [List.mem_filter, nextP_mem, decide_eq_true_eq, pk.mem_iff, mem, List.mem_append, List.mem_map, List.mem_map]
        constructor
        · rintro ⟨⟨y, hy, rfl⟩ | ⟨y, hy, rfl⟩, h1, h2⟩
          · exact ⟨h1, h2, .inl (by rw [Int.add_sub_cancel]; exact hy)⟩
          · exact ⟨h1, h2, .inr (by rw [Int.sub_add_cancel]; exact hy)⟩
        · rintro ⟨h1, h2, h | h⟩
          · exact ⟨.inl ⟨_, h, by (first | lia | omega)⟩, h1, h2⟩
          · exact ⟨.inr ⟨_, h, by (first | lia | omega)⟩, h1, h2⟩
end
end FR
namespace FR
open PySem L2
section
variable {P : Program} {w : World} {K : PySem.W.Frag} {mg : Str → Option Value} {base : Heap}
/-- the lists of reachable places, all new -/
def sp_reachable (K : PySem.W.Frag) : Sp := fun vs H Q E => ∃ (a : Addr) (c : Int) (rs : List Int), vs = [.ref a, .int c] ∧ SqL K H a (rs.map V.int) ∧ -1 ≤ c ∧ 2 * (c + 1).toNat < sortM ∧ c ≤ 1000 ∧ (¬ IsRule rs → Ref K H E "BadRule") ∧
  (IsRule rs → ∀ (l : Addr) (H' : Hp) (refs : List Addr), Same H H' → H l = none → H' l = some (.lst (refs.map V.ref)) → AtAll H' refs (rowsP c (upN (c + 1).toNat) rs) → (∀ r ∈ refs, H r = none ∧ r ≠ l) → refs.Nodup → Q (.ref l) H')
theorem ok_reachable {f : Addr} {fd : FuncData} (F : Fun K "reachable" "reachable" s_reachable f fd) {f_places_behind : Addr} {d_places_behind : FuncData} (G_places_behind : FnOk P w K mg base (CXE P w) 1 f_places_behind d_places_behind ["places", "length", "case"] (sp_places_behind K)) (m_places_behind : mg "places_behind" = some (.ref f_places_behind)) (k_places_behind : PySem.W.keepIn K (.ref f_places_behind) = true) (b_places_behind : Binds K d_places_behind ["places", "length", "case"] []) {f_check_rule : Addr} {d_check_rule : FuncData} (G_check_rule : FnOk P w K mg base (CXE P w) 1 f_check_rule d_check_rule ["rule"] (sp_check_rule K)) (m_check_rule : mg "check_rule" = some (.ref f_check_rule)) (k_check_rule : PySem.W.keepIn K (.ref f_check_rule) = true) (b_check_rule : Binds K d_check_rule ["rule"] []) (z_list : mg "list" = none) (z_range : mg "range" = none) :
    FnOk P w K mg base (CXE P w) 2 f fd ["rule", "case"] (sp_reachable K) := by
  refine F.okX sc_reachable (fun vs H Q E h => ?_) (fun cdv A outer s H vs Q E hr h => ?_)
  · obtain ⟨a, c, rs, rfl, _⟩ := h
    rfl
  obtain ⟨a, c, rs, rfl, hS, c0, c1, c2, x0, q0⟩ := h
  have ND := sc_reachable.nd
  refine ⟨_, (pss_cons (ps_expr (pe_call G_check_rule (hr.mono (by (first | lia | omega))) (by rfl) m_check_rule k_check_rule b_check_rule .nil (passE (fun _ _ _ z => z)) (pa_cons (pv 0) pa_nil)))
    (pss_cons (ps_set (i := 2) ND rfl (Or.inl rfl) (pe_listRng rfl (by rfl) z_list (by rfl) z_range (pe_op op_add (pv 1) pe_int)))
    (pss_cons (ps_set (i := 3) ND rfl (Or.inl rfl) (pe_lst (pa_cons (pv 2) pa_nil)))
    (pss_cons (PS.nox (ps_for PassesOwn.never rfl (pi_listK K (pv 0)) (pg_name (i := 4) ND rfl (Or.inl rfl)) (pss_cons (ps_set (i := 2) ND rfl (Or.inl rfl) (pe_call G_places_behind (hr.mono (by (first | lia | omega))) (by rfl) m_places_behind k_places_behind b_places_behind .nil passN (pa_cons (pv 2) (pa_cons (pv 4) (pa_cons (pv 1) pa_nil)))))
    (pss_one (ps_expr (pe_bmK K PySem.F.plainAttrs_list PySem.F.slot_list_append PySem.F.type_list_append mt_append (pv 3) (pa_cons (pv 2) pa_nil)))))))
    (pss_one (ps_ret (pv 3))))))), ?_⟩
  walk_at "rd"
  refine ⟨a, rs, rfl, hS, fun hR => ?_, x0⟩
  have q := q0 hR
  refine ⟨by (first | lia | omega), by (first | lia | omega), fun p hp => ⟨(by decide : 1 ≤ sizeLine), fun l hl => ?_⟩⟩
  have s1 := same_tup (same_new hp (.lst ((upN (c + 1).toNat).map V.int))) hl (.lst [.ref p])
  have ln : H l = none := (same_new hp _).free hl
  have p1 : upd (upd H p (.lst ((upN (c + 1).toNat).map V.int))) l (.lst [.ref p]) p = some (.lst ((upN (c + 1).toNat).map V.int)) := upd_keep upd_same hl
  have l1 : upd (upd H p (.lst ((upN (c + 1).toNat).map V.int))) l (.lst [.ref p]) l = some (.lst ([p].map V.ref)) := upd_same
  have pl : p ≠ l := fun z => by rw [z, upd_same] at hl; cases hl
  generalize upd (upd H p (.lst ((upN (c + 1).toNat).map V.int))) l (.lst [.ref p]) = H1 at *
  have hS1 : SqL K H1 a (rs.map V.int) := s1.seq hS
  have hfew := hR.few
  refine ⟨_, rfl, a, rfl, ⟨_, hS1⟩, for_list (xs := rs.map V.int) (fun i σ H' => Same H H' ∧ ∃ (p : Addr) (refs : List Addr) (o : Option V), σ = [some (.ref a), some (.int c), some (.ref p), some (.ref l), o] ∧ H' l = some (.lst (refs.map V.ref)) ∧
      AtAll H' refs (rowsP c (upN (c + 1).toNat) (rs.take i)) ∧ (∀ r ∈ refs, H r = none ∧ r ≠ l) ∧ refs.Nodup ∧ H' p = some (.lst (((rowsP c (upN (c + 1).toNat) (rs.take i)).getLastD []).map V.int)))
    ⟨s1, p, [p], _, rfl, l1, ⟨rfl, fun i r f h1 h2 => ?_⟩, fun r hr => ?_, by simp, p1⟩ (fun i σ H' _ h => h.1.seq hS) (fun i x σ H' hx h => ?_) (fun σ H' h => ?_)⟩
  · match i with
    | 0 =>
      simp at h1
      have h2' : upN (c + 1).toNat = f := by simpa [rowsP] using h2
      subst h1 h2'; exact p1
    | k + 1 => simp at h1
  · cases List.mem_singleton.mp hr
    exact ⟨hp, pl⟩
  · obtain ⟨g1, p', refs, o, rfl, hl', hA, hfr, hnd, hp'⟩ := h
    obtain ⟨L, hL, rfl⟩ := ofGetI hx
    have li := (List.getElem?_eq_some_iff.mp hL).1
    have tk := take_snoc hL
    have hlast : ((rowsP c (upN (c + 1).toNat) (rs.take i)).getLastD []).length ≤ (c + 1).toNat := rows_last_len _ _ _ (by rw [upN_len]; exact Nat.le_refl _)
    have hrl : refs.length = i + 1 := by rw [hA.len, rowsP_len, List.length_take]; (first | lia | omega)
    walk_at "rd"
    refine ⟨p', L, c, _, rfl, hp', by (first | lia | omega), by (first | lia | omega), fun l2 H2 N2 => ?_⟩
    have l2n : H l2 = none := g1.free N2.2
    have l2l : l2 ≠ l := fun z => by have := N2.2; rw [z, hl'] at this; cases this
    have hl2 := N2.1 _ _ hl'
    walk_at "rd"
    refine ⟨tyL hl2, _, hl2, by rw [List.length_map]; exact small12 (by (first | lia | omega)), same_upd (g1.trans N2.1) ln _, refs ++ [l2], by rw [upd_same, List.map_append]; rfl, ?_, fun r hr => ?_, ?_, ?_⟩
    · rw [tk, rowsP_snoc]
      refine (hA.same fun r hr o' e => ?_).snoc ?_
      · rw [upd_ne (hfr r hr).2]; exact N2.1 _ _ e
      · rw [upd_ne l2l]; exact N2.at_
    · rcases List.mem_append.mp hr with hr | hr
      · exact hfr r hr
      · cases List.mem_singleton.mp hr
        exact ⟨l2n, l2l⟩
    · refine List.nodup_append.mpr ⟨hnd, by simp, fun x hx y hy z => ?_⟩
      rw [List.mem_singleton] at hy
      obtain ⟨f, _, e⟩ := hA.mem hx
      have := N2.2
      rw [← hy, ← z, e] at this; cases this
    · rw [upd_ne l2l, tk, rowsP_snoc, getLastD_snoc]; exact N2.at_
  · obtain ⟨g1, p', refs, o, rfl, hl', hA, hfr, hnd, hp'⟩ := h
    rw [List.length_map, List.take_length] at hA
    walk_at "rd"
    exact q l H' refs g1 ln hl' hA hfr hnd
/-- a new list: the folding by half -/
def sp_by_half (K : PySem.W.Frag) : Sp := fun vs H Q E => ∃ (a : Addr) (rs : List Int), vs = [.ref a] ∧ SqL K H a (rs.map V.int) ∧ (¬ IsRule rs → Ref K H E "BadRule") ∧ (IsRule rs → ∀ (l : Addr) (H' : Hp), NewL H H' l ((byHalf rs).map V.int) → Q (.ref l) H')
theorem ok_by_half {f : Addr} {fd : FuncData} (F : Fun K "by_half" "by_half" s_by_half f fd) {f_check_rule : Addr} {d_check_rule : FuncData} (G_check_rule : FnOk P w K mg base (CXE P w) 1 f_check_rule d_check_rule ["rule"] (sp_check_rule K)) (m_check_rule : mg "check_rule" = some (.ref f_check_rule)) (k_check_rule : PySem.W.keepIn K (.ref f_check_rule) = true) (b_check_rule : Binds K d_check_rule ["rule"] []) :
    FnOk P w K mg base (CXE P w) 2 f fd ["rule"] (sp_by_half K) := by
  refine F.okX sc_by_half (fun vs H Q E h => ?_) (fun cdv A outer s H vs Q E hr h => ?_)
  · obtain ⟨a, rs, rfl, _⟩ := h
    rfl
  obtain ⟨a, rs, rfl, hS, x0, q0⟩ := h
  have ND := sc_by_half.nd
  refine ⟨_, (pss_cons (ps_expr (pe_call G_check_rule (hr.mono (by (first | lia | omega))) (by rfl) m_check_rule k_check_rule b_check_rule .nil (passE (fun _ _ _ z => z)) (pa_cons (pv 0) pa_nil)))
    (pss_cons (ps_set (i := 1) ND rfl (Or.inl rfl) (pe_ix (ix_listK K) (pv 0) pe_int (fun _ _ => rfl)))
    (pss_cons (ps_set (i := 2) ND rfl (Or.inl rfl) pe_int)
    (pss_cons (ps_set (i := 3) ND rfl (Or.inl rfl) (pe_lst pa_nil))
    (pss_cons (PS.nox (ps_for PassesOwn.never rfl (pi_listK K (pe_slice (sl_listK K) (pv 0) (po_some pe_int) po_none)) (pg_name (i := 4) ND rfl (Or.inl rfl)) (pss_cons (ps_set (i := 5) ND rfl (Or.inl rfl) (pe_ifExp (pt_cmpR op_le (pv 1) pe_int (nomark _)) pe_int (pe_un un_neg pe_int)))
    (pss_cons (ps_expr (pe_bmK K PySem.F.plainAttrs_list PySem.F.slot_list_append PySem.F.type_list_append mt_append (pv 3) (pa_cons (pe_ifExp (pt_cmpR op_eq (pv 5) (pv 2) (nomark _)) pe_int pe_int) pa_nil)))
    (pss_cons (ps_set (i := 2) ND rfl (Or.inl rfl) (pv 5))
    (pss_one (ps_set (i := 1) ND rfl (Or.inl rfl) (pe_op op_add (pv 1) (pe_op op_mul (pv 2) (pv 4))))))))))
    (pss_one (ps_ret (pv 3)))))))), ?_⟩
  walk_at "rd"
  refine ⟨a, rs, rfl, hS, fun hR => ?_, x0⟩
  have q := q0 hR
  obtain ⟨r0, ls, rfl⟩ : ∃ r0 ls, rs = r0 :: ls := by
    cases rs with
    | nil => have := hR.some; simp at this
    | cons r0 ls => exact ⟨r0, ls, rfl⟩
  have hfew := hR.few
  rw [List.length_cons] at hfew
  refine ⟨_, hS, _, atI_nat (j := 0) rfl, (by decide : 0 ≤ sizeLine), fun l hl => ?_⟩
  have s1 := same_new hl (.lst [])
  have l1 : upd H l (.lst []) l = some (.lst (([] : List Int).map V.int)) := upd_same
  generalize upd H l (.lst []) = H1 at *
  refine ⟨_, rfl, 1, rfl, a, _, rfl, s1.seq hS, fun l2 hl2 => ?_⟩
  have hcut : cutV ((r0 :: ls).map V.int) (some 1) none = ls.map V.int := (cut_from _ 1).trans rfl
  rw [hcut]
  have s2 := same_tup s1 hl2 (.lst (ls.map V.int))
  have ll : l ≠ l2 := ne_of_none l1 hl2
  refine ⟨l2, rfl, ⟨_, SqL.of upd_same⟩, for_list (xs := ls.map V.int) (fun i σ H' => Same H H' ∧ H' l2 = some (.lst (ls.map V.int)) ∧ ∃ (p w : Int) (acc : List Int) (o4 o5 : Option V), σ = [some (.ref a), some (.int p), some (.int w), some (.ref l), o4, o5] ∧ (w = 1 ∨ w = -1) ∧
      H' l = some (.lst (acc.map V.int)) ∧ acc.length = i ∧ byHalf (r0 :: ls) = acc ++ halfL p w (ls.drop i))
    ⟨s2, upd_same, r0, 1, [], _, _, rfl, .inl rfl, upd_keep l1 hl2, rfl, rfl⟩ (fun i σ H' _ h => SqL.of h.2.1) (fun i x σ H' hx h => ?_) (fun σ H' h => ?_)⟩
  · obtain ⟨g1, g2, p, w', acc, o4, o5, rfl, hw, hl', hal, hby⟩ := h
    obtain ⟨L, hL, rfl⟩ := ofGetI hx
    have li := (List.getElem?_eq_some_iff.mp hL).1
    rw [drop_cons hL, halfL] at hby
    have fin : ∀ (w2 t : Int), w2 = halfW p → t = (if halfW p = w' then 0 else 1) → (Same H (upd H' l (.lst (acc.map V.int ++ [.int t])))) ∧ upd H' l (.lst (acc.map V.int ++ [.int t])) l2 = some (.lst (ls.map V.int)) ∧ (w2 = 1 ∨ w2 = -1) ∧ ∃ acc' : List Int, upd H' l (.lst (acc.map V.int ++ [.int t])) l = some (.lst (acc'.map V.int)) ∧ acc'.length = i + 1 ∧ byHalf (r0 :: ls) = acc' ++ halfL (p + w2 * L) w2 (ls.drop (i + 1)) := by
      intro w2 t e1 e2
      subst e1 e2
      refine ⟨same_upd g1 hl _, by rw [upd_ne ll.symm]; exact g2, halfW_one p, acc ++ [if halfW p = w' then 0 else 1], by rw [upd_same, List.map_append]; rfl, by simp [hal], ?_⟩
      rw [hby]; simp
    have lsz : (acc.map V.int).length < sizeLine := by rw [List.length_map]; exact small12 (by (first | lia | omega))
    have hW : p ≤ 0 → halfW p = 1 := fun z => by unfold halfW; rw [if_pos z]
    have hW' : ¬ p ≤ 0 → halfW p = -1 := fun z => by unfold halfW; rw [if_neg z]
    obtain ⟨a1, a2, a3, acc', a4, a5, a6⟩ := fin (halfW p) _ rfl rfl
    refine seq_cutS (fun σ' H'' => H'' = H' ∧ σ' = [some (.ref a), some (.int p), some (.int w'), some (.ref l), some (.int L), some (.int (halfW p))]) (fun σ' H'' h => ?_) (fun B hB => ?_)
    rotate_left
    · have go := hB _ _ ⟨rfl, rfl⟩
      walk_at "rd"
      refine ite2 (fun hp => ?_) (fun hp => ?_)
      · rw [hW hp] at go; exact go
      · rw [hW' hp] at go; exact go
    obtain ⟨rfl, rfl⟩ := h
    refine seq_cut (fun H' => H' = upd H'' l (.lst (acc.map V.int ++ [.int (if halfW p = w' then 0 else 1)]))) (fun H' h => ?_) (fun B hB => ?_)
    rotate_left
    · have go := hB _ rfl
      walk_at "rd"
      refine ⟨tyL hl', ite2 (fun e => ⟨_, hl', lsz, ?_⟩) (fun e => ⟨_, hl', lsz, ?_⟩)⟩
      · rw [if_pos e] at go; exact go
      · rw [if_neg e] at go; exact go
    subst h
    walk_at "rd"
    exact ⟨.inl (by have := halfW_one p; (first | lia | omega)), a1, a2, a3, acc', a4, a5, a6⟩
  · obtain ⟨g1, g2, p, w', acc, o4, o5, rfl, hw, hl', hal, hby⟩ := h
    rw [List.length_map, List.drop_length, halfL, List.append_nil] at hby
    walk_at "rd"
    refine q l H' ⟨g1, hl, ?_⟩
    rw [hby]; exact hl'
end
end FR
namespace FR
open PySem L2
-- ALWAYS
def numS (n : Int) : Str := Str.ofString (toString n)
def sgnS (f : Int) : Str := if f = 0 then Str.ofString "+" else Str.ofString "-"
/-- the text of the pieces behind the first, put behind t -/
def tailS : List Int → List Int → Str → Str
  | f :: fs, L :: ls, t => tailS fs ls (t ++ sgnS f ++ numS L)
  | _, _, t => t
def shownS (rs fs : List Int) : Str := tailS fs rs.tail (numS (rs.headD 0))
theorem numS_len {n : Int} (h1 : 1 ≤ n) (h2 : n ≤ 60) : (numS n).length ≤ 2 := by
  obtain ⟨k, rfl⟩ : ∃ k : Nat, n = (k : Int) := ⟨n.toNat, by (first | lia | omega)⟩
  have key : ∀ k : Fin 61, (numS ((k : Nat) : Int)).length ≤ 2 := by decide +kernel
  exact key ⟨k, by (first | lia | omega)⟩
theorem sgnS_len (f : Int) : (sgnS f).length = 1 := by unfold sgnS; split <;> decide +kernel
theorem log2_small {n : Int} (h1 : 0 ≤ n) (h2 : n ≤ 60) : n.natAbs.log2 < 1920 := by
  obtain ⟨k, rfl⟩ : ∃ k : Nat, n = (k : Int) := ⟨n.toNat, by (first | lia | omega)⟩
  have key : ∀ k : Fin 61, (((k : Nat) : Int)).natAbs.log2 < 1920 := by decide +kernel
  exact key ⟨k, by (first | lia | omega)⟩
section
variable {P : Program} {w : World} {K : PySem.W.Frag} {mg : Str → Option Value} {base : Heap}
def sp_shown (K : PySem.W.Frag) : Sp := fun vs H Q E => ∃ (a b : Addr) (rs fs : List Int), vs = [.ref a, .ref b] ∧ SqL K H a (rs.map V.int) ∧ SqL K H b (fs.map V.int) ∧ (IsRule rs → IsFold rs fs → ∀ H' : Hp, Same H H' → Q (.str (shownS rs fs)) H') ∧ (¬ IsRule rs → Ref K H E "BadRule") ∧ (IsRule rs → ¬ IsFold rs fs → Ref K H E "BadFolding")
theorem ok_shown {f : Addr} {fd : FuncData} (F : Fun K "shown" "shown" s_shown f fd) {f_check_folding : Addr} {d_check_folding : FuncData} (G_check_folding : FnOk P w K mg base (CXE P w) 2 f_check_folding d_check_folding ["rule", "folding"] (sp_check_folding K)) (m_check_folding : mg "check_folding" = some (.ref f_check_folding)) (k_check_folding : PySem.W.keepIn K (.ref f_check_folding) = true) (b_check_folding : Binds K d_check_folding ["rule", "folding"] []) (z_zip : mg "zip" = none) (z_str : mg "str" = none) :
    FnOk P w K mg base (CXE P w) 3 f fd ["rule", "folding"] (sp_shown K) := by
  refine F.okX sc_shown (fun vs H Q E h => ?_) (fun cdv A outer s H vs Q E hr h => ?_)
  · obtain ⟨a, b, rs, fs, rfl, _⟩ := h
    rfl
  obtain ⟨a, b, rs, fs, rfl, hS, hT, q0, x0, x1⟩ := h
  have ND := sc_shown.nd
  refine ⟨_, (pss_cons (ps_expr (pe_call G_check_folding (hr.mono (by (first | lia | omega))) (by rfl) m_check_folding k_check_folding b_check_folding .nil (passE (fun _ _ _ z => z)) (pa_cons (pv 0) (pa_cons (pv 1) pa_nil))))
    (pss_cons (ps_set (i := 2) ND rfl (Or.inl rfl) (pe_callTy call_str_int (by rfl) z_str PyProof.Rows.Boot.«str» (pa_cons (pe_ix (ix_listK K) (pv 0) pe_int (fun _ _ => rfl)) pa_nil)))
    (pss_cons (PS.nox (ps_for PassesOwn.never rfl (pi_zipK K (by rfl) z_zip (pa_cons (pv 1) (pa_cons (pe_slice (sl_listK K) (pv 0) (po_some pe_int) po_none) pa_nil))) (pg_tupK K 2 rfl (pgs_cons (pg_name (i := 3) ND rfl (Or.inl rfl)) (pgs_cons (pg_name (i := 4) ND rfl (Or.inl rfl)) pgs_nil))) (pss_cons (ps_set (i := 5) ND rfl (Or.inl rfl) (pe_ifExp (pt_cmpR op_eq (pv 3) pe_int (nomark _)) pe_str pe_str))
    (pss_one (ps_set (i := 2) ND rfl (Or.inl rfl) (pe_op op_add_str (pe_op op_add_str (pv 2) (pv 5)) (pe_callTy call_str_int (by rfl) z_str PyProof.Rows.Boot.«str» (pa_cons (pv 4) pa_nil))))))))
    (pss_one (ps_ret (pv 2)))))), ?_⟩
  walk_at "rd"
  refine ⟨a, b, rs, fs, rfl, hS, hT, fun hR hF => ?_, x0, x1⟩
  have q := q0 hR hF
  obtain ⟨r0, ls, rfl⟩ : ∃ r0 ls, rs = r0 :: ls := by
    cases rs with
    | nil => have := hR.some; simp at this
    | cons r0 ls => exact ⟨r0, ls, rfl⟩
  have hfew := hR.few
  rw [List.length_cons] at hfew
  have hlen : fs.length = ls.length := by have := hF.len; simpa using this
  have b0 : 1 ≤ r0 ∧ r0 ≤ 60 := ⟨hR.lo _ List.mem_cons_self, hR.hi _ List.mem_cons_self⟩
  refine ⟨_, hS, _, atI_nat (j := 0) rfl, r0, rfl, log2_small (by (first | lia | omega)) (by (first | lia | omega)), ?_⟩
  refine ⟨_, rfl, _, rfl, 1, rfl, a, _, rfl, hS, fun l2 hl2 => ?_⟩
  have hcut : cutV ((r0 :: ls).map V.int) (some 1) none = ls.map V.int := (cut_from _ 1).trans rfl
  rw [hcut]
  have s2 := same_new hl2 (.lst (ls.map V.int))
  have e2 : upd H l2 (.lst (ls.map V.int)) l2 = some (.lst (ls.map V.int)) := upd_same
  generalize upd H l2 (.lst (ls.map V.int)) = H2 at *
  refine ⟨b, l2, rfl, ⟨_, s2.seq hT⟩, ⟨_, SqL.of e2⟩, for_zip (xs := fs.map V.int) (ys := ls.map V.int)
    (fun i σ H' => Same H2 H' ∧ ∃ (t : Str) (o3 o4 o5 : Option V), σ = [some (.ref a), some (.ref b), some (.str t), o3, o4, o5] ∧ t.length ≤ 2 + 3 * i ∧ shownS (r0 :: ls) fs = tailS (fs.drop i) (ls.drop i) t)
    ⟨Same.refl _, numS r0, _, _, _, rfl, by have := numS_len b0.1 b0.2; (first | lia | omega), rfl⟩ (fun i σ H' _ h => ⟨(s2.trans h.1).seq hT, SqL.of (h.1 _ _ e2)⟩) (fun i x y t σ H' hx hy ht h => ?_) (fun σ H' h => ?_)⟩
  · obtain ⟨g1, t0, o3, o4, o5, rfl, hl, hsh⟩ := h
    obtain ⟨f, hf, rfl⟩ := ofGetI hx
    obtain ⟨L, hL, rfl⟩ := ofGetI hy
    have li := (List.getElem?_eq_some_iff.mp hL).1
    have hm : L ∈ r0 :: ls := List.mem_cons_of_mem _ (List.mem_of_getElem? hL)
    have l1 := hR.lo L hm
    have l2' := hR.hi L hm
    have nl := numS_len l1 l2'
    have sl := sgnS_len f
    rw [drop_cons hf, drop_cons hL, tailS] at hsh
    have g2 := same_tup g1 ht (.tup [.int f, .int L])
    have len2 : (t0 ++ sgnS f).length ≤ 3 + 3 * i := by rw [strLen_append]; (first | lia | omega)
    have len3 : (t0 ++ sgnS f ++ numS L).length ≤ 2 + 3 * (i + 1) := by rw [strLen_append]; (first | lia | omega)
    have big : 100 ≤ sizeLine := by rw [sizeLine_eq]; decide
    walk_at "rd"
    refine ⟨[.int f, .int L], SqT.of upd_same, rfl, _, _, rfl, _, _, rfl, rfl, ?_⟩
    walk_at "rd"
    refine ite2 (fun e => ?_) (fun e => ?_)
    · have es : sgnS f = Str.ofString "+" := by unfold sgnS; rw [if_pos e]
      rw [es] at hsh len2 len3 sl
      exact ⟨by (first | lia | omega), log2_small (by (first | lia | omega)) l2', by show (t0 ++ Str.ofString "+").length + (numS L).length ≤ sizeLine; (first | lia | omega), g2, len3, hsh⟩
    · have es : sgnS f = Str.ofString "-" := by unfold sgnS; rw [if_neg e]
      rw [es] at hsh len2 len3 sl
      exact ⟨by (first | lia | omega), log2_small (by (first | lia | omega)) l2', by show (t0 ++ Str.ofString "-").length + (numS L).length ≤ sizeLine; (first | lia | omega), g2, len3, hsh⟩
  · obtain ⟨g1, t0, o3, o4, o5, rfl, hl, hsh⟩ := h
    have z : tailS (fs.drop (min (fs.map V.int).length (ls.map V.int).length)) (ls.drop (min (fs.map V.int).length (ls.map V.int).length)) t0 = t0 := by
      rw [List.length_map, List.length_map, hlen, Nat.min_self, List.drop_length]
      cases fs.drop ls.length <;> rfl
    rw [z] at hsh
    walk_at "rd"
    rw [← hsh]
    exact q H' (s2.trans g1)
end
end FR
namespace FR
open PySem L2
theorem cut_to (xs : List V) (k : Nat) : cutV xs none (some (k : Int)) = xs.take k := by
  unfold cutV
  rw [HT.sIx_nat, HT.sIx_none]
  by_cases h : k ≤ xs.length
  · rw [Nat.min_eq_left h]; rfl
  · rw [Nat.min_eq_right (by (first | lia | omega)), Nat.sub_zero, List.drop_zero, List.take_length, List.take_of_length_le (by (first | lia | omega))]
section
variable {P : Program} {w : World} {K : PySem.W.Frag} {mg : Str → Option Value} {base : Heap}
/-- a new list that is no rule -/
def sp_law_bad_rule (K : PySem.W.Frag) : Sp := fun vs H Q _ => ∃ (a : Addr) (k c : Int) (rs : List Int), vs = [.ref a, .int k, .int c] ∧ H a = some (.lst (rs.map V.int)) ∧ IsRule rs ∧ 0 ≤ k ∧ k ≤ 4 ∧ 0 ≤ c ∧
  ∀ (l : Addr) (H' : Hp) (bs : List Int), NewL H H' l (bs.map V.int) → ¬ IsRule bs → bs.length ≤ 40 → Q (.ref l) H'
theorem ok_law_bad_rule {f : Addr} {fd : FuncData} (F : Fun K "_law_bad_rule" "_law_bad_rule" s_law_bad_rule f fd) (z_len : mg "len" = none) (z_range : mg "range" = none) :
    FnOk P w K mg base (CXE P w) 1 f fd ["rule", "fault", "cell"] (sp_law_bad_rule K) := by
  refine F.okN sc_law_bad_rule (fun vs H Q E h => ?_) (fun cdv A outer s H vs Q E hr h => ?_)
  · obtain ⟨a, k, c, rs, rfl, _⟩ := h
    rfl
  obtain ⟨a, k, c, rs, rfl, hS, hR, k0, k1, c0, q⟩ := h
  have ND := sc_law_bad_rule.nd
  refine ⟨_, (pss_cons (ps_if (pt_cmpR op_eq (pv 1) pe_int (nomark _)) (pss_one (ps_ret (pe_lst pa_nil))) pss_nil)
    (pss_cons (ps_if (pt_cmpR op_eq (pv 1) pe_int (nomark _)) (pss_one (ps_ret (pe_op op_cat (pv 0) (pe_comp (caps := []) (comp_scope (by rfl) (by rfl) (by decide) (by rfl)) rfl (pi_range1 (by rfl) z_range (pa_cons (pe_op op_add (pe_op op_sub pe_int (pe_callB (call_lenK K) (by rfl) z_len PySem.boot_len (pa_cons (pv 0) pa_nil))) (pe_op op_mod (pv 2) pe_int)) pa_nil)) (fun _ _ _ _ => pts_nil) (fun _ _ _ _ => pe_int))))) pss_nil)
    (pss_cons (ps_set (i := 3) ND rfl (Or.inl rfl) (pe_ix (ix_listK K) (pe_lst (pa_cons pe_int (pa_cons (pe_op op_add pe_int (pe_op op_mod (pe_op op_fdiv (pv 2) pe_int) pe_int)) (pa_cons (pe_op op_sub (pe_un un_neg pe_int) (pe_op op_mod (pe_op op_fdiv (pv 2) pe_int) pe_int)) pa_nil)))) (pe_op op_sub (pv 1) pe_int) (fun _ _ => rfl)))
    (pss_cons (ps_set (i := 4) ND rfl (Or.inl rfl) (pe_op op_mod (pv 2) (pe_callB (call_lenK K) (by rfl) z_len PySem.boot_len (pa_cons (pv 0) pa_nil))))
    (pss_one (ps_ret (pe_op op_cat (pe_op op_cat (pe_slice (sl_listK K) (pv 0) po_none (po_some (pv 4))) (pe_lst (pa_cons (pv 3) pa_nil))) (pe_slice (sl_listK K) (pv 0) (po_some (pe_op op_add (pv 4) pe_int)) po_none)))))))), ?_⟩
  have h1 := hR.some
  have h2 := hR.few
  refine seq_hide fun B1 e1' => ?_
  walk_at "rd"
  refine ite2 (fun e0 => ⟨(by decide : 0 ≤ sizeLine), fun l hl => q l _ [] ⟨same_new hl _, hl, upd_same⟩ (fun z => by have := z.some; simp at this) (by simp)⟩) (fun e0 => ?_)
  subst e1'
  refine seq_hide fun B1 e1' => ?_
  walk_at "rd"
  refine ite2 (fun e1 => ?_) (fun e1 => ?_)
  · simp only [tComp, iRng1, tSeq, tIfS, tOr, tAnd, tNot, tTest, tB, tOp, tUn, tCB, tCons, tNil, tVar, tC, rI0, rI, rU, tNever, tNext, tDrop, tRet, tRetN, tAsg, gName, gTup, gCons, gNil, tCall, tBM, tBM0, rAppend, rClear, rPop, tLst, tTup, rIxL, rIxT, rEq, rNe, rCat, tAndV, tOrV, tNotV, tIf, tBreak, tCont, rIsi, CMul, CDiv, cxK, blkK, capSt, L2.start, List.map_cons, List.map_nil, List.length_cons, List.length_nil, List.replicate_zero, List.replicate_succ, List.nil_append, List.cons_append, List.append_nil, Nat.add_sub_cancel, Nat.reduceAdd, Nat.reduceSub, Nat.sub_self, Nat.zero_add, List.set_cons_zero, List.set_cons_succ, List.getElem?_cons_zero, List.getElem?_cons_succ, Option.join_some, Option.some.injEq, exists_eq_left', exists_eq_left, exists_and_left, exists_eq, exists_eq', List.cons.injEq, V.ref.injEq, V.int.injEq, V.bl.injEq, V.str.injEq, and_true, true_and, if_true, if_false, decide_eq_true_eq, Bool.not_eq_true', Bool.false_eq_true, reduceCtorEq, scalII, scalNI, scalIN, scalBB, scalSS, scalNN, decide_eq_false_iff_not, V.ty.injEq, and_assoc, tTruth, truBl, rLenL, rLenT, rListOf, rMaxL, rMinL, rSortedL, rEqI, rNeI, rEqII, rNeII, tDisp1, tDGet, tDGet2, tDNotIn, tDIn, sDPut, tDNewT, tMinS, rSumT, rSumV, rSumL, rItems, rValues, tSl, tPart, tNoPart, rSlL, tListRev, tChain, rIsiE, rCount, rIndex, tRaise, vC, tListRng, rSetOf, rSortedS]
    refine ⟨_, SqL.of hS, by decide, by rw [List.length_map]; (first | lia | omega), by rw [List.length_map]; (first | lia | omega), ?_⟩
    rw [List.length_map]
    refine comp_range (fun D i H' => SameB D H H' ∧ H' D = some (.lst ((List.replicate i (1 : Int)).map V.int))) (fun D hD => ⟨(SameB.refl _ _).upd _, upd_same⟩) (fun D i H' hD hi h => ?_) (fun D H2 hD h => ?_)
    · obtain ⟨g1, g2⟩ := h
      walk_at "rdT"
      refine ⟨_, g2, by rw [List.length_map, List.length_replicate]; exact small12 (by (first | lia | omega)), wn_next hi ⟨g1.upd _, ?_⟩⟩
      rw [upd_same, List.replicate_succ']; simp
    · obtain ⟨g1, g2⟩ := h
      have s2 := g1.same hD
      refine ⟨D, rfl, _, s2 _ _ hS, _, g2, ?_, fun p hp => ?_⟩
      · rw [List.length_map, List.length_map, List.length_replicate, sizeLine_eq]; (first | lia | omega)
      · rw [← List.map_append]
        refine q p _ _ ⟨same_tup s2 hp _, s2.free hp, upd_same⟩ (fun z => ?_) ?_
        · have := z.few
          rw [List.length_append, List.length_replicate] at this; (first | lia | omega)
        · rw [List.length_append, List.length_replicate]; (first | lia | omega)
  · subst e1'
    refine seq_hide fun B1 e1' => ?_
    walk_at "rd"
    refine ⟨by decide, by decide, by decide, by decide, by decide, by decide, (by decide : 3 ≤ sizeLine), fun p hp => ?_⟩
    obtain ⟨b, hb, hbad⟩ : ∃ b : Int, atI ([.int 0, .int (61 + c / 7 % 9), .int (-1 - c / 7 % 9)] : List V) (k - 2) = some (.int b) ∧ (b < 1 ∨ 60 < b) := by
      have m0 : 0 ≤ c / 7 % 9 := Int.emod_nonneg _ (by decide)
      have hk : k = 2 ∨ k = 3 ∨ k = 4 := by (first | lia | omega)
      rcases hk with rfl | rfl | rfl
      · exact ⟨0, rfl, by (first | lia | omega)⟩
      · exact ⟨61 + c / 7 % 9, rfl, by (first | lia | omega)⟩
      · exact ⟨-1 - c / 7 % 9, rfl, by (first | lia | omega)⟩
    have s1 := same_new hp (.lst [.int 0, .int (61 + c / 7 % 9), .int (-1 - c / 7 % 9)])
    have p1 : upd H p (.lst [.int 0, .int (61 + c / 7 % 9), .int (-1 - c / 7 % 9)]) p = some (.lst [.int 0, .int (61 + c / 7 % 9), .int (-1 - c / 7 % 9)]) := upd_same
    generalize upd H p (.lst [.int 0, .int (61 + c / 7 % 9), .int (-1 - c / 7 % 9)]) = H1 at *
    have r1 := s1 _ _ hS
    refine ⟨_, SqL.of p1, _, hb, ?_⟩
    subst e1'
    refine seq_hide fun B1 e1' => ?_
    walk_at "rd"
    refine ⟨_, SqL.of r1, by rw [List.length_map]; (first | lia | omega), ?_⟩
    subst e1'
    walk_at "rd"
    refine ⟨_, SqL.of r1, ?_⟩
    obtain ⟨j, hj, hjl⟩ : ∃ j : Nat, c % ((rs.map V.int).length : Int) = (j : Int) ∧ j < rs.length := by
      rw [List.length_map]
      have m0 := Int.emod_nonneg c (b := (rs.length : Int)) (by (first | lia | omega))
      have m1 := Int.emod_lt_of_pos c (b := (rs.length : Int)) (by (first | lia | omega))
      exact ⟨(c % (rs.length : Int)).toNat, by (first | lia | omega), by (first | lia | omega)⟩
    rw [hj, cut_to]
    refine fun q1 hq1 => ⟨(by decide : 1 ≤ sizeLine), fun q2 hq2 => ?_⟩
    have s2 := same_tup (same_tup s1 hq1 (.lst ((rs.map V.int).take j))) hq2 (.lst [.int b])
    have a2 : upd (upd H1 q1 (.lst ((rs.map V.int).take j))) q2 (.lst [.int b]) q1 = some (.lst ((rs.map V.int).take j)) := upd_keep upd_same hq2
    have b2 : upd (upd H1 q1 (.lst ((rs.map V.int).take j))) q2 (.lst [.int b]) q2 = some (.lst [.int b]) := upd_same
    generalize upd (upd H1 q1 (.lst ((rs.map V.int).take j))) q2 (.lst [.int b]) = H2 at *
    refine ⟨_, a2, _, b2, ?_, fun q3 hq3 => ?_⟩
    · rw [List.length_take, List.length_map, sizeLine_eq]; simp only [List.length_cons, List.length_nil]; (first | lia | omega)
    have s3 := same_tup s2 hq3 (.lst ((rs.map V.int).take j ++ [.int b]))
    have a3 : upd H2 q3 (.lst ((rs.map V.int).take j ++ [.int b])) q3 = some (.lst ((rs.map V.int).take j ++ [.int b])) := upd_same
    generalize upd H2 q3 (.lst ((rs.map V.int).take j ++ [.int b])) = H3 at *
    have hj1 : ((j : Int) + 1) = ((j + 1 : Nat) : Int) := by (first | lia | omega)
    refine ⟨_, SqL.of (s3 _ _ hS), ?_⟩
    rw [hj1, cut_from]
    refine fun q4 hq4 => ⟨_, upd_keep a3 hq4, _, upd_same, ?_, fun q5 hq5 => ?_⟩
    · rw [List.length_append, List.length_take, List.length_drop, List.length_map, sizeLine_eq]; simp only [List.length_cons, List.length_nil]; (first | lia | omega)
    have e : (rs.map V.int).take j ++ [.int b] ++ (rs.map V.int).drop (j + 1) = (rs.take j ++ b :: rs.drop (j + 1)).map V.int := by
      rw [List.map_append, List.map_cons, List.map_take, List.map_drop, List.append_assoc]; rfl
    rw [e]
    refine q q5 _ _ ⟨same_tup (same_tup s3 hq4 _) hq5 _, (same_tup s3 hq4 _).free hq5, upd_same⟩ (fun z => ?_) ?_
    · have hm : b ∈ rs.take j ++ b :: rs.drop (j + 1) := List.mem_append_right _ List.mem_cons_self
      have := z.lo b hm
      have := z.hi b hm
      (first | lia | omega)
    · rw [List.length_append, List.length_cons, List.length_take, List.length_drop]; (first | lia | omega)
def sp_law_bad_folding (K : PySem.W.Frag) : Sp := fun vs H Q _ => ∃ (a : Addr) (k c : Int) (fs : List Int), vs = [.ref a, .int k, .int c] ∧ H a = some (.lst (fs.map V.int)) ∧ fs.length ≤ 11 ∧ 0 ≤ k ∧ k ≤ 2 ∧ 0 ≤ c ∧
  ∀ (l : Addr) (H' : Hp) (bs : List Int), NewL H H' l (bs.map V.int) → (∀ rs : List Int, rs.length = fs.length + 1 → ¬ IsFold rs bs) → bs.length ≤ 40 → Q (.ref l) H'
theorem ok_law_bad_folding {f : Addr} {fd : FuncData} (F : Fun K "_law_bad_folding" "_law_bad_folding" s_law_bad_folding f fd) (z_len : mg "len" = none) (z_list : mg "list" = none) :
    FnOk P w K mg base (CXE P w) 1 f fd ["folding", "fault", "cell"] (sp_law_bad_folding K) := by
  refine F.okN sc_law_bad_folding (fun vs H Q E h => ?_) (fun cdv A outer s H vs Q E hr h => ?_)
  · obtain ⟨a, k, c, fs, rfl, _⟩ := h
    rfl
  obtain ⟨a, k, c, fs, rfl, hS, hl, k0, k1, c0, q⟩ := h
  have ND := sc_law_bad_folding.nd
  have hu64 := hu64_of hr
  refine ⟨_, (pss_cons (ps_if (pt_cmpR op_eq (pv 1) pe_int (nomark _)) (pss_one (ps_ret (pe_op op_cat (pv 0) (pe_lst (pa_cons (pe_op op_mod (pv 2) pe_int) pa_nil))))) pss_nil)
    (pss_cons (ps_if (pw_and (pt_cmpR op_eq (pv 1) pe_int (nomark _)) (pw_and1 (pt_cmpR (op_neIK K hu64) (pv 0) (pe_lst pa_nil) (nomark _)))).pt (pss_one (ps_ret (pe_slice (sl_listK K) (pv 0) (po_some pe_int) po_none))) pss_nil)
    (pss_cons (ps_if (pt_cmpR (op_eqIK K hu64) (pv 0) (pe_lst pa_nil) (nomark _)) (pss_one (ps_ret (pe_lst (pa_cons (pe_op op_mod (pv 2) pe_int) pa_nil)))) pss_nil)
    (pss_cons (ps_set (i := 3) ND rfl (Or.inl rfl) (pe_callTy (call_listK K) (by rfl) z_list PyProof.Rows.Boot.«list» (pa_cons (pv 0) pa_nil)))
    (pss_cons (ps_asg (pe_ix (ix_listK K) (pe_lst (pa_cons (pe_op op_add pe_int (pe_op op_mod (pe_op op_fdiv (pv 2) pe_int) pe_int)) (pa_cons (pe_op op_sub (pe_un un_neg pe_int) (pe_op op_mod (pe_op op_fdiv (pv 2) pe_int) pe_int)) pa_nil))) (pe_op op_mod (pe_op op_fdiv (pv 2) pe_int) pe_int) (fun _ _ => rfl)) (pg_sub (pv 3) (pe_op op_mod (pv 2) (pe_callB (call_lenK K) (by rfl) z_len PySem.boot_len (pa_cons (pv 0) pa_nil))) set_list))
    (pss_one (ps_ret (pv 3)))))))), ?_⟩
  have one : ∀ H0, Same H H0 → fs = [] → ∀ p, H0 p = none → Q (.ref p) (upd H0 p (.lst [.int (c % 2)])) := fun H0 g e p hp => by
    refine q p _ [c % 2] ⟨same_tup g hp _, g.free hp, upd_same⟩ (fun rs hrs z => ?_) (by simp)
    have := z.len
    rw [e] at hrs
    simp at this hrs; (first | lia | omega)
  have tail : ∀ (H0 : Hp), Same H H0 → fs ≠ [] → ∀ l, H0 l = none → ∀ p, upd H0 l (.lst (fs.map V.int)) p = none → ∃ x, atI ([.int (2 + c / 9 % 9), .int (-1 - c / 9 % 9)] : List V) (c / 99 % 2) = some x ∧
      gSub (tVar 3) (tOp (rI (fun _ j => 0 < j) fun i j => V.int (i % j)) (tVar 2) (tCB (rLenL K) (tCons (tVar 0) tNil))) rSetL x [some (V.ref a), some (V.int k), some (V.int c), some (V.ref l)]
        (upd (upd H0 l (.lst (fs.map V.int))) p (.lst [V.int (2 + c / 9 % 9), V.int (-1 - c / 9 % 9)])) (tRet (tVar 3) { nx := fun _ H' => Q V.non H', rt := Q }) := fun H0 g hne l hl' p hp => by
    have m0 : 0 ≤ c / 9 % 9 := Int.emod_nonneg _ (by decide)
    obtain ⟨b, hb, hbad⟩ : ∃ b : Int, atI ([.int (2 + c / 9 % 9), .int (-1 - c / 9 % 9)] : List V) (c / 99 % 2) = some (.int b) ∧ (b < 0 ∨ 1 < b) := by
      have hk : c / 99 % 2 = 0 ∨ c / 99 % 2 = 1 := by (first | lia | omega)
      rcases hk with e | e <;> rw [e]
      · exact ⟨_, rfl, by (first | lia | omega)⟩
      · exact ⟨_, rfl, by (first | lia | omega)⟩
    refine ⟨_, hb, ?_⟩
    have hpos : 0 < fs.length := by cases fs with
      | nil => exact absurd rfl hne
      | cons => simp
    have g2 := same_tup (same_tup g hl' (.lst (fs.map V.int))) hp (.lst [V.int (2 + c / 9 % 9), V.int (-1 - c / 9 % 9)])
    have l2 : upd (upd H0 l (.lst (fs.map V.int))) p (.lst [V.int (2 + c / 9 % 9), V.int (-1 - c / 9 % 9)]) l = some (.lst (fs.map V.int)) := upd_keep upd_same hp
    generalize upd (upd H0 l (.lst (fs.map V.int))) p (.lst [V.int (2 + c / 9 % 9), V.int (-1 - c / 9 % 9)]) = H2 at *
    simp only [gSub, rSetL, tSeq, tIfS, tOr, tAnd, tNot, tTest, tB, tOp, tUn, tCB, tCons, tNil, tVar, tC, rI0, rI, rU, tNever, tNext, tDrop, tRet, tRetN, tAsg, gName, gTup, gCons, gNil, tCall, tBM, tBM0, rAppend, rClear, rPop, tLst, tTup, rIxL, rIxT, rEq, rNe, rCat, tAndV, tOrV, tNotV, tIf, tBreak, tCont, rIsi, CMul, CDiv, cxK, blkK, capSt, L2.start, List.map_cons, List.map_nil, List.length_cons, List.length_nil, List.replicate_zero, List.replicate_succ, List.nil_append, List.cons_append, List.append_nil, Nat.add_sub_cancel, Nat.reduceAdd, Nat.reduceSub, Nat.sub_self, Nat.zero_add, List.set_cons_zero, List.set_cons_succ, List.getElem?_cons_zero, List.getElem?_cons_succ, Option.join_some, Option.some.injEq, exists_eq_left', exists_eq_left, exists_and_left, exists_eq, exists_eq', List.cons.injEq, V.ref.injEq, V.int.injEq, V.bl.injEq, V.str.injEq, and_true, true_and, if_true, if_false, decide_eq_true_eq, Bool.not_eq_true', Bool.false_eq_true, reduceCtorEq, scalII, scalNI, scalIN, scalBB, scalSS, scalNN, decide_eq_false_iff_not, V.ty.injEq, and_assoc, tTruth, truBl, rLenL, rLenT, rListOf, rMaxL, rMinL, rSortedL, rEqI, rNeI, rEqII, rNeII, tDisp1, tDGet, tDGet2, tDNotIn, tDIn, sDPut, tDNewT, tMinS, rSumT, rSumV, rSumL, rItems, rValues, tSl, tPart, tNoPart, rSlL, tListRev, tChain, rIsiE, rCount, rIndex, tRaise, vC, tListRng, rSetOf, rSortedS]
    have m1 := Int.emod_nonneg c (b := (fs.length : Int)) (by (first | lia | omega))
    have m2 := Int.emod_lt_of_pos c (b := (fs.length : Int)) (by (first | lia | omega))
    have hj : (c % (fs.length : Int)).toNat < fs.length := by (first | lia | omega)
    refine ⟨_, SqL.of (g2 _ _ hS), by rw [List.length_map]; (first | lia | omega), _, l2, (c % (fs.length : Int)).toNat, ?_, ?_⟩
    · unfold ixN
      rw [List.length_map, if_pos m1, if_pos m2]
    · rw [← List.map_set]
      refine q l _ _ ⟨same_upd g2 (g.free hl') _, g.free hl', upd_same⟩ (fun rs hrs z => ?_) (by rw [List.length_set]; (first | lia | omega))
      have := z.two b (List.mem_iff_getElem?.mpr ⟨_, List.getElem?_set_self hj⟩)
      (first | lia | omega)
  refine seq_hide fun B1 e1 => ?_
  walk_at "rd"
  refine ite2 (fun e0 => ⟨by decide, (by decide : 1 ≤ sizeLine), fun p hp => ⟨_, upd_keep hS hp, _, upd_same, ?_, fun p1 hp1 => ?_⟩⟩) (fun e0 => ?_)
  · rw [List.length_map, sizeLine_eq]; simp only [List.length_cons, List.length_nil]; (first | lia | omega)
  · have e : fs.map V.int ++ [.int (c % 2)] = (fs ++ [c % 2]).map V.int := by rw [List.map_append]; rfl
    rw [e]
    refine q p1 _ _ ⟨same_tup (same_new hp _) hp1 _, (same_new hp _).free hp1, upd_same⟩ (fun rs hrs z => ?_) (by simp; (first | lia | omega))
    have := z.len
    simp at this; (first | lia | omega)
  subst e1
  refine seq_cut (fun H' => Same H H') (fun H1 g1 => ?_) (fun B hB => ?_)
  rotate_left
  · walk_at "rd"
    refine ite2 (fun e1 => ⟨(by decide : 0 ≤ sizeLine), fun p hp => ⟨fs, SqL.of (upd_keep hS hp), [], SqL.of upd_same, ite2 (fun ne => ⟨_, SqL.of (upd_keep hS hp), fun p1 hp1 => ?_⟩) (fun e => hB _ (same_new hp _))⟩⟩) (fun e1 => hB _ (Same.refl H))
    have e : cutV (fs.map V.int) (some 1) none = (fs.drop 1).map V.int := (cut_from _ 1).trans (by rw [List.map_drop])
    rw [e]
    refine q p1 _ _ ⟨same_tup (same_new hp _) hp1 _, (same_new hp _).free hp1, upd_same⟩ (fun rs hrs z => ?_) (by rw [List.length_drop]; (first | lia | omega))
    have := z.len
    have hpos : 0 < fs.length := by cases fs with
      | nil => exact absurd rfl ne
      | cons => simp
    rw [List.length_drop] at this; (first | lia | omega)
  have hS1 := g1 _ _ hS
  refine seq_hide fun B1 e1 => ?_
  walk_at "rd"
  refine ⟨(by decide : 0 ≤ sizeLine), fun p hp => ⟨fs, SqL.of (upd_keep hS1 hp), [], SqL.of upd_same, ite2 (fun e' => ⟨by decide, (by decide : 1 ≤ sizeLine), fun p2 hp2 => one _ (same_tup g1 hp _) e' p2 hp2⟩) (fun ne => ?_)⟩⟩
  subst e1
  walk_at "rd"
  exact ⟨_, SqL.of (upd_keep hS1 hp), fun l hl => ⟨by decide, by decide, by decide, by decide, by decide, by decide, (by decide : 2 ≤ sizeLine), fun p1 hp1 => ⟨by decide, by decide, by decide, _, SqL.of upd_same, tail _ (same_tup g1 hp _) ne l hl p1 hp1⟩⟩⟩
end
end FR
namespace FR
open PySem L2
section
variable {P : Program} {w : World} {K : PySem.W.Frag} {mg : Str → Option Value} {base : Heap}
-- ALWAYS
def NumOk (n : Int) (rs : List Int) : Prop := ∃ r0 ls, rs = r0 :: ls ∧ 0 ≤ n ∧ n < cnt 800 (r0, 0) ls
theorem NumOk.at {n r0 : Int} {ls : List Int} (h : NumOk n (r0 :: ls)) : 0 ≤ n ∧ n < cnt 800 (r0, 0) ls := by
  obtain ⟨a, b, e, h⟩ := h
  cases e; exact h
def sp_law_whole_call (K : PySem.W.Frag) : Sp := fun vs H Q E => ∃ (k n : Int) (a : Addr) (rs : List Int), vs = [.int k, .ref a, .int n] ∧ H a = some (.lst (rs.map V.int)) ∧ 0 ≤ k ∧ k ≤ 9 ∧
  ((k ≤ 4 → IsRule rs) → (k = 4 → NumOk n rs) → ∀ H' : Hp, Same H H' → Q .non H') ∧ (k ≤ 4 → ¬ IsRule rs → Ref K H E "BadRule") ∧ (k = 4 → IsRule rs → ¬ NumOk n rs → Ref K H E "NoSuch")
theorem ok_law_whole_call {f : Addr} {fd : FuncData} (F : Fun K "_law_whole_call" "_law_whole_call" s_law_whole_call f fd) {f_folding_at : Addr} {d_folding_at : FuncData} (G_folding_at : FnOk P w K mg base (CXE P w) 5 f_folding_at d_folding_at ["rule", "case", "number"] (sp_folding_at K)) (m_folding_at : mg "folding_at" = some (.ref f_folding_at)) (k_folding_at : PySem.W.keepIn K (.ref f_folding_at) = true) (b_folding_at : Binds K d_folding_at ["rule", "case", "number"] []) {f_many_fits : Addr} {d_many_fits : FuncData} (G_many_fits : FnOk P w K mg base (CXE P w) 4 f_many_fits d_many_fits ["rule", "case"] (sp_many_fits K)) (m_many_fits : mg "many_fits" = some (.ref f_many_fits)) (k_many_fits : PySem.W.keepIn K (.ref f_many_fits) = true) (b_many_fits : Binds K d_many_fits ["rule", "case"] []) {f_by_half : Addr} {d_by_half : FuncData} (G_by_half : FnOk P w K mg base (CXE P w) 2 f_by_half d_by_half ["rule"] (sp_by_half K)) (m_by_half : mg "by_half" = some (.ref f_by_half)) (k_by_half : PySem.W.keepIn K (.ref f_by_half) = true) (b_by_half : Binds K d_by_half ["rule"] []) {f_shortest_case : Addr} {d_shortest_case : FuncData} (G_shortest_case : FnOk P w K mg base (CXE P w) 3 f_shortest_case d_shortest_case ["rule"] (sp_shortest_case K)) (m_shortest_case : mg "shortest_case" = some (.ref f_shortest_case)) (k_shortest_case : PySem.W.keepIn K (.ref f_shortest_case) = true) (b_shortest_case : Binds K d_shortest_case ["rule"] []) {f_reachable : Addr} {d_reachable : FuncData} (G_reachable : FnOk P w K mg base (CXE P w) 2 f_reachable d_reachable ["rule", "case"] (sp_reachable K)) (m_reachable : mg "reachable" = some (.ref f_reachable)) (k_reachable : PySem.W.keepIn K (.ref f_reachable) = true) (b_reachable : Binds K d_reachable ["rule", "case"] []) :
    FnOk P w K mg base (CXE P w) 6 f fd ["call", "rule", "number"] (sp_law_whole_call K) := by
  refine F.okX sc_law_whole_call (fun vs H Q E h => ?_) (fun cdv A outer s H vs Q E hr h => ?_)
  · obtain ⟨k, n, a, rs, rfl, _⟩ := h
    rfl
  obtain ⟨k, n, a, rs, rfl, hS, k0, k1, q, x0, x2⟩ := h
  have ND := sc_law_whole_call.nd
  refine ⟨_, (pss_cons (ps_if (pt_cmpR op_eq (pv 0) pe_int (nomark _)) (pss_one (ps_expr (pe_call G_reachable (hr.mono (by (first | lia | omega))) (by rfl) m_reachable k_reachable b_reachable .nil (passE (fun _ _ _ z => z)) (pa_cons (pv 1) (pa_cons pe_int pa_nil))))) pss_nil)
    (pss_cons (ps_if (pt_cmpR op_eq (pv 0) pe_int (nomark _)) (pss_one (ps_expr (pe_call G_shortest_case (hr.mono (by (first | lia | omega))) (by rfl) m_shortest_case k_shortest_case b_shortest_case .nil (passE (fun _ _ _ z => z)) (pa_cons (pv 1) pa_nil)))) pss_nil)
    (pss_cons (ps_if (pt_cmpR op_eq (pv 0) pe_int (nomark _)) (pss_one (ps_expr (pe_call G_by_half (hr.mono (by (first | lia | omega))) (by rfl) m_by_half k_by_half b_by_half .nil (passE (fun _ _ _ z => z)) (pa_cons (pv 1) pa_nil)))) pss_nil)
    (pss_cons (ps_if (pt_cmpR op_eq (pv 0) pe_int (nomark _)) (pss_one (ps_expr (pe_call G_many_fits (hr.mono (by (first | lia | omega))) (by rfl) m_many_fits k_many_fits b_many_fits .nil (passE (fun _ _ _ z => z)) (pa_cons (pv 1) (pa_cons pe_int pa_nil))))) pss_nil)
    (pss_one (ps_if (pt_cmpR op_eq (pv 0) pe_int (nomark _)) (pss_one (ps_expr (pe_call G_folding_at (hr.mono (by (first | lia | omega))) (by rfl) m_folding_at k_folding_at b_folding_at .nil (passE (fun _ _ _ z => z)) (pa_cons (pv 1) (pa_cons pe_int (pa_cons (pv 2) pa_nil)))))) pss_nil)))))), ?_⟩
  have main : ∀ H' : Hp, Same H H' → (∀ c, (k ≤ 4 → ¬ IsRule rs → Ref K H E c) → k ≤ 4 → ¬ IsRule rs → Ref K H' E c) := fun H' g c x h4 hn H2 g2 => x h4 hn H2 (g.trans g2)
  have start : Same H H ∧ (k < 0 → IsRule rs) := ⟨Same.refl H, fun z => absurd z (by (first | lia | omega))⟩
  have g : Same H H := Same.refl H
  have hk : k < 0 → IsRule rs := fun z => absurd z (by (first | lia | omega))
  have hA := g _ _ hS
  have xx : k ≤ 4 → ¬ IsRule rs → Ref K H E "BadRule" := main _ g _ x0
  refine seq_cut (fun H' => Same H H' ∧ (k < 1 → IsRule rs)) (fun H1 h => ?_) (fun B hB => ?_)
  rotate_left
  · walk_at "rd"
    exact ite2 (fun e => ⟨a, 9, rs, rfl, SqL.of hA, by decide, by decide, by decide, xx (by (first | lia | omega)), fun hR l H2 refs g2 _ _ _ _ _ => hB H2 ⟨g.trans g2, fun _ => hR⟩⟩) (fun e => hB _ ⟨g, fun z => hk (by (first | lia | omega))⟩)
  clear xx hA hk
  clear g
  obtain ⟨g, hk⟩ := h
  have hA := g _ _ hS
  have xx : k ≤ 4 → ¬ IsRule rs → Ref K H1 E "BadRule" := main _ g _ x0
  refine seq_cut (fun H' => Same H H' ∧ (k < 2 → IsRule rs)) (fun H2 h => ?_) (fun B hB => ?_)
  rotate_left
  · walk_at "rd"
    exact ite2 (fun e => ⟨a, rs, rfl, SqL.of hA, xx (by (first | lia | omega)), fun hR t l c f H2 g2 _ _ _ _ _ => hB H2 ⟨g.trans g2, fun _ => hR⟩⟩) (fun e => hB _ ⟨g, fun z => hk (by (first | lia | omega))⟩)
  clear xx hA hk
  clear g
  obtain ⟨g, hk⟩ := h
  have hA := g _ _ hS
  have xx : k ≤ 4 → ¬ IsRule rs → Ref K H2 E "BadRule" := main _ g _ x0
  refine seq_cut (fun H' => Same H H' ∧ (k < 3 → IsRule rs)) (fun H3 h => ?_) (fun B hB => ?_)
  rotate_left
  · walk_at "rd"
    exact ite2 (fun e => ⟨a, rs, rfl, SqL.of hA, xx (by (first | lia | omega)), fun hR l H2 N => hB H2 ⟨g.trans N.same, fun _ => hR⟩⟩) (fun e => hB _ ⟨g, fun z => hk (by (first | lia | omega))⟩)
  clear xx hA hk
  clear g
  obtain ⟨g, hk⟩ := h
  have hA := g _ _ hS
  have xx : k ≤ 4 → ¬ IsRule rs → Ref K H3 E "BadRule" := main _ g _ x0
  refine seq_cut (fun H' => Same H H' ∧ (k < 4 → IsRule rs)) (fun H4 h => ?_) (fun B hB => ?_)
  rotate_left
  · walk_at "rd"
    exact ite2 (fun e => ⟨a, 99, rs, rfl, SqL.of hA, xx (by (first | lia | omega)), fun hR r0 ls _ H2 g2 => hB H2 ⟨g.trans g2, fun _ => hR⟩⟩) (fun e => hB _ ⟨g, fun z => hk (by (first | lia | omega))⟩)
  clear xx hA hk
  clear g
  obtain ⟨g, hk⟩ := h
  have hA := g _ _ hS
  walk_at "rd"
  refine ite2 (fun e => ⟨a, 800, n, rs, rfl, SqL.of hA, main _ g _ x0 (by (first | lia | omega)), fun hR r0 ls e' => ⟨fun h1 h2 l H' N => q (fun _ => hR) (fun _ => ⟨r0, ls, e', h1, h2⟩) H' (g.trans N.same), fun h1 H' g' => x2 e hR (fun z => h1 (by subst e'; exact z.at)) H' (g.trans g')⟩⟩) (fun e => q (fun z => hk (by (first | lia | omega))) (fun z => absurd z e) _ g)
def sp_law_folded_call (K : PySem.W.Frag) : Sp := fun vs H Q E => ∃ (k c : Int) (a b : Addr) (rs fs : List Int), vs = [.int k, .ref a, .ref b, .int c] ∧ H a = some (.lst (rs.map V.int)) ∧ H b = some (.lst (fs.map V.int)) ∧ 0 ≤ k ∧ k ≤ 9 ∧
  ((4 < k → IsRule rs) → (4 < k → IsFold rs fs) → (k = 9 → spanL rs fs ≤ c) → ∀ H' : Hp, Same H H' → Q .non H') ∧ (4 < k → ¬ IsRule rs → Ref K H E "BadRule") ∧ (4 < k → IsRule rs → ¬ IsFold rs fs → Ref K H E "BadFolding") ∧ (k = 9 → IsRule rs → IsFold rs fs → ¬ spanL rs fs ≤ c → Ref K H E "NoSuch")
theorem ok_law_folded_call {f : Addr} {fd : FuncData} (F : Fun K "_law_folded_call" "_law_folded_call" s_law_folded_call f fd) {f_number_of : Addr} {d_number_of : FuncData} (G_number_of : FnOk P w K mg base (CXE P w) 6 f_number_of d_number_of ["rule", "case", "folding"] (sp_number_of K)) (m_number_of : mg "number_of" = some (.ref f_number_of)) (k_number_of : PySem.W.keepIn K (.ref f_number_of) = true) (b_number_of : Binds K d_number_of ["rule", "case", "folding"] []) {f_shown : Addr} {d_shown : FuncData} (G_shown : FnOk P w K mg base (CXE P w) 3 f_shown d_shown ["rule", "folding"] (sp_shown K)) (m_shown : mg "shown" = some (.ref f_shown)) (k_shown : PySem.W.keepIn K (.ref f_shown) = true) (b_shown : Binds K d_shown ["rule", "folding"] []) {f_fits : Addr} {d_fits : FuncData} (G_fits : FnOk P w K mg base (CXE P w) 5 f_fits d_fits ["rule", "folding", "case"] (sp_fits K)) (m_fits : mg "fits" = some (.ref f_fits)) (k_fits : PySem.W.keepIn K (.ref f_fits) = true) (b_fits : Binds K d_fits ["rule", "folding", "case"] []) {f_span : Addr} {d_span : FuncData} (G_span : FnOk P w K mg base (CXE P w) 4 f_span d_span ["rule", "folding"] (sp_span K)) (m_span : mg "span" = some (.ref f_span)) (k_span : PySem.W.keepIn K (.ref f_span) = true) (b_span : Binds K d_span ["rule", "folding"] []) {f_joints : Addr} {d_joints : FuncData} (G_joints : FnOk P w K mg base (CXE P w) 3 f_joints d_joints ["rule", "folding"] (sp_joints K)) (m_joints : mg "joints" = some (.ref f_joints)) (k_joints : PySem.W.keepIn K (.ref f_joints) = true) (b_joints : Binds K d_joints ["rule", "folding"] []) :
    FnOk P w K mg base (CXE P w) 7 f fd ["call", "rule", "folding", "case"] (sp_law_folded_call K) := by
  refine F.okX sc_law_folded_call (fun vs H Q E h => ?_) (fun cdv A outer s H vs Q E hr h => ?_)
  · obtain ⟨k, c, a, b, rs, fs, rfl, _⟩ := h
    rfl
  obtain ⟨k, c, a, b, rs, fs, rfl, hS, hT, k0, k1, q, x0, x1, x2⟩ := h
  have ND := sc_law_folded_call.nd
  refine ⟨_, (pss_cons (ps_if (pt_cmpR op_eq (pv 0) pe_int (nomark _)) (pss_one (ps_expr (pe_call G_joints (hr.mono (by (first | lia | omega))) (by rfl) m_joints k_joints b_joints .nil (passE (fun _ _ _ z => z)) (pa_cons (pv 1) (pa_cons (pv 2) pa_nil))))) pss_nil)
    (pss_cons (ps_if (pt_cmpR op_eq (pv 0) pe_int (nomark _)) (pss_one (ps_expr (pe_call G_span (hr.mono (by (first | lia | omega))) (by rfl) m_span k_span b_span .nil (passE (fun _ _ _ z => z)) (pa_cons (pv 1) (pa_cons (pv 2) pa_nil))))) pss_nil)
    (pss_cons (ps_if (pt_cmpR op_eq (pv 0) pe_int (nomark _)) (pss_one (ps_expr (pe_call G_fits (hr.mono (by (first | lia | omega))) (by rfl) m_fits k_fits b_fits .nil (passE (fun _ _ _ z => z)) (pa_cons (pv 1) (pa_cons (pv 2) (pa_cons pe_int pa_nil)))))) pss_nil)
    (pss_cons (ps_if (pt_cmpR op_eq (pv 0) pe_int (nomark _)) (pss_one (ps_expr (pe_call G_shown (hr.mono (by (first | lia | omega))) (by rfl) m_shown k_shown b_shown .nil (passE (fun _ _ _ z => z)) (pa_cons (pv 1) (pa_cons (pv 2) pa_nil))))) pss_nil)
    (pss_one (ps_if (pt_cmpR op_eq (pv 0) pe_int (nomark _)) (pss_one (ps_expr (pe_call G_number_of (hr.mono (by (first | lia | omega))) (by rfl) m_number_of k_number_of b_number_of .nil (passE (fun _ _ _ z => z)) (pa_cons (pv 1) (pa_cons (pv 3) (pa_cons (pv 2) pa_nil)))))) pss_nil)))))), ?_⟩
  have mainR : ∀ H' : Hp, Same H H' → 4 < k → ¬ IsRule rs → Ref K H' E "BadRule" := fun H' g h4 hn H2 g2 => x0 h4 hn H2 (g.trans g2)
  have mainF : ∀ H' : Hp, Same H H' → 4 < k → IsRule rs → ¬ IsFold rs fs → Ref K H' E "BadFolding" := fun H' g h4 hr' hn H2 g2 => x1 h4 hr' hn H2 (g.trans g2)
  have g : Same H H := Same.refl H
  have hk : 4 < k ∧ k < 5 → IsRule rs ∧ IsFold rs fs := fun z => absurd z (by (first | lia | omega))
  have hA := g _ _ hS
  have hB' := g _ _ hT
  have xx := mainR _ g
  have xy := mainF _ g
  refine seq_cut (fun H' => Same H H' ∧ (4 < k ∧ k < 6 → IsRule rs ∧ IsFold rs fs)) (fun H1 h => ?_) (fun B hB => ?_)
  rotate_left
  · walk_at "rd"
    exact ite2 (fun e => ⟨a, b, rs, fs, rfl, hA, hB', fun hR hF l H2 N => hB H2 ⟨g.trans N.same, fun _ => ⟨hR, hF⟩⟩, xx (by (first | lia | omega)), xy (by (first | lia | omega))⟩) (fun e => hB _ ⟨g, fun z => hk (by (first | lia | omega))⟩)
  clear xx xy hA hB' hk
  clear g
  obtain ⟨g, hk⟩ := h
  have hA := g _ _ hS
  have hB' := g _ _ hT
  have xx := mainR _ g
  have xy := mainF _ g
  refine seq_cut (fun H' => Same H H' ∧ (4 < k ∧ k < 7 → IsRule rs ∧ IsFold rs fs)) (fun H2 h => ?_) (fun B hB => ?_)
  rotate_left
  · walk_at "rd"
    exact ite2 (fun e => ⟨a, b, rs, fs, rfl, hA, hB', fun hR hF H2 g2 => hB H2 ⟨g.trans g2, fun _ => ⟨hR, hF⟩⟩, xx (by (first | lia | omega)), xy (by (first | lia | omega))⟩) (fun e => hB _ ⟨g, fun z => hk (by (first | lia | omega))⟩)
  clear xx xy hA hB' hk
  clear g
  obtain ⟨g, hk⟩ := h
  have hA := g _ _ hS
  have hB' := g _ _ hT
  have xx := mainR _ g
  have xy := mainF _ g
  refine seq_cut (fun H' => Same H H' ∧ (4 < k ∧ k < 8 → IsRule rs ∧ IsFold rs fs)) (fun H3 h => ?_) (fun B hB => ?_)
  rotate_left
  · walk_at "rd"
    exact ite2 (fun e => ⟨a, b, 9, rs, fs, rfl, hA, hB', fun hR hF H2 g2 => hB H2 ⟨g.trans g2, fun _ => ⟨hR, hF⟩⟩, xx (by (first | lia | omega)), xy (by (first | lia | omega))⟩) (fun e => hB _ ⟨g, fun z => hk (by (first | lia | omega))⟩)
  clear xx xy hA hB' hk
  clear g
  obtain ⟨g, hk⟩ := h
  have hA := g _ _ hS
  have hB' := g _ _ hT
  have xx := mainR _ g
  have xy := mainF _ g
  refine seq_cut (fun H' => Same H H' ∧ (4 < k ∧ k < 9 → IsRule rs ∧ IsFold rs fs)) (fun H4 h => ?_) (fun B hB => ?_)
  rotate_left
  · walk_at "rd"
    exact ite2 (fun e => ⟨a, b, rs, fs, rfl, SqL.of hA, SqL.of hB', fun hR hF H2 g2 => hB H2 ⟨g.trans g2, fun _ => ⟨hR, hF⟩⟩, xx (by (first | lia | omega)), xy (by (first | lia | omega))⟩) (fun e => hB _ ⟨g, fun z => hk (by (first | lia | omega))⟩)
  clear xx xy hA hB' hk
  clear g
  obtain ⟨g, hk⟩ := h
  have hA := g _ _ hS
  have hB' := g _ _ hT
  walk_at "rd"
  refine ite2 (fun e => ⟨a, b, c, rs, fs, rfl, hA, hB', mainR _ g (by (first | lia | omega)), mainF _ g (by (first | lia | omega)), fun hR hF hn H2 g2 => x2 e hR hF hn H2 (g.trans g2), fun hR hF hsp r0 ls _ H' g' => q (fun _ => hR) (fun _ => hF) (fun _ => hsp) H' (g.trans g')⟩) (fun e => q (fun z => (hk (by (first | lia | omega))).1) (fun z => (hk (by (first | lia | omega))).2) (fun z => absurd z e) _ g)
-- ALWAYS
/-- which error the call ends with, if any -/
structure Due (k n c : Int) (rs fs : List Int) (d : Option Nat) : Prop where
  rule : ¬ IsRule rs → d = some 0
  fold : IsRule rs → 4 < k → ¬ IsFold rs fs → d = some 1
  num : IsRule rs → k = 4 → ¬ NumOk n rs → d = some 2
  span : IsRule rs → k = 9 → IsFold rs fs → ¬ spanL rs fs ≤ c → d = some 2
  none : IsRule rs → (4 < k → IsFold rs fs) → (k = 4 → NumOk n rs) → (k = 9 → spanL rs fs ≤ c) → d = none
def dueV : Option Nat → V
  | none => .non
  | some j => .int (j : Int)
def sp_law_refused (K : PySem.W.Frag) : Sp := fun vs H Q _ => ∃ (k n c : Int) (a b : Addr) (rs fs : List Int) (d : Option Nat), vs = [.int k, .ref a, .ref b, .int n, .int c] ∧ H a = some (.lst (rs.map V.int)) ∧ H b = some (.lst (fs.map V.int)) ∧ 0 ≤ k ∧ k ≤ 9 ∧ Due k n c rs fs d ∧ ∀ H' : Hp, Same H H' → Q (dueV d) H'
theorem ok_law_refused {f : Addr} {fd : FuncData} (F : Fun K "_law_refused" "_law_refused" s_law_refused f fd) {f_law_alone : Addr} {d_law_alone : FuncData} (G_law_alone : FnOk P w K mg base (CXE P w) 1 f_law_alone d_law_alone ["e"] (sp_law_alone K)) (m_law_alone : mg "_law_alone" = some (.ref f_law_alone)) (k_law_alone : PySem.W.keepIn K (.ref f_law_alone) = true) (b_law_alone : Binds K d_law_alone ["e"] []) {f_law_folded_call : Addr} {d_law_folded_call : FuncData} (G_law_folded_call : FnOk P w K mg base (CXE P w) 7 f_law_folded_call d_law_folded_call ["call", "rule", "folding", "case"] (sp_law_folded_call K)) (m_law_folded_call : mg "_law_folded_call" = some (.ref f_law_folded_call)) (k_law_folded_call : PySem.W.keepIn K (.ref f_law_folded_call) = true) (b_law_folded_call : Binds K d_law_folded_call ["call", "rule", "folding", "case"] []) {f_law_whole_call : Addr} {d_law_whole_call : FuncData} (G_law_whole_call : FnOk P w K mg base (CXE P w) 6 f_law_whole_call d_law_whole_call ["call", "rule", "number"] (sp_law_whole_call K)) (m_law_whole_call : mg "_law_whole_call" = some (.ref f_law_whole_call)) (k_law_whole_call : PySem.W.keepIn K (.ref f_law_whole_call) = true) (b_law_whole_call : Binds K d_law_whole_call ["call", "rule", "number"] []) (Er : Errs K mg) :
    FnOk P w K mg base (CXE P w) 8 f fd ["call", "rule", "folding", "number", "case"] (sp_law_refused K) := by
  refine F.okN sc_law_refused (fun vs H Q E h => ?_) (fun cdv A outer s H vs Q E hr h => ?_)
  · obtain ⟨k, n, c, a, b, rs, fs, d, rfl, _⟩ := h
    rfl
  obtain ⟨k, n, c, a, b, rs, fs, d, rfl, hS, hT, k0, k1, hd, q⟩ := h
  have ND := sc_law_refused.nd
  let EX : XK := fun cls _ H' => ∃ (j : Nat) (nm : Str), kidN[j]? = some nm ∧ cls = .ref (clsA K nm) ∧ d = some j ∧ Same H H'
  have ref : ∀ (j : Nat) (nm : Str), kidN[j]? = some nm → d = some j → ∀ H1, Same H H1 → Ref K H1 EX nm := fun j nm h1 h2 H1 g H' g' => ⟨j, nm, h1, rfl, h2, g.trans g'⟩
  refine ⟨_, (pss_cons (ps_set (i := 5) ND rfl (Or.inl rfl) pe_non)
    (pss_cons (ps_try (E := EX) (ie := 6) rfl rfl ND rfl rfl (by rfl) (Er.m "RuleError" (by decide)) (Er.q "RuleError" (by decide)) Er.b (fun _ => (pss_cons (ps_expr (pe_call G_law_whole_call (hr.mono (by (first | lia | omega))) (by rfl) m_law_whole_call k_law_whole_call b_law_whole_call .nil (passT tr_ok (fun _ _ _ z => z)) (pa_cons (pv 0) (pa_cons (pv 1) (pa_cons (pv 3) pa_nil)))))
    (pss_one (ps_expr (pe_call G_law_folded_call (hr.mono (by (first | lia | omega))) (by rfl) m_law_folded_call k_law_folded_call b_law_folded_call .nil (passT tr_ok (fun _ _ _ z => z)) (pa_cons (pv 0) (pa_cons (pv 1) (pa_cons (pv 2) (pa_cons (pv 4) pa_nil))))))))) (fun _ _ => (pss_one (ps_set (i := 5) ND rfl (Or.inl rfl) (pv 6)))))
    (pss_cons (ps_if (pt_cmpR op_isN (pv 5) pe_non (nomark _)) (pss_one (ps_ret pe_non)) pss_nil)
    (pss_one (ps_ret (pe_call G_law_alone (hr.mono (by (first | lia | omega))) (by rfl) m_law_alone k_law_alone b_law_alone .nil passN (pa_cons (pv 5) pa_nil))))))), ?_⟩
  walk_at "rd"
  refine ⟨?_, fun cls dd H' hE => ?_⟩
  · walk_at "rd"
    refine ⟨k, n, a, rs, rfl, hS, k0, k1, fun hR hN H1 g1 => ?_, fun h4 hn => ref 0 "BadRule" rfl (hd.rule hn) H (Same.refl H), fun h4 hR hn => ref 2 "NoSuch" rfl (hd.num hR h4 hn) H (Same.refl H)⟩
    refine ⟨k, c, a, b, rs, fs, rfl, g1 _ _ hS, g1 _ _ hT, k0, k1, fun hR' hF hsp H2 g2 => ?_, fun h4 hn => ref 0 "BadRule" rfl (hd.rule hn) _ g1, fun h4 hR' hn => ref 1 "BadFolding" rfl (hd.fold hR' h4 hn) _ g1, fun h9 hR' hF hn => ref 2 "NoSuch" rfl (hd.span hR' h9 hF hn) _ g1⟩
    have hr : IsRule rs := by
      by_cases h4 : k ≤ 4
      · exact hR h4
      · exact hR' (by (first | lia | omega))
    have q' := q H2 (g1.trans g2)
    rw [hd.none hr hF hN hsp] at q'
    exact q'
  · obtain ⟨j, nm, hj, rfl, hdj, g⟩ := hE
    refine ⟨clsA K nm, rfl, Er.r nm (List.mem_of_getElem? hj), fun x hx => ?_⟩
    walk_at "rd"
    refine ⟨x, nm, j, rfl, upd_same, hj, fun H2 g2 => ?_⟩
    have q' := q H2 ((same_tup g hx _).trans g2)
    rw [hdj] at q'
    exact q'
end
end FR
namespace FR
open PySem L2
theorem sum_hi : ∀ {l : List Int}, (∀ x ∈ l, x ≤ 60) → l.sum ≤ 60 * (l.length : Int)
  | [], _ => by simp
  | x :: l, h => by
    have h1 := h x List.mem_cons_self
    have h2 := sum_hi (l := l) fun y hy => h y (List.mem_cons_of_mem _ hy)
    rw [List.sum_cons, List.length_cons]; (first | lia | omega)
theorem cnt_800 {r0 : Int} {ls : List Int} (hR : IsRule (r0 :: ls)) : cnt 800 (r0, 0) ls = 2 ^ ls.length := by
  have hf := hR.few
  rw [List.length_cons] at hf
  have h0 : 0 ≤ r0 ∧ r0 ≤ 60 := ⟨by have := hR.lo r0 List.mem_cons_self; (first | lia | omega), hR.hi r0 List.mem_cons_self⟩
  refine cnt_all 800 ls (r0, 0) fun f hl h2 => ?_
  have h3 := rch_sum ls (r0, 0) f ⟨h0.1, Int.le_refl _⟩ (fun x hx => by have := hR.lo x (List.mem_cons_of_mem _ hx); (first | lia | omega)) hl
  have h4 := sum_hi (l := ls) fun x hx => hR.hi x (List.mem_cons_of_mem _ hx)
  have e : sumR ((r0, 0) : Rch) = r0 := by simp [sumR]
  rw [e] at h3
  (first | lia | omega)
theorem due_of {r0 nb c : Int} {ls fs rs2 fs2 : List Int} {i : Nat} {dd : Option Nat} (hR : IsRule (r0 :: ls)) (hF : IsFold (r0 :: ls) fs) (hnum : NumOk nb (r0 :: ls) ↔ ¬ 1 < c % 4)
    (hB : (c / 8 % 3 = 1 ∧ ¬ IsRule rs2) ∨ (¬ c / 8 % 3 = 1 ∧ rs2 = r0 :: ls)) (hI : (c / 24 % 3 = 1 ∧ ∀ rs' : List Int, rs'.length = fs.length + 1 → ¬ IsFold rs' fs2) ∨ (¬ c / 24 % 3 = 1 ∧ fs2 = fs))
    (u1 : c / 8 % 3 = 1 → dd = some 0) (u2 : ¬ c / 8 % 3 = 1 → 4 < (i : Int) → c / 24 % 3 = 1 → dd = some 1) (u3 : ¬ c / 8 % 3 = 1 → (i : Int) = 4 → 1 < c % 4 → dd = some 2) (u4 : ¬ c / 8 % 3 = 1 → (i : Int) = 9 → ¬ c / 24 % 3 = 1 → c / 4 % 2 = 1 → dd = some 2)
    (u5 : ¬ c / 8 % 3 = 1 → (4 < (i : Int) → ¬ c / 24 % 3 = 1) → ((i : Int) = 4 → ¬ 1 < c % 4) → ((i : Int) = 9 → ¬ c / 4 % 2 = 1) → dd = none) : Due (i : Int) nb (spanL (r0 :: ls) fs - c / 4 % 2) rs2 fs2 dd := by
  have hl := hF.len
  rcases hB with ⟨b, nr⟩ | ⟨nb', rfl⟩
  · exact ⟨fun _ => u1 b, fun z => absurd z nr, fun z => absurd z nr, fun z => absurd z nr, fun z => absurd z nr⟩
  · refine ⟨fun z => absurd hR z, fun _ h4 hn => ?_, fun _ h4 hn => ?_, fun _ h9 hf hn => ?_, fun _ hf hn hs => ?_⟩
    · rcases hI with ⟨il, _⟩ | ⟨_, rfl⟩
      · exact u2 nb' h4 il
      · exact absurd hF hn
    · refine u3 nb' h4 ?_
      rw [hnum] at hn
      (first | lia | omega)
    · rcases hI with ⟨_, no⟩ | ⟨ni, rfl⟩
      · exact absurd hf (no _ (by (first | lia | omega)))
      · exact u4 nb' h9 ni (by (first | lia | omega))
    · refine u5 nb' (fun h4 => ?_) (fun h4 => hnum.mp (hn h4)) fun h9 => ?_
      · rcases hI with ⟨_, no⟩ | ⟨ni, rfl⟩
        · exact absurd (hf h4) (no _ (by (first | lia | omega)))
        · exact ni
      · rcases hI with ⟨_, no⟩ | ⟨ni, rfl⟩
        · exact absurd (hf (by (first | lia | omega))) (no _ (by (first | lia | omega)))
        · have := hs h9
          (first | lia | omega)
section
variable {P : Program} {w : World} {K : PySem.W.Frag} {mg : Str → Option Value} {base : Heap}
def sp_law (K : PySem.W.Frag) : Sp := fun vs H Q _ => ∃ (a : Addr) (ns : List Int), vs = [.ref a] ∧ SqL K H a (ns.map V.int) ∧ ns.length ≤ 63 ∧ ∀ H', Q (.bl true) H'
theorem ok_law {f : Addr} {fd : FuncData} (F : Fun K "law" "law" s_law f fd) {f_law_refused : Addr} {d_law_refused : FuncData} (G_law_refused : FnOk P w K mg base (CXE P w) 8 f_law_refused d_law_refused ["call", "rule", "folding", "number", "case"] (sp_law_refused K)) (m_law_refused : mg "_law_refused" = some (.ref f_law_refused)) (k_law_refused : PySem.W.keepIn K (.ref f_law_refused) = true) (b_law_refused : Binds K d_law_refused ["call", "rule", "folding", "number", "case"] []) {f_law_bad_folding : Addr} {d_law_bad_folding : FuncData} (G_law_bad_folding : FnOk P w K mg base (CXE P w) 1 f_law_bad_folding d_law_bad_folding ["folding", "fault", "cell"] (sp_law_bad_folding K)) (m_law_bad_folding : mg "_law_bad_folding" = some (.ref f_law_bad_folding)) (k_law_bad_folding : PySem.W.keepIn K (.ref f_law_bad_folding) = true) (b_law_bad_folding : Binds K d_law_bad_folding ["folding", "fault", "cell"] []) {f_law_bad_rule : Addr} {d_law_bad_rule : FuncData} (G_law_bad_rule : FnOk P w K mg base (CXE P w) 1 f_law_bad_rule d_law_bad_rule ["rule", "fault", "cell"] (sp_law_bad_rule K)) (m_law_bad_rule : mg "_law_bad_rule" = some (.ref f_law_bad_rule)) (k_law_bad_rule : PySem.W.keepIn K (.ref f_law_bad_rule) = true) (b_law_bad_rule : Binds K d_law_bad_rule ["rule", "fault", "cell"] []) {f_law_span : Addr} {d_law_span : FuncData} (G_law_span : FnOk P w K mg base (CXE P w) 2 f_law_span d_law_span ["rule", "folding"] (sp_law_span K)) (m_law_span : mg "_law_span" = some (.ref f_law_span)) (k_law_span : PySem.W.keepIn K (.ref f_law_span) = true) (b_law_span : Binds K d_law_span ["rule", "folding"] []) {f_law_draw : Addr} {d_law_draw : FuncData} (G_law_draw : FnOk P w K mg base (CXE P w) 2 f_law_draw d_law_draw ["script", "k"] (sp_law_draw K)) (m_law_draw : mg "_law_draw" = some (.ref f_law_draw)) (k_law_draw : PySem.W.keepIn K (.ref f_law_draw) = true) (b_law_draw : Binds K d_law_draw ["script", "k"] []) {f_law_folding : Addr} {d_law_folding : FuncData} (G_law_folding : FnOk P w K mg base (CXE P w) 3 f_law_folding d_law_folding ["script", "start", "pieces"] (sp_law_folding K)) (m_law_folding : mg "_law_folding" = some (.ref f_law_folding)) (k_law_folding : PySem.W.keepIn K (.ref f_law_folding) = true) (b_law_folding : Binds K d_law_folding ["script", "start", "pieces"] []) {f_law_rule : Addr} {d_law_rule : FuncData} (G_law_rule : FnOk P w K mg base (CXE P w) 3 f_law_rule d_law_rule ["script", "pieces"] (sp_law_rule K)) (m_law_rule : mg "_law_rule" = some (.ref f_law_rule)) (k_law_rule : PySem.W.keepIn K (.ref f_law_rule) = true) (b_law_rule : Binds K d_law_rule ["script", "pieces"] []) (z_range : mg "range" = none) (z_list : mg "list" = none) :
    FnOk P w K mg base (CXE P w) 9 f fd ["script"] (sp_law K) := by
  refine F.okN sc_law (fun vs H Q E h => ?_) (fun cdv A outer s H vs Q E hr h => ?_)
  · obtain ⟨a, ns, rfl, _⟩ := h
    rfl
  obtain ⟨a, ns, rfl, hS, h63, q⟩ := h
  have ND := sc_law.nd
  have hu64 := hu64_of hr
  refine ⟨_, (pss_cons (ps_set (i := 1) ND rfl (Or.inl rfl) (pe_op op_add pe_int (pe_op op_mod (pe_call G_law_draw (hr.mono (by (first | lia | omega))) (by rfl) m_law_draw k_law_draw b_law_draw .nil passN (pa_cons (pv 0) (pa_cons pe_int pa_nil))) pe_int)))
    (pss_cons (ps_set (i := 2) ND rfl (Or.inl rfl) (pe_call G_law_rule (hr.mono (by (first | lia | omega))) (by rfl) m_law_rule k_law_rule b_law_rule .nil passN (pa_cons (pv 0) (pa_cons (pv 1) pa_nil))))
    (pss_cons (ps_set (i := 3) ND rfl (Or.inl rfl) (pe_call G_law_folding (hr.mono (by (first | lia | omega))) (by rfl) m_law_folding k_law_folding b_law_folding .nil passN (pa_cons (pv 0) (pa_cons pe_int (pa_cons (pv 1) pa_nil)))))
    (pss_cons (ps_set (i := 4) ND rfl (Or.inl rfl) pe_int)
    (pss_cons (ps_for PassesOwn.never rfl (pi_range1 (by rfl) z_range (pa_cons (pe_op op_sub (pv 1) pe_int) pa_nil)) (pg_name (i := 5) ND rfl (Or.inl rfl)) (pss_one (ps_set (i := 4) ND rfl (Or.inl rfl) (pe_op op_mul pe_int (pv 4)))))
    (pss_cons (ps_set (i := 6) ND rfl (Or.inl rfl) (pe_call G_law_draw (hr.mono (by (first | lia | omega))) (by rfl) m_law_draw k_law_draw b_law_draw .nil passN (pa_cons (pv 0) (pa_cons pe_int pa_nil))))
    (pss_cons (ps_set (i := 7) ND rfl (Or.inl rfl) (pe_ix (ix_listK K) (pe_lst (pa_cons pe_int (pa_cons (pe_op op_sub (pv 4) pe_int) (pa_cons (pe_op op_sub (pe_un un_neg pe_int) (pe_op op_mod (pe_op op_fdiv (pv 6) pe_int) pe_int)) (pa_cons (pe_op op_add (pv 4) (pe_op op_mod (pe_op op_fdiv (pv 6) pe_int) pe_int)) pa_nil))))) (pe_op op_mod (pv 6) pe_int) (fun _ _ => rfl)))
    (pss_cons (ps_set (i := 8) ND rfl (Or.inl rfl) (pe_op op_sub (pe_call G_law_span (hr.mono (by (first | lia | omega))) (by rfl) m_law_span k_law_span b_law_span .nil passN (pa_cons (pv 2) (pa_cons (pv 3) pa_nil))) (pe_op op_mod (pe_op op_fdiv (pv 6) pe_int) pe_int)))
    (pss_cons (ps_set (i := 9) ND rfl (Or.inl rfl) (pe_cmpR op_eq (pe_op op_mod (pe_op op_fdiv (pv 6) pe_int) pe_int) pe_int (nomark _)))
    (pss_cons (ps_set (i := 10) ND rfl (Or.inl rfl) (pe_cmpR op_eq (pe_op op_mod (pe_op op_fdiv (pv 6) pe_int) pe_int) pe_int (nomark _)))
    (pss_cons (ps_if (pt_truthK K (pv 9) (fun _ => rfl)) (pss_one (ps_set (i := 2) ND rfl (Or.inl rfl) (pe_call G_law_bad_rule (hr.mono (by (first | lia | omega))) (by rfl) m_law_bad_rule k_law_bad_rule b_law_bad_rule .nil passN (pa_cons (pv 2) (pa_cons (pe_op op_mod (pe_op op_fdiv (pv 6) pe_int) pe_int) (pa_cons (pe_op op_fdiv (pv 6) pe_int) pa_nil)))))) pss_nil)
    (pss_cons (ps_if (pt_truthK K (pv 10) (fun _ => rfl)) (pss_one (ps_set (i := 3) ND rfl (Or.inl rfl) (pe_call G_law_bad_folding (hr.mono (by (first | lia | omega))) (by rfl) m_law_bad_folding k_law_bad_folding b_law_bad_folding .nil passN (pa_cons (pv 3) (pa_cons (pe_op op_mod (pe_op op_fdiv (pv 6) pe_int) pe_int) (pa_cons (pe_op op_fdiv (pv 6) pe_int) pa_nil)))))) pss_nil)
    (pss_cons (ps_set (i := 11) ND rfl (Or.inl rfl) (pe_lst (pa_cons (pe_callTy (call_listK K) (by rfl) z_list PyProof.Rows.Boot.«list» (pa_cons (pv 2) pa_nil)) (pa_cons (pe_callTy (call_listK K) (by rfl) z_list PyProof.Rows.Boot.«list» (pa_cons (pv 3) pa_nil)) pa_nil))))
    (pss_cons (ps_for PassesOwn.never rfl (pi_range1 (by rfl) z_range (pa_cons pe_int pa_nil)) (pg_name (i := 12) ND rfl (Or.inl rfl)) (pss_cons (ps_set (i := 13) ND rfl (Or.inl rfl) pe_non)
    (pss_cons (ps_if (pw_or (pw_and (pt_cmpR op_eq (pv 12) pe_int (nomark _)) (pw_and1 (pt_cmpR op_gt (pe_op op_mod (pv 6) pe_int) pe_int (nomark _)))).pt (pw_or1 (pw_and (pt_cmpR op_eq (pv 12) pe_int (nomark _)) (pw_and1 (pt_cmpR op_eq (pe_op op_mod (pe_op op_fdiv (pv 6) pe_int) pe_int) pe_int (nomark _)))).pt)).pt (pss_one (ps_set (i := 13) ND rfl (Or.inl rfl) pe_int)) pss_nil)
    (pss_cons (ps_if (pw_and (pt_cmpR op_gt (pv 12) pe_int (nomark _)) (pw_and1 (pt_truthK K (pv 10) (fun _ => rfl)))).pt (pss_one (ps_set (i := 13) ND rfl (Or.inl rfl) pe_int)) pss_nil)
    (pss_cons (ps_if (pt_truthK K (pv 9) (fun _ => rfl)) (pss_one (ps_set (i := 13) ND rfl (Or.inl rfl) pe_int)) pss_nil)
    (pss_one (ps_if (pw_or (pt_cmpR op_ne (pe_call G_law_refused (hr.mono (by (first | lia | omega))) (by rfl) m_law_refused k_law_refused b_law_refused .nil passN (pa_cons (pv 12) (pa_cons (pe_ix (ix_listK K) (pv 11) pe_int (fun _ _ => rfl)) (pa_cons (pe_ix (ix_listK K) (pv 11) pe_int (fun _ _ => rfl)) (pa_cons (pv 7) (pa_cons (pv 8) pa_nil)))))) (pv 13) (nomark _)) (pw_or1 (pt_cmpR (op_neIIK K hu64) (pv 11) (pe_lst (pa_cons (pv 2) (pa_cons (pv 3) pa_nil))) (nomark _)))).pt (pss_one (ps_ret pe_bl)) pss_nil)))))))
    (pss_one (ps_ret pe_bl)))))))))))))))), ?_⟩
  refine seq_hide fun B1 e1 => ?_
  walk_at "rd"
  refine ⟨a, ns, 1, rfl, hS, by decide, by decide, fun d d0 d1 => ?_⟩
  walk_at "rd"
  refine ⟨by decide, ?_⟩
  subst e1
  refine seq_hide fun B1 e1 => ?_
  walk_at "rd"
  refine ⟨a, ns, 1 + d % 12, rfl, hS, by (first | lia | omega), by (first | lia | omega), fun lr H1 rs N1 hR hk => ?_⟩
  try walk_at "rd"
  subst e1
  refine seq_hide fun B1 e1 => ?_
  walk_at "rd"
  refine ⟨a, ns, 30, 1 + d % 12, rfl, N1.same.seq hS, by decide, by decide, by (first | lia | omega), by (first | lia | omega), fun lf H2 fs N2 hF2 hfl => ?_⟩
  try walk_at "rd"
  have hF : IsFold rs fs := ⟨by (first | lia | omega), hF2⟩
  have S2 : Same H H2 := N1.same.trans N2.same
  have r2 := N2.same _ _ N1.at_
  have f2 := N2.at_
  have hm : ((1 + d % 12 - 1).toNat) = fs.length := by (first | lia | omega)
  have few := hR.few
  subst e1
  refine seq_hide fun B1 e1 => ?_
  walk_at "rd"
  subst e1
  refine seq_hide fun B1 e1 => ?_
  refine ⟨_, rfl, _, _, rfl, rfl, _, rfl, by (first | lia | omega), by (first | lia | omega), ?_⟩
  rw [hm]
  refine for_range (lo := 0) (n := fs.length) (fun i σ H' => H' = H2 ∧ ∃ o5, σ = [some (.ref a), some (.int (1 + d % 12)), some (.ref lr), some (.ref lf), some (.int (2 ^ i)), o5, none, none, none, none, none, none, none, none])
    ⟨rfl, _, rfl⟩ (fun i σ H' hi h => ?_) (fun σ H' h => ?_)
  · obtain ⟨rfl, o5, rfl⟩ := h
    walk_at "rd"
    refine ⟨.inl (by decide), ?_⟩
    rw [Int.pow_succ, Int.mul_comm]
  · obtain ⟨rfl, o5, rfl⟩ := h
    subst e1
    dsimp only
    refine seq_hide fun B1 e1 => ?_
    walk_at "rd"
    refine ⟨a, ns, 91, rfl, S2.seq hS, by decide, by decide, fun c c0 c1 => ?_⟩
    try walk_at "rd"
    obtain ⟨r0, ls, rfl⟩ : ∃ r0 ls, rs = r0 :: ls := by
      cases rs with
      | nil => have := hR.some; simp at this
      | cons r0 ls => exact ⟨r0, ls, rfl⟩
    have lfl : fs.length = ls.length := by have := hF.len; simpa using this
    subst e1
    refine seq_hide fun B1 e1 => ?_
    walk_at "rd"
    refine ⟨by decide, by decide, by decide, by decide, by decide, by decide, (by decide : 4 ≤ sizeLine), fun p hp => ?_⟩
    obtain ⟨nb, hnb, hnum⟩ : ∃ nb : Int, atI ([.int 0, .int (2 ^ fs.length - 1), .int (-1 - c / 99 % 9), .int (2 ^ fs.length + c / 99 % 9)] : List V) (c % 4) = some (.int nb) ∧ (NumOk nb (r0 :: ls) ↔ ¬ 1 < c % 4) := by
      have m0 : 0 ≤ c / 99 % 9 := Int.emod_nonneg _ (by decide)
      have hc4 := cnt_800 hR
      have h2 : (1 : Int) ≤ 2 ^ ls.length := by have := Int.pow_pos (n := 2) (m := ls.length) (by decide); (first | lia | omega)
      have ok : ∀ n : Int, NumOk n (r0 :: ls) ↔ 0 ≤ n ∧ n < 2 ^ ls.length := fun n => ⟨fun z => by have := z.at; rw [hc4] at this; exact this, fun z => ⟨r0, ls, rfl, by rw [hc4]; exact z⟩⟩
      have hk : c % 4 = 0 ∨ c % 4 = 1 ∨ c % 4 = 2 ∨ c % 4 = 3 := by (first | lia | omega)
      rw [lfl]
      rcases hk with e | e | e | e <;> rw [e]
      · exact ⟨_, rfl, by rw [ok]; (first | lia | omega)⟩
      · exact ⟨_, rfl, by rw [ok]; (first | lia | omega)⟩
      · exact ⟨_, rfl, by rw [ok]; (first | lia | omega)⟩
      · exact ⟨_, rfl, by rw [ok]; (first | lia | omega)⟩
    refine ⟨by decide, _, SqL.of upd_same, _, hnb, ?_⟩
    have S3' := same_tup S2 hp (.lst [.int 0, .int (2 ^ fs.length - 1), .int (-1 - c / 99 % 9), .int (2 ^ fs.length + c / 99 % 9)])
    have r3' := upd_keep (u := .lst [.int 0, .int (2 ^ fs.length - 1), .int (-1 - c / 99 % 9), .int (2 ^ fs.length + c / 99 % 9)]) r2 hp
    have f3' := upd_keep (u := .lst [.int 0, .int (2 ^ fs.length - 1), .int (-1 - c / 99 % 9), .int (2 ^ fs.length + c / 99 % 9)]) f2 hp
    generalize upd H' p (.lst [.int 0, .int (2 ^ fs.length - 1), .int (-1 - c / 99 % 9), .int (2 ^ fs.length + c / 99 % 9)]) = H3' at *
    subst e1
    refine seq_hide fun B1 e1 => ?_
    walk_at "rd"
    refine ⟨lr, lf, r0 :: ls, fs, rfl, r3', f3', hR.few, hF.len, fun H3 g3 => ?_⟩
    have S3 : Same H H3 := S3'.trans g3
    have r3 := g3 _ _ r3'
    have f3 := g3 _ _ f3'
    clear g3
    walk_at "rd"
    repeat refine And.intro (by decide) ?_
    subst e1
    refine seq_hide fun B1 e1 => ?_
    walk_at "rd"
    repeat refine And.intro (by decide) ?_
    subst e1
    refine seq_hide fun B1 e1 => ?_
    walk_at "rd"
    repeat refine And.intro (by decide) ?_
    subst e1
    refine seq_hide fun B1 e1 => ?_
    have rest1 : ∀ (lr : Addr) (rs2 : List Int) (H4 : Hp), Same H H4 → H4 lr = some (.lst (rs2.map V.int)) → H4 lf = some (.lst (fs.map V.int)) → rs2.length ≤ 40 → ((c / 8 % 3 = 1 ∧ ¬ IsRule rs2) ∨ (¬ c / 8 % 3 = 1 ∧ rs2 = r0 :: ls)) →
        B1 { nx := fun _ H' => Q .non H', rt := Q } [some (.ref a), some (.int (1 + d % 12)), some (.ref lr), some (.ref lf), some (.int (2 ^ fs.length)), o5, some (.int c), some (.int nb), some (.int (spanL (r0 :: ls) fs - c / 4 % 2)), some (.bl (decide (c / 8 % 3 = 1))), some (.bl (decide (c / 24 % 3 = 1))), none, none, none] H4 := by
      intro lr rs2 H4 S4 r4 f4 l2 hB
      subst e1
      refine seq_hide fun B2 e2 => ?_
      have rest2 : ∀ (lf : Addr) (fs2 : List Int) (H5 : Hp), Same H H5 → H5 lr = some (.lst (rs2.map V.int)) → H5 lf = some (.lst (fs2.map V.int)) → fs2.length ≤ 40 → ((c / 24 % 3 = 1 ∧ ∀ rs' : List Int, rs'.length = fs.length + 1 → ¬ IsFold rs' fs2) ∨ (¬ c / 24 % 3 = 1 ∧ fs2 = fs)) →
          B2 { nx := fun _ H' => Q .non H', rt := Q } [some (.ref a), some (.int (1 + d % 12)), some (.ref lr), some (.ref lf), some (.int (2 ^ fs.length)), o5, some (.int c), some (.int nb), some (.int (spanL (r0 :: ls) fs - c / 4 % 2)), some (.bl (decide (c / 8 % 3 = 1))), some (.bl (decide (c / 24 % 3 = 1))), none, none, none] H5 := by
        intro lf fs2 H5 S5 r5 f5 m2 hI
        subst e2
        refine seq_hide fun B3 e3 => ?_
        walk_at "rd"
        refine ⟨_, SqL.of r5, fun h1 hh1 => ⟨_, SqL.of (upd_keep f5 hh1), fun h2 hh2 => ⟨(by decide : 2 ≤ sizeLine), fun hd hhd => ?_⟩⟩⟩
        have S6 := same_tup (same_tup (same_new hh1 (.lst (rs2.map V.int))) hh2 (.lst (fs2.map V.int))) hhd (.lst [.ref h1, .ref h2])
        have a6 : upd (upd (upd H5 h1 (.lst (rs2.map V.int))) h2 (.lst (fs2.map V.int))) hd (.lst [.ref h1, .ref h2]) h1 = some (.lst (rs2.map V.int)) := upd_keep (upd_keep upd_same hh2) hhd
        have b6 : upd (upd (upd H5 h1 (.lst (rs2.map V.int))) h2 (.lst (fs2.map V.int))) hd (.lst [.ref h1, .ref h2]) h2 = some (.lst (fs2.map V.int)) := upd_keep upd_same hhd
        have d6 : upd (upd (upd H5 h1 (.lst (rs2.map V.int))) h2 (.lst (fs2.map V.int))) hd (.lst [.ref h1, .ref h2]) hd = some (.lst [.ref h1, .ref h2]) := upd_same
        generalize upd (upd (upd H5 h1 (.lst (rs2.map V.int))) h2 (.lst (fs2.map V.int))) hd (.lst [.ref h1, .ref h2]) = H6 at *
        have r6 := S6 _ _ r5
        have f6 := S6 _ _ f5
        subst e3
        refine seq_hide fun B3 e3 => ?_
        refine ⟨_, rfl, by decide, by decide, ?_⟩
        rw [show ((10 : Int)).toNat = 10 from rfl]
        refine for_range (lo := 0) (n := 10) (fun i σ H' => Same H6 H' ∧ ∃ (o12 o13 : Option V), σ = [some (.ref a), some (.int (1 + d % 12)), some (.ref lr), some (.ref lf), some (.int (2 ^ fs.length)), o5, some (.int c), some (.int nb), some (.int (spanL (r0 :: ls) fs - c / 4 % 2)), some (.bl (decide (c / 8 % 3 = 1))), some (.bl (decide (c / 24 % 3 = 1))), some (.ref hd), o12, o13])
          ⟨Same.refl _, _, _, rfl⟩ (fun i σ H7 hi h => ?_) (fun σ H7 h => ?_)
        · obtain ⟨g7, o12, o13, rfl⟩ := h
          have due : ∀ dd : Option Nat, (c / 8 % 3 = 1 → dd = some 0) → (¬ c / 8 % 3 = 1 → 4 < (i : Int) → c / 24 % 3 = 1 → dd = some 1) → (¬ c / 8 % 3 = 1 → (i : Int) = 4 → 1 < c % 4 → dd = some 2) → (¬ c / 8 % 3 = 1 → (i : Int) = 9 → ¬ c / 24 % 3 = 1 → c / 4 % 2 = 1 → dd = some 2) →
              (¬ c / 8 % 3 = 1 → (4 < (i : Int) → ¬ c / 24 % 3 = 1) → ((i : Int) = 4 → ¬ 1 < c % 4) → ((i : Int) = 9 → ¬ c / 4 % 2 = 1) → dd = none) → Due (i : Int) nb (spanL (r0 :: ls) fs - c / 4 % 2) rs2 fs2 dd := fun dd u1 u2 u3 u4 u5 => due_of hR hF hnum hB hI u1 u2 u3 u4 u5
          have leaf : ∀ dd : Option Nat, Due (i : Int) nb (spanL (r0 :: ls) fs - c / 4 % 2) rs2 fs2 dd → ∃ x, SqL K H7 hd x ∧ ∃ x1, atI x 0 = some x1 ∧ ∃ x, SqL K H7 hd x ∧ ∃ x2, atI x 1 = some x2 ∧ sp_law_refused K [V.int (i : Int), x1, x2, V.int nb, V.int (spanL (r0 :: ls) fs - c / 4 % 2)] H7
              (fun x H1 => scal x (dueV dd) = true ∧ if ¬ x = dueV dd then Q (V.bl false) H1 else 2 ≤ sizeLine ∧ ∀ (p : Addr), H1 p = none → ∃ x, SqL K (upd H1 p (HO.lst [V.ref lr, V.ref lf])) hd x ∧ ∃ x3, SqL K (upd H1 p (HO.lst [V.ref lr, V.ref lf])) p x3 ∧ ∃ x4, RdI K (upd H1 p (HO.lst [V.ref lr, V.ref lf])) x x4 ∧ ∃ y, RdI K (upd H1 p (HO.lst [V.ref lr, V.ref lf])) x3 y ∧
                if ¬ x4 = y then Q (V.bl false) (upd H1 p (HO.lst [V.ref lr, V.ref lf])) else Same H6 (upd H1 p (HO.lst [V.ref lr, V.ref lf]))) E0 := fun dd hdd => by
            refine ⟨_, SqL.of (g7 _ _ d6), _, atI_nat (j := 0) rfl, _, SqL.of (g7 _ _ d6), _, atI_nat (j := 1) rfl, (i : Int), nb, _, h1, h2, rs2, fs2, dd, rfl, g7 _ _ a6, g7 _ _ b6, by (first | lia | omega), by (first | lia | omega), hdd, fun H8 g8 => ⟨?_, ?_⟩⟩
            · cases dd <;> rfl
            · rw [if_neg (fun z => z rfl)]
              refine ⟨(by decide : 2 ≤ sizeLine), fun p hp => ?_⟩
              have g9 : Same H6 (upd H8 p (HO.lst [V.ref lr, V.ref lf])) := same_tup (g7.trans g8) hp _
              refine ⟨_, SqL.of (g9 _ _ d6), _, SqL.of upd_same, [rs2, fs2], ⟨⟨_, rfl, SqL.of (g9 _ _ a6)⟩, ⟨_, rfl, SqL.of (g9 _ _ b6)⟩, trivial⟩, [rs2, fs2], ⟨⟨_, rfl, SqL.of (g9 _ _ r6)⟩, ⟨_, rfl, SqL.of (g9 _ _ f6)⟩, trivial⟩, ?_⟩
              rw [if_neg (fun z => z rfl)]
              exact g9
          clear hB hI hnum r6 f6 a6 b6 d6 hnb S6
          let S : Option Nat → St := fun dd => [some (.ref a), some (.int (1 + d % 12)), some (.ref lr), some (.ref lf), some (.int (2 ^ fs.length)), o5, some (.int c), some (.int nb), some (.int (spanL (r0 :: ls) fs - c / 4 % 2)), some (.bl (decide (c / 8 % 3 = 1))), some (.bl (decide (c / 24 % 3 = 1))), some (.ref hd), some (.int (i : Int)), some (dueV dd)]
          let P2 : Option Nat → Prop := fun dd => (((i : Int) = 4 ∧ 1 < c % 4 ∨ (i : Int) = 9 ∧ c / 4 % 2 = 1) → dd = some 2) ∧ (¬ ((i : Int) = 4 ∧ 1 < c % 4 ∨ (i : Int) = 9 ∧ c / 4 % 2 = 1) → dd = none)
          let P3 : Option Nat → Prop := fun dd => ((4 < (i : Int) ∧ c / 24 % 3 = 1) → dd = some 1) ∧ (¬ (4 < (i : Int) ∧ c / 24 % 3 = 1) → P2 dd)
          let P4 : Option Nat → Prop := fun dd => (c / 8 % 3 = 1 → dd = some 0) ∧ (¬ c / 8 % 3 = 1 → P3 dd)
          refine seq_cutS (fun σ' H' => H' = H7 ∧ σ' = S none) (fun σ' H' h => ?_) (fun B hB => ?_)
          rotate_left
          · simp only [tSeq, tIfS, tOr, tAnd, tNot, tTest, tB, tOp, tUn, tCB, tCons, tNil, tVar, tC, rI0, rI, rU, tNever, tNext, tDrop, tRet, tRetN, tAsg, gName, gTup, gCons, gNil, tCall, tBM, tBM0, rAppend, rClear, rPop, tLst, tTup, rIxL, rIxT, rEq, rNe, rCat, tAndV, tOrV, tNotV, tIf, tBreak, tCont, rIsi, CMul, CDiv, cxK, blkK, capSt, L2.start, List.map_cons, List.map_nil, List.length_cons, List.length_nil, List.replicate_zero, List.replicate_succ, List.nil_append, List.cons_append, List.append_nil, Nat.add_sub_cancel, Nat.reduceAdd, Nat.reduceSub, Nat.sub_self, Nat.zero_add, List.set_cons_zero, List.set_cons_succ, List.getElem?_cons_zero, List.getElem?_cons_succ, Option.join_some, Option.some.injEq, exists_eq_left', exists_eq_left, exists_and_left, exists_eq, exists_eq', List.cons.injEq, V.ref.injEq, V.int.injEq, V.bl.injEq, V.str.injEq, and_true, true_and, if_true, if_false, decide_eq_true_eq, Bool.not_eq_true', Bool.false_eq_true, reduceCtorEq, scalII, scalNI, scalIN, scalBB, scalSS, scalNN, decide_eq_false_iff_not, V.ty.injEq, and_assoc, tTruth, truBl, rLenL, rLenT, rListOf, rMaxL, rMinL, rSortedL, rEqI, rNeI, rEqII, rNeII, tDisp1, tDGet, tDGet2, tDNotIn, tDIn, sDPut, tDNewT, tMinS, rSumT, rSumV, rSumL, rItems, rValues, tSl, tPart, tNoPart, rSlL, tListRev, tChain, rIsiE, rCount, rIndex, tRaise, vC, tListRng, rSetOf, rSortedS, Int.zero_add]
            exact hB _ _ ⟨rfl, rfl⟩
          obtain ⟨rfl, rfl⟩ := h
          refine seq_cutS (fun σ' H'' => H'' = H' ∧ ∃ dd, σ' = S dd ∧ P2 dd) (fun σ' H'' h => ?_) (fun B hB => ?_)
          rotate_left
          · have hy : (((i : Int) = 4 ∧ 1 < c % 4 ∨ (i : Int) = 9 ∧ c / 4 % 2 = 1)) → B _ (S (some 2)) H' := fun z => hB _ _ ⟨rfl, some 2, rfl, fun _ => rfl, fun w => absurd z w⟩
            have hn : ¬ (((i : Int) = 4 ∧ 1 < c % 4 ∨ (i : Int) = 9 ∧ c / 4 % 2 = 1)) → B _ (S none) H' := fun z => hB _ _ ⟨rfl, none, rfl, fun w => absurd w z, fun _ => rfl⟩
            simp only [S, dueV] at hy hn ⊢
            simp only [tSeq, tIfS, tOr, tAnd, tNot, tTest, tB, tOp, tUn, tCB, tCons, tNil, tVar, tC, rI0, rI, rU, tNever, tNext, tDrop, tRet, tRetN, tAsg, gName, gTup, gCons, gNil, tCall, tBM, tBM0, rAppend, rClear, rPop, tLst, tTup, rIxL, rIxT, rEq, rNe, rCat, tAndV, tOrV, tNotV, tIf, tBreak, tCont, rIsi, CMul, CDiv, cxK, blkK, capSt, L2.start, List.map_cons, List.map_nil, List.length_cons, List.length_nil, List.replicate_zero, List.replicate_succ, List.nil_append, List.cons_append, List.append_nil, Nat.add_sub_cancel, Nat.reduceAdd, Nat.reduceSub, Nat.sub_self, Nat.zero_add, List.set_cons_zero, List.set_cons_succ, List.getElem?_cons_zero, List.getElem?_cons_succ, Option.join_some, Option.some.injEq, exists_eq_left', exists_eq_left, exists_and_left, exists_eq, exists_eq', List.cons.injEq, V.ref.injEq, V.int.injEq, V.bl.injEq, V.str.injEq, and_true, true_and, if_true, if_false, decide_eq_true_eq, Bool.not_eq_true', Bool.false_eq_true, reduceCtorEq, scalII, scalNI, scalIN, scalBB, scalSS, scalNN, decide_eq_false_iff_not, V.ty.injEq, and_assoc, tTruth, truBl, rLenL, rLenT, rListOf, rMaxL, rMinL, rSortedL, rEqI, rNeI, rEqII, rNeII, tDisp1, tDGet, tDGet2, tDNotIn, tDIn, sDPut, tDNewT, tMinS, rSumT, rSumV, rSumL, rItems, rValues, tSl, tPart, tNoPart, rSlL, tListRev, tChain, rIsiE, rCount, rIndex, tRaise, vC, tListRng, rSetOf, rSortedS, Int.zero_add]
            repeat' first
              | refine ite2 (fun _ => ?_) (fun _ => ?_)
              | refine And.intro (by decide) ?_
            all_goals first
              | exact hy (by (first | lia | omega))
              | exact hn (by (first | lia | omega))
              | (exfalso; (first | lia | omega))
          obtain ⟨rfl, dd, rfl, p2⟩ := h
          refine seq_cutS (fun σ' H' => H' = H'' ∧ ∃ dd, σ' = S dd ∧ P3 dd) (fun σ' H' h => ?_) (fun B hB => ?_)
          rotate_left
          · have hy : (4 < (i : Int) ∧ c / 24 % 3 = 1) → B _ (S (some 1)) H'' := fun z => hB _ _ ⟨rfl, some 1, rfl, fun _ => rfl, fun w => absurd z w⟩
            have hn : ¬ (4 < (i : Int) ∧ c / 24 % 3 = 1) → B _ (S dd) H'' := fun z => hB _ _ ⟨rfl, dd, rfl, fun w => absurd w z, fun _ => p2⟩
            simp only [S] at hy hn ⊢
            simp only [tSeq, tIfS, tOr, tAnd, tNot, tTest, tB, tOp, tUn, tCB, tCons, tNil, tVar, tC, rI0, rI, rU, tNever, tNext, tDrop, tRet, tRetN, tAsg, gName, gTup, gCons, gNil, tCall, tBM, tBM0, rAppend, rClear, rPop, tLst, tTup, rIxL, rIxT, rEq, rNe, rCat, tAndV, tOrV, tNotV, tIf, tBreak, tCont, rIsi, CMul, CDiv, cxK, blkK, capSt, L2.start, List.map_cons, List.map_nil, List.length_cons, List.length_nil, List.replicate_zero, List.replicate_succ, List.nil_append, List.cons_append, List.append_nil, Nat.add_sub_cancel, Nat.reduceAdd, Nat.reduceSub, Nat.sub_self, Nat.zero_add, List.set_cons_zero, List.set_cons_succ, List.getElem?_cons_zero, List.getElem?_cons_succ, Option.join_some, Option.some.injEq, exists_eq_left', exists_eq_left, exists_and_left, exists_eq, exists_eq', List.cons.injEq, V.ref.injEq, V.int.injEq, V.bl.injEq, V.str.injEq, and_true, true_and, if_true, if_false, decide_eq_true_eq, Bool.not_eq_true', Bool.false_eq_true, reduceCtorEq, scalII, scalNI, scalIN, scalBB, scalSS, scalNN, decide_eq_false_iff_not, V.ty.injEq, and_assoc, tTruth, truBl, rLenL, rLenT, rListOf, rMaxL, rMinL, rSortedL, rEqI, rNeI, rEqII, rNeII, tDisp1, tDGet, tDGet2, tDNotIn, tDIn, sDPut, tDNewT, tMinS, rSumT, rSumV, rSumL, rItems, rValues, tSl, tPart, tNoPart, rSlL, tListRev, tChain, rIsiE, rCount, rIndex, tRaise, vC, tListRng, rSetOf, rSortedS, Int.zero_add]
            repeat' first
              | refine ite2 (fun _ => ?_) (fun _ => ?_)
              | refine And.intro (by decide) ?_
            all_goals first
              | exact hy (by (first | lia | omega))
              | exact hn (by (first | lia | omega))
              | (exfalso; (first | lia | omega))
          clear p2
          obtain ⟨rfl, dd, rfl, p3⟩ := h
          refine seq_cutS (fun σ' H'' => H'' = H' ∧ ∃ dd, σ' = S dd ∧ P4 dd) (fun σ' H'' h => ?_) (fun B hB => ?_)
          rotate_left
          · have hy : c / 8 % 3 = 1 → B _ (S (some 0)) H' := fun z => hB _ _ ⟨rfl, some 0, rfl, fun _ => rfl, fun w => absurd z w⟩
            have hn : ¬ c / 8 % 3 = 1 → B _ (S dd) H' := fun z => hB _ _ ⟨rfl, dd, rfl, fun w => absurd w z, fun _ => p3⟩
            simp only [S] at hy hn ⊢
            simp only [tSeq, tIfS, tOr, tAnd, tNot, tTest, tB, tOp, tUn, tCB, tCons, tNil, tVar, tC, rI0, rI, rU, tNever, tNext, tDrop, tRet, tRetN, tAsg, gName, gTup, gCons, gNil, tCall, tBM, tBM0, rAppend, rClear, rPop, tLst, tTup, rIxL, rIxT, rEq, rNe, rCat, tAndV, tOrV, tNotV, tIf, tBreak, tCont, rIsi, CMul, CDiv, cxK, blkK, capSt, L2.start, List.map_cons, List.map_nil, List.length_cons, List.length_nil, List.replicate_zero, List.replicate_succ, List.nil_append, List.cons_append, List.append_nil, Nat.add_sub_cancel, Nat.reduceAdd, Nat.reduceSub, Nat.sub_self, Nat.zero_add, List.set_cons_zero, List.set_cons_succ, List.getElem?_cons_zero, List.getElem?_cons_succ, Option.join_some, Option.some.injEq, exists_eq_left', exists_eq_left, exists_and_left, exists_eq, exists_eq', List.cons.injEq, V.ref.injEq, V.int.injEq, V.bl.injEq, V.str.injEq, and_true, true_and, if_true, if_false, decide_eq_true_eq, Bool.not_eq_true', Bool.false_eq_true, reduceCtorEq, scalII, scalNI, scalIN, scalBB, scalSS, scalNN, decide_eq_false_iff_not, V.ty.injEq, and_assoc, tTruth, truBl, rLenL, rLenT, rListOf, rMaxL, rMinL, rSortedL, rEqI, rNeI, rEqII, rNeII, tDisp1, tDGet, tDGet2, tDNotIn, tDIn, sDPut, tDNewT, tMinS, rSumT, rSumV, rSumL, rItems, rValues, tSl, tPart, tNoPart, rSlL, tListRev, tChain, rIsiE, rCount, rIndex, tRaise, vC, tListRng, rSetOf, rSortedS, Int.zero_add]
            exact ite2 (fun z => hy z) (fun z => hn z)
          clear p3
          obtain ⟨rfl, dd, rfl, p4⟩ := h
          have hdd := due dd p4.1 (fun b h4 il => (p4.2 b).1 ⟨h4, il⟩) (fun b h4 hc => ((p4.2 b).2 (fun z => by (first | lia | omega))).1 (.inl ⟨h4, hc⟩)) (fun b h9 nil hc => ((p4.2 b).2 (fun z => nil z.2)).1 (.inr ⟨h9, hc⟩))
            (fun b h1 h2 h3 => ((p4.2 b).2 (fun z => h1 z.1 z.2)).2 (fun z => z.elim (fun y => h2 y.1 y.2) (fun y => h3 y.1 y.2)))
          have lf' := leaf dd hdd
          simp only [S]
          simp only [tSeq, tIfS, tOr, tAnd, tNot, tTest, tB, tOp, tUn, tCB, tCons, tNil, tVar, tC, rI0, rI, rU, tNever, tNext, tDrop, tRet, tRetN, tAsg, gName, gTup, gCons, gNil, tCall, tBM, tBM0, rAppend, rClear, rPop, tLst, tTup, rIxL, rIxT, rEq, rNe, rCat, tAndV, tOrV, tNotV, tIf, tBreak, tCont, rIsi, CMul, CDiv, cxK, blkK, capSt, L2.start, List.map_cons, List.map_nil, List.length_cons, List.length_nil, List.replicate_zero, List.replicate_succ, List.nil_append, List.cons_append, List.append_nil, Nat.add_sub_cancel, Nat.reduceAdd, Nat.reduceSub, Nat.sub_self, Nat.zero_add, List.set_cons_zero, List.set_cons_succ, List.getElem?_cons_zero, List.getElem?_cons_succ, Option.join_some, Option.some.injEq, exists_eq_left', exists_eq_left, exists_and_left, exists_eq, exists_eq', List.cons.injEq, V.ref.injEq, V.int.injEq, V.bl.injEq, V.str.injEq, and_true, true_and, if_true, if_false, decide_eq_true_eq, Bool.not_eq_true', Bool.false_eq_true, reduceCtorEq, scalII, scalNI, scalIN, scalBB, scalSS, scalNN, decide_eq_false_iff_not, V.ty.injEq, and_assoc, tTruth, truBl, rLenL, rLenT, rListOf, rMaxL, rMinL, rSortedL, rEqI, rNeI, rEqII, rNeII, tDisp1, tDGet, tDGet2, tDNotIn, tDIn, sDPut, tDNewT, tMinS, rSumT, rSumV, rSumL, rItems, rValues, tSl, tPart, tNoPart, rSlL, tListRev, tChain, rIsiE, rCount, rIndex, tRaise, vC, tListRng, rSetOf, rSortedS, Int.zero_add]
          exact lf'
        · subst e3
          exact q _
      walk_at "rd"
      refine ite2 (fun hi => ?_) (fun hi => rest2 lf fs H4 S4 r4 f4 (by (first | lia | omega)) (.inr ⟨hi, rfl⟩))
      repeat refine And.intro (by decide) ?_
      refine ⟨lf, _, _, fs, rfl, f4, by (first | lia | omega), by (first | lia | omega), by (first | lia | omega), by (first | lia | omega), fun lf H5 fs2 N5 nf5 m2 => rest2 lf fs2 H5 (S4.trans N5.same) (N5.same _ _ r4) N5.at_ m2 (.inl ⟨hi, nf5⟩)⟩
    walk_at "rd"
    refine ite2 (fun hb => ?_) (fun hb => rest1 lr (r0 :: ls) H3 S3 r3 f3 (by (first | lia | omega)) (.inr ⟨hb, rfl⟩))
    repeat refine And.intro (by decide) ?_
    refine ⟨lr, _, _, r0 :: ls, rfl, r3, hR, by (first | lia | omega), by (first | lia | omega), by (first | lia | omega), fun lr H4 rs2 N4 nr2 l2 => rest1 lr rs2 H4 (S3.trans N4.same) N4.at_ (N4.same _ _ f3) l2 (.inl ⟨hb, nr2⟩)⟩
end
theorem len1 {α : Type} {P : List α → Prop} (h : ∀ x0 : α, P [x0]) : ∀ us : List α, us.length = 1 → P us
  | [x0], _ => h x0
theorem len2 {α : Type} {P : List α → Prop} (h : ∀ x0 x1 : α, P [x0, x1]) : ∀ us : List α, us.length = 2 → P us
  | [x0, x1], _ => h x0 x1
theorem len3 {α : Type} {P : List α → Prop} (h : ∀ x0 x1 x2 : α, P [x0, x1, x2]) : ∀ us : List α, us.length = 3 → P us
  | [x0, x1, x2], _ => h x0 x1 x2
theorem len4 {α : Type} {P : List α → Prop} (h : ∀ x0 x1 x2 x3 : α, P [x0, x1, x2, x3]) : ∀ us : List α, us.length = 4 → P us
  | [x0, x1, x2, x3], _ => h x0 x1 x2 x3
theorem len5 {α : Type} {P : List α → Prop} (h : ∀ x0 x1 x2 x3 x4 : α, P [x0, x1, x2, x3, x4]) : ∀ us : List α, us.length = 5 → P us
  | [x0, x1, x2, x3, x4], _ => h x0 x1 x2 x3 x4
theorem all_mk {l : PySem.W.OpenLaw} {w : World} {K : PySem.W.Frag} {h : Heap} {mg : Str → Option Value} {fa : Addr} (X : K.In h) (G : h.Ns mainGlobals mg) (hfa : mg "law" = some (.ref fa))
    {f_law_alone : Addr} {od_law_alone an_law_alone : Option Addr} {sl_law_alone : Array (Option Value)} {oc_law_alone kV_law_alone dc_law_alone pm_law_alone cd_law_alone ct_law_alone : Value}
    {f_further_reach : Addr} {od_further_reach an_further_reach : Option Addr} {sl_further_reach : Array (Option Value)} {oc_further_reach kV_further_reach dc_further_reach pm_further_reach cd_further_reach ct_further_reach : Value}
    {f_further_counts : Addr} {od_further_counts an_further_counts : Option Addr} {sl_further_counts : Array (Option Value)} {oc_further_counts kV_further_counts dc_further_counts pm_further_counts cd_further_counts ct_further_counts : Value}
    {f_many_beyond : Addr} {od_many_beyond an_many_beyond : Option Addr} {sl_many_beyond : Array (Option Value)} {oc_many_beyond kV_many_beyond dc_many_beyond pm_many_beyond cd_many_beyond ct_many_beyond : Value}
    {f_many_going_on : Addr} {od_many_going_on an_many_going_on : Option Addr} {sl_many_going_on : Array (Option Value)} {oc_many_going_on kV_many_going_on dc_many_going_on pm_many_going_on cd_many_going_on ct_many_going_on : Value}
    {f_first_reach : Addr} {od_first_reach an_first_reach : Option Addr} {sl_first_reach : Array (Option Value)} {oc_first_reach kV_first_reach dc_first_reach pm_first_reach cd_first_reach ct_first_reach : Value}
    {f_check_rule : Addr} {od_check_rule an_check_rule : Option Addr} {sl_check_rule : Array (Option Value)} {oc_check_rule kV_check_rule dc_check_rule pm_check_rule cd_check_rule ct_check_rule : Value}
    {f_check_folding : Addr} {od_check_folding an_check_folding : Option Addr} {sl_check_folding : Array (Option Value)} {oc_check_folding kV_check_folding dc_check_folding pm_check_folding cd_check_folding ct_check_folding : Value}
    {f_joints : Addr} {od_joints an_joints : Option Addr} {sl_joints : Array (Option Value)} {oc_joints kV_joints dc_joints pm_joints cd_joints ct_joints : Value}
    {f_span : Addr} {od_span an_span : Option Addr} {sl_span : Array (Option Value)} {oc_span kV_span dc_span pm_span cd_span ct_span : Value}
    {f_fits : Addr} {od_fits an_fits : Option Addr} {sl_fits : Array (Option Value)} {oc_fits kV_fits dc_fits pm_fits cd_fits ct_fits : Value}
    {f_number_of : Addr} {od_number_of an_number_of : Option Addr} {sl_number_of : Array (Option Value)} {oc_number_of kV_number_of dc_number_of pm_number_of cd_number_of ct_number_of : Value}
    {f_shown : Addr} {od_shown an_shown : Option Addr} {sl_shown : Array (Option Value)} {oc_shown kV_shown dc_shown pm_shown cd_shown ct_shown : Value}
    {f_law_folded_call : Addr} {od_law_folded_call an_law_folded_call : Option Addr} {sl_law_folded_call : Array (Option Value)} {oc_law_folded_call kV_law_folded_call dc_law_folded_call pm_law_folded_call cd_law_folded_call ct_law_folded_call : Value}
    {f_many_fits : Addr} {od_many_fits an_many_fits : Option Addr} {sl_many_fits : Array (Option Value)} {oc_many_fits kV_many_fits dc_many_fits pm_many_fits cd_many_fits ct_many_fits : Value}
    {f_folding_at : Addr} {od_folding_at an_folding_at : Option Addr} {sl_folding_at : Array (Option Value)} {oc_folding_at kV_folding_at dc_folding_at pm_folding_at cd_folding_at ct_folding_at : Value}
    {f_by_half : Addr} {od_by_half an_by_half : Option Addr} {sl_by_half : Array (Option Value)} {oc_by_half kV_by_half dc_by_half pm_by_half cd_by_half ct_by_half : Value}
    {f_further_firsts : Addr} {od_further_firsts an_further_firsts : Option Addr} {sl_further_firsts : Array (Option Value)} {oc_further_firsts kV_further_firsts dc_further_firsts pm_further_firsts cd_further_firsts ct_further_firsts : Value}
    {f_shortest_case : Addr} {od_shortest_case an_shortest_case : Option Addr} {sl_shortest_case : Array (Option Value)} {oc_shortest_case kV_shortest_case dc_shortest_case pm_shortest_case cd_shortest_case ct_shortest_case : Value}
    {f_places_behind : Addr} {od_places_behind an_places_behind : Option Addr} {sl_places_behind : Array (Option Value)} {oc_places_behind kV_places_behind dc_places_behind pm_places_behind cd_places_behind ct_places_behind : Value}
    {f_reachable : Addr} {od_reachable an_reachable : Option Addr} {sl_reachable : Array (Option Value)} {oc_reachable kV_reachable dc_reachable pm_reachable cd_reachable ct_reachable : Value}
    {f_law_whole_call : Addr} {od_law_whole_call an_law_whole_call : Option Addr} {sl_law_whole_call : Array (Option Value)} {oc_law_whole_call kV_law_whole_call dc_law_whole_call pm_law_whole_call cd_law_whole_call ct_law_whole_call : Value}
    {f_law_refused : Addr} {od_law_refused an_law_refused : Option Addr} {sl_law_refused : Array (Option Value)} {oc_law_refused kV_law_refused dc_law_refused pm_law_refused cd_law_refused ct_law_refused : Value}
    {f_law_bad_folding : Addr} {od_law_bad_folding an_law_bad_folding : Option Addr} {sl_law_bad_folding : Array (Option Value)} {oc_law_bad_folding kV_law_bad_folding dc_law_bad_folding pm_law_bad_folding cd_law_bad_folding ct_law_bad_folding : Value}
    {f_law_bad_rule : Addr} {od_law_bad_rule an_law_bad_rule : Option Addr} {sl_law_bad_rule : Array (Option Value)} {oc_law_bad_rule kV_law_bad_rule dc_law_bad_rule pm_law_bad_rule cd_law_bad_rule ct_law_bad_rule : Value}
    {f_law_joints : Addr} {od_law_joints an_law_joints : Option Addr} {sl_law_joints : Array (Option Value)} {oc_law_joints kV_law_joints dc_law_joints pm_law_joints cd_law_joints ct_law_joints : Value}
    {f_law_span : Addr} {od_law_span an_law_span : Option Addr} {sl_law_span : Array (Option Value)} {oc_law_span kV_law_span dc_law_span pm_law_span cd_law_span ct_law_span : Value}
    {f_law_cell_at : Addr} {od_law_cell_at an_law_cell_at : Option Addr} {sl_law_cell_at : Array (Option Value)} {oc_law_cell_at kV_law_cell_at dc_law_cell_at pm_law_cell_at cd_law_cell_at ct_law_cell_at : Value}
    {f_law_draw : Addr} {od_law_draw an_law_draw : Option Addr} {sl_law_draw : Array (Option Value)} {oc_law_draw kV_law_draw dc_law_draw pm_law_draw cd_law_draw ct_law_draw : Value}
    {f_law_folding : Addr} {od_law_folding an_law_folding : Option Addr} {sl_law_folding : Array (Option Value)} {oc_law_folding kV_law_folding dc_law_folding pm_law_folding cd_law_folding ct_law_folding : Value}
    {f_law_rule : Addr} {od_law_rule an_law_rule : Option Addr} {sl_law_rule : Array (Option Value)} {oc_law_rule kV_law_rule dc_law_rule pm_law_rule cd_law_rule ct_law_rule : Value}
    {f_law : Addr} {od_law an_law : Option Addr} {sl_law : Array (Option Value)} {oc_law kV_law dc_law pm_law cd_law ct_law : Value}
    {t_LONGEST_PIECE : Tok}
    {t_MOST_PIECES : Tok}
    (a_law_alone : PySem.W.nsIn K mainGlobals "_law_alone" = some (some (.ref f_law_alone)))
    (l_law_alone : K.lookup f_law_alone = some ⟨oc_law_alone, od_law_alone, .func (PySem.W.fnOf "_law_alone" "_law_alone" (defArgs s_law_alone) (defBody s_law_alone) (defScope s_law_alone) .none kV_law_alone dc_law_alone pm_law_alone an_law_alone cd_law_alone ct_law_alone), sl_law_alone⟩)
    (c_law_alone : PySem.W.codeIn K cd_law_alone "_law_alone" = true)
    (k_law_alone : PySem.W.keepIn K (.ref f_law_alone) = true)
    (a_further_reach : PySem.W.nsIn K mainGlobals "further_reach" = some (some (.ref f_further_reach)))
    (l_further_reach : K.lookup f_further_reach = some ⟨oc_further_reach, od_further_reach, .func (PySem.W.fnOf "further_reach" "further_reach" (defArgs s_further_reach) (defBody s_further_reach) (defScope s_further_reach) .none kV_further_reach dc_further_reach pm_further_reach an_further_reach cd_further_reach ct_further_reach), sl_further_reach⟩)
    (c_further_reach : PySem.W.codeIn K cd_further_reach "further_reach" = true)
    (k_further_reach : PySem.W.keepIn K (.ref f_further_reach) = true)
    (a_further_counts : PySem.W.nsIn K mainGlobals "further_counts" = some (some (.ref f_further_counts)))
    (l_further_counts : K.lookup f_further_counts = some ⟨oc_further_counts, od_further_counts, .func (PySem.W.fnOf "further_counts" "further_counts" (defArgs s_further_counts) (defBody s_further_counts) (defScope s_further_counts) .none kV_further_counts dc_further_counts pm_further_counts an_further_counts cd_further_counts ct_further_counts), sl_further_counts⟩)
    (c_further_counts : PySem.W.codeIn K cd_further_counts "further_counts" = true)
    (k_further_counts : PySem.W.keepIn K (.ref f_further_counts) = true)
    (a_many_beyond : PySem.W.nsIn K mainGlobals "many_beyond" = some (some (.ref f_many_beyond)))
    (l_many_beyond : K.lookup f_many_beyond = some ⟨oc_many_beyond, od_many_beyond, .func (PySem.W.fnOf "many_beyond" "many_beyond" (defArgs s_many_beyond) (defBody s_many_beyond) (defScope s_many_beyond) .none kV_many_beyond dc_many_beyond pm_many_beyond an_many_beyond cd_many_beyond ct_many_beyond), sl_many_beyond⟩)
    (c_many_beyond : PySem.W.codeIn K cd_many_beyond "many_beyond" = true)
    (k_many_beyond : PySem.W.keepIn K (.ref f_many_beyond) = true)
    (a_many_going_on : PySem.W.nsIn K mainGlobals "many_going_on" = some (some (.ref f_many_going_on)))
    (l_many_going_on : K.lookup f_many_going_on = some ⟨oc_many_going_on, od_many_going_on, .func (PySem.W.fnOf "many_going_on" "many_going_on" (defArgs s_many_going_on) (defBody s_many_going_on) (defScope s_many_going_on) .none kV_many_going_on dc_many_going_on pm_many_going_on an_many_going_on cd_many_going_on ct_many_going_on), sl_many_going_on⟩)
    (c_many_going_on : PySem.W.codeIn K cd_many_going_on "many_going_on" = true)
    (k_many_going_on : PySem.W.keepIn K (.ref f_many_going_on) = true)
    (a_first_reach : PySem.W.nsIn K mainGlobals "first_reach" = some (some (.ref f_first_reach)))
    (l_first_reach : K.lookup f_first_reach = some ⟨oc_first_reach, od_first_reach, .func (PySem.W.fnOf "first_reach" "first_reach" (defArgs s_first_reach) (defBody s_first_reach) (defScope s_first_reach) .none kV_first_reach dc_first_reach pm_first_reach an_first_reach cd_first_reach ct_first_reach), sl_first_reach⟩)
    (c_first_reach : PySem.W.codeIn K cd_first_reach "first_reach" = true)
    (k_first_reach : PySem.W.keepIn K (.ref f_first_reach) = true)
    (a_check_rule : PySem.W.nsIn K mainGlobals "check_rule" = some (some (.ref f_check_rule)))
    (l_check_rule : K.lookup f_check_rule = some ⟨oc_check_rule, od_check_rule, .func (PySem.W.fnOf "check_rule" "check_rule" (defArgs s_check_rule) (defBody s_check_rule) (defScope s_check_rule) .none kV_check_rule dc_check_rule pm_check_rule an_check_rule cd_check_rule ct_check_rule), sl_check_rule⟩)
    (c_check_rule : PySem.W.codeIn K cd_check_rule "check_rule" = true)
    (k_check_rule : PySem.W.keepIn K (.ref f_check_rule) = true)
    (a_check_folding : PySem.W.nsIn K mainGlobals "check_folding" = some (some (.ref f_check_folding)))
    (l_check_folding : K.lookup f_check_folding = some ⟨oc_check_folding, od_check_folding, .func (PySem.W.fnOf "check_folding" "check_folding" (defArgs s_check_folding) (defBody s_check_folding) (defScope s_check_folding) .none kV_check_folding dc_check_folding pm_check_folding an_check_folding cd_check_folding ct_check_folding), sl_check_folding⟩)
    (c_check_folding : PySem.W.codeIn K cd_check_folding "check_folding" = true)
    (k_check_folding : PySem.W.keepIn K (.ref f_check_folding) = true)
    (a_joints : PySem.W.nsIn K mainGlobals "joints" = some (some (.ref f_joints)))
    (l_joints : K.lookup f_joints = some ⟨oc_joints, od_joints, .func (PySem.W.fnOf "joints" "joints" (defArgs s_joints) (defBody s_joints) (defScope s_joints) .none kV_joints dc_joints pm_joints an_joints cd_joints ct_joints), sl_joints⟩)
    (c_joints : PySem.W.codeIn K cd_joints "joints" = true)
    (k_joints : PySem.W.keepIn K (.ref f_joints) = true)
    (a_span : PySem.W.nsIn K mainGlobals "span" = some (some (.ref f_span)))
    (l_span : K.lookup f_span = some ⟨oc_span, od_span, .func (PySem.W.fnOf "span" "span" (defArgs s_span) (defBody s_span) (defScope s_span) .none kV_span dc_span pm_span an_span cd_span ct_span), sl_span⟩)
    (c_span : PySem.W.codeIn K cd_span "span" = true)
    (k_span : PySem.W.keepIn K (.ref f_span) = true)
    (a_fits : PySem.W.nsIn K mainGlobals "fits" = some (some (.ref f_fits)))
    (l_fits : K.lookup f_fits = some ⟨oc_fits, od_fits, .func (PySem.W.fnOf "fits" "fits" (defArgs s_fits) (defBody s_fits) (defScope s_fits) .none kV_fits dc_fits pm_fits an_fits cd_fits ct_fits), sl_fits⟩)
    (c_fits : PySem.W.codeIn K cd_fits "fits" = true)
    (k_fits : PySem.W.keepIn K (.ref f_fits) = true)
    (a_number_of : PySem.W.nsIn K mainGlobals "number_of" = some (some (.ref f_number_of)))
    (l_number_of : K.lookup f_number_of = some ⟨oc_number_of, od_number_of, .func (PySem.W.fnOf "number_of" "number_of" (defArgs s_number_of) (defBody s_number_of) (defScope s_number_of) .none kV_number_of dc_number_of pm_number_of an_number_of cd_number_of ct_number_of), sl_number_of⟩)
    (c_number_of : PySem.W.codeIn K cd_number_of "number_of" = true)
    (k_number_of : PySem.W.keepIn K (.ref f_number_of) = true)
    (a_shown : PySem.W.nsIn K mainGlobals "shown" = some (some (.ref f_shown)))
    (l_shown : K.lookup f_shown = some ⟨oc_shown, od_shown, .func (PySem.W.fnOf "shown" "shown" (defArgs s_shown) (defBody s_shown) (defScope s_shown) .none kV_shown dc_shown pm_shown an_shown cd_shown ct_shown), sl_shown⟩)
    (c_shown : PySem.W.codeIn K cd_shown "shown" = true)
    (k_shown : PySem.W.keepIn K (.ref f_shown) = true)
    (a_law_folded_call : PySem.W.nsIn K mainGlobals "_law_folded_call" = some (some (.ref f_law_folded_call)))
    (l_law_folded_call : K.lookup f_law_folded_call = some ⟨oc_law_folded_call, od_law_folded_call, .func (PySem.W.fnOf "_law_folded_call" "_law_folded_call" (defArgs s_law_folded_call) (defBody s_law_folded_call) (defScope s_law_folded_call) .none kV_law_folded_call dc_law_folded_call pm_law_folded_call an_law_folded_call cd_law_folded_call ct_law_folded_call), sl_law_folded_call⟩)
    (c_law_folded_call : PySem.W.codeIn K cd_law_folded_call "_law_folded_call" = true)
    (k_law_folded_call : PySem.W.keepIn K (.ref f_law_folded_call) = true)
    (a_many_fits : PySem.W.nsIn K mainGlobals "many_fits" = some (some (.ref f_many_fits)))
    (l_many_fits : K.lookup f_many_fits = some ⟨oc_many_fits, od_many_fits, .func (PySem.W.fnOf "many_fits" "many_fits" (defArgs s_many_fits) (defBody s_many_fits) (defScope s_many_fits) .none kV_many_fits dc_many_fits pm_many_fits an_many_fits cd_many_fits ct_many_fits), sl_many_fits⟩)
    (c_many_fits : PySem.W.codeIn K cd_many_fits "many_fits" = true)
    (k_many_fits : PySem.W.keepIn K (.ref f_many_fits) = true)
    (a_folding_at : PySem.W.nsIn K mainGlobals "folding_at" = some (some (.ref f_folding_at)))
    (l_folding_at : K.lookup f_folding_at = some ⟨oc_folding_at, od_folding_at, .func (PySem.W.fnOf "folding_at" "folding_at" (defArgs s_folding_at) (defBody s_folding_at) (defScope s_folding_at) .none kV_folding_at dc_folding_at pm_folding_at an_folding_at cd_folding_at ct_folding_at), sl_folding_at⟩)
    (c_folding_at : PySem.W.codeIn K cd_folding_at "folding_at" = true)
    (k_folding_at : PySem.W.keepIn K (.ref f_folding_at) = true)
    (a_by_half : PySem.W.nsIn K mainGlobals "by_half" = some (some (.ref f_by_half)))
    (l_by_half : K.lookup f_by_half = some ⟨oc_by_half, od_by_half, .func (PySem.W.fnOf "by_half" "by_half" (defArgs s_by_half) (defBody s_by_half) (defScope s_by_half) .none kV_by_half dc_by_half pm_by_half an_by_half cd_by_half ct_by_half), sl_by_half⟩)
    (c_by_half : PySem.W.codeIn K cd_by_half "by_half" = true)
    (k_by_half : PySem.W.keepIn K (.ref f_by_half) = true)
    (a_further_firsts : PySem.W.nsIn K mainGlobals "further_firsts" = some (some (.ref f_further_firsts)))
    (l_further_firsts : K.lookup f_further_firsts = some ⟨oc_further_firsts, od_further_firsts, .func (PySem.W.fnOf "further_firsts" "further_firsts" (defArgs s_further_firsts) (defBody s_further_firsts) (defScope s_further_firsts) .none kV_further_firsts dc_further_firsts pm_further_firsts an_further_firsts cd_further_firsts ct_further_firsts), sl_further_firsts⟩)
    (c_further_firsts : PySem.W.codeIn K cd_further_firsts "further_firsts" = true)
    (k_further_firsts : PySem.W.keepIn K (.ref f_further_firsts) = true)
    (a_shortest_case : PySem.W.nsIn K mainGlobals "shortest_case" = some (some (.ref f_shortest_case)))
    (l_shortest_case : K.lookup f_shortest_case = some ⟨oc_shortest_case, od_shortest_case, .func (PySem.W.fnOf "shortest_case" "shortest_case" (defArgs s_shortest_case) (defBody s_shortest_case) (defScope s_shortest_case) .none kV_shortest_case dc_shortest_case pm_shortest_case an_shortest_case cd_shortest_case ct_shortest_case), sl_shortest_case⟩)
    (c_shortest_case : PySem.W.codeIn K cd_shortest_case "shortest_case" = true)
    (k_shortest_case : PySem.W.keepIn K (.ref f_shortest_case) = true)
    (a_places_behind : PySem.W.nsIn K mainGlobals "places_behind" = some (some (.ref f_places_behind)))
    (l_places_behind : K.lookup f_places_behind = some ⟨oc_places_behind, od_places_behind, .func (PySem.W.fnOf "places_behind" "places_behind" (defArgs s_places_behind) (defBody s_places_behind) (defScope s_places_behind) .none kV_places_behind dc_places_behind pm_places_behind an_places_behind cd_places_behind ct_places_behind), sl_places_behind⟩)
    (c_places_behind : PySem.W.codeIn K cd_places_behind "places_behind" = true)
    (k_places_behind : PySem.W.keepIn K (.ref f_places_behind) = true)
    (a_reachable : PySem.W.nsIn K mainGlobals "reachable" = some (some (.ref f_reachable)))
    (l_reachable : K.lookup f_reachable = some ⟨oc_reachable, od_reachable, .func (PySem.W.fnOf "reachable" "reachable" (defArgs s_reachable) (defBody s_reachable) (defScope s_reachable) .none kV_reachable dc_reachable pm_reachable an_reachable cd_reachable ct_reachable), sl_reachable⟩)
    (c_reachable : PySem.W.codeIn K cd_reachable "reachable" = true)
    (k_reachable : PySem.W.keepIn K (.ref f_reachable) = true)
    (a_law_whole_call : PySem.W.nsIn K mainGlobals "_law_whole_call" = some (some (.ref f_law_whole_call)))
    (l_law_whole_call : K.lookup f_law_whole_call = some ⟨oc_law_whole_call, od_law_whole_call, .func (PySem.W.fnOf "_law_whole_call" "_law_whole_call" (defArgs s_law_whole_call) (defBody s_law_whole_call) (defScope s_law_whole_call) .none kV_law_whole_call dc_law_whole_call pm_law_whole_call an_law_whole_call cd_law_whole_call ct_law_whole_call), sl_law_whole_call⟩)
    (c_law_whole_call : PySem.W.codeIn K cd_law_whole_call "_law_whole_call" = true)
    (k_law_whole_call : PySem.W.keepIn K (.ref f_law_whole_call) = true)
    (a_law_refused : PySem.W.nsIn K mainGlobals "_law_refused" = some (some (.ref f_law_refused)))
    (l_law_refused : K.lookup f_law_refused = some ⟨oc_law_refused, od_law_refused, .func (PySem.W.fnOf "_law_refused" "_law_refused" (defArgs s_law_refused) (defBody s_law_refused) (defScope s_law_refused) .none kV_law_refused dc_law_refused pm_law_refused an_law_refused cd_law_refused ct_law_refused), sl_law_refused⟩)
    (c_law_refused : PySem.W.codeIn K cd_law_refused "_law_refused" = true)
    (k_law_refused : PySem.W.keepIn K (.ref f_law_refused) = true)
    (a_law_bad_folding : PySem.W.nsIn K mainGlobals "_law_bad_folding" = some (some (.ref f_law_bad_folding)))
    (l_law_bad_folding : K.lookup f_law_bad_folding = some ⟨oc_law_bad_folding, od_law_bad_folding, .func (PySem.W.fnOf "_law_bad_folding" "_law_bad_folding" (defArgs s_law_bad_folding) (defBody s_law_bad_folding) (defScope s_law_bad_folding) .none kV_law_bad_folding dc_law_bad_folding pm_law_bad_folding an_law_bad_folding cd_law_bad_folding ct_law_bad_folding), sl_law_bad_folding⟩)
    (c_law_bad_folding : PySem.W.codeIn K cd_law_bad_folding "_law_bad_folding" = true)
    (k_law_bad_folding : PySem.W.keepIn K (.ref f_law_bad_folding) = true)
    (a_law_bad_rule : PySem.W.nsIn K mainGlobals "_law_bad_rule" = some (some (.ref f_law_bad_rule)))
    (l_law_bad_rule : K.lookup f_law_bad_rule = some ⟨oc_law_bad_rule, od_law_bad_rule, .func (PySem.W.fnOf "_law_bad_rule" "_law_bad_rule" (defArgs s_law_bad_rule) (defBody s_law_bad_rule) (defScope s_law_bad_rule) .none kV_law_bad_rule dc_law_bad_rule pm_law_bad_rule an_law_bad_rule cd_law_bad_rule ct_law_bad_rule), sl_law_bad_rule⟩)
    (c_law_bad_rule : PySem.W.codeIn K cd_law_bad_rule "_law_bad_rule" = true)
    (k_law_bad_rule : PySem.W.keepIn K (.ref f_law_bad_rule) = true)
    (a_law_joints : PySem.W.nsIn K mainGlobals "_law_joints" = some (some (.ref f_law_joints)))
    (l_law_joints : K.lookup f_law_joints = some ⟨oc_law_joints, od_law_joints, .func (PySem.W.fnOf "_law_joints" "_law_joints" (defArgs s_law_joints) (defBody s_law_joints) (defScope s_law_joints) .none kV_law_joints dc_law_joints pm_law_joints an_law_joints cd_law_joints ct_law_joints), sl_law_joints⟩)
    (c_law_joints : PySem.W.codeIn K cd_law_joints "_law_joints" = true)
    (k_law_joints : PySem.W.keepIn K (.ref f_law_joints) = true)
    (a_law_span : PySem.W.nsIn K mainGlobals "_law_span" = some (some (.ref f_law_span)))
    (l_law_span : K.lookup f_law_span = some ⟨oc_law_span, od_law_span, .func (PySem.W.fnOf "_law_span" "_law_span" (defArgs s_law_span) (defBody s_law_span) (defScope s_law_span) .none kV_law_span dc_law_span pm_law_span an_law_span cd_law_span ct_law_span), sl_law_span⟩)
    (c_law_span : PySem.W.codeIn K cd_law_span "_law_span" = true)
    (k_law_span : PySem.W.keepIn K (.ref f_law_span) = true)
    (a_law_cell_at : PySem.W.nsIn K mainGlobals "_law_cell_at" = some (some (.ref f_law_cell_at)))
    (l_law_cell_at : K.lookup f_law_cell_at = some ⟨oc_law_cell_at, od_law_cell_at, .func (PySem.W.fnOf "_law_cell_at" "_law_cell_at" (defArgs s_law_cell_at) (defBody s_law_cell_at) (defScope s_law_cell_at) .none kV_law_cell_at dc_law_cell_at pm_law_cell_at an_law_cell_at cd_law_cell_at ct_law_cell_at), sl_law_cell_at⟩)
    (c_law_cell_at : PySem.W.codeIn K cd_law_cell_at "_law_cell_at" = true)
    (k_law_cell_at : PySem.W.keepIn K (.ref f_law_cell_at) = true)
    (a_law_draw : PySem.W.nsIn K mainGlobals "_law_draw" = some (some (.ref f_law_draw)))
    (l_law_draw : K.lookup f_law_draw = some ⟨oc_law_draw, od_law_draw, .func (PySem.W.fnOf "_law_draw" "_law_draw" (defArgs s_law_draw) (defBody s_law_draw) (defScope s_law_draw) .none kV_law_draw dc_law_draw pm_law_draw an_law_draw cd_law_draw ct_law_draw), sl_law_draw⟩)
    (c_law_draw : PySem.W.codeIn K cd_law_draw "_law_draw" = true)
    (k_law_draw : PySem.W.keepIn K (.ref f_law_draw) = true)
    (a_law_folding : PySem.W.nsIn K mainGlobals "_law_folding" = some (some (.ref f_law_folding)))
    (l_law_folding : K.lookup f_law_folding = some ⟨oc_law_folding, od_law_folding, .func (PySem.W.fnOf "_law_folding" "_law_folding" (defArgs s_law_folding) (defBody s_law_folding) (defScope s_law_folding) .none kV_law_folding dc_law_folding pm_law_folding an_law_folding cd_law_folding ct_law_folding), sl_law_folding⟩)
    (c_law_folding : PySem.W.codeIn K cd_law_folding "_law_folding" = true)
    (k_law_folding : PySem.W.keepIn K (.ref f_law_folding) = true)
    (a_law_rule : PySem.W.nsIn K mainGlobals "_law_rule" = some (some (.ref f_law_rule)))
    (l_law_rule : K.lookup f_law_rule = some ⟨oc_law_rule, od_law_rule, .func (PySem.W.fnOf "_law_rule" "_law_rule" (defArgs s_law_rule) (defBody s_law_rule) (defScope s_law_rule) .none kV_law_rule dc_law_rule pm_law_rule an_law_rule cd_law_rule ct_law_rule), sl_law_rule⟩)
    (c_law_rule : PySem.W.codeIn K cd_law_rule "_law_rule" = true)
    (k_law_rule : PySem.W.keepIn K (.ref f_law_rule) = true)
    (a_law : PySem.W.nsIn K mainGlobals "law" = some (some (.ref f_law)))
    (l_law : K.lookup f_law = some ⟨oc_law, od_law, .func (PySem.W.fnOf "law" "law" (defArgs s_law) (defBody s_law) (defScope s_law) .none kV_law dc_law pm_law an_law cd_law ct_law), sl_law⟩)
    (c_law : PySem.W.codeIn K cd_law "law" = true)
    (k_law : PySem.W.keepIn K (.ref f_law) = true)
    (z_isinstance : PySem.W.nsIn K mainGlobals "isinstance" = some none)
    (z_ValueError : PySem.W.nsIn K mainGlobals "ValueError" = some none)
    (z_max : PySem.W.nsIn K mainGlobals "max" = some none)
    (z_sum : PySem.W.nsIn K mainGlobals "sum" = some none)
    (z_len : PySem.W.nsIn K mainGlobals "len" = some none)
    (z_zip : PySem.W.nsIn K mainGlobals "zip" = some none)
    (z_min : PySem.W.nsIn K mainGlobals "min" = some none)
    (z_enumerate : PySem.W.nsIn K mainGlobals "enumerate" = some none)
    (z_str : PySem.W.nsIn K mainGlobals "str" = some none)
    (z_range : PySem.W.nsIn K mainGlobals "range" = some none)
    (z_sorted : PySem.W.nsIn K mainGlobals "sorted" = some none)
    (z_set : PySem.W.nsIn K mainGlobals "set" = some none)
    (z_list : PySem.W.nsIn K mainGlobals "list" = some none)
    (e_rr : errB K = true)
    (g_LONGEST_PIECE : PySem.W.nsIn K mainGlobals "LONGEST_PIECE" = some (some (.int 60 t_LONGEST_PIECE)))
    (g_MOST_PIECES : PySem.W.nsIn K mainGlobals "MOST_PIECES" = some (some (.int 12 t_MOST_PIECES))) :
    ∃ fd : FuncData, (∀ (s : Shared) (v : Value), BindsTo s fd ⟨[v], []⟩ [("script", v)]) ∧ ∀ base : Heap, K.In base → base.Ns mainGlobals mg → FnOk l.prog w K mg base (CXE l.prog w) 9 fa fd ["script"] (sp_law K) := by
  have e := hfa.symm.trans (PySem.W.mg_of X G a_law)
  cases e
  have F_law_alone := fun_mk (st := s_law_alone) l_law_alone c_law_alone k_law_alone
  have m_law_alone := PySem.W.mg_of X G a_law_alone
  have b_law_alone := F_law_alone.binds (ps := ["e"]) fun _ _ _ _ _ _ us hl => len1 (P := fun us => bindArgs _ { pos := us } = pure (List.zip _ us)) (fun _ => rfl) us hl
  have F_further_reach := fun_mk (st := s_further_reach) l_further_reach c_further_reach k_further_reach
  have m_further_reach := PySem.W.mg_of X G a_further_reach
  have b_further_reach := F_further_reach.binds (ps := ["reach", "turn", "length"]) fun _ _ _ _ _ _ us hl => len3 (P := fun us => bindArgs _ { pos := us } = pure (List.zip _ us)) (fun _ _ _ => rfl) us hl
  have F_further_counts := fun_mk (st := s_further_counts) l_further_counts c_further_counts k_further_counts
  have m_further_counts := PySem.W.mg_of X G a_further_counts
  have b_further_counts := F_further_counts.binds (ps := ["counts", "length", "case"]) fun _ _ _ _ _ _ us hl => len3 (P := fun us => bindArgs _ { pos := us } = pure (List.zip _ us)) (fun _ _ _ => rfl) us hl
  have F_many_beyond := fun_mk (st := s_many_beyond) l_many_beyond c_many_beyond k_many_beyond
  have m_many_beyond := PySem.W.mg_of X G a_many_beyond
  have b_many_beyond := F_many_beyond.binds (ps := ["reach", "lengths", "case"]) fun _ _ _ _ _ _ us hl => len3 (P := fun us => bindArgs _ { pos := us } = pure (List.zip _ us)) (fun _ _ _ => rfl) us hl
  have F_many_going_on := fun_mk (st := s_many_going_on) l_many_going_on c_many_going_on k_many_going_on
  have m_many_going_on := PySem.W.mg_of X G a_many_going_on
  have b_many_going_on := F_many_going_on.binds (ps := ["rule", "case", "reach", "hinge"]) fun _ _ _ _ _ _ us hl => len4 (P := fun us => bindArgs _ { pos := us } = pure (List.zip _ us)) (fun _ _ _ _ => rfl) us hl
  have F_first_reach := fun_mk (st := s_first_reach) l_first_reach c_first_reach k_first_reach
  have m_first_reach := PySem.W.mg_of X G a_first_reach
  have b_first_reach := F_first_reach.binds (ps := ["rule"]) fun _ _ _ _ _ _ us hl => len1 (P := fun us => bindArgs _ { pos := us } = pure (List.zip _ us)) (fun _ => rfl) us hl
  have F_check_rule := fun_mk (st := s_check_rule) l_check_rule c_check_rule k_check_rule
  have m_check_rule := PySem.W.mg_of X G a_check_rule
  have b_check_rule := F_check_rule.binds (ps := ["rule"]) fun _ _ _ _ _ _ us hl => len1 (P := fun us => bindArgs _ { pos := us } = pure (List.zip _ us)) (fun _ => rfl) us hl
  have F_check_folding := fun_mk (st := s_check_folding) l_check_folding c_check_folding k_check_folding
  have m_check_folding := PySem.W.mg_of X G a_check_folding
  have b_check_folding := F_check_folding.binds (ps := ["rule", "folding"]) fun _ _ _ _ _ _ us hl => len2 (P := fun us => bindArgs _ { pos := us } = pure (List.zip _ us)) (fun _ _ => rfl) us hl
  have F_joints := fun_mk (st := s_joints) l_joints c_joints k_joints
  have m_joints := PySem.W.mg_of X G a_joints
  have b_joints := F_joints.binds (ps := ["rule", "folding"]) fun _ _ _ _ _ _ us hl => len2 (P := fun us => bindArgs _ { pos := us } = pure (List.zip _ us)) (fun _ _ => rfl) us hl
  have F_span := fun_mk (st := s_span) l_span c_span k_span
  have m_span := PySem.W.mg_of X G a_span
  have b_span := F_span.binds (ps := ["rule", "folding"]) fun _ _ _ _ _ _ us hl => len2 (P := fun us => bindArgs _ { pos := us } = pure (List.zip _ us)) (fun _ _ => rfl) us hl
  have F_fits := fun_mk (st := s_fits) l_fits c_fits k_fits
  have m_fits := PySem.W.mg_of X G a_fits
  have b_fits := F_fits.binds (ps := ["rule", "folding", "case"]) fun _ _ _ _ _ _ us hl => len3 (P := fun us => bindArgs _ { pos := us } = pure (List.zip _ us)) (fun _ _ _ => rfl) us hl
  have F_number_of := fun_mk (st := s_number_of) l_number_of c_number_of k_number_of
  have m_number_of := PySem.W.mg_of X G a_number_of
  have b_number_of := F_number_of.binds (ps := ["rule", "case", "folding"]) fun _ _ _ _ _ _ us hl => len3 (P := fun us => bindArgs _ { pos := us } = pure (List.zip _ us)) (fun _ _ _ => rfl) us hl
  have F_shown := fun_mk (st := s_shown) l_shown c_shown k_shown
  have m_shown := PySem.W.mg_of X G a_shown
  have b_shown := F_shown.binds (ps := ["rule", "folding"]) fun _ _ _ _ _ _ us hl => len2 (P := fun us => bindArgs _ { pos := us } = pure (List.zip _ us)) (fun _ _ => rfl) us hl
  have F_law_folded_call := fun_mk (st := s_law_folded_call) l_law_folded_call c_law_folded_call k_law_folded_call
  have m_law_folded_call := PySem.W.mg_of X G a_law_folded_call
  have b_law_folded_call := F_law_folded_call.binds (ps := ["call", "rule", "folding", "case"]) fun _ _ _ _ _ _ us hl => len4 (P := fun us => bindArgs _ { pos := us } = pure (List.zip _ us)) (fun _ _ _ _ => rfl) us hl
  have F_many_fits := fun_mk (st := s_many_fits) l_many_fits c_many_fits k_many_fits
  have m_many_fits := PySem.W.mg_of X G a_many_fits
  have b_many_fits := F_many_fits.binds (ps := ["rule", "case"]) fun _ _ _ _ _ _ us hl => len2 (P := fun us => bindArgs _ { pos := us } = pure (List.zip _ us)) (fun _ _ => rfl) us hl
  have F_folding_at := fun_mk (st := s_folding_at) l_folding_at c_folding_at k_folding_at
  have m_folding_at := PySem.W.mg_of X G a_folding_at
  have b_folding_at := F_folding_at.binds (ps := ["rule", "case", "number"]) fun _ _ _ _ _ _ us hl => len3 (P := fun us => bindArgs _ { pos := us } = pure (List.zip _ us)) (fun _ _ _ => rfl) us hl
  have F_by_half := fun_mk (st := s_by_half) l_by_half c_by_half k_by_half
  have m_by_half := PySem.W.mg_of X G a_by_half
  have b_by_half := F_by_half.binds (ps := ["rule"]) fun _ _ _ _ _ _ us hl => len1 (P := fun us => bindArgs _ { pos := us } = pure (List.zip _ us)) (fun _ => rfl) us hl
  have F_further_firsts := fun_mk (st := s_further_firsts) l_further_firsts c_further_firsts k_further_firsts
  have m_further_firsts := PySem.W.mg_of X G a_further_firsts
  have b_further_firsts := F_further_firsts.binds (ps := ["firsts", "length", "case"]) fun _ _ _ _ _ _ us hl => len3 (P := fun us => bindArgs _ { pos := us } = pure (List.zip _ us)) (fun _ _ _ => rfl) us hl
  have F_shortest_case := fun_mk (st := s_shortest_case) l_shortest_case c_shortest_case k_shortest_case
  have m_shortest_case := PySem.W.mg_of X G a_shortest_case
  have b_shortest_case := F_shortest_case.binds (ps := ["rule"]) fun _ _ _ _ _ _ us hl => len1 (P := fun us => bindArgs _ { pos := us } = pure (List.zip _ us)) (fun _ => rfl) us hl
  have F_places_behind := fun_mk (st := s_places_behind) l_places_behind c_places_behind k_places_behind
  have m_places_behind := PySem.W.mg_of X G a_places_behind
  have b_places_behind := F_places_behind.binds (ps := ["places", "length", "case"]) fun _ _ _ _ _ _ us hl => len3 (P := fun us => bindArgs _ { pos := us } = pure (List.zip _ us)) (fun _ _ _ => rfl) us hl
  have F_reachable := fun_mk (st := s_reachable) l_reachable c_reachable k_reachable
  have m_reachable := PySem.W.mg_of X G a_reachable
  have b_reachable := F_reachable.binds (ps := ["rule", "case"]) fun _ _ _ _ _ _ us hl => len2 (P := fun us => bindArgs _ { pos := us } = pure (List.zip _ us)) (fun _ _ => rfl) us hl
  have F_law_whole_call := fun_mk (st := s_law_whole_call) l_law_whole_call c_law_whole_call k_law_whole_call
  have m_law_whole_call := PySem.W.mg_of X G a_law_whole_call
  have b_law_whole_call := F_law_whole_call.binds (ps := ["call", "rule", "number"]) fun _ _ _ _ _ _ us hl => len3 (P := fun us => bindArgs _ { pos := us } = pure (List.zip _ us)) (fun _ _ _ => rfl) us hl
  have F_law_refused := fun_mk (st := s_law_refused) l_law_refused c_law_refused k_law_refused
  have m_law_refused := PySem.W.mg_of X G a_law_refused
  have b_law_refused := F_law_refused.binds (ps := ["call", "rule", "folding", "number", "case"]) fun _ _ _ _ _ _ us hl => len5 (P := fun us => bindArgs _ { pos := us } = pure (List.zip _ us)) (fun _ _ _ _ _ => rfl) us hl
  have F_law_bad_folding := fun_mk (st := s_law_bad_folding) l_law_bad_folding c_law_bad_folding k_law_bad_folding
  have m_law_bad_folding := PySem.W.mg_of X G a_law_bad_folding
  have b_law_bad_folding := F_law_bad_folding.binds (ps := ["folding", "fault", "cell"]) fun _ _ _ _ _ _ us hl => len3 (P := fun us => bindArgs _ { pos := us } = pure (List.zip _ us)) (fun _ _ _ => rfl) us hl
  have F_law_bad_rule := fun_mk (st := s_law_bad_rule) l_law_bad_rule c_law_bad_rule k_law_bad_rule
  have m_law_bad_rule := PySem.W.mg_of X G a_law_bad_rule
  have b_law_bad_rule := F_law_bad_rule.binds (ps := ["rule", "fault", "cell"]) fun _ _ _ _ _ _ us hl => len3 (P := fun us => bindArgs _ { pos := us } = pure (List.zip _ us)) (fun _ _ _ => rfl) us hl
  have F_law_joints := fun_mk (st := s_law_joints) l_law_joints c_law_joints k_law_joints
  have m_law_joints := PySem.W.mg_of X G a_law_joints
  have b_law_joints := F_law_joints.binds (ps := ["rule", "folding"]) fun _ _ _ _ _ _ us hl => len2 (P := fun us => bindArgs _ { pos := us } = pure (List.zip _ us)) (fun _ _ => rfl) us hl
  have F_law_span := fun_mk (st := s_law_span) l_law_span c_law_span k_law_span
  have m_law_span := PySem.W.mg_of X G a_law_span
  have b_law_span := F_law_span.binds (ps := ["rule", "folding"]) fun _ _ _ _ _ _ us hl => len2 (P := fun us => bindArgs _ { pos := us } = pure (List.zip _ us)) (fun _ _ => rfl) us hl
  have F_law_cell_at := fun_mk (st := s_law_cell_at) l_law_cell_at c_law_cell_at k_law_cell_at
  have m_law_cell_at := PySem.W.mg_of X G a_law_cell_at
  have b_law_cell_at := F_law_cell_at.binds (ps := ["script", "k"]) fun _ _ _ _ _ _ us hl => len2 (P := fun us => bindArgs _ { pos := us } = pure (List.zip _ us)) (fun _ _ => rfl) us hl
  have F_law_draw := fun_mk (st := s_law_draw) l_law_draw c_law_draw k_law_draw
  have m_law_draw := PySem.W.mg_of X G a_law_draw
  have b_law_draw := F_law_draw.binds (ps := ["script", "k"]) fun _ _ _ _ _ _ us hl => len2 (P := fun us => bindArgs _ { pos := us } = pure (List.zip _ us)) (fun _ _ => rfl) us hl
  have F_law_folding := fun_mk (st := s_law_folding) l_law_folding c_law_folding k_law_folding
  have m_law_folding := PySem.W.mg_of X G a_law_folding
  have b_law_folding := F_law_folding.binds (ps := ["script", "start", "pieces"]) fun _ _ _ _ _ _ us hl => len3 (P := fun us => bindArgs _ { pos := us } = pure (List.zip _ us)) (fun _ _ _ => rfl) us hl
  have F_law_rule := fun_mk (st := s_law_rule) l_law_rule c_law_rule k_law_rule
  have m_law_rule := PySem.W.mg_of X G a_law_rule
  have b_law_rule := F_law_rule.binds (ps := ["script", "pieces"]) fun _ _ _ _ _ _ us hl => len2 (P := fun us => bindArgs _ { pos := us } = pure (List.zip _ us)) (fun _ _ => rfl) us hl
  have F_law := fun_mk (st := s_law) l_law c_law k_law
  have m_law := PySem.W.mg_of X G a_law
  have y_isinstance := PySem.W.mg_none_of X G z_isinstance
  have y_ValueError := PySem.W.mg_none_of X G z_ValueError
  have y_max := PySem.W.mg_none_of X G z_max
  have y_sum := PySem.W.mg_none_of X G z_sum
  have y_len := PySem.W.mg_none_of X G z_len
  have y_zip := PySem.W.mg_none_of X G z_zip
  have y_min := PySem.W.mg_none_of X G z_min
  have y_enumerate := PySem.W.mg_none_of X G z_enumerate
  have y_str := PySem.W.mg_none_of X G z_str
  have y_range := PySem.W.mg_none_of X G z_range
  have y_sorted := PySem.W.mg_none_of X G z_sorted
  have y_set := PySem.W.mg_none_of X G z_set
  have y_list := PySem.W.mg_none_of X G z_list
  have m_LONGEST_PIECE := PySem.W.mg_of X G g_LONGEST_PIECE
  have m_MOST_PIECES := PySem.W.mg_of X G g_MOST_PIECES
  have Er := errs_of X G e_rr
  refine ⟨PySem.W.fnOf "law" "law" (defArgs s_law) (defBody s_law) (defScope s_law) .none kV_law dc_law pm_law an_law cd_law ct_law, fun s v => .of_eq rfl, fun base _ _ => ?_⟩
  have G_law_alone := ok_law_alone (P := l.prog) (w := w) (mg := mg) (base := base) F_law_alone Er y_isinstance y_ValueError
  have G_further_reach := ok_further_reach (P := l.prog) (w := w) (mg := mg) (base := base) F_further_reach y_max
  have G_further_counts := ok_further_counts (P := l.prog) (w := w) (mg := mg) (base := base) F_further_counts G_further_reach m_further_reach k_further_reach b_further_reach y_sum
  have G_many_beyond := ok_many_beyond (P := l.prog) (w := w) (mg := mg) (base := base) F_many_beyond G_further_counts m_further_counts k_further_counts b_further_counts y_sum
  have G_many_going_on := ok_many_going_on (P := l.prog) (w := w) (mg := mg) (base := base) F_many_going_on G_many_beyond m_many_beyond k_many_beyond b_many_beyond G_further_reach m_further_reach k_further_reach b_further_reach
  have G_first_reach := ok_first_reach (P := l.prog) (w := w) (mg := mg) (base := base) F_first_reach
  have G_check_rule := ok_check_rule (P := l.prog) (w := w) (mg := mg) (base := base) F_check_rule Er y_len m_LONGEST_PIECE m_MOST_PIECES
  have G_check_folding := ok_check_folding (P := l.prog) (w := w) (mg := mg) (base := base) F_check_folding G_check_rule m_check_rule k_check_rule b_check_rule Er y_len
  have G_joints := ok_joints (P := l.prog) (w := w) (mg := mg) (base := base) F_joints G_check_folding m_check_folding k_check_folding b_check_folding y_zip
  have G_span := ok_span (P := l.prog) (w := w) (mg := mg) (base := base) F_span G_joints m_joints k_joints b_joints y_max y_min
  have G_fits := ok_fits (P := l.prog) (w := w) (mg := mg) (base := base) F_fits G_span m_span k_span b_span
  have G_number_of := ok_number_of (P := l.prog) (w := w) (mg := mg) (base := base) F_number_of G_further_reach m_further_reach k_further_reach b_further_reach G_many_going_on m_many_going_on k_many_going_on b_many_going_on G_first_reach m_first_reach k_first_reach b_first_reach G_fits m_fits k_fits b_fits Er y_enumerate
  have G_shown := ok_shown (P := l.prog) (w := w) (mg := mg) (base := base) F_shown G_check_folding m_check_folding k_check_folding b_check_folding y_zip y_str
  have G_law_folded_call := ok_law_folded_call (P := l.prog) (w := w) (mg := mg) (base := base) F_law_folded_call G_number_of m_number_of k_number_of b_number_of G_shown m_shown k_shown b_shown G_fits m_fits k_fits b_fits G_span m_span k_span b_span G_joints m_joints k_joints b_joints
  have G_many_fits := ok_many_fits (P := l.prog) (w := w) (mg := mg) (base := base) F_many_fits G_many_beyond m_many_beyond k_many_beyond b_many_beyond G_first_reach m_first_reach k_first_reach b_first_reach G_check_rule m_check_rule k_check_rule b_check_rule
  have G_folding_at := ok_folding_at (P := l.prog) (w := w) (mg := mg) (base := base) F_folding_at G_further_reach m_further_reach k_further_reach b_further_reach G_many_going_on m_many_going_on k_many_going_on b_many_going_on G_first_reach m_first_reach k_first_reach b_first_reach G_many_fits m_many_fits k_many_fits b_many_fits Er y_range y_len
  have G_by_half := ok_by_half (P := l.prog) (w := w) (mg := mg) (base := base) F_by_half G_check_rule m_check_rule k_check_rule b_check_rule
  have G_further_firsts := ok_further_firsts (P := l.prog) (w := w) (mg := mg) (base := base) F_further_firsts G_further_reach m_further_reach k_further_reach b_further_reach y_sum
  have G_shortest_case := ok_shortest_case (P := l.prog) (w := w) (mg := mg) (base := base) F_shortest_case G_further_firsts m_further_firsts k_further_firsts b_further_firsts G_first_reach m_first_reach k_first_reach b_first_reach G_check_rule m_check_rule k_check_rule b_check_rule y_sum y_min y_max
  have G_places_behind := ok_places_behind (P := l.prog) (w := w) (mg := mg) (base := base) F_places_behind y_sorted y_set
  have G_reachable := ok_reachable (P := l.prog) (w := w) (mg := mg) (base := base) F_reachable G_places_behind m_places_behind k_places_behind b_places_behind G_check_rule m_check_rule k_check_rule b_check_rule y_list y_range
  have G_law_whole_call := ok_law_whole_call (P := l.prog) (w := w) (mg := mg) (base := base) F_law_whole_call G_folding_at m_folding_at k_folding_at b_folding_at G_many_fits m_many_fits k_many_fits b_many_fits G_by_half m_by_half k_by_half b_by_half G_shortest_case m_shortest_case k_shortest_case b_shortest_case G_reachable m_reachable k_reachable b_reachable
  have G_law_refused := ok_law_refused (P := l.prog) (w := w) (mg := mg) (base := base) F_law_refused G_law_alone m_law_alone k_law_alone b_law_alone G_law_folded_call m_law_folded_call k_law_folded_call b_law_folded_call G_law_whole_call m_law_whole_call k_law_whole_call b_law_whole_call Er
  have G_law_bad_folding := ok_law_bad_folding (P := l.prog) (w := w) (mg := mg) (base := base) F_law_bad_folding y_len y_list
  have G_law_bad_rule := ok_law_bad_rule (P := l.prog) (w := w) (mg := mg) (base := base) F_law_bad_rule y_len y_range
  have G_law_joints := ok_law_joints (P := l.prog) (w := w) (mg := mg) (base := base) F_law_joints y_range y_len
  have G_law_span := ok_law_span (P := l.prog) (w := w) (mg := mg) (base := base) F_law_span G_law_joints m_law_joints k_law_joints b_law_joints y_sorted
  have G_law_cell_at := ok_law_cell_at (P := l.prog) (w := w) (mg := mg) (base := base) F_law_cell_at y_len
  have G_law_draw := ok_law_draw (P := l.prog) (w := w) (mg := mg) (base := base) F_law_draw G_law_cell_at m_law_cell_at k_law_cell_at b_law_cell_at
  have G_law_folding := ok_law_folding (P := l.prog) (w := w) (mg := mg) (base := base) F_law_folding G_law_draw m_law_draw k_law_draw b_law_draw y_range
  have G_law_rule := ok_law_rule (P := l.prog) (w := w) (mg := mg) (base := base) F_law_rule G_law_draw m_law_draw k_law_draw b_law_draw y_range
  exact ok_law (P := l.prog) (w := w) (mg := mg) (base := base) F_law G_law_refused m_law_refused k_law_refused b_law_refused G_law_bad_folding m_law_bad_folding k_law_bad_folding b_law_bad_folding G_law_bad_rule m_law_bad_rule k_law_bad_rule b_law_bad_rule G_law_span m_law_span k_law_span b_law_span G_law_draw m_law_draw k_law_draw b_law_draw G_law_folding m_law_folding k_law_folding b_law_folding G_law_rule m_law_rule k_law_rule b_law_rule y_range y_list
theorem walk {l : PySem.W.OpenLaw} {q : Program} {loose : List Str} {XP : (Str → Option Value) → Heap → Prop} {YP : World → Heap → Prop} {d : DefRec} {K : Params → PySem.W.Frag} (hn : l.most = some 63) (hdf : d.params.defaults = [])
    (hY : ∀ (w : World) (h : Heap), YP w h → (K w.params).In h)
    (F : ∀ (w : World) (mg : Str → Option Value) (fa : Addr) (h : Heap), (K w.params).In h → h.Ns mainGlobals mg → mg d.name = some (.ref fa) →
      ∃ fd : FuncData, (∀ (s : Shared) (u : Value), BindsTo s fd ⟨[u], []⟩ [("script", u)]) ∧ ∀ base : Heap, (K w.params).In base → base.Ns mainGlobals mg → FnOk l.prog w (K w.params) mg base (CXE l.prog w) 9 fa fd ["script"] (sp_law (K w.params))) :
    PySem.W.WalkO q loose XP YP l.row.toRowW d [] (fun f vs => PySem.call f vs) :=
  L2.walk_of (n := 63) (k := 9) (x := "script") (CX := fun w => CXE l.prog w) (sp := fun w => sp_law (K w.params)) hn (by decide) hdf ⟨rfl, by decide, by decide⟩ hY F (fun _ _ a ns hl _ hS => ⟨a, ns, rfl, hS, hl, fun _ => rfl⟩) fun _ _ _ _ _ z => by
    obtain ⟨_, _, _, _, _, _, _, _, _, _, _, _, _, _, z⟩ := z
    exact z
end FR
open PySem PySem.W PyProof.Rows
set_option maxRecDepth 100000 in
set_option maxHeartbeats 0 in
theorem PySem.Challenge.cw_foldrule_k02_what_is_refused_holds : PySem.Challenge.rw_foldrule_k02_what_is_refused.Holds := by
  w_on; o_law; k_head; (case hw => w_witness2)
  k_fill
  refine FR.walk (l := PySem.Challenge.rw_foldrule_k02_what_is_refused) rfl rfl (fun w h Y => PySem.W.kIn_of Y) ?F
  case F =>
    intro w mg fa h KX G hmg
    refine' FR.all_mk KX G hmg ?a_law_alone ?l_law_alone ?c_law_alone ?k_law_alone ?a_further_reach ?l_further_reach ?c_further_reach ?k_further_reach ?a_further_counts ?l_further_counts ?c_further_counts ?k_further_counts ?a_many_beyond ?l_many_beyond ?c_many_beyond ?k_many_beyond ?a_many_going_on ?l_many_going_on ?c_many_going_on ?k_many_going_on ?a_first_reach ?l_first_reach ?c_first_reach ?k_first_reach ?a_check_rule ?l_check_rule ?c_check_rule ?k_check_rule ?a_check_folding ?l_check_folding ?c_check_folding ?k_check_folding ?a_joints ?l_joints ?c_joints ?k_joints ?a_span ?l_span ?c_span ?k_span ?a_fits ?l_fits ?c_fits ?k_fits ?a_number_of ?l_number_of ?c_number_of ?k_number_of ?a_shown ?l_shown ?c_shown ?k_shown ?a_law_folded_call ?l_law_folded_call ?c_law_folded_call ?k_law_folded_call ?a_many_fits ?l_many_fits ?c_many_fits ?k_many_fits ?a_folding_at ?l_folding_at ?c_folding_at ?k_folding_at ?a_by_half ?l_by_half ?c_by_half ?k_by_half ?a_further_firsts ?l_further_firsts ?c_further_firsts ?k_further_firsts ?a_shortest_case ?l_shortest_case ?c_shortest_case ?k_shortest_case ?a_places_behind ?l_places_behind ?c_places_behind ?k_places_behind ?a_reachable ?l_reachable ?c_reachable ?k_reachable ?a_law_whole_call ?l_law_whole_call ?c_law_whole_call ?k_law_whole_call ?a_law_refused ?l_law_refused ?c_law_refused ?k_law_refused ?a_law_bad_folding ?l_law_bad_folding ?c_law_bad_folding ?k_law_bad_folding ?a_law_bad_rule ?l_law_bad_rule ?c_law_bad_rule ?k_law_bad_rule ?a_law_joints ?l_law_joints ?c_law_joints ?k_law_joints ?a_law_span ?l_law_span ?c_law_span ?k_law_span ?a_law_cell_at ?l_law_cell_at ?c_law_cell_at ?k_law_cell_at ?a_law_draw ?l_law_draw ?c_law_draw ?k_law_draw ?a_law_folding ?l_law_folding ?c_law_folding ?k_law_folding ?a_law_rule ?l_law_rule ?c_law_rule ?k_law_rule ?a_law ?l_law ?c_law ?k_law ?z_isinstance ?z_ValueError ?z_max ?z_sum ?z_len ?z_zip ?z_min ?z_enumerate ?z_str ?z_range ?z_sorted ?z_set ?z_list ?e_rr ?g_LONGEST_PIECE ?g_MOST_PIECES
    (case a_law_alone => k_is)
    (case l_law_alone => k_is)
    (case c_law_alone => k_is)
    (case k_law_alone => k_is)
    (case a_further_reach => k_is)
    (case l_further_reach => k_is)
    (case c_further_reach => k_is)
    (case k_further_reach => k_is)
    (case a_further_counts => k_is)
    (case l_further_counts => k_is)
    (case c_further_counts => k_is)
    (case k_further_counts => k_is)
    (case a_many_beyond => k_is)
    (case l_many_beyond => k_is)
    (case c_many_beyond => k_is)
    (case k_many_beyond => k_is)
    (case a_many_going_on => k_is)
    (case l_many_going_on => k_is)
    (case c_many_going_on => k_is)
    (case k_many_going_on => k_is)
    (case a_first_reach => k_is)
    (case l_first_reach => k_is)
    (case c_first_reach => k_is)
    (case k_first_reach => k_is)
    (case a_check_rule => k_is)
    (case l_check_rule => k_is)
    (case c_check_rule => k_is)
    (case k_check_rule => k_is)
    (case a_check_folding => k_is)
    (case l_check_folding => k_is)
    (case c_check_folding => k_is)
    (case k_check_folding => k_is)
    (case a_joints => k_is)
    (case l_joints => k_is)
    (case c_joints => k_is)
    (case k_joints => k_is)
    (case a_span => k_is)
    (case l_span => k_is)
    (case c_span => k_is)
    (case k_span => k_is)
    (case a_fits => k_is)
    (case l_fits => k_is)
    (case c_fits => k_is)
    (case k_fits => k_is)
    (case a_number_of => k_is)
    (case l_number_of => k_is)
    (case c_number_of => k_is)
    (case k_number_of => k_is)
    (case a_shown => k_is)
    (case l_shown => k_is)
    (case c_shown => k_is)
    (case k_shown => k_is)
    (case a_law_folded_call => k_is)
    (case l_law_folded_call => k_is)
    (case c_law_folded_call => k_is)
    (case k_law_folded_call => k_is)
    (case a_many_fits => k_is)
    (case l_many_fits => k_is)
    (case c_many_fits => k_is)
    (case k_many_fits => k_is)
    (case a_folding_at => k_is)
    (case l_folding_at => k_is)
    (case c_folding_at => k_is)
    (case k_folding_at => k_is)
    (case a_by_half => k_is)
    (case l_by_half => k_is)
    (case c_by_half => k_is)
    (case k_by_half => k_is)
    (case a_further_firsts => k_is)
    (case l_further_firsts => k_is)
    (case c_further_firsts => k_is)
    (case k_further_firsts => k_is)
    (case a_shortest_case => k_is)
    (case l_shortest_case => k_is)
    (case c_shortest_case => k_is)
    (case k_shortest_case => k_is)
    (case a_places_behind => k_is)
    (case l_places_behind => k_is)
    (case c_places_behind => k_is)
    (case k_places_behind => k_is)
    (case a_reachable => k_is)
    (case l_reachable => k_is)
    (case c_reachable => k_is)
    (case k_reachable => k_is)
    (case a_law_whole_call => k_is)
    (case l_law_whole_call => k_is)
    (case c_law_whole_call => k_is)
    (case k_law_whole_call => k_is)
    (case a_law_refused => k_is)
    (case l_law_refused => k_is)
    (case c_law_refused => k_is)
    (case k_law_refused => k_is)
    (case a_law_bad_folding => k_is)
    (case l_law_bad_folding => k_is)
    (case c_law_bad_folding => k_is)
    (case k_law_bad_folding => k_is)
    (case a_law_bad_rule => k_is)
    (case l_law_bad_rule => k_is)
    (case c_law_bad_rule => k_is)
    (case k_law_bad_rule => k_is)
    (case a_law_joints => k_is)
    (case l_law_joints => k_is)
    (case c_law_joints => k_is)
    (case k_law_joints => k_is)
    (case a_law_span => k_is)
    (case l_law_span => k_is)
    (case c_law_span => k_is)
    (case k_law_span => k_is)
    (case a_law_cell_at => k_is)
    (case l_law_cell_at => k_is)
    (case c_law_cell_at => k_is)
    (case k_law_cell_at => k_is)
    (case a_law_draw => k_is)
    (case l_law_draw => k_is)
    (case c_law_draw => k_is)
    (case k_law_draw => k_is)
    (case a_law_folding => k_is)
    (case l_law_folding => k_is)
    (case c_law_folding => k_is)
    (case k_law_folding => k_is)
    (case a_law_rule => k_is)
    (case l_law_rule => k_is)
    (case c_law_rule => k_is)
    (case k_law_rule => k_is)
    (case a_law => k_is)
    (case l_law => k_is)
    (case c_law => k_is)
    (case k_law => k_is)
    (case z_isinstance => k_is)
    (case z_ValueError => k_is)
    (case z_max => k_is)
    (case z_sum => k_is)
    (case z_len => k_is)
    (case z_zip => k_is)
    (case z_min => k_is)
    (case z_enumerate => k_is)
    (case z_str => k_is)
    (case z_range => k_is)
    (case z_sorted => k_is)
    (case z_set => k_is)
    (case z_list => k_is)
    (case e_rr => kernel_rfl)
    (case g_LONGEST_PIECE => k_is)
    (case g_MOST_PIECES => k_is)

