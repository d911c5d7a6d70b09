import PyProof.Rows.All
import Wide.All
import OpenK.AllK
import Wide.FinOn
import Lean
import PyProof.EqAt
import PyProof.EqKinds
import PyProof.TupleCall
import PySem.Challenge.RW_foldrule_k04_whole_counted_in_order
set_option Elab.async false
set_option linter.all false
set_option maxRecDepth 100000
/-! THE HAND LAYER, for ints, bools, texts, own classes, LISTS and tuples (index, slices, in, append, pop ..), calls, loops. Paste it whole ahead of your own text; what your proof does not reach may be deleted. -/
namespace L2
open PySem PySem.Spec PyProof.Rows

/-- a key: an int or a str -/
abbrev Key := Sum Int Str
def keyIs : Key → Value → Bool
  | .inl k, v => Value.isInt k v
  | .inr x, v => Value.isStrOf x v
def keyH (w : World) : Key → Int
  | .inl k => hashInt k
  | .inr x => hashStr w x
theorem keyIs_shape : ∀ {k : Key} {v : Value}, keyIs k v = true → (∃ i t, k = Sum.inl i ∧ v = Value.int i t) ∨ (∃ x t, k = Sum.inr x ∧ v = Value.str x t)
  | .inl i, v, h => by
    obtain ⟨t, e⟩ := Value.isInt_shape (k := i) (v := v) h
    exact .inl ⟨i, t, rfl, e⟩
  | .inr x, v, h => by
    obtain ⟨t, e⟩ := Value.isStrOf_shape (x := x) (v := v) h
    exact .inr ⟨x, t, rfl, e⟩
theorem keyIs_int (i : Int) (t : Tok) : keyIs (.inl i) (.int i t) = true := by simp [keyIs, Value.isInt]
theorem keyIs_str (x : Str) (t : Tok) : keyIs (.inr x) (.str x t) = true := by simp [keyIs, Value.isStrOf]
theorem key_ll (a b : Int) : decide ((Sum.inl a : Key) = Sum.inl b) = (a == b) := by
  by_cases e : a = b
  · subst e; simp
  · have h : ¬ (Sum.inl a : Key) = Sum.inl b := fun q => e (Sum.inl.inj q)
    rw [decide_eq_false h]
    exact (beq_eq_false_iff_ne.mpr e).symm
theorem key_rr (a b : Str) : decide ((Sum.inr a : Key) = Sum.inr b) = decide (a = b) := by
  by_cases e : a = b
  · subst e; simp
  · have h : ¬ (Sum.inr a : Key) = Sum.inr b := fun q => e (Sum.inr.inj q)
    rw [decide_eq_false h, decide_eq_false e]
theorem key_lr (a : Int) (b : Str) : decide ((Sum.inl a : Key) = Sum.inr b) = false := decide_eq_false (fun q => nomatch q)
theorem key_rl (a : Str) (b : Int) : decide ((Sum.inr a : Key) = Sum.inl b) = false := decide_eq_false (fun q => nomatch q)

def mixKind (prog : Program) (w : World) : PySem.KeyKind prog w Key where
  is := keyIs
  hash := keyH w
  inj := fun v a b ha hb => by
    rcases keyIs_shape ha with ⟨i, t, rfl, rfl⟩ | ⟨x, t, rfl, rfl⟩
    · rcases keyIs_shape hb with ⟨j, u, rfl, e⟩ | ⟨y, u, rfl, e⟩
      · injection e with e1 _; rw [e1]
      · exact nomatch e
    · rcases keyIs_shape hb with ⟨j, u, rfl, e⟩ | ⟨y, u, rfl, e⟩
      · exact nomatch e
      · injection e with e1 _; rw [e1]
  byValue := fun k v h => by
    rcases keyIs_shape h with ⟨i, t, rfl, rfl⟩ | ⟨x, t, rfl, rfl⟩ <;> rfl
  pyHash := fun hv h => by
    rcases keyIs_shape hv with ⟨i, t, rfl, rfl⟩ | ⟨x, t, rfl, rfl⟩
    · exact wpAny_pyHash_int h
    · exact wpAny_pyHash_str h
  eqBool := fun hu hv h => by
    rcases keyIs_shape hu with ⟨i, t, rfl, rfl⟩ | ⟨x, t, rfl, rfl⟩
    · rcases keyIs_shape hv with ⟨j, u, rfl, rfl⟩ | ⟨y, u, rfl, rfl⟩
      · rw [key_ll] at h; exact wpAny_eqBool_int h
      · rw [key_lr] at h; exact SeqAt.EqAt.int_str i t y u _ _ _ _ h
    · rcases keyIs_shape hv with ⟨j, u, rfl, rfl⟩ | ⟨y, u, rfl, rfl⟩
      · rw [key_rl] at h; exact SeqAt.EqAt.str_int x t j u _ _ _ _ h
      · rw [key_rr] at h; exact wpAny_eqBool_str h
  «strs» := fun k x t v h => by
    rcases keyIs_shape h with ⟨i, u, rfl, e⟩ | ⟨y, u, rfl, e⟩
    · exact nomatch e
    · injection e with e1 _
      subst e1
      cases v <;> rfl

theorem mixKind_is (prog : Program) (w : World) (k : Key) (v : Value) : (mixKind prog w).is k v = keyIs k v := rfl
theorem mixKind_int (prog : Program) (w : World) (i : Int) (t : Tok) : (mixKind prog w).is (.inl i) (.int i t) = true := keyIs_int i t
theorem mixKind_str (prog : Program) (w : World) (x : Str) (t : Tok) : (mixKind prog w).is (.inr x) (.str x t) = true := keyIs_str x t
end L2

namespace L2
open PySem PySem.Spec PyProof.Rows

/-- a value, without the heap -/
inductive V where
  | non | bl (b : Bool) | int (i : Int) | str (x : Str) | byt (b : Array UInt8) | flt (b : UInt64) | ref (a : Addr) | ty (n : String)
  deriving DecidableEq

def RelV : V → Value → Prop
  | .non, u => u = Value.none
  | .bl b, u => u = Value.bool b
  | .int i, u => ∃ t, u = Value.int i t
  | .str x, u => ∃ t, u = Value.str x t
  | .byt b, u => ∃ t, u = Value.bytes b t
  | .flt b, u => ∃ t, u = Value.float b t
  | .ref a, u => u = Value.ref a
  | .ty n, u => u = Value.type n

abbrev Vals : List V → List Value → Prop := Paired RelV
theorem Vals.length {xs : List V} {us : List Value} (r : Vals xs us) : xs.length = us.length := Paired.length r
theorem Vals.get : ∀ {xs : List V} {us : List Value} {i : Nat} {x : V}, Vals xs us → xs[i]? = some x → ∃ u, us[i]? = some u ∧ RelV x u
  | _, _, _, _, .nil, e => by simp at e
  | _, _, 0, _, .cons r _, e => by simp at e; subst e; exact ⟨_, rfl, r⟩
  | _, _, i + 1, x, .cons _ t, e => by
    obtain ⟨u, h1, h2⟩ := Vals.get (i := i) (x := x) t (by simpa using e)
    exact ⟨u, by simpa using h1, h2⟩
theorem Vals.set {x : V} {u : Value} (r : RelV x u) : ∀ {xs : List V} {us : List Value} (i : Nat), Vals xs us → Vals (xs.set i x) (us.set i u)
  | _, _, _, .nil => .nil
  | _, _, 0, .cons _ t => .cons r t
  | _, _, i + 1, .cons q t => .cons q (Vals.set r i t)
theorem Vals.append : ∀ {xs ys : List V} {us ws : List Value}, Vals xs us → Vals ys ws → Vals (xs ++ ys) (us ++ ws)
  | _, _, _, _, .nil, s => s
  | _, _, _, _, .cons r t, s => .cons r (Vals.append t s)
theorem Vals.take : ∀ {xs : List V} {us : List Value} (n : Nat), Vals xs us → Vals (xs.take n) (us.take n)
  | _, _, 0, _ => .nil
  | _, _, _ + 1, .nil => .nil
  | _, _, n + 1, .cons r t => .cons r (Vals.take n t)
theorem Vals.drop : ∀ {xs : List V} {us : List Value} (n : Nat), Vals xs us → Vals (xs.drop n) (us.drop n)
  | _, _, 0, r => r
  | _, _, _ + 1, .nil => .nil
  | _, _, n + 1, .cons _ t => Vals.drop n t
theorem Vals.none_of : ∀ {xs : List V} {us : List Value} {i : Nat}, Vals xs us → xs[i]? = none → us[i]? = none := fun {xs us i} r e => by
  have h1 := r.length
  have h2 : xs.length ≤ i := List.getElem?_eq_none_iff.mp e
  exact List.getElem?_eq_none_iff.mpr (by omega)

def RelO : Option V → Option Value → Prop
  | some v, some u => RelV v u
  | none, none => True
  | _, _ => False
def KV {κ : Type} : List (κ × V) → List (κ × Value) → Prop := Paired fun (p : κ × V) (q : κ × Value) => p.1 = q.1 ∧ RelV p.2 q.2

/-- a key of a dict (00_mix): an int or a text -/
def kV : Key → V
  | .inl i => .int i
  | .inr x => .str x

/-- what stands at a tracked address -/
inductive HO where
  /-- a list -/
  | lst (xs : List V)
  /-- a tuple (never changes) -/
  | tup (xs : List V)
  /-- a dict whose keys are ints and texts; one whose keys are tuples of ints and texts (the empty one is both) -/
  | dK (kvs : List (Key × V)) | dT (kvs : List (List Key × V))
  /-- a set of ints: its members, its size -/
  | set (S : Int → Bool) (n : Nat)
  /-- an instance of the class at C, its dict at dx, its attributes -/
  | ins (C dx : Addr) (fs : List (Str × V))
  /-- the dict of the instance at x -/
  | own (x : Addr)
  /-- the dict of an exception -/
  | xd (fs : List (Str × V))
  /-- a bound method, f of x -/
  | met (f x : Addr)
  /-- a range object lo, lo + 1, .. below hi -/
  | rng (lo hi : Int)
  /-- a thing that is known to the object (the script; a dict while a loop walks it): read, never written while it is so -/
  | frz (o : Obj) (u : HO)
  /-- a code object's table -/
  | tbl (ps : Array Value)
  /-- any other thing, by what is true of its one object (a def of one's own: SetO a S n := HO.ext fun h => ..) -/
  | ext (φ : Heap → Prop)

abbrev Hp := Addr → Option HO
def upd (H : Hp) (a : Addr) (o : HO) : Hp := fun b => if b = a then some o else H b
theorem upd_same {H : Hp} {a : Addr} {o : HO} : upd H a o a = some o := by unfold upd; rw [if_pos rfl]
theorem upd_ne {H : Hp} {a b : Addr} {o : HO} (h : b ≠ a) : upd H a o b = H b := by unfold upd; rw [if_neg h]
theorem upd_upd {H : Hp} {a : Addr} {o u : HO} : upd (upd H a o) a u = upd H a u := by
  funext b; unfold upd; split <;> rfl
/-- two objects of different content stand apart -/
theorem ne_of {H : Hp} {a b : Addr} {o u : HO} (h : H a = some o) (h' : H b = some u) (d : o ≠ u) : a ≠ b := by
  intro e; subst e; rw [h] at h'; exact d (Option.some.inj h')
theorem ne_of_none {H : Hp} {a b : Addr} {o : HO} (h : H a = some o) (h' : H b = none) : a ≠ b := by
  intro e; subst e; rw [h] at h'; cases h'

section
variable (P : Program) (w : World)
def ObjOk (H : Hp) (h : Heap) (a : Addr) : HO → Prop
  | .lst xs => xs.length ≤ sizeLine ∧ ∃ (its : List Value) (n : Nat), Vals xs its ∧ h.get? a = some { cls := .type "list", data := .seq its.toArray n }
  | .tup xs => xs.length ≤ sizeLine ∧ ∃ its : List Value, Vals xs its ∧ IsTup h a its.toArray
  | .dK kvs => kvs.length ≤ sizeLine ∧ (a == sysModules) = false ∧ ∃ vs, KV kvs vs ∧ h.DictOf (mixKind P w) a vs
  | .dT kvs => kvs.length ≤ sizeLine ∧ (a == sysModules) = false ∧ ∃ xs : List (List Key × Addr × Value),
      Paired (fun (p : List Key × V) (q : List Key × Addr × Value) => p.1 = q.1 ∧ H q.2.1 = some (.tup (p.1.map kV)) ∧ RelV p.2 q.2.2) kvs xs ∧
      ∃ o es ep, h.get? a = some o ∧ o.ExactDict ∧ o.data = .dict es ep ∧ es.toList = xs.map (entryOfKey (tupleKind (mixKind P w))) ∧ (xs.map (·.1)).Nodup
  | .set S n => h.SetOf (intKind P w) a S n
  | .ins C dx fs => H dx = some (.own a) ∧ fs.length ≤ 1000 ∧ dx ≠ a ∧ h.get? a = some (PySem.W.instObj C dx) ∧
      ∃ mA, h.Ns1 dx mA ∧ (∀ f, RelO (fs.lookup f) (mA f)) ∧ PySem.Within mA (fs.map (·.1))
  | .own _ => ∃ o, h.get? a = some o
  | .xd fs => ∃ mA, h.Ns1 a mA ∧ ∀ f, RelO (fs.lookup f) (mA f)
  | .rng lo hi => ∃ t u v, h.get? a = some { cls := .type "range", data := .fields #[.int lo t, .int hi u, .int 1 v] }
  | .frz o u => h.get? a = some o ∧ ObjOk H h a u
  | .tbl ps => h.get? a = some { cls := .none, data := .fields ps }
  | .met f x => h.get? a = some (PySem.W.methodObj (.ref f) (.ref x))
  | .ext φ => φ h ∧ (∃ o, h.get? a = some o) ∧ ∀ h1 h2 : Heap, φ h1 → (∀ o, h1.get? a = some o → h2.get? a = some o) → φ h2
/-- the abstract heap is held -/
def HOk (H : Hp) (h : Heap) : Prop := ∀ a o, H a = some o → ObjOk P w H h a o
end

section
variable {P : Program} {w : World} {H H' : Hp} {h h' : Heap} {a : Addr} {o : HO}
theorem ObjOk.lt (x : ObjOk P w H h a o) : a < h.objs.size := by
  cases o with
  | lst xs => obtain ⟨_, _, _, _, e⟩ := x; exact Heap.lt_size e
  | tup xs => obtain ⟨_, _, _, p⟩ := x; exact p.lt
  | dK kvs => obtain ⟨_, _, _, _, o, _, _, e, _⟩ := x; exact Heap.lt_size e
  | dT kvs => obtain ⟨_, _, _, _, o, _, _, e, _⟩ := x; exact Heap.lt_size e
  | set S n => obtain ⟨o, _, _, _, e, _⟩ := x; exact Heap.lt_size e
  | ins C dx fs => obtain ⟨_, _, _, e, _⟩ := x; exact Heap.lt_size e
  | own y => obtain ⟨_, e⟩ := x; exact Heap.lt_size e
  | xd fs => obtain ⟨_, ⟨_, _, _, e, _⟩, _⟩ := x; exact Heap.lt_size e
  | rng lo hi => obtain ⟨_, _, _, e⟩ := x; exact Heap.lt_size e
  | frz ob u => obtain ⟨e, _⟩ := x; exact Heap.lt_size e
  | tbl ps => exact Heap.lt_size (show h.get? a = some _ from x)
  | met f y => exact Heap.lt_size (show h.get? a = some _ from x)
  | ext φ => obtain ⟨_, ⟨_, e⟩, _⟩ := x; exact Heap.lt_size e
theorem Paired.mapP {α β : Type} {F G : α → β → Prop} : ∀ {l₁ : List α} {l₂ : List β}, Paired F l₁ l₂ → (∀ a b, F a b → G a b) → Paired G l₁ l₂
  | _, _, .nil, _ => .nil
  | _, _, .cons r t, f => .cons (f _ _ r) (Paired.mapP t f)
theorem Paired.imp' {α β : Type} {F G : α → β → Prop} (f : ∀ a b, F a b → G a b) {l₁ : List α} {l₂ : List β} (r : Paired F l₁ l₂) : Paired G l₁ l₂ := Paired.mapP r f
/-- what an object's description leans on: its own object, its own dict, the tuples -/
theorem ObjOk.stay (x : ObjOk P w H h a o) (k : ∀ b u, (b = a ∨ H b = some (.own a)) → h.get? b = some u → h'.get? b = some u)
    (ho : ∀ b, H b = some (.own a) → H' b = some (.own a)) (ht : ∀ b xs, H b = some (.tup xs) → H' b = some (.tup xs)) : ObjOk P w H' h' a o := by
  induction o with
  | lst xs => obtain ⟨z, its, n, r, e⟩ := x; exact ⟨z, its, n, r, k _ _ (.inl rfl) e⟩
  | tup xs => obtain ⟨z, its, r, ob, e, c⟩ := x; exact ⟨z, its, r, ob, k _ _ (.inl rfl) e, c⟩
  | dK kvs => obtain ⟨z, y, vs, r, ob, es, ep, e, c⟩ := x; exact ⟨z, y, vs, r, ob, es, ep, k _ _ (.inl rfl) e, c⟩
  | dT kvs =>
    obtain ⟨z, y, xs, r, ob, es, ep, e, c⟩ := x
    exact ⟨z, y, xs, Paired.mapP r fun p q z => ⟨z.1, ht _ _ z.2.1, z.2.2⟩, ob, es, ep, k _ _ (.inl rfl) e, c⟩
  | set S n => obtain ⟨ob, es, ep, t, e, c⟩ := x; exact ⟨ob, es, ep, t, k _ _ (.inl rfl) e, c⟩
  | ins C dx fs =>
    obtain ⟨d, z, ne, e, mA, ⟨od, es, ep, e2, c⟩, r⟩ := x
    exact ⟨ho _ d, z, ne, k _ _ (.inl rfl) e, mA, ⟨od, es, ep, k _ _ (.inr d) e2, c⟩, r⟩
  | own y => obtain ⟨ob, e⟩ := x; exact ⟨ob, k _ _ (.inl rfl) e⟩
  | xd fs => obtain ⟨mA, ⟨od, es, ep, e, c⟩, r⟩ := x; exact ⟨mA, ⟨od, es, ep, k _ _ (.inl rfl) e, c⟩, r⟩
  | rng lo hi => obtain ⟨t, u, v, e⟩ := x; exact ⟨t, u, v, k _ _ (.inl rfl) e⟩
  | frz ob u ih => obtain ⟨e, q⟩ := x; exact ⟨k _ _ (.inl rfl) e, ih q⟩
  | tbl ps =>
    have e : h.get? a = some { cls := .none, data := .fields ps } := x
    show h'.get? a = some { cls := .none, data := .fields ps }
    exact k a _ (.inl rfl) e
  | met f y =>
    have e : h.get? a = some (PySem.W.methodObj (.ref f) (.ref y)) := x
    show h'.get? a = some (PySem.W.methodObj (.ref f) (.ref y))
    exact k a _ (.inl rfl) e
  | ext φ => obtain ⟨p, ⟨o, e⟩, st⟩ := x; exact ⟨st _ _ p fun o q => k _ _ (.inl rfl) q, ⟨o, k _ _ (.inl rfl) e⟩, st⟩
theorem HOk.lt (x : HOk P w H h) (e : H a = some o) : a < h.objs.size := (x a o e).lt
theorem HOk.fresh (x : HOk P w H h) (e : h.objs.size ≤ a) : H a = none := by
  cases q : H a with
  | none => rfl
  | some u => exact absurd (Nat.lt_of_lt_of_le (x.lt q) e) (Nat.lt_irrefl _)
/-- every object of the heap is kept -/
theorem HOk.kept (x : HOk P w H h) (k : ∀ b u, h.get? b = some u → h'.get? b = some u) : HOk P w H h' := fun a o e =>
  (x a o e).stay (fun b u _ q => k b u q) (fun _ q => q) fun _ _ q => q
/-- a new object is laid and tracked -/
theorem HOk.laid (x : HOk P w H h) (k : ∀ b u, h.get? b = some u → h'.get? b = some u) (hp : h.objs.size ≤ a) (new : ObjOk P w (upd H a o) h' a o) : HOk P w (upd H a o) h' := fun b u e => by
  have hn := x.fresh hp
  by_cases hb : b = a
  · subst hb; rw [upd_same] at e; cases e; exact new
  · rw [upd_ne hb] at e
    exact (x b u e).stay (fun c v _ q => k c v q) (fun c q => by rw [upd_ne (ne_of_none q hn)]; exact q) fun c xs q => by rw [upd_ne (ne_of_none q hn)]; exact q
end

/-- what may be read as u: it is u, or a known u -/
def Rd (H : Hp) (a : Addr) (u : HO) : Prop := H a = some u ∨ ∃ o, H a = some (.frz o u)
theorem Rd.of {H : Hp} {a : Addr} {u : HO} (h : H a = some u) : Rd H a u := .inl h
theorem Rd.ok {P : Program} {w : World} {H : Hp} {h : Heap} {a : Addr} {u : HO} (r : Rd H a u) (x : HOk P w H h) : ObjOk P w H h a u := by
  rcases r with r | ⟨o, r⟩
  · exact x a u r
  · obtain ⟨_, q⟩ := x a _ r
    exact q
/-- what may be written -/
def Mut : Option HO → Prop
  | some (.lst _) => True
  | some (.dK _) => True
  | some (.dT _) => True
  | some (.set _ _) => True
  | some (.ins _ _ _) => True
  | some (.ext _) => True
  | _ => False
section
variable {P : Program} {w : World} {H : Hp} {h h' : Heap} {x e : Addr} {o' : HO}
/-- the object at e is changed: x itself, or the dict of the instance x -/
theorem HOk.write (ok : HOk P w H h) (mu : Mut (H x)) (he : e = x ∨ H e = some (.own x)) (k : ∀ b u, b ≠ e → h.get? b = some u → h'.get? b = some u) (heo : ∃ u, h'.get? e = some u)
    (new : ObjOk P w (upd H x o') h' x o') : HOk P w (upd H x o') h' := fun b u q => by
  have nown : ∀ c y, H c = some (.own y) → c ≠ x := fun c y r z => by subst z; rw [r] at mu; exact mu
  have ntup : ∀ c xs, H c = some (.tup xs) → c ≠ x := fun c xs r z => by subst z; rw [r] at mu; exact mu
  by_cases hb : b = x
  · subst hb; rw [upd_same] at q; cases q; exact new
  · rw [upd_ne hb] at q
    by_cases hbe : b = e
    · have q' : H b = some (.own x) := by
        rcases he with z | z
        · exact absurd (hbe.trans z) hb
        · rw [hbe]; exact z
      rw [q] at q'; cases q'
      obtain ⟨v, hv⟩ := heo
      exact ⟨v, by rw [hbe]; exact hv⟩
    · refine (ok b u q).stay (fun c v hc r => k c v ?_ r) (fun c r => by rw [upd_ne (nown c b r)]; exact r) fun c xs r => by rw [upd_ne (ntup c xs r)]; exact r
      rcases hc with rfl | hc
      · exact hbe
      · rintro rfl
        rcases he with z | z
        · exact nown c b hc z
        · rw [hc] at z; cases z; exact hb rfl
end

/-! ### kept unless tracked; of the frames at fs (the callers') the slots may change (an exception that passes writes there); of the records at ex (iterators) nothing is said -/
structure Un (fs ex : List Addr) (H H' : Hp) (h h' : Heap) : Prop where
  keep : ∀ b o, h.get? b = some o → H b = none → b ∉ fs → b ∉ ex → h'.get? b = some o
  slot : ∀ b o, h.get? b = some o → H b = none → b ∈ fs → b ∉ ex → ∃ sl, h'.get? b = some { o with slots := sl }
  free : ∀ b o, h.get? b = some o → H b = none → b ∉ ex → H' b = none
  there : ∀ b o, h.get? b = some o → b ∉ ex → ∃ o', h'.get? b = some o'
  tups : ∀ b xs, H b = some (.tup xs) → H' b = some (.tup xs)
  frzs : ∀ b o u, H b = some (.frz o u) → H' b = some (.frz o u)
  tbls : ∀ b ps, H b = some (.tbl ps) → ∃ more, H' b = some (.tbl (ps ++ more))
section
variable {fs fs' ex ex' : List Addr} {H H1 H2 : Hp} {h h1 h2 h' : Heap} {a x e : Addr} {o : HO}
theorem Un.any (u : Un fs ex H H1 h h1) {b : Addr} {ob : Obj} (q : h.get? b = some ob) (n : H b = none) (hx : b ∉ ex) : ∃ sl, h1.get? b = some { ob with slots := sl } := by
  by_cases hb : b ∈ fs
  · exact u.slot b ob q n hb hx
  · exact ⟨ob.slots, u.keep b ob q n hb hx⟩
theorem Un.trans (a : Un fs ex H H1 h h1) (b : Un fs ex H1 H2 h1 h2) : Un fs ex H H2 h h2 where
  keep := fun c ob q n hc hx => b.keep c ob (a.keep c ob q n hc hx) (a.free c ob q n hx) hc hx
  slot := fun c ob q n hc hx => by
    obtain ⟨sl, e1⟩ := a.slot c ob q n hc hx
    obtain ⟨sl', e2⟩ := b.slot c _ e1 (a.free c ob q n hx) hc hx
    exact ⟨sl', e2⟩
  free := fun c ob q n hx => by
    obtain ⟨o', e1⟩ := a.there c ob q hx
    exact b.free c o' e1 (a.free c ob q n hx) hx
  there := fun c ob q hx => by
    obtain ⟨o', e1⟩ := a.there c ob q hx
    exact b.there c o' e1 hx
  tups := fun c xs q => b.tups c xs (a.tups c xs q)
  frzs := fun c ob xs q => b.frzs c ob xs (a.frzs c ob xs q)
  tbls := fun c ps q => by
    obtain ⟨m1, e1⟩ := a.tbls c ps q
    obtain ⟨m2, e2⟩ := b.tbls c _ e1
    exact ⟨m1 ++ m2, by rw [e2, Array.append_assoc]⟩
theorem Un.kept (k : ∀ b u, h.get? b = some u → h'.get? b = some u) : Un fs ex H H h h' :=
  ⟨fun b ob q _ _ _ => k b ob q, fun b ob q _ _ _ => ⟨ob.slots, k b ob q⟩, fun _ _ _ n _ => n, fun b ob q _ => ⟨ob, k b ob q⟩, fun _ _ q => q, fun _ _ _ q => q, fun _ ps q => ⟨#[], by rw [q]; simp⟩⟩
theorem Un.refl : Un fs ex H H h h := Un.kept fun _ _ q => q
theorem Un.laid (k : ∀ b u, h.get? b = some u → h'.get? b = some u) (hp : h.objs.size ≤ a) (hn : H a = none) : Un fs ex H (upd H a o) h h' where
  keep := fun b u q _ _ _ => k b u q
  slot := fun b u q _ _ _ => ⟨u.slots, k b u q⟩
  free := fun b u q n _ => by rw [upd_ne (Nat.ne_of_lt (Nat.lt_of_lt_of_le (Heap.lt_size q) hp))]; exact n
  there := fun b u q _ => ⟨u, k b u q⟩
  tups := fun b xs q => by rw [upd_ne (ne_of_none q hn)]; exact q
  frzs := fun b u xs q => by rw [upd_ne (ne_of_none q hn)]; exact q
  tbls := fun b ps q => ⟨#[], by rw [upd_ne (ne_of_none q hn), q]; simp⟩
theorem Un.write (mu : Mut (H x)) (he : e = x ∨ H e = some (.own x)) (k : ∀ b u, b ≠ e → h.get? b = some u → h'.get? b = some u) (heo : ∃ u, h'.get? e = some u) : Un fs ex H (upd H x o) h h' := by
  have hx : ∀ b, H b = none → b ≠ x := fun b n z => by subst z; rw [n] at mu; exact mu
  have hb : ∀ b, H b = none → b ≠ e := fun b n z => by
    subst z
    rcases he with r | r
    · exact hx b n r
    · rw [n] at r; cases r
  have hm : ∀ b u, H b = some u → ¬ Mut (some u) → b ≠ x := fun b u q nm z => by subst z; rw [q] at mu; exact nm mu
  refine ⟨fun b u q n _ _ => k b u (hb b n) q, fun b u q n _ _ => ⟨u.slots, k b u (hb b n) q⟩, fun b u q n _ => by rw [upd_ne (hx b n)]; exact n, fun b u q _ => ?_,
    fun b xs q => by rw [upd_ne (hm b _ q fun z => z)]; exact q, fun b u xs q => by rw [upd_ne (hm b _ q fun z => z)]; exact q, fun b ps q => ⟨#[], by rw [upd_ne (hm b _ q fun z => z), q]; simp⟩⟩
  by_cases hbe : b = e
  · subst hbe; exact heo
  · exact ⟨u, k b u hbe q⟩
theorem Un.mono (u : Un fs ex H H1 h h1) (hs : ∀ b ∈ fs, b ∈ fs') (hx : ∀ b ∈ ex, b ∈ ex') : Un fs' ex' H H1 h h1 :=
  ⟨fun b ob q n hb he => u.keep b ob q n (fun z => hb (hs b z)) fun z => he (hx b z), fun _ _ q n _ he => u.any q n fun z => he (hx _ z), fun b ob q n he => u.free b ob q n fun z => he (hx b z), fun b ob q he => u.there b ob q fun z => he (hx b z), u.tups, u.frzs, u.tbls⟩
end

/-! ### the heap without what is tracked -/
def trk (h : Heap) (H : Hp) : List Addr := (List.range h.objs.size).filter fun a => (H a).isSome
def hidT (h : Heap) (H : Hp) : Heap := PySem.W.hideAll h (trk h H)
theorem hidT_size (h : Heap) (H : Hp) : (hidT h H).objs.size = h.objs.size := PySem.W.hideAll_size _ _
theorem hidT_get {h : Heap} {H : Hp} {b : Addr} {o : Obj} (e : h.get? b = some o) (n : H b = none) : (hidT h H).get? b = some o :=
  PySem.W.hideAll_get _ e fun hm => by
    have q : (H b).isSome = true := (List.mem_filter.mp hm).2
    rw [n] at q; simp at q
theorem of_hidT {h : Heap} {H : Hp} {b : Addr} {o : Obj} (e : (hidT h H).get? b = some o) : h.get? b = some o ∧ H b = none := by
  have e' : h.get? b = some o := PySem.W.of_hideAll (trk h H) e
  refine ⟨e', ?_⟩
  cases q : H b with
  | none => rfl
  | some x =>
    have hm : b ∈ trk h H := List.mem_filter.mpr ⟨List.mem_range.mpr (Heap.lt_size e'), by simp [q]⟩
    have z : (hidT h H).get? b = none := PySem.W.hideAll_none (trk h H) hm
    rw [z] at e; cases e

/-! ### OpenK's ledger, filled with every new object but one -/
def allNews (g h : Heap) (L : Addr) : List (Addr × Obj) := (List.range h.objs.size).filterMap fun a => if a = L ∨ (g.get? a).isSome = true then none else (h.get? a).map fun o => (a, o)
theorem mem_allNews {g h : Heap} {L a : Addr} {o : Obj} (h1 : a ≠ L) (h2 : g.get? a = none) (h3 : h.get? a = some o) : (a, o) ∈ allNews g h L :=
  List.mem_filterMap.mpr ⟨a, List.mem_range.mpr (Heap.lt_size h3), by simp [h1, h2, h3]⟩
theorem of_mem_allNews {g h : Heap} {L : Addr} {p : Addr × Obj} (hp : p ∈ allNews g h L) : p.1 ≠ L ∧ g.get? p.1 = none ∧ h.get? p.1 = some p.2 := by
  obtain ⟨b, _, e⟩ := List.mem_filterMap.mp hp
  split at e
  · cases e
  · rename_i hn
    cases q : h.get? b with
    | none => rw [q] at e; simp at e
    | some u =>
      rw [q] at e
      simp only [Option.map_some, Option.some.injEq] at e
      subst e
      refine ⟨fun z => hn (.inl z), ?_, q⟩
      show g.get? b = none
      cases r : g.get? b with
      | none => rfl
      | some v => exact (hn (.inr (by simp [r]))).elim
def rest (g h : Heap) (L d : Addr) : List (Addr × Obj) := (allNews g h L).filter fun p => decide (p.1 ≠ d)
theorem rest_ne {g h : Heap} {L d : Addr} : ∀ p ∈ rest g h L d, p.1 ≠ d := fun p hp => of_decide_eq_true (List.mem_filter.mp hp).2
theorem mem_rest {g h : Heap} {L d a : Addr} {o : Obj} (h1 : a ≠ L) (h2 : g.get? a = none) (h3 : h.get? a = some o) (h4 : a ≠ d) : (a, o) ∈ rest g h L d :=
  List.mem_filter.mpr ⟨mem_allNews h1 h2 h3, decide_eq_true h4⟩
theorem news_all {g h : Heap} {L : Addr} : News g L h (allNews g h L) := fun p hp => let ⟨a, b, c⟩ := of_mem_allNews hp; ⟨c, a, b⟩
theorem news_at {g h : Heap} {L d : Addr} {o : Obj} (h1 : d ≠ L) (h2 : g.get? d = none) (h3 : h.get? d = some o) : News g L h ((d, o) :: rest g h L d) := fun p hp => by
  rcases List.mem_cons.mp hp with rfl | hp
  · exact ⟨h3, h1, h2⟩
  · exact news_all p (List.mem_filter.mp hp).1
/-- behind a rule that changed d alone: all else but the frame is kept -/
theorem kept_of_news {g h h' : Heap} {L d : Addr} {m : Str → Option Value} (k : ∀ b o, g.get? b = some o → h.get? b = some o) (F : Fr g L h' m) (N : News g L h' (rest g h L d)) :
    ∀ b o, b ≠ L → b ≠ d → h.get? b = some o → h'.get? b = some o := fun b o h1 h2 e => by
  cases q : g.get? b with
  | some u =>
    have := k b u q
    rw [e] at this; cases this
    exact F.keep b _ q
  | none => exact (N (b, o) (mem_rest h1 q e h2)).1
end L2

namespace L2
open PySem PySem.Spec PyProof.Rows

/-- the module's facts, over the base: the heap at the law's entry without what is tracked there -/
structure Mod (K : PySem.W.Frag) (mg : Str → Option Value) (base : Heap) : Prop where
  kin : K.In base
  glob : base.Ns mainGlobals mg
  blt : ∃ mb, base.Ns builtinsNs mb ∧ ∀ x : Str, x ≠ "__name__" → mb x = bootBuiltins x
  nolimit : base.NoLimit

/-- the context: a def's body (or a comprehension's block) running. base: fixed through the whole law; s₀, H₀: the entry; outer: the frames whose slots others may change (a def's callers); stack: all frames that run;
   ex: iterators that were made ahead of the entry and are walked here (a comprehension's); fn: the names whose cells were made at the entry (a def: all; a comprehension's block: its own); calm: not within an except suite; pn: pins that every state bears; xe: what is wanted of an exception that leaves the code -/
structure Cx where
  prog : Program
  w : World
  K : PySem.W.Frag
  mg : Str → Option Value
  base : Heap
  A : Around
  N : List Str
  s₀ : Shared
  H₀ : Hp
  env : Env
  outer : List Env
  stack : List Env
  ex : List Addr
  fn : Str → Bool
  calm : Bool
  pn : List (Addr × Obj)
  xe : Value → Shared → Prop
/-- the callers' frames -/
def frs (l : List Env) : List Addr := l.filterMap (·.frame)
abbrev Cx.fs (X : Cx) : List Addr := frs X.outer

def Vis (sc : Scope) (x : Str) : Prop := sc.names.lookup x = some .local ∨ sc.names.lookup x = some .cell ∨ sc.names.lookup x = some .free
def Loc (sc : Scope) (x : Str) : Prop := sc.names.lookup x = some .local ∨ sc.names.lookup x = some .cell
def Look (env : Env) (h : Heap) (m : Str → Option Value) (x : Str) (u : Value) : Prop :=
  (env.kindOf x = some .local ∧ m x = some u) ∨ ((env.kindOf x = some .cell ∨ env.kindOf x = some .free) ∧ ∃ c, env.cells.lookup x = some c ∧ h.IsCell c (some u))

structure Cx.Ok (X : Cx) : Prop where
  mod : Mod X.K X.mg X.base
  kind : X.env.scope.kind = .function
  glob : X.env.globals = mainGlobals
  blt : X.env.builtins = builtinsNs
  above : X.s₀.heap.objs.size ≤ X.env.locals
  inj : ∀ x y c, X.env.cells.lookup x = some c → X.env.cells.lookup y = some c → x = y
  has : ∀ x, (X.env.kindOf x = some .cell ∨ X.env.kindOf x = some .free) → ∃ c, X.env.cells.lookup x = some c
  cab : ∀ x c, X.fn x = true → X.env.cells.lookup x = some c → X.s₀.heap.objs.size ≤ c
  hd : X.calm = true → X.A.handled = none
  frames : X.A.frames = some X.stack
  stk : X.stack = X.outer ∨ (X.stack = X.env :: X.outer ∧ X.env.frame = some X.env.locals)
  exf : ∀ b ∈ X.ex, b ≠ X.env.locals ∧ ∀ x c, X.env.cells.lookup x = some c → c ≠ b
  bs : ∀ b o, X.base.get? b = some o → X.s₀.heap.get? b = some o ∧ X.H₀ b = none
  bsz : X.base.objs.size ≤ X.s₀.heap.objs.size
  noex : ∀ b o, X.base.get? b = some o → b ∉ X.ex
  exfs : ∀ b ∈ X.ex, b ∉ X.fs
  funs : X.s₀.heap.FunFrames X.base X.outer
  frf : ∀ b ∈ X.fs, X.H₀ b = none

structure Inv (X : Cx) (pins : List (Addr × Obj)) (σ : List (Option V)) (H : Hp) (s : Shared) : Prop where
  ok : X.Ok
  os : s.os = X.s₀.os
  bare : AllBare s.gens
  base : Un X.fs X.ex X.H₀ H X.s₀.heap s.heap
  loc : ∃ m, s.heap.Ns X.env.locals m ∧ ∀ (i : Nat) (x : Str) (v : V), X.N[i]? = some x → σ[i]? = some (some v) → Vis X.env.scope x → ∃ u, RelV v u ∧ Look X.env s.heap m x u
  cell : ∀ x c, X.env.cells.lookup x = some c → ∃ v, s.heap.IsCell c v
  free : H X.env.locals = none
  freeC : ∀ x c, X.env.cells.lookup x = some c → H c = none
  pin : ∀ p ∈ X.pn ++ pins, s.heap.get? p.1 = some p.2 ∧ H p.1 = none ∧ p.1 ≠ X.env.locals ∧ p.1 ∉ X.fs ∧ ∀ v, p.2.data ≠ .cell v
  hok : HOk X.prog X.w H s.heap
  len : σ.length = X.N.length

section
variable {X : Cx} {pins : List (Addr × Obj)} {σ : List (Option V)} {H H' : Hp} {s : Shared} {h' : Heap}

theorem Cx.Ok.nofr (ok : X.Ok) {b : Addr} {o : Obj} (e : X.base.get? b = some o) : b ∉ X.fs := fun hb => by
  have := (ok.funs.mem hb).1
  rw [e] at this; cases this
theorem Inv.bs (I : Inv X pins σ H s) : ∀ b o, X.base.get? b = some o → s.heap.get? b = some o ∧ H b = none := fun b o e =>
  ⟨I.base.keep b o (I.ok.bs b o e).1 (I.ok.bs b o e).2 (I.ok.nofr e) (I.ok.noex b o e), I.base.free b o (I.ok.bs b o e).1 (I.ok.bs b o e).2 (I.ok.noex b o e)⟩
theorem Inv.bk (I : Inv X pins σ H s) : ∀ b o, X.base.get? b = some o → s.heap.get? b = some o := fun b o e => (I.bs b o e).1
theorem Inv.mod (I : Inv X pins σ H s) : Mod X.K X.mg X.base := I.ok.mod
theorem Inv.kIn (I : Inv X pins σ H s) : X.K.In s.heap := I.ok.mod.kin.keeps I.bk
theorem Inv.nolimit (I : Inv X pins σ H s) : s.heap.NoLimit := I.ok.mod.nolimit.keeps I.bk
/-- the frame over the base: for OpenK's rules (K.In X.base is I.mod.kin) -/
theorem Inv.fr (I : Inv X pins σ H s) : ∃ m, Fr X.base X.env.locals s.heap m :=
  let ⟨m, hn, _⟩ := I.loc
  ⟨m, hn, I.bk, Nat.le_trans I.ok.bsz I.ok.above⟩
theorem Inv.lt (I : Inv X pins σ H s) : X.env.locals < s.heap.objs.size := let ⟨_, hn, _⟩ := I.loc; hn.lt
theorem Inv.sz (I : Inv X pins σ H s) : X.s₀.heap.objs.size ≤ s.heap.objs.size := Nat.le_trans I.ok.above (Nat.le_of_lt I.lt)
theorem Inv.nofs (I : Inv X pins σ H s) {a : Addr} (h : s.heap.objs.size ≤ a) : a ∉ X.fs := fun hb => by
  obtain ⟨_, o, ho, _⟩ := I.ok.funs.mem hb
  exact absurd (Nat.lt_of_lt_of_le (Heap.lt_size ho) (Nat.le_trans I.sz h)) (Nat.lt_irrefl _)
theorem Inv.cne (I : Inv X pins σ H s) : ∀ x c, X.env.cells.lookup x = some c → c ≠ X.env.locals := fun x c e z => by
  obtain ⟨v, o, ho, hd⟩ := I.cell x c e
  obtain ⟨m, ⟨o', es, ep, ho', hd', _⟩, _⟩ := I.loc
  rw [z, ho'] at ho; cases ho; rw [hd'] at hd; cases hd
theorem Inv.funs (I : Inv X pins σ H s) : s.heap.FunFrames X.base X.outer := by
  have all : ∀ (l : List Env), (∀ b ∈ frs l, b ∈ X.fs) → X.s₀.heap.FunFrames X.base l → s.heap.FunFrames X.base l := by
    intro l
    induction l with
    | nil => intro _ _; trivial
    | cons env r ih =>
      intro hs hl
      obtain ⟨hk, ⟨L, o, hf, hn, ho, hd⟩, hr⟩ := hl
      have hL : L ∈ X.fs := hs L (by unfold frs; rw [List.filterMap_cons, hf]; exact List.mem_cons_self)
      obtain ⟨sl, e⟩ := I.base.slot L o ho (I.ok.frf L hL) hL fun z => I.ok.exfs L z hL
      exact ⟨hk, ⟨L, _, hf, hn, e, hd⟩, ih (fun b hb => hs b (by unfold frs; rw [List.filterMap_cons, hf]; exact List.mem_cons_of_mem _ hb)) hr⟩
  exact all X.outer (fun _ hb => hb) I.ok.funs

/-- the frames that run, for a call -/
theorem Inv.stack (I : Inv X pins σ H s) : s.heap.FunFrames X.base X.stack := by
  rcases I.ok.stk with e | ⟨e, hf⟩
  · rw [e]; exact I.funs
  · rw [e]
    obtain ⟨m, hn, _⟩ := I.loc
    refine .cons (by rw [I.ok.kind]; decide) hf hn ?_ I.funs
    exact Heap.get?_none_of_le (Nat.le_trans I.ok.bsz I.ok.above)
theorem Inv.stkSub (I : Inv X pins σ H s) : ∀ b ∈ frs X.stack, b ∈ X.env.locals :: X.fs := fun b hb => by
  rcases I.ok.stk with e | ⟨e, hf⟩
  · rw [e] at hb; exact List.mem_cons_of_mem _ hb
  · rw [e] at hb
    unfold frs at hb
    rw [List.filterMap_cons, hf] at hb
    exact hb
theorem Inv.stkFree (I : Inv X pins σ H s) : ∀ b ∈ frs X.stack, H b = none := fun b hb => by
  rcases List.mem_cons.mp (I.stkSub b hb) with e | hb
  · rw [e]; exact I.free
  · obtain ⟨_, o, ho, _⟩ := I.ok.funs.mem hb
    exact I.base.free b o ho (I.ok.frf b hb) fun z => I.ok.exfs b z hb

/-- THE STEP: the untracked objects but the frame and the records at ch are kept (the callers' frames up to slots), the frame's map is kept, the new abstract heap is held -/
theorem Inv.step {g' : Array GenState} {t' : Nat} {d' : Drawn} {ch : List Addr} (I : Inv X pins σ H s)
    (hch : ∀ b ∈ ch, (b ∈ X.ex ∨ X.s₀.heap.objs.size ≤ b) ∧ b ≠ X.env.locals ∧ (∀ x c, X.env.cells.lookup x = some c → c ≠ b) ∧ ∀ p ∈ X.pn ++ pins, p.1 ≠ b)
    (keep : ∀ b o, b ≠ X.env.locals → b ∉ X.fs → b ∉ ch → s.heap.get? b = some o → H b = none → h'.get? b = some o)
    (slot : ∀ b o, b ≠ X.env.locals → b ∈ X.fs → b ∉ ch → s.heap.get? b = some o → H b = none → ∃ sl, h'.get? b = some { o with slots := sl }) (free : ∀ b o, b ∉ ch → s.heap.get? b = some o → H b = none → H' b = none)
    (there : ∀ b o, b ∉ ch → s.heap.get? b = some o → ∃ o', h'.get? b = some o')
    (tups : ∀ b xs, H b = some (.tup xs) → H' b = some (.tup xs)) (frzs : ∀ b o u, H b = some (.frz o u) → H' b = some (.frz o u)) (tbls : ∀ b ps, H b = some (.tbl ps) → ∃ more, H' b = some (.tbl (ps ++ more)))
    (ns : ∀ m, s.heap.Ns X.env.locals m → h'.Ns X.env.locals m) (hok : HOk X.prog X.w H' h') (hg : AllBare g') :
    Inv X pins σ H' { s with heap := h', gens := g', drawn := d', toks := t' } := by
  have neL : ∀ b o, X.s₀.heap.get? b = some o → b ≠ X.env.locals := fun b o e => Nat.ne_of_lt (Nat.lt_of_lt_of_le (Heap.lt_size e) I.ok.above)
  have neC : ∀ b o, X.s₀.heap.get? b = some o → b ∉ X.ex → b ∉ ch := fun b o e hx hb => by
    rcases (hch b hb).1 with z | z
    · exact hx z
    · exact absurd (Nat.lt_of_lt_of_le (Heap.lt_size e) z) (Nat.lt_irrefl _)
  have cellK : ∀ x c, X.env.cells.lookup x = some c → ∀ v, s.heap.IsCell c v → h'.IsCell c v := fun x c e v ⟨o, ho, hd⟩ => by
    have nch : c ∉ ch := fun z => (hch c z).2.2.1 x c e rfl
    by_cases hc : c ∈ X.fs
    · obtain ⟨sl, q⟩ := slot c o (I.cne x c e) hc nch ho (I.freeC x c e)
      exact ⟨_, q, hd⟩
    · exact ⟨o, keep c o (I.cne x c e) hc nch ho (I.freeC x c e), hd⟩
  refine ⟨I.ok, I.os, hg, ⟨fun b o e n hb hx => ?_, fun b o e n hb hx => ?_, fun b o e n hx => ?_, fun b o e hx => ?_, fun b xs e => tups b xs (I.base.tups b xs e), fun b o xs e => frzs b o xs (I.base.frzs b o xs e), fun b ps e => ?_⟩, ?_, fun x c e => ?_, ?_, fun x c e => ?_, fun p hp => ?_, hok, I.len⟩
  · exact keep b o (neL b o e) hb (neC b o e hx) (I.base.keep b o e n hb hx) (I.base.free b o e n hx)
  · obtain ⟨sl, e1⟩ := I.base.slot b o e n hb hx
    obtain ⟨sl', e2⟩ := slot b _ (neL b o e) hb (neC b o e hx) e1 (I.base.free b o e n hx)
    exact ⟨sl', e2⟩
  · obtain ⟨o', e1⟩ := I.base.there b o e hx
    exact free b o' (neC b o e hx) e1 (I.base.free b o e n hx)
  · obtain ⟨o', e1⟩ := I.base.there b o e hx
    exact there b o' (neC b o e hx) e1
  · obtain ⟨m1, e1⟩ := I.base.tbls b ps e
    obtain ⟨m2, e2⟩ := tbls b _ e1
    exact ⟨m1 ++ m2, by rw [e2, Array.append_assoc]⟩
  · obtain ⟨m, hn, hl⟩ := I.loc
    refine ⟨m, ns m hn, fun i x v e1 e2 e3 => ?_⟩
    obtain ⟨u, r, l⟩ := hl i x v e1 e2 e3
    refine ⟨u, r, ?_⟩
    rcases l with l | ⟨k, c, e, z⟩
    · exact .inl l
    · exact .inr ⟨k, c, e, cellK x c e _ z⟩
  · obtain ⟨v, z⟩ := I.cell x c e
    exact ⟨v, cellK x c e v z⟩
  · obtain ⟨m, ⟨o, _, _, ho, _⟩, _⟩ := I.loc
    exact free _ o (fun z => (hch _ z).2.1 rfl) ho I.free
  · obtain ⟨v, o, ho, hd⟩ := I.cell x c e
    exact free c o (fun z => (hch c z).2.2.1 x c e rfl) ho (I.freeC x c e)
  · obtain ⟨e, n, ne, nf, d⟩ := I.pin p hp
    have nch : p.1 ∉ ch := fun z => (hch p.1 z).2.2.2 p hp rfl
    exact ⟨keep p.1 p.2 ne nf nch e n, free p.1 p.2 nch e n, ne, nf, d⟩
/-- .. where the frame's own object is kept too -/
theorem Inv.un {t' : Nat} (I : Inv X pins σ H s) (u : Un X.fs [] H H' s.heap h') (hok : HOk X.prog X.w H' h') : Inv X pins σ H' { s with heap := h', toks := t' } := by
  obtain ⟨m, ⟨o, es, ep, ho, r⟩, _⟩ := id I.loc
  obtain ⟨sl, hL⟩ := u.any ho I.free (by simp)
  exact I.step (g' := s.gens) (d' := s.drawn) (ch := []) (fun _ z => nomatch z) (fun b o _ hb _ e n => u.keep b o e n hb (by simp)) (fun b o _ hb _ e n => u.slot b o e n hb (by simp)) (fun b o _ e n => u.free b o e n (by simp)) (fun b o _ e => u.there b o e (by simp)) u.tups u.frzs u.tbls (fun m' hm => by
    obtain ⟨o', es', ep', ho', r'⟩ := hm
    rw [ho] at ho'; cases ho'
    exact ⟨_, es', ep', hL, r'⟩) hok I.bare
/-- behind a call (or a comprehension's block): the slots of this frame may have changed too, the records at ch may have turned -/
theorem Inv.call {g' : Array GenState} {t' : Nat} {d' : Drawn} {ch : List Addr} (I : Inv X pins σ H s) (u : Un (frs X.stack) ch H H' s.heap h') (hok : HOk X.prog X.w H' h') (hg : AllBare g')
    (hch : ∀ b ∈ ch, (b ∈ X.ex ∨ X.s₀.heap.objs.size ≤ b) ∧ b ≠ X.env.locals ∧ (∀ x c, X.env.cells.lookup x = some c → c ≠ b) ∧ ∀ p ∈ X.pn ++ pins, p.1 ≠ b) :
    Inv X pins σ H' { s with heap := h', gens := g', drawn := d', toks := t' } := by
  obtain ⟨m, ⟨o, es, ep, ho, r⟩, _⟩ := id I.loc
  obtain ⟨sl, hL⟩ := u.any ho I.free fun z => (hch _ z).2.1 rfl
  exact I.step (ch := ch) hch (fun b o hL hb hc e n => u.keep b o e n (fun z => (List.mem_cons.mp (I.stkSub b z)).elim hL hb) hc) (fun b o _ _ hc e n => u.any e n hc) (fun b o hc e n => u.free b o e n hc) (fun b o hc e => u.there b o e hc) u.tups u.frzs u.tbls (fun m' hm => by
    obtain ⟨o', es', ep', ho', r'⟩ := hm
    rw [ho] at ho'; cases ho'
    exact ⟨_, es', ep', hL, r'⟩) hok hg
/-- an untracked record of ours (an iterator) has turned -/
theorem Inv.turned {t' : Nat} {it : Addr} (I : Inv X pins σ H s) (k : ∀ b o, b ≠ it → s.heap.get? b = some o → h'.get? b = some o) (hn : H it = none) (hL : it ≠ X.env.locals)
    (h1 : it ∈ X.ex ∨ X.s₀.heap.objs.size ≤ it) (h2 : ∀ x c, X.env.cells.lookup x = some c → c ≠ it) (h3 : ∀ p ∈ X.pn ++ pins, p.1 ≠ it) : Inv X pins σ H { s with heap := h', toks := t' } := by
  have nit : ∀ b u, H b = some u → b ≠ it := fun b u e z => by rw [z, hn] at e; cases e
  refine I.step (g' := s.gens) (d' := s.drawn) (ch := [it]) (fun b hb => ?_) (fun b o _ _ hc e _ => k b o (fun z => hc (by simp [z])) e) (fun b o _ _ hc e _ => ⟨o.slots, k b o (fun z => hc (by simp [z])) e⟩) (fun _ _ _ _ n => n)
    (fun b o hc e => ⟨o, k b o (fun z => hc (by simp [z])) e⟩) (fun _ _ e => e) (fun _ _ _ e => e) (fun b ps e => ⟨#[], by rw [e]; simp⟩) (fun m hm => ?_) (fun b u e => ?_) I.bare
  · have e : b = it := by simpa using hb
    subst e
    exact ⟨h1, hL, h2, h3⟩
  · obtain ⟨o, es, ep, ho, r⟩ := hm
    exact ⟨o, es, ep, k _ o (Ne.symm hL) ho, r⟩
  · refine (I.hok b u e).stay (fun c v hc q => k c v ?_ q) (fun _ q => q) fun _ _ q => q
    rcases hc with z | z
    · rw [z]; exact nit b u e
    · exact nit c _ z
theorem Inv.tok (I : Inv X pins σ H s) (t : Nat) : Inv X pins σ H { s with toks := t } := I.un (h' := s.heap) (t' := t) Un.refl I.hok
/-- all objects kept -/
theorem Inv.kept {t' : Nat} (I : Inv X pins σ H s) (k : ∀ b u, s.heap.get? b = some u → h'.get? b = some u) : Inv X pins σ H { s with heap := h', toks := t' } := I.un (Un.kept k) (I.hok.kept k)
/-- a new object laid and tracked -/
theorem Inv.laid {a : Addr} {o : HO} {t' : Nat} (I : Inv X pins σ H s) (k : ∀ b u, s.heap.get? b = some u → h'.get? b = some u) (hp : s.heap.objs.size ≤ a) (new : ObjOk X.prog X.w (upd H a o) h' a o) :
    Inv X pins σ (upd H a o) { s with heap := h', toks := t' } := I.un (Un.laid k hp (I.hok.fresh hp)) (I.hok.laid k hp new)
/-- an object written -/
theorem Inv.write {x e : Addr} {o : HO} {t' : Nat} (I : Inv X pins σ H s) (mu : Mut (H x)) (he : e = x ∨ H e = some (.own x)) (k : ∀ b u, b ≠ e → s.heap.get? b = some u → h'.get? b = some u) (heo : ∃ u, h'.get? e = some u)
    (new : ObjOk X.prog X.w (upd H x o) h' x o) : Inv X pins σ (upd H x o) { s with heap := h', toks := t' } := I.un (Un.write mu he k heo) (I.hok.write mu he k heo new)
/-- forgetting slots, pins -/
theorem Inv.weak {σ' : List (Option V)} (I : Inv X pins σ H s) (hl : σ'.length = σ.length) (w : ∀ (i : Nat) v, σ'[i]? = some (some v) → σ[i]? = some (some v)) : Inv X pins σ' H s :=
  ⟨I.ok, I.os, I.bare, I.base, let ⟨m, hn, hl'⟩ := I.loc; ⟨m, hn, fun i x v e1 e2 e3 => hl' i x v e1 (w i v e2) e3⟩, I.cell, I.free, I.freeC, I.pin, I.hok, hl.trans I.len⟩
theorem Inv.pins_of {pins' : List (Addr × Obj)} (I : Inv X pins σ H s) (h : ∀ p ∈ pins', s.heap.get? p.1 = some p.2 ∧ H p.1 = none ∧ p.1 ≠ X.env.locals ∧ p.1 ∉ X.fs ∧ ∀ v, p.2.data ≠ .cell v) : Inv X pins' σ H s :=
  ⟨I.ok, I.os, I.bare, I.base, I.loc, I.cell, I.free, I.freeC, fun p hp => (List.mem_append.mp hp).elim (fun z => I.pin p (List.mem_append_left _ z)) (h p), I.hok, I.len⟩

theorem nodup_ix {N : List Str} (hN : N.Nodup) {i j : Nat} {x : Str} (a : N[i]? = some x) (b : N[j]? = some x) : i = j := by
  obtain ⟨h1, e1⟩ := List.getElem?_eq_some_iff.mp a
  obtain ⟨h2, e2⟩ := List.getElem?_eq_some_iff.mp b
  exact (List.getElem_inj hN).mp (e1.trans e2.symm)

/-- a name is stored; what changed -/
theorem store_ok2 {M : Model} {A : Around} {E : Value → Shared → Prop} {i : Nat} {x : Str} {v : V} {u : Value} {Q : Unit → Shared → Prop} (I : Inv X pins σ H s) (hN : X.N.Nodup) (hi : X.N[i]? = some x) (hx : Loc X.env.scope x) (r : RelV v u)
    (h : ∀ s', Inv X pins (σ.set i (some v)) H s' → (∃ a, Heap.SameBut a s.heap s'.heap ∧ (a = X.env.locals ∨ X.env.cells.lookup x = some a)) → Q () s') (hf : X.fn x = true ∨ X.env.scope.names.lookup x = some .local := by first | exact .inl rfl | exact .inr rfl | assumption) : wpAny M A (storeName X.env x u) Q E s := by
  obtain ⟨m, hn, hl⟩ := id I.loc
  have hcls : (X.env.scope.kind == .class || (X.env.scope.kind == .module && X.env.locals != X.env.globals)) = false := by rw [I.ok.kind]; rfl
  have hiσ : i < σ.length := by rw [I.len]; exact (List.getElem?_eq_some_iff.mp hi).1
  have cne := I.cne
  have tracked : ∀ {a : Addr} {h' : Heap}, (∃ o, s.heap.get? a = some o ∧ H a = none) → Heap.SameBut a s.heap h' → HOk X.prog X.w H h' := fun {a h'} ha hs b ob e => by
    obtain ⟨_, _, hfree⟩ := ha
    refine (I.hok b ob e).stay (fun c w' hc q => (hs.2 c ?_).trans q) (fun _ q => q) fun _ _ q => q
    rintro rfl
    rcases hc with rfl | hc
    · rw [hfree] at e; cases e
    · rw [hfree] at hc; cases hc
  rcases hx with hk | hk
  · refine wpAny_storeName_local hk hn (fun h' hn' hs => ?_) hcls
    obtain ⟨oL, _, _, hoL, _⟩ := id hn
    refine h _ ⟨I.ok, I.os, I.bare, ⟨fun b o e n hb hx => ?_, fun b o e n hb hx => ?_, I.base.free, fun b o e hx => ?_, I.base.tups, I.base.frzs, I.base.tbls⟩, ⟨_, hn', fun j y v' e1 e2 e3 => ?_⟩, fun y c e => ?_, I.free, I.freeC, fun p hp => ?_, tracked ⟨oL, hoL, I.free⟩ hs, by simpa using I.len⟩ ⟨_, hs, .inl rfl⟩
    · exact (hs.2 b (Nat.ne_of_lt (Nat.lt_of_lt_of_le (Heap.lt_size e) I.ok.above))).trans (I.base.keep b o e n hb hx)
    · obtain ⟨sl, e1⟩ := I.base.slot b o e n hb hx
      exact ⟨sl, (hs.2 b (Nat.ne_of_lt (Nat.lt_of_lt_of_le (Heap.lt_size e) I.ok.above))).trans e1⟩
    · obtain ⟨o', e1⟩ := I.base.there b o e hx
      exact ⟨o', (hs.2 b (Nat.ne_of_lt (Nat.lt_of_lt_of_le (Heap.lt_size e) I.ok.above))).trans e1⟩
    · by_cases hj : j = i
      · subst hj
        rw [hi] at e1; cases e1
        rw [List.getElem?_set_self hiσ] at e2
        cases e2
        exact ⟨u, r, .inl ⟨hk, by simp⟩⟩
      · rw [List.getElem?_set_ne (Ne.symm hj)] at e2
        obtain ⟨u', r', q⟩ := hl j y v' e1 e2 e3
        refine ⟨u', r', ?_⟩
        rcases q with ⟨k, e⟩ | ⟨k, c, e, z⟩
        · refine .inl ⟨k, ?_⟩
          have : y ≠ x := fun e => hj (nodup_ix hN e1 (e ▸ hi))
          simp [this, e]
        · exact .inr ⟨k, c, e, z.sameBut hs (cne y c e)⟩
    · obtain ⟨w', z⟩ := I.cell y c e
      exact ⟨w', z.sameBut hs (cne y c e)⟩
    · obtain ⟨e, n, ne, nf, d⟩ := I.pin p hp
      exact ⟨(hs.2 p.1 ne).trans e, n, ne, nf, d⟩
  · have hfn : X.fn x = true := by
      rcases hf with z | z
      · exact z
      · rw [z] at hk; cases hk
    obtain ⟨c, hc⟩ := I.ok.has x (.inl hk)
    obtain ⟨w', z⟩ := I.cell x c hc
    refine wpAny_storeName_cell I.ok.kind hk hc z (fun h' hc' hs => ?_)
    obtain ⟨oc, hoc, hocd⟩ := id z
    refine h { s with heap := h' } ⟨I.ok, I.os, I.bare, ⟨fun b o e n hb hx => ?_, fun b o e n hb hx => ?_, I.base.free, fun b o e hx => ?_, I.base.tups, I.base.frzs, I.base.tbls⟩, ⟨m, hn.sameBut hs (Ne.symm (cne x c hc)), fun j y v' e1 e2 e3 => ?_⟩, fun y c' e => ?_, I.free, I.freeC, fun p hp => ?_, tracked ⟨oc, hoc, I.freeC x c hc⟩ hs, by simpa using I.len⟩ ⟨c, hs, .inr hc⟩
    · exact (hs.2 b (Nat.ne_of_lt (Nat.lt_of_lt_of_le (Heap.lt_size e) (I.ok.cab x c hfn hc)))).trans (I.base.keep b o e n hb hx)
    · obtain ⟨sl, e1⟩ := I.base.slot b o e n hb hx
      exact ⟨sl, (hs.2 b (Nat.ne_of_lt (Nat.lt_of_lt_of_le (Heap.lt_size e) (I.ok.cab x c hfn hc)))).trans e1⟩
    · obtain ⟨o', e1⟩ := I.base.there b o e hx
      exact ⟨o', (hs.2 b (Nat.ne_of_lt (Nat.lt_of_lt_of_le (Heap.lt_size e) (I.ok.cab x c hfn hc)))).trans e1⟩
    · by_cases hj : j = i
      · subst hj
        rw [hi] at e1; cases e1
        rw [List.getElem?_set_self hiσ] at e2
        cases e2
        exact ⟨u, r, .inr ⟨.inl hk, c, hc, hc'⟩⟩
      · rw [List.getElem?_set_ne (Ne.symm hj)] at e2
        obtain ⟨u', r', q⟩ := hl j y v' e1 e2 e3
        refine ⟨u', r', ?_⟩
        rcases q with q | ⟨k, c', e, z'⟩
        · exact .inl q
        · refine .inr ⟨k, c', e, z'.sameBut hs ?_⟩
          rintro rfl
          exact hj (nodup_ix hN e1 (I.ok.inj _ _ _ e hc ▸ hi))
    · by_cases hcc : c' = c
      · subst hcc; exact ⟨_, hc'⟩
      · obtain ⟨w2, z2⟩ := I.cell y c' e
        exact ⟨w2, z2.sameBut hs hcc⟩
    · obtain ⟨e, n, ne, nf, d⟩ := I.pin p hp
      refine ⟨(hs.2 p.1 ?_).trans e, n, ne, nf, d⟩
      intro q
      rw [q, hoc] at e
      have q' : oc = p.2 := Option.some.inj e
      exact d w' (by rw [← q']; exact hocd)
theorem store_ok {M : Model} {A : Around} {E : Value → Shared → Prop} {i : Nat} {x : Str} {v : V} {u : Value} {Q : Unit → Shared → Prop} (I : Inv X pins σ H s) (hN : X.N.Nodup) (hi : X.N[i]? = some x) (hx : Loc X.env.scope x) (r : RelV v u)
    (h : ∀ s', Inv X pins (σ.set i (some v)) H s' → Q () s') (hf : X.fn x = true ∨ X.env.scope.names.lookup x = some .local := by first | exact .inl rfl | exact .inr rfl | assumption) : wpAny M A (storeName X.env x u) Q E s :=
  store_ok2 I hN hi hx r (fun s' I' _ => h s' I') hf
/-- behind a call or a block, the state as it is -/
theorem Inv.call' {s' : Shared} {ch : List Addr} (I : Inv X pins σ H s) (ho : s'.os = s.os) (u : Un (frs X.stack) ch H H' s.heap s'.heap) (hok : HOk X.prog X.w H' s'.heap) (hg : AllBare s'.gens)
    (hch : ∀ b ∈ ch, (b ∈ X.ex ∨ X.s₀.heap.objs.size ≤ b) ∧ b ≠ X.env.locals ∧ (∀ x c, X.env.cells.lookup x = some c → c ≠ b) ∧ ∀ p ∈ X.pn ++ pins, p.1 ≠ b) : Inv X pins σ H' s' := by
  obtain ⟨h', g', d', t', o'⟩ := s'
  have e : o' = s.os := ho
  subst e
  exact I.call (g' := g') (t' := t') (d' := d') u hok hg hch
end

/-! ### the judgements -/
/-- an exception: its class, its own dict's address (where it has one), the abstract heap behind it -/
abbrev XK := Value → Option Addr → Hp → Prop
abbrev St := List (Option V)
abbrev VK := V → Hp → Prop
/-- an expression's reading; a test's; an argument list's -/
abbrev TE := St → Hp → VK → Prop
abbrev TT := St → Hp → (Bool → Hp → Prop) → Prop
abbrev TA := St → Hp → (List V → Hp → Prop) → Prop
/-- what is wanted behind a statement -/
structure Ends where
  nx : St → Hp → Prop
  rt : VK
  bk : St → Hp → Prop := fun _ _ => False
  ct : St → Hp → Prop := fun _ _ => False
abbrev TS := Ends → St → Hp → Prop

def EP (X : Cx) (pins : List (Addr × Obj)) (σ : St) (Q : VK) (u : Value) (s' : Shared) : Prop := ∃ v H', Inv X pins σ H' s' ∧ RelV v u ∧ Q v H'
def TP (X : Cx) (pins : List (Addr × Obj)) (σ : St) (Q : Bool → Hp → Prop) (b : Bool) (s' : Shared) : Prop := ∃ H', Inv X pins σ H' s' ∧ Q b H'
def AP (X : Cx) (pins : List (Addr × Obj)) (σ : St) (Q : List V → Hp → Prop) (us : List Value) (s' : Shared) : Prop := ∃ vs H', Inv X pins σ H' s' ∧ Vals vs us ∧ Q vs H'
def SP (X : Cx) (pins : List (Addr × Obj)) (D : Ends) (f : Flow) (s' : Shared) : Prop :=
  match f with
  | .next => ∃ σ' H', Inv X pins σ' H' s' ∧ D.nx σ' H'
  | .brk => ∃ σ' H', Inv X pins σ' H' s' ∧ D.bk σ' H'
  | .cont => ∃ σ' H', Inv X pins σ' H' s' ∧ D.ct σ' H'
  | .ret u => ∃ v σ' H', Inv X pins σ' H' s' ∧ RelV v u ∧ D.rt v H'

def PE (X : Cx) (e : Expr) (t : TE) : Prop :=
  ∀ (pins : List (Addr × Obj)) (s : Shared) (σ : St) (H : Hp) (Q : VK), Inv X pins σ H s → t σ H Q → wpAny (model X.prog X.w) X.A (eval e X.env) (EP X pins σ Q) X.xe s
def PT (X : Cx) (e : Expr) (t : TT) : Prop :=
  ∀ (pins : List (Addr × Obj)) (s : Shared) (σ : St) (H : Hp) (Q : Bool → Hp → Prop), Inv X pins σ H s → t σ H Q → wpAny (model X.prog X.w) X.A (isTrue e X.env (eval e X.env)) (TP X pins σ Q) X.xe s
/-- a test whatever its 'whole' is (and, or) -/
def PW (X : Cx) (e : Expr) (t : TT) : Prop :=
  ∀ (whole : Sem Value) (pins : List (Addr × Obj)) (s : Shared) (σ : St) (H : Hp) (Q : Bool → Hp → Prop), Inv X pins σ H s → t σ H Q → wpAny (model X.prog X.w) X.A (isTrue e X.env whole) (TP X pins σ Q) X.xe s
theorem PW.pt {X : Cx} {e : Expr} {t : TT} (h : PW X e t) : PT X e t := h _
/-- an argument list (no star), from the left -/
def PA (X : Cx) (es : List Expr) (t : TA) : Prop :=
  ∀ (pos : Pos) (pins : List (Addr × Obj)) (s : Shared) (σ : St) (H : Hp) (Q : List V → Hp → Prop), Inv X pins σ H s → t σ H Q → wpAny (model X.prog X.w) X.A (spliced (backTo pos (starEach es X.env))) (AP X pins σ Q) X.xe s
def PS (X : Cx) (st : Stmt) (t : TS) : Prop :=
  ∀ (pins : List (Addr × Obj)) (s : Shared) (σ : St) (H : Hp) (D : Ends), Inv X pins σ H s → t D σ H → wpAny (model X.prog X.w) X.A (exec st X.env) (SP X pins D) X.xe s
def PSs (X : Cx) (st : List Stmt) (t : TS) : Prop :=
  ∀ (pins : List (Addr × Obj)) (s : Shared) (σ : St) (H : Hp) (D : Ends), Inv X pins σ H s → t D σ H → wpAny (model X.prog X.w) X.A (execs st X.env) (SP X pins D) X.xe s
/-- weaken the end -/
theorem thn {α : Type} {t : Sem α} {Q Q' : α → Shared → Prop} {M : Model} {A : Around} {E : Value → Shared → Prop} {s : Shared} (h : wpAny M A t Q E s) (hQ : ∀ a s, Q a s → Q' a s) : wpAny M A t Q' E s := wpAny_mono h hQ fun _ _ x => x
end L2

namespace L2
open PySem PySem.Spec PyProof.Rows
section
variable {X : Cx}

/-- two expressions in a row -/
theorem bin {a b : Expr} {ta tb : TE} (ha : PE X a ta) (hb : PE X b tb) {pins : List (Addr × Obj)} {s : Shared} {σ : St} {H : Hp} {R : V → V → Hp → Prop} (I : Inv X pins σ H s) (h : ta σ H fun x H1 => tb σ H1 fun y H2 => R x y H2)
    {α : Type} {Q : α → Shared → Prop} {f : Value → Value → Sem α}
    (hf : ∀ v u s2 x y H2, Inv X pins σ H2 s2 → RelV x v → RelV y u → R x y H2 → wpAny (model X.prog X.w) X.A (f v u) Q X.xe s2) :
    wpAny (model X.prog X.w) X.A (eval a X.env) (fun v s₁ => wpAny (model X.prog X.w) X.A (eval b X.env) (fun u s₂ => wpAny (model X.prog X.w) X.A (f v u) Q X.xe s₂) X.xe s₁) X.xe s := by
  refine thn (ha pins s σ H _ I h) fun v s1 ⟨x, H1, I1, r1, q1⟩ => ?_
  refine thn (hb pins s1 σ H1 _ I1 q1) fun u s2 ⟨y, H2, I2, r2, q2⟩ => ?_
  exact hf v u s2 x y H2 I2 r1 r2 q2

/-! ### names and constants -/
def tVar (i : Nat) : TE := fun σ H Q => ∃ v, σ[i]? = some (some v) ∧ Q v H
def tC (v : V) : TE := fun _ H Q => Q v H
theorem pe_var {i : Nat} {x : Str} {pos : Pos} (hN : X.N[i]? = some x) (hv : Vis X.env.scope x) (hd : (x == ("__debug__" : Str)) = false := by decide) (hcd : (x == ("__classdict__" : Str)) = false := by decide) : PE X (.Name x pos) (tVar i) := by
  intro pins s σ H Q I h
  obtain ⟨v, e, h⟩ := h
  obtain ⟨m, hn, hl⟩ := I.loc
  obtain ⟨u, r, l⟩ := hl i x v hN e hv
  have fin : EP X pins σ Q u s := ⟨v, H, I, r, h⟩
  rcases l with ⟨hk, hm⟩ | ⟨hk, c, hc, hcell⟩
  · exact wpAny_Name (wpAny_loadName_local I.ok.kind hk hn hm fin) hd
  · rcases hk with hk | hk
    · exact wpAny_Name (wpAny_loadName_cell I.ok.kind hk hc hcell fin) hd
    · exact wpAny_Name (wpAny_loadName_free I.ok.kind hk hc hcell fin hcd) hd
theorem pe_int {i j pos} : PE X (.Constant (.int i) j pos) (tC (.int i)) := fun _ _ _ H _ I h => wpAny_Constant_int ⟨.int i, H, I.tok _, ⟨_, rfl⟩, h⟩
theorem pe_bl {b j pos} : PE X (.Constant (.bool b) j pos) (tC (.bl b)) := fun _ _ _ H _ I h => Constant_bool ⟨.bl b, H, I, rfl, h⟩
theorem pe_non {j pos} : PE X (.Constant .none j pos) (tC .non) := fun _ _ _ H _ I h => Constant_none ⟨.non, H, I, rfl, h⟩
theorem pe_str {x j pos} : PE X (.Constant (.str x) j pos) (tC (.str x)) := fun _ _ _ H _ I h => Calls.Constant_str ⟨.str x, H, I.tok _, ⟨_, rfl⟩, h⟩

/-- a global name of the def -/
def Gl (X : Cx) (x : Str) : Prop := X.env.kindOf x = some .globalImplicit
theorem ld_glob {E : Value → Shared → Prop} {pins : List (Addr × Obj)} {s : Shared} {σ : St} {H : Hp} {x : Str} {u : Value} {pos : Pos} {Q : Value → Shared → Prop} (I : Inv X pins σ H s) (hg : Gl X x) (hm : X.mg x = some u) (h : Q u s)
    (hd : (x == ("__debug__" : Str)) = false := by decide) : wpAny (model X.prog X.w) X.A (eval (.Name x pos) X.env) Q E s :=
  Calls.Name_function_global I.ok.kind hg (Calls.loadGlobal_global (by rw [I.ok.glob]; exact I.mod.glob.keeps I.bk) hm h) hd
theorem ld_blt {E : Value → Shared → Prop} {pins : List (Addr × Obj)} {s : Shared} {σ : St} {H : Hp} {x : Str} {u : Value} {pos : Pos} {Q : Value → Shared → Prop} (I : Inv X pins σ H s) (hg : Gl X x) (hm : X.mg x = none) (hv : bootBuiltins x = some u) (h : Q u s)
    (hn : x ≠ "__name__" := by decide) (hd : (x == ("__debug__" : Str)) = false := by decide) : wpAny (model X.prog X.w) X.A (eval (.Name x pos) X.env) Q E s := by
  obtain ⟨mb, h1, h2⟩ := I.mod.blt
  exact Calls.Name_function_global I.ok.kind hg (Calls.loadGlobal_builtin (by rw [I.ok.glob]; exact I.mod.glob.keeps I.bk) hm (by rw [I.ok.blt]; exact h1.keeps I.bk) ((h2 x hn).trans hv) h) hd
/-- a module's constant, a class, a function, as a value -/
theorem pe_glob {x : Str} {v : V} {u : Value} {pos : Pos} (hg : Gl X x) (hm : X.mg x = some u) (r : RelV v u) (hd : (x == ("__debug__" : Str)) = false := by decide) : PE X (.Name x pos) (tC v) :=
  fun _ _ _ H _ I h => ld_glob I hg hm ⟨v, H, I, r, h⟩ hd
theorem pe_bltn {x : Str} {v : V} {u : Value} {pos : Pos} (hg : Gl X x) (hm : X.mg x = none) (hv : bootBuiltins x = some u) (r : RelV v u) (hn : x ≠ "__name__" := by decide) (hd : (x == ("__debug__" : Str)) = false := by decide) : PE X (.Name x pos) (tC v) :=
  fun _ _ _ H _ I h => ld_blt I hg hm hv ⟨v, H, I, r, h⟩ hn hd

/-! ### arithmetic -/
/-- two ints -/
def t2I (ta tb : TE) (k : Int → Int → Hp → Prop) : St → Hp → Prop := fun σ H => ta σ H fun x H1 => tb σ H1 fun y H2 => ∃ i j, x = .int i ∧ y = .int j ∧ k i j H2
def tAdd (ta tb : TE) : TE := fun σ H Q => t2I ta tb (fun i j H2 => Q (.int (i + j)) H2) σ H
def tSub (ta tb : TE) : TE := fun σ H Q => t2I ta tb (fun i j H2 => Q (.int (i - j)) H2) σ H
/-- the left factor below 2^64 -/
def tMul (ta tb : TE) : TE := fun σ H Q => t2I ta tb (fun i j H2 => (-(2 ^ 64) < i ∧ i < 2 ^ 64) ∧ Q (.int (i * j)) H2) σ H
variable {a b : Expr} {ta tb : TE} {pos : Pos}
theorem pe_add (ha : PE X a ta) (hb : PE X b tb) : PE X (.BinOp a .Add b pos) (tAdd ta tb) := by
  intro pins s σ H Q I h
  refine wpAny_BinOp (bin ha hb I h fun v u s2 x y H2 I2 rx ry q => ?_)
  obtain ⟨i, j, rfl, rfl, q⟩ := q
  obtain ⟨t, rfl⟩ := rx
  obtain ⟨t', rfl⟩ := ry
  exact add_int ⟨.int _, H2, I2.tok _, ⟨_, rfl⟩, q⟩
theorem pe_sub (ha : PE X a ta) (hb : PE X b tb) : PE X (.BinOp a .Sub b pos) (tSub ta tb) := by
  intro pins s σ H Q I h
  refine wpAny_BinOp (bin ha hb I h fun v u s2 x y H2 I2 rx ry q => ?_)
  obtain ⟨i, j, rfl, rfl, q⟩ := q
  obtain ⟨t, rfl⟩ := rx
  obtain ⟨t', rfl⟩ := ry
  exact sub_int ⟨.int _, H2, I2.tok _, ⟨_, rfl⟩, q⟩
theorem pe_mul (ha : PE X a ta) (hb : PE X b tb) : PE X (.BinOp a .Mult b pos) (tMul ta tb) := by
  intro pins s σ H Q I h
  refine wpAny_BinOp (bin ha hb I h fun v u s2 x y H2 I2 rx ry q => ?_)
  obtain ⟨i, j, rfl, rfl, ⟨q1, q2⟩, q⟩ := q
  obtain ⟨t, rfl⟩ := rx
  obtain ⟨t', rfl⟩ := ry
  exact mul_int ⟨.int _, H2, I2.tok _, ⟨_, rfl⟩, q⟩ (.of_left (intBits_le_64 q1 q2))

/-! ### comparisons -/
def PC (X : Cx) (op : CmpOp) (a b : Expr) (t : TE) : Prop :=
  ∀ (pins : List (Addr × Obj)) (s : Shared) (σ : St) (H : Hp) (Q : VK), Inv X pins σ H s → t σ H Q →
    wpAny (model X.prog X.w) X.A (eval a X.env) (fun v s₁ => wpAny (model X.prog X.w) X.A (eval b X.env) (fun u s₂ => wpAny (model X.prog X.w) X.A (compareOp op v u) (EP X pins σ Q) X.xe s₂) X.xe s₁) X.xe s
theorem nobehind (b : Expr) {op : CmpOp} (h : op ≠ .In) (h2 : op ≠ .NotIn) : behindInMarks op b = false := by
  have e1 : (op == CmpOp.In) = false := by cases op <;> first | rfl | exact absurd rfl h
  have e2 : (op == CmpOp.NotIn) = false := by cases op <;> first | rfl | exact absurd rfl h2
  cases b <;> simp [behindInMarks, e1, e2]
def tCmp (p : Int → Int → Bool) (ta tb : TE) : TE := fun σ H Q => t2I ta tb (fun i j H2 => Q (.bl (p i j)) H2) σ H
abbrev tLt : TE → TE → TE := tCmp fun i j => decide (i < j)
abbrev tLe : TE → TE → TE := tCmp fun i j => decide (i ≤ j)
abbrev tGt : TE → TE → TE := tCmp fun i j => decide (j < i)
abbrev tGe : TE → TE → TE := tCmp fun i j => decide (j ≤ i)
abbrev tEqI : TE → TE → TE := tCmp fun i j => decide (i = j)
abbrev tNeI : TE → TE → TE := tCmp fun i j => !decide (i = j)
/-- a comparison of two ints, by its rule -/
theorem pc_int {op : CmpOp} {p : Int → Int → Bool} (ha : PE X a ta) (hb : PE X b tb)
    (rule : ∀ (i j : Int) (t u : Tok) (Q : Value → Shared → Prop) (s : Shared), Q (.bool (p i j)) s → wpAny (model X.prog X.w) X.A (compareOp op (.int i t) (.int j u)) Q X.xe s) : PC X op a b (tCmp p ta tb) := by
  intro pins s σ H Q I h
  refine bin ha hb I h fun v u s2 x y H2 I2 rx ry q => ?_
  obtain ⟨i, j, rfl, rfl, q⟩ := q
  obtain ⟨t, rfl⟩ := rx
  obtain ⟨t', rfl⟩ := ry
  exact rule i j t t' _ s2 ⟨.bl _, H2, I2, rfl, q⟩
theorem pc_lt (ha : PE X a ta) (hb : PE X b tb) : PC X .Lt a b (tLt ta tb) := pc_int ha hb fun _ _ _ _ _ _ h => lt_int h
theorem pc_le (ha : PE X a ta) (hb : PE X b tb) : PC X .LtE a b (tLe ta tb) := pc_int ha hb fun _ _ _ _ _ _ h => le_int h
theorem pc_gt (ha : PE X a ta) (hb : PE X b tb) : PC X .Gt a b (tGt ta tb) := pc_int ha hb fun _ _ _ _ _ _ h => gt_int h
theorem pc_ge (ha : PE X a ta) (hb : PE X b tb) : PC X .GtE a b (tGe ta tb) := pc_int ha hb fun _ _ _ _ _ _ h => ge_int h
theorem pc_eqI (ha : PE X a ta) (hb : PE X b tb) : PC X .Eq a b (tEqI ta tb) := pc_int ha hb fun _ _ _ _ _ _ h => eq_int (by rw [Bool.beq_eq_decide_eq]; exact h)
theorem pc_neI (ha : PE X a ta) (hb : PE X b tb) : PC X .NotEq a b (tNeI ta tb) := pc_int ha hb fun _ _ _ _ _ _ h => ne_int (by rw [bne, Bool.beq_eq_decide_eq]; exact h)
/-- is None -/
def tIsN (ta : TE) : TE := fun σ H Q => ta σ H fun x H1 => Q (.bl (decide (x = .non))) H1
def tNotN (ta : TE) : TE := fun σ H Q => ta σ H fun x H1 => Q (.bl (!decide (x = .non))) H1
theorem RelV.none_iff {x : V} {v : Value} (r : RelV x v) : (v == Value.none) = decide (x = .non) := by
  cases x with
  | non => cases r; rfl
  | bl _ => cases r; rfl
  | int _ => obtain ⟨t, rfl⟩ := r; rfl
  | str _ => obtain ⟨t, rfl⟩ := r; rfl
  | byt _ => obtain ⟨t, rfl⟩ := r; rfl
  | flt _ => obtain ⟨t, rfl⟩ := r; rfl
  | ref _ => cases r; rfl
  | ty _ => cases r; rfl
theorem pc_isN {j pos'} (ha : PE X a ta) : PC X .Is a (.Constant .none j pos') (tIsN ta) := by
  intro pins s σ H Q I h
  refine thn (ha pins s σ H _ I h) fun v s1 ⟨x, H1, I1, r1, q1⟩ => ?_
  exact Constant_none (is_none_gen ⟨.bl _, H1, I1, by rw [r1.none_iff]; rfl, q1⟩)
theorem pc_notN {j pos'} (ha : PE X a ta) : PC X .IsNot a (.Constant .none j pos') (tNotN ta) := by
  intro pins s σ H Q I h
  refine thn (ha pins s σ H _ I h) fun v s1 ⟨x, H1, I1, r1, q1⟩ => ?_
  exact Constant_none (isnot_none_gen ⟨.bl _, H1, I1, by rw [r1.none_iff]; rfl, q1⟩)
/-- a comparison as a value, as a test -/
def tB (t : TE) : TT := fun σ H Q => t σ H fun x H1 => ∃ c, x = .bl c ∧ Q c H1
theorem pe_cmp {op : CmpOp} {t : TE} (h : PC X op a b t) (h1 : behindInMarks op b = false := by first | exact nobehind _ (by decide) (by decide) | rfl) : PE X (.Compare a [op] [b] pos) t := fun pins s σ H Q I hw => wpAny_Compare1 (h pins s σ H Q I hw) h1
theorem pt_cmp {op : CmpOp} {t : TE} (h : PC X op a b t) (h1 : behindInMarks op b = false := by first | exact nobehind _ (by decide) (by decide) | rfl) : PT X (.Compare a [op] [b] pos) (tB t) := by
  intro pins s σ H Q I hw
  refine wpAny_isTrue_Compare1 (thn (h pins s σ H _ I hw) fun v s1 h1 => thn h1 fun u s2 h2 => thn h2 fun c s3 ⟨x, H1, I1, r1, q1⟩ => ?_) h1
  obtain ⟨d, rfl, q⟩ := q1
  cases r1
  exact wpAny_truthy_bool ⟨H1, I1, q⟩
/-- an expression whose value is a bool, as a test -/
theorem pt_val {e : Expr} {t : TE} (h : PE X e t) (he : ∀ whole, isTrue e X.env whole = (do let v ← whole; standAt e.pos; holding [v] (truthy v)) := by intro _; rfl) : PT X e (tB t) := by
  intro pins s σ H Q I hw
  refine isTrue_plain (thn (h pins s σ H _ I hw) fun v s1 ⟨x, H1, I1, r1, q1⟩ => ?_) (he _)
  obtain ⟨d, rfl, q⟩ := q1
  cases r1
  exact wpAny_truthy_bool ⟨H1, I1, q⟩

/-! ### and, or, not -/
variable {tA tB' : TT} {rest : List Expr}
def tAnd (t u : TT) : TT := fun σ H Q => t σ H fun c H1 => if c = true then u σ H1 Q else Q false H1
def tOr (t u : TT) : TT := fun σ H Q => t σ H fun c H1 => if c = true then Q true H1 else u σ H1 Q
def tNot (t : TT) : TT := fun σ H Q => t σ H fun c H1 => Q (!c) H1
theorem pw_and1 (ha : PT X a tA) : PW X (.BoolOp .And [a] pos) tA := by
  intro wh pins s σ H Q I h
  refine isTrue_and (thn (ha pins s σ H Q I h) fun c s1 e => ?_)
  cases c with
  | true => exact isTrue_and_nil e
  | false => exact e
theorem pw_or1 (ha : PT X a tA) : PW X (.BoolOp .Or [a] pos) tA := by
  intro wh pins s σ H Q I h
  refine isTrue_or (thn (ha pins s σ H Q I h) fun c s1 e => ?_)
  cases c with
  | false => exact isTrue_or_nil e
  | true => exact e
theorem pw_and (ha : PT X a tA) (hb : PW X (.BoolOp .And (b :: rest) pos) tB') : PW X (.BoolOp .And (a :: b :: rest) pos) (tAnd tA tB') := by
  intro wh pins s σ H Q I h
  refine isTrue_and (thn (ha pins s σ H _ I h) fun c s1 ⟨H1, I1, q1⟩ => ?_)
  cases c with
  | true => exact hb wh pins s1 σ H1 Q I1 q1
  | false => exact ⟨H1, I1, q1⟩
theorem pw_or (ha : PT X a tA) (hb : PW X (.BoolOp .Or (b :: rest) pos) tB') : PW X (.BoolOp .Or (a :: b :: rest) pos) (tOr tA tB') := by
  intro wh pins s σ H Q I h
  refine isTrue_or (thn (ha pins s σ H _ I h) fun c s1 ⟨H1, I1, q1⟩ => ?_)
  cases c with
  | true => exact ⟨H1, I1, q1⟩
  | false => exact hb wh pins s1 σ H1 Q I1 q1
theorem pt_not (ha : PT X a tA) : PT X (.UnaryOp .Not a pos) (tNot tA) := by
  intro pins s σ H Q I h
  exact isTrue_not (ha pins s σ H (fun c H1 => Q (!c) H1) I h)
/-- .. as values (bools) -/
def tAndV (ta tb : TE) : TE := fun σ H Q => ta σ H fun x H1 => ∃ c, x = .bl c ∧ if c = true then tb σ H1 Q else Q (.bl false) H1
def tOrV (ta tb : TE) : TE := fun σ H Q => ta σ H fun x H1 => ∃ c, x = .bl c ∧ if c = true then Q (.bl true) H1 else tb σ H1 Q
def tNotV (ta : TE) : TE := fun σ H Q => ta σ H fun x H1 => ∃ c, x = .bl c ∧ Q (.bl (!c)) H1
theorem pe_one {op} {t : TE} (h : PE X a t) : PE X (.BoolOp op [a] pos) t := fun pins s σ H Q I hw => BoolOp_one (h pins s σ H Q I hw)
theorem pe_and (ha : PE X a ta) (hb : PE X (.BoolOp .And (b :: rest) pos) tb) : PE X (.BoolOp .And (a :: b :: rest) pos) (tAndV ta tb) := by
  intro pins s σ H Q I h
  refine BoolOp_and (thn (ha pins s σ H _ I h) fun v s1 ⟨x, H1, I1, r1, q1⟩ => ?_)
  obtain ⟨c, rfl, q1⟩ := q1
  cases r1
  refine wpAny_truthy_bool ?_
  cases c with
  | true => exact hb pins s1 σ H1 Q I1 q1
  | false => exact ⟨.bl false, H1, I1, rfl, q1⟩
theorem pe_or (ha : PE X a ta) (hb : PE X (.BoolOp .Or (b :: rest) pos) tb) : PE X (.BoolOp .Or (a :: b :: rest) pos) (tOrV ta tb) := by
  intro pins s σ H Q I h
  refine BoolOp_or (thn (ha pins s σ H _ I h) fun v s1 ⟨x, H1, I1, r1, q1⟩ => ?_)
  obtain ⟨c, rfl, q1⟩ := q1
  cases r1
  refine wpAny_truthy_bool ?_
  cases c with
  | false => exact hb pins s1 σ H1 Q I1 q1
  | true => exact ⟨.bl true, H1, I1, rfl, q1⟩
theorem pe_not (ha : PE X a ta) : PE X (.UnaryOp .Not a pos) (tNotV ta) := by
  intro pins s σ H Q I h
  refine UnaryOp_ (thn (ha pins s σ H _ I h) fun v s1 ⟨x, H1, I1, r1, q1⟩ => ?_)
  obtain ⟨c, rfl, q1⟩ := q1
  cases r1
  exact not_of (wpAny_truthy_bool ⟨.bl (!c), H1, I1, rfl, q1⟩)
/-- a if t else b -/
def tIf (t : TT) (ta tb : TE) : TE := fun σ H Q => t σ H fun c H1 => if c = true then ta σ H1 Q else tb σ H1 Q
theorem pe_ifExp {c : Expr} (hc : PT X c tA) (ha : PE X a ta) (hb : PE X b tb) : PE X (.IfExp c a b pos) (tIf tA ta tb) := by
  intro pins s σ H Q I h
  refine wpAny_IfExp (thn (hc pins s σ H _ I h) fun d s1 ⟨H1, I1, q1⟩ => ?_)
  cases d with
  | true => exact ha pins s1 σ H1 Q I1 q1
  | false => exact hb pins s1 σ H1 Q I1 q1
end
end L2

namespace L2
open PySem PySem.Spec PyProof.Rows

/-! ### a list, a tuple that is read: tracked, frozen, or an object of the module -/
def SqL (K : PySem.W.Frag) (H : Hp) (a : Addr) (xs : List V) : Prop :=
  Rd H a (.lst xs) ∨
    ∃ (o : Obj) (its : Array Value) (n : Nat), K.lookup a = some o ∧ o.cls = .type "list" ∧ o.dict = none ∧ o.data = .seq its n ∧ its.size ≤ sizeLine ∧ Vals xs its.toList
def SqT (K : PySem.W.Frag) (H : Hp) (a : Addr) (xs : List V) : Prop :=
  Rd H a (.tup xs) ∨
    ∃ (o : Obj) (its : Array Value) (n : Nat), K.lookup a = some o ∧ o.cls = .type "tuple" ∧ o.data = .seq its n ∧ its.size ≤ sizeLine ∧ Vals xs its.toList
def absV : Value → Option V
  | .none => some .non
  | .bool b => some (.bl b)
  | .int i _ => some (.int i)
  | .str x _ => some (.str x)
  | .bytes b _ => some (.byt b)
  | .float b _ => some (.flt b)
  | .ref a => some (.ref a)
  | .type n => some (.ty n)
  | _ => none
theorem RelV.abs {x : V} {u : Value} (r : RelV x u) : absV u = some x := by
  cases x with
  | non => cases r; rfl
  | bl _ => cases r; rfl
  | int _ => obtain ⟨t, rfl⟩ := r; rfl
  | str _ => obtain ⟨t, rfl⟩ := r; rfl
  | byt _ => obtain ⟨t, rfl⟩ := r; rfl
  | flt _ => obtain ⟨t, rfl⟩ := r; rfl
  | ref _ => cases r; rfl
  | ty _ => cases r; rfl
theorem RelV.inj {x y : V} {u : Value} (r : RelV x u) (q : RelV y u) : x = y := Option.some.inj (r.abs.symm.trans q.abs)
theorem Vals.inj : ∀ {xs ys : List V} {us : List Value}, Vals xs us → Vals ys us → xs = ys
  | _, _, _, .nil, .nil => rfl
  | _, _, _, .cons r t, .cons r' t' => by rw [r.inj r', Vals.inj t t']
section
variable {X : Cx} {pins : List (Addr × Obj)} {σ : St} {H : Hp} {s : Shared} {a : Addr} {xs ys : List V}
theorem SqL.of {K : PySem.W.Frag} (h : H a = some (.lst xs)) : SqL K H a xs := .inl (.inl h)
theorem SqT.of {K : PySem.W.Frag} (h : H a = some (.tup xs)) : SqT K H a xs := .inl (.inl h)
theorem Inv.list (I : Inv X pins σ H s) (h : SqL X.K H a xs) : ∃ its : List Value, Vals xs its ∧ PlainL s.heap a its.toArray ∧ xs.length ≤ sizeLine := by
  rcases h with h | ⟨o, its, n, hk, hc, hd, hs, hz, r⟩
  · obtain ⟨z, its, n, r, e⟩ := h.ok I.hok
    exact ⟨its, r, ⟨_, n, e, rfl, rfl, rfl⟩, z⟩
  · refine ⟨its.toList, r, ⟨o, n, I.kIn a o hk, hc, hd, by simpa using hs⟩, ?_⟩
    have e := r.length
    simp only [Array.length_toList] at e
    omega
theorem Inv.tuple (I : Inv X pins σ H s) (h : SqT X.K H a xs) : ∃ its : List Value, Vals xs its ∧ IsTup s.heap a its.toArray ∧ xs.length ≤ sizeLine := by
  rcases h with h | ⟨o, its, n, hk, hc, hs, hz, r⟩
  · obtain ⟨z, its, r, p⟩ := h.ok I.hok
    exact ⟨its, r, p, z⟩
  · refine ⟨its.toList, r, ⟨o, I.kIn a o hk, hc, n, by simpa using hs⟩, ?_⟩
    have e := r.length
    simp only [Array.length_toList] at e
    omega
theorem Inv.list_inj (I : Inv X pins σ H s) (h : SqL X.K H a xs) (h' : SqL X.K H a ys) : xs = ys := by
  obtain ⟨its, r, ⟨o, n, e, _, _, d⟩, _⟩ := I.list h
  obtain ⟨its', r', ⟨o', n', e', _, _, d'⟩, _⟩ := I.list h'
  rw [e] at e'; cases e'
  rw [d] at d'
  injection d' with d1 _
  have : its = its' := by simpa using congrArg Array.toList d1
  subst this
  exact r.inj r'
theorem Inv.tuple_inj (I : Inv X pins σ H s) (h : SqT X.K H a xs) (h' : SqT X.K H a ys) : xs = ys := by
  obtain ⟨its, r, ⟨o, e, _, n, d⟩, _⟩ := I.tuple h
  obtain ⟨its', r', ⟨o', e', _, n', d'⟩, _⟩ := I.tuple h'
  rw [e] at e'; cases e'
  rw [d] at d'
  injection d' with d1 _
  have : its = its' := by simpa using congrArg Array.toList d1
  subst this
  exact r.inj r'
end

/-! ### another wish about exceptions -/
abbrev Cx.wish (X : Cx) (E : Value → Shared → Prop) : Cx := { X with xe := E }
/-- no exception leaves -/
abbrev Cx.nox (X : Cx) : Cx := X.wish fun _ _ => False
theorem Cx.Ok.wish {X : Cx} (ok : X.Ok) (E : Value → Shared → Prop) : (X.wish E).Ok :=
  ⟨ok.mod, ok.kind, ok.glob, ok.blt, ok.above, ok.inj, ok.has, ok.cab, ok.hd, ok.frames, ok.stk, ok.exf, ok.bs, ok.bsz, ok.noex, ok.exfs, ok.funs, ok.frf⟩
theorem Cx.Ok.unwish {X : Cx} {E : Value → Shared → Prop} (ok : (X.wish E).Ok) : X.Ok :=
  ⟨ok.mod, ok.kind, ok.glob, ok.blt, ok.above, ok.inj, ok.has, ok.cab, ok.hd, ok.frames, ok.stk, ok.exf, ok.bs, ok.bsz, ok.noex, ok.exfs, ok.funs, ok.frf⟩
section
variable {X : Cx} {pins : List (Addr × Obj)} {σ : St} {H : Hp} {s : Shared} {E : Value → Shared → Prop}
theorem Inv.wish (I : Inv X pins σ H s) (E : Value → Shared → Prop) : Inv (X.wish E) pins σ H s := ⟨I.ok.wish E, I.os, I.bare, I.base, I.loc, I.cell, I.free, I.freeC, I.pin, I.hok, I.len⟩
theorem Inv.unwish (I : Inv (X.wish E) pins σ H s) : Inv X pins σ H s := ⟨I.ok.unwish, I.os, I.bare, I.base, I.loc, I.cell, I.free, I.freeC, I.pin, I.hok, I.len⟩
theorem SP.unwish {D : Ends} {f : Flow} {s' : Shared} (h : SP (X.wish E) pins D f s') : SP X pins D f s' := by
  cases f with
  | next => obtain ⟨σ', H', I, q⟩ := h; exact ⟨σ', H', I.unwish, q⟩
  | brk => obtain ⟨σ', H', I, q⟩ := h; exact ⟨σ', H', I.unwish, q⟩
  | cont => obtain ⟨σ', H', I, q⟩ := h; exact ⟨σ', H', I.unwish, q⟩
  | ret u => obtain ⟨v, σ', H', I, r, q⟩ := h; exact ⟨v, σ', H', I.unwish, r, q⟩
theorem PE.nox {e : Expr} {t : TE} (h : PE X.nox e t) : PE X e t := fun pins s σ H Q I hw =>
  wpAny_mono (h pins s σ H Q (I.wish _) hw) (fun _ _ ⟨v, H', I', r, q⟩ => ⟨v, H', I'.unwish, r, q⟩) fun _ _ z => False.elim z
theorem PT.nox {e : Expr} {t : TT} (h : PT X.nox e t) : PT X e t := fun pins s σ H Q I hw =>
  wpAny_mono (h pins s σ H Q (I.wish _) hw) (fun _ _ ⟨H', I', q⟩ => ⟨H', I'.unwish, q⟩) fun _ _ z => False.elim z
theorem PSs.nox {st : List Stmt} {t : TS} (h : PSs X.nox st t) : PSs X st t := fun pins s σ H D I hw =>
  wpAny_mono (h pins s σ H D (I.wish _) hw) (fun _ _ q => q.unwish) fun _ _ z => False.elim z
end

/-! ### blocks and small statements -/
section
variable {X : Cx} {st : Stmt} {rest : List Stmt} {t u : TS} {e : Expr} {te : TE} {pos : Pos}
def tNext : TS := fun D σ H => D.nx σ H
def tSeq (t u : TS) : TS := fun D σ H => t { D with nx := u D } σ H
theorem pss_nil : PSs X [] tNext := fun _ _ σ H _ I h => wpAny_execs_nil ⟨σ, H, I, h⟩
theorem pss_cons (h1 : PS X st t) (h2 : PSs X rest u) : PSs X (st :: rest) (tSeq t u) := by
  intro pins s σ H D I h
  refine wpAny_execs_cons (thn (h1 pins s σ H { D with nx := u D } I h) fun f s1 q => ?_)
  cases f with
  | next =>
    obtain ⟨σ', H', I', q⟩ := q
    exact h2 pins s1 σ' H' D I' q
  | ret v => exact q
  | brk => exact q
  | cont => exact q
theorem pss_one (h1 : PS X st t) : PSs X [st] t := by
  intro pins s σ H D I h
  refine wpAny_execs_cons (thn (h1 pins s σ H D I h) fun f s1 q => ?_)
  cases f with
  | next => exact wpAny_execs_nil q
  | ret v => exact q
  | brk => exact q
  | cont => exact q
def tBreak : TS := fun D σ H => D.bk σ H
def tCont : TS := fun D σ H => D.ct σ H
theorem ps_pass : PS X (.Pass pos) tNext := fun _ _ σ H _ I h => wpAny_Pass ⟨σ, H, I, h⟩
theorem ps_break : PS X (.Break pos) tBreak := fun _ _ σ H _ I h => wpAny_Break ⟨σ, H, I, h⟩
theorem ps_continue : PS X (.Continue pos) tCont := fun _ _ σ H _ I h => wpAny_Continue ⟨σ, H, I, h⟩
/-- in a def's body nothing is shown -/
theorem Inv.quiet {pins : List (Addr × Obj)} {σ : St} {H : Hp} {s : Shared} (I : Inv X pins σ H s) : interactive X.env = false := by simp [interactive, I.ok.kind]
/-- a docstring -/
theorem ps_doc {x j pos pos'} : PS X (.Expr (.Constant (.str x) j pos) pos') tNext := fun _ s σ H _ I h => wpAny_Expr (Calls.Constant_str (show SP X _ _ .next { s with toks := s.toks + 1 } from ⟨σ, H, I.tok _, h⟩)) I.quiet
/-- an expression whose value is dropped -/
def tDrop (te : TE) : TS := fun D σ H => te σ H fun _ H1 => D.nx σ H1
theorem ps_expr (he : PE X e te) (hs : swapsWith e none pos.line X.env = pure false := by rfl) : PS X (.Expr e pos) (tDrop te) := by
  intro pins s σ H D I h
  exact wpAny_Expr_any (thn (he pins s σ H _ I h) fun v s1 ⟨x, H1, I1, r1, q1⟩ => ⟨σ, H1, I1, q1⟩) I.quiet hs
def tRet (te : TE) : TS := fun D σ H => te σ H D.rt
theorem ps_ret (he : PE X e te) : PS X (.Return (some e) pos) (tRet te) := by
  intro pins s σ H D I h
  exact wpAny_Return_some (thn (he pins s σ H _ I h) fun v s1 ⟨x, H1, I1, r1, q1⟩ => ⟨x, σ, H1, I1, r1, q1⟩)
def tRetN : TS := fun D _ H => D.rt .non H
theorem ps_retN : PS X (.Return none pos) tRetN := fun _ _ σ H _ I h => wpAny_Return_none ⟨.non, σ, H, I, rfl, h⟩
def tIfS (c : TT) (t u : TS) : TS := fun D σ H => c σ H fun b H1 => if b = true then t D σ H1 else u D σ H1
theorem ps_if {c : Expr} {a b : List Stmt} {tc : TT} (hc : PT X c tc) (ha : PSs X a t) (hb : PSs X b u) : PS X (.If c a b pos) (tIfS tc t u) := by
  intro pins s σ H D I h
  refine wpAny_If (thn (hc pins s σ H _ I h) fun d s1 ⟨H1, I1, q1⟩ => ?_)
  cases d with
  | true => exact ha pins s1 σ H1 D I1 q1
  | false => exact hb pins s1 σ H1 D I1 q1
/-- code that the proof never comes to -/
def tNever : TS := fun _ _ _ => False
theorem ps_never : PS X st tNever := fun _ _ _ _ _ _ h => h.elim
theorem pss_never {sts : List Stmt} : PSs X sts tNever := fun _ _ _ _ _ _ h => h.elim
end

/-! ### targets -/
abbrev TG := V → St → Hp → (St → Hp → Prop) → Prop
abbrev TGs := List V → St → Hp → (St → Hp → Prop) → Prop
def PG (X : Cx) (target : Expr) (t : TG) : Prop :=
  ∀ (pins : List (Addr × Obj)) (s : Shared) (σ : St) (H : Hp) (v : V) (u : Value) (Q : St → Hp → Prop), Inv X pins σ H s → RelV v u → t v σ H Q →
    wpAny (model X.prog X.w) X.A (assign target X.env u) (fun _ s' => ∃ σ' H', Inv X pins σ' H' s' ∧ Q σ' H') X.xe s
/-- several targets, one after another -/
def PGs (X : Cx) (ts : List Expr) (t : TGs) : Prop :=
  ∀ (pins : List (Addr × Obj)) (s : Shared) (σ : St) (H : Hp) (vs : List V) (us : List Value) (Q : St → Hp → Prop), Inv X pins σ H s → Vals vs us → t vs σ H Q →
    wpAny (model X.prog X.w) X.A (assignInOrder ((assignEach ts X.env).map (·.2)) us) (fun _ s' => ∃ σ' H', Inv X pins σ' H' s' ∧ Q σ' H') X.xe s
/-- o[i] = v, by values -/
abbrev TSet := V → V → V → Hp → (Hp → Prop) → Prop
def PSet (X : Cx) (t : TSet) : Prop :=
  ∀ (pins : List (Addr × Obj)) (s : Shared) (σ : St) (H : Hp) (o i v : V) (ov iv u : Value) (Q : Hp → Prop), Inv X pins σ H s → RelV o ov → RelV i iv → RelV v u → t o i v H Q →
    wpAny (model X.prog X.w) X.A (setItem ov iv u) (fun _ s' => ∃ H', Inv X pins σ H' s' ∧ Q H') X.xe s
/-- a op= b, by values -/
abbrev TIp := V → V → Hp → VK → Prop
def PIp (X : Cx) (op : Operator) (t : TIp) : Prop :=
  ∀ (pins : List (Addr × Obj)) (s : Shared) (σ : St) (H : Hp) (x y : V) (v u : Value) (Q : VK), Inv X pins σ H s → RelV x v → RelV y u → t x y H Q →
    wpAny (model X.prog X.w) X.A (inplaceOp op v u) (EP X pins σ Q) X.xe s
section
variable {X : Cx} {pos : Pos}
def gName (i : Nat) : TG := fun v σ H Q => Q (σ.set i (some v)) H
theorem pg_name {i : Nat} {x : Str} (hN : X.N.Nodup) (hi : X.N[i]? = some x) (hx : Loc X.env.scope x) (hf : X.fn x = true ∨ X.env.scope.names.lookup x = some .local := by first | exact .inl rfl | exact .inr rfl | assumption) : PG X (.Name x pos) (gName i) := by
  intro pins s σ H v u Q I r h
  exact wpAny_assign_Name (store_ok I hN hi hx r (fun s' I' => ⟨_, H, I', h⟩) hf)
def gNil : TGs := fun vs σ H Q => vs = [] ∧ Q σ H
def gCons (t : TG) (u : TGs) : TGs := fun vs σ H Q => ∃ v r, vs = v :: r ∧ t v σ H fun σ' H' => u r σ' H' Q
theorem pgs_nil : PGs X [] gNil := by
  intro pins s σ H vs us Q I r h
  obtain ⟨e, h⟩ := h
  subst e
  cases r
  exact assignInOrder_nil ⟨σ, H, I, h⟩
theorem pgs_cons {e : Expr} {es : List Expr} {t : TG} {u : TGs} (h1 : PG X e t) (h2 : PGs X es u)
    (hs : (assignEach (e :: es) X.env).map (·.2) = assign e X.env :: (assignEach es X.env).map (·.2) := by rfl) : PGs X (e :: es) (gCons t u) := by
  intro pins s σ H vs us Q I r h
  obtain ⟨v, vr, e1, h⟩ := h
  subst e1
  cases r with
  | cons r rr =>
    rw [hs]
    refine assignInOrder_cons (thn (h1 pins s σ H _ _ _ I r h) fun _ s1 ⟨σ1, H1, I1, q1⟩ => ?_)
    exact h2 pins s1 σ1 H1 _ _ Q I1 rr q1
/-- (a, b, ..) = a tuple of that length -/
def gTup (K : PySem.W.Frag) (n : Nat) (t : TGs) : TG := fun v σ H Q => ∃ a xs, v = .ref a ∧ SqT K H a xs ∧ xs.length = n ∧ t xs σ H Q
theorem pg_tup {es : List Expr} {k : Nat} {t : TGs} {n : Nat} (hc : X.calm = true) (h : PGs X es t)
    (hn : (assignEach es X.env).length = n := by rfl) (hst : (assignEach es X.env).findIdx? (·.1) = none := by rfl) : PG X (.Tuple es k pos) (gTup X.K n t) := by
  intro pins s σ H v u Q I r hw
  obtain ⟨a, xs, e1, hq, hl, hw⟩ := hw
  subst e1
  cases r
  obtain ⟨its, rv, ht, hz⟩ := I.tuple hq
  refine assign_Tuple_tuple (I.ok.hd hc) ht (by simp [hn, ← hl, rv.length]) hst fun h' hx => ?_
  have I1 : Inv X pins σ H { s with heap := h' } := I.kept (t' := s.toks) fun b o e => hx b o (Nat.ne_of_lt (Heap.lt_size e)) e
  exact h pins _ σ H xs _ Q I1 (by simpa using rv) hw
/-- o[i] = .. -/
def gSub (to ti : TE) (t : TSet) : TG := fun v σ H Q => to σ H fun o H1 => ti σ H1 fun i H2 => t o i v H2 fun H3 => Q σ H3
theorem pg_sub {o i : Expr} {to ti : TE} {t : TSet} (ho : PE X o to) (hi : PE X i ti) (hs : PSet X t)
    (ha : ∀ v, assign (.Subscript o i pos) X.env v = (do
      let ov ← holding [v] (eval o X.env)
      let iv ← holding [v, ov] (eval i X.env)
      standAt pos
      holding [v, ov, iv] (setItem ov iv v)
      release [v, ov, iv] []) := by intro _; rfl) : PG X (.Subscript o i pos) (gSub to ti t) := by
  intro pins s σ H v u Q I r h
  rw [ha]
  refine wpAny_bind (wpAny_holding (thn (ho pins s σ H _ I h) fun ov s1 ⟨x, H1, I1, r1, q1⟩ => ?_))
  refine wpAny_bind (wpAny_holding (thn (hi pins s1 σ H1 _ I1 q1) fun iv s2 ⟨y, H2, I2, r2, q2⟩ => ?_))
  refine wpAny_bind (wpAny_standAt (wpAny_bind (wpAny_holding (thn (hs pins s2 σ H2 x y v ov iv u _ I2 r1 r2 r q2) fun _ s3 ⟨H3, I3, q3⟩ => ?_))))
  exact wpAny_release ⟨σ, H3, I3, q3⟩
/-- target = value -/
def tAsg (te : TE) (g : TG) : TS := fun D σ H => te σ H fun x H1 => g x σ H1 D.nx
theorem ps_asg {tg e : Expr} {te : TE} {g : TG} (he : PE X e te) (hg : PG X tg g) (hs : swapsWithSole [tg] e pos.line X.env = pure false := by rfl) (hw : swappedStores [tg] e X.env = pure none := by rfl)
    (h1 : (assignEach [tg] X.env).map (·.2) = [assign tg X.env] := by rfl) : PS X (.Assign [tg] e pos) (tAsg te g) := by
  intro pins s σ H D I h
  refine wpAny_Assign_stores (thn (he pins s σ H _ I h) fun v s1 ⟨x, H1, I1, r1, q1⟩ => ?_) hs hw
  rw [h1]
  exact thn (hg pins s1 σ H1 x v _ I1 r1 q1) fun _ s2 q => q
/-- name = value -/
theorem ps_set {i : Nat} {x : Str} {e : Expr} {te : TE} {pos' : Pos} (hN : X.N.Nodup) (hi : X.N[i]? = some x) (hx : Loc X.env.scope x) (he : PE X e te) (hs : swapsWith e (some (.Name x pos')) pos.line X.env = pure false := by rfl) (hf : X.fn x = true ∨ X.env.scope.names.lookup x = some .local := by first | exact .inl rfl | exact .inr rfl | assumption) :
    PS X (.Assign [.Name x pos'] e pos) (tAsg te (gName i)) := by
  intro pins s σ H D I h
  refine wpAny_Assign_Name (thn (he pins s σ H _ I h) fun v s1 ⟨y, H1, I1, r1, q1⟩ => ?_) hs
  exact store_ok I1 hN hi hx r1 (fun s2 I2 => ⟨_, H1, I2, q1⟩) hf
/-- a, b = x, y with plain local names: stored from the right; the pair itself is not tracked (the opening rows as in PyProof/Rows/TupAssign.lean:23) -/
def tPar (i j : Nat) (ta : TA) : TS := fun D σ H => ta σ H fun vs H1 => ∃ v w, vs = [v, w] ∧ D.nx ((σ.set i (some v)).set j (some w)) H1
theorem ps_par {i j : Nat} {x y : Str} {a b : Expr} {ta : TA} {px py pt : Pos} {kt k2 pt2} (hc : X.calm = true) (hN : X.N.Nodup) (hi : X.N[i]? = some x) (hj : X.N[j]? = some y) (hij : i ≠ j)
    (hx : X.env.scope.names.lookup x = some .local) (hy : X.env.scope.names.lookup y = some .local) (ha : PA X [a, b] ta)
    (hw : swappedStores [.Tuple [.Name x px, .Name y py] kt pt] (.Tuple [a, b] k2 pt2) X.env = pure (some [x, y]))
    (hs : swapsWithSole [.Tuple [.Name x px, .Name y py] kt pt] (.Tuple [a, b] k2 pt2) pos.line X.env = pure false := by rfl) :
    PS X (.Assign [.Tuple [.Name x px, .Name y py] kt pt] (.Tuple [a, b] k2 pt2) pos) (tPar i j ta) := by
  intro pins s σ H D I h
  rw [exec_Assign_arm]
  refine wpAny_bind (wpAny_standAt ?_)
  rw [hs]
  refine wpAny_bind (wpAny_pure ?_)
  rw [if_neg (by decide)]
  refine wpAny_bind (Tuple_ (thn (ha _ pins s σ H _ I h) fun us s1 ⟨vs, H1, I1, r1, q1⟩ => ?_))
  obtain ⟨v, w, e1, q1⟩ := q1
  subst e1
  obtain ⟨u1, u2, rfl, rv, rw'⟩ : ∃ u1 u2, us = [u1, u2] ∧ RelV v u1 ∧ RelV w u2 := by
    cases r1 with
    | cons p q =>
      cases q with
      | cons p' q' =>
        cases q'
        exact ⟨_, _, rfl, p, p'⟩
  refine wpAny_newObj_type ?_ (by show 2 ≤ sizeLine; decide)
  have I2 : Inv X pins σ H1 { s1 with heap := s1.heap.push { cls := .type "tuple", data := .seq [u1, u2].toArray } } := I1.kept (t' := s1.toks) fun b o e => Heap.get?_push_of_some _ e
  rw [hw]
  refine wpAny_bind (wpAny_pure ?_)
  show wpAny (model X.prog X.w) X.A (do rule "assign.swapped-stores"; let items ← unpackItems (.ref s1.heap.objs.size) 2 none; assignInOrder [fun v => bindName X.env y v, fun v => bindName X.env x v] items.reverse; pure Flow.next) _ _ _
  refine wpAny_bind (wpAny_rule (wpAny_bind (unpackItems_tuple (items := #[u1, u2]) (I.ok.hd hc) (IsTup.new s1.heap _) fun h' hx' => ?_)))
  have I3 := I2.kept (h' := h') (t' := s1.toks) fun b o e => hx' b o (Nat.ne_of_lt (Heap.lt_size e)) e
  show wpAny _ _ (assignInOrder [fun v => bindName X.env y v, fun v => bindName X.env x v] [u2, u1] >>= fun _ => pure Flow.next) _ _ _
  refine wpAny_bind (assignInOrder_cons (wpAny_bindName (store_ok I3 hN hj (.inl hy) rw' (fun s2 I4 => ?_) (.inr hy))))
  refine assignInOrder_cons (wpAny_bindName (store_ok I4 hN hi (.inl hx) rv (fun s3 I5 => assignInOrder_nil (wpAny_pure ?_)) (.inr hx)))
  rw [List.set_comm _ _ (Ne.symm hij)] at I5
  exact ⟨_, H1, I5, q1⟩
/-- name op= e -/
def tAug (i : Nat) (te : TE) (ti : TIp) : TS := fun D σ H => ∃ x, σ[i]? = some (some x) ∧ te σ H fun y H1 => ti x y H1 fun z H2 => D.nx (σ.set i (some z)) H2
theorem ps_aug {i : Nat} {x : Str} {e : Expr} {te : TE} {op : Operator} {ti : TIp} {pos' : Pos} (hN : X.N.Nodup) (hi : X.N[i]? = some x) (hx : Loc X.env.scope x) (he : PE X e te) (ho : PIp X op ti) (hf : X.fn x = true ∨ X.env.scope.names.lookup x = some .local := by first | exact .inl rfl | exact .inr rfl | assumption) :
    PS X (.AugAssign (.Name x pos') op e pos) (tAug i te ti) := by
  intro pins s σ H D I h
  obtain ⟨v, e1, h⟩ := h
  obtain ⟨m, hn, hl⟩ := I.loc
  have vis : Vis X.env.scope x := by rcases hx with k | k; exact .inl k; exact .inr (.inl k)
  obtain ⟨u, r, l⟩ := hl i x v hi e1 vis
  refine wpAny_AugAssign_Name ?_
  have go : wpAny (model X.prog X.w) X.A (eval e X.env) (fun w s₂ => wpAny (model X.prog X.w) X.A (inplaceOp op u w) (fun r s₃ => wpAny (model X.prog X.w) X.A (storeName X.env x r) (fun _ => SP X pins D .next) X.xe s₃) X.xe s₂) X.xe s := by
    refine thn (he pins s σ H _ I h) fun w s1 ⟨y, H1, I1, r1, q1⟩ => ?_
    refine thn (ho pins s1 σ H1 v y u w _ I1 r r1 q1) fun z s2 ⟨zv, H2, I2, r2, q2⟩ => ?_
    exact store_ok I2 hN hi hx r2 (fun s3 I3 => ⟨_, H2, I3, q2⟩) hf
  rcases l with ⟨hk, hm⟩ | ⟨hk, c, hc, hcell⟩
  · exact wpAny_loadName_local I.ok.kind hk hn hm go
  · rcases hk with hk | hk
    · exact wpAny_loadName_cell I.ok.kind hk hc hcell go
    · rcases hx with k | k
      · have : X.env.scope.names.lookup x = some .free := hk
        rw [k] at this; cases this
      · have : X.env.scope.names.lookup x = some .free := hk
        rw [k] at this; cases this
/-- o[i] op= e -/
def tAugS (to ti te : TE) (tget : V → V → Hp → VK → Prop) (tip : TIp) (tset : TSet) : TS := fun D σ H => to σ H fun o H1 => ti σ H1 fun i H2 => tget o i H2 fun x H3 => te σ H3 fun y H4 => tip x y H4 fun z H5 => tset o i z H5 fun H6 => D.nx σ H6
/-- o[i], by values -/
def PGet (X : Cx) (t : V → V → Hp → VK → Prop) : Prop :=
  ∀ (pins : List (Addr × Obj)) (s : Shared) (σ : St) (H : Hp) (o i : V) (ov iv : Value) (Q : VK), Inv X pins σ H s → RelV o ov → RelV i iv → t o i H Q →
    wpAny (model X.prog X.w) X.A (getItem ov iv) (EP X pins σ Q) X.xe s
theorem ps_augS {o i e : Expr} {to ti te : TE} {tget : V → V → Hp → VK → Prop} {tip : TIp} {tset : TSet} {op : Operator} {tpos : Pos} (ho : PE X o to) (hi : PE X i ti) (hg : PGet X tget) (he : PE X e te) (hp : PIp X op tip) (hs : PSet X tset)
    (ha : ∀ ov iv new, augStore i ov iv new = (do holding [new, ov, iv] (setItem ov iv new); release [new, ov, iv] []; pure .next) := by intros; rfl) : PS X (.AugAssign (.Subscript o i tpos) op e pos) (tAugS to ti te tget tip tset) := by
  intro pins s σ H D I h
  refine wpAny_AugAssign_SubscriptAny (thn (ho pins s σ H _ I h) fun ov s1 ⟨x1, H1, I1, r1, q1⟩ => ?_) ha
  refine thn (hi pins s1 σ H1 _ I1 q1) fun iv s2 ⟨x2, H2, I2, r2, q2⟩ => ?_
  refine thn (hg pins s2 σ H2 x1 x2 ov iv _ I2 r1 r2 q2) fun old s3 ⟨x3, H3, I3, r3, q3⟩ => ?_
  refine thn (he pins s3 σ H3 _ I3 q3) fun v s4 ⟨x4, H4, I4, r4, q4⟩ => ?_
  refine thn (hp pins s4 σ H4 x3 x4 old v _ I4 r3 r4 q4) fun new s5 ⟨x5, H5, I5, r5, q5⟩ => ?_
  exact thn (hs pins s5 σ H5 x1 x2 x5 ov iv new _ I5 r1 r2 r5 q5) fun _ s6 ⟨H6, I6, q6⟩ => ⟨σ, H6, I6, q6⟩
/-- ints -/
def ipI (f : Int → Int → Int) : TIp := fun x y H Q => ∃ i j, x = .int i ∧ y = .int j ∧ Q (.int (f i j)) H
theorem ip_add : PIp X .Add (ipI fun i j => i + j) := by
  intro pins s σ H x y v u Q I r1 r2 h
  obtain ⟨i, j, e1, e2, q⟩ := h
  subst e1; subst e2
  obtain ⟨t, rfl⟩ := r1
  obtain ⟨t', rfl⟩ := r2
  exact iadd_int ⟨.int _, H, I.tok _, ⟨_, rfl⟩, q⟩
theorem ip_sub : PIp X .Sub (ipI fun i j => i - j) := by
  intro pins s σ H x y v u Q I r1 r2 h
  obtain ⟨i, j, e1, e2, q⟩ := h
  subst e1; subst e2
  obtain ⟨t, rfl⟩ := r1
  obtain ⟨t', rfl⟩ := r2
  exact isub_int ⟨.int _, H, I.tok _, ⟨_, rfl⟩, q⟩
end

/-! ### while -/
section
variable {X : Cx} {pos : Pos}
/-- the invariant W with its measure -/
def tWhile (c : TT) (tb : TS) : TS := fun D σ H => ∃ W : Nat → St → Hp → Prop, (∃ m, W m σ H) ∧ ∀ m σ H, W m σ H →
  c σ H fun b H1 => if b = true then ∃ N : St → Hp → Prop, (∀ σ' H', N σ' H' → ∃ m', m' < m ∧ W m' σ' H') ∧ tb { D with nx := N, ct := N, bk := D.nx } σ H1 else D.nx σ H1
theorem ps_while {c : Expr} {body : List Stmt} {tc : TT} {tb : TS} (hp : PassesOwn (model X.prog X.w) X.A X.env X.xe) (hc : PT X c tc) (hb : PSs X body tb) : PS X (.While c body [] pos) (tWhile tc tb) := by
  intro pins s σ H D I h
  obtain ⟨W, ⟨m0, w0⟩, turn⟩ := h
  refine wpAny_While (codeAny_whileLoop (fun n s' => ∃ σ' H', Inv X pins σ' H' s' ∧ W n σ' H') ?_ m0 ⟨σ, H, I, w0⟩)
  rintro n s1 ⟨σ1, H1, I1, w1⟩
  refine wpAny_passesOwn hp (thn (hc pins s1 σ1 H1 _ I1 (turn n σ1 H1 w1)) fun b s2 ⟨H2, I2, q2⟩ => ?_)
  cases b with
  | true =>
    obtain ⟨N, hN, q2⟩ := q2
    rw [if_pos rfl]
    refine wpAny_passesOwn hp (thn (hb pins s2 σ1 H2 _ I2 q2) fun f s3 q3 => ?_)
    cases f with
    | next =>
      obtain ⟨σ3, H3, I3, n3⟩ := q3
      obtain ⟨m', hm, w3⟩ := hN σ3 H3 n3
      exact ⟨m', hm, σ3, H3, I3, w3⟩
    | cont =>
      obtain ⟨σ3, H3, I3, n3⟩ := q3
      obtain ⟨m', hm, w3⟩ := hN σ3 H3 n3
      exact ⟨m', hm, σ3, H3, I3, w3⟩
    | brk => exact q3
    | ret v => exact q3
  | false =>
    rw [if_neg Bool.false_ne_true]
    exact wpAny_execs_nil ⟨σ1, H2, I2, q2⟩
end

/-! ### what a loop or a comprehension walks -/
/-- at turn i: it yields x (the heap may grow), or it stops -/
structure It where
  go : Nat → Hp → Prop
  yld : Nat → Hp → V → Hp → Prop
  stop : Nat → Hp → Prop
/-- the iterator's own objects may turn: they are not the frame's, not pinned, younger than the entry (or a comprehension's own) -/
def FpOk (X : Cx) (pins : List (Addr × Obj)) (H : Hp) (b : Addr) : Prop :=
  H b = none ∧ b ≠ X.env.locals ∧ b ∉ X.fs ∧ (b ∈ X.ex ∨ X.s₀.heap.objs.size ≤ b) ∧ (∀ x c, X.env.cells.lookup x = some c → c ≠ b) ∧ ∀ p ∈ X.pn ++ pins, p.1 ≠ b
theorem Inv.fpOk {X : Cx} {pins : List (Addr × Obj)} {σ : St} {H H' : Hp} {s : Shared} {b : Addr} (I : Inv X pins σ H s) (hb : s.heap.objs.size ≤ b) (hn : H' b = none) : FpOk X pins H' b := by
  refine ⟨hn, Nat.ne_of_gt (Nat.lt_of_lt_of_le I.lt hb), I.nofs hb, .inr (Nat.le_trans I.sz hb), fun x c e z => ?_, fun p hp z => ?_⟩
  · obtain ⟨v, q⟩ := I.cell x c e
    exact absurd (Nat.lt_of_lt_of_le q.lt (by rw [z]; exact hb)) (Nat.lt_irrefl _)
  · exact absurd (Nat.lt_of_lt_of_le (Heap.lt_size (I.pin p hp).1) (by rw [z]; exact hb)) (Nat.lt_irrefl _)
structure Turn (P : Program) (w : World) (K : PySem.W.Frag) (tg : Expr) (J : It) (fp : List Addr) (it : Addr) (tn : Nat → Heap → Prop) : Prop where
  mem : it ∈ fp
  obj : ∀ i h, tn i h → ∀ b ∈ fp, ∃ o, h.get? b = some o ∧ ∀ v, o.data ≠ .cell v
  keep : ∀ i h h', tn i h → (∀ b ∈ fp, ∀ o, h.get? b = some o → h'.get? b = some o) → tn i h'
  item : ∀ (X : Cx), X.prog = P → X.w = w → X.K = K → X.calm = true → ∀ (i : Nat) (pins : List (Addr × Obj)) (s : Shared) (σ : St) (H : Hp) (E : Value → Shared → Prop), Inv X pins σ H s → (∀ b ∈ fp, FpOk X pins H b) → tn i s.heap → J.go i H →
    wpAny (model P w) X.A (pyNext (.ref it)) (fun r s1 => ∃ u, r = some u ∧
      wpAny (model P w) X.A (letOwnedTupleGo tg (.ref it) u) (fun _ s2 => ∃ x H', Inv X pins σ H' s2 ∧ RelV x u ∧ J.yld i H x H' ∧ tn (i + 1) s2.heap ∧ ∀ b ∈ fp, H' b = none) E s1) E s
  done : ∀ (X : Cx), X.prog = P → X.w = w → X.K = K → X.calm = true → ∀ (i : Nat) (pins : List (Addr × Obj)) (s : Shared) (σ : St) (H : Hp) (E : Value → Shared → Prop), Inv X pins σ H s → (∀ b ∈ fp, FpOk X pins H b) → tn i s.heap → J.stop i H →
    wpAny (model P w) X.A (pyNext (.ref it)) (fun r s1 => r = none ∧ Inv X pins σ H s1) E s
  self : ∀ (A : Around) (i : Nat) (s : Shared) (Q : Value → Shared → Prop) (E : Value → Shared → Prop), tn i s.heap → Q (.ref it) s → wpAny (model P w) A (pyIter (.ref it)) Q E s
abbrev TI := St → Hp → (It → Hp → Prop) → Prop
/-- an iterator has come -/
def PIE (X : Cx) (pins : List (Addr × Obj)) (σ : St) (tg : Expr) (R : It → Hp → Prop) (itv : Value) (s2 : Shared) : Prop :=
  ∃ (it : Addr) (fp : List Addr) (tn : Nat → Heap → Prop) (J : It) (H' : Hp), itv = .ref it ∧ Inv X pins σ H' s2 ∧ Turn X.prog X.w X.K tg J fp it tn ∧ tn 0 s2.heap ∧ (∀ b ∈ fp, FpOk X pins H' b) ∧ R J H'
def PI (X : Cx) (tg iter : Expr) (wi : TI) : Prop :=
  ∀ (pins : List (Addr × Obj)) (s : Shared) (σ : St) (H : Hp) (R : It → Hp → Prop), Inv X pins σ H s → wi σ H R →
    wpAny (model X.prog X.w) X.A (eval iter X.env) (fun v s1 => wpAny (model X.prog X.w) X.A (pyIter v) (PIE X pins σ tg R) X.xe s1) X.xe s

/-- the step ahead of the store is nothing for an iterator that keeps no tuple -/
theorem go_of {M : Model} {A : Around} {E : Value → Shared → Prop} {s : Shared} {tg : Expr} {it : Addr} {u : Value} {o : Obj} {n : String} {vs : Array Value} {Q : Unit → Shared → Prop} (ho : s.heap.get? it = some o) (hc : o.cls = .type n) (hd : o.data = .fields vs)
    (hn : ["enumerate", "zip", "dict_itemiterator", "dict_reverseitemiterator", "odict_iterator", "itertools.zip_longest", "itertools.pairwise"].contains n = false) (hQ : Q () s) : wpAny M A (letOwnedTupleGo tg (.ref it) u) Q E s := by
  unfold letOwnedTupleGo
  cases tg <;> first
    | exact wpAny_pure hQ
    | (cases u <;> first
        | exact wpAny_pure hQ
        | (refine wpAny_bind (wpAny_load ho ?_)
           rw [hc, hd]
           show wpAny M A (if (["enumerate", "zip", "dict_itemiterator", "dict_reverseitemiterator", "odict_iterator", "itertools.zip_longest", "itertools.pairwise"].contains n && vs[0]? == some (rawInt _)) = true then _ else _) Q E s
           rw [if_neg (by intro h; rw [hn, Bool.false_and] at h; cases h)]
           exact wpAny_pure hQ))

/-- the list at a, as it stands at each turn (a loop may append to it) -/
def Itl (K : PySem.W.Frag) (a : Addr) : It :=
  ⟨fun i H => ∃ xs x, SqL K H a xs ∧ xs[i]? = some x, fun i H x H' => H' = H ∧ ∀ xs, SqL K H a xs → xs[i]? = some x, fun i H => ∃ xs, SqL K H a xs ∧ xs.length ≤ i⟩
def Itt (K : PySem.W.Frag) (a : Addr) : It :=
  ⟨fun i H => ∃ xs x, SqT K H a xs ∧ xs[i]? = some x, fun i H x H' => H' = H ∧ ∀ xs, SqT K H a xs → xs[i]? = some x, fun i H => ∃ xs, SqT K H a xs ∧ xs.length ≤ i⟩
/-- lo, lo + 1, .. (n of them) -/
def Itr (lo : Int) (n : Nat) : It := ⟨fun i _ => i < n, fun i H x H' => H' = H ∧ x = .int (lo + i), fun i _ => n ≤ i⟩
theorem turn_list {P : Program} {w : World} {K : PySem.W.Frag} {tg : Expr} (a it : Addr) : Turn P w K tg (Itl K a) [it] it (fun i h => h.IsListIter it a i) where
  mem := by simp
  obj := fun i h st b hb => by
    have e : b = it := by simpa using hb
    subst e
    obtain ⟨o, e, c, d⟩ := st
    exact ⟨o, e, fun v z => by rw [d] at z; cases z⟩
  keep := fun i h h' st k => st.at fun o e => k it (by simp) o e
  item := by
    intro X hP hw hK hc i pins s σ H E I hf st hg
    subst hP hw hK
    obtain ⟨xs, x, hq, hx⟩ := hg
    obtain ⟨its, rv, p, hz⟩ := I.list hq
    obtain ⟨u, hu, ru⟩ := rv.get hx
    obtain ⟨f0, f1, f2, f3, f4, f5⟩ := hf it (by simp)
    refine wpAny_pyNext_list_item st p.isList (x := u) (by simpa using hu) fun h' st' sb => ?_
    have I1 : Inv X pins σ H { s with heap := h' } := I.turned (t' := s.toks) (fun b o hb e => (sb.2 b hb).trans e) f0 f1 f3 f4 f5
    obtain ⟨o, e, c, d⟩ := id st'
    exact ⟨u, rfl, go_of (s := { s with heap := h' }) e c d (by decide) ⟨x, H, I1, ru, ⟨rfl, fun ys hy => by rw [I.list_inj hy hq]; exact hx⟩, st', fun b hb => (hf b hb).1⟩⟩
  done := by
    intro X hP hw hK hc i pins s σ H E I hf st hg
    subst hP hw hK
    obtain ⟨xs, hq, hx⟩ := hg
    obtain ⟨its, rv, p, hz⟩ := I.list hq
    obtain ⟨f0, f1, f2, f3, f4, f5⟩ := hf it (by simp)
    have hl := rv.length
    exact wpAny_pyNext_list_end (I.ok.hd hc) st p.isList (by simp; omega) fun h' eb => ⟨rfl, I.turned (t' := s.toks) (fun b o hb e => eb b o hb e) f0 f1 f3 f4 f5⟩
  self := fun _ _ _ _ _ st h => wpAny_pyIter_listiter st h
theorem turn_tuple {P : Program} {w : World} {K : PySem.W.Frag} {tg : Expr} (a it : Addr) : Turn P w K tg (Itt K a) [it] it (fun i h => h.IsTupleIter it a i) where
  mem := by simp
  obj := fun i h st b hb => by
    have e : b = it := by simpa using hb
    subst e
    obtain ⟨o, e, c, d⟩ := st
    exact ⟨o, e, fun v z => by rw [d] at z; cases z⟩
  keep := fun i h h' st k => st.at fun o e => k it (by simp) o e
  item := by
    intro X hP hw hK hc i pins s σ H E I hf st hg
    subst hP hw hK
    obtain ⟨xs, x, hq, hx⟩ := hg
    obtain ⟨its, rv, p, hz⟩ := I.tuple hq
    obtain ⟨u, hu, ru⟩ := rv.get hx
    obtain ⟨f0, f1, f2, f3, f4, f5⟩ := hf it (by simp)
    refine wpAny_pyNext_tuple_item st (show s.heap.IsTuple a its.toArray from p) (x := u) (by simpa using hu) fun h' st' sb => ?_
    have I1 : Inv X pins σ H { s with heap := h' } := I.turned (t' := s.toks) (fun b o hb e => (sb.2 b hb).trans e) f0 f1 f3 f4 f5
    obtain ⟨o, e, c, d⟩ := id st'
    exact ⟨u, rfl, go_of (s := { s with heap := h' }) e c d (by decide) ⟨x, H, I1, ru, ⟨rfl, fun ys hy => by rw [I.tuple_inj hy hq]; exact hx⟩, st', fun b hb => (hf b hb).1⟩⟩
  done := by
    intro X hP hw hK hc i pins s σ H E I hf st hg
    subst hP hw hK
    obtain ⟨xs, hq, hx⟩ := hg
    obtain ⟨its, rv, p, hz⟩ := I.tuple hq
    obtain ⟨f0, f1, f2, f3, f4, f5⟩ := hf it (by simp)
    have hl := rv.length
    exact wpAny_pyNext_tuple_end (I.ok.hd hc) st (show s.heap.IsTuple a its.toArray from p) (by simp; omega) fun h' eb => ⟨rfl, I.turned (t' := s.toks) (fun b o hb e => eb b o hb e) f0 f1 f3 f4 f5⟩
  self := fun _ _ _ _ _ st h => wpAny_pyIter_tupleiter st h
theorem turn_range {P : Program} {w : World} {K : PySem.W.Frag} {tg : Expr} (it : Addr) (lo : Int) (n : Nat) : Turn P w K tg (Itr lo n) [it] it (fun i h => IsRangeIter h it (lo + (i : Nat) * 1) ((n : Int) - (i : Nat)) 1) where
  mem := by simp
  obj := fun i h st b hb => by
    have e : b = it := by simpa using hb
    subst e
    exact ⟨_, st, fun v z => by
      have z' : Data.fields _ = Data.cell v := z
      cases z'⟩
  keep := fun i h h' st k => k it (by simp) _ st
  item := by
    intro X hP hw hK hc i pins s σ H E I hf st hg
    subst hP hw hK
    obtain ⟨f0, f1, f2, f3, f4, f5⟩ := hf it (by simp)
    have W := Walks.range (prog := X.prog) (w := X.w) (I.ok.hd hc) it lo 1 n
    refine W.item i s _ _ hg st fun v h' tk hv st' kk => ?_
    obtain ⟨t, rfl⟩ := hv
    have I1 : Inv X pins σ H { s with heap := h', toks := tk } := I.turned (fun b o hb e => kk b o (by simpa using hb) e) f0 f1 f3 f4 f5
    refine ⟨_, rfl, go_of (s := { s with heap := h', toks := tk }) (n := "range_iterator") st' rfl rfl (by decide) ⟨.int (lo + i), H, I1, ⟨t, ?_⟩, ⟨rfl, rfl⟩, st', fun b hb => (hf b hb).1⟩⟩
    rw [Int.mul_one]
  done := by
    intro X hP hw hK hc i pins s σ H E I hf st hg
    subst hP hw hK
    obtain ⟨f0, f1, f2, f3, f4, f5⟩ := hf it (by simp)
    exact wpAny_pyNext_range_end (I.ok.hd hc) st (by have : n ≤ i := hg; omega) fun h' eb => ⟨rfl, I.turned (t' := s.toks) (fun b o hb e => eb b o hb e) f0 f1 f3 f4 f5⟩
  self := fun _ _ _ _ _ st h => wpAny_pyIter_rangeiter st h
end L2

namespace L2
open PySem PySem.Spec PyProof.Rows
section
variable {X : Cx} {tg : Expr}
def iList (K : PySem.W.Frag) (tl : TE) : TI := fun σ H R => tl σ H fun x H1 => ∃ a, x = .ref a ∧ (∃ xs, SqL K H1 a xs) ∧ R (Itl K a) H1
def iTup (K : PySem.W.Frag) (tl : TE) : TI := fun σ H R => tl σ H fun x H1 => ∃ a, x = .ref a ∧ (∃ xs, SqT K H1 a xs) ∧ R (Itt K a) H1
theorem pi_list {l : Expr} {tl : TE} (hl : PE X l tl) : PI X tg l (iList X.K tl) := by
  intro pins s σ H R I h
  refine thn (hl pins s σ H _ I h) fun v s1 ⟨x, H1, I1, r1, q1⟩ => ?_
  obtain ⟨a, e, ⟨xs, hq⟩, q⟩ := q1
  subst e
  cases r1
  obtain ⟨its, rv, p, hz⟩ := I1.list hq
  refine wpAny_pyIter_list p.isList ?_
  refine ⟨s1.heap.objs.size, [s1.heap.objs.size], _, _, H1, rfl, I1.kept (t' := s1.toks) fun b o e => Heap.get?_push_of_some _ e, turn_list a _, ⟨_, Heap.get?_push_size _ rfl, rfl, rfl⟩, fun b hb => ?_, q⟩
  have e : b = s1.heap.objs.size := by simpa using hb
  subst e
  exact I1.fpOk (Nat.le_refl _) (I1.hok.fresh (Nat.le_refl _))
theorem pi_tup {l : Expr} {tl : TE} (hl : PE X l tl) : PI X tg l (iTup X.K tl) := by
  intro pins s σ H R I h
  refine thn (hl pins s σ H _ I h) fun v s1 ⟨x, H1, I1, r1, q1⟩ => ?_
  obtain ⟨a, e, ⟨xs, hq⟩, q⟩ := q1
  subst e
  cases r1
  obtain ⟨its, rv, p, hz⟩ := I1.tuple hq
  refine wpAny_pyIter_tuple (show s1.heap.IsTuple a its.toArray from p) ?_
  refine ⟨s1.heap.objs.size, [s1.heap.objs.size], _, _, H1, rfl, I1.kept (t' := s1.toks) fun b o e => Heap.get?_push_of_some _ e, turn_tuple a _, ⟨_, Heap.get?_push_size _ rfl, rfl, rfl⟩, fun b hb => ?_, q⟩
  have e : b = s1.heap.objs.size := by simpa using hb
  subst e
  exact I1.fpOk (Nat.le_refl _) (I1.hok.fresh (Nat.le_refl _))
/-- a range object just made, walked -/
theorem range_it {pins : List (Addr × Obj)} {σ : St} {H : Hp} {s : Shared} {R : It → Hp → Prop} {E : Value → Shared → Prop} {lo hi : Int} {t u v : Tok} {tk : Nat} (I : Inv X pins σ H s) (h1 : -(2 ^ 62) ≤ lo) (h2 : lo < 2 ^ 62) (h3 : -(2 ^ 62) ≤ hi) (h4 : hi < 2 ^ 62)
    (q : R (Itr lo (hi - lo).toNat) H) : wpAny (model X.prog X.w) X.A (pyIter (.ref s.heap.objs.size)) (PIE X pins σ tg R) E { s with heap := s.heap.push { cls := .type "range", data := .fields #[.int lo t, .int hi u, .int 1 v] }, toks := tk } := by
  refine wpAny_pyIter_range (IsRange.new ..) (small_one h1 h2 h3 h4) ?_
  have I1 : Inv X pins σ H { s with heap := s.heap.push { cls := .type "range", data := .fields #[.int lo t, .int hi u, .int 1 v] }, toks := tk } := I.kept fun b o e => Heap.get?_push_of_some _ e
  refine ⟨(s.heap.push { cls := .type "range", data := .fields #[.int lo t, .int hi u, .int 1 v] }).objs.size, [(s.heap.push { cls := .type "range", data := .fields #[.int lo t, .int hi u, .int 1 v] }).objs.size], _, _, H, rfl,
    I1.kept (t' := tk) fun b o e => Heap.get?_push_of_some _ e, turn_range _ lo (hi - lo).toNat, ?_, fun b hb => ?_, q⟩
  · have e1 : lo + ((0 : Nat) : Int) * 1 = lo := by simp
    have e2 : (((hi - lo).toNat : Nat) : Int) - ((0 : Nat) : Int) = Builtin.Range.rangeSize lo hi 1 := by rw [rangeSize_one]; split <;> omega
    show IsRangeIter _ _ (lo + ((0 : Nat) : Int) * 1) ((((hi - lo).toNat : Nat) : Int) - ((0 : Nat) : Int)) 1
    rw [e1, e2]
    exact Heap.get?_push_size _ rfl
  · have e : b = (s.heap.push { cls := .type "range", data := .fields #[.int lo t, .int hi u, .int 1 v] }).objs.size := by simpa using hb
    subst e
    exact I1.fpOk (Nat.le_refl _) (I1.hok.fresh (Nat.le_refl _))
def iRng1 (ta : TA) : TI := fun σ H R => ta σ H fun vs H1 => ∃ j : Int, vs = [.int j] ∧ -(2 ^ 62) ≤ j ∧ j < 2 ^ 62 ∧ R (Itr 0 j.toNat) H1
def iRng2 (ta : TA) : TI := fun σ H R => ta σ H fun vs H1 => ∃ i j : Int, vs = [.int i, .int j] ∧ (-(2 ^ 62) ≤ i ∧ i < 2 ^ 62 ∧ -(2 ^ 62) ≤ j ∧ j < 2 ^ 62) ∧ R (Itr i (j - i).toNat) H1
theorem pi_range1 {a : Expr} {ta : TA} {p pos : Pos} (hg : Gl X "range") (hm : X.mg "range" = none) (ha : PA X [a] ta) (hs : starEach [a] X.env = [(false, eval a X.env)] := by rfl) : PI X tg (.Call (.Name "range" p) [a] [] pos) (iRng1 ta) := by
  intro pins s σ H R I h
  refine Call_ (ld_blt I hg hm boot_range (PyProof.Rows.callWith_type1 (thn (ha pos pins s σ H _ I h) fun us s1 ⟨vs, H1, I1, r1, q1⟩ => ?_) hs rfl))
  obtain ⟨j, e, q1, q2, q⟩ := q1
  subst e
  cases r1 with
  | cons r rr =>
    cases rr
    obtain ⟨t, rfl⟩ := r
    exact call_range_1 (range_it I1 (by omega) (by omega) q1 q2 (by simpa using q))
theorem pi_range2 {a b : Expr} {ta : TA} {p pos : Pos} (hg : Gl X "range") (hm : X.mg "range" = none) (ha : PA X [a, b] ta) (hs : starEach [a, b] X.env = [(false, eval a X.env), (false, eval b X.env)] := by rfl) (hs2 : starEach [b] X.env = [(false, eval b X.env)] := by rfl) :
    PI X tg (.Call (.Name "range" p) [a, b] [] pos) (iRng2 ta) := by
  intro pins s σ H R I h
  refine Call_ (ld_blt I hg hm boot_range (PyProof.Rows.callWith_type1 (thn (ha pos pins s σ H _ I h) fun us s1 ⟨vs, H1, I1, r1, q1⟩ => ?_) (by rw [hs, hs2]) (by rw [hs2]; rfl)))
  obtain ⟨i, j, e, ⟨q1, q2, q3, q4⟩, q⟩ := q1
  subst e
  cases r1 with
  | cons r rr =>
    cases rr with
    | cons r' rr =>
      cases rr
      obtain ⟨t, rfl⟩ := r
      obtain ⟨t', rfl⟩ := r'
      exact call_range_2 (range_it I1 q1 q2 q3 q4 q)

/-! ### for -/
/-- W: the invariant by the turn and a measure; N: what the body is to reach -/
def tFor (wi : TI) (g : TG) (tb : TS) : TS := fun D σ H => wi σ H fun J H1 => ∃ W : Nat → Nat → St → Hp → Prop, (∃ m, W 0 m σ H1) ∧ ∀ i m σ H, W i m σ H →
  (J.stop i H ∧ D.nx σ H) ∨ (J.go i H ∧ ∃ N : St → Hp → Prop, (∀ σ' H', N σ' H' → ∃ m', m' < m ∧ W (i + 1) m' σ' H') ∧ ∀ x H', J.yld i H x H' → g x σ H' fun σ2 H2 => tb { D with nx := N, ct := N, bk := D.nx } σ2 H2)
/-- the records at fp as they stand -/
def pinsAt (fp : List Addr) (h : Heap) : List (Addr × Obj) := fp.filterMap fun b => (h.get? b).map fun o => (b, o)
theorem mem_pinsAt {fp : List Addr} {h : Heap} {b : Addr} {o : Obj} (hb : b ∈ fp) (e : h.get? b = some o) : (b, o) ∈ pinsAt fp h := List.mem_filterMap.mpr ⟨b, hb, by rw [e]; rfl⟩
theorem of_pinsAt {fp : List Addr} {h : Heap} {p : Addr × Obj} (hp : p ∈ pinsAt fp h) : p.1 ∈ fp ∧ h.get? p.1 = some p.2 := by
  obtain ⟨b, hb, e⟩ := List.mem_filterMap.mp hp
  cases q : h.get? b with
  | none => rw [q] at e; cases e
  | some o =>
    rw [q] at e
    have e' : (b, o) = p := Option.some.inj e
    subst e'
    exact ⟨hb, q⟩
theorem Inv.pinned {pins : List (Addr × Obj)} {σ : St} {H : Hp} {s : Shared} {fp : List Addr} (I : Inv X pins σ H s) (hf : ∀ b ∈ fp, FpOk X pins H b) (ho : ∀ b ∈ fp, ∃ o, s.heap.get? b = some o ∧ ∀ v, o.data ≠ .cell v) : Inv X (pins ++ pinsAt fp s.heap) σ H s :=
  I.pins_of fun p hp => (List.mem_append.mp hp).elim (fun z => I.pin p (List.mem_append_right _ z)) fun z => by
    obtain ⟨hb, e⟩ := of_pinsAt z
    obtain ⟨f0, f1, f2, _⟩ := hf p.1 hb
    obtain ⟨o, e', d⟩ := ho p.1 hb
    rw [e] at e'; cases e'
    exact ⟨e, f0, f1, f2, d⟩
theorem Inv.unpinned {pins pl : List (Addr × Obj)} {σ : St} {H : Hp} {s : Shared} (I : Inv X (pins ++ pl) σ H s) : Inv X pins σ H s := I.pins_of fun p hp => I.pin p (List.mem_append_right _ (List.mem_append_left _ hp))
theorem ps_for {iter : Expr} {body : List Stmt} {wi : TI} {g : TG} {tb : TS} {pos : Pos} (hp : PassesOwn (model X.prog X.w) X.A X.env X.xe) (hc : X.calm = true) (hi : PI X tg iter wi) (hg : PG X tg g) (hb : PSs X body tb)
    (hs : ∀ x, foldedSetIterable iter X.env x = pure x := by intro _; rfl) : PS X (.For tg iter body [] pos) (tFor wi g tb) := by
  intro pins s σ H D I h
  refine wpAny_For (thn (hi pins s σ H _ I h) fun v s1 h1 => thn h1 fun itv s2 h2 => ?_) hs
  obtain ⟨it, fp, tn, J, H2, e, I2, T, st2, f2, W, ⟨m0, w0⟩, turn⟩ := h2
  subst e
  -- what stays true of the iterator's objects through the loop
  have stat : ∀ {H' : Hp}, (∀ b ∈ fp, H' b = none) → ∀ b ∈ fp, FpOk X pins H' b := fun hn b hb => ⟨hn b hb, (f2 b hb).2⟩
  refine codeAny_forLoop_any (fun n s' => ∃ i σ' H', Inv X pins σ' H' s' ∧ tn i s'.heap ∧ (∀ b ∈ fp, H' b = none) ∧ W i n σ' H') ?_ m0 ⟨0, σ, H2, I2, st2, fun b hb => (f2 b hb).1, w0⟩
  rintro n s3 ⟨i, σ3, H3, I3, st3, fr3, w3⟩
  rcases turn i n σ3 H3 w3 with ⟨stop, qn⟩ | ⟨go, N, hN, step⟩
  · refine wpAny_passesOwn hp (thn (T.done X rfl rfl rfl hc i pins s3 σ3 H3 X.xe I3 (stat fr3) st3 stop) fun r s4 ⟨hr, I4⟩ => ?_)
    subst hr
    exact wpAny_execs_nil ⟨σ3, H3, I4, qn⟩
  · refine wpAny_passesOwn hp (thn (T.item X rfl rfl rfl hc i pins s3 σ3 H3 X.xe I3 (stat fr3) st3 go) fun r s4 ⟨u, hr, h4⟩ => ?_)
    subst hr
    refine wpAny_passesOwn hp (thn h4 fun _ s5 ⟨x, H5, I5, r5, y5, st5, fr5⟩ => ?_)
    have I5' := I5.pinned (stat fr5) (T.obj _ _ st5)
    refine wpAny_passesOwn hp (thn (hg _ s5 σ3 H5 x u _ I5' r5 (step x H5 y5)) fun _ s6 ⟨σ6, H6, I6, q6⟩ => ?_)
    refine wpAny_passesOwn hp (thn (hb _ s6 σ6 H6 _ I6 q6) fun f s7 q7 => ?_)
    have again : ∀ {σ7 : St} {H7 : Hp}, Inv X (pins ++ pinsAt fp s5.heap) σ7 H7 s7 → N σ7 H7 → ∃ m, m < n ∧ ∃ i σ' H', Inv X pins σ' H' s7 ∧ tn i s7.heap ∧ (∀ b ∈ fp, H' b = none) ∧ W i m σ' H' := fun {σ7 H7} I7 n7 => by
      obtain ⟨m', hm, w7⟩ := hN σ7 H7 n7
      refine ⟨m', hm, i + 1, σ7, H7, I7.unpinned, T.keep _ _ _ st5 fun b hb o e => (I7.pin (b, o) (List.mem_append_right _ (List.mem_append_right _ (mem_pinsAt hb e)))).1, fun b hb => ?_, w7⟩
      obtain ⟨o, e, d⟩ := T.obj _ _ st5 b hb
      exact (I7.pin (b, o) (List.mem_append_right _ (List.mem_append_right _ (mem_pinsAt hb e)))).2.1
    cases f with
    | next => obtain ⟨σ7, H7, I7, n7⟩ := q7; exact again I7 n7
    | cont => obtain ⟨σ7, H7, I7, n7⟩ := q7; exact again I7 n7
    | brk => obtain ⟨σ7, H7, I7, q7⟩ := q7; exact ⟨σ7, H7, I7.unpinned, q7⟩
    | ret v => obtain ⟨x7, σ7, H7, I7, r7, q7⟩ := q7; exact ⟨x7, σ7, H7, I7.unpinned, r7, q7⟩
end

/-! ### the forms one uses -/
/-- over a list that the body leaves as it is -/
theorem for_list {K : PySem.W.Frag} {a : Addr} {xs : List V} {g : TG} {tb : TS} {D : Ends} {σ : St} {H : Hp} (Pv : Nat → St → Hp → Prop) (h0 : Pv 0 σ H) (hl : ∀ i σ H, i ≤ xs.length → Pv i σ H → SqL K H a xs)
    (hs : ∀ i x σ H, xs[i]? = some x → Pv i σ H → g x σ H fun σ2 H2 => tb { D with nx := Pv (i + 1), ct := Pv (i + 1), bk := D.nx } σ2 H2) (hd : ∀ σ H, Pv xs.length σ H → D.nx σ H) :
    ∃ W : Nat → Nat → St → Hp → Prop, (∃ m, W 0 m σ H) ∧ ∀ i m σ H, W i m σ H →
      ((Itl K a).stop i H ∧ D.nx σ H) ∨ ((Itl K a).go i H ∧ ∃ N : St → Hp → Prop, (∀ σ' H', N σ' H' → ∃ m', m' < m ∧ W (i + 1) m' σ' H') ∧ ∀ x H', (Itl K a).yld i H x H' → g x σ H' fun σ2 H2 => tb { D with nx := N, ct := N, bk := D.nx } σ2 H2) := by
  refine ⟨fun i m σ H => m = xs.length - i ∧ i ≤ xs.length ∧ Pv i σ H, ⟨xs.length, by simp, Nat.zero_le _, h0⟩, ?_⟩
  rintro i m σ H ⟨rfl, hi, p⟩
  have q := hl i σ H hi p
  by_cases hlt : i < xs.length
  · refine .inr ⟨⟨xs, xs[i], q, by simp [hlt]⟩, Pv (i + 1), fun σ' H' p' => ⟨xs.length - (i + 1), by omega, rfl, hlt, p'⟩, fun x H' y => ?_⟩
    obtain ⟨e, y⟩ := y
    subst e
    exact hs i x σ _ (y xs q) p
  · have e : i = xs.length := by omega
    subst e
    exact .inl ⟨⟨xs, q, Nat.le_refl _⟩, hd σ H p⟩
theorem for_tup {K : PySem.W.Frag} {a : Addr} {xs : List V} {g : TG} {tb : TS} {D : Ends} {σ : St} {H : Hp} (Pv : Nat → St → Hp → Prop) (h0 : Pv 0 σ H) (hl : ∀ i σ H, i ≤ xs.length → Pv i σ H → SqT K H a xs)
    (hs : ∀ i x σ H, xs[i]? = some x → Pv i σ H → g x σ H fun σ2 H2 => tb { D with nx := Pv (i + 1), ct := Pv (i + 1), bk := D.nx } σ2 H2) (hd : ∀ σ H, Pv xs.length σ H → D.nx σ H) :
    ∃ W : Nat → Nat → St → Hp → Prop, (∃ m, W 0 m σ H) ∧ ∀ i m σ H, W i m σ H →
      ((Itt K a).stop i H ∧ D.nx σ H) ∨ ((Itt K a).go i H ∧ ∃ N : St → Hp → Prop, (∀ σ' H', N σ' H' → ∃ m', m' < m ∧ W (i + 1) m' σ' H') ∧ ∀ x H', (Itt K a).yld i H x H' → g x σ H' fun σ2 H2 => tb { D with nx := N, ct := N, bk := D.nx } σ2 H2) := by
  refine ⟨fun i m σ H => m = xs.length - i ∧ i ≤ xs.length ∧ Pv i σ H, ⟨xs.length, by simp, Nat.zero_le _, h0⟩, ?_⟩
  rintro i m σ H ⟨rfl, hi, p⟩
  have q := hl i σ H hi p
  by_cases hlt : i < xs.length
  · refine .inr ⟨⟨xs, xs[i], q, by simp [hlt]⟩, Pv (i + 1), fun σ' H' p' => ⟨xs.length - (i + 1), by omega, rfl, hlt, p'⟩, fun x H' y => ?_⟩
    obtain ⟨e, y⟩ := y
    subst e
    exact hs i x σ _ (y xs q) p
  · have e : i = xs.length := by omega
    subst e
    exact .inl ⟨⟨xs, q, Nat.le_refl _⟩, hd σ H p⟩
theorem for_range {lo : Int} {n : Nat} {g : TG} {tb : TS} {D : Ends} {σ : St} {H : Hp} (Pv : Nat → St → Hp → Prop) (h0 : Pv 0 σ H)
    (hs : ∀ i σ H, i < n → Pv i σ H → g (.int (lo + i)) σ H fun σ2 H2 => tb { D with nx := Pv (i + 1), ct := Pv (i + 1), bk := D.nx } σ2 H2) (hd : ∀ σ H, Pv n σ H → D.nx σ H) :
    ∃ W : Nat → Nat → St → Hp → Prop, (∃ m, W 0 m σ H) ∧ ∀ i m σ H, W i m σ H →
      ((Itr lo n).stop i H ∧ D.nx σ H) ∨ ((Itr lo n).go i H ∧ ∃ N : St → Hp → Prop, (∀ σ' H', N σ' H' → ∃ m', m' < m ∧ W (i + 1) m' σ' H') ∧ ∀ x H', (Itr lo n).yld i H x H' → g x σ H' fun σ2 H2 => tb { D with nx := N, ct := N, bk := D.nx } σ2 H2) := by
  refine ⟨fun i m σ H => m = n - i ∧ i ≤ n ∧ Pv i σ H, ⟨n, by simp, Nat.zero_le _, h0⟩, ?_⟩
  rintro i m σ H ⟨rfl, hi, p⟩
  by_cases hlt : i < n
  · refine .inr ⟨hlt, Pv (i + 1), fun σ' H' p' => ⟨n - (i + 1), by omega, rfl, hlt, p'⟩, fun x H' y => ?_⟩
    obtain ⟨e, y⟩ := y
    subst e y
    exact hs i σ _ hlt p
  · have e : i = n := by omega
    subst e
    exact .inl ⟨Nat.le_refl _, hd σ H p⟩
/-- while, by a word and a measure of the state -/
theorem while_by {c : TT} {tb : TS} {D : Ends} {σ : St} {H : Hp} (Pv : St → Hp → Prop) (μ : St → Hp → Nat) (h0 : Pv σ H)
    (hs : ∀ σ H, Pv σ H → c σ H fun b H1 => if b = true then tb { D with nx := fun σ' H' => Pv σ' H' ∧ μ σ' H' < μ σ H, ct := fun σ' H' => Pv σ' H' ∧ μ σ' H' < μ σ H, bk := D.nx } σ H1 else D.nx σ H1)
    (mono : ∀ σ H Q Q', (∀ b H1, Q b H1 → Q' b H1) → c σ H Q → c σ H Q') : tWhile c tb D σ H := by
  refine ⟨fun m σ H => m = μ σ H ∧ Pv σ H, ⟨_, rfl, h0⟩, ?_⟩
  rintro m σ H ⟨rfl, p⟩
  refine mono σ H _ _ (fun b H1 q => ?_) (hs σ H p)
  cases b with
  | true => exact ⟨_, fun σ' H' ⟨p', l⟩ => ⟨_, l, rfl, p'⟩, q⟩
  | false => exact q
end L2

namespace L2
open PySem PySem.Spec PyProof.Rows

abbrev R2 := V → V → Hp → VK → Prop
/-- a two-place operation on values: f is binaryOp op, inplaceOp op or compareOp op -/
def OpR (X : Cx) (f : Value → Value → Sem Value) (r : R2) : Prop :=
  ∀ (pins : List (Addr × Obj)) (s : Shared) (σ : St) (H : Hp) (x y : V) (v u : Value) (Q : VK), Inv X pins σ H s → RelV x v → RelV y u → r x y H Q →
    wpAny (model X.prog X.w) X.A (f v u) (EP X pins σ Q) X.xe s
/-- a one-place operation -/
def UnR (X : Cx) (f : Value → Sem Value) (r : V → Hp → VK → Prop) : Prop :=
  ∀ (pins : List (Addr × Obj)) (s : Shared) (σ : St) (H : Hp) (x : V) (v : Value) (Q : VK), Inv X pins σ H s → RelV x v → r x H Q →
    wpAny (model X.prog X.w) X.A (f v) (EP X pins σ Q) X.xe s
/-- a call of a value that is known (a builtin, a type) with values -/
def CallR (X : Cx) (f : Value) (r : List V → Hp → VK → Prop) : Prop :=
  ∀ (pins : List (Addr × Obj)) (s : Shared) (σ : St) (H : Hp) (xs : List V) (us : List Value) (Q : VK), Inv X pins σ H s → Vals xs us → r xs H Q →
    wpAny (model X.prog X.w) X.A (call f us) (EP X pins σ Q) X.xe s
/-- a value's truth -/
def TruR (X : Cx) (r : V → Hp → (Bool → Hp → Prop) → Prop) : Prop :=
  ∀ (pins : List (Addr × Obj)) (s : Shared) (σ : St) (H : Hp) (x : V) (v : Value) (Q : Bool → Hp → Prop), Inv X pins σ H s → RelV x v → r x H Q →
    wpAny (model X.prog X.w) X.A (truthy v) (TP X pins σ Q) X.xe s

def tOp (r : R2) (ta tb : TE) : TE := fun σ H Q => ta σ H fun x H1 => tb σ H1 fun y H2 => r x y H2 Q
def tUn (r : V → Hp → VK → Prop) (ta : TE) : TE := fun σ H Q => ta σ H fun x H1 => r x H1 Q
/-- ints in, under C, and a value out -/
def rI (C : Int → Int → Prop) (g : Int → Int → V) : R2 := fun x y H Q => ∃ i j, x = .int i ∧ y = .int j ∧ C i j ∧ Q (g i j) H
def rI0 (g : Int → Int → V) : R2 := fun x y H Q => ∃ i j, x = .int i ∧ y = .int j ∧ Q (g i j) H
def rU (g : Int → V) : V → Hp → VK → Prop := fun x H Q => ∃ i, x = .int i ∧ Q (g i) H

section
variable {X : Cx} {a b c : Expr} {ta tb tc : TE} {pos : Pos}

theorem binT (ha : PE X a ta) (hb : PE X b tb) {pins : List (Addr × Obj)} {s : Shared} {σ : St} {H : Hp} {R : V → V → Hp → Prop} (I : Inv X pins σ H s)
    (h : ta σ H fun x H1 => tb σ H1 fun y H2 => R x y H2) {Q : Value → Shared → Prop} {f : Value → Value → Sem Value}
    (hf : ∀ v u s2 x y H2, Inv X pins σ H2 s2 → RelV x v → RelV y u → R x y H2 → wpAny (model X.prog X.w) X.A (f v u) Q X.xe s2) :
    wpAny (model X.prog X.w) X.A (eval a X.env) (fun v s₁ => wpAny (model X.prog X.w) X.A (eval b X.env) (fun u s₂ => wpAny (model X.prog X.w) X.A (f v u) Q X.xe s₂) X.xe s₁) X.xe s := by
  refine thn (ha pins s σ H _ I h) fun v s1 ⟨x, H1, I1, r1, q1⟩ => ?_
  refine thn (hb pins s1 σ H1 _ I1 q1) fun u s2 ⟨y, H2, I2, r2, q2⟩ => ?_
  exact hf v u s2 x y H2 I2 r1 r2 q2

theorem pe_op {op : Operator} {r : R2} (ho : OpR X (binaryOp op) r) (ha : PE X a ta) (hb : PE X b tb) : PE X (.BinOp a op b pos) (tOp r ta tb) := by
  intro pins s σ H Q I h
  exact wpAny_BinOp (binT ha hb I h fun v u s2 x y H2 I2 rx ry q => ho pins s2 σ H2 x y v u Q I2 rx ry q)
theorem pe_un {op : UnaryOp} {r : V → Hp → VK → Prop} (ho : UnR X (unaryOp op) r) (ha : PE X a ta) : PE X (.UnaryOp op a pos) (tUn r ta) := by
  intro pins s σ H Q I h
  exact UnaryOp_ (thn (ha pins s σ H _ I h) fun v s1 ⟨x, H1, I1, r1, q1⟩ => ho pins s1 σ H1 x v Q I1 r1 q1)
/-- a op= e at a name: the name's slot i -/
theorem augR {op : Operator} {r : R2} (ho : OpR X (inplaceOp op) r) {pins : List (Addr × Obj)} {s : Shared} {σ : St} {H : Hp} {x y : V} {v u : Value} {Q : VK} (I : Inv X pins σ H s)
    (rx : RelV x v) (ry : RelV y u) (q : r x y H Q) : wpAny (model X.prog X.w) X.A (inplaceOp op v u) (EP X pins σ Q) X.xe s := ho pins s σ H x y v u Q I rx ry q

/-! ### ints -/
theorem opI {f : Value → Value → Sem Value} {C : Int → Int → Prop} {g : Int → Int → Int}
    (rule : ∀ (i j : Int) (t u : Tok) (s : Shared) (Q : Value → Shared → Prop) (E : Value → Shared → Prop), C i j → Q (.int (g i j) s.toks) { s with toks := s.toks + 1 } → wpAny (model X.prog X.w) X.A (f (.int i t) (.int j u)) Q E s) :
    OpR X f (rI C fun i j => .int (g i j)) := by
  intro pins s σ H x y v u Q I rx ry h
  obtain ⟨i, j, rfl, rfl, hc, q⟩ := h
  obtain ⟨t, rfl⟩ := rx
  obtain ⟨t', rfl⟩ := ry
  exact rule i j t t' s _ _ hc ⟨.int (g i j), H, I.tok _, ⟨_, rfl⟩, q⟩
theorem opI0 {f : Value → Value → Sem Value} {g : Int → Int → Int}
    (rule : ∀ (i j : Int) (t u : Tok) (s : Shared) (Q : Value → Shared → Prop) (E : Value → Shared → Prop), Q (.int (g i j) s.toks) { s with toks := s.toks + 1 } → wpAny (model X.prog X.w) X.A (f (.int i t) (.int j u)) Q E s) :
    OpR X f (rI0 fun i j => .int (g i j)) := by
  intro pins s σ H x y v u Q I rx ry h
  obtain ⟨i, j, rfl, rfl, q⟩ := h
  obtain ⟨t, rfl⟩ := rx
  obtain ⟨t', rfl⟩ := ry
  exact rule i j t t' s _ _ ⟨.int (g i j), H, I.tok _, ⟨_, rfl⟩, q⟩
theorem opB0 {f : Value → Value → Sem Value} {g : Int → Int → Bool}
    (rule : ∀ (i j : Int) (t u : Tok) (s : Shared) (Q : Value → Shared → Prop) (E : Value → Shared → Prop), Q (.bool (g i j)) s → wpAny (model X.prog X.w) X.A (f (.int i t) (.int j u)) Q E s) :
    OpR X f (rI0 fun i j => .bl (g i j)) := by
  intro pins s σ H x y v u Q I rx ry h
  obtain ⟨i, j, rfl, rfl, q⟩ := h
  obtain ⟨t, rfl⟩ := rx
  obtain ⟨t', rfl⟩ := ry
  exact rule i j t t' s _ _ ⟨.bl (g i j), H, I, rfl, q⟩

def CDiv (i j : Int) : Prop := 0 < j ∧ j < 1073741824
def CDivN (i j : Int) : Prop := j ≠ 0 ∧ j.natAbs < 1073741824
def CPow (i j : Int) : Prop := 0 ≤ j ∧ j ≤ 1000000 ∧ i.natAbs < 2 ^ 64
def CMul (i j : Int) : Prop := (-(2 ^ 64) < i ∧ i < 2 ^ 64) ∨ (-(2 ^ 64) < j ∧ j < 2 ^ 64)
theorem CMul.ok {i j : Int} (h : CMul i j) : IntMulOk i j := by
  rcases h with ⟨h1, h2⟩ | ⟨h1, h2⟩
  · exact .of_left (intBits_le_64 h1 h2)
  · exact .of_right (intBits_le_64 h1 h2)
theorem two_pow_nn (k : Nat) : (0 : Int) ≤ 2 ^ k := by
  rw [two_pow_cast]
  exact Int.natCast_nonneg _

theorem op_add : OpR X (binaryOp .Add) (rI0 fun i j => .int (i + j)) := opI0 fun _ _ _ _ _ _ _ q => add_int q
theorem op_sub : OpR X (binaryOp .Sub) (rI0 fun i j => .int (i - j)) := opI0 fun _ _ _ _ _ _ _ q => sub_int q
theorem op_mul : OpR X (binaryOp .Mult) (rI CMul fun i j => .int (i * j)) := opI fun _ _ _ _ _ _ _ hc q => mul_int q hc.ok
/-- // by a positive divisor -/
theorem op_fdiv : OpR X (binaryOp .FloorDiv) (rI CDiv fun i j => .int (i / j)) := opI fun i j _ _ _ _ _ hc q => by
  have h1 : (0 : Int) < j := hc.1
  have h2 : j < 1073741824 := hc.2
  exact floordiv_int (by omega) (by rw [Int.fdiv_eq_ediv_of_nonneg i (by omega)]; exact q) (.inl (PyProof.noPylong_small (by omega)))
theorem op_fdivN : OpR X (binaryOp .FloorDiv) (rI CDivN fun i j => .int (i.fdiv j)) := opI fun _ _ _ _ _ _ _ hc q => floordiv_int hc.1 q (.inl (PyProof.noPylong_small hc.2))
/-- % by a positive divisor of any size -/
theorem op_mod : OpR X (binaryOp .Mod) (rI (fun _ j => 0 < j) fun i j => .int (i % j)) := opI fun i j _ _ _ _ _ hc q => by
  have h1 : (0 : Int) < j := hc
  exact mod_int' (by omega) (by rw [Int.fmod_eq_emod_of_nonneg i (by omega)]; exact q)
theorem op_modN : OpR X (binaryOp .Mod) (rI (fun _ j => j ≠ 0) fun i j => .int (i.fmod j)) := opI fun _ _ _ _ _ _ _ hc q => mod_int' hc q
theorem op_pow : OpR X (binaryOp .Pow) (rI CPow fun i j => .int (i ^ j.toNat)) := opI fun _ _ _ _ _ _ _ hc q => pow_int_small hc.1 hc.2.1 hc.2.2 q
theorem op_shl : OpR X (binaryOp .LShift) (rI CPow fun i j => .int (i * 2 ^ j.toNat)) := opI fun _ _ _ _ _ _ _ hc q => lshift_int_small hc.1 hc.2.1 hc.2.2 q
theorem op_shr : OpR X (binaryOp .RShift) (rI (fun _ j => 0 ≤ j) fun i j => .int (i / 2 ^ j.toNat)) := opI fun i j _ _ _ _ _ hc q =>
  rshift_int hc (by rw [Int.fdiv_eq_ediv_of_nonneg i (two_pow_nn _)]; exact q)
theorem op_and : OpR X (binaryOp .BitAnd) (rI0 fun i j => .int (Builtin.bitAnd i j)) := opI0 fun _ _ _ _ _ _ _ q => and_int q
theorem op_or : OpR X (binaryOp .BitOr) (rI0 fun i j => .int (Builtin.bitOr i j)) := opI0 fun _ _ _ _ _ _ _ q => or_int q
theorem op_xor : OpR X (binaryOp .BitXor) (rI0 fun i j => .int (Builtin.bitXor i j)) := opI0 fun _ _ _ _ _ _ _ q => xor_int q

theorem iop_add : OpR X (inplaceOp .Add) (rI0 fun i j => .int (i + j)) := opI0 fun _ _ _ _ _ _ _ q => iadd_int q
theorem iop_sub : OpR X (inplaceOp .Sub) (rI0 fun i j => .int (i - j)) := opI0 fun _ _ _ _ _ _ _ q => isub_int q
theorem iop_mul : OpR X (inplaceOp .Mult) (rI CMul fun i j => .int (i * j)) := opI fun _ _ _ _ _ _ _ hc q => imul_int q hc.ok
theorem iop_fdiv : OpR X (inplaceOp .FloorDiv) (rI CDiv fun i j => .int (i / j)) := opI fun i j _ _ _ _ _ hc q => by
  have h1 : (0 : Int) < j := hc.1
  have h2 : j < 1073741824 := hc.2
  exact ifloordiv_int (by omega) (by rw [Int.fdiv_eq_ediv_of_nonneg i (by omega)]; exact q) (.inl (PyProof.noPylong_small (by omega)))
theorem iop_mod : OpR X (inplaceOp .Mod) (rI (fun _ j => 0 < j) fun i j => .int (i % j)) := opI fun i j _ _ _ _ _ hc q => by
  have h1 : (0 : Int) < j := hc
  exact imod_int (by omega) (by rw [Int.fmod_eq_emod_of_nonneg i (by omega)]; exact q)
theorem iop_shl : OpR X (inplaceOp .LShift) (rI CPow fun i j => .int (i * 2 ^ j.toNat)) := opI fun _ _ _ _ _ _ _ hc q => ilshift_int_small hc.1 hc.2.1 hc.2.2 q
theorem iop_shr : OpR X (inplaceOp .RShift) (rI (fun _ j => 0 ≤ j) fun i j => .int (i / 2 ^ j.toNat)) := opI fun i j _ _ _ _ _ hc q =>
  irshift_int hc (by rw [Int.fdiv_eq_ediv_of_nonneg i (two_pow_nn _)]; exact q)
theorem iop_and : OpR X (inplaceOp .BitAnd) (rI0 fun i j => .int (Builtin.bitAnd i j)) := opI0 fun _ _ _ _ _ _ _ q => iand_int q
theorem iop_or : OpR X (inplaceOp .BitOr) (rI0 fun i j => .int (Builtin.bitOr i j)) := opI0 fun _ _ _ _ _ _ _ q => ior_int q
theorem iop_xor : OpR X (inplaceOp .BitXor) (rI0 fun i j => .int (Builtin.bitXor i j)) := opI0 fun _ _ _ _ _ _ _ q => ixor_int q

theorem unI {f : Value → Sem Value} {g : Int → Int}
    (rule : ∀ (i : Int) (t : Tok) (s : Shared) (Q : Value → Shared → Prop) (E : Value → Shared → Prop), Q (.int (g i) s.toks) { s with toks := s.toks + 1 } → wpAny (model X.prog X.w) X.A (f (.int i t)) Q E s) :
    UnR X f (rU fun i => .int (g i)) := by
  intro pins s σ H x v Q I rx h
  obtain ⟨i, rfl, q⟩ := h
  obtain ⟨t, rfl⟩ := rx
  exact rule i t s _ _ ⟨.int (g i), H, I.tok _, ⟨_, rfl⟩, q⟩
theorem un_neg : UnR X (unaryOp .USub) (rU fun i => .int (-i)) := unI fun _ _ _ _ _ q => neg_int q
theorem un_inv : UnR X (unaryOp .Invert) (rU fun i => .int (Builtin.bitNot i)) := unI fun _ _ _ _ _ q => invert_int q

/-! ### bools among ints: n += (a < b) -/
theorem op_add_ib : OpR X (binaryOp .Add) (fun x y H Q => ∃ i k, x = .int i ∧ y = .bl k ∧ Q (.int (i + b2i k)) H) := by
  intro pins s σ H x y v u Q I rx ry h
  obtain ⟨i, k, rfl, rfl, q⟩ := h
  obtain ⟨t, rfl⟩ := rx
  cases ry
  exact add_int_bool ⟨.int (i + b2i k), H, I.tok _, ⟨_, rfl⟩, q⟩
end

/-! ### comparisons -/
/-- the scalars that == tells apart as data does -/
def scal : V → V → Bool
  | .non, .non => true | .non, .int _ => true | .int _, .non => true | .non, .bl _ => true | .bl _, .non => true | .non, .str _ => true | .str _, .non => true
  | .int _, .int _ => true | .bl _, .bl _ => true | .str _, .str _ => true | .byt _, .byt _ => true
  | .int _, .str _ => true | .str _, .int _ => true | .bl _, .str _ => true | .str _, .bl _ => true
  | _, _ => false
def rEq : R2 := fun x y H Q => scal x y = true ∧ Q (.bl (decide (x = y))) H
def rNe : R2 := fun x y H Q => scal x y = true ∧ Q (.bl (!decide (x = y))) H

theorem dec_int {i j : Int} : decide (V.int i = V.int j) = (i == j) := by
  rw [Bool.eq_iff_iff]
  simp
theorem dec_bl {i j : Bool} : decide (V.bl i = V.bl j) = (i == j) := by
  rw [Bool.eq_iff_iff]
  simp
theorem dec_str {i j : Str} : decide (V.str i = V.str j) = (i == j) := by
  rw [Bool.eq_iff_iff]
  simp
theorem dec_byt {i j : Array UInt8} : decide (V.byt i = V.byt j) = (i.toList == j.toList) := by
  rw [Bool.eq_iff_iff]
  cases i
  cases j
  simp

section
variable {X : Cx} {a b c : Expr} {ta tb tc : TE} {pos : Pos}
theorem fin_bl {pins : List (Addr × Obj)} {σ : St} {H : Hp} {s : Shared} {Q : VK} {k k' : Bool} (I : Inv X pins σ H s) (q : Q (.bl k) H) (e : k = k') : EP X pins σ Q (.bool k') s := by
  subst e
  exact ⟨.bl k, H, I, rfl, q⟩
theorem op_eq : OpR X (compareOp .Eq) rEq := by
  intro pins s σ H x y v u Q I rx ry h
  obtain ⟨hs, q⟩ := h
  cases x with
  | non =>
    cases rx
    cases y with
    | non => cases ry; exact PySem.EqNone.eq_none_none (fin_bl I q (by simp))
    | bl j => cases ry; exact PySem.EqNone.eq_none_bool (fin_bl I q (by simp))
    | int j => obtain ⟨t', rfl⟩ := ry; exact PySem.EqNone.eq_none_int (fin_bl I q (by simp))
    | str j => obtain ⟨t', rfl⟩ := ry; exact PySem.EqNone.eq_none_str (fin_bl I q (by simp))
    | _ => exact absurd (show false = true from hs) Bool.false_ne_true
  | bl i =>
    cases rx
    cases y with
    | non => cases ry; exact PySem.EqNone.eq_bool_none (fin_bl I q (by simp))
    | bl j => cases ry; exact eq_bool (fin_bl I q dec_bl)
    | str j => obtain ⟨t', rfl⟩ := ry; exact PySem.EqMixed.eq_bool_str (fin_bl I q (by simp))
    | _ => exact absurd (show false = true from hs) Bool.false_ne_true
  | int i =>
    obtain ⟨t, rfl⟩ := rx
    cases y with
    | non => cases ry; exact PySem.EqNone.eq_int_none (fin_bl I q (by simp))
    | int j => obtain ⟨t', rfl⟩ := ry; exact eq_int (fin_bl I q dec_int)
    | str j => obtain ⟨t', rfl⟩ := ry; exact PySem.EqMixed.eq_int_str (fin_bl I q (by simp))
    | _ => exact absurd (show false = true from hs) Bool.false_ne_true
  | str i =>
    obtain ⟨t, rfl⟩ := rx
    cases y with
    | non => cases ry; exact PySem.EqNone.eq_str_none (fin_bl I q (by simp))
    | bl j => cases ry; exact PySem.EqMixed.eq_str_bool (fin_bl I q (by simp))
    | int j => obtain ⟨t', rfl⟩ := ry; exact PySem.EqMixed.eq_str_int (fin_bl I q (by simp))
    | str j => obtain ⟨t', rfl⟩ := ry; exact eq_str (fin_bl I q dec_str)
    | _ => exact absurd (show false = true from hs) Bool.false_ne_true
  | byt i =>
    obtain ⟨t, rfl⟩ := rx
    cases y with
    | byt j => obtain ⟨t', rfl⟩ := ry; exact PySem.W.eq_bytes (fin_bl I q dec_byt)
    | _ => exact absurd (show false = true from hs) Bool.false_ne_true
  | _ => cases y <;> exact absurd (show false = true from hs) Bool.false_ne_true
theorem op_ne : OpR X (compareOp .NotEq) rNe := by
  intro pins s σ H x y v u Q I rx ry h
  obtain ⟨hs, q⟩ := h
  cases x with
  | non =>
    cases rx
    cases y with
    | non => cases ry; exact PySem.EqNone.ne_none_none (fin_bl I q (by simp))
    | bl j => cases ry; exact PySem.EqNone.ne_none_bool (fin_bl I q (by simp))
    | int j => obtain ⟨t', rfl⟩ := ry; exact PySem.EqNone.ne_none_int (fin_bl I q (by simp))
    | str j => obtain ⟨t', rfl⟩ := ry; exact PySem.EqNone.ne_none_str (fin_bl I q (by simp))
    | _ => exact absurd (show false = true from hs) Bool.false_ne_true
  | bl i =>
    cases rx
    cases y with
    | non => cases ry; exact PySem.EqNone.ne_bool_none (fin_bl I q (by simp))
    | bl j => cases ry; exact ne_bool (fin_bl I q (congrArg not dec_bl))
    | str j => obtain ⟨t', rfl⟩ := ry; exact PySem.EqMixed.ne_bool_str (fin_bl I q (by simp))
    | _ => exact absurd (show false = true from hs) Bool.false_ne_true
  | int i =>
    obtain ⟨t, rfl⟩ := rx
    cases y with
    | non => cases ry; exact PySem.EqNone.ne_int_none (fin_bl I q (by simp))
    | int j => obtain ⟨t', rfl⟩ := ry; exact ne_int (fin_bl I q (congrArg not dec_int))
    | str j => obtain ⟨t', rfl⟩ := ry; exact PySem.EqMixed.ne_int_str (fin_bl I q (by simp))
    | _ => exact absurd (show false = true from hs) Bool.false_ne_true
  | str i =>
    obtain ⟨t, rfl⟩ := rx
    cases y with
    | non => cases ry; exact PySem.EqNone.ne_str_none (fin_bl I q (by simp))
    | bl j => cases ry; exact PySem.EqMixed.ne_str_bool (fin_bl I q (by simp))
    | int j => obtain ⟨t', rfl⟩ := ry; exact PySem.EqMixed.ne_str_int (fin_bl I q (by simp))
    | str j => obtain ⟨t', rfl⟩ := ry; exact ne_str (fin_bl I q (congrArg not dec_str))
    | _ => exact absurd (show false = true from hs) Bool.false_ne_true
  | byt i =>
    obtain ⟨t, rfl⟩ := rx
    cases y with
    | byt j => obtain ⟨t', rfl⟩ := ry; exact PySem.W.ne_bytes (fin_bl I q (congrArg not dec_byt))
    | _ => exact absurd (show false = true from hs) Bool.false_ne_true
  | _ => cases y <;> exact absurd (show false = true from hs) Bool.false_ne_true

theorem op_lt : OpR X (compareOp .Lt) (rI0 fun i j => .bl (decide (i < j))) := opB0 fun _ _ _ _ _ _ _ q => lt_int q
theorem op_le : OpR X (compareOp .LtE) (rI0 fun i j => .bl (decide (i ≤ j))) := opB0 fun _ _ _ _ _ _ _ q => le_int q
theorem op_gt : OpR X (compareOp .Gt) (rI0 fun i j => .bl (decide (j < i))) := opB0 fun _ _ _ _ _ _ _ q => gt_int q
theorem op_ge : OpR X (compareOp .GtE) (rI0 fun i j => .bl (decide (j ≤ i))) := opB0 fun _ _ _ _ _ _ _ q => ge_int q
theorem op_lt_str : OpR X (compareOp .Lt) (fun x y H Q => ∃ i j, x = .str i ∧ y = .str j ∧ Q (.bl (decide (i.cps.toList < j.cps.toList))) H) := by
  intro pins s σ H x y v u Q I rx ry h
  obtain ⟨i, j, rfl, rfl, q⟩ := h
  obtain ⟨t, rfl⟩ := rx
  obtain ⟨t', rfl⟩ := ry
  exact lt_str (fin_bl I q rfl)
/-- the one string within the other -/
theorem op_in_str : OpR X (compareOp .In) (fun x y H Q => ∃ i j, x = .str i ∧ y = .str j ∧ Q (.bl (!(Builtin.Str.occurrences j i 0 j.length 1).isEmpty)) H) := by
  intro pins s σ H x y v u Q I rx ry h
  obtain ⟨i, j, rfl, rfl, q⟩ := h
  obtain ⟨t, rfl⟩ := rx
  obtain ⟨t', rfl⟩ := ry
  exact in_str (fin_bl I q rfl)

/-- is None, is not None: the right side a value none -/
theorem op_isN : OpR X (compareOp .Is) (fun x y H Q => y = .non ∧ Q (.bl (decide (x = .non))) H) := by
  intro pins s σ H x y v u Q I rx ry h
  obtain ⟨rfl, q⟩ := h
  cases ry
  refine is_none_gen (fin_bl I q ?_)
  cases x <;> first
    | (cases rx; rfl)
    | (obtain ⟨t, rfl⟩ := rx; rfl)
theorem op_notN : OpR X (compareOp .IsNot) (fun x y H Q => y = .non ∧ Q (.bl (!decide (x = .non))) H) := by
  intro pins s σ H x y v u Q I rx ry h
  obtain ⟨rfl, q⟩ := h
  cases ry
  refine isnot_none_gen (fin_bl I q ?_)
  cases x <;> first
    | (cases rx; rfl)
    | (obtain ⟨t, rfl⟩ := rx; rfl)

theorem op_notin_str : OpR X (compareOp .NotIn) (fun x y H Q => ∃ i j, x = .str i ∧ y = .str j ∧ Q (.bl (!(!(Builtin.Str.occurrences j i 0 j.length 1).isEmpty))) H) := by
  intro pins s σ H x y v u Q I rx ry h
  obtain ⟨i, j, rfl, rfl, q⟩ := h
  obtain ⟨t, rfl⟩ := rx
  obtain ⟨t', rfl⟩ := ry
  exact notIn_str (fin_bl I q rfl)
/-- is, is not of two objects that are tracked lists or instances -/
def isObj : HO → Bool
  | .lst _ => true
  | .ins _ _ _ => true
  | _ => false
theorem obj_there {pins : List (Addr × Obj)} {s : Shared} {σ : St} {H : Hp} {a : Addr} {o : HO} (I : Inv X pins σ H s) (h : H a = some o) (p : isObj o = true) : ∃ ob, s.heap.get? a = some ob ∧ ob.cls ≠ .type "tuple" := by
  cases o with
  | lst xs =>
    obtain ⟨_, its, n, _, e⟩ : xs.length ≤ sizeLine ∧ ∃ (its : List Value) (n : Nat), Vals xs its ∧ s.heap.get? a = some { cls := .type "list", data := .seq its.toArray n } := I.hok a _ h
    exact ⟨_, e, (by show Value.type "list" ≠ .type "tuple"; decide +kernel)⟩
  | ins C dx fs =>
    have x := I.hok a _ h
    obtain ⟨_, _, _, e, _⟩ := x
    exact ⟨_, e, (by show Value.ref C ≠ .type "tuple"; exact fun z => by cases z)⟩
  | _ => exact absurd (show false = true from p) Bool.false_ne_true
theorem op_is_ref : OpR X (compareOp .Is) (fun x y H Q => ∃ a b oa ob, x = .ref a ∧ y = .ref b ∧ H a = some oa ∧ isObj oa = true ∧ H b = some ob ∧ isObj ob = true ∧ Q (.bl (decide (a = b))) H) := by
  intro pins s σ H x y v u Q I rx ry h
  obtain ⟨a, b, oa, ob, rfl, rfl, ha, pa, hb, pb, q⟩ := h
  cases rx
  cases ry
  obtain ⟨o1, e1, n1⟩ := obj_there I ha pa
  obtain ⟨o2, e2, _⟩ := obj_there I hb pb
  by_cases z : a = b
  · subst z
    exact wpAny_is_ref_self (fin_bl I q (by simp))
  · exact wpAny_is_ref_other z e1 e2 n1 (fin_bl I q (by simp [z]))
theorem op_isnot_ref : OpR X (compareOp .IsNot) (fun x y H Q => ∃ a b oa ob, x = .ref a ∧ y = .ref b ∧ H a = some oa ∧ isObj oa = true ∧ H b = some ob ∧ isObj ob = true ∧ Q (.bl (!decide (a = b))) H) := by
  intro pins s σ H x y v u Q I rx ry h
  obtain ⟨a, b, oa, ob, rfl, rfl, ha, pa, hb, pb, q⟩ := h
  cases rx
  cases ry
  obtain ⟨o1, e1, n1⟩ := obj_there I ha pa
  obtain ⟨o2, e2, _⟩ := obj_there I hb pb
  by_cases z : a = b
  · subst z
    exact wpAny_isNot_ref_self (fin_bl I q (by simp))
  · exact wpAny_isNot_ref_other z e1 e2 n1 (fin_bl I q (by simp [z]))

/-- two rules for one operation: by cases -/
theorem OpR.or {f : Value → Value → Sem Value} {r r' : R2} (h : OpR X f r) (h' : OpR X f r') : OpR X f (fun x y H Q => r x y H Q ∨ r' x y H Q) := by
  intro pins s σ H x y v u Q I rx ry q
  rcases q with q | q
  · exact h pins s σ H x y v u Q I rx ry q
  · exact h' pins s σ H x y v u Q I rx ry q

theorem nomark (b : Expr) {op : CmpOp} (h : op ≠ .In := by decide) (h2 : op ≠ .NotIn := by decide) : behindInMarks op b = false := by
  have e1 : (op == CmpOp.In) = false := by cases op <;> first | rfl | exact absurd rfl h
  have e2 : (op == CmpOp.NotIn) = false := by cases op <;> first | rfl | exact absurd rfl h2
  cases b <;> simp [behindInMarks, e1, e2]
/-- a comparison as a value; hm: nomark b, or (for in, not in) by with_unfolding_all rfl -/
theorem pe_cmpR {op : CmpOp} {r : R2} (ho : OpR X (compareOp op) r) (ha : PE X a ta) (hb : PE X b tb) (hm : behindInMarks op b = false) : PE X (.Compare a [op] [b] pos) (tOp r ta tb) := by
  intro pins s σ H Q I h
  exact wpAny_Compare1 (binT ha hb I h fun v u s2 x y H2 I2 rx ry q => ho pins s2 σ H2 x y v u Q I2 rx ry q) hm
/-- a reading of a value as a test -/
def tTest (t : TE) : TT := fun σ H Q => t σ H fun x H' => ∃ k, x = .bl k ∧ Q k H'
theorem pt_cmpR {op : CmpOp} {r : R2} (ho : OpR X (compareOp op) r) (ha : PE X a ta) (hb : PE X b tb) (hm : behindInMarks op b = false) : PT X (.Compare a [op] [b] pos) (tTest (tOp r ta tb)) := by
  intro pins s σ H Q I h
  refine wpAny_isTrue_Compare1 (thn (ha pins s σ H _ I h) fun v s1 ⟨x, H1, I1, r1, q1⟩ => thn (hb pins s1 σ H1 _ I1 q1) fun u s2 ⟨y, H2, I2, r2, q2⟩ =>
    thn (ho pins s2 σ H2 x y v u _ I2 r1 r2 q2) fun c s3 ⟨z, H3, I3, r3, k, e, q3⟩ => ?_) hm
  subst e
  cases r3
  exact wpAny_truthy_bool ⟨H3, I3, q3⟩
/-- a op1 b op2 c -/
def tChain (r r' : R2) (ta tb tc : TE) : TE := fun σ H Q => ta σ H fun x H1 => tb σ H1 fun y H2 => r x y H2 fun z H3 => ∃ k, z = .bl k ∧
  (if k = true then tc σ H3 fun w' H4 => r' y w' H4 Q else Q (.bl false) H3)
theorem pe_chain {op op' : CmpOp} {r r' : R2} (ho : OpR X (compareOp op) r) (ho' : OpR X (compareOp op') r') (ha : PE X a ta) (hb : PE X b tb) (hc : PE X c tc)
    (hm : lastMarks [op, op'] [b, c] = false := by with_unfolding_all rfl) : PE X (.Compare a [op, op'] [b, c] pos) (tChain r r' ta tb tc) := by
  intro pins s σ H Q I h
  refine Compare_chain (thn (ha pins s σ H _ I h) fun v s1 ⟨x, H1, I1, r1, q1⟩ => chain_link (thn (hb pins s1 σ H1 _ I1 q1) fun u s2 ⟨y, H2, I2, r2, q2⟩ =>
    thn (ho pins s2 σ H2 x y v u _ I2 r1 r2 q2) fun d s3 ⟨z, H3, I3, r3, k, e, q3⟩ => ?_)) hm
  subst e
  cases r3
  refine wpAny_truthy_bool ?_
  cases k with
  | false => exact ite_ff ⟨.bl false, H3, I3, rfl, q3⟩
  | true => exact ite_tt (chain_last (thn (hc pins s3 σ H3 _ I3 q3) fun w' s4 ⟨z', H4, I4, r4, q4⟩ => ho' pins s4 σ H4 y z' u w' Q I4 r2 r4 q4))
theorem pt_chain {op op' : CmpOp} {r r' : R2} (ho : OpR X (compareOp op) r) (ho' : OpR X (compareOp op') r') (ha : PE X a ta) (hb : PE X b tb) (hc : PE X c tc)
    (hm : lastMarks [op, op'] [b, c] = false := by with_unfolding_all rfl) : PT X (.Compare a [op, op'] [b, c] pos) (tTest (tChain r r' ta tb tc)) := by
  intro pins s σ H Q I h
  refine isTrue_chain (thn (ha pins s σ H _ I h) fun v s1 ⟨x, H1, I1, r1, q1⟩ => test_link (thn (hb pins s1 σ H1 _ I1 q1) fun u s2 ⟨y, H2, I2, r2, q2⟩ =>
    thn (ho pins s2 σ H2 x y v u _ I2 r1 r2 q2) fun d s3 ⟨z, H3, I3, r3, k, e, q3⟩ => ?_)) hm
  subst e
  cases r3
  refine wpAny_truthy_bool ?_
  cases k with
  | false =>
    obtain ⟨k', e', q'⟩ := q3
    cases e'
    exact ite_ff ⟨H3, I3, q'⟩
  | true =>
    refine ite_tt (test_last (thn (hc pins s3 σ H3 _ I3 q3) fun w' s4 ⟨z', H4, I4, r4, q4⟩ => thn (ho' pins s4 σ H4 y z' u w' _ I4 r2 r4 q4) fun d' s5 ⟨z2, H5, I5, r5, k2, e2, q5⟩ => ?_))
    subst e2
    cases r5
    exact wpAny_truthy_bool ⟨H5, I5, q5⟩

/-! ### truth -/
/-- a value's truth by the abstract heap -/
def TruV (K : PySem.W.Frag) (x : V) (H : Hp) (k : Bool) : Prop :=
  match x with
  | .non => k = false
  | .bl b => k = b
  | .int i => k = (i != 0)
  | .str y => y.length ≤ sizeLine ∧ k = ((y.length : Int) != 0)
  | .byt y => y.size ≤ sizeLine ∧ k = ((y.size : Int) != 0)
  | .ref p => (∃ xs, SqL K H p xs ∧ k = !xs.isEmpty) ∨ (∃ xs, SqT K H p xs ∧ k = !xs.isEmpty) ∨ ∃ kvs, H p = some (.dK kvs) ∧ k = !kvs.isEmpty
  | _ => False
theorem isEmpty_kv {κ : Type} {kvs : List (κ × V)} {vs : List (κ × Value)} (r : KV kvs vs) : (!vs.isEmpty) = !kvs.isEmpty := by
  cases r <;> rfl
theorem isEmpty_of {xs : List V} {its : List Value} (r : Vals xs its) : (!its.toArray.isEmpty) = !xs.isEmpty := by
  cases r <;> simp
theorem line63 : (sizeLine : Nat) < 2 ^ 63 := by rw [sizeLine_eq]; decide
theorem tru_ok : TruR X (fun x H Q => ∃ k, TruV X.K x H k ∧ Q k H) := by
  intro pins s σ H x v Q I rx h
  obtain ⟨k, e, q⟩ := h
  have hl := line63
  have hs : sizeLine = 16777216 := sizeLine_eq
  cases x with
  | non =>
    cases rx
    have e' : k = false := e
    subst e'
    exact truthy_none ⟨H, I, q⟩
  | bl b =>
    cases rx
    have e' : k = b := e
    subst e'
    exact wpAny_truthy_bool ⟨H, I, q⟩
  | int i =>
    obtain ⟨t, rfl⟩ := rx
    have e' : k = (i != 0) := e
    subst e'
    exact PySem.P.truthy_int ⟨H, I, q⟩
  | str y =>
    obtain ⟨t, rfl⟩ := rx
    obtain ⟨hy, e'⟩ : y.length ≤ sizeLine ∧ k = ((y.length : Int) != 0) := e
    subst e'
    exact PySem.P.truthy_str (by omega) ⟨H, I.tok _, q⟩
  | byt y =>
    obtain ⟨t, rfl⟩ := rx
    obtain ⟨hy, e'⟩ : y.size ≤ sizeLine ∧ k = ((y.size : Int) != 0) := e
    subst e'
    exact PySem.W.truthy_bytes (by omega) ⟨H, I.tok _, q⟩
  | ref p =>
    cases rx
    have e' : (∃ xs, SqL X.K H p xs ∧ k = !xs.isEmpty) ∨ (∃ xs, SqT X.K H p xs ∧ k = !xs.isEmpty) ∨ ∃ kvs, H p = some (.dK kvs) ∧ k = !kvs.isEmpty := e
    rcases e' with ⟨xs, hx, e'⟩ | ⟨xs, hx, e'⟩ | ⟨kvs, hx, e'⟩
    · subst e'
      obtain ⟨its, r, pl, hz⟩ := I.list hx
      have hlen := r.length
      exact wpAny_truthy_list pl.isList (by simp only [List.size_toArray]; omega) ⟨H, I.tok _, by rw [isEmpty_of r]; exact q⟩
    · subst e'
      obtain ⟨its, r, pl, hz⟩ := I.tuple hx
      have hlen := r.length
      exact truthy_tuple pl (by simp only [List.size_toArray]; omega) ⟨H, I.tok _, by rw [isEmpty_of r]; exact q⟩
    · subst e'
      obtain ⟨hz, hS, vs, r, m⟩ : kvs.length ≤ sizeLine ∧ (p == sysModules) = false ∧ ∃ vs, KV kvs vs ∧ s.heap.DictOf (mixKind X.prog X.w) p vs := I.hok p _ hx
      have hlen : kvs.length = vs.length := Paired.length r
      exact wpAny_truthy_dict hS m (by omega) ⟨H, I.tok _, by rw [isEmpty_kv r]; exact q⟩
  | _ => exact (show False from e).elim
/-- any expression whose test is its value's truth (a name, a call, a subscript, a field ..: he by fun _ => rfl) -/
theorem pt_truth (ha : PE X a ta) (he : ∀ whole, isTrue a X.env whole = (do let v ← whole; standAt a.pos; holding [v] (truthy v))) :
    PT X a (fun σ H Q => ta σ H fun x H' => ∃ k, TruV X.K x H' k ∧ Q k H') := by
  intro pins s σ H Q I h
  exact isTrue_plain (thn (ha pins s σ H _ I h) fun v s1 ⟨x, H1, I1, r1, q1⟩ => tru_ok pins s1 σ H1 x v Q I1 r1 q1) (he _)

/-! ### strs and bytes -/
theorem pe_byt {x : List UInt8} {k : Nat} : PE X (.Constant (.bytes x) k pos) (fun _ H Q => Q (.byt x.toArray) H) := fun _ _ _ H _ I h => PySem.W.Constant_bytes ⟨.byt x.toArray, H, I.tok _, ⟨_, rfl⟩, h⟩
theorem op_add_str : OpR X (binaryOp .Add) (fun x y H Q => ∃ i j, x = .str i ∧ y = .str j ∧ i.length + j.length ≤ sizeLine ∧ Q (.str (i ++ j)) H) := by
  intro pins s σ H x y v u Q I rx ry h
  obtain ⟨i, j, rfl, rfl, hz, q⟩ := h
  obtain ⟨t, rfl⟩ := rx
  obtain ⟨t', rfl⟩ := ry
  exact add_str (fun t' tk => ⟨.str (i ++ j), H, I.tok _, ⟨_, rfl⟩, q⟩) hz
theorem iop_add_str : OpR X (inplaceOp .Add) (fun x y H Q => ∃ i j, x = .str i ∧ y = .str j ∧ i.length + j.length ≤ sizeLine ∧ Q (.str (i ++ j)) H) := by
  intro pins s σ H x y v u Q I rx ry h
  obtain ⟨i, j, rfl, rfl, hz, q⟩ := h
  obtain ⟨t, rfl⟩ := rx
  obtain ⟨t', rfl⟩ := ry
  exact iadd_str (fun t' tk => ⟨.str (i ++ j), H, I.tok _, ⟨_, rfl⟩, q⟩) hz
theorem op_add_byt : OpR X (binaryOp .Add) (fun x y H Q => ∃ i j, x = .byt i ∧ y = .byt j ∧ i.size + j.size ≤ 16777216 ∧ Q (.byt (i ++ j)) H) := by
  intro pins s σ H x y v u Q I rx ry h
  obtain ⟨i, j, rfl, rfl, hz, q⟩ := h
  obtain ⟨t, rfl⟩ := rx
  obtain ⟨t', rfl⟩ := ry
  exact PySem.W.KBy.add_bytes hz (fun t' tk => ⟨.byt (i ++ j), H, I.tok _, ⟨_, rfl⟩, q⟩)

def PlainIxT (b : Expr) : Prop := ∀ o i, subscripted b false o i = operate [o, i] (getItem o i)
/-- s[i], 0 ≤ i < len -/
theorem pe_item_str (ha : PE X a ta) (hb : PE X b tb) (hs : PlainIxT b) :
    PE X (.Subscript a b pos) (tOp (fun x y H Q => ∃ z i c, x = .str z ∧ y = .int i ∧ 0 ≤ i ∧ i < 2 ^ 63 ∧ i < z.length ∧ z.cps[i.toNat]? = some c ∧ Q (.str ⟨#[c]⟩) H) ta tb) := by
  intro pins s σ H Q I h
  refine Subscript_ (binT ha hb I h fun v u s2 x y H2 I2 rx ry q => ?_)
  obtain ⟨z, i, c, rfl, rfl, h0, h63, h1, hc, q⟩ := q
  obtain ⟨t, rfl⟩ := rx
  obtain ⟨t', rfl⟩ := ry
  have e : seqIndex? i z.length = some i.toNat := PySem.StrLaws.seqIndex_nonneg h0 h1
  exact tail_any (typeIs_str s2 z t) slot_str_getitem.lookup (getItem_str (c := c) (by
    have e1 : decide (i < -(2 ^ 63 : Int)) = false := decide_eq_false (by omega)
    have e2 : decide (i ≥ 2 ^ 63) = false := decide_eq_false (by omega)
    rw [e1, e2] <;> rfl) (by rw [e]; exact hc) ⟨.str ⟨#[c]⟩, H2, I2.tok _, ⟨_, rfl⟩, q⟩) (hs _ _)
/-- b[i], 0 ≤ i < len -/
theorem pe_item_byt (ha : PE X a ta) (hb : PE X b tb) (hs : PlainIxT b) :
    PE X (.Subscript a b pos) (tOp (fun x y H Q => ∃ (z : List UInt8) (i : Int), x = .byt z.toArray ∧ y = .int i ∧ z.length ≤ sizeLine ∧ 0 ≤ i ∧ i < z.length ∧ Q (.int ((z.getD i.toNat 0).toNat : Nat)) H) ta tb) := by
  intro pins s σ H Q I h
  refine Subscript_ (binT ha hb I h fun v u s2 x y H2 I2 rx ry q => ?_)
  obtain ⟨z, i, rfl, rfl, hz, h0, h1, q⟩ := q
  obtain ⟨t, rfl⟩ := rx
  obtain ⟨t', rfl⟩ := ry
  have hl : sizeLine = 16777216 := sizeLine_eq
  exact tail_any (PySem.W.typeIs_bytes s2 z.toArray t) PySem.W.FB.slot_bytes_getitem.lookup (PySem.W.getItem_bytes (by omega) h0 h1 ⟨.int ((z.getD i.toNat 0).toNat : Nat), H2, I2.tok _, ⟨_, rfl⟩, q⟩) (hs _ _)

/-! ### scalar builtins, by CallR -/
theorem vals1 {x : V} {us : List Value} (r : Vals [x] us) : ∃ u, us = [u] ∧ RelV x u := by
  cases r with
  | cons r1 r2 => cases r2; exact ⟨_, rfl, r1⟩
theorem vals2 {x y : V} {us : List Value} (r : Vals [x, y] us) : ∃ u w', us = [u, w'] ∧ RelV x u ∧ RelV y w' := by
  cases r with
  | cons r1 r2 =>
    cases r2 with
    | cons r3 r4 => cases r4; exact ⟨_, _, rfl, r1, r3⟩
theorem call_abs : CallR X (.builtin "abs") (fun xs H Q => ∃ i, xs = [.int i] ∧ Q (.int (if i < 0 then -i else i)) H) := by
  intro pins s σ H xs us Q I r h
  obtain ⟨i, rfl, q⟩ := h
  obtain ⟨u, rfl, t, rfl⟩ := vals1 r
  exact call_abs_int fun u tk => ⟨.int (if i < 0 then -i else i), H, I.tok _, ⟨_, rfl⟩, q⟩
theorem call_max2 (hc : X.calm = true) : CallR X (.builtin "max") (fun xs H Q => ∃ i j, xs = [.int i, .int j] ∧ Q (.int (if j > i then j else i)) H) := by
  intro pins s σ H xs us Q I r h
  obtain ⟨i, j, rfl, q⟩ := h
  obtain ⟨u, w', rfl, ⟨t, rfl⟩, ⟨t', rfl⟩⟩ := vals2 r
  refine max_two_ints (I.ok.hd hc) fun h' tk k => ⟨_, H, I.kept k, ?_, q⟩
  by_cases hj : j > i
  · rw [if_pos hj, if_pos hj]; exact ⟨_, rfl⟩
  · rw [if_neg hj, if_neg hj]; exact ⟨_, rfl⟩
theorem call_min2 (hc : X.calm = true) : CallR X (.builtin "min") (fun xs H Q => ∃ i j, xs = [.int i, .int j] ∧ Q (.int (if j < i then j else i)) H) := by
  intro pins s σ H xs us Q I r h
  obtain ⟨i, j, rfl, q⟩ := h
  obtain ⟨u, w', rfl, ⟨t, rfl⟩, ⟨t', rfl⟩⟩ := vals2 r
  refine min_two_ints (I.ok.hd hc) fun h' tk k => ⟨_, H, I.kept k, ?_, q⟩
  by_cases hj : j < i
  · rw [if_pos hj, if_pos hj]; exact ⟨_, rfl⟩
  · rw [if_neg hj, if_neg hj]; exact ⟨_, rfl⟩
theorem call_int1 : CallR X (.type "int") (fun xs H Q => (∃ i, xs = [.int i] ∧ Q (.int i) H) ∨ ∃ k, xs = [.bl k] ∧ Q (.int (if k then 1 else 0)) H) := by
  intro pins s σ H xs us Q I r h
  rcases h with ⟨i, rfl, q⟩ | ⟨k, rfl, q⟩
  · obtain ⟨u, rfl, t, rfl⟩ := vals1 r
    exact call_int_int ⟨.int i, H, I, ⟨_, rfl⟩, q⟩
  · obtain ⟨u, rfl, r1⟩ := vals1 r
    cases r1
    exact call_int_bool ⟨.int (if k then 1 else 0), H, I.tok _, ⟨_, rfl⟩, q⟩
theorem call_bool1 : CallR X (.type "bool") (fun xs H Q => (∃ i, xs = [.int i] ∧ Q (.bl (i != 0)) H) ∨ ∃ k, xs = [.bl k] ∧ Q (.bl k) H) := by
  intro pins s σ H xs us Q I r h
  rcases h with ⟨i, rfl, q⟩ | ⟨k, rfl, q⟩
  · obtain ⟨u, rfl, t, rfl⟩ := vals1 r
    exact call_bool_int ⟨.bl (i != 0), H, I, rfl, q⟩
  · obtain ⟨u, rfl, r1⟩ := vals1 r
    cases r1
    exact call_bool_bool ⟨.bl k, H, I, rfl, q⟩
theorem call_str_int : CallR X (.type "str") (fun xs H Q => ∃ i, xs = [.int i] ∧ i.natAbs.log2 < 1920 ∧ Q (.str (toString i)) H) := by
  intro pins s σ H xs us Q I r h
  obtain ⟨i, rfl, hz, q⟩ := h
  obtain ⟨u, rfl, t, rfl⟩ := vals1 r
  exact PySem.P.str_of_int hz ⟨.str _, H, I.tok _, ⟨_, rfl⟩, q⟩
theorem call_ord : CallR X (.builtin "ord") (fun xs H Q => ∃ x, xs = [.str x] ∧ x.length = 1 ∧ Q (.int (x.cps.getD 0 0 : Nat)) H) := by
  intro pins s σ H xs us Q I r h
  obtain ⟨x, rfl, hz, q⟩ := h
  obtain ⟨u, rfl, t, rfl⟩ := vals1 r
  exact ord_of_one hz ⟨.int _, H, I.tok _, ⟨_, rfl⟩, q⟩
theorem call_chr : CallR X (.builtin "chr") (fun xs H Q => ∃ i, xs = [.int i] ∧ 0 ≤ i ∧ i ≤ 1114111 ∧ Q (.str ⟨#[i.toNat]⟩) H) := by
  intro pins s σ H xs us Q I r h
  obtain ⟨i, rfl, h0, h1, q⟩ := h
  obtain ⟨u, rfl, t, rfl⟩ := vals1 r
  exact chr_of_range h0 h1 ⟨.str _, H, I.tok _, ⟨_, rfl⟩, q⟩
/-- len of a str, a bytes, a list, a tuple -/
def LenV (K : PySem.W.Frag) (x : V) (H : Hp) (n : Nat) : Prop :=
  match x with
  | .str y => y.length ≤ sizeLine ∧ n = y.length
  | .byt y => y.size ≤ sizeLine ∧ n = y.size
  | .ref p => (∃ xs, SqL K H p xs ∧ n = xs.length) ∨ ∃ xs, SqT K H p xs ∧ n = xs.length
  | _ => False
theorem call_len : CallR X (.builtin "len") (fun xs H Q => ∃ x n, xs = [x] ∧ LenV X.K x H n ∧ Q (.int n) H) := by
  intro pins s σ H xs us Q I r h
  obtain ⟨x, n, rfl, e, q⟩ := h
  obtain ⟨u, rfl, rx⟩ := vals1 r
  have hl := line63
  have hs : sizeLine = 16777216 := sizeLine_eq
  cases x with
  | str y =>
    obtain ⟨t, rfl⟩ := rx
    obtain ⟨hy, e'⟩ : y.length ≤ sizeLine ∧ n = y.length := e
    subst e'
    exact len_str (by omega) ⟨.int _, H, I.tok _, ⟨_, rfl⟩, q⟩
  | byt y =>
    obtain ⟨t, rfl⟩ := rx
    obtain ⟨hy, e'⟩ : y.size ≤ sizeLine ∧ n = y.size := e
    subst e'
    exact PySem.W.len_bytes (by omega) ⟨.int _, H, I.tok _, ⟨_, rfl⟩, q⟩
  | ref p =>
    cases rx
    have e' : (∃ xs, SqL X.K H p xs ∧ n = xs.length) ∨ ∃ xs, SqT X.K H p xs ∧ n = xs.length := e
    rcases e' with ⟨xs, hx, e'⟩ | ⟨xs, hx, e'⟩
    · subst e'
      obtain ⟨its, r', pl, hz⟩ := I.list hx
      have hlen := r'.length
      exact Calls.call_len_list pl.isList (by simp only [List.size_toArray]; omega) ⟨.int xs.length, H, I.tok _, ⟨_, by simp only [List.size_toArray]; rw [hlen]⟩, q⟩
    · subst e'
      obtain ⟨its, r', pl, hz⟩ := I.tuple hx
      have hlen := r'.length
      exact len_tuple pl (by simp only [List.size_toArray]; omega) ⟨.int xs.length, H, I.tok _, ⟨_, by simp only [List.size_toArray]; rw [hlen]⟩, q⟩
  | _ => exact (show False from e).elim
/-- divmod: a new tuple -/
theorem call_divmod : CallR X (.builtin "divmod") (fun xs H Q => ∃ i j, xs = [.int i, .int j] ∧ CDiv i j ∧ ∀ p, H p = none → Q (.ref p) (upd H p (.tup [.int (i / j), .int (i % j)]))) := by
  intro pins s σ H xs us Q I r h
  obtain ⟨i, j, rfl, ⟨h1, h2⟩, q⟩ := h
  obtain ⟨u, w', rfl, ⟨t, rfl⟩, ⟨t', rfl⟩⟩ := vals2 r
  refine divmod_int (by omega) ?_ (.inl (PyProof.noPylong_small (by omega)))
  rw [Int.fdiv_eq_ediv_of_nonneg i (by omega), Int.fmod_eq_emod_of_nonneg i (by omega)]
  have hn : H s.heap.objs.size = none := I.hok.fresh (Nat.le_refl _)
  refine ⟨.ref s.heap.objs.size, _, ?_, rfl, q _ hn⟩
  refine I.laid (fun b o e => Heap.get?_push_of_some _ e) (Nat.le_refl _) ⟨by simp only [List.length_cons, List.length_nil]; rw [sizeLine_eq]; decide, [.int (i / j) s.toks, .int (i % j) (s.toks + 1)], .cons ⟨_, rfl⟩ (.cons ⟨_, rfl⟩ .nil), ?_⟩
  exact ⟨_, Heap.get?_push_size s.heap rfl, rfl, 0, rfl⟩
end
end L2

namespace L2
open PySem PySem.Spec PyProof.Rows

/-! ### an instance, its attributes a map -/
structure ObjM (h : Heap) (x dx C : Addr) (mA : Str → Option Value) : Prop where
  obj : h.get? x = some (PySem.W.instObj C dx)
  ns : h.Ns1 dx mA
  ne : dx ≠ x

theorem lookIn_ns {h : Heap} {dx : Addr} {mA : Str → Option Value} (n : h.Ns1 dx mA) : ∃ od, h.get? dx = some od ∧ ∀ name, PySem.W.lookIn name od = some (mA name) := by
  obtain ⟨o, es, ep, ho, hd, hk, _, hm⟩ := n
  refine ⟨o, ho, fun name => ?_⟩
  have e := hm name
  unfold nsFind findBy at e
  rw [← Array.find?_toList] at e
  unfold PySem.W.lookIn
  rw [hd]
  dsimp only
  split
  · rename_i y q
    rw [q] at e
    exact congrArg some e
  · rename_i q
    rw [q] at e
    have a : es.toList.any (·.refKey) = false := by
      rw [List.any_eq_false]
      intro y hy
      obtain ⟨z, t, hkey⟩ := hk y (Array.mem_toList_iff.mp hy)
      simp [DictEntry.refKey, hkey]
    have a' : ¬ es.toList.any (·.refKey) = true := by rw [a]; exact Bool.false_ne_true
    rw [if_neg a']
    exact congrArg some e

theorem ObjM.look {h : Heap} {x dx C : Addr} {mA : Str → Option Value} (I : ObjM h x dx C mA) : ∃ od, PySem.W.InstAt h x (PySem.W.instObj C dx) C (some od) ∧ ∀ name, PySem.W.lookIn name od = some (mA name) :=
  let ⟨od, ho, hl⟩ := lookIn_ns I.ns
  ⟨od, ⟨I.obj, rfl, rfl, ho⟩, hl⟩

section
variable {prog : Program} {w : World} {A : Around} {E : Value → Shared → Prop} {s : Shared} {K : PySem.W.Frag} {x dx C f : Addr} {mA : Str → Option Value} {name : Str} {v : Value}

theorem get_map {expr : Bool} {Q : Value → Shared → Prop} (X : K.In s.heap) (I : ObjM s.heap x dx C mA) (hg : PySem.W.plainGet K C name = true) (hh : PySem.W.hasDictIn K C = true)
    (ha : PySem.W.findIn K (.ref C) name = some none) (hv : mA name = some v) (hv' : PySem.W.handedIn v = true) (h : Q v { s with toks := s.toks + 1 }) :
    wpAny (model prog w) A (getAttr (.ref x) name expr) Q E s := by
  obtain ⟨od, J, hl⟩ := I.look
  exact PySem.W.get_value X J (PySem.W.plainGet_of hg).1 (PySem.W.findObj_own hh ha rfl (by rw [hl, hv])) hv' h

theorem get_const {expr : Bool} {a : Value} {Q : Value → Shared → Prop} (X : K.In s.heap) (I : ObjM s.heap x dx C mA) (hg : PySem.W.plainGet K C name = true) (hh : PySem.W.hasDictIn K C = true)
    (ha : PySem.W.findIn K (.ref C) name = some (some a)) (hn : PySem.W.specialIn K a "__get__" = some none) (hc : PySem.W.copiedNames.contains name = false) (hv : mA name = none) (hv' : PySem.W.handedIn a = true)
    (h : Q a { s with toks := s.toks + 1 }) : wpAny (model prog w) A (getAttr (.ref x) name expr) Q E s := by
  obtain ⟨od, J, hl⟩ := I.look
  exact PySem.W.get_value X J (PySem.W.plainGet_of hg).1 (PySem.W.findObj_cls hh ha hn hv' hc (by rw [hl, hv])) hv' h

theorem get_meth {pl : Sem Bool} {Q : Value × List Value → Shared → Prop} (X : K.In s.heap) (I : ObjM s.heap x dx C mA) (hg : PySem.W.plainGet K C name = true)
    (hf : PySem.W.findIn K (.ref C) name = some (some (.ref f))) (ht : PySem.W.isFn K (.ref f) = true) (hv : mA name = none) (h : Q (.ref f, [.ref x]) s) :
    wpAny (model prog w) A (getMethod (.ref x) name pl) Q E s := by
  obtain ⟨od, J, hl⟩ := I.look
  exact PySem.W.method_fn X J (PySem.W.plainGet_of hg).1 (PySem.W.plainGet_of hg).2 hf (beq_iff_eq.mp ht) (by show (PySem.W.lookIn name od).map (·.isSome) = some false; rw [hl, hv]; rfl) h

theorem set_map {ns : List Str} {Q : Unit → Shared → Prop} (X : K.In s.heap) (I : ObjM s.heap x dx C mA)
    (hs : PySem.W.findIn K (.ref C) "__setattr__" = some (some (.builtin "object.__setattr__"))) (hp : PySem.W.plainOver K C = true) (ht : PySem.W.takerIn K C name = some none) (hh : PySem.W.hasDictIn K C = true)
    (hw : PySem.Within mA ns) (hsz : ns.length ≤ sizeLine)
    (h : ∀ h', ObjM h' x dx C (fun y => if y = name then some v else mA y) → Heap.SameBut dx s.heap h' → Q () { s with heap := h', toks := s.toks + 2 }) :
    wpAny (model prog w) A (setAttr (.ref x) name v) Q E s := by
  obtain ⟨od, J, hl⟩ := I.look
  refine PySem.W.set_plain X J hs (PySem.W.osa_open (s := { s with toks := s.toks + 1 }) (r := none) X J hp ht fun b => ?_)
  obtain ⟨cd, hc, hd'⟩ := PySem.W.any_some hh
  have hx : s.heap.get? x = some ⟨.ref C, some dx, .plain, #[]⟩ := I.obj
  refine wpAny_bind (wpAny_pure (wpAny_bind (wpAny_bind (wpAny_loadPart hx (wpAny_bind (PySem.W.Looks.here (s := { s with toks := s.toks + 1 }) (PySem.W.looks_clsIn X hc) ?_))))))
  rw [hd']
  refine wpAny_pure (a := some dx) (wpAny_bind (wpAny_pure (wpAny_bind ?_)))
  refine wpAny_nsSet1 (s := { s with toks := s.toks + 1 }) I.ns fun h' hn2 hs2 => ?_
  obtain ⟨oD, esD, epD, hoD, hdD, hcD⟩ := hn2.count (PySem.Within.cons name v hw)
  refine wpAny_bind (wpAny_lookBehind hoD (by rw [hdD]; exact pastItsLine_dict (Nat.le_trans hcD (by rw [List.length_cons]; omega))) ?_)
  exact wpAny_pure (h _ ⟨(hs2.2 _ (Ne.symm I.ne)).trans I.obj, hn2, I.ne⟩ hs2)

/-- C(..): the dict at the heap's end, the instance behind it; then its __init__ -/
theorem make_map {R : Result → Shared → Prop} {vs : List Value} {kw : List (Str × Value)} (X : K.In s.heap) (hm : PySem.W.makesIn K C = true)
    (hi : PySem.W.findIn K (.ref C) "__init__" = some (some (.ref f))) (hf : PySem.W.typeIn K (.ref f) = some (.type "function"))
    (h : codeAny (model prog w) (A.under (.builtin "type.__call__" ⟨.ref C :: vs, kw⟩)) (.call (.ref f) ⟨.ref (s.heap.objs.size + 1) :: vs, kw⟩) (PySem.W.InitBack (s.heap.objs.size + 1) R)
      { s with heap := (s.heap.push PySem.W.emptyDict).push (PySem.W.instObj C s.heap.objs.size) }) :
    codeAny (model prog w) A (.call (.ref C) ⟨vs, kw⟩) R s := by
  obtain ⟨hh, g, d, t, os⟩ := s
  exact PySem.W.make_core (PySem.W.makes_of X hm) (PySem.W.looks_findIn X hi) (fun self => PySem.W.bind_fn X self hf) (.inl rfl) h
/-- C() where there is no __init__ but object's -/
theorem make_map0 {R : Result → Shared → Prop} (X : K.In s.heap) (hm : PySem.W.makesIn K C = true)
    (hi : PySem.W.findIn K (.ref C) "__init__" = some (some (.builtin "object.__init__")))
    (hb : ∀ self, PySem.W.Looks (model prog w) s.heap (bindSpecial (.builtin "object.__init__") self) (.builtin "object.__init__", [self]))
    (h : codeAny (model prog w) (A.under (.builtin "type.__call__" ⟨[.ref C], []⟩)) (.call (.builtin "object.__init__") ⟨[.ref (s.heap.objs.size + 1)], []⟩) (PySem.W.InitBack (s.heap.objs.size + 1) R)
      { s with heap := (s.heap.push PySem.W.emptyDict).push (PySem.W.instObj C s.heap.objs.size) }) :
    codeAny (model prog w) A (.call (.ref C) ⟨[], []⟩) R s := by
  obtain ⟨hh, g, d, t, os⟩ := s
  exact PySem.W.make_core (PySem.W.makes_of X hm) (PySem.W.looks_findIn X hi) hb (.inr ⟨rfl, rfl⟩) h
end

/-! ### the attributes as a list of pairs -/
def putF (f : Str) (v : V) : List (Str × V) → List (Str × V)
  | [] => [(f, v)]
  | (g, x) :: r => if g = f then (g, v) :: r else (g, x) :: putF f v r
theorem lookup_putF (f g : Str) (v : V) : ∀ fs : List (Str × V), (putF f v fs).lookup g = if g = f then some v else fs.lookup g
  | [] => by
    show List.lookup g [(f, v)] = _
    by_cases h : g = f
    · have hb : (g == f) = true := beq_iff_eq.mpr h
      simp only [List.lookup, hb, if_pos h]
    · have hb : (g == f) = false := beq_eq_false_iff_ne.mpr h
      simp only [List.lookup, hb, if_neg h]
  | (k, x) :: r => by
    have ih := lookup_putF f g v r
    rw [show putF f v ((k, x) :: r) = (if k = f then (k, v) :: r else (k, x) :: putF f v r) from rfl]
    by_cases hk : k = f
    · rw [if_pos hk]
      by_cases h : g = k
      · have hb : (g == k) = true := beq_iff_eq.mpr h
        simp only [List.lookup, hb, if_pos (h.trans hk)]
      · have hb : (g == k) = false := beq_eq_false_iff_ne.mpr h
        simp only [List.lookup, hb, if_neg (fun e : g = f => h (e.trans hk.symm))]
    · rw [if_neg hk]
      by_cases h : g = k
      · have hb : (g == k) = true := beq_iff_eq.mpr h
        simp only [List.lookup, hb, if_neg (fun e : g = f => hk (h.symm.trans e))]
      · have hb : (g == k) = false := beq_eq_false_iff_ne.mpr h
        simp only [List.lookup, hb]
        exact ih
theorem keys_putF (f : Str) (v : V) : ∀ fs : List (Str × V), f ∈ (putF f v fs).map (·.1) ∧ ∀ g, g ∈ fs.map (·.1) → g ∈ (putF f v fs).map (·.1)
  | [] => ⟨by simp [putF], fun g h => by simp at h⟩
  | (k, x) :: r => by
    obtain ⟨i1, i2⟩ := keys_putF f v r
    rw [show putF f v ((k, x) :: r) = (if k = f then (k, v) :: r else (k, x) :: putF f v r) from rfl]
    by_cases hk : k = f
    · rw [if_pos hk]
      subst hk
      exact ⟨by simp, fun g h => by simpa using h⟩
    · rw [if_neg hk]
      refine ⟨?_, fun g h => ?_⟩
      · rw [List.map_cons]
        exact List.mem_cons_of_mem _ i1
      · rw [List.map_cons] at h ⊢
        rcases List.mem_cons.mp h with e | e
        · exact List.mem_cons.mpr (.inl e)
        · exact List.mem_cons_of_mem _ (i2 g e)
theorem length_putF (f : Str) (v : V) : ∀ fs : List (Str × V), (putF f v fs).length ≤ fs.length + 1
  | [] => by simp [putF]
  | (k, x) :: r => by
    have ih := length_putF f v r
    rw [show putF f v ((k, x) :: r) = (if k = f then (k, v) :: r else (k, x) :: putF f v r) from rfl]
    by_cases hk : k = f
    · rw [if_pos hk, List.length_cons, List.length_cons]; omega
    · rw [if_neg hk, List.length_cons, List.length_cons]; omega

theorem RelO.some_of {v : V} {o : Option Value} (r : RelO (some v) o) : ∃ u, o = some u ∧ RelV v u := by
  cases o with
  | none => exact (show False from r).elim
  | some u => exact ⟨u, rfl, r⟩
theorem RelO.none_of {o : Option Value} (r : RelO none o) : o = none := by
  cases o with
  | none => rfl
  | some u => exact (show False from r).elim
theorem handed_of {v : V} {u : Value} (r : RelV v u) : PySem.W.handedIn u = true := by
  cases v with
  | non => cases (show u = Value.none from r); rfl
  | bl b => cases (show u = Value.bool b from r); rfl
  | int i => obtain ⟨t, e⟩ := (show ∃ t, u = Value.int i t from r); cases e; rfl
  | str x => obtain ⟨t, e⟩ := (show ∃ t, u = Value.str x t from r); cases e; rfl
  | byt b => obtain ⟨t, e⟩ := (show ∃ t, u = Value.bytes b t from r); cases e; rfl
  | flt b => obtain ⟨t, e⟩ := (show ∃ t, u = Value.float b t from r); cases e; rfl
  | ref a => cases (show u = Value.ref a from r); rfl
  | ty n => cases (show u = Value.type n from r); rfl

section
variable {P : Program} {w : World} {H H' : Hp} {h h' : Heap} {a C dx : Addr} {fs fs' : List (Str × V)}
theorem ins_get (hok : HOk P w H h) (e : H a = some (.ins C dx fs)) : ∃ mA, ObjM h a dx C mA ∧ (∀ f, RelO (fs.lookup f) (mA f)) ∧ PySem.Within mA (fs.map (·.1)) ∧ fs.length ≤ 1000 ∧ H dx = some (.own a) := by
  obtain ⟨d, z, ne, ob, mA, n, r, q⟩ := (show ObjOk P w H h a (.ins C dx fs) from hok a _ e)
  exact ⟨mA, ⟨ob, n, ne⟩, r, q, z, d⟩
end

/-! ### what of the text a class must have -/
structure Cls (K : PySem.W.Frag) (C : Addr) : Prop where
  pg : PySem.W.plainGet K C Str.empty = true
  hd : PySem.W.hasDictIn K C = true
  po : PySem.W.plainOver K C = true
  sa : PySem.W.findIn K (.ref C) "__setattr__" = some (some (.builtin "object.__setattr__"))
theorem Cls.get {K : PySem.W.Frag} {C : Addr} (c : Cls K C) (f : Str) : PySem.W.plainGet K C f = true := c.pg
/-- no class of it has the name -/
def NoAttr (K : PySem.W.Frag) (C : Addr) (f : Str) : Prop := PySem.W.findIn K (.ref C) f = some none
theorem NoAttr.taker {K : PySem.W.Frag} {C : Addr} {f : Str} (n : NoAttr K C f) : PySem.W.takerIn K C f = some none := by
  unfold PySem.W.takerIn
  rw [show PySem.W.findIn K (.ref C) f = some none from n]
  rfl
/-- a constant of the class -/
structure Con (K : PySem.W.Frag) (C : Addr) (f : Str) (v : V) (u : Value) : Prop where
  at_ : PySem.W.findIn K (.ref C) f = some (some u)
  rel : RelV v u
  get : PySem.W.specialIn K u "__get__" = some none
  cp : PySem.W.copiedNames.contains f = false
/-- a method: a plain def of the class or of one above it -/
structure Meth (K : PySem.W.Frag) (C : Addr) (m : Str) (f : Addr) : Prop where
  at_ : PySem.W.findIn K (.ref C) m = some (some (.ref f))
  fn : PySem.W.isFn K (.ref f) = true
  kp : PySem.W.keepIn K (.ref f) = true

section
variable {X : Cx} {pins : List (Addr × Obj)} {σ : St} {H : Hp} {s : Shared} {a C dx : Addr} {fs : List (Str × V)} {f : Str} {v : V} {A : Around} {E : Value → Shared → Prop}

theorem getattr_ok {b : Bool} {Q : Value → Shared → Prop} (I : Inv X pins σ H s) (e : H a = some (.ins C dx fs)) (c : Cls X.K C) (n : NoAttr X.K C f) (l : fs.lookup f = some v)
    (h : ∀ u s', Inv X pins σ H s' → RelV v u → Q u s') : wpAny (model X.prog X.w) A (getAttr (.ref a) f b) Q E s := by
  obtain ⟨mA, O, r, _, _, _⟩ := ins_get I.hok e
  obtain ⟨u, hu, ru⟩ := RelO.some_of (v := v) (o := mA f) (by rw [← l]; exact r f)
  exact get_map I.kIn O (c.get f) c.hd n hu (handed_of ru) (h u _ (I.tok _) ru)

theorem getcon_ok {b : Bool} {u : Value} {Q : Value → Shared → Prop} (I : Inv X pins σ H s) (e : H a = some (.ins C dx fs)) (c : Cls X.K C) (k : Con X.K C f v u) (l : fs.lookup f = none)
    (h : ∀ s', Inv X pins σ H s' → Q u s') : wpAny (model X.prog X.w) A (getAttr (.ref a) f b) Q E s := by
  obtain ⟨mA, O, r, _, _, _⟩ := ins_get I.hok e
  have hn : mA f = none := RelO.none_of (by rw [← l]; exact r f)
  exact get_const I.kIn O (c.get f) c.hd k.at_ k.get k.cp hn (handed_of k.rel) (h _ (I.tok _))

theorem getmeth_ok {m : Str} {g : Addr} {pl : Sem Bool} {Q : Value × List Value → Shared → Prop} (I : Inv X pins σ H s) (e : H a = some (.ins C dx fs)) (c : Cls X.K C) (k : Meth X.K C m g) (l : fs.lookup m = none)
    (h : Q (.ref g, [.ref a]) s) : wpAny (model X.prog X.w) A (getMethod (.ref a) m pl) Q E s := by
  obtain ⟨mA, O, r, _, _, _⟩ := ins_get I.hok e
  have hn : mA m = none := RelO.none_of (by rw [← l]; exact r m)
  exact get_meth I.kIn O (c.get m) k.at_ k.fn hn h

theorem setattr_ok {y : V} {u : Value} {Q : Unit → Shared → Prop} (I : Inv X pins σ H s) (e : H a = some (.ins C dx fs)) (c : Cls X.K C) (n : NoAttr X.K C f) (hl : fs.length < 1000) (ry : RelV y u)
    (h : ∀ s', Inv X pins σ (upd H a (.ins C dx (putF f y fs))) s' → Q () s') : wpAny (model X.prog X.w) A (setAttr (.ref a) f u) Q E s := by
  obtain ⟨mA, O, r, wi, _, ho⟩ := ins_get I.hok e
  have hz : (fs.map (·.1)).length ≤ sizeLine := by rw [List.length_map, sizeLine_eq]; omega
  refine set_map I.kIn O c.sa c.po n.taker c.hd wi hz fun h' O' sb => h _ ?_
  have hd : ∃ o, h'.get? dx = some o := let ⟨o, _, _, e', _⟩ := O'.ns; ⟨o, e'⟩
  refine I.write (x := a) (e := dx) (by rw [e]; exact True.intro) (.inr ho) (fun b q hb z => (sb.2 b hb).trans z) hd ?_
  refine ⟨by rw [upd_ne O.ne]; exact ho, ?_, O.ne, O'.obj, _, O'.ns, fun g => ?_, fun g hg => ?_⟩
  · have := length_putF f y fs; omega
  · show RelO ((putF f y fs).lookup g) (if g = f then some u else mA g)
    rw [lookup_putF]
    by_cases q : g = f
    · rw [if_pos q, if_pos q]; exact ry
    · rw [if_neg q, if_neg q]; exact r g
  · by_cases q : g = f
    · rw [q]; exact (keys_putF f y fs).1
    · refine (keys_putF f y fs).2 g (wi g fun z => hg ?_)
      show (if g = f then some u else mA g) = none
      rw [if_neg q]; exact z

/-- a new instance, tracked, without attributes -/
theorem Inv.made (I : Inv X pins σ H s) : Inv X pins σ (upd (upd H s.heap.objs.size (.own (s.heap.objs.size + 1))) (s.heap.objs.size + 1) (.ins C s.heap.objs.size []))
    { s with heap := (s.heap.push PySem.W.emptyDict).push (PySem.W.instObj C s.heap.objs.size) } := by
  have e1 : (s.heap.push PySem.W.emptyDict).get? s.heap.objs.size = some PySem.W.emptyDict := Heap.get?_push_size s.heap rfl
  have e2 : ((s.heap.push PySem.W.emptyDict).push (PySem.W.instObj C s.heap.objs.size)).get? (s.heap.objs.size + 1) = some (PySem.W.instObj C s.heap.objs.size) := by
    have := Heap.get?_push_size (s.heap.push PySem.W.emptyDict) (o := PySem.W.instObj C s.heap.objs.size) rfl
    rwa [Heap.size_push] at this
  have e3 : (s.heap.push PySem.W.emptyDict).Ns s.heap.objs.size (fun _ => none) := ⟨PySem.W.emptyDict, #[], _, e1, rfl, (fun e he => absurd he (by simp)), fun _ => rfl⟩
  have I1 := I.laid (a := s.heap.objs.size) (o := .own (s.heap.objs.size + 1)) (h' := s.heap.push PySem.W.emptyDict) (t' := s.toks) (fun b u q => Heap.get?_push_of_some _ q) (Nat.le_refl _) ⟨_, e1⟩
  refine I1.laid (a := s.heap.objs.size + 1) (o := .ins C s.heap.objs.size []) (t' := s.toks) (fun b u q => Heap.get?_push_of_some _ q) (Nat.le_of_eq (Heap.size_push _ _)) ?_
  have ne : s.heap.objs.size ≠ s.heap.objs.size + 1 := Nat.ne_of_lt (Nat.lt_succ_self _)
  refine ⟨by rw [upd_ne ne, upd_same], Nat.zero_le _, ne, e2, fun _ => none, (Heap.Ns1.of_empty e3).at fun o q => Heap.get?_push_of_some _ q, fun _ => True.intro, fun y hy => absurd rfl hy⟩

/-- e.f where nothing but the object is asked: through attributeBase (super) and the last hold -/
theorem attr_of {prog : Program} {w : World} {env : Env} {e : Expr} {f : Str} {pos : Pos} {s : Shared} {Q : Value → Shared → Prop} (hb : attributeBase e f env (eval e env) = eval e env)
    (h : wpAny (model prog w) A (eval e env) (fun o s₁ => wpAny (model prog w) A (getAttr o f true) Q E s₁) E s) : wpAny (model prog w) A (eval (.Attribute e f pos) env) Q E s :=
  Attribute_any_ h (by rw [arm_eval_Attribute, hb])
end

/-! ### readings and rules -/
/-- e.f, an attribute of the instance -/
def tFld (K : PySem.W.Frag) (ta : TE) (f : Str) : TE := fun σ H Q => ta σ H fun x H1 => ∃ a C dx fs v, x = .ref a ∧ H1 a = some (.ins C dx fs) ∧ Cls K C ∧ NoAttr K C f ∧ fs.lookup f = some v ∧ Q v H1
/-- e.f, a constant of the class -/
def tCon (K : PySem.W.Frag) (ta : TE) (f : Str) : TE := fun σ H Q => ta σ H fun x H1 => ∃ a C dx fs v u, x = .ref a ∧ H1 a = some (.ins C dx fs) ∧ Cls K C ∧ Con K C f v u ∧ fs.lookup f = none ∧ Q v H1
/-- e.f = value -/
def sFld (K : PySem.W.Frag) (ta tv : TE) (f : Str) : TS := fun D σ H => tv σ H fun y H1 => ta σ H1 fun x H2 => ∃ a C dx fs, x = .ref a ∧ H2 a = some (.ins C dx fs) ∧ Cls K C ∧ NoAttr K C f ∧ fs.length < 1000 ∧
  D.nx σ (upd H2 a (.ins C dx (putF f y fs)))
/-- an augmented operator on two values -/
def InOp (X : Cx) (op : Operator) (rd : V → V → Hp → VK → Prop) : Prop :=
  ∀ (pins : List (Addr × Obj)) (s : Shared) (σ : St) (H : Hp) (x y : V) (u v : Value) (Q : VK), Inv X pins σ H s → RelV x u → RelV y v → rd x y H Q → wpAny (model X.prog X.w) X.A (inplaceOp op u v) (EP X pins σ Q) X.xe s
/-- e.f op= value -/
def sFldAug (K : PySem.W.Frag) (ta tv : TE) (rd : V → V → Hp → VK → Prop) (f : Str) : TS := fun D σ H => ta σ H fun x H1 => ∃ a C dx fs v, x = .ref a ∧ H1 a = some (.ins C dx fs) ∧ Cls K C ∧ NoAttr K C f ∧ fs.lookup f = some v ∧
  tv σ H1 fun y H2 => rd v y H2 fun z H3 => ∃ dx' fs', H3 a = some (.ins C dx' fs') ∧ fs'.length < 1000 ∧ D.nx σ (upd H3 a (.ins C dx' (putF f z fs')))

section
variable {X : Cx} {o e value : Expr} {f : Str} {pos pos' tpos : Pos} {ta tv : TE}
theorem pe_fld (he : PE X e ta) (hb : attributeBase e f X.env (eval e X.env) = eval e X.env) : PE X (.Attribute e f pos) (tFld X.K ta f) := by
  intro pins s σ H Q I h
  refine attr_of hb (thn (he pins s σ H _ I h) fun u s1 ⟨x, H1, I1, rx, a, C, dx, fs, v, ex, ea, c, n, l, q⟩ => ?_)
  subst ex
  obtain rfl : u = Value.ref a := rx
  exact getattr_ok I1 ea c n l fun u' s2 I2 ru => ⟨v, H1, I2, ru, q⟩
theorem pe_con (he : PE X e ta) (hb : attributeBase e f X.env (eval e X.env) = eval e X.env) : PE X (.Attribute e f pos) (tCon X.K ta f) := by
  intro pins s σ H Q I h
  refine attr_of hb (thn (he pins s σ H _ I h) fun u s1 ⟨x, H1, I1, rx, a, C, dx, fs, v, u0, ex, ea, c, k, l, q⟩ => ?_)
  subst ex
  obtain rfl : u = Value.ref a := rx
  exact getcon_ok I1 ea c k l fun s2 I2 => ⟨v, H1, I2, k.rel, q⟩
theorem ps_fld (ha : PE X o ta) (hv : PE X value tv) (hs : swapsWith value (some (.Attribute o f pos')) pos.line X.env = pure false) : PS X (.Assign [.Attribute o f pos'] value pos) (sFld X.K ta tv f) := by
  intro pins s σ H D I h
  refine plainObj_wpAny_Assign_Attribute (thn (hv pins s σ H _ I h) fun u s1 ⟨y, H1, I1, ry, q⟩ => thn (ha pins s1 σ H1 _ I1 q) fun ov s2 ⟨x, H2, I2, rx, a, C, dx, fs, ex, ea, c, n, l, q2⟩ => ?_) hs
  subst ex
  obtain rfl : ov = Value.ref a := rx
  exact setattr_ok I2 ea c n l ry fun s3 I3 => ⟨σ, _, I3, q2⟩
theorem ps_fldaug {op : Operator} {rd : V → V → Hp → VK → Prop} (ha : PE X o ta) (hv : PE X value tv) (hop : InOp X op rd) : PS X (.AugAssign (.Attribute o f tpos) op value pos) (sFldAug X.K ta tv rd f) := by
  intro pins s σ H D I h
  refine wpAny_AugAssign_AttributeAny (thn (ha pins s σ H _ I h) fun ov s1 ⟨x, H1, I1, rx, a, C, dx, fs, v, ex, ea, c, n, l, q⟩ => ?_)
  subst ex
  obtain rfl : ov = Value.ref a := rx
  refine getattr_ok I1 ea c n l fun u s2 I2 ru => thn (hv pins s2 σ H1 _ I2 q) fun w3 s3 ⟨y, H2, I3, ry, q3⟩ => thn (hop pins s3 σ H2 v y u w3 _ I3 ru ry q3) fun w4 s4 ⟨z, H3, I4, rz, dx', fs', ea', l', q4⟩ => ?_
  exact setattr_ok I4 ea' c n l' rz fun s5 I5 => ⟨σ, _, I5, q4⟩
def rAdd : V → V → Hp → VK → Prop := fun x y H Q => ∃ i j, x = .int i ∧ y = .int j ∧ Q (.int (i + j)) H
def rSub : V → V → Hp → VK → Prop := fun x y H Q => ∃ i j, x = .int i ∧ y = .int j ∧ Q (.int (i - j)) H
theorem in_add : InOp X .Add rAdd := by
  rintro pins s σ H x y u v Q I rx ry ⟨i, j, rfl, rfl, q⟩
  obtain ⟨t, rfl⟩ := (show ∃ t, u = Value.int i t from rx)
  obtain ⟨t', rfl⟩ := (show ∃ t', v = Value.int j t' from ry)
  exact PyProof.Rows.iadd_int ⟨.int (i + j), H, I.tok _, ⟨_, rfl⟩, q⟩
theorem in_sub : InOp X .Sub rSub := by
  rintro pins s σ H x y u v Q I rx ry ⟨i, j, rfl, rfl, q⟩
  obtain ⟨t, rfl⟩ := (show ∃ t, u = Value.int i t from rx)
  obtain ⟨t', rfl⟩ := (show ∃ t', v = Value.int j t' from ry)
  exact PyProof.Rows.isub_int ⟨.int (i - j), H, I.tok _, ⟨_, rfl⟩, q⟩

/-- what is between an instance and its method: the tree of a method call -/
theorem methcall_of {pl : Sem Bool} {m : Str} {apos : Pos} {args : List Expr} {pins : List (Addr × Obj)} {s : Shared} {σ : St} {H : Hp} {Q : Value → Shared → Prop} {te : TE} (he : PE X e te) (I : Inv X pins σ H s)
    (h : te σ H fun x H1 => ∃ a C dx fs g, x = .ref a ∧ H1 a = some (.ins C dx fs) ∧ Cls X.K C ∧ Meth X.K C m g ∧ fs.lookup m = none ∧
      ∀ s1, Inv X pins σ H1 s1 → wpAny (model X.prog X.w) X.A (callWith pos (.ref g) [.ref a] (backTo pos (starEach args X.env)) (backToKw pos (keywordEach [] X.env))) Q X.xe s1)
    (ht : eval (.Call (.Attribute e m apos) args [] pos) X.env = (do
      let ov ← eval e X.env
      standAt apos.atName
      let (f, first) ← holding [ov] (getMethod ov m pl)
      callWith pos f first (backTo pos (starEach args X.env)) (backToKw pos (keywordEach [] X.env)))) :
    wpAny (model X.prog X.w) X.A (eval (.Call (.Attribute e m apos) args [] pos) X.env) Q X.xe s := by
  refine PySem.W.methodCall_KW (pl := pl) (thn (he pins s σ H _ I h) fun u s1 ⟨x, H1, I1, rx, a, C, dx, fs, g, ex, ea, c, k, l, q⟩ => ?_) ht
  subst ex
  obtain rfl : u = Value.ref a := rx
  exact getmeth_ok I1 ea c k l (q s1 I1)
end

/-! ### isinstance -/
section
variable {X : Cx} {pins : List (Addr × Obj)} {σ : St} {H : Hp} {s : Shared} {A : Around} {E : Value → Shared → Prop} {Q : Value → Shared → Prop} {c : Value} {b : Bool}
/-- the type of a value, as the fragment's deciders take it; for an instance its class -/
inductive TyOf (K : PySem.W.Frag) (H : Hp) : V → Value → Prop where
  | non : TyOf K H .non (.type "NoneType")
  | bl (x : Bool) : TyOf K H (.bl x) (.type "bool")
  | int (i : Int) : TyOf K H (.int i) (.type "int")
  | str (x : Str) : TyOf K H (.str x) (.type "str")
  | flt (x : UInt64) : TyOf K H (.flt x) (.type "float")
  | lst {a : Addr} {xs : List V} (e : H a = some (.lst xs)) : TyOf K H (.ref a) (.type "list")
  | frz {a : Addr} {o : Obj} {xs : List V} (e : H a = some (.frz o (.lst xs))) : TyOf K H (.ref a) (.type "list")
  | tup {a : Addr} {xs : List V} (e : H a = some (.tup xs)) : TyOf K H (.ref a) (.type "tuple")
  | dK {a : Addr} {kvs : List (Key × V)} (e : H a = some (.dK kvs)) : TyOf K H (.ref a) (.type "dict")
  | dT {a : Addr} {kvs : List (List Key × V)} (e : H a = some (.dT kvs)) : TyOf K H (.ref a) (.type "dict")
  | ins {a C dx : Addr} {fs : List (Str × V)} (e : H a = some (.ins C dx fs)) (cl : Cls K C) (ha : PySem.W.findIn K (.ref C) "__class__" = some (some (.builtin "object.__class__")))
      (hn : PySem.W.specialIn K (.builtin "object.__class__") "__get__" = some (some (.builtin "getset_descriptor.__get__"))) (htk : PySem.W.takesIn K (.builtin "object.__class__") = some true)
      (hm : PySem.W.mroIn K C (.type "object") = some true) : TyOf K H (.ref a) (.ref C)
/-- isinstance(x, c) for one class c, a built-in or an own one: kitOne's answer -/
theorem isinst_ok {x : V} {u t : Value} (I : Inv X pins σ H s) (rx : RelV x u) (ty : TyOf X.K H x t) (e : PySem.W.kitOne X.K t c = some b) (h : ∀ tk, Q (.bool b) { s with toks := tk }) :
    wpAny (model X.prog X.w) A (call (.builtin "isinstance") [u, c]) Q E s := by
  cases ty with
  | non => cases (show u = Value.none from rx); exact PySem.W.kia_one PySem.W.kitx_none I.kIn True.intro e (fun z => nomatch z) h
  | bl y => cases (show u = Value.bool y from rx); exact PySem.W.kia_one PySem.W.kitx_bool I.kIn True.intro e (fun z => nomatch z) h
  | int i => obtain ⟨t, q⟩ := (show ∃ t, u = Value.int i t from rx); cases q; exact PySem.W.kia_one PySem.W.kitx_int I.kIn True.intro e (fun z => nomatch z) h
  | str y => obtain ⟨t, q⟩ := (show ∃ t, u = Value.str y t from rx); cases q; exact PySem.W.kia_one PySem.W.kitx_str I.kIn True.intro e (fun z => nomatch z) h
  | flt y => obtain ⟨t, q⟩ := (show ∃ t, u = Value.float y t from rx); cases q; exact PySem.W.kia_one PySem.W.kitx_float I.kIn True.intro e (fun z => nomatch z) h
  | @lst a xs ea =>
    cases (show u = Value.ref a from rx)
    obtain ⟨_, _, n, _, h1⟩ := (show ObjOk X.prog X.w H s.heap a (.lst xs) from I.hok a _ ea)
    exact PySem.W.kia_one PySem.W.kitx_list I.kIn ⟨_, h1, rfl⟩ e (fun z => nomatch z) h
  | @frz a ob xs ea =>
    cases (show u = Value.ref a from rx)
    obtain ⟨_, _, _, n, _, h1⟩ := (show ObjOk X.prog X.w H s.heap a (.frz ob (.lst xs)) from I.hok a _ ea)
    exact PySem.W.kia_one PySem.W.kitx_list I.kIn ⟨_, h1, rfl⟩ e (fun z => nomatch z) h
  | @tup a xs ea =>
    cases (show u = Value.ref a from rx)
    obtain ⟨_, _, _, p⟩ := (show ObjOk X.prog X.w H s.heap a (.tup xs) from I.hok a _ ea)
    obtain ⟨o, h1, h2, _⟩ := p
    exact PySem.W.kia_one PySem.W.kitx_tuple I.kIn ⟨o, h1, h2⟩ e (fun z => nomatch z) h
  | @dK a kvs ea =>
    cases (show u = Value.ref a from rx)
    obtain ⟨_, _, vs, _, p⟩ := (show ObjOk X.prog X.w H s.heap a (.dK kvs) from I.hok a _ ea)
    obtain ⟨o, es, ep, h1, h2, _⟩ := p
    exact PySem.W.kia_one PySem.W.kitx_dict I.kIn ⟨o, h1, h2.1⟩ e (fun z => nomatch z) h
  | @dT a kvs ea =>
    cases (show u = Value.ref a from rx)
    obtain ⟨_, _, xs, _, o, es, ep, h1, h2, _⟩ := (show ObjOk X.prog X.w H s.heap a (.dT kvs) from I.hok a _ ea)
    exact PySem.W.kia_one PySem.W.kitx_dict I.kIn ⟨o, h1, h2.1⟩ e (fun z => nomatch z) h
  | @ins a C dx fs ea cl ha hn htk hm =>
    cases (show u = Value.ref a from rx)
    obtain ⟨mA, O, _⟩ := ins_get I.hok ea
    obtain ⟨od, J, _⟩ := O.look
    exact PySem.W.kia_one (PySem.W.kitx_own (cl.get _) cl.hd ha hn htk hm) I.kIn J e (fun z => nomatch z) h
end
end L2

namespace L2
open PySem PySem.Spec PyProof.Rows

/-! ### room -/
structure Room (k : Nat) (A : Around) : Prop where
  hd : A.handled = none
  dp : A.depth + 3 * k + 5 < recursionLimit
  un : A.units + 16 * k + 200 < cLine
theorem Room.mono {j k : Nat} {A : Around} (r : Room k A) (h : j ≤ k) : Room j A := ⟨r.hd, by have := r.dp; omega, by have := r.un; omega⟩
theorem Room.deeper {k : Nat} {A : Around} (r : Room (k + 1) A) (env : Env) : Room k (A.deeper env) :=
  ⟨r.hd, by have := r.dp; show A.depth + 1 + 3 * k + 5 < _; omega, by have := r.un; show A.units + 3 + 16 * k + 200 < _; omega⟩
theorem Room.in1 {k : Nat} {A : Around} (r : Room (k + 1) A) : Room k A.in1 :=
  ⟨r.hd, by have := r.dp; show A.depth + 3 * k + 5 < _; omega, by have := r.un; show A.units + 1 + 16 * k + 200 < _; omega⟩
theorem make_depth {A : Around} {C : Addr} {us : List Value} {kw : List (Str × Value)} : (A.under (.builtin "type.__call__" ⟨.ref C :: us, kw⟩)).depth = A.depth + 1 := by
  first | rfl | simp [Around.under, Code.weight, Code.isCreation, Code.isGuard, Code.isCaller, Code.frames, Code.isFrame, guardIds]
theorem make_units {A : Around} {C : Addr} {us : List Value} {kw : List (Str × Value)} : (A.under (.builtin "type.__call__" ⟨.ref C :: us, kw⟩)).units = A.units + 1 := by
  first | rfl | simp [Around.under, Code.cUnits, Code.frames, Code.isFrame]
theorem Room.make {k : Nat} {A : Around} (r : Room (k + 1) A) (C : Addr) (us : List Value) (kw : List (Str × Value)) : Room k (A.under (.builtin "type.__call__" ⟨.ref C :: us, kw⟩)) :=
  ⟨r.hd, by have := r.dp; rw [make_depth]; omega, by have := r.un; rw [make_units]; omega⟩
theorem Room.depth {k : Nat} {A : Around} (r : Room k A) : A.depth < recursionLimit := by have := r.dp; omega
theorem Room.units {k : Nat} {A : Around} (r : Room k A) : A.units + 64 < cLine := by have := r.un; omega
theorem Room.units0 {k : Nat} {A : Around} (r : Room k A) : A.units < cLine := by have := r.un; omega

/-! ### argument lists and displays -/
def tNil : TA := fun _ H Q => Q [] H
def tCons (ta : TE) (tr : TA) : TA := fun σ H Q => ta σ H fun x H1 => tr σ H1 fun xs H2 => Q (x :: xs) H2
section
variable {X : Cx} {e : Expr} {es : List Expr} {te : TE} {t : TA} {pos : Pos}
theorem pa_nil : PA X [] tNil := fun _ _ _ _ H Q I h => Calls.spliced_nil ⟨[], H, I, .nil, h⟩
theorem pa_cons (ha : PE X e te) (hr : PA X es t) (hs : starEach (e :: es) X.env = (false, eval e X.env) :: starEach es X.env := by rfl) : PA X (e :: es) (tCons te t) := by
  intro pos pins s σ H Q I h
  rw [hs]
  show wpAny _ _ (spliced ((false, eval e X.env) :: backTo pos (starEach es X.env))) _ _ s
  refine Calls.spliced_cons (thn (ha pins s σ H _ I h) fun u s1 ⟨x, H1, I1, r1, q1⟩ => ?_)
  exact thn (hr pos pins s1 σ H1 _ I1 q1) fun us s2 ⟨xs, H2, I2, r2, q2⟩ => ⟨x :: xs, H2, I2, .cons r1 r2, q2⟩

/-- a tuple, a list of written items -/
def tTup (t : TA) : TE := fun σ H Q => t σ H fun xs H1 => xs.length ≤ sizeLine ∧ ∀ p, H1 p = none → Q (.ref p) (upd H1 p (.tup xs))
def tLst (t : TA) : TE := fun σ H Q => t σ H fun xs H1 => xs.length ≤ sizeLine ∧ ∀ p, H1 p = none → Q (.ref p) (upd H1 p (.lst xs))
theorem pe_tup {x1} (h : PA X es t) : PE X (.Tuple es x1 pos) (tTup t) := by
  intro pins s σ H Q I hq
  refine wpAny_Tuple_spliced (thn (h pos pins s σ H _ I hq) fun us s1 ⟨xs, H1, I1, r, z, q⟩ => ⟨by rw [← r.length]; exact z, ?_⟩)
  have hf : H1 s1.heap.objs.size = none := I1.hok.fresh (Nat.le_refl _)
  refine ⟨.ref s1.heap.objs.size, upd H1 s1.heap.objs.size (.tup xs), I1.laid (t' := s1.toks) (fun b u e => Heap.get?_push_of_some _ e) (Nat.le_refl _) ?_, rfl, q _ hf⟩
  exact ⟨z, us, r, ⟨_, Heap.get?_push_size _ rfl, rfl, _, rfl⟩⟩
theorem pe_lst (h : PA X es t) : PE X (.List es pos) (tLst t) := by
  intro pins s σ H Q I hq
  refine wpAny_List_spliced (thn (h pos pins s σ H _ I hq) fun us s1 ⟨xs, H1, I1, r, z, q⟩ => ⟨by rw [← r.length]; exact z, ?_⟩)
  have hf : H1 s1.heap.objs.size = none := I1.hok.fresh (Nat.le_refl _)
  refine ⟨.ref s1.heap.objs.size, upd H1 s1.heap.objs.size (.lst xs), I1.laid (t' := s1.toks) (fun b u e => Heap.get?_push_of_some _ e) (Nat.le_refl _) ?_, rfl, q _ hf⟩
  exact ⟨z, us, 0, r, Heap.get?_push_size _ rfl⟩
end

/-! ### what a def promises -/
/-- a def's promise: the bound arguments in the parameters' order, the heap, the wanted end, the wanted exception -/
abbrev Sp := List V → Hp → VK → XK → Prop
/-- how an exception lies behind a call (file 08 gives it): the callers' frames, abstract heap and state ahead of the call, the wish, the exception, the state -/
abbrev CXT := List Env → Hp → Shared → XK → Value → Shared → Prop

/-- the state at a call -/
structure Env0 (P : Program) (w : World) (K : PySem.W.Frag) (mg : Str → Option Value) (base : Heap) (A : Around) (outer : List Env) (s : Shared) (H : Hp) : Prop where
  frames : A.frames = some outer
  mod : Mod K mg base
  bs : ∀ b o, base.get? b = some o → s.heap.get? b = some o ∧ H b = none
  bsz : base.objs.size ≤ s.heap.objs.size
  funs : s.heap.FunFrames base outer
  frf : ∀ b ∈ frs outer, H b = none
  hok : HOk P w H s.heap
  bare : AllBare s.gens
/-- a call's end -/
def CE (outer : List Env) (P : Program) (w : World) (H : Hp) (s : Shared) (Q : VK) (u : Value) (s' : Shared) : Prop :=
  ∃ v H', s'.os = s.os ∧ AllBare s'.gens ∧ Un (frs outer) [] H H' s.heap s'.heap ∧ HOk P w H' s'.heap ∧ RelV v u ∧ Q v H'
def CR (CX : CXT) (outer : List Env) (P : Program) (w : World) (H : Hp) (s : Shared) (Q : VK) (E : XK) (r : Result) (s' : Shared) : Prop :=
  match r with
  | .ok (.ret u) => CE outer P w H s Q u s'
  | .ok _ => False
  | .error e => CX outer H s E e s'
structure FnOk (P : Program) (w : World) (K : PySem.W.Frag) (mg : Str → Option Value) (base : Heap) (CX : CXT) (k : Nat) (f : Addr) (fd : FuncData) (ps : List Str) (sp : Sp) : Prop where
  len : ∀ vs H Q E, sp vs H Q E → vs.length = ps.length
  run : ∀ (A : Around) (outer : List Env) (s : Shared) (H : Hp) (args : Args) (us : List Value) (vs : List V) (Q : VK) (E : XK), Room k A → Env0 P w K mg base A outer s H → BindsTo s fd args (ps.zip us) → Vals vs us → sp vs H Q E →
    codeAny (model P w) A (.call (.ref f) args) (CR CX outer P w H s Q E) s
theorem FnOk.mono {P : Program} {w : World} {K : PySem.W.Frag} {mg : Str → Option Value} {base : Heap} {CX : CXT} {j k : Nat} {f : Addr} {fd : FuncData} {ps : List Str} {sp : Sp} (F : FnOk P w K mg base CX j f fd ps sp) (h : j ≤ k) :
    FnOk P w K mg base CX k f fd ps sp := ⟨F.len, fun A outer s H args us vs Q E hr => F.run A outer s H args us vs Q E (hr.mono h)⟩
/-- a weaker promise -/
theorem FnOk.imp {P : Program} {w : World} {K : PySem.W.Frag} {mg : Str → Option Value} {base : Heap} {CX : CXT} {k : Nat} {f : Addr} {fd : FuncData} {ps : List Str} {sp sp' : Sp} (F : FnOk P w K mg base CX k f fd ps sp)
    (h : ∀ vs H Q E, sp' vs H Q E → sp vs H Q E) : FnOk P w K mg base CX k f fd ps sp' :=
  ⟨fun vs H Q E q => F.len vs H Q E (h _ _ _ _ q), fun A outer s H args us vs Q E hr he hb hv hs => F.run A outer s H args us vs Q E hr he hb hv (h _ _ _ _ hs)⟩

theorem Env0.make {P : Program} {w : World} {K : PySem.W.Frag} {mg : Str → Option Value} {base : Heap} {A : Around} {outer : List Env} {s : Shared} {H : Hp} (e : Env0 P w K mg base A outer s H) (C : Addr) (us : List Value) (kw : List (Str × Value)) :
    Env0 P w K mg base (A.under (.builtin "type.__call__" ⟨.ref C :: us, kw⟩)) outer s H := ⟨by first | exact e.frames | (simpa [Around.under, Code.envs, Code.isFrame, pushEnvs] using e.frames), e.mod, e.bs, e.bsz, e.funs, e.frf, e.hok, e.bare⟩
theorem Env0.in1 {P : Program} {w : World} {K : PySem.W.Frag} {mg : Str → Option Value} {base : Heap} {A : Around} {outer : List Env} {s : Shared} {H : Hp} (e : Env0 P w K mg base A outer s H) :
    Env0 P w K mg base A.in1 outer s H := ⟨e.frames, e.mod, e.bs, e.bsz, e.funs, e.frf, e.hok, e.bare⟩

section
variable {X : Cx} {pins : List (Addr × Obj)} {σ : St} {H : Hp} {s s' : Shared}
/-- from a body: what a callee wants -/
theorem Inv.env0 (I : Inv X pins σ H s) : Env0 X.prog X.w X.K X.mg X.base X.A X.stack s H :=
  ⟨I.ok.frames, I.ok.mod, I.bs, Nat.le_trans I.ok.bsz I.sz, I.stack, I.stkFree, I.hok, I.bare⟩
/-- behind a call -/
theorem Inv.after {Q : VK} {u : Value} (I : Inv X pins σ H s) (h : CE X.stack X.prog X.w H s Q u s') : EP X pins σ Q u s' := by
  obtain ⟨v, H', os, bare, un, hok, r, q⟩ := h
  obtain ⟨hh, g, d, t, os'⟩ := s'
  obtain rfl : os' = s.os := os
  exact ⟨v, H', I.call (h' := hh) (g' := g) (d' := d) (t' := t) (ch := []) un hok bare (fun b z => absurd z (by simp)), r, q⟩
end

/-! ### calls -/
/-- f(..): the written arguments, then the defaults dvs; E: what is wanted of an exception -/
def tCall (sp : Sp) (dvs : List V) (E : XK) (t : TA) : TE := fun σ H Q => t σ H fun vs H1 => sp (vs ++ dvs) H1 Q E
/-- o.m(..) of an instance of the class at C -/
def tMeth (C : Addr) (m : Str) (sp : Sp) (dvs : List V) (E : XK) (ta : TE) (t : TA) : TE := fun σ H Q => ta σ H fun x H1 => ∃ a dx fs, x = .ref a ∧ H1 a = some (.ins C dx fs) ∧ fs.lookup m = none ∧
  t σ H1 fun vs H2 => sp (x :: (vs ++ dvs)) H2 Q E
/-- C(..): a new instance and its dict, then __init__ -/
def tMake (C : Addr) (sp : Sp) (dvs : List V) (E : XK) (t : TA) : TE := fun σ H Q => t σ H fun vs H1 => ∀ x dx, H1 x = none → H1 dx = none → dx ≠ x →
  sp (.ref x :: (vs ++ dvs)) (upd (upd H1 dx (.own x)) x (.ins C dx [])) (fun v H2 => v = .non ∧ Q (.ref x) H2) E

/-- how the parameters are bound: us the positional arguments, kw the keywords' values by name, ds the defaults that fill up -/
def Binds (K : PySem.W.Frag) (fd : FuncData) (ps : List Str) (ds : List Value) : Prop :=
  ∀ (s : Shared) (us : List Value), K.In s.heap → (us ++ ds).length = ps.length → BindsTo s fd ⟨us, []⟩ (ps.zip (us ++ ds))
/-- every parameter is given -/
theorem Binds.all {K : PySem.W.Frag} {fd : FuncData} {ps : List Str} (h : ∀ us : List Value, us.length = ps.length → bindArgs fd ⟨us, []⟩ = pure (ps.zip us)) : Binds K fd ps [] := fun s us _ hl => by
  rw [List.append_nil] at hl ⊢
  exact .of_eq (h us hl)

/-- an exception of a callee reaches what this body wants of exceptions -/
def Passes (CX : CXT) (X : Cx) (E : XK) : Prop := ∀ (pins : List (Addr × Obj)) (σ : St) (H : Hp) (s : Shared) (e : Value) (s' : Shared), Inv X pins σ H s → CX X.stack H s E e s' → X.xe e s'

section
variable {X : Cx} {CX : CXT} {k : Nat} {f C : Addr} {fd : FuncData} {ps : List Str} {sp : Sp} {dvs : List V} {ds : List Value} {E : XK} {x m : Str} {p pos apos : Pos} {e o : Expr} {es : List Expr} {ta : TE} {t : TA}

/-- the callee runs -/
theorem run_fn {pins : List (Addr × Obj)} {σ : St} {H : Hp} {s : Shared} {Q : VK} {us : List Value} {vs : List V} (F : FnOk X.prog X.w X.K X.mg X.base CX k f fd ps sp) (hr : Room k X.A) (hb : Binds X.K fd ps ds) (hd : Vals dvs ds) (hx : Passes CX X E)
    (I : Inv X pins σ H s) (r : Vals vs us) (h : sp (vs ++ dvs) H Q E) : wpAny (model X.prog X.w) X.A (call (.ref f) us) (EP X pins σ Q) X.xe s := by
  have r2 : Vals (vs ++ dvs) (us ++ ds) := r.append hd
  have hl : (us ++ ds).length = ps.length := by rw [← r2.length]; exact F.len _ _ _ _ h
  refine wpAny_call (codeAny_mono (F.run X.A X.stack s H ⟨us, []⟩ (us ++ ds) (vs ++ dvs) Q E hr I.env0 (hb s us I.kIn hl) r2 h) fun r s' hq => ?_)
  cases r with
  | error e => exact hx pins σ H s e s' I hq
  | ok fl =>
    cases fl with
    | ret u => exact I.after hq
    | next => exact False.elim hq
    | brk => exact False.elim hq
    | cont => exact False.elim hq

theorem pe_call (F : FnOk X.prog X.w X.K X.mg X.base CX k f fd ps sp) (hr : Room k X.A) (hg : Gl X x) (hm : X.mg x = some (.ref f)) (hk : PySem.W.keepIn X.K (.ref f) = true) (hb : Binds X.K fd ps ds) (hd : Vals dvs ds) (hx : Passes CX X E)
    (ha : PA X (e :: es) t) (hdb : (x == ("__debug__" : Str)) = false := by decide) (he : starEach (e :: es) X.env = (false, eval e X.env) :: starEach es X.env := by rfl) (hpl : (backTo pos (starEach es X.env)).any (·.1) = false := by rfl) :
    PE X (.Call (.Name x p) (e :: es) [] pos) (tCall sp dvs E t) := by
  intro pins s σ H Q I h
  refine wpAny_Call_Name_kw (ld_glob I hg hm ?_ hdb)
  refine PySem.W.callWith_K (h₀ := X.base) I.ok.mod.kin hk (thn (ha pos pins s σ H _ I h) fun us s1 ⟨vs, H1, I1, r, q⟩ => ⟨I1.kIn, ?_⟩) he hpl
  exact run_fn F hr hb hd hx I1 r q
theorem pe_call0 (F : FnOk X.prog X.w X.K X.mg X.base CX k f fd ps sp) (hr : Room k X.A) (hg : Gl X x) (hm : X.mg x = some (.ref f)) (hk : PySem.W.keepIn X.K (.ref f) = true) (hb : Binds X.K fd ps ds) (hd : Vals dvs ds) (hx : Passes CX X E)
    (hdb : (x == ("__debug__" : Str)) = false := by decide) : PE X (.Call (.Name x p) [] [] pos) (tCall sp dvs E tNil) := by
  intro pins s σ H Q I h
  refine wpAny_Call_Name_kw (ld_glob I hg hm ?_ hdb)
  exact PySem.W.callWith_K0 I.kIn hk (run_fn (us := []) F hr hb hd hx I .nil h)

/-- o.m(e, ..) -/
theorem pe_meth {pl : Sem Bool} (he : PE X o ta) (c : Cls X.K C) (hm : Meth X.K C m f) (F : FnOk X.prog X.w X.K X.mg X.base CX k f fd ps sp) (hr : Room k X.A) (hb : Binds X.K fd ps ds) (hd : Vals dvs ds) (hx : Passes CX X E) (ha : PA X (e :: es) t)
    (hst : starEach (e :: es) X.env = (false, eval e X.env) :: starEach es X.env := by rfl) (hpl : (backTo pos (starEach es X.env)).any (·.1) = false := by rfl)
    (ht : eval (.Call (.Attribute o m apos) (e :: es) [] pos) X.env = (do
      let ov ← eval o X.env
      standAt apos.atName
      let (f, first) ← holding [ov] (getMethod ov m pl)
      callWith pos f first (backTo pos (starEach (e :: es) X.env)) (backToKw pos (keywordEach [] X.env))) := by rfl) :
    PE X (.Call (.Attribute o m apos) (e :: es) [] pos) (tMeth C m sp dvs E ta t) := by
  intro pins s σ H Q I h
  refine PySem.W.methodCall_KW (pl := pl) (thn (he pins s σ H _ I h) fun u s1 ⟨x, H1, I1, rx, a, dx, fs, ex, ea, l, q⟩ => ?_) ht
  subst ex
  obtain rfl : u = Value.ref a := rx
  refine getmeth_ok I1 ea c hm l ?_
  refine PySem.W.callWith_K (first := [.ref a]) (h₀ := X.base) I.ok.mod.kin hm.kp (thn (ha pos pins s1 σ H1 _ I1 q) fun us s2 ⟨vs, H2, I2, r, q2⟩ => ⟨I2.kIn, ?_⟩) hst hpl
  exact run_fn (us := .ref a :: us) (vs := .ref a :: vs) F hr hb hd hx I2 (.cons rfl r) q2
/-- o.m() -/
theorem pe_meth0 {pl : Sem Bool} (he : PE X o ta) (c : Cls X.K C) (hm : Meth X.K C m f) (F : FnOk X.prog X.w X.K X.mg X.base CX k f fd ps sp) (hr : Room k X.A) (hb : Binds X.K fd ps ds) (hd : Vals dvs ds) (hx : Passes CX X E)
    (ht : eval (.Call (.Attribute o m apos) [] [] pos) X.env = (do
      let ov ← eval o X.env
      standAt apos.atName
      let (f, first) ← holding [ov] (getMethod ov m pl)
      callWith pos f first (backTo pos (starEach [] X.env)) (backToKw pos (keywordEach [] X.env))) := by rfl) :
    PE X (.Call (.Attribute o m apos) [] [] pos) (tMeth C m sp dvs E ta tNil) := by
  intro pins s σ H Q I h
  refine PySem.W.methodCall_KW (pl := pl) (thn (he pins s σ H _ I h) fun u s1 ⟨x, H1, I1, rx, a, dx, fs, ex, ea, l, q⟩ => ?_) ht
  subst ex
  obtain rfl : u = Value.ref a := rx
  refine getmeth_ok I1 ea c hm l ?_
  exact PySem.W.callWith_K0 (first := [.ref a]) I1.kIn hm.kp (run_fn (us := [.ref a]) (vs := [.ref a]) F hr hb hd hx I1 (.cons rfl .nil) q)

/-- what a class must have to be made -/
structure Mk (K : PySem.W.Frag) (C f : Addr) : Prop where
  makes : PySem.W.makesIn K C = true
  init : PySem.W.findIn K (.ref C) "__init__" = some (some (.ref f))
  fn : PySem.W.isFn K (.ref f) = true
  kp : PySem.W.keepIn K (.ref C) = true

theorem run_make {pins : List (Addr × Obj)} {σ : St} {H : Hp} {s : Shared} {Q : VK} {us : List Value} {vs : List V} (M : Mk X.K C f) (F : FnOk X.prog X.w X.K X.mg X.base CX k f fd ps sp) (hr : Room (k + 1) X.A) (hb : Binds X.K fd ps ds) (hd : Vals dvs ds)
    (hx : Passes CX X E) (I : Inv X pins σ H s) (r : Vals vs us)
    (h : ∀ x dx, H x = none → H dx = none → dx ≠ x → sp (.ref x :: (vs ++ dvs)) (upd (upd H dx (.own x)) x (.ins C dx [])) (fun v H2 => v = .non ∧ Q (.ref x) H2) E) :
    wpAny (model X.prog X.w) X.A (call (.ref C) us) (EP X pins σ Q) X.xe s := by
  have hq := h (s.heap.objs.size + 1) s.heap.objs.size (I.hok.fresh (Nat.le_succ _)) (I.hok.fresh (Nat.le_refl _)) (Nat.ne_of_lt (Nat.lt_succ_self _))
  have I2 := Inv.made (C := C) I
  have r2 : Vals (V.ref (s.heap.objs.size + 1) :: (vs ++ dvs)) (Value.ref (s.heap.objs.size + 1) :: (us ++ ds)) := .cons rfl (r.append hd)
  have hl : (Value.ref (s.heap.objs.size + 1) :: us ++ ds).length = ps.length := by
    have e := r2.length
    rw [F.len _ _ _ _ hq] at e
    exact e.symm
  refine wpAny_call (make_map (f := f) I.kIn M.makes M.init (beq_iff_eq.mp M.fn) (codeAny_mono (F.run _ X.stack _ _ ⟨Value.ref (s.heap.objs.size + 1) :: us, []⟩ (Value.ref (s.heap.objs.size + 1) :: (us ++ ds)) _ _ E (hr.make C us [])
    (I2.env0.make C us []) (hb _ (Value.ref (s.heap.objs.size + 1) :: us) I2.kIn hl) r2 hq) fun r s' hq' => ?_))
  cases r with
  | error e => exact hx pins σ _ _ e s' I2 hq'
  | ok fl =>
    cases fl with
    | ret u =>
      obtain ⟨v, H', I3, rv, ev, q3⟩ := I2.after hq'
      subst ev
      exact ⟨rv, ⟨V.ref (s.heap.objs.size + 1), H', I3, rfl, q3⟩⟩
    | next => exact False.elim hq'
    | brk => exact False.elim hq'
    | cont => exact False.elim hq'
theorem pe_make (M : Mk X.K C f) (F : FnOk X.prog X.w X.K X.mg X.base CX k f fd ps sp) (hr : Room (k + 1) X.A) (hg : Gl X x) (hm : X.mg x = some (.ref C)) (hb : Binds X.K fd ps ds) (hd : Vals dvs ds) (hx : Passes CX X E)
    (ha : PA X (e :: es) t) (hdb : (x == ("__debug__" : Str)) = false := by decide) (he : starEach (e :: es) X.env = (false, eval e X.env) :: starEach es X.env := by rfl) (hpl : (backTo pos (starEach es X.env)).any (·.1) = false := by rfl) :
    PE X (.Call (.Name x p) (e :: es) [] pos) (tMake C sp dvs E t) := by
  intro pins s σ H Q I h
  refine wpAny_Call_Name_kw (ld_glob I hg hm ?_ hdb)
  refine PySem.W.callWith_K (h₀ := X.base) I.ok.mod.kin M.kp (thn (ha pos pins s σ H _ I h) fun us s1 ⟨vs, H1, I1, r, q⟩ => ⟨I1.kIn, ?_⟩) he hpl
  exact run_make M F hr hb hd hx I1 r q
theorem pe_make0 (M : Mk X.K C f) (F : FnOk X.prog X.w X.K X.mg X.base CX k f fd ps sp) (hr : Room (k + 1) X.A) (hg : Gl X x) (hm : X.mg x = some (.ref C)) (hb : Binds X.K fd ps ds) (hd : Vals dvs ds) (hx : Passes CX X E)
    (hdb : (x == ("__debug__" : Str)) = false := by decide) : PE X (.Call (.Name x p) [] [] pos) (tMake C sp dvs E tNil) := by
  intro pins s σ H Q I h
  refine wpAny_Call_Name_kw (ld_glob I hg hm ?_ hdb)
  exact PySem.W.callWith_K0 I.kIn M.kp (run_make (us := []) M F hr hb hd hx I .nil h)
end

/-! ### keywords -/
/-- the values of the keywords, from the left -/
def PK (X : Cx) (kws : List Keyword) (t : TA) : Prop :=
  ∀ (pos : Pos) (pins : List (Addr × Obj)) (s : Shared) (σ : St) (H : Hp) (Q : List V → Hp → Prop), Inv X pins σ H s → t σ H Q → wpAny (model X.prog X.w) X.A (evalAll ((backToKw pos (keywordEach kws X.env)).map (·.2))) (AP X pins σ Q) X.xe s
section
variable {X : Cx} {CX : CXT} {k : Nat} {f C : Addr} {fd : FuncData} {ps ks : List Str} {sp : Sp} {E : XK} {x m : Str} {p pos apos kpos : Pos} {e o : Expr} {es : List Expr} {kws : List Keyword} {te ta : TE} {t tk : TA} {nm : Option Str}
theorem pk_nil : PK X [] tNil := fun _ _ _ _ H Q I h => wpAny_evalAll_nil ⟨[], H, I, .nil, h⟩
theorem pk_cons (ha : PE X e te) (hr : PK X kws t) : PK X (⟨nm, e, kpos⟩ :: kws) (tCons te t) := by
  intro pos pins s σ H Q I h
  show wpAny _ _ (evalAll ((do let v ← eval e X.env; standAt pos; pure v) :: (backToKw pos (keywordEach kws X.env)).map (·.2))) _ _ s
  refine wpAny_evalAll_cons (wpAny_bind (thn (ha pins s σ H _ I h) fun u s1 ⟨x, H1, I1, r1, q1⟩ => wpAny_bind (wpAny_standAt (wpAny_pure ?_))))
  exact thn (hr pos pins s1 σ H1 _ I1 q1) fun us s2 ⟨xs, H2, I2, r2, q2⟩ => ⟨x :: xs, H2, I2, .cons r1 r2, q2⟩

/-- how a call with keywords binds: g puts the positional values us and the keywords' values ws (names ks) in the parameters' order, defaults among them -/
structure KBinds (K : PySem.W.Frag) (fd : FuncData) (ps ks : List Str) (g : List Value → List Value → List Value) (gV : List V → List V → List V) : Prop where
  to : ∀ (s : Shared) (us ws : List Value), K.In s.heap → (g us ws).length = ps.length → BindsTo s fd ⟨us, ks.zip ws⟩ (ps.zip (g us ws))
  rel : ∀ {vs : List V} {us : List Value} {zs : List V} {ws : List Value}, Vals vs us → Vals zs ws → Vals (gV vs zs) (g us ws)
def tCallK (sp : Sp) (gV : List V → List V → List V) (E : XK) (t tk : TA) : TE := fun σ H Q => t σ H fun vs H1 => tk σ H1 fun zs H2 => sp (gV vs zs) H2 Q E
variable {g : List Value → List Value → List Value} {gV : List V → List V → List V}
theorem run_fnk {pins : List (Addr × Obj)} {σ : St} {H : Hp} {s : Shared} {Q : VK} {us ws : List Value} {vs zs : List V} (F : FnOk X.prog X.w X.K X.mg X.base CX k f fd ps sp) (hr : Room k X.A) (hb : KBinds X.K fd ps ks g gV) (hx : Passes CX X E)
    (I : Inv X pins σ H s) (r : Vals vs us) (rz : Vals zs ws) (h : sp (gV vs zs) H Q E) : wpAny (model X.prog X.w) X.A (call (.ref f) us (ks.zip ws)) (EP X pins σ Q) X.xe s := by
  have r2 := hb.rel r rz
  have hl : (g us ws).length = ps.length := by rw [← r2.length]; exact F.len _ _ _ _ h
  refine wpAny_call (codeAny_mono (F.run X.A X.stack s H ⟨us, ks.zip ws⟩ (g us ws) (gV vs zs) Q E hr I.env0 (hb.to s us ws I.kIn hl) r2 h) fun r s' hq => ?_)
  cases r with
  | error e => exact hx pins σ H s e s' I hq
  | ok fl =>
    cases fl with
    | ret u => exact I.after hq
    | next => exact False.elim hq
    | brk => exact False.elim hq
    | cont => exact False.elim hq
/-- f(e, .., k = v, ..) -/
theorem pe_callK (F : FnOk X.prog X.w X.K X.mg X.base CX k f fd ps sp) (hr : Room k X.A) (hg : Gl X x) (hm : X.mg x = some (.ref f)) (hk : PySem.W.keepIn X.K (.ref f) = true) (hb : KBinds X.K fd ps ks g gV) (hx : Passes CX X E)
    (ha : PA X (e :: es) t) (hkw : PK X kws tk) (hall : (backToKw pos (keywordEach kws X.env)).all (·.1.isSome) = true := by rfl) (hks : (backToKw pos (keywordEach kws X.env)).filterMap (·.1) = ks := by rfl)
    (hdb : (x == ("__debug__" : Str)) = false := by decide) (he : starEach (e :: es) X.env = (false, eval e X.env) :: starEach es X.env := by rfl)
    (hpl : ((backTo pos (starEach (e :: es) X.env)).any (·.1) || (backToKw pos (keywordEach kws X.env)).any (·.1.isNone)) = false := by rfl) :
    PE X (.Call (.Name x p) (e :: es) kws pos) (tCallK sp gV E t tk) := by
  intro pins s σ H Q I h
  refine wpAny_Call_Name_kw (ld_glob I hg hm ?_ hdb)
  refine PySem.W.callWith_KW (h₀ := X.base) I.ok.mod.kin hk hall (thn (ha pos pins s σ H _ I h) fun us s1 ⟨vs, H1, I1, r, q⟩ => ?_) hpl he
  refine thn (hkw pos pins s1 σ H1 _ I1 q) fun ws s2 ⟨zs, H2, I2, rz, q2⟩ => ⟨I2.kIn, ?_⟩
  rw [hks]
  exact run_fnk F hr hb hx I2 r rz q2
end

/-! ### a def's body keeps its promise -/
/-- names: the parameters first -/
structure FnScope (N P : List Str) (sc : Scope) : Prop where
  kind : sc.kind = .function
  co : sc.isCoroutine = false
  gen : sc.isGenerator = false
  nd : N.Nodup
  pre : N.take P.length = P
  par : ∀ x ∈ P, sc.names.lookup x = some .local ∨ sc.names.lookup x = some .cell
  nofree : ∀ y ∈ sc.names, y.2 ≠ .free

theorem bindL_out {kindOf : Str → Option NameKind} {x : Str} : ∀ {binds : List (Str × Value)} {m : Str → Option Value}, (∀ v, (x, v) ∉ binds) → bindL kindOf binds m x = m x
  | [], _, _ => rfl
  | (n, v) :: r, m, h => by
    unfold bindL
    rw [bindL_out fun w hw => h w (List.mem_cons_of_mem _ hw)]
    split
    · have : x ≠ n := by rintro rfl; exact h v List.mem_cons_self
      simp [this]
    · rfl
theorem bindC_out {kindOf : Str → Option NameKind} {x : Str} : ∀ {binds : List (Str × Value)} {m : Str → Option Value}, (∀ v, (x, v) ∉ binds) → bindC kindOf binds m x = m x
  | [], _, _ => rfl
  | (n, v) :: r, m, h => by
    unfold bindC
    rw [bindC_out fun w hw => h w (List.mem_cons_of_mem _ hw)]
    split
    · rfl
    · have : x ≠ n := by rintro rfl; exact h v List.mem_cons_self
      simp [this]
theorem bindL_get {kindOf : Str → Option NameKind} {x : Str} {v : Value} : ∀ {P : List Str} {vs : List Value} {i : Nat} {m : Str → Option Value}, P.Nodup → P[i]? = some x → vs[i]? = some v → kindOf x = some .local →
    bindL kindOf (P.zip vs) m x = some v
  | [], _, _, _, _, h, _, _ => by simp at h
  | _ :: _, [], _, _, _, _, h, _ => by simp at h
  | p :: P, w :: vs, 0, m, nd, h1, h2, hk => by
    simp at h1 h2; subst h1; subst h2
    show bindL kindOf ((p, w) :: P.zip vs) m p = _
    unfold bindL
    rw [bindL_out fun v hv => (List.nodup_cons.mp nd).1 (List.of_mem_zip hv).1, if_pos hk]
    simp
  | p :: P, w :: vs, i + 1, m, nd, h1, h2, hk => by
    show bindL kindOf ((p, w) :: P.zip vs) m x = _
    unfold bindL
    exact bindL_get (i := i) (List.nodup_cons.mp nd).2 (by simpa using h1) (by simpa using h2) hk
theorem bindC_get {kindOf : Str → Option NameKind} {x : Str} {v : Value} : ∀ {P : List Str} {vs : List Value} {i : Nat} {m : Str → Option Value}, P.Nodup → P[i]? = some x → vs[i]? = some v → kindOf x ≠ some .local →
    bindC kindOf (P.zip vs) m x = some v
  | [], _, _, _, _, h, _, _ => by simp at h
  | _ :: _, [], _, _, _, _, h, _ => by simp at h
  | p :: P, w :: vs, 0, m, nd, h1, h2, hk => by
    simp at h1 h2; subst h1; subst h2
    show bindC kindOf ((p, w) :: P.zip vs) m p = _
    unfold bindC
    rw [bindC_out fun v hv => (List.nodup_cons.mp nd).1 (List.of_mem_zip hv).1, if_neg hk]
    simp
  | p :: P, w :: vs, i + 1, m, nd, h1, h2, hk => by
    show bindC kindOf ((p, w) :: P.zip vs) m x = _
    unfold bindC
    exact bindC_get (i := i) (List.nodup_cons.mp nd).2 (by simpa using h1) (by simpa using h2) hk

/-- the names' values at the entry -/
def start (N : List Str) (vs : List V) : St := vs.map some ++ List.replicate (N.length - vs.length) none

/-- the context of a def's body, at its entry; an exception leaves the frame, then lies as CX says -/
def cxOf (CX : CXT) (P : Program) (w : World) (K : PySem.W.Frag) (mg : Str → Option Value) (base : Heap) (N : List Str) (qual : Str) (scope : Scope) (f : Addr) (cd : Value) (A : Around) (outer : List Env) (s : Shared) (H : Hp) (E : XK) : Cx where
  prog := P
  w := w
  K := K
  mg := mg
  base := base
  A := A.deeper (envOfC qual scope s.heap.objs.size f cd)
  N := N
  s₀ := s
  H₀ := H
  env := envOfC qual scope s.heap.objs.size f cd
  outer := outer
  stack := envOfC qual scope s.heap.objs.size f cd :: outer
  ex := []
  calm := true
  fn := fun _ => true
  pn := []
  xe := fun e s' => wpAny (model P w) (A.deeper (envOfC qual scope s.heap.objs.size f cd)) (leaving (envOfC qual scope s.heap.objs.size f cd) e) (fun _ s'' => CX outer H s E e s'') (fun e' s'' => CX outer H s E e' s'') s'

theorem cell_has {sc : Scope} {n : Nat} {x : Str} (h : sc.names.lookup x = some .cell) : ∃ c, (cellsFrom n sc.names []).lookup x = some c := by
  have q := PySem.W.cellsFrom_some sc.names n [] (.inl h)
  exact Option.isSome_iff_exists.mp q

theorem inv_start {CX : CXT} {P : Program} {w : World} {K : PySem.W.Frag} {mg : Str → Option Value} {base : Heap} {N ps : List Str} {qual : Str} {scope : Scope} {f : Addr} {cd : Value} {A : Around} {outer : List Env} {s s1 : Shared} {H : Hp} {E : XK} {us : List Value} {vs : List V}
    (S : FnScope N ps scope) (hd : A.handled = none) (e0 : Env0 P w K mg base A outer s H) (hl : vs.length = ps.length) (r : Vals vs us)
    (x : InCallC s s.heap.objs.size (bindL (envOfC qual scope s.heap.objs.size f cd).kindOf (ps.zip us) fun _ => none) (cellsFrom (s.heap.objs.size + 1) scope.names []) (bindC (envOfC qual scope s.heap.objs.size f cd).kindOf (ps.zip us) fun _ => none) s1) :
    Inv (cxOf CX P w K mg base N qual scope f cd A outer s H E) [] (start N vs) H s1 := by
  have hpl : ps.length ≤ N.length := by have := congrArg List.length S.pre; rw [List.length_take] at this; omega
  obtain ⟨h1, tk, rfl, hk⟩ := x.done
  have noA : ∀ b : Addr, b ∉ (cxOf CX P w K mg base N qual scope f cd A outer s H E).ex := fun b z => absurd (show b ∈ ([] : List Addr) from z) (by simp)
  refine ⟨⟨e0.mod, S.kind, rfl, rfl, Nat.le_refl _, fun y z c h1 h2 => ?_, fun y hy => ?_, fun y c _ h => ?_, fun _ => hd, Around.frames_deeper e0.frames, .inr ⟨rfl, rfl⟩, fun b z => absurd z (noA b), e0.bs, e0.bsz, fun b _ _ => noA b, fun b z => absurd z (noA b), e0.funs, e0.frf⟩,
    rfl, e0.bare, Un.kept hk, ⟨_, x.toInCall.ns, fun i y v h1 h2 h3 => ?_⟩, fun y c h => ⟨_, x.cell y c h⟩, e0.hok.fresh (Nat.le_refl _), fun y c h => ?_, fun p hp => absurd (show p ∈ ([] : List (Addr × Obj)) from hp) (by simp), e0.hok.kept hk, ?_⟩
  · exact name_of_addr x.apart (PySem.mem_of_lookup h1) (PySem.mem_of_lookup h2)
  · have hy : scope.names.lookup y = some .cell ∨ scope.names.lookup y = some .free := hy
    rcases hy with hy | hy
    · exact cell_has hy
    · exact absurd rfl (S.nofree _ (PySem.mem_of_lookup hy))
  · exact Nat.le_of_lt (x.above y c (PySem.mem_of_lookup h))
  · have hi : i < vs.length := by
      unfold start at h2
      by_cases hi : i < vs.length
      · exact hi
      · rw [List.getElem?_append_right (by simpa using hi)] at h2
        rw [List.getElem?_replicate] at h2
        split at h2 <;> cases h2
    have ha : vs[i]? = some v := by
      unfold start at h2
      rw [List.getElem?_append_left (by simpa using hi), List.getElem?_map] at h2
      cases e : vs[i]? with
      | none => rw [e] at h2; cases h2
      | some a => rw [e] at h2; cases h2; rfl
    obtain ⟨u, hu, rv⟩ := r.get ha
    have hp : ps[i]? = some y := by
      rw [← S.pre, List.getElem?_take_of_lt (by omega)]; exact h1
    have ndP : ps.Nodup := by rw [← S.pre]; exact S.nd.sublist (List.take_sublist _ _)
    refine ⟨u, rv, ?_⟩
    rcases S.par y (List.mem_of_getElem? hp) with k | k
    · exact .inl ⟨k, bindL_get ndP hp hu k⟩
    · obtain ⟨c, e⟩ := cell_has (n := s.heap.objs.size + 1) k
      refine .inr ⟨.inl k, c, e, ?_⟩
      have q := x.cell y c e
      rw [bindC_get ndP hp hu (by show scope.names.lookup y ≠ _; rw [k]; decide)] at q
      exact q
  · exact e0.hok.fresh (Nat.le_of_lt (x.above y c (PySem.mem_of_lookup h)))
  · unfold start
    show _ = N.length
    rw [List.length_append, List.length_map, List.length_replicate]
    omega

/-- THE RULE: a def (or a method) of the text, by its body. The body's reading t is chosen for each entry; it is run at the parameters' values -/
theorem fn_of {CX : CXT} {P : Program} {w : World} {K : PySem.W.Frag} {mg : Str → Option Value} {base : Heap} {k : Nat} {f : Addr} {name qual : Str} {params : Arguments} {body : List Stmt} {scope : Scope} {dV kV doc pm cdv ct oc : Value} {an od : Option Addr}
    {osl : Array (Option Value)} {N ps : List Str} {sp : Sp} (lk : K.lookup f = some ⟨oc, od, .func (PySem.W.fnOf name qual params body scope dV kV doc pm an cdv ct), osl⟩) (hcd : PySem.W.codeIn K cdv qual = true) (S : FnScope N ps scope)
    (len : ∀ vs H Q E, sp vs H Q E → vs.length = ps.length)
    (hbody : ∀ (A : Around) (outer : List Env) (s : Shared) (H : Hp) (vs : List V) (Q : VK) (E : XK), Room k (A.deeper (envOfC qual scope s.heap.objs.size f cdv)) → sp vs H Q E →
      ∃ t, PSs (cxOf CX P w K mg base N qual scope f cdv A outer s H E) body t ∧ t { nx := fun _ H' => Q .non H', rt := Q } (start N vs) H) :
    FnOk P w K mg base CX (k + 1) f (PySem.W.fnOf name qual params body scope dV kV doc pm an cdv ct) ps sp := by
  refine ⟨len, fun A outer s H args us vs Q E hr e0 hb r hsp => ?_⟩
  have hl := len _ _ _ _ hsp
  have KX : K.In s.heap := e0.mod.kin.keeps fun b o e => (e0.bs b o e).1
  have lim : s.heap.NoLimit := e0.mod.nolimit.keeps fun b o e => (e0.bs b o e).1
  have hkind : ∀ y ∈ ps.zip us, scope.names.lookup y.1 = some .local ∨ (scope.names.lookup y.1 = some .cell ∧ ((cellsFrom (s.heap.objs.size + 1) scope.names []).lookup y.1).isSome = true) := fun ⟨n, v⟩ hy => by
    rcases S.par n (List.of_mem_zip hy).1 with q | q
    · exact .inl q
    · exact .inr ⟨q, PySem.W.cellsFrom_some _ _ _ (.inl q)⟩
  refine codeAny_call_function hr.depth (KX _ _ lk) rfl S.co S.gen rfl (PySem.W.codeRec_of KX hcd) (hb _ _ _ _ ?_)
  refine wpAny_newFunctionEnv_cells S.kind hkind fun env he s1 x => ?_
  subst he
  refine ⟨lim.keeps x.toInCall.keep, codeAny_func ?_⟩
  obtain ⟨t, ht, hq⟩ := hbody A outer s H vs Q E (hr.deeper _) hsp
  have I : Inv (cxOf CX P w K mg base N qual scope f cdv A outer s H E) [] (start N vs) H s1 := inv_start S hr.hd e0 hl r x
  refine wpAny_mono (ht [] s1 (start N vs) H _ I hq) (fun fl s' hs => ?_) fun e s' hs => hs
  have fin : ∀ {σ' : St} {H' : Hp} {v : V} {u : Value}, Inv (cxOf CX P w K mg base N qual scope f cdv A outer s H E) [] σ' H' s' → RelV v u → Q v H' → CE outer P w H s Q u s' :=
    fun {σ' H' v u} J rv q => ⟨v, H', J.os, J.bare, J.base, J.hok, rv, q⟩
  cases fl with
  | ret u =>
    obtain ⟨v, σ', H', J, rv, q⟩ := hs
    exact fin J rv q
  | next =>
    obtain ⟨σ', H', J, q⟩ := hs
    exact fin (v := V.non) (u := Value.none) J rfl q
  | brk =>
    obtain ⟨_, _, _, q⟩ := hs
    exact False.elim q
  | cont =>
    obtain ⟨_, _, _, q⟩ := hs
    exact False.elim q
end L2

namespace L2
open PySem PySem.Spec PyProof.Rows
section
variable {X : Cx} {x : Str} {p pos : Pos} {e : Expr} {es : List Expr} {t : TA} {id T : String} {r : List V → Hp → VK → Prop}

def tCB (r : List V → Hp → VK → Prop) (t : TA) : TE := fun σ H Q => t σ H fun vs H1 => r vs H1 Q
/-- f(e, ..), f a built-in function -/
theorem pe_callB (hc : CallR X (.builtin id) r) (hg : Gl X x) (hm : X.mg x = none) (hv : bootBuiltins x = some (.builtin id)) (ha : PA X (e :: es) t) (hn : x ≠ "__name__" := by decide) (hdb : (x == ("__debug__" : Str)) = false := by decide)
    (he : starEach (e :: es) X.env = (false, eval e X.env) :: starEach es X.env := by rfl) (hpl : (backTo pos (starEach es X.env)).any (·.1) = false := by rfl) : PE X (.Call (.Name x p) (e :: es) [] pos) (tCB r t) := by
  intro pins s σ H Q I h
  refine wpAny_Call_Name_kw (ld_blt I hg hm hv ?_ hn hdb)
  exact PyProof.Rows.callWith_builtin1 (thn (ha pos pins s σ H _ I h) fun us s1 ⟨vs, H1, I1, r1, q1⟩ => hc pins s1 σ H1 vs us Q I1 r1 q1) he hpl
/-- T(e, ..), T a built-in type -/
theorem pe_callTy (hc : CallR X (.type T) r) (hg : Gl X x) (hm : X.mg x = none) (hv : bootBuiltins x = some (.type T)) (ha : PA X (e :: es) t) (hn : x ≠ "__name__" := by decide) (hdb : (x == ("__debug__" : Str)) = false := by decide)
    (he : starEach (e :: es) X.env = (false, eval e X.env) :: starEach es X.env := by rfl) (hpl : (backTo pos (starEach es X.env)).any (·.1) = false := by rfl) : PE X (.Call (.Name x p) (e :: es) [] pos) (tCB r t) := by
  intro pins s σ H Q I h
  refine wpAny_Call_Name_kw (ld_blt I hg hm hv ?_ hn hdb)
  exact PyProof.Rows.callWith_type1 (thn (ha pos pins s σ H _ I h) fun us s1 ⟨vs, H1, I1, r1, q1⟩ => hc pins s1 σ H1 vs us Q I1 r1 q1) he hpl
/-- T() -/
theorem pe_callTy0 (hc : CallR X (.type T) r) (hg : Gl X x) (hm : X.mg x = none) (hv : bootBuiltins x = some (.type T)) (hn : x ≠ "__name__" := by decide) (hdb : (x == ("__debug__" : Str)) = false := by decide) :
    PE X (.Call (.Name x p) [] [] pos) (tCB r tNil) := by
  intro pins s σ H Q I h
  refine wpAny_Call_Name_kw (ld_blt I hg hm hv ?_ hn hdb)
  exact PyProof.Rows.callWith_type0 (hc pins s σ H [] [] Q I .nil h)
end
end L2

namespace HT
open PySem PyProof.Rows

/-- t < u of tuples of ints -/
def lexLt : List Int → List Int → Bool
  | [], [] => false
  | [], _ :: _ => true
  | _ :: _, [] => false
  | x :: xs, y :: ys => if x = y then lexLt xs ys else decide (x < y)
theorem lexLt_cons (x y : Int) (xs ys : List Int) : lexLt (x :: xs) (y :: ys) = if x = y then lexLt xs ys else decide (x < y) := rfl
theorem lexLt_nil_nil : lexLt [] [] = false := rfl
theorem lexLt_nil_cons (y : Int) (ys : List Int) : lexLt [] (y :: ys) = true := rfl
theorem lexLt_cons_nil (x : Int) (xs : List Int) : lexLt (x :: xs) [] = false := rfl

theorem eqAt_int (A : Around) (s : Shared) (a : Int) (t : Tok) (c : Int) (u : Tok) : ∃ e, SeqAt.EqAt A s (.int a t) (.int c u) e ∧ (e = true ↔ a = c) :=
  ⟨(a == c), SeqAt.EqAt.int_int a t c u, by simp⟩
theorem rcLt_int (A : Around) (s : Shared) (a : Int) (t : Tok) (c : Int) (u : Tok) (prog : Program) (w : World) (E : Value → Shared → Prop) (Q : Value → Shared → Prop) (h : Q (.bool (decide (a < c))) s) :
    wpAny (model prog w) A (richCompare .Lt (.int a t) (.int c u)) Q E s :=
  (PyProof.Rows.lt_int h : wpAny (model prog w) A (compareOp .Lt (.int a t) (.int c u)) Q E s)

section
open PySem.SeqAt
open PySem.AutoSeq1 (wpAny_loadPart')
open PySem.MeetsSeq PySem.MeetsSeq2 PySem.MeetsSeq3

theorem tuple_lt_ints (l b : Addr) (items items2 : Array Value) (n n2 : Nat) (dd dd2 : Option Addr) (sl sl2 : Array (Option Value)) (ns ms : List Int) (hi : IntsAre items.toList ns) (hj : IntsAre items2.toList ms) :
    Meets (Builtin.«tuple.__lt__» ⟨[.ref l, .ref b], []⟩)
      (fun _ R s => s.heap.get? l = some { cls := .type "tuple", dict := dd, data := .seq items n, slots := sl } ∧ s.heap.get? b = some { cls := .type "tuple", dict := dd2, data := .seq items2 n2, slots := sl2 } ∧
        R (.ok (.ret (.bool (lexLt ns ms)))) s) :=
  .of_wp fun prog w A R s h => by
    obtain ⟨hp, g, d, tk, os⟩ := s; obtain ⟨hl, hb, h⟩ := h
    have f2 := AutoSeq1.sub_tuple_tuple
    have z1 : items.size = ns.length := by rw [← hi.length]; simp
    have z2 : items2.size = ms.length := by rw [← hj.length]; simp
    wp_walk using wpAny_loadPart' hl, wpAny_loadPart' hb, wpAny_forIn_list _ (fun rest b s' => b.1 = none ∧ s' = ⟨hp, g, d, tk, os⟩ ∧ ∃ (vs ws : List Value) (ns' ms' : List Int), rest = vs.zip ws ∧
      IntsAre vs ns' ∧ IntsAre ws ms' ∧ ns'.length + items2.size = ms'.length + items.size ∧ R (.ok (.ret (.bool (lexLt ns' ms')))) ⟨hp, g, d, tk, os⟩) _
    case turn =>
      rintro ⟨y, x⟩ rest b s' ⟨hb', rfl, vs, ws, ns', ms', hz, hvi, hwi, hlen, hR⟩
      cases hvi with
      | nil => rw [List.zip_nil_left] at hz; cases hz
      | cons a t hvi' =>
        cases hwi with
        | nil => rw [List.zip_nil_right] at hz; cases hz
        | cons c u hwi' =>
          rw [List.zip_cons_cons] at hz
          injection hz with hyx hrest
          injection hyx with hy hx
          subst hy hx
          rw [lexLt_cons] at hR
          simp only [List.length_cons] at hlen
          obtain ⟨e, he, hiff⟩ := eqAt_int A.in1 ⟨hp, g, d, tk, os⟩ a t c u
          refine wpAny_bind (he prog w _ _ ?_)
          cases e with
          | true =>
            rw [if_pos (hiff.mp rfl)] at hR
            wp_walk
            exact ⟨rfl, rfl, _, _, _, _, hrest, hvi', hwi', by omega, hR⟩
          | false =>
            rw [if_neg (fun q => absurd (hiff.mpr q) Bool.false_ne_true)] at hR
            have hri := rcLt_int A.in1 ⟨hp, g, d, tk, os⟩ a t c u prog w
            wp_walk using hri
            exact ⟨_, rfl, by simpa using hR⟩
    case fin =>
      rintro ⟨b1, b2⟩ s' ⟨hb', rfl, vs, ws, ns', ms', hz, hvi, hwi, hlen, hR⟩
      simp only at hb'
      subst hb'
      have hv : lexLt ns' ms' = decide (items.size < items2.size) := by
        cases hvi with
        | nil =>
          cases hwi with
          | nil =>
            simp only [List.length_nil] at hlen
            rw [lexLt_nil_nil]
            exact (decide_eq_false (by omega)).symm
          | cons c u hw =>
            simp only [List.length_nil, List.length_cons] at hlen
            rw [lexLt_nil_cons]
            exact (decide_eq_true (by omega)).symm
        | cons a t hv =>
          cases hwi with
          | nil =>
            simp only [List.length_nil, List.length_cons] at hlen
            rw [lexLt_cons_nil]
            exact (decide_eq_false (by omega)).symm
          | cons c u hw =>
            rw [List.zip_cons_cons] at hz
            cases hz
      rw [hv] at hR
      wp_walk
      exact ⟨_, rfl, by simpa [Builtin.Tuple.tupleCompareSizes] using hR⟩
    case h =>
      exact ⟨rfl, rfl, items.toList, items2.toList, ns, ms, rfl, hi, hj, by omega, h⟩
end

section
variable {prog : Program} {w : World} {A : Around} {E : Value → Shared → Prop} {s : Shared}

theorem lt_tupInts {l b : Addr} {items items2 : Array Value} {ns ms : List Int} {Q : Value → Shared → Prop} (hl : IsTup s.heap l items) (hb : IsTup s.heap b items2) (hi : IntsAre items.toList ns) (hj : IntsAre items2.toList ms)
    (hu : A.units < cLine) (h : Q (.bool (lexLt ns ms)) s) : wpAny (model prog w) A (compareOp .Lt (.ref l) (.ref b)) Q E s := by
  obtain ⟨⟨cls, dd, data, sl⟩, ho, hc, n, hd⟩ := id hl
  obtain ⟨⟨cls2, dd2, data2, sl2⟩, ho2, hc2, n2, hd2⟩ := id hb
  simp only at hc hd hc2 hd2
  subst hc hd hc2 hd2
  exact richCompare_meets_room (op := .Lt) ⟨_, ho, rfl⟩ ⟨_, ho2, rfl⟩ PySem.F.slot_tuple_lt PySem.F.entry_tuple_lt (PySem.F.args_tuple_lt_2 _ _) (tuple_lt_ints l b items items2 n n2 dd dd2 sl sl2 ns ms hi hj)
    ⟨ho, ho2, show Value.bool (lexLt ns ms) ≠ Value.notImplemented ∧ Q (.bool (lexLt ns ms)) s from ⟨(fun x => nomatch x), h⟩⟩ hu

/-- t + u, t not empty -/
theorem cat_tup {t b : Addr} {vs ws : List Value} {Q : Value → Shared → Prop} (ht : IsTup s.heap t vs.toArray) (hb : IsTup s.heap b ws.toArray) (hv : vs ≠ [])
    (h1 : ws = [] → Q (.ref t) s) (h2 : ws ≠ [] → Q (.ref s.heap.objs.size) { s with heap := s.heap.push { cls := .type "tuple", data := .seq (vs ++ ws).toArray } })
    (hsz : vs.length + ws.length ≤ sizeLine) : wpAny (model prog w) A (binaryOp .Add (.ref t) (.ref b)) Q E s := by
  obtain ⟨⟨cls, dd, data, sl⟩, ho, hc, n, hd⟩ := id ht
  obtain ⟨⟨cls2, dd2, data2, sl2⟩, ho2, hc2, n2, hd2⟩ := id hb
  simp only at hc hd hc2 hd2
  subst hc hd hc2 hd2
  have e : vs.toArray ++ ws.toArray = (vs ++ ws).toArray := by simp
  by_cases hw : ws = []
  · exact concat_meets ⟨_, ho, rfl⟩ ⟨_, ho2, rfl⟩ noFill_tuple_add seq_tuple_add PySem.F.slot_tuple_add PySem.F.entry_tuple_add (PySem.F.args_tuple_add_2 _ _)
      (tuple_addW1 t b vs.toArray ws.toArray n n2 dd dd2 sl sl2 (by simpa using hv) (by simp [hw])) ⟨ho, ho2, h1 hw⟩
  · refine concat_meets ⟨_, ho, rfl⟩ ⟨_, ho2, rfl⟩ noFill_tuple_add seq_tuple_add PySem.F.slot_tuple_add PySem.F.entry_tuple_add (PySem.F.args_tuple_add_2 _ _)
      (tuple_addW2 t b vs.toArray ws.toArray n n2 dd dd2 sl sl2 (by simpa using hv) (by simpa using hw) (by rw [List.size_toArray, List.size_toArray]; exact hsz)) ⟨ho, ho2, ?_⟩
    rw [e]
    exact h2 hw

/-! ### t[a:b], not the whole -/
/-- a slice's bound as a place among n (d where it is left out) -/
def sIx (n d : Nat) : Option Int → Nat
  | none => d
  | some v => if v < 0 then (v + (n : Int)).toNat else min v.toNat n
theorem sIx_none (n d : Nat) : sIx n d none = d := rfl
theorem sIx_nat (n d k : Nat) : sIx n d (some (k : Int)) = min k n := by
  show (if (k : Int) < 0 then ((k : Int) + (n : Int)).toNat else min (k : Int).toNat n) = min k n
  rw [if_neg (by omega), Int.toNat_natCast]
theorem sIx_le (n d : Nat) (hd : d ≤ n) (o : Option Int) : sIx n d o ≤ n := by
  cases o with
  | none => exact hd
  | some v =>
    show (if v < 0 then (v + (n : Int)).toNat else min v.toNat n) ≤ n
    by_cases hv : v < 0
    · rw [if_pos hv]; omega
    · rw [if_neg hv]; exact Nat.min_le_right _ _
theorem clip_eq (v : Int) (n d : Nat) : (if v < 0 then max (v + (n : Int)) 0 else min v (n : Int)) = ((sIx n d (some v) : Nat) : Int) := by
  show (if v < 0 then max (v + (n : Int)) 0 else min v (n : Int)) = (((if v < 0 then (v + (n : Int)).toNat else min v.toNat n) : Nat) : Int)
  by_cases hv : v < 0
  · simp only [if_pos hv]; omega
  · simp only [if_neg hv]; omega
theorem adjust_gen (lo hi : Option Int) (n : Nat) : Builtin.Slice.sliceAdjust lo hi 1 (n : Int) = (((sIx n 0 lo : Nat) : Int), ((sIx n n hi : Nat) : Int)) := by
  have h1 : ¬ ((1 : Int) < 0) := by omega
  unfold Builtin.Slice.sliceAdjust
  simp only [h1, if_false]
  refine Prod.ext ?_ ?_
  · cases lo with
    | none => rfl
    | some v => exact clip_eq v n 0
  · cases hi with
    | none => rfl
    | some v => exact clip_eq v n n
theorem places_gen (i j : Nat) : Builtin.Slice.slicePlaces (i : Int) (j : Int) 1 = j - i := by
  unfold Builtin.Slice.slicePlaces
  have h1 : (1 : Int) > 0 := by omega
  simp only [h1, if_true, Int.ediv_one]
  split <;> omega
theorem slicePart_ {v : Value} {o : Option Int} {Q : Option Int → Shared → Prop} (p : IsPart v o) (h : Q o s) : wpAny (model prog w) A (Builtin.Slice.slicePartIndex v) Q E s := by
  cases p with
  | none => exact slicePart_none h
  | int i t => exact slicePart_int h
theorem sliceApplied_gen {sl : Addr} {vl vu : Value} {lo hi : Option Int} {n : Nat} {Q : Int × Int × Nat → Shared → Prop} (hs : s.heap.IsSliceOf sl vl vu .none) (pl : IsPart vl lo) (pu : IsPart vu hi)
    (h : Q (((sIx n 0 lo : Nat) : Int), 1, sIx n n hi - sIx n 0 lo) s) : wpAny (model prog w) A (Builtin.Slice.sliceApplied (.ref sl) (pure (n : Int))) Q E s := by
  obtain ⟨os, hos, hcs, hds⟩ := id hs
  unfold Builtin.Slice.sliceApplied Builtin.Slice.sliceFields
  refine wpAny_bind (wpAny_bind (wpAny_field hos hds (x := vl) rfl (wpAny_bind (wpAny_field hos hds (x := vu) rfl (wpAny_bind (wpAny_field hos hds (x := .none) rfl (wpAny_pure ?_)))))))
  refine wpAny_bind (slicePart_none ?_)
  show wpAny _ _ (if ((1 : Int) == 0) = true then _ else _) _ _ s
  rw [if_neg (by decide)]
  refine wpAny_bind (slicePart_ pl (wpAny_bind (slicePart_ pu (wpAny_bind (wpAny_pure ?_)))))
  show wpAny _ _ (match Builtin.Slice.sliceAdjust lo hi 1 (n : Int) with | (lo, hi) => pure (lo, (1 : Int), Builtin.Slice.slicePlaces lo hi 1)) _ _ s
  rw [adjust_gen lo hi n]
  show wpAny _ _ (pure (((sIx n 0 lo : Nat) : Int), (1 : Int), Builtin.Slice.slicePlaces ((sIx n 0 lo : Nat) : Int) ((sIx n n hi : Nat) : Int) 1)) _ _ s
  rw [places_gen]
  exact wpAny_pure h
theorem pick_gen (xs : Array Value) (i k : Nat) : ((List.range k).filterMap fun (m : Nat) => xs[((i : Int) + (m : Int) * 1).toNat]?).toArray = ((xs.toList.drop i).take k).toArray := by
  have e : (fun (m : Nat) => xs[((i : Int) + (m : Int) * 1).toNat]?) = fun m => xs[i + m]? := by
    funext m
    have : ((i : Int) + (m : Int) * 1).toNat = i + m := by omega
    rw [this]
  rw [e]
  have := pick_run xs i k
  rw [List.filterMap_map] at this
  have e2 : ((fun x => xs[x]?) ∘ fun x => i + x) = fun m => xs[i + m]? := rfl
  rw [e2] at this
  rw [this]

theorem getItem_tuple_cut {t sl : Addr} {items : Array Value} {vl vu : Value} {lo hi : Option Int} {Q : Value → Shared → Prop} (ht : IsTup s.heap t items) (hs : s.heap.IsSliceOf sl vl vu .none) (pl : IsPart vl lo) (pu : IsPart vu hi)
    (hw : ¬ (sIx items.size 0 lo = 0 ∧ sIx items.size items.size hi = items.size))
    (h : Q (.ref s.heap.objs.size) { s with heap := s.heap.push { cls := .type "tuple", data := .seq ((items.toList.drop (sIx items.size 0 lo)).take (sIx items.size items.size hi - sIx items.size 0 lo)).toArray } })
    (hsz : items.size ≤ sizeLine) : wpAny (model prog w) A (getItem (.ref t) (.ref sl)) Q E s := by
  have htake : sizeOk (.seq ((items.toList.drop (sIx items.size 0 lo)).take (sIx items.size items.size hi - sIx items.size 0 lo)).toArray) := by
    show ((items.toList.drop (sIx items.size 0 lo)).take (sIx items.size items.size hi - sIx items.size 0 lo)).toArray.size ≤ sizeLine
    rw [List.size_toArray, List.length_take, List.length_drop, Array.length_toList]
    omega
  have hj : sIx items.size items.size hi ≤ items.size := sIx_le _ _ (Nat.le_refl _) hi
  obtain ⟨os, hos, hcs, hds⟩ := id hs
  have hTs : s.TypeIs (.ref sl) "slice" := ⟨os, hos, hcs⟩
  unfold getItem
  try with_reducible refine wpAny_holding ?_
  first | refine wpAny_bind (wpAny_pure ?_) | skip
  refine wpAny_bind (wpAny_sequenceKey ht.typeIs (by decide) ?_)
  refine wpAny_bind (wpAny_callSpecial?_slot (name := Str.ofString "__getitem__") ht.typeIs PyProof.Rows.slot_tuple_getitem
    (wpAny_call_entry PyProof.Rows.slot_tuple_getitem ht.typeIs entry_tuple_getitem ?_ (args_tuple_getitem _ _)))
  show wpAny _ _ (Builtin.Tuple.tupleItemsOf (.ref t) >>= _) _ _ s
  refine wpAny_bind (tupleItemsOf_ ht ?_)
  refine wpAny_bind (wpAny_typeOf hTs ?_)
  rw [if_pos (by decide)]
  refine wpAny_bind (sliceApplied_gen hs pl pu ?_)
  have hno : ¬ ((((sIx items.size 0 lo : Nat) : Int) == 0 && (1 : Int) == 1 && (sIx items.size items.size hi - sIx items.size 0 lo) == items.size) = true) := by
    intro q
    rw [Bool.and_eq_true, Bool.and_eq_true] at q
    have q1 : ((sIx items.size 0 lo : Nat) : Int) = 0 := eq_of_beq q.1.1
    have q2 : sIx items.size items.size hi - sIx items.size 0 lo = items.size := eq_of_beq q.2
    exact hw ⟨by omega, by omega⟩
  show wpAny _ _ (if (((sIx items.size 0 lo : Nat) : Int) == 0 && (1 : Int) == 1 && (sIx items.size items.size hi - sIx items.size 0 lo) == items.size) = true then _ else _) _ _ s
  rw [if_neg hno, pick_gen]
  first
    | exact wpAny_bind (m := Builtin.Tuple.tupleExact _) (wpAny_newObj_type (wpAny_pure ⟨_, rfl, wpAny_pure h⟩) htake)
    | exact wpAny_bind (m := Builtin.Tuple.tupleExact _) (wpAny_newObj_type (wpAny_bind (wpAny_pure (wpAny_pure ⟨_, rfl, wpAny_pure h⟩))) htake)
    | exact wpAny_bind (wpAny_bind (m := Builtin.Tuple.tupleExact _) (wpAny_newObj_type (wpAny_pure (wpAny_pure ⟨_, rfl, wpAny_pure h⟩)) htake))
    | exact wpAny_bind (wpAny_bind (m := Builtin.Tuple.tupleExact _) (wpAny_newObj_type (wpAny_pure ⟨_, rfl, wpAny_pure h⟩) htake))
end
end HT

namespace L2
open PySem PySem.Spec PyProof.Rows

/-! ### the parts of a slice -/
abbrev TO := St → Hp → (Option Int → Hp → Prop) → Prop
/-- a slice's part (left out, or an int) -/
def PO (X : Cx) (e : Option Expr) (t : TO) : Prop :=
  ∀ (pins : List (Addr × Obj)) (s : Shared) (σ : St) (H : Hp) (Q : Option Int → Hp → Prop), Inv X pins σ H s → t σ H Q →
    wpAny (model X.prog X.w) X.A (evalPart e X.env) (fun u s' => ∃ o H', Inv X pins σ H' s' ∧ IsPart u o ∧ Q o H') X.xe s
def tNoPart : TO := fun _ H Q => Q none H
def tPart (t : TE) : TO := fun σ H Q => t σ H fun x H1 => ∃ i, x = .int i ∧ Q (some i) H1

theorem intsAre_of {ns : List Int} : ∀ {us : List Value}, Vals (ns.map V.int) us → IntsAre us ns := by
  induction ns with
  | nil => intro us r; rw [List.map_nil] at r; cases r; exact .nil
  | cons n ns ih =>
    intro us r
    rw [List.map_cons] at r
    cases r with
    | cons r1 r2 =>
      obtain ⟨t, e⟩ := r1
      subst e
      exact .cons n t (ih r2)

section
variable {X : Cx} {e : Expr} {te : TE} {lo hi : Option Expr} {tl th : TO} {pos p2 : Pos}

theorem po_none : PO X none tNoPart := by
  intro pins s σ H Q I h
  rw [evalPart_none]
  exact wpAny_pure ⟨none, H, I, .none, h⟩
theorem po_some (h : PE X e te) : PO X (some e) (tPart te) := by
  intro pins s σ H Q I hw
  rw [evalPart_some]
  refine thn (h pins s σ H _ I hw) fun u s1 ⟨x, H1, I1, r1, q1⟩ => ?_
  obtain ⟨i, rfl, q⟩ := q1
  obtain ⟨t, rfl⟩ := r1
  exact ⟨some i, H1, I1, .int i t, q⟩

/-- what a slice of a value is, by values: the slice object stands at sl -/
def SlR (X : Cx) (r : V → Option Int → Option Int → Hp → VK → Prop) : Prop :=
  ∀ (pins : List (Addr × Obj)) (s : Shared) (σ : St) (H : Hp) (x : V) (v vl vu : Value) (lo hi : Option Int) (sl : Addr) (Q : VK), Inv X pins σ H s → RelV x v → s.heap.IsSliceOf sl vl vu .none → IsPart vl lo → IsPart vu hi → r x lo hi H Q →
    ∃ T id, typeLookup (.type T) "__getitem__" = pure (some (.builtin id)) ∧ s.TypeIs v T ∧ wpAny (model X.prog X.w) X.A (getItem v (.ref sl)) (EP X pins σ Q) X.xe s
theorem SlR.or {r r' : V → Option Int → Option Int → Hp → VK → Prop} (h : SlR X r) (h' : SlR X r') : SlR X (fun x lo hi H Q => r x lo hi H Q ∨ r' x lo hi H Q) := by
  intro pins s σ H x v vl vu lo hi sl Q I rx hs pl pu q
  rcases q with q | q
  · exact h pins s σ H x v vl vu lo hi sl Q I rx hs pl pu q
  · exact h' pins s σ H x v vl vu lo hi sl Q I rx hs pl pu q
def tSl (r : V → Option Int → Option Int → Hp → VK → Prop) (te : TE) (tl th : TO) : TE := fun σ H Q => te σ H fun x H1 => tl σ H1 fun l H2 => th σ H2 fun u H3 => r x l u H3 Q
/-- a[lo:hi], any a -/
theorem pe_slice {r : V → Option Int → Option Int → Hp → VK → Prop} (hr : SlR X r) (he : PE X e te) (hl : PO X lo tl) (hu : PO X hi th) : PE X (.Subscript e (.Slice lo hi none p2) pos) (tSl r te tl th) := by
  intro pins s σ H Q I h
  refine Subscript_ (thn (he pins s σ H _ I h) fun v s1 ⟨x, H1, I1, r1, q1⟩ => ?_)
  refine wpAny_Slice (thn (hl pins s1 σ H1 _ I1 q1) fun vl s2 ⟨l, H2, I2, pl, q2⟩ => thn (hu pins s2 σ H2 _ I2 q2) fun vu s3 ⟨u, H3, I3, pu, q3⟩ => ?_)
  rw [evalPart_none]
  refine wpAny_pure ?_
  have I4 : Inv X pins σ H3 { s3 with heap := s3.heap.push { cls := .type "slice", data := .fields #[vl, vu, .none] } } := I3.kept (t' := s3.toks) fun b ob q => Heap.get?_push_of_some _ q
  obtain ⟨T, id, hT, ht, hg⟩ := hr pins { s3 with heap := s3.heap.push { cls := .type "slice", data := .fields #[vl, vu, .none] } } σ H3 x v vl vu l u s3.heap.objs.size Q I4 r1 (Heap.IsSliceOf.new ..) pl pu q3
  show wpAny (model X.prog X.w) X.A (subscriptTail e (.Slice lo hi none p2) v (.ref s3.heap.objs.size)) (EP X pins σ Q) X.xe { s3 with heap := s3.heap.push { cls := .type "slice", data := .fields #[vl, vu, .none] } }
  exact tail_any (ops := [.ref s3.heap.objs.size, v]) ht hT hg (by with_unfolding_all rfl)

/-- the items of xs[lo:hi] -/
def cutV (xs : List V) (lo hi : Option Int) : List V := (xs.drop (HT.sIx xs.length 0 lo)).take (HT.sIx xs.length xs.length hi - HT.sIx xs.length 0 lo)
theorem cutV_length (xs : List V) (lo hi : Option Int) : (cutV xs lo hi).length ≤ xs.length := by
  unfold cutV
  rw [List.length_take, List.length_drop]
  omega
/-- t[lo:hi], not the whole of it (the whole would be t itself) -/
def rSlT (K : PySem.W.Frag) : V → Option Int → Option Int → Hp → VK → Prop := fun x lo hi H Q => ∃ a xs, x = .ref a ∧ SqT K H a xs ∧
  ¬ (HT.sIx xs.length 0 lo = 0 ∧ HT.sIx xs.length xs.length hi = xs.length) ∧ ∀ p, H p = none → Q (.ref p) (upd H p (.tup (cutV xs lo hi)))
theorem sl_tup : SlR X (rSlT X.K) := by
  intro pins s σ H x v vl vu lo hi sl Q I rx hs pl pu h
  obtain ⟨a, xs, rfl, hx, hw, q⟩ := h
  cases rx
  obtain ⟨its, r, ht, hz⟩ := I.tuple hx
  have hlen : its.toArray.size = xs.length := by rw [List.size_toArray]; exact r.length.symm
  refine ⟨"tuple", _, PyProof.Rows.slot_tuple_getitem.lookup, ht.typeIs, ?_⟩
  refine HT.getItem_tuple_cut ht hs pl pu (by rw [hlen]; exact hw) ?_ (by rw [hlen]; exact hz)
  rw [hlen]
  refine ⟨.ref s.heap.objs.size, _, I.laid (t' := s.toks) (o := .tup (cutV xs lo hi)) (fun b ob q => Heap.get?_push_of_some _ q) (Nat.le_refl _) ?_, rfl, q _ (I.hok.fresh (Nat.le_refl _))⟩
  exact ⟨Nat.le_trans (cutV_length xs lo hi) hz, _, (r.drop (HT.sIx xs.length 0 lo)).take (HT.sIx xs.length xs.length hi - HT.sIx xs.length 0 lo), IsTup.new _ _⟩

/-! ### t < u, t + u -/
def rLtT (K : PySem.W.Frag) : R2 := fun x y H Q => ∃ a b ns ms, x = .ref a ∧ y = .ref b ∧ SqT K H a (ns.map V.int) ∧ SqT K H b (ms.map V.int) ∧ Q (.bl (HT.lexLt ns ms)) H
theorem op_ltT (hu : X.A.units < cLine) : OpR X (compareOp .Lt) (rLtT X.K) := by
  intro pins s σ H x y v u Q I rx ry h
  obtain ⟨a, b, ns, ms, rfl, rfl, ha, hb, q⟩ := h
  cases rx
  cases ry
  obtain ⟨its, r1, p1, _⟩ := I.tuple ha
  obtain ⟨its2, r2, p2, _⟩ := I.tuple hb
  have i1 : IntsAre its.toArray.toList ns := intsAre_of r1
  have i2 : IntsAre its2.toArray.toList ms := intsAre_of r2
  exact HT.lt_tupInts p1 p2 i1 i2 hu ⟨.bl (HT.lexLt ns ms), H, I, rfl, q⟩
/-- t + u, t not empty: u empty gives t itself -/
def rCatT (K : PySem.W.Frag) : R2 := fun x y H Q => ∃ a b xs ys, x = .ref a ∧ y = .ref b ∧ SqT K H a xs ∧ SqT K H b ys ∧ xs ≠ [] ∧ xs.length + ys.length ≤ sizeLine ∧
  (ys = [] → Q (.ref a) H) ∧ (ys ≠ [] → ∀ p, H p = none → Q (.ref p) (upd H p (.tup (xs ++ ys))))
theorem Vals.nil_iff {xs : List V} {us : List Value} (r : Vals xs us) : us = [] ↔ xs = [] := by
  cases r with
  | nil => simp
  | cons _ _ => simp
theorem op_catT : OpR X (binaryOp .Add) (rCatT X.K) := by
  intro pins s σ H x y v u Q I rx ry h
  obtain ⟨a, b, xs, ys, rfl, rfl, ha, hb, hx, hz, q1, q2⟩ := h
  cases rx
  cases ry
  obtain ⟨its, r1, p1, _⟩ := I.tuple ha
  obtain ⟨its2, r2, p2, _⟩ := I.tuple hb
  refine HT.cat_tup p1 p2 (fun z => hx (r1.nil_iff.mp z)) (fun z => ⟨.ref a, H, I, rfl, q1 (r2.nil_iff.mp z)⟩) (fun z => ?_) (by rw [← r1.length, ← r2.length]; exact hz)
  refine ⟨.ref s.heap.objs.size, _, I.laid (t' := s.toks) (o := .tup (xs ++ ys)) (fun b ob q => Heap.get?_push_of_some _ q) (Nat.le_refl _) ?_, rfl, q2 (fun w => z (r2.nil_iff.mpr w)) _ (I.hok.fresh (Nat.le_refl _))⟩
  exact ⟨by rw [List.length_append]; exact hz, _, r1.append r2, IsTup.new _ _⟩
/-- tuple(t) -/
theorem call_tupleT : CallR X (.type "tuple") (fun xs H Q => ∃ a ys, xs = [.ref a] ∧ SqT X.K H a ys ∧ Q (.ref a) H) := by
  intro pins s σ H xs us Q I r h
  obtain ⟨a, ys, rfl, ha, q⟩ := h
  obtain ⟨u, rfl, ru⟩ := vals1 r
  cases ru
  obtain ⟨its, _, p1, _⟩ := I.tuple ha
  exact call_tuple_same (items := its.toArray) p1 ⟨.ref a, H, I, rfl, q⟩
end
end L2

namespace L2
open PySem PySem.Spec PyProof.Rows

/-! ### places -/
/-- the place that an index of any sign means -/
def ixN (n : Nat) (i : Int) : Option Nat := if 0 ≤ i then (if i < n then some i.toNat else none) else if -(n : Int) ≤ i then some (i + n).toNat else none
def atI {α : Type} (xs : List α) (i : Int) : Option α := (ixN xs.length i).bind fun j => xs[j]?
theorem ixN_seq {n : Nat} {i : Int} {j : Nat} (h : ixN n i = some j) : seqIndex? i n = some j ∧ j < n ∧ -(n : Int) ≤ i ∧ i < n := by
  unfold ixN at h
  by_cases h0 : 0 ≤ i
  · rw [if_pos h0] at h
    by_cases h1 : i < n
    · rw [if_pos h1] at h
      have e : i.toNat = j := Option.some.inj h
      exact ⟨by rw [seqIndex_of h0 h1, e], by omega, by omega, h1⟩
    · rw [if_neg h1] at h; cases h
  · rw [if_neg h0] at h
    by_cases h1 : -(n : Int) ≤ i
    · rw [if_pos h1] at h
      have e : (i + n).toNat = j := Option.some.inj h
      exact ⟨by rw [seqIndex_neg (by omega) h1, e], by omega, h1, by omega⟩
    · rw [if_neg h1] at h; cases h
theorem atI_get {α : Type} {xs : List α} {i : Int} {v : α} (h : atI xs i = some v) : ∃ j, seqIndex? i xs.length = some j ∧ xs[j]? = some v ∧ j < xs.length ∧ -(xs.length : Int) ≤ i ∧ i < xs.length := by
  unfold atI at h
  cases e : ixN xs.length i with
  | none => rw [e] at h; cases h
  | some j =>
    rw [e] at h
    obtain ⟨h1, h2, h3, h4⟩ := ixN_seq e
    exact ⟨j, h1, h, h2, h3, h4⟩
theorem atI_nat {α : Type} {xs : List α} {j : Nat} {v : α} (h : xs[j]? = some v) : atI xs (j : Int) = some v := by
  have hj : j < xs.length := (List.getElem?_eq_some_iff.mp h).1
  have e : ixN xs.length (j : Int) = some j := by
    unfold ixN
    rw [if_pos (by omega), if_pos (by omega)]; simp
  unfold atI; rw [e]; exact h
theorem atI_last {α : Type} (xs : List α) (v : α) : atI (xs ++ [v]) (-1) = some v := by
  have hl : (xs ++ [v]).length = xs.length + 1 := by simp
  have e : ixN (xs ++ [v]).length (-1) = some xs.length := by
    unfold ixN
    rw [hl, if_neg (by decide), if_pos (by omega)]
    congr 1
    omega
  unfold atI
  rw [e]
  show (xs ++ [v])[xs.length]? = some v
  simp

/-! ### what may be subscripted -/
/-- what stands as an index of a plain subscript -/
def PlainIx (b : Expr) : Prop := ∀ o i, subscripted b false o i = operate [o, i] (getItem o i)
/-- a subscript by values -/
def IxR (X : Cx) (r : R2) : Prop :=
  ∀ (value slice : Expr) (pins : List (Addr × Obj)) (s : Shared) (σ : St) (H : Hp) (x y : V) (v u : Value) (Q : VK), Inv X pins σ H s → RelV x v → RelV y u → r x y H Q →
    subscripted slice false v u = operate [v, u] (getItem v u) → wpAny (model X.prog X.w) X.A (subscriptTail value slice v u) (EP X pins σ Q) X.xe s
/-- a call of a builtin's method by values: the receiver, the arguments -/
def MtR (X : Cx) (id : String) (r : V → List V → Hp → VK → Prop) : Prop :=
  ∀ (pins : List (Addr × Obj)) (s : Shared) (σ : St) (H : Hp) (x : V) (xs : List V) (v : Value) (us : List Value) (Q : VK), Inv X pins σ H s → RelV x v → Vals xs us → r x xs H Q →
    wpAny (model X.prog X.w) X.A (call (.builtin id) (v :: us)) (EP X pins σ Q) X.xe s
section
variable {X : Cx} {a b : Expr} {ta tb : TE} {pos : Pos}
theorem IxR.or {r r' : R2} (h : IxR X r) (h' : IxR X r') : IxR X (fun x y H Q => r x y H Q ∨ r' x y H Q) := by
  intro value slice pins s σ H x y v u Q I rx ry q hs
  rcases q with q | q
  · exact h value slice pins s σ H x y v u Q I rx ry q hs
  · exact h' value slice pins s σ H x y v u Q I rx ry q hs
theorem MtR.or {id : String} {r r' : V → List V → Hp → VK → Prop} (h : MtR X id r) (h' : MtR X id r') : MtR X id (fun x xs H Q => r x xs H Q ∨ r' x xs H Q) := by
  intro pins s σ H x xs v us Q I rx rs q
  rcases q with q | q
  · exact h pins s σ H x xs v us Q I rx rs q
  · exact h' pins s σ H x xs v us Q I rx rs q
/-- a[b] -/
theorem pe_ix {r : R2} (hr : IxR X r) (ha : PE X a ta) (hb : PE X b tb) (hs : PlainIx b) : PE X (.Subscript a b pos) (tOp r ta tb) := by
  intro pins s σ H Q I h
  exact Subscript_ (binT ha hb I h fun v u s2 x y H2 I2 rx ry q => hr a b pins s2 σ H2 x y v u Q I2 rx ry q (hs _ _))

def rIxL (K : PySem.W.Frag) : R2 := fun x y H Q => ∃ p xs i v, x = .ref p ∧ y = .int i ∧ SqL K H p xs ∧ atI xs i = some v ∧ Q v H
def rIxT (K : PySem.W.Frag) : R2 := fun x y H Q => ∃ p xs i v, x = .ref p ∧ y = .int i ∧ SqT K H p xs ∧ atI xs i = some v ∧ Q v H
def rIxS : R2 := fun x y H Q => ∃ z i c, x = .str z ∧ y = .int i ∧ z.length ≤ sizeLine ∧ atI z.cps.toList i = some c ∧ Q (.str ⟨#[c]⟩) H
theorem ix_list : IxR X (rIxL X.K) := by
  intro value slice pins s σ H x y v u Q I rx ry h hs
  obtain ⟨p, xs, i, z, rfl, rfl, hq, he, q⟩ := h
  cases rx
  obtain ⟨t, rfl⟩ := ry
  obtain ⟨its, r, pl, hz⟩ := I.list hq
  obtain ⟨j, h1, h2, h3, h4, h5⟩ := atI_get he
  obtain ⟨w, ew, rw'⟩ := r.get h2
  have hl := r.length
  have hn := line63
  have fin : EP X pins σ Q w s := ⟨z, H, I, rw', q⟩
  by_cases h0 : 0 ≤ i
  · have hj : i.toNat = j := by
      rw [seqIndex_of h0 h5] at h1
      exact Option.some.inj h1
    exact item_listR pl.isList h0 (by omega) (by rw [hj]; simpa using ew) fin hs
  · have hj : (i + (its.toArray.size : Int)).toNat = j := by
      rw [seqIndex_neg (by omega) h4] at h1
      rw [List.size_toArray, ← hl]
      exact Option.some.inj h1
    exact subscriptTail_builtinR (x := w) pl.isList.typeIs slot_list_getitem.lookup
      (wpAny_getItem_list_neg (Q := fun r s' => r = w ∧ EP X pins σ Q r s') pl.isList (by omega) (by rw [List.size_toArray] <;> omega) (by omega) (by rw [hj]; simpa using ew) ⟨rfl, fin⟩) hs
theorem ix_tup : IxR X (rIxT X.K) := by
  intro value slice pins s σ H x y v u Q I rx ry h hs
  obtain ⟨p, xs, i, z, rfl, rfl, hq, he, q⟩ := h
  cases rx
  obtain ⟨t, rfl⟩ := ry
  obtain ⟨its, r, pl, hz⟩ := I.tuple hq
  obtain ⟨j, h1, h2, h3, h4, h5⟩ := atI_get he
  obtain ⟨w, ew, rw'⟩ := r.get h2
  have hl := r.length
  have hn := line63
  have fin : EP X pins σ Q w s := ⟨z, H, I, rw', q⟩
  exact subscriptTail_builtinR (x := w) pl.typeIs slot_tuple_getitem.lookup
    (getItem_tuple (j := j) (Q := fun r s' => r = w ∧ EP X pins σ Q r s') pl (by omega) (by omega) (by rw [List.size_toArray, ← hl]; exact h1) (by simpa using ew) ⟨rfl, fin⟩) hs
theorem ix_str : IxR X rIxS := by
  intro value slice pins s σ H x y v u Q I rx ry h hs
  obtain ⟨z, i, c, rfl, rfl, hz, he, q⟩ := h
  obtain ⟨t, rfl⟩ := rx
  obtain ⟨t', rfl⟩ := ry
  obtain ⟨j, h1, h2, h3, h4, h5⟩ := atI_get he
  have hl : z.cps.toList.length = z.length := by simp [Str.length]
  rw [hl] at h1 h4 h5
  have hn := line63
  exact tail_any (typeIs_str s z t) slot_str_getitem.lookup (getItem_str (c := c) (by
    have e1 : decide (i < -(2 ^ 63 : Int)) = false := decide_eq_false (by omega)
    have e2 : decide (i ≥ 2 ^ 63) = false := decide_eq_false (by omega)
    rw [e1, e2, Bool.or_false]) (by rw [h1]; simpa using h2) ⟨.str ⟨#[c]⟩, H, I.tok _, ⟨_, rfl⟩, q⟩) hs
/-- list, tuple or str -/
def rIx (K : PySem.W.Frag) : R2 := fun x y H Q => rIxL K x y H Q ∨ rIxT K x y H Q ∨ rIxS x y H Q
theorem ix_seq : IxR X (rIx X.K) := ix_list.or (ix_tup.or ix_str)

/-! ### xs[i] = v, any sign -/
/-- the list's object behind a store -/
theorem mapSeq_set (its : List Value) (n j : Nat) (u : Value) : Obj.mapSeq (·.setIfInBounds j u) { cls := .type "list", data := .seq its.toArray n } = { cls := .type "list", data := .seq (its.set j u).toArray n } := by
  simp [Obj.mapSeq]
theorem Inv.lst {pins : List (Addr × Obj)} {σ : St} {H : Hp} {s : Shared} {p : Addr} {xs : List V} (I : Inv X pins σ H s) (h : H p = some (.lst xs)) :
    ∃ (its : List Value) (n : Nat), Vals xs its ∧ s.heap.get? p = some { cls := .type "list", data := .seq its.toArray n } ∧ xs.length ≤ sizeLine := by
  obtain ⟨z, its, n, r, e⟩ := I.hok p _ h
  exact ⟨its, n, r, e, z⟩
/-- the list at p is written by an update of its object -/
theorem Inv.lstUpd {pins : List (Addr × Obj)} {σ : St} {H : Hp} {s : Shared} {p : Addr} {xs ys : List V} {its its' : List Value} {n n' : Nat} {f : Obj → Obj} (I : Inv X pins σ H s) (h : H p = some (.lst xs))
    (ho : s.heap.get? p = some { cls := .type "list", data := .seq its.toArray n }) (hf : f { cls := .type "list", data := .seq its.toArray n } = { cls := .type "list", data := .seq its'.toArray n' }) (r : Vals ys its') (hz : ys.length ≤ sizeLine) (t : Nat) :
    Inv X pins σ (upd H p (.lst ys)) { s with heap := s.heap.update p f, toks := t } := by
  have e : (s.heap.update p f).get? p = some { cls := .type "list", data := .seq its'.toArray n' } := by
    rw [Heap.get?_update_self f ho (by rw [hf] <;> rfl), hf]
  refine I.write (x := p) (e := p) (by rw [h]; trivial) (.inl rfl) (fun b u hb q => (Heap.get?_update_other _ _ (Ne.symm hb)).trans q) ⟨_, e⟩ ?_
  exact ⟨hz, its', n', r, e⟩
def rSetL : V → V → V → Hp → (Hp → Prop) → Prop := fun o i v H Q => ∃ p xs k j, o = .ref p ∧ i = .int k ∧ H p = some (.lst xs) ∧ ixN xs.length k = some j ∧ Q (upd H p (.lst (xs.set j v)))
theorem set_list : PSet X rSetL := by
  intro pins s σ H o i v ov iv u Q I ro ri rv h
  obtain ⟨p, xs, k, j, rfl, rfl, hp, hj, q⟩ := h
  cases ro
  obtain ⟨t, rfl⟩ := ri
  obtain ⟨its, n, r, ho, hz⟩ := I.lst hp
  obtain ⟨h1, h2, h3, h4⟩ := ixN_seq hj
  have hl := r.length
  have hn := line63
  have I' : Inv X pins σ (upd H p (.lst (xs.set j v))) { s with heap := s.heap.update p (Obj.mapSeq (·.setIfInBounds j u)) } :=
    I.lstUpd hp ho (mapSeq_set its n j u) (r.set rv j) (by rw [List.length_set]; exact hz) s.toks
  by_cases h0 : 0 ≤ k
  · have hk : k.toNat = j := by
      rw [seqIndex_of h0 h4] at h1
      exact Option.some.inj h1
    exact PySem.W.ki_setAt ho h0 (by omega) (by rw [List.size_toArray, ← hl]; exact h4) (by rw [hk]; exact ⟨_, I', q⟩)
  · have hk : (k + (its.toArray.size : Int)).toNat = j := by
      rw [seqIndex_neg (by omega) h3] at h1
      rw [List.size_toArray, ← hl]
      exact Option.some.inj h1
    exact PySem.W.ki_setBack ho (by omega) (by rw [List.size_toArray, ← hl]; exact h3) (by omega) (by rw [hk]; exact ⟨_, I', q⟩)

/-! ### slices -/
theorem slice_bounds (lo hi : Option Int) (n : Nat) : (sliceBounds lo hi none n).1 = ((HT.sIx n 0 lo : Nat) : Int) ∧ (sliceBounds lo hi none n).2.1 = ((HT.sIx n n hi : Nat) : Int) ∧ (sliceBounds lo hi none n).2.2 = 1 := by
  refine ⟨?_, ?_, rfl⟩
  · cases lo with
    | none => simp [sliceBounds, HT.sIx]
    | some i =>
      simp only [sliceBounds, HT.sIx, Option.getD_none, show (1 : Int) > 0 by decide, if_true]
      by_cases h : i < 0
      · simp only [h, if_true] <;> omega
      · simp only [h, if_false] <;> omega
  · cases hi with
    | none => simp [sliceBounds, HT.sIx]
    | some i =>
      simp only [sliceBounds, HT.sIx, Option.getD_none, show (1 : Int) > 0 by decide, if_true]
      by_cases h : i < 0
      · simp only [h, if_true] <;> omega
      · simp only [h, if_false] <;> omega
theorem slicePick_cut (its : List Value) (lo hi : Option Int) : slicePick its.toArray lo hi none = ((its.drop (HT.sIx its.length 0 lo)).take (HT.sIx its.length its.length hi - HT.sIx its.length 0 lo)).toArray := by
  obtain ⟨h1, h2, h3⟩ := slice_bounds lo hi its.toArray.size
  unfold slicePick
  rw [h1, h2, h3]
  simp only [sliceRange_one, pick_run, List.size_toArray] <;> rfl
/-- xs[lo:hi] of a list: a new list -/
def rSlL (K : PySem.W.Frag) : V → Option Int → Option Int → Hp → VK → Prop := fun x lo hi H Q => ∃ a xs, x = .ref a ∧ SqL K H a xs ∧ ∀ p, H p = none → Q (.ref p) (upd H p (.lst (cutV xs lo hi)))
theorem sl_list : SlR X (rSlL X.K) := by
  intro pins s σ H x v vl vu lo hi sl Q I rx hs pl pu h
  obtain ⟨a, xs, rfl, hx, q⟩ := h
  cases rx
  obtain ⟨its, r, ht, hz⟩ := I.list hx
  have hlen := r.length
  refine ⟨"list", _, slot_list_getitem.lookup, ht.isList.typeIs, ?_⟩
  refine wpAny_getItem_list_slice ht.isList hs pl pu .none (by simp) ?_ (by rw [List.size_toArray] <;> omega)
  rw [slicePick_cut, ← hlen]
  refine ⟨.ref s.heap.objs.size, _, I.laid (t' := s.toks) (o := .lst (cutV xs lo hi)) (fun b ob q => Heap.get?_push_of_some _ q) (Nat.le_refl _) ?_, rfl, q _ (I.hok.fresh (Nat.le_refl _))⟩
  exact ⟨Nat.le_trans (cutV_length xs lo hi) hz, _, 0, (r.drop (HT.sIx xs.length 0 lo)).take (HT.sIx xs.length xs.length hi - HT.sIx xs.length 0 lo), Heap.get?_push_size _ rfl⟩

/-! ### in, not in: flat items -/
def flatV : V → Bool
  | .non => true
  | .bl _ => true
  | .int _ => true
  | .str _ => true
  | _ => false
/-- == of flat values -/
def eqV : V → V → Bool
  | .non, .non => true
  | .bl a, .bl b => a == b
  | .bl a, .int b => (if a then 1 else 0) == b
  | .int a, .bl b => a == (if b then 1 else 0)
  | .int a, .int b => a == b
  | .str a, .str b => a == b
  | _, _ => false
theorem eqAt_V {A : Around} {s : Shared} {y x : V} {u v : Value} (ry : RelV y u) (rx : RelV x v) (fy : flatV y = true) (fx : flatV x = true) : SeqAt.EqAt A s u v (eqV y x) := by
  cases y with
  | non =>
    cases ry
    cases x with
    | non => cases rx; exact SeqAt.EqAt.same _
    | bl b => cases rx; exact SeqAt.EqAt.none_bool b
    | int b => obtain ⟨t, rfl⟩ := rx; exact SeqAt.EqAt.none_int b t
    | str b => obtain ⟨t, rfl⟩ := rx; exact SeqAt.EqAt.none_str b t
    | _ => exact absurd (show false = true from fx) Bool.false_ne_true
  | bl a =>
    cases ry
    cases x with
    | non => cases rx; exact SeqAt.EqAt.bool_none a
    | bl b => cases rx; exact SeqAt.EqAt.bool_bool a b
    | int b => obtain ⟨t, rfl⟩ := rx; exact SeqAt.EqAt.bool_int a b t
    | str b => obtain ⟨t, rfl⟩ := rx; exact SeqAt.EqAt.bool_str a b t
    | _ => exact absurd (show false = true from fx) Bool.false_ne_true
  | int a =>
    obtain ⟨t', rfl⟩ := ry
    cases x with
    | non => cases rx; exact SeqAt.EqAt.int_none a t'
    | bl b => cases rx; exact SeqAt.EqAt.int_bool a t' b
    | int b => obtain ⟨t, rfl⟩ := rx; exact SeqAt.EqAt.int_int a t' b t
    | str b => obtain ⟨t, rfl⟩ := rx; exact SeqAt.EqAt.int_str a t' b t
    | _ => exact absurd (show false = true from fx) Bool.false_ne_true
  | str a =>
    obtain ⟨t', rfl⟩ := ry
    cases x with
    | non => cases rx; exact SeqAt.EqAt.str_none a t'
    | bl b => cases rx; exact SeqAt.EqAt.str_bool a t' b
    | int b => obtain ⟨t, rfl⟩ := rx; exact SeqAt.EqAt.str_int a t' b t
    | str b => obtain ⟨t, rfl⟩ := rx; exact SeqAt.EqAt.str_str a t' b t
    | _ => exact absurd (show false = true from fx) Bool.false_ne_true
  | _ => exact absurd (show false = true from fy) Bool.false_ne_true
/-- the items' answers, read off the values (a value's own answer does not lean on its token) -/
def eqU (x : V) (u : Value) : Bool := match u with
  | .none => eqV .non x
  | .bool b => eqV (.bl b) x
  | .int i _ => eqV (.int i) x
  | .str z _ => eqV (.str z) x
  | _ => false
theorem eqU_of {x y : V} {u : Value} (r : RelV y u) (f : flatV y = true) : eqU x u = eqV y x := by
  cases y with
  | non => cases r; rfl
  | bl b => cases r; rfl
  | int i => obtain ⟨t, rfl⟩ := r; rfl
  | str z => obtain ⟨t, rfl⟩ := r; rfl
  | _ => exact absurd (show false = true from f) Bool.false_ne_true
theorem any_eqU {x : V} : ∀ {xs : List V} {us : List Value}, Vals xs us → xs.all flatV = true → us.any (eqU x) = xs.any fun y => eqV y x
  | _, _, .nil, _ => rfl
  | y :: xs, u :: us, .cons r t, f => by
    rw [List.all_cons, Bool.and_eq_true] at f
    rw [List.any_cons, List.any_cons, eqU_of r f.1, any_eqU t f.2]
theorem mem_eqAt {A : Around} {s : Shared} {x : V} {v : Value} (rx : RelV x v) (fx : flatV x = true) : ∀ {xs : List V} {us : List Value}, Vals xs us → xs.all flatV = true → ∀ u ∈ us, SeqAt.EqAt A s u v (eqU x u)
  | _, _, .nil, _ => fun u hu => by cases hu
  | y :: xs, u :: us, .cons r t, f => fun u' hu => by
    rw [List.all_cons, Bool.and_eq_true] at f
    rcases List.mem_cons.mp hu with rfl | hu
    · rw [eqU_of r f.1]; exact eqAt_V r rx f.1 fx
    · exact mem_eqAt rx fx t f.2 u' hu
def inV (x : V) (xs : List V) : Bool := xs.any fun y => eqV y x
/-- x in a list or tuple of flat items -/
def rIn (K : PySem.W.Frag) (neg : Bool) : R2 := fun x y H Q => ∃ p xs, y = .ref p ∧ (SqL K H p xs ∨ SqT K H p xs) ∧ flatV x = true ∧ xs.all flatV = true ∧ Q (.bl (if neg then !inV x xs else inV x xs)) H
theorem op_in_seq : OpR X (compareOp .In) (rIn X.K false) := by
  intro pins s σ H x y v u Q I rx ry h
  obtain ⟨p, xs, rfl, hq, fx, fs, q⟩ := h
  cases ry
  rcases hq with hq | hq
  · obtain ⟨its, r, pl, hz⟩ := I.list hq
    refine SeqAt.in_listAt (eqU x) pl.isList (fun w hw => mem_eqAt rx fx r fs w (by simpa using hw)) ⟨.bl _, H, I, rfl, ?_⟩
    rw [show its.toArray.any (eqU x) = its.any (eqU x) by simp, any_eqU r fs]
    exact q
  · obtain ⟨its, r, pl, hz⟩ := I.tuple hq
    refine SeqAt.in_tupleAt (eqU x) pl (fun w hw => mem_eqAt rx fx r fs w (by simpa using hw)) ⟨.bl _, H, I, rfl, ?_⟩
    rw [show its.toArray.any (eqU x) = its.any (eqU x) by simp, any_eqU r fs]
    exact q
theorem op_notIn_seq : OpR X (compareOp .NotIn) (rIn X.K true) := by
  intro pins s σ H x y v u Q I rx ry h
  obtain ⟨p, xs, rfl, hq, fx, fs, q⟩ := h
  cases ry
  rcases hq with hq | hq
  · obtain ⟨its, r, pl, hz⟩ := I.list hq
    refine SeqAt.notIn_listAt (eqU x) pl.isList (fun w hw => mem_eqAt rx fx r fs w (by simpa using hw)) ⟨.bl _, H, I, rfl, ?_⟩
    rw [show its.toArray.any (eqU x) = its.any (eqU x) by simp, any_eqU r fs]
    exact q
  · obtain ⟨its, r, pl, hz⟩ := I.tuple hq
    refine SeqAt.notIn_tupleAt (eqU x) pl (fun w hw => mem_eqAt rx fx r fs w (by simpa using hw)) ⟨.bl _, H, I, rfl, ?_⟩
    rw [show its.toArray.any (eqU x) = its.any (eqU x) by simp, any_eqU r fs]
    exact q
theorem op_notIn_str : OpR X (compareOp .NotIn) (fun x y H Q => ∃ i j, x = .str i ∧ y = .str j ∧ Q (.bl (!(!(Builtin.Str.occurrences j i 0 j.length 1).isEmpty))) H) := by
  intro pins s σ H x y v u Q I rx ry h
  obtain ⟨i, j, rfl, rfl, q⟩ := h
  obtain ⟨t, rfl⟩ := rx
  obtain ⟨t', rfl⟩ := ry
  exact notIn_str ⟨.bl _, H, I, rfl, q⟩

/-! ### len, list(x), tuple(x) of any list or tuple that is read -/
theorem call_len_seq : CallR X (.builtin "len") (fun xs H Q => ∃ p ys, xs = [.ref p] ∧ (SqL X.K H p ys ∨ SqT X.K H p ys) ∧ Q (.int ys.length) H) := by
  intro pins s σ H xs us Q I r h
  obtain ⟨p, ys, rfl, hq, q⟩ := h
  obtain ⟨u, rfl, rx⟩ := vals1 r
  cases rx
  have hn := line63
  rcases hq with hq | hq
  · obtain ⟨its, r', pl, hz⟩ := I.list hq
    have hlen := r'.length
    exact Calls.call_len_list pl.isList (by simp only [List.size_toArray] <;> omega) ⟨.int ys.length, H, I.tok _, ⟨s.toks + 1, by rw [List.size_toArray, hlen]⟩, q⟩
  · obtain ⟨its, r', pl, hz⟩ := I.tuple hq
    have hlen := r'.length
    exact len_tuple pl (by simp only [List.size_toArray] <;> omega) ⟨.int ys.length, H, I.tok _, ⟨s.toks + 1, by rw [List.size_toArray, hlen]⟩, q⟩
theorem call_len_str : CallR X (.builtin "len") (fun xs H Q => ∃ z, xs = [.str z] ∧ z.length ≤ sizeLine ∧ Q (.int z.length) H) := by
  intro pins s σ H xs us Q I r h
  obtain ⟨z, rfl, hz, q⟩ := h
  obtain ⟨u, rfl, t, rfl⟩ := vals1 r
  have hn := line63
  exact len_str (by omega) ⟨.int z.length, H, I.tok _, ⟨_, rfl⟩, q⟩
theorem CallR.or {f : Value} {r r' : List V → Hp → VK → Prop} (h : CallR X f r) (h' : CallR X f r') : CallR X f (fun xs H Q => r xs H Q ∨ r' xs H Q) := by
  intro pins s σ H xs us Q I rs q
  rcases q with q | q
  · exact h pins s σ H xs us Q I rs q
  · exact h' pins s σ H xs us Q I rs q
theorem call_list_of : CallR X (.type "list") (fun xs H Q => ∃ p ys, xs = [.ref p] ∧ (SqL X.K H p ys ∨ SqT X.K H p ys) ∧ ∀ l, H l = none → Q (.ref l) (upd H l (.lst ys))) := by
  intro pins s σ H xs us Q I r h
  obtain ⟨p, ys, rfl, hq, q⟩ := h
  obtain ⟨u, rfl, rx⟩ := vals1 r
  cases rx
  have fin : ∀ (its : List Value), Vals ys its → ys.length ≤ sizeLine → ∀ (h' : Heap) (c' : Nat), (∀ b o', s.heap.get? b = some o' → h'.get? b = some o') →
      h'.get? s.heap.objs.size = some { cls := .type "list", dict := none, data := .seq its.toArray c', slots := #[] } → EP X pins σ Q (.ref s.heap.objs.size) { s with heap := h' } := fun its r' hz h' c' kp e =>
    ⟨.ref s.heap.objs.size, _, I.laid (t' := s.toks) kp (Nat.le_refl _) (show ObjOk X.prog X.w _ h' _ (.lst ys) from ⟨hz, its, c', r', e⟩), rfl, q _ (I.hok.fresh (Nat.le_refl _))⟩
  rcases hq with hq | hq
  · obtain ⟨its, r', pl, hz⟩ := I.list hq
    have hlen := r'.length
    obtain ⟨o, ho, hc, n, hd⟩ := pl.isList
    exact call_list_seq p (.inl rfl) ho hc hd (fun h' c' kp e => fin its r' hz h' c' kp e) (by simp only [List.size_toArray] <;> omega)
  · obtain ⟨its, r', pl, hz⟩ := I.tuple hq
    have hlen := r'.length
    obtain ⟨o, ho, hc, n, hd⟩ := pl
    exact call_list_seq p (.inr rfl) ho hc hd (fun h' c' kp e => fin its r' hz h' c' kp e) (by simp only [List.size_toArray] <;> omega)
theorem call_tuple_of : CallR X (.type "tuple") (fun xs H Q => ∃ p ys, xs = [.ref p] ∧ ((SqL X.K H p ys ∧ ∀ l, H l = none → Q (.ref l) (upd H l (.tup ys))) ∨ (SqT X.K H p ys ∧ Q (.ref p) H))) := by
  intro pins s σ H xs us Q I r h
  obtain ⟨p, ys, rfl, h⟩ := h
  obtain ⟨u, rfl, rx⟩ := vals1 r
  cases rx
  rcases h with ⟨hq, q⟩ | ⟨hq, q⟩
  · obtain ⟨its, r', pl, hz⟩ := I.list hq
    have hlen := r'.length
    refine call_tuple_list pl.isList (fun h' kp => ?_) (by simp only [List.size_toArray] <;> omega)
    have I1 : Inv X pins σ H { s with heap := h' } := I.kept (t' := s.toks) kp
    have I2 : Inv X pins σ (upd H h'.objs.size (.tup ys)) { s with heap := h'.push { cls := .type "tuple", data := .seq its.toArray } } :=
      I1.laid (t' := s.toks) (fun b o e => Heap.get?_push_of_some _ e) (Nat.le_refl _) (show ObjOk X.prog X.w _ _ _ (.tup ys) from ⟨hz, its, r', IsTup.new _ _⟩)
    exact ⟨.ref h'.objs.size, _, I2, rfl, q _ (I1.hok.fresh (Nat.le_refl _))⟩
  · obtain ⟨its, r', pl, hz⟩ := I.tuple hq
    exact call_tuple_same pl ⟨.ref p, H, I, rfl, q⟩

/-! ### the call of a builtin's method: o.m(..) -/
/-- the value is of that builtin type -/
def tyV (K : PySem.W.Frag) (T : String) (x : V) (H : Hp) : Prop := match x with
  | .str _ => T = "str"
  | .int _ => T = "int"
  | .ref p => (T = "list" ∧ ∃ xs, SqL K H p xs) ∨ (T = "tuple" ∧ ∃ o, K.lookup p = some o ∧ o.cls = .type "tuple" ∧ o.dict = none) ∨
      (T = "dict" ∧ ((∃ kvs, H p = some (.dK kvs)) ∨ ∃ kvs, H p = some (.dT kvs))) ∨ (T = "set" ∧ ∃ S n, H p = some (.set S n))
  | _ => False
theorem tyV_is {pins : List (Addr × Obj)} {σ : St} {H : Hp} {s : Shared} {T : String} {x : V} {v : Value} (I : Inv X pins σ H s) (r : RelV x v) (ty : tyV X.K T x H) :
    s.TypeIs v T ∧ ∀ a, v = .ref a → ∃ ob, s.heap.get? a = some ob ∧ ob.dict = none := by
  cases x with
  | str z =>
    obtain ⟨t, rfl⟩ := r
    cases (show T = "str" from ty)
    exact ⟨typeIs_str s z t, fun _ e => nomatch e⟩
  | int i =>
    obtain ⟨t, rfl⟩ := r
    cases (show T = "int" from ty)
    exact ⟨typeIs_int s i t, fun _ e => nomatch e⟩
  | ref p =>
    cases r
    rcases ty with ⟨rfl, xs, hq⟩ | ⟨rfl, o, hk, hc, hd⟩ | ⟨rfl, hk⟩ | ⟨rfl, S, n, hk⟩
    · obtain ⟨its, _, pl, _⟩ := I.list hq
      refine ⟨pl.isList.typeIs, fun a e => ?_⟩
      cases e
      obtain ⟨o, n, e, c, hd, _⟩ := pl
      exact ⟨o, e, hd⟩
    · refine ⟨⟨o, I.kIn p o hk, hc⟩, fun a e => ?_⟩
      cases e
      exact ⟨o, I.kIn _ o hk, hd⟩
    · have z : ∃ o, s.heap.get? p = some o ∧ o.ExactDict := by
        rcases hk with ⟨kvs, hk⟩ | ⟨kvs, hk⟩
        · obtain ⟨_, _, _, _, o, _, _, e, ex, _⟩ := I.hok p _ hk
          exact ⟨o, e, ex⟩
        · obtain ⟨_, _, _, _, o, _, _, e, ex, _⟩ := I.hok p _ hk
          exact ⟨o, e, ex⟩
      obtain ⟨o, e, ex⟩ := z
      refine ⟨⟨o, e, ex.1⟩, fun a e2 => ?_⟩
      cases e2
      exact ⟨o, e, ex.2.1⟩
    · obtain ⟨o, _, _, _, e, ex, _⟩ := I.hok p _ hk
      refine ⟨⟨o, e, ex.1⟩, fun a e2 => ?_⟩
      cases e2
      exact ⟨o, e, ex.2.1⟩
  | _ => exact False.elim ty
def tBM0 (K : PySem.W.Frag) (T : String) (r : V → List V → Hp → VK → Prop) (to : TE) : TE := fun σ H Q => to σ H fun x H1 => tyV K T x H1 ∧ r x [] H1 Q
def tBM (K : PySem.W.Frag) (T : String) (r : V → List V → Hp → VK → Prop) (to : TE) (t : TA) : TE := fun σ H Q => to σ H fun x H1 => tyV K T x H1 ∧ t σ H1 fun xs H2 => r x xs H2 Q
variable {o e : Expr} {es : List Expr} {to : TE} {t : TA} {name : Str} {apos cpos : Pos} {T id : String} {r : V → List V → Hp → VK → Prop}
theorem pe_bm0 (pa : PlainAttrs T) (slot : Slot T name id) (hty : typeOf (.builtin id) = pure (.type "method_descriptor")) (hm : MtR X id r) (ho : PE X o to)
    (hbase : attributeBase o name X.env (eval o X.env) = eval o X.env := by rfl) (hline : (apos.endLine == cpos.line) = true := by rfl) : PE X (.Call (.Attribute o name apos) [] [] cpos) (tBM0 X.K T r to) := by
  intro pins s σ H Q I h
  refine wpAny_Call_method0_late hbase hline (thn (ho pins s σ H _ I h) fun v s1 ⟨x, H1, I1, r1, ty, q1⟩ => ?_)
  obtain ⟨h1, h2⟩ := tyV_is I1 r1 ty
  exact ⟨T, id, pa, slot, hty, h1, h2, Calls.callWith_builtin rfl (PySem.evalArgs_none (hm pins s1 σ H1 x [] v [] Q I1 r1 .nil q1))⟩
theorem pe_bm (pa : PlainAttrs T) (slot : Slot T name id) (hty : typeOf (.builtin id) = pure (.type "method_descriptor")) (hm : MtR X id r) (ho : PE X o to) (ha : PA X (e :: es) t)
    (hbase : attributeBase o name X.env (eval o X.env) = eval o X.env := by rfl)
    (hfew : ((backTo cpos (starEach (e :: es) X.env)).all (fun x => !x.1) && (backToKw cpos (keywordEach [] X.env)).all (fun x => x.1.isSome)
      && decide ((e :: es).length + ([] : List Keyword).length + (if ([] : List Keyword).isEmpty then 0 else 1) < 30)) = true := by rfl)
    (hline : (apos.endLine == cpos.line) = true := by rfl) (hs : starEach (e :: es) X.env = (false, eval e X.env) :: starEach es X.env := by rfl) (hplain : (backTo cpos (starEach es X.env)).any (·.1) = false := by rfl) :
    PE X (.Call (.Attribute o name apos) (e :: es) [] cpos) (tBM X.K T r to t) := by
  intro pins s σ H Q I h
  refine wpAny_Call_method_late hbase hfew hline rfl (thn (ho pins s σ H _ I h) fun v s1 ⟨x, H1, I1, r1, ty, q1⟩ => ?_)
  obtain ⟨h1, h2⟩ := tyV_is I1 r1 ty
  refine ⟨T, id, pa, slot, hty, h1, h2, ?_⟩
  have hA := ha cpos pins s1 σ H1 _ I1 q1
  rw [hs] at hA ⊢
  refine Calls.callWith_builtin (by show (false || (backTo cpos (starEach es X.env)).any (·.1)) = false; rw [hplain] <;> rfl) (Calls.evalArgs_plain ?_)
  exact thn hA fun us s2 ⟨vs, H2, I2, r2, q2⟩ => hm pins s2 σ H2 x vs v us Q I2 r1 r2 q2
/- xs.append(e), list.index on a module's tuple .. are MtR facts of 06m -/
end
end L2

namespace L2
open PySem PySem.Spec PyProof.Rows

def MtM (X : Cx) (id : String) (r : V → List V → Hp → VK → Prop) : Prop :=
  ∀ (pins : List (Addr × Obj)) (s : Shared) (σ : St) (H : Hp) (x : V) (xs : List V) (v : Value) (us : List Value) (Q : VK), Inv X pins σ H s → RelV x v → Vals xs us → r x xs H Q →
    wpAny (model X.prog X.w) X.A (call (.builtin id) (v :: us)) (EP X pins σ Q) X.xe s

/-! ### lists of values -/
theorem Vals.one : ∀ {x : V} {us : List Value}, Vals [x] us → ∃ u, us = [u] ∧ RelV x u
  | _, _, .cons r .nil => ⟨_, rfl, r⟩
theorem Vals.two : ∀ {x y : V} {us : List Value}, Vals [x, y] us → ∃ u v, us = [u, v] ∧ RelV x u ∧ RelV y v
  | _, _, _, .cons r (.cons q .nil) => ⟨_, _, rfl, r, q⟩
theorem Vals.zero : ∀ {us : List Value}, Vals [] us → us = []
  | _, .nil => rfl
theorem Vals.dropLast {xs : List V} {us : List Value} (h : Vals xs us) : Vals xs.dropLast us.dropLast := by
  induction h with
  | nil => exact .nil
  | cons r t ih =>
    cases t with
    | nil => exact .nil
    | cons q t' => exact .cons r ih
theorem Vals.eraseIdx : ∀ {xs : List V} {us : List Value} (i : Nat), Vals xs us → Vals (xs.eraseIdx i) (us.eraseIdx i)
  | _, _, _, .nil => .nil
  | _, _, 0, .cons _ t => t
  | _, _, i + 1, .cons r t => .cons r (Vals.eraseIdx i t)
theorem Vals.reverse {xs : List V} {us : List Value} (h : Vals xs us) : Vals xs.reverse us.reverse := by
  induction h with
  | nil => exact .nil
  | cons r t ih => rw [List.reverse_cons, List.reverse_cons]; exact Vals.append ih (.cons r .nil)
theorem Vals.rep {xs : List V} {us : List Value} (h : Vals xs us) : ∀ k : Nat, Vals (List.replicate k xs).flatten (List.replicate k us).flatten
  | 0 => .nil
  | k + 1 => by
    rw [List.replicate_succ, List.replicate_succ, List.flatten_cons, List.flatten_cons]
    exact Vals.append h (Vals.rep h k)
theorem erase_last {α : Type} (l : List α) : l.eraseIdx (l.length - 1) = l.dropLast := by
  induction l with
  | nil => rfl
  | cons a r ih =>
    cases r with
    | nil => rfl
    | cons b r =>
      have e : (a :: b :: r).length - 1 = ((b :: r).length - 1) + 1 := by
        have h1 : (a :: b :: r).length = r.length + 2 := rfl
        have h2 : (b :: r).length = r.length + 1 := rfl
        omega
      rw [e, List.eraseIdx_cons_succ, ih]
      all_goals rfl
theorem len_erase {α : Type} : ∀ (l : List α) (i : Nat), (l.eraseIdx i).length ≤ l.length
  | [], _ => Nat.le_refl _
  | _ :: _, 0 => Nat.le_succ _
  | _ :: r, i + 1 => Nat.succ_le_succ (len_erase r i)
theorem foldl_rep (its : List Value) : ∀ (k : Nat) (acc : List Value),
    List.foldl (fun x1 x2 => x1 ++ x2) acc.toArray (List.replicate k its.toArray) = (acc ++ (List.replicate k its).flatten).toArray
  | 0, acc => by simp
  | k + 1, acc => by
    have e : acc.toArray ++ its.toArray = (acc ++ its).toArray := by simp
    have e2 : (acc ++ its) ++ (List.replicate k its).flatten = acc ++ (List.replicate (k + 1) its).flatten := by
      rw [List.replicate_succ, List.flatten_cons, List.append_assoc]
    rw [← e2, ← foldl_rep its k (acc ++ its), ← e, List.replicate_succ, List.foldl_cons]

section
variable {X : Cx} {pins : List (Addr × Obj)} {σ : St} {H : Hp} {s : Shared} {l b : Addr} {xs ys zs : List V}

/-! ### the two steps: a tracked list is rewritten, a new list is laid -/
theorem Inv.lset {its its' : List Value} {n : Nat} {f : Array Value → Array Value} {t' : Nat} (I : Inv X pins σ H s) (hH : H l = some (.lst xs))
    (e : s.heap.get? l = some { cls := .type "list", data := .seq its.toArray n }) (hf : f its.toArray = its'.toArray) (hv : Vals ys its') (hz : ys.length ≤ sizeLine) :
    Inv X pins σ (upd H l (.lst ys)) { s with heap := s.heap.update l (Obj.mapSeq f), toks := t' } := by
  have q := PySem.IsL.update e f
  rw [hf] at q
  refine I.write (x := l) (e := l) (by rw [hH]; exact trivial) (.inl rfl) (fun b' u hb hu => (Heap.get?_update_other s.heap (Obj.mapSeq f) (Ne.symm hb)).trans hu) ⟨_, q⟩ ?_
  exact ⟨hz, its', _, hv, q⟩
theorem Inv.lnew {its : List Value} {t' : Nat} (I : Inv X pins σ H s) (hv : Vals ys its) (hz : ys.length ≤ sizeLine) :
    Inv X pins σ (upd H s.heap.objs.size (.lst ys)) { s with heap := s.heap.push { cls := .type "list", data := .seq its.toArray }, toks := t' } :=
  I.laid (fun _ _ q => Heap.get?_push_of_some _ q) (Nat.le_refl _) ⟨hz, its, 0, hv, Heap.get?_push_size _ rfl⟩
theorem Inv.fresh (I : Inv X pins σ H s) : H s.heap.objs.size = none := I.hok.fresh (Nat.le_refl _)
theorem Inv.lstM (I : Inv X pins σ H s) (hH : H l = some (.lst xs)) : xs.length ≤ sizeLine ∧ ∃ (its : List Value) (n : Nat), Vals xs its ∧ xs.length = its.length ∧ s.heap.get? l = some { cls := .type "list", data := .seq its.toArray n } := by
  obtain ⟨z, its, n, r, e⟩ := I.hok l _ hH
  exact ⟨z, its, n, r, r.length, e⟩

theorem notLongL {n : Nat} (h : n ≤ sizeLine) : Builtin.List.listTooLong n = false := by
  unfold Builtin.List.listTooLong
  exact decide_eq_false (by omega)
end

section
variable {X : Cx}

/-! ### methods -/
def rAppend : V → List V → Hp → VK → Prop := fun x vs H Q => ∃ l xs y, x = .ref l ∧ vs = [y] ∧ H l = some (.lst xs) ∧ xs.length < sizeLine ∧ Q .non (upd H l (.lst (xs ++ [y])))
theorem mt_append : MtM X "list.append" rAppend := by
  intro pins s σ H x vs v us Q I rx rv h
  obtain ⟨l, xs, y, rfl, rfl, hH, hz, q⟩ := h
  cases rx
  obtain ⟨u, rfl, ru⟩ := rv.one
  obtain ⟨z, its, n, r, hl, e⟩ := I.lstM hH
  refine call_meets F.slot_list_append ⟨_, e, rfl⟩ F.entry_list_append (F.args_list_append_2 _ _) (PySem.list_append l its.toArray n u (by rw [List.size_toArray]; omega)) ⟨e, ?_⟩
  refine ⟨.non, _, I.lset (its' := its ++ [u]) hH e (by simp) (r.append (.cons ru .nil)) ?_, rfl, q⟩
  rw [List.length_append, List.length_singleton]
  omega

def rExtend : V → List V → Hp → VK → Prop := fun x vs H Q => ∃ l b xs zs, x = .ref l ∧ vs = [.ref b] ∧ H l = some (.lst xs) ∧ H b = some (.lst zs) ∧ xs.length + zs.length ≤ sizeLine ∧ Q .non (upd H l (.lst (xs ++ zs)))
theorem mt_extend : MtM X "list.extend" rExtend := by
  intro pins s σ H x vs v us Q I rx rv h
  obtain ⟨l, b, xs, zs, rfl, rfl, hH, hB, hz, q⟩ := h
  cases rx
  obtain ⟨u, rfl, ru⟩ := rv.one
  cases ru
  obtain ⟨z, its, n, r, hl, e⟩ := I.lstM hH
  obtain ⟨z2, its2, n2, r2, hl2, e2⟩ := I.lstM hB
  have hsz : its.toArray.size + its2.toArray.size ≤ sizeLine := by rw [List.size_toArray, List.size_toArray]; omega
  have hlong : ¬ (!its.toArray.isEmpty && Builtin.List.listTooLong (its.toArray.size + its2.toArray.size)) = true := by
    rw [notLongL hsz, Bool.and_false]
    exact Bool.false_ne_true
  refine call_meets F.slot_list_extend ⟨_, e, rfl⟩ F.entry_list_extend (F.args_list_extend_2 _ _)
    (AutoSeq1.list_extend_list_list_0 l its.toArray n b its2.toArray n2 hlong (by rw [List.size_toArray]; omega) (by omega)) ⟨e, e2, ?_⟩
  refine ⟨.non, _, I.lset (its' := its ++ its2) hH e (by simp) (r.append r2) ?_, rfl, q⟩
  rw [List.length_append]
  omega

def rPop : V → List V → Hp → VK → Prop := fun x vs H Q => ∃ l xs y, x = .ref l ∧ vs = [] ∧ H l = some (.lst xs) ∧ xs[xs.length - 1]? = some y ∧ Q y (upd H l (.lst xs.dropLast))
theorem mt_pop : MtM X "list.pop" rPop := by
  intro pins s σ H x vs v us Q I rx rv h
  obtain ⟨l, xs, y, rfl, rfl, hH, hy, q⟩ := h
  cases rx
  have hus := rv.zero
  subst hus
  obtain ⟨z, its, n, r, hl, e⟩ := I.lstM hH
  obtain ⟨u, hu, ru⟩ := r.get hy
  have hy' : its.toArray[its.toArray.size - 1]? = some u := by
    show its.toArray[its.length - 1]? = some u
    rw [← Array.getElem?_toList, ← hl]
    exact hu
  refine call_meets F.slot_list_pop ⟨_, e, rfl⟩ F.entry_list_pop (F.args_list_pop_1 _) (MeetsSeq.list_pop_last l its.toArray n u hy' (by rw [List.size_toArray]; omega)) ⟨e, ?_⟩
  refine ⟨y, _, I.lset (its' := its.dropLast) hH e ?_ r.dropLast ?_, ru, q⟩
  · show its.toArray.eraseIdxIfInBounds (its.toArray.size - 1) = its.dropLast.toArray
    rw [List.size_toArray, List.eraseIdxIfInBounds_toArray, erase_last]
  · rw [List.length_dropLast]
    omega

def rPopAt : V → List V → Hp → VK → Prop := fun x vs H Q => ∃ l xs i k y, x = .ref l ∧ vs = [.int i] ∧ H l = some (.lst xs) ∧ -(2 ^ 63) ≤ i ∧ i < 2 ^ 63 ∧ seqIndex? i xs.length = some k ∧ xs[k]? = some y ∧ Q y (upd H l (.lst (xs.eraseIdx k)))
theorem mt_popAt : MtM X "list.pop" rPopAt := by
  intro pins s σ H x vs v us Q I rx rv h
  obtain ⟨l, xs, i, k, y, rfl, rfl, hH, h1, h2, hk, hy, q⟩ := h
  cases rx
  obtain ⟨u, rfl, ru⟩ := rv.one
  obtain ⟨t, rfl⟩ := ru
  obtain ⟨z, its, n, r, hl, e⟩ := I.lstM hH
  obtain ⟨w, hw, rw'⟩ := r.get hy
  refine call_meets F.slot_list_pop ⟨_, e, rfl⟩ F.entry_list_pop (F.args_list_pop_2 _ _)
    (MeetsSeq.list_pop_at l its.toArray n i t k w (fitsIndex_both h1 h2) (by rw [List.size_toArray, ← hl]; exact hk) (by rw [← Array.getElem?_toList]; exact hw) (by rw [List.size_toArray]; omega)) ⟨e, ?_⟩
  refine ⟨y, _, I.lset (its' := its.eraseIdx k) hH e ?_ (r.eraseIdx k) ?_, rw', q⟩
  · show its.toArray.eraseIdxIfInBounds k = (its.eraseIdx k).toArray
    rw [List.eraseIdxIfInBounds_toArray]
  · have := len_erase xs k
    omega

def rReverse : V → List V → Hp → VK → Prop := fun x vs H Q => ∃ l xs, x = .ref l ∧ vs = [] ∧ H l = some (.lst xs) ∧ Q .non (upd H l (.lst xs.reverse))
theorem mt_reverse : MtM X "list.reverse" rReverse := by
  intro pins s σ H x vs v us Q I rx rv h
  obtain ⟨l, xs, rfl, rfl, hH, q⟩ := h
  cases rx
  have hus := rv.zero
  subst hus
  obtain ⟨z, its, n, r, hl, e⟩ := I.lstM hH
  refine call_meets F.slot_list_reverse ⟨_, e, rfl⟩ F.entry_list_reverse (F.args_list_reverse_1 _) (AutoSeq1.list_reverse_list_0 l its.toArray n (by rw [List.size_toArray]; omega)) ⟨e, ?_⟩
  refine ⟨.non, _, I.lset (its' := its.reverse) hH e (by simp) r.reverse ?_, rfl, q⟩
  rw [List.length_reverse]
  omega

def rClear : V → List V → Hp → VK → Prop := fun x vs H Q => ∃ l xs, x = .ref l ∧ vs = [] ∧ H l = some (.lst xs) ∧ Q .non (upd H l (.lst []))
theorem mt_clear : MtM X "list.clear" rClear := by
  intro pins s σ H x vs v us Q I rx rv h
  obtain ⟨l, xs, rfl, rfl, hH, q⟩ := h
  cases rx
  have hus := rv.zero
  subst hus
  obtain ⟨z, its, n, r, hl, e⟩ := I.lstM hH
  refine call_meets F.slot_list_clear ⟨_, e, rfl⟩ F.entry_list_clear (F.args_list_clear_1 _) (AutoSeq1.list_clear_list_0 l its.toArray n (by rw [List.size_toArray]; omega)) ⟨e, ?_⟩
  exact ⟨.non, _, I.lset (its' := []) (ys := []) hH e rfl .nil (Nat.zero_le _), rfl, q⟩

/-! ### list + list, list += list, list * int -/
def rCat : R2 := fun x y H Q => ∃ l b xs zs, x = .ref l ∧ y = .ref b ∧ H l = some (.lst xs) ∧ H b = some (.lst zs) ∧ xs.length + zs.length ≤ sizeLine ∧ ∀ p, H p = none → Q (.ref p) (upd H p (.lst (xs ++ zs)))
theorem op_cat : OpR X (binaryOp .Add) rCat := by
  intro pins s σ H x y v u Q I rx ry h
  obtain ⟨l, b, xs, zs, rfl, rfl, hH, hB, hz, q⟩ := h
  cases rx
  cases ry
  obtain ⟨z, its, n, r, hl, e⟩ := I.lstM hH
  obtain ⟨z2, its2, n2, r2, hl2, e2⟩ := I.lstM hB
  refine PySem.P.add_list e e2 ?_ (by rw [List.size_toArray, List.size_toArray]; omega)
  have ea : its.toArray ++ its2.toArray = (its ++ its2).toArray := by simp
  rw [ea]
  exact ⟨.ref _, _, I.lnew (t' := s.toks) (r.append r2) (by rw [List.length_append]; omega), rfl, q _ I.fresh⟩
/-- a list times an int (a negative one is nothing) -/
def rRep : R2 := fun x y H Q => ∃ l k xs, x = .ref l ∧ y = .int k ∧ H l = some (.lst xs) ∧ -(2 ^ 63) ≤ k ∧ k < 2 ^ 63 ∧ xs.length * k.toNat ≤ sizeLine ∧
  ∀ p, H p = none → Q (.ref p) (upd H p (.lst (List.replicate k.toNat xs).flatten))
theorem len_rep {α : Type} (xs : List α) (k : Nat) : (List.replicate k xs).flatten.length = k * xs.length := by
  induction k with
  | zero => simp
  | succ k ih => rw [List.replicate_succ, List.flatten_cons, List.length_append, ih, Nat.succ_mul, Nat.add_comm]
theorem op_rep : OpR X (binaryOp .Mult) rRep := by
  intro pins s σ H x y v u Q I rx ry h
  obtain ⟨l, k, xs, rfl, rfl, hH, h1, h2, hz, q⟩ := h
  cases rx
  obtain ⟨t, rfl⟩ := ry
  obtain ⟨z, its, n, r, hl, e⟩ := I.lstM hH
  have hlen : its.toArray.size * k.toNat ≤ sizeLine := by rw [List.size_toArray, ← hl]; exact hz
  have hcap : ¬ its.toArray.size * k.toNat > (2 ^ 63 - 1) / 8 := by
    have : (sizeLine : Nat) ≤ (2 ^ 63 - 1) / 8 := by decide
    omega
  have hfit : ¬ (!Builtin.List.listFitsIndex k) = true := by
    rw [fitsIndex_both h1 h2]
    exact Bool.false_ne_true
  have hlong : ¬ Builtin.List.listTooLong (its.toArray.size * k.toNat) = true := by
    rw [notLongL hlen]
    exact Bool.false_ne_true
  have hnew : List.foldl (fun x1 x2 => x1 ++ x2) #[] (List.replicate (if its.toArray.isEmpty = true then 0 else k.toNat) its.toArray) = (List.replicate k.toNat its).flatten.toArray := by
    have f0 : ∀ m : Nat, List.foldl (fun x1 x2 => x1 ++ x2) #[] (List.replicate m its.toArray) = (List.replicate m its).flatten.toArray := fun m => by
      have := foldl_rep its m []
      rw [List.nil_append] at this
      exact this
    rw [f0]
    cases its with
    | nil => simp
    | cons a r' => rw [if_neg (by simp)]
  refine wpAny_binaryOp_repeat_ref (T := "list") (U := "int") (by decide) ⟨_, e, rfl⟩ (fun s' => typeIs_int s' k t) noFill_list_mul F.fills_int_mul F.slot_int_rmul repeat_list F.slot_int_index.lookup
    (call_meets F.slot_int_rmul (typeIs_int s k t) F.entry_int_rmul (F.args_int_rmul_2 _ _) (int___rmul___int_list k t l its.toArray n)
      ⟨e, rfl, ⟨_, e, rfl⟩, call_meets F.slot_list_mul ⟨_, e, rfl⟩ F.entry_list_mul (F.args_list_mul_2 _ _) (AutoListH.list___mul___list_int_3 l its.toArray n k t hfit hcap hlong) ⟨e, ?_⟩⟩)
  rw [hnew]
  exact ⟨.ref _, _, I.lnew (t' := s.toks) (r.rep k.toNat) (by rw [len_rep, Nat.mul_comm]; exact hz), rfl, q _ I.fresh⟩

/-! ### del xs[i] -/
theorem del_list {pins : List (Addr × Obj)} {s : Shared} {σ : St} {H : Hp} {l : Addr} {xs : List V} {i : Int} {t : Tok} {k : Nat} {Q : Unit → Shared → Prop} (I : Inv X pins σ H s) (hH : H l = some (.lst xs))
    (h1 : -(2 ^ 63) ≤ i) (h2 : i < 2 ^ 63) (hk : seqIndex? i xs.length = some k) (h : ∀ s', Inv X pins σ (upd H l (.lst (xs.eraseIdx k))) s' → Q () s') :
    wpAny (model X.prog X.w) X.A (delItem (.ref l) (.int i t)) Q X.xe s := by
  obtain ⟨z, its, n, r, hl, e⟩ := I.lstM hH
  refine PySem.P.delItem_list (k := k) e (fitsIndex_both h1 h2) (by rw [List.size_toArray, ← hl]; exact hk) (h _ ?_) (by rw [List.size_toArray]; omega)
  refine I.lset (its' := its.eraseIdx k) (t' := s.toks) hH e ?_ (r.eraseIdx k) ?_
  · show its.toArray.eraseIdxIfInBounds k = (its.eraseIdx k).toArray
    rw [List.eraseIdxIfInBounds_toArray]
  · have := len_erase xs k
    omega
end

/-! ### xs[a:b] = ys -/
section
variable {prog : Program} {w : World} {A : Around} {E : Value → Shared → Prop} {s : Shared}
theorem splice_eq (its its2 : List Value) (a c : Nat) : its.toArray.extract 0 a ++ its2.toArray ++ its.toArray.extract c its.toArray.size = (its.take a ++ its2 ++ its.drop c).toArray := by
  apply Array.toList_inj.mp
  first
    | (simp
       exact List.take_of_length_le (by simp))
    | simp [List.take_of_length_le]
    | simp
theorem bounds_run {a c n : Nat} (hac : a ≤ c) (hc : c ≤ n) : sliceBounds (some (a : Int)) (some (c : Int)) none n = ((a : Int), (c : Int), 1) := by
  simp only [sliceBounds, Option.getD_none]
  have h1 : ¬ ((a : Int) < 0) := by omega
  have h2 : ¬ ((c : Int) < 0) := by omega
  simp only [h1, h2, if_false, show (1 : Int) > 0 by decide, if_true]
  congr 1
  · omega
  · congr 1; omega
set_option maxRecDepth 100000 in
/-- list.__setitem__ with a slice of step one and another list -/
theorem setItem_slice {l b sl : Addr} {items new : Array Value} {n n2 : Nat} {vl vu : Value} {a c : Nat} {Q : Unit → Shared → Prop}
    (e : s.heap.get? l = some { cls := .type "list", data := .seq items n }) (e2 : s.heap.get? b = some { cls := .type "list", data := .seq new n2 }) (hne : l ≠ b)
    (hs : s.heap.IsSliceOf sl vl vu .none) (pl : IsPart vl (some (a : Int))) (pu : IsPart vu (some (c : Int))) (hac : a ≤ c) (hc : c ≤ items.size)
    (hsz : items.size + new.size ≤ sizeLine) (h : Q () { s with heap := s.heap.update l (Obj.mapSeq fun xs => xs.extract 0 a ++ new ++ xs.extract c xs.size) }) :
    wpAny (model prog w) A (setItem (.ref l) (.ref sl) (.ref b)) Q E s := by
  have hl : s.heap.IsList l items := PySem.IsL.isList e
  have hb : s.heap.IsList b new := PySem.IsL.isList e2
  obtain ⟨os, hos, hcs, hds⟩ := id hs
  have hTs : s.TypeIs (.ref sl) "slice" := ⟨os, hos, hcs⟩
  have hstep : ¬ ((rawPart none == rawInt 0) = true) := Bool.false_ne_true
  have hsame : Builtin.List.listSameRef (.ref l) (.ref b) = false := by
    unfold Builtin.List.listSameRef
    exact beq_eq_false_iff_ne.mpr hne
  have hmax : (max (a : Int) (c : Int)).toNat = c := by omega
  have hz' : ((fun xs : Array Value => xs.extract 0 a ++ new ++ xs.extract c xs.size) items).size ≤ sizeLine + 1 := by
    simp only [Array.size_append, Array.size_extract]
    omega
  unfold setItem
  try with_reducible refine wpAny_holding ?_
  first | refine wpAny_bind (wpAny_pure ?_) | skip
  refine wpAny_bind (wpAny_sequenceKey hl.typeIs (by decide) ?_)
  refine wpAny_bind (wpAny_callSpecial?_slot (name := Str.ofString "__setitem__") hl.typeIs slot_list_setitem
    (wpAny_call_entry slot_list_setitem hl.typeIs entry_list_setitem ?_ (args_list_setitem _ _ _)))
  show wpAny _ _ (Builtin.List.listSubscript? (.ref sl) >>= _) _ _ s
  refine wpAny_bind ?_
  unfold Builtin.List.listSubscript?
  refine wpAny_bind (wpAny_specialOf hTs slice_no_index ?_)
  simp only [Option.isNone_none, if_true]
  refine wpAny_pure ?_
  show wpAny _ _ (typeOf (.ref sl) >>= _) _ _ s
  refine wpAny_bind (wpAny_typeOf hTs ?_)
  first
    | rw [if_neg (by decide)]
    | refine PySem.W.KFB.if_not (by decide) ?_
  rw [listSliceParts_eq]
  refine wpAny_bind (wpAny_bind (wpAny_field hos hds (x := .none) rfl (wpAny_bind (wpAny_listPart .none ?_))))
  rw [if_neg hstep]
  refine wpAny_bind (wpAny_field hos hds (x := vl) rfl (wpAny_bind (wpAny_listPart pl ?_)))
  refine wpAny_bind (wpAny_field hos hds (x := vu) rfl (wpAny_bind (wpAny_listPart pu (wpAny_pure ?_))))
  first
    | simp only [hsame, Bool.false_eq_true, if_false]
    | refine PySem.W.KFB.if_not hsame ?_
    | (dsimp only
       rw [if_neg (by rw [hsame]; exact Bool.false_ne_true)])
  refine wpAny_bind (m := Builtin.List.listAllItems (.ref b) "must assign iterable to extended slice") ?_
  unfold Builtin.List.listAllItems
  refine wpAny_bind (wpAny_typeOf hb.typeIs ?_)
  first
    | refine PySem.W.KFB.if_so (by decide) ?_
    | rw [if_pos (by decide)]
    | simp only [beq_self_eq_true, Bool.true_or, if_true]
  unfold Builtin.List.listItems
  refine wpAny_bind (wpAny_seqItems e2 rfl (wpAny_pure ?_))
  refine wpAny_bind (wpAny_bind (wpAny_seqItems e rfl (wpAny_pure ?_)))
  refine wpAny_bind (wpAny_of_eq ((sliceIndices_raw (some (a : Int)) (some (c : Int)) none items.size (by simp)).trans (congrArg (pure : Int × Int × Int → Sem (Int × Int × Int)) (bounds_run hac hc))) ?_)
  show wpAny _ _ (if ((1 : Int) == 1) = true then _ else _) _ _ s
  rw [if_pos (by decide)]
  refine wpAny_bind (wpAny_rule ?_)
  first
    | simp only [notLongL hsz, Bool.false_eq_true, if_false]
    | refine PySem.W.KFB.if_not (notLongL hsz) ?_
  first | refine wpAny_bind (wpAny_pure ?_) | skip
  show wpAny _ _ (updateSeq l (fun xs => xs.extract 0 ((a : Int)).toNat ++ new ++ xs.extract (max (a : Int) (c : Int)).toNat xs.size) >>= _) _ _ s
  rw [hmax, Int.toNat_natCast]
  refine wpAny_bind (wpAny_updateSeq (hz := Nat.le_trans (Nat.le_add_right _ _) hsz) (_hz' := hz') e rfl ?_)
  refine wpAny_bind (wpAny_letGo ?_)
  first
    | exact wpAny_bind (wpAny_pure (wpAny_pure ⟨.none, rfl, wpAny_pure h⟩))
    | exact wpAny_pure ⟨.none, rfl, wpAny_pure h⟩
end

section
variable {X : Cx}
/-- xs[a:c] = ys of another list, at the value level: sl is the slice object that was just made -/
theorem set_slice {pins : List (Addr × Obj)} {s : Shared} {σ : St} {H : Hp} {l b sl : Addr} {xs ys : List V} {a c : Int} {vl vu : Value} {Q : Unit → Shared → Prop} (I : Inv X pins σ H s)
    (hH : H l = some (.lst xs)) (hB : H b = some (.lst ys)) (hne : l ≠ b) (hs : s.heap.IsSliceOf sl vl vu .none) (ra : RelV (.int a) vl) (rc : RelV (.int c) vu) (h0 : 0 ≤ a) (hac : a ≤ c) (hc : c ≤ xs.length)
    (hz : xs.length + ys.length ≤ sizeLine) (h : ∀ s', Inv X pins σ (upd H l (.lst (xs.take a.toNat ++ ys ++ xs.drop c.toNat))) s' → Q () s') :
    wpAny (model X.prog X.w) X.A (setItem (.ref l) (.ref sl) (.ref b)) Q X.xe s := by
  obtain ⟨ta, rfl⟩ := ra
  obtain ⟨tc, rfl⟩ := rc
  obtain ⟨z, its, n, r, hl, e⟩ := I.lstM hH
  obtain ⟨z2, its2, n2, r2, hl2, e2⟩ := I.lstM hB
  obtain ⟨a', rfl⟩ := Int.eq_ofNat_of_zero_le h0
  obtain ⟨c', rfl⟩ := Int.eq_ofNat_of_zero_le (Int.le_trans h0 hac)
  simp only [Int.toNat_natCast] at h
  refine setItem_slice (a := a') (c := c') e e2 hne hs (.int _ _) (.int _ _) (by omega) (by rw [List.size_toArray]; omega) (by rw [List.size_toArray, List.size_toArray]; omega) (h _ ?_)
  refine I.lset (its' := its.take a' ++ its2 ++ its.drop c') (t' := s.toks) hH e ?_ (Vals.append (Vals.append (r.take _) r2) (r.drop _)) ?_
  · exact splice_eq its its2 a' c'
  · rw [List.length_append, List.length_append, List.length_take, List.length_drop]
    omega
end
end L2

namespace Att
open PySem PySem.W PySem.Calls PyProof.Rows

/-! ### the script -/
theorem ints_of_wellAll {P : Params} {h : Heap} : ∀ (ns : List Int) (vs : List Value), WellAll P h vs (ns.map WData.int) → IntsAre vs ns := by
  intro ns
  induction ns with
  | nil =>
    intro vs w
    rw [List.map_nil] at w
    cases w
    exact .nil
  | cons n ns ih =>
    intro vs w
    rw [List.map_cons] at w
    cases w with
    | cons a b =>
      cases a
      exact .cons _ _ (ih _ b)

theorem script_of {l : OpenLaw} {n : Nat} (hn : l.most = some n) {P : Params} {h : Heap} {args : List WData} {vals : List Value}
    (hpre : l.row.toRowW.claim.pre args = true) (hwl : WellAll P h vals args) :
    ∃ a vs ns, vals = [Value.ref a] ∧ args = [WData.list (ns.map WData.int)] ∧ h.get? a = some { cls := .type "list", data := .seq vs.toArray } ∧ IntsAre vs ns ∧ ns.length ≤ n := by
  have hsh : WShape.hasAll [] args [.list .int] = true := (pre_splitW hpre).1
  have hc : l.pre.holds [] { args := args } = true := (pre_splitW hpre).2
  obtain ⟨d, r, rfl, h1, h2⟩ := hasAllW_cons hsh
  obtain rfl := hasAllW_nil h2
  obtain ⟨xs, rfl, h3⟩ := hasW_list h1
  obtain ⟨ns, rfl⟩ := items_int h3
  have hlen : ns.length ≤ n := by
    unfold OpenLaw.pre at hc
    have h4 : (WTm.not (.lt (.lit (.int (n : Int))) (.len (.arg 0)))).holds [] { args := [.list (ns.map .int)] } = true := by
      have h4 := (holds_andW hc).1
      rw [hn] at h4
      exact h4
    have h5 := condW_of h4 (w_not (w_lt w_lit (w_len_list (w_arg rfl))))
    rw [List.length_map] at h5
    refine Nat.le_of_not_lt fun q => ?_
    have q' : (n : Int) < ((ns.length : Nat) : Int) := by omega
    first
      | (rw [decide_eq_true q'] at h5; exact absurd h5 (by decide))
      | (simp at h5; omega)
  cases hwl with
  | cons w1 w2 =>
    cases w2
    cases w1 with
    | list ho hall => exact ⟨_, _, ns, rfl, rfl, ho, ints_of_wellAll ns _ hall, hlen⟩

theorem post_true (l : OpenLaw) (args : List WData) : l.row.toRowW.claim.post args (.bool true) args = true :=
  postW_of (r := l.row.toRowW) (X := (true == true))
    (show WShape.has [] (.bool true) .bool = true by first | rfl | decide | simp [WShape.has, WShape.arms, WShape.armsAll])
    (show (WTm.eq .res (.lit (.bool true))).value [] { args := args, res := some (.bool true), after := args } = some (.bool (true == true)) from w_eq_bool (w_res rfl) w_lit) rfl

/-! ### the attachment: holds_open's last premise (the goal 'hc' behind k_head) from a wpAny of the law's body -/
theorem attach {l : OpenLaw} {n : Nat} {q : Program} {loose : List Str} {XP : (Str → Option Value) → Heap → Prop} {YP : World → Heap → Prop} {d : DefRec} {x : Str}
    (hn : l.most = some n) (hdf : d.params.defaults = [])
    (hbind : ∀ pm cd doc v : Value, bindArgs (docDef d.name d.params d.body d.scope pm cd doc) ⟨[v], []⟩ = pure [(x, v)])
    (hx : d.scope.names.lookup x = some .local ∨ d.scope.names.lookup x = some .cell)
    (hk : d.scope.kind = .function) (hco : d.scope.isCoroutine = false) (hgen : d.scope.isGenerator = false)
    (body : ∀ (w : World) (s₀ s₁ s : Shared) (mg mb : Str → Option Value) (fa : Addr) (o : Obj) (pm cd doc : Value) (a : Addr) (vs : List Value) (ns : List Int),
      Ground q loose [] XP w s₀ mg mb s₁.heap → YP w s₁.heap →
      s₁.heap.get? fa = some o → o.data = .func (docDef d.name d.params d.body d.scope pm cd doc) → s₁.heap.CodeRec cd d.name → mg d.name = some (.ref fa) →
      s₁.heap.get? a = some { cls := .type "list", data := .seq vs.toArray } → IntsAre vs ns → ns.length ≤ n →
      s.gens = #[] → s.os = s₁.os →
      Fr s₁.heap s₁.heap.objs.size s.heap (bindL (envOfC d.name d.scope s₁.heap.objs.size fa cd).kindOf [(x, .ref a)] fun _ => none) →
      Cl s₁.heap.objs.size (cellsFrom (s₁.heap.objs.size + 1) d.scope.names []) s.heap (bindC (envOfC d.name d.scope s₁.heap.objs.size fa cd).kindOf [(x, .ref a)] fun _ => none) →
      wpAny (model l.prog w) (callerA.deeper (envOfC d.name d.scope s₁.heap.objs.size fa cd)) (execs d.body (envOfC d.name d.scope s₁.heap.objs.size fa cd))
        (fun f s' => f = .ret (.bool true) ∧ OldK s₁.heap s'.heap ∧ s'.os = s₁.os ∧ AllBare s'.gens) (fun _ _ => False) s) :
    WalkO q loose XP YP l.row.toRowW d [] (fun f vs => PySem.call f vs) := by
  intro w s₀ s₁ mg mb G Y fa o pm cd doc dV kV ho hd hcd hD hmg hg args vals as hpre hlay hrd hwl hlo
  obtain rfl : dV = .none := Dflts.none hD hdf
  obtain rfl : kV = .none := Dflts.noKw hD
  obtain ⟨a, vs, ns, rfl, rfl, hobj, hints, hlen⟩ := script_of hn hpre hwl
  refine enter_call ?_
  refine call_cells_ret (o := o) (by rw [depth_caller]; decide) ho (fd_plain hd) G.T.nolimit hcd (hbind pm cd doc (.ref a)) (fun y hy => ?_) (fun h₁ tk F X => ?_) hco hgen hk
  · obtain rfl : y = (x, Value.ref a) := List.mem_singleton.mp hy
    rcases hx with e | e
    · exact .inl e
    · exact .inr ⟨e, cellsFrom_some _ _ _ (.inl e)⟩
  · refine wpAny_mono (body w s₀ s₁ { s₁ with heap := h₁, toks := tk } mg mb fa o pm cd doc a vs ns G Y ho (fd_plain hd) hcd hmg hobj hints hlen hg rfl F X) (fun f s' hq => ?_) (fun _ _ hq => hq)
    obtain ⟨rfl, h2, h3, h4⟩ := hq
    exact ⟨.inl ⟨.bool true, .bool true, [], rfl, fun _ => rfl, .bool true, post_true l _, fun _ => ⟨List.Pairwise.nil, fun _ hm => (nomatch hm)⟩⟩, h2, h3, h4⟩

/-- the same from a codeAny of the CALL (for a layer whose function contracts speak of calls) -/
theorem attach_call {l : OpenLaw} {n : Nat} {q : Program} {loose : List Str} {XP : (Str → Option Value) → Heap → Prop} {YP : World → Heap → Prop} {d : DefRec}
    (hn : l.most = some n) (hdf : d.params.defaults = [])
    (call : ∀ (w : World) (s₀ s₁ : Shared) (mg mb : Str → Option Value) (fa : Addr) (o : Obj) (pm cd doc : Value) (a : Addr) (vs : List Value) (ns : List Int),
      Ground q loose [] XP w s₀ mg mb s₁.heap → YP w s₁.heap →
      s₁.heap.get? fa = some o → o.data = .func (docDef d.name d.params d.body d.scope pm cd doc) → s₁.heap.CodeRec cd d.name → mg d.name = some (.ref fa) →
      s₁.heap.get? a = some { cls := .type "list", data := .seq vs.toArray } → IntsAre vs ns → ns.length ≤ n → s₁.gens = #[] →
      codeAny (model l.prog w) callerA (.call (.ref fa) ⟨[.ref a], []⟩) (fun r s' => r = .ok (.ret (.bool true)) ∧ OldK s₁.heap s'.heap ∧ s'.os = s₁.os ∧ AllBare s'.gens) s₁) :
    WalkO q loose XP YP l.row.toRowW d [] (fun f vs => PySem.call f vs) := by
  intro w s₀ s₁ mg mb G Y fa o pm cd doc dV kV ho hd hcd hD hmg hg args vals as hpre hlay hrd hwl hlo
  obtain rfl : dV = .none := Dflts.none hD hdf
  obtain rfl : kV = .none := Dflts.noKw hD
  obtain ⟨a, vs, ns, rfl, rfl, hobj, hints, hlen⟩ := script_of hn hpre hwl
  refine enter_call (codeAny_mono (call w s₀ s₁ mg mb fa o pm cd doc a vs ns G Y ho (fd_plain hd) hcd hmg hobj hints hlen hg) fun r s' hq => ?_)
  obtain ⟨rfl, h2, h3, h4⟩ := hq
  exact ⟨.inl ⟨.bool true, .bool true, [], rfl, fun _ => rfl, .bool true, post_true l _, fun _ => ⟨List.Pairwise.nil, fun _ hm => (nomatch hm)⟩⟩, h2, h3, h4⟩

/-- the same where the top left finished generators (o_head chose holds_openN): nothing may have changed at all and no generator may be left -/
theorem attachN {l : OpenLaw} {n : Nat} {q : Program} {loose : List Str} {XP : (Str → Option Value) → Heap → Prop} {YP : World → Heap → Prop} {d : DefRec} {x : Str}
    (hn : l.most = some n) (hdf : d.params.defaults = [])
    (hbind : ∀ pm cd doc v : Value, bindArgs (docDef d.name d.params d.body d.scope pm cd doc) ⟨[v], []⟩ = pure [(x, v)])
    (hx : d.scope.names.lookup x = some .local ∨ d.scope.names.lookup x = some .cell)
    (hk : d.scope.kind = .function) (hco : d.scope.isCoroutine = false) (hgen : d.scope.isGenerator = false)
    (body : ∀ (w : World) (s₀ s₁ s : Shared) (mg mb : Str → Option Value) (fa : Addr) (o : Obj) (pm cd doc : Value) (a : Addr) (vs : List Value) (ns : List Int),
      Ground q loose [] XP w s₀ mg mb s₁.heap → YP w s₁.heap →
      s₁.heap.get? fa = some o → o.data = .func (docDef d.name d.params d.body d.scope pm cd doc) → s₁.heap.CodeRec cd d.name → mg d.name = some (.ref fa) →
      s₁.heap.get? a = some { cls := .type "list", data := .seq vs.toArray } → IntsAre vs ns → ns.length ≤ n →
      s.gens = #[] → s.os = s₁.os →
      Fr s₁.heap s₁.heap.objs.size s.heap (bindL (envOfC d.name d.scope s₁.heap.objs.size fa cd).kindOf [(x, .ref a)] fun _ => none) →
      Cl s₁.heap.objs.size (cellsFrom (s₁.heap.objs.size + 1) d.scope.names []) s.heap (bindC (envOfC d.name d.scope s₁.heap.objs.size fa cd).kindOf [(x, .ref a)] fun _ => none) →
      wpAny (model l.prog w) (callerA.deeper (envOfC d.name d.scope s₁.heap.objs.size fa cd)) (execs d.body (envOfC d.name d.scope s₁.heap.objs.size fa cd))
        (fun f s' => f = .ret (.bool true) ∧ (∀ b o, s₁.heap.get? b = some o → s'.heap.get? b = some o) ∧ s'.os = s₁.os ∧ s'.gens = #[]) (fun _ _ => False) s) :
    WalkN q loose XP YP l.row.toRowW d [] (fun f vs => PySem.call f vs) := by
  intro w s₀ s₁ mg mb G Y fa o pm cd doc dV kV ho hd hcd hD hmg hg args vals as hpre hlay hrd hwl hlo
  obtain rfl : dV = .none := Dflts.none hD hdf
  obtain rfl : kV = .none := Dflts.noKw hD
  obtain ⟨a, vs, ns, rfl, rfl, hobj, hints, hlen⟩ := script_of hn hpre hwl
  refine enter_callW ?_
  refine call_cells_ret (o := o) (by rw [depth_caller]; decide) ho (fd_plain hd) G.T.nolimit hcd (hbind pm cd doc (.ref a)) (fun y hy => ?_) (fun h₁ tk F X => ?_) hco hgen hk
  · obtain rfl : y = (x, Value.ref a) := List.mem_singleton.mp hy
    rcases hx with e | e
    · exact .inl e
    · exact .inr ⟨e, cellsFrom_some _ _ _ (.inl e)⟩
  · refine wpAny_mono (body w s₀ s₁ { s₁ with heap := h₁, toks := tk } mg mb fa o pm cd doc a vs ns G Y ho (fd_plain hd) hcd hmg hobj hints hlen hg rfl F X) (fun f s' hq => ?_) (fun _ _ hq => hq)
    obtain ⟨rfl, h2, h3, h4⟩ := hq
    exact ⟨.inl ⟨.bool true, .bool true, [], rfl, fun _ => rfl, .bool true, post_true l _, fun _ => ⟨List.Pairwise.nil, fun _ hm => (nomatch hm)⟩⟩, h2, h3, h4⟩

/-! ### rules over ANY heap (no ledger) from facts about the written part K: the library's own take a ledger (News) for what they write -/
section
variable {prog : Program} {w : World} {A : Around} {E : Value → Shared → Prop} {s : Shared} {K : Frag}

/-- a def of the module, or a method (qual 'C.m'), entered: the frame is the next address; cells behind it -/
theorem call_fn {R : Result → Shared → Prop} {name qual : Str} {params : Arguments} {body : List Stmt} {scope : Scope} {dV kV doc pm cdv ct oc : Value} {an od : Option Addr} {osl : Array (Option Value)} {f : Addr} {args : Args} {binds : List (Str × Value)}
    (X : K.In s.heap) (hlim : s.heap.NoLimit) (ho : K.lookup f = some ⟨oc, od, .func (fnOf name qual params body scope dV kV doc pm an cdv ct), osl⟩) (hcd : codeIn K cdv qual = true) (hroom : A.depth < recursionLimit)
    (hbind : BindsTo s (fnOf name qual params body scope dV kV doc pm an cdv ct) args binds)
    (hkind : (binds.all fun y => scope.names.lookup y.1 == some .local || scope.names.lookup y.1 == some .cell) = true)
    (h : ∀ s₁, InCallC s s.heap.objs.size (bindL (envOfC qual scope s.heap.objs.size f cdv).kindOf binds fun _ => none) (cellsFrom (s.heap.objs.size + 1) scope.names [])
        (bindC (envOfC qual scope s.heap.objs.size f cdv).kindOf binds fun _ => none) s₁ →
      wpAny (model prog w) (A.deeper (envOfC qual scope s.heap.objs.size f cdv)) (execs body (envOfC qual scope s.heap.objs.size f cdv))
        (fun fl s' => R (.ok (.ret (match fl with | .ret v => v | _ => .none))) s')
        (fun e s' => wpAny (model prog w) (A.deeper (envOfC qual scope s.heap.objs.size f cdv)) (leaving (envOfC qual scope s.heap.objs.size f cdv) e) (fun _ s'' => R (.error e) s'') (fun e' s'' => R (.error e') s'') s') s₁)
    (hco : scope.isCoroutine = false) (hgen : scope.isGenerator = false) (hk : scope.kind = .function) : codeAny (model prog w) A (.call (.ref f) args) R s := by
  refine codeAny_call_function hroom (X _ _ ho) rfl hco hgen rfl (codeRec_of X hcd) (hbind _ _ _ _ ?_)
  refine wpAny_newFunctionEnv_cells hk (kindsX hkind _) fun env he s₁ x => ?_
  subst he
  exact ⟨hlim.keeps x.toInCall.keep, codeAny_func (h s₁ x)⟩

/-- C(..): dict at size, instance at size + 1, then __init__ -/
theorem make_obj {R : Result → Shared → Prop} {C fI : Addr} {rest : List Value} {kw : List (Str × Value)}
    (X : K.In s.heap) (hm : makesIn K C = true) (hi : findIn K (.ref C) "__init__" = some (some (.ref fI))) (hf : isFn K (.ref fI) = true)
    (h : codeAny (model prog w) (A.under (.builtin "type.__call__" ⟨.ref C :: rest, kw⟩)) (.call (.ref fI) ⟨.ref (s.heap.objs.size + 1) :: rest, kw⟩) (InitBack (s.heap.objs.size + 1) R)
      { s with heap := (s.heap.push emptyDict).push (instObj C s.heap.objs.size) }) : codeAny (model prog w) A (.call (.ref C) ⟨rest, kw⟩) R s := by
  obtain ⟨hh, g, d, t, os⟩ := s
  exact make_core (makes_of X hm) (looks_findIn X hi) (fun self => bind_fn X self (beq_iff_eq.mp hf)) (.inl rfl) h

/-- x.name where the instance's dict holds the name and the class does not -/
theorem get_field {x C : Addr} {ox : Obj} {es : List DictEntry} {n : Nat} {name : Str} {expr : Bool} {v : Value} {Q : Value → Shared → Prop}
    (X : K.In s.heap) (I : PySem.W.InstAt s.heap x ox C (some (dictOf es n))) (hg : plainGet K C name = true) (hh : hasDictIn K C = true) (ha : findIn K (.ref C) name = some none)
    (hl : getL name es = some (some v)) (hv : handedIn v = true) (h : Q v { s with toks := s.toks + 1 }) : wpAny (model prog w) A (getAttr (.ref x) name expr) Q E s :=
  get_value X I (plainGet_of hg).1 (findObj_own hh ha rfl hl) hv h

/-- x.m(..): the method found in the class -/
theorem get_method {x C f : Addr} {ox : Obj} {es : List DictEntry} {n : Nat} {name : Str} {pl : Sem Bool} {Q : Value × List Value → Shared → Prop}
    (X : K.In s.heap) (I : PySem.W.InstAt s.heap x ox C (some (dictOf es n))) (hg : plainGet K C name = true) (hf : findIn K (.ref C) name = some (some (.ref f))) (ht : isFn K (.ref f) = true)
    (hl : getL name es = some none) (h : Q (.ref f, [.ref x]) s) : wpAny (model prog w) A (getMethod (.ref x) name pl) Q E s :=
  method_fn X I (plainGet_of hg).1 (plainGet_of hg).2 hf (beq_iff_eq.mp ht) (by show (lookIn name (dictOf es n)).map _ = _; rw [lookIn_dict, hl]; rfl) h

/-! the whole heap as the ledger: makes every rule that writes through a ledger a rule over any heap -/
def noObjs (h : Heap) : Heap := { h with objs := #[] }
theorem noObjs_get (h : Heap) (b : Addr) : (noObjs h).get? b = none := by
  cases e : (noObjs h).get? b with
  | none => rfl
  | some o => exact absurd (Heap.lt_size e) (Nat.not_lt_zero _)
def ledger (h : Heap) (L d : Addr) : List (Addr × Obj) := (List.range h.objs.size).filterMap fun a => if a = L ∨ a = d then none else (h.get? a).map fun o => (a, o)
theorem mem_ledger {h : Heap} {L d a : Addr} {o : Obj} : (a, o) ∈ ledger h L d ↔ a ≠ L ∧ a ≠ d ∧ h.get? a = some o := by
  unfold ledger
  rw [List.mem_filterMap]
  constructor
  · rintro ⟨b, _, e⟩
    split at e
    · cases e
    · rename_i hb
      obtain ⟨o', ho, e'⟩ := Option.map_eq_some_iff.mp e
      cases e'
      exact ⟨fun q => hb (.inl q), fun q => hb (.inr q), ho⟩
  · rintro ⟨n1, n2, ho⟩
    refine ⟨a, List.mem_range.mpr (Heap.lt_size ho), ?_⟩
    rw [if_neg (show ¬ (a = L ∨ a = d) from fun q => q.elim n1 n2), ho] <;> rfl
theorem news_ledger {h : Heap} {L d : Addr} {od : Obj} (hne : d ≠ L) (ho : h.get? d = some od) : News (noObjs h) L h ([] ++ (d, od) :: ledger h L d) := by
  rintro ⟨a, o⟩ hp
  rcases List.mem_cons.mp hp with e | hp
  · cases e
    exact ⟨ho, hne, noObjs_get _ _⟩
  · obtain ⟨n1, n2, e⟩ := mem_ledger.mp hp
    exact ⟨e, n1, noObjs_get _ _⟩
theorem fr_all {h : Heap} {L : Addr} {m : Str → Option Value} (n : h.Ns L m) : Fr (noObjs h) L h m :=
  ⟨n, fun b o e => (by rw [noObjs_get] at e; cases e), Nat.zero_le _⟩
/-- Upd of the head entry (for append_K, setItem_K ..) -/
theorem upd_ledger {h : Heap} {L d : Addr} {o o' : Obj} : Upd d o o' ((d, o) :: ledger h L d) ((d, o') :: ledger h L d) :=
  .head fun ⟨_, _⟩ hp => (mem_ledger.mp hp).2.1

/-- x.name = v over any heap: L is any namespace of the heap (the frame's, say): its map stays, its object is not told; all else but the dict stays -/
theorem set_field {x C dx L : Addr} {ox : Obj} {m : Str → Option Value} {es es' : List DictEntry} {n n' : Nat} {name : Str} {v : Value} {Q : Unit → Shared → Prop}
    (X : K.In s.heap) (I : PySem.W.InstAt s.heap x ox C (some (dictOf es n))) (hd : ox.dict = some dx) (hL : s.heap.Ns L m) (hne : dx ≠ L)
    (hs : findIn K (.ref C) "__setattr__" = some (some (.builtin "object.__setattr__"))) (hp : plainOver K C = true) (ht : takerIn K C name = some none) (hh : hasDictIn K C = true) (hl : (getL name es).isSome = true)
    (e : (putL name (PyData.keyHash w.params name) (.str name (s.toks + 1)) v es, putN name es n) = (es', n')) (hz : es'.length ≤ 1000)
    (h : ∀ h' : Heap, h'.Ns L m → h'.get? dx = some (dictOf es' n') → (∀ b o, b ≠ dx → b ≠ L → s.heap.get? b = some o → h'.get? b = some o) → Q () { s with heap := h', toks := s.toks + 2 }) :
    wpAny (model prog w) A (setAttr (.ref x) name v) Q E s := by
  obtain ⟨e1, e2⟩ := Prod.mk.inj e
  have hdx : s.heap.get? dx = some (dictOf es n) := by
    have := I.dict
    rw [hd] at this
    exact this
  refine set_plain X I hs (osa_dict (s := { s with toks := s.toks + 1 }) (h₀ := noObjs s.heap) (L := L) (m := m) (od := dictOf es n) (od' := dictOf es' n') (es := es') (n := n') (pre := []) (post := ledger s.heap L dx)
    (fr_all hL) (news_ledger hne hdx) X I hd hp ht hh hl (fun _ q => nomatch q) (fun ⟨_, _⟩ q => (mem_ledger.mp q).2.1) (by rw [putName_dict, e1, e2]) rfl hz fun h' F' N' => ?_)
  exact h h' F'.ns (N'.get (List.Mem.head _)) fun b o n1 n2 ho => N'.get (List.Mem.tail _ (mem_ledger.mpr ⟨n2, n1, ho⟩))
end
end Att

namespace L2
open PySem PySem.Spec PyProof.Rows

theorem vals_ints : ∀ {vs : List Value} {ns : List Int}, IntsAre vs ns → Vals (ns.map V.int) vs
  | _, _, .nil => .nil
  | _, _, .cons n t h => .cons ⟨t, rfl⟩ (vals_ints h)

/-- nothing is tracked but the script, known to the object (or it is an object of the module) -/
def Only (H : Hp) : Prop := ∀ b, H b = none ∨ ∃ o xs, H b = some (.frz o (.lst xs))

/-- THE HEAD: the law's promise, at the heap behind the top. F, the promise of the law's def, may use that base is part of the heap (so K.In base, base.Ns mainGlobals mg stand in Mod) -/
theorem law_call {P : Program} {w : World} {K : PySem.W.Frag} {mg mb : Str → Option Value} {CX : CXT} {k : Nat} {fa a : Addr} {fd : FuncData} {x : Str} {sp : Sp} {s₁ : Shared} {vs : List Value} {ns : List Int}
    (KX : K.In s₁.heap) (hns : s₁.heap.Ns mainGlobals mg) (hb : s₁.heap.Ns builtinsNs mb) (hbb : ∀ x : Str, x ≠ "__name__" → mb x = bootBuiltins x) (hlim : s₁.heap.NoLimit) (hg : s₁.gens = #[])
    (ha : s₁.heap.get? a = some { cls := .type "list", data := .seq vs.toArray }) (hi : IntsAre vs ns) (hl : ns.length ≤ sizeLine) (hr : Room k callerA)
    (F : ∀ base : Heap, K.In base → base.Ns mainGlobals mg → FnOk P w K mg base CX k fa fd [x] sp) (hbind : ∀ (s : Shared) (u : Value), BindsTo s fd ⟨[u], []⟩ [(x, u)])
    (hsp : ∀ H : Hp, Only H → SqL K H a (ns.map V.int) → sp [.ref a] H (fun v _ => v = .bl true) fun _ _ _ => False)
    (hCX : ∀ H e s', CX [] H s₁ (fun _ _ _ => False) e s' → False) :
    codeAny (model P w) callerA (.call (.ref fa) ⟨[.ref a], []⟩) (fun r s' => r = .ok (.ret (.bool true)) ∧ OldK s₁.heap s'.heap ∧ s'.os = s₁.os ∧ AllBare s'.gens) s₁ := by
  have rv := vals_ints hi
  have lenV := hi.length
  -- from an abstract heap in which nothing but the script may be tracked
  have core : ∀ H : Hp, Only H → SqL K H a (ns.map V.int) → HOk P w H s₁.heap → (∀ b, H b ≠ none → b = a) → (H a ≠ none → K.lookup a = none) →
      codeAny (model P w) callerA (.call (.ref fa) ⟨[.ref a], []⟩) (fun r s' => r = .ok (.ret (.bool true)) ∧ OldK s₁.heap s'.heap ∧ s'.os = s₁.os ∧ AllBare s'.gens) s₁ := by
    intro H hO hS hok hA hK
    have base_of : ∀ {b : Addr} {o : Obj}, s₁.heap.get? b = some o → H b = none → (hidT s₁.heap H).get? b = some o := fun e n => hidT_get e n
    have noA : ∀ {b : Addr} {o : Obj} {es : Array DictEntry} {ep : Nat}, s₁.heap.get? b = some o → o.data = .dict es ep → H b = none := fun {b o es ep} e d => by
      cases q : H b with
      | none => rfl
      | some u =>
        have e' : b = a := hA b (by rw [q]; simp)
        subst e'
        rw [ha] at e; cases e
        have d' : Data.seq vs.toArray _ = Data.dict es ep := d
        cases d'
    have nsK : ∀ {b : Addr} {m : Str → Option Value}, s₁.heap.Ns b m → (hidT s₁.heap H).Ns b m := fun {b m} ⟨o, es, ep, e, d, r⟩ => ⟨o, es, ep, base_of e (noA e d), d, r⟩
    have hKb : K.In (hidT s₁.heap H) := fun b o e => base_of (KX b o e) (by
      cases q : H b with
      | none => rfl
      | some u =>
        have e' : b = a := hA b (by rw [q]; simp)
        subst e'
        rw [hK (by rw [q]; simp)] at e; cases e)
    have hM : Mod K mg (hidT s₁.heap H) := ⟨hKb, nsK hns, ⟨mb, nsK hb, hbb⟩, let ⟨mc, h1, h2⟩ := hlim; ⟨mc, nsK h1, h2⟩⟩
    have e0 : Env0 P w K mg (hidT s₁.heap H) callerA [] s₁ H := ⟨rfl, hM, fun b o e => of_hidT e, Nat.le_of_eq (hidT_size _ _), trivial, fun b hb => absurd (show b ∈ ([] : List Addr) from hb) (by simp), hok, .of_eq hg⟩
    refine codeAny_mono ((F _ hKb (nsK hns)).run callerA [] s₁ H ⟨[.ref a], []⟩ [.ref a] [.ref a] _ _ hr e0 (hbind s₁ (.ref a)) (.cons rfl .nil) (hsp H hO hS)) fun r s' h => ?_
    cases r with
    | error e => exact (hCX H e s' h).elim
    | ok fl =>
      cases fl with
      | next => exact False.elim h
      | brk => exact False.elim h
      | cont => exact False.elim h
      | ret u =>
        obtain ⟨v, H', os, bare, un, hok', r', q⟩ := h
        have q' : v = .bl true := q
        subst q'
        obtain rfl : u = Value.bool true := r'
        refine ⟨rfl, OldK.of_keep fun b o e => ?_, os, bare⟩
        cases q : H b with
        | none => exact un.keep b o e q (by intro z; exact absurd (show b ∈ ([] : List Addr) from z) (by simp)) (by simp)
        | some u =>
          rcases hO b with z | ⟨ob, xs, z⟩
          · rw [q] at z; cases z
          · have z2 := un.frzs b ob _ z
            obtain ⟨e1, _⟩ := hok b _ z
            obtain ⟨e2, _⟩ := hok' b _ z2
            rw [e] at e1; cases e1
            exact e2
  cases hk : K.lookup a with
  | some o =>
    -- the script is one of the module's own objects
    have e := KX a o hk
    rw [ha] at e
    cases e
    refine core (fun _ => none) (fun _ => .inl rfl) (.inr ⟨_, vs.toArray, _, hk, rfl, rfl, rfl, by rw [List.size_toArray, lenV]; exact hl, by simpa using rv⟩) (fun b u z => by have z' : (none : Option HO) = some u := z; cases z') (fun b z => absurd rfl z) fun z => absurd rfl z
  | none =>
    refine core (fun b => if b = a then some (.frz { cls := .type "list", data := .seq vs.toArray } (.lst (ns.map V.int))) else none) (fun b => ?_) (.inl (.inr ⟨{ cls := .type "list", data := .seq vs.toArray }, if_pos rfl⟩)) (fun b u z => ?_) (fun b z => ?_) fun _ => hk
    · by_cases hb : b = a
      · exact .inr ⟨_, _, if_pos hb⟩
      · exact .inl (if_neg hb)
    · by_cases hb : b = a
      · have z' := (if_pos hb).symm.trans z
        cases z'
        subst hb
        exact ⟨ha, by rw [List.length_map]; exact hl, vs, _, rv, ha⟩
      · have z' := (if_neg hb).symm.trans z
        cases z'
    · by_cases hb : b = a
      · exact hb
      · exact absurd (if_neg hb) z
end L2

namespace L2
open PySem PySem.Spec PyProof.Rows

abbrev KOf {K : PySem.W.Frag} {h : Heap} (_ : K.In h) : PySem.W.Frag := K

/-- the goal that k_head leaves (case hc), from the law's promise. F gives the function object fd (K's own) once, then the promise over every base -/
theorem walk_of {l : PySem.W.OpenLaw} {n k : Nat} {q : Program} {loose : List Str} {XP : (Str → Option Value) → Heap → Prop} {YP : World → Heap → Prop} {d : DefRec} {K : Params → PySem.W.Frag} {CX : World → CXT} {sp : World → Sp} {x : Str}
    (hn : l.most = some n) (hn2 : n ≤ sizeLine) (hdf : d.params.defaults = []) (hr : Room k callerA)
    (hY : ∀ (w : World) (h : Heap), YP w h → (K w.params).In h)
    (F : ∀ (w : World) (mg : Str → Option Value) (fa : Addr) (h : Heap), (K w.params).In h → h.Ns mainGlobals mg → mg d.name = some (.ref fa) →
      ∃ fd : FuncData, (∀ (s : Shared) (u : Value), BindsTo s fd ⟨[u], []⟩ [(x, u)]) ∧
        ∀ base : Heap, (K w.params).In base → base.Ns mainGlobals mg → FnOk l.prog w (K w.params) mg base (CX w) k fa fd [x] (sp w))
    (hsp : ∀ (w : World) (H : Hp) (a : Addr) (ns : List Int), ns.length ≤ n → Only H → SqL (K w.params) H a (ns.map V.int) → sp w [.ref a] H (fun v _ => v = .bl true) fun _ _ _ => False)
    (hCX : ∀ (w : World) (H : Hp) (s : Shared) (e : Value) (s' : Shared), CX w [] H s (fun _ _ _ => False) e s' → False) :
    PySem.W.WalkO q loose XP YP l.row.toRowW d [] (fun f vs => PySem.call f vs) := by
  refine Att.attach_call hn hdf fun w s₀ s₁ mg mb fa o pm cd doc a vs ns G Y ho hd hcd hmg hobj hints hlen hg => ?_
  have KX := hY w _ Y
  obtain ⟨fd, hb, hF⟩ := F w mg fa _ KX G.T.g hmg
  exact law_call KX G.T.g G.T.b G.T.builtins G.T.nolimit hg hobj hints (Nat.le_trans hlen hn2) hr hF hb (fun H hO hS => hsp w H a ns hlen hO hS) fun H e s' => hCX w H s₁ e s'
/-- the same where the promise hangs on the written part alone: (sp := My.sp_law), no hole under a binder -/
theorem walk_ofK {l : PySem.W.OpenLaw} {n k : Nat} {q : Program} {loose : List Str} {XP : (Str → Option Value) → Heap → Prop} {YP : World → Heap → Prop} {d : DefRec} {K : Params → PySem.W.Frag} {CX : CXT} {sp : PySem.W.Frag → Sp} {x : Str}
    (hn : l.most = some n) (hn2 : n ≤ sizeLine) (hdf : d.params.defaults = []) (hr : Room k callerA)
    (hY : ∀ (w : World) (h : Heap), YP w h → (K w.params).In h)
    (F : ∀ (w : World) (mg : Str → Option Value) (fa : Addr) (h : Heap), (K w.params).In h → h.Ns mainGlobals mg → mg d.name = some (.ref fa) →
      ∃ fd : FuncData, (∀ (s : Shared) (u : Value), BindsTo s fd ⟨[u], []⟩ [(x, u)]) ∧
        ∀ base : Heap, (K w.params).In base → base.Ns mainGlobals mg → FnOk l.prog w (K w.params) mg base CX k fa fd [x] (sp (K w.params)))
    (hsp : ∀ (K : PySem.W.Frag) (H : Hp) (a : Addr) (ns : List Int), ns.length ≤ n → Only H → SqL K H a (ns.map V.int) → sp K [.ref a] H (fun v _ => v = .bl true) fun _ _ _ => False)
    (hCX : ∀ (H : Hp) (s : Shared) (e : Value) (s' : Shared), CX [] H s (fun _ _ _ => False) e s' → False) :
    PySem.W.WalkO q loose XP YP l.row.toRowW d [] (fun f vs => PySem.call f vs) :=
  walk_of (K := K) (CX := fun _ => CX) (sp := fun w => sp (K w.params)) hn hn2 hdf hr hY F (fun w H a ns h1 h2 h3 => hsp (K w.params) H a ns h1 h2 h3) fun _ H s e s' => hCX H s e s'
end L2

/- THE LAST THEOREM (shape; LID, My.* are yours):
   My.Adr: a structure of the addresses that your layer names (classes, functions); My.Txt K t: a structure (Prop) of the equations over K;
   My.txt_mk : {K} {implicit addresses ..} (e1 : nsIn K mainGlobals "law" = some (some (.ref f))) (e2 : K.lookup f = some ⟨oc, od, .func (fnOf "law" "law" params body scope dV kV doc pm an cdv ct), sl⟩) (e3 : codeIn K cdv "law" = true) .. : ∃ t, My.Txt K t

set_option maxRecDepth 100000 in
set_option maxHeartbeats 0 in
theorem PySem.Challenge.cw_LID_holds : PySem.Challenge.rw_LID.Holds := by
  w_on; o_law; k_head; (case hw => w_witness2)
  k_fill
  refine L2.walk_of (l := PySem.Challenge.rw_LID) (n := 63) (k := 40) (x := "script") (CX := fun w => ..) (sp := fun _ => My.sp_law) rfl (by decide) rfl ⟨rfl, by decide, by decide⟩ (fun w h Y => PySem.W.kIn_of Y) ?F ?S ?C
  case F =>
    intro w mg fa h KX G hmg
    have T : ∃ t, My.Txt (L2.KOf KX) t := by
      dsimp only [L2.KOf]                          -- K must stand as «<heap const> w.params» for k_is
      refine' My.txt_mk ?e1 ?e2 ?e3 ..
      (case e1 => PySem.W.k_is)                    -- in the order: a name -> its address -> its object -> its parts
      (case e2 => PySem.W.k_is)
      ..
    obtain ⟨t, T⟩ := T
    have e0 := hmg.symm.trans (PySem.W.mg_of KX G T.law)
    cases e0                                       -- fa is the law's own address
    exact ⟨_, fun s u => .of_eq rfl, fun base kb nb => My.law_fn T kb nb⟩     -- if «.of_eq rfl» comes too early: refine' ⟨_, ?b, fun base kb nb => My.law_fn T kb nb⟩; exact fun s u => .of_eq rfl
  case S => exact fun w H a ns hl hO hS => ..
  case C => exact ..
(the tactic k_is has no namespace: write k_is) -/

/-! SHORT WORDS over the layer: a def of the text, its body, what a loop and a test want. -/
namespace L2
open PySem PySem.Spec PyProof.Rows

/-! ### the text by places -/
/-- the j-th statement of a class's body -/
def inClass (s : Stmt) (j : Nat) : Stmt := match s with
  | .ClassDef _ _ _ body _ _ _ _ _ _ _ => body.getD j (.Pass ⟨0, 0, 0, 0⟩)
  | _ => .Pass ⟨0, 0, 0, 0⟩
def defArgs (s : Stmt) : Arguments := match s with
  | .FunctionDef _ a _ _ _ _ _ _ _ _ => a
  | _ => { posonlyargs := [], args := [], vararg := none, kwonlyargs := [], kw_defaults := [], kwarg := none, defaults := [] }
def defBody (s : Stmt) : List Stmt := match s with
  | .FunctionDef _ _ b _ _ _ _ _ _ _ => b
  | _ => []
def defScope (s : Stmt) : Scope := match s with
  | .FunctionDef _ _ _ _ _ _ sc _ _ _ => sc
  | _ => { kind := .function, names := [], isGenerator := false, isCoroutine := false }

/-! ### no exception leaves a def -/
abbrev CX0 : CXT := fun _ _ _ _ _ _ => False
abbrev E0 : XK := fun _ _ _ => False
theorem pass0 {X : Cx} : Passes CX0 X E0 := fun _ _ _ _ _ _ _ h => h.elim

/-! ### a def (or method) of the text as it stands behind the top -/
structure Fun (K : PySem.W.Frag) (x qual : Str) (st : Stmt) (f : Addr) (fd : FuncData) : Prop where
  ex : ∃ (oc : Value) (od : Option Addr) (kV doc pm : Value) (an : Option Addr) (cdv ct : Value) (osl : Array (Option Value)),
    fd = PySem.W.fnOf x qual (defArgs st) (defBody st) (defScope st) .none kV doc pm an cdv ct ∧ K.lookup f = some ⟨oc, od, .func fd, osl⟩ ∧ PySem.W.codeIn K cdv qual = true
  kp : PySem.W.keepIn K (.ref f) = true
section
variable {P : Program} {w : World} {K : PySem.W.Frag} {mg : Str → Option Value} {base : Heap}
/-- THE RULE for a def: its body as a term of rules, and the reading of that term -/
theorem Fun.ok {x qual : Str} {st : Stmt} {f : Addr} {fd : FuncData} {N ps : List Str} {k : Nat} {sp : Sp} (F : Fun K x qual st f fd) (S : FnScope N ps (defScope st)) (len : ∀ vs H Q E, sp vs H Q E → vs.length = ps.length)
    (hbody : ∀ (cdv : Value) (A : Around) (outer : List Env) (s : Shared) (H : Hp) (vs : List V) (Q : VK) (E : XK), Room k (A.deeper (envOfC qual (defScope st) s.heap.objs.size f cdv)) → sp vs H Q E →
      ∃ t, PSs (cxOf CX0 P w K mg base N qual (defScope st) f cdv A outer s H E).nox (defBody st) t ∧ t { nx := fun _ H' => Q .non H', rt := Q } (start N vs) H) : FnOk P w K mg base CX0 (k + 1) f fd ps sp := by
  obtain ⟨oc, od, kV, doc, pm, an, cdv, ct, osl, rfl, lk, hcd⟩ := F.ex
  refine fn_of lk hcd S len fun A outer s H vs Q E hr hsp => ?_
  obtain ⟨t, h, q⟩ := hbody cdv A outer s H vs Q E hr hsp
  exact ⟨t, h.nox, q⟩
/-- how its arguments bind (no defaults): h is «fun _ _ _ _ _ _ us hl => match us, hl with | [_, _], _ => rfl», one _ a parameter -/
theorem Fun.binds {x qual : Str} {st : Stmt} {f : Addr} {fd : FuncData} {ps : List Str} (F : Fun K x qual st f fd)
    (h : ∀ (kV doc pm : Value) (an : Option Addr) (cdv ct : Value) (us : List Value), us.length = ps.length → bindArgs (PySem.W.fnOf x qual (defArgs st) (defBody st) (defScope st) .none kV doc pm an cdv ct) ⟨us, []⟩ = pure (ps.zip us)) : Binds K fd ps [] := by
  obtain ⟨oc, od, kV, doc, pm, an, cdv, ct, osl, rfl, lk, hcd⟩ := F.ex
  exact .all (h kV doc pm an cdv ct)
theorem fun_mk {x qual : Str} {st : Stmt} {f : Addr} {oc : Value} {od an : Option Addr} {osl : Array (Option Value)} {kV doc pm cdv ct : Value} (l : K.lookup f = some ⟨oc, od, .func (PySem.W.fnOf x qual (defArgs st) (defBody st) (defScope st) .none kV doc pm an cdv ct), osl⟩)
    (c : PySem.W.codeIn K cdv qual = true) (k : PySem.W.keepIn K (.ref f) = true) : Fun K x qual st f (PySem.W.fnOf x qual (defArgs st) (defBody st) (defScope st) .none kV doc pm an cdv ct) := ⟨⟨oc, od, kV, doc, pm, an, cdv, ct, osl, rfl, l, c⟩, k⟩
end
theorem hu_of {A : Around} {k : Nat} (hr : Room k A) : A.units + 1 < cLine := Nat.lt_of_le_of_lt (Nat.add_le_add_left (by decide : 1 ≤ 64) _) hr.units
theorem small1000 {n : Nat} (h : n ≤ 1000) : n < sizeLine := Nat.lt_of_le_of_lt h (by decide)

/-! ### expressions in short: the name that stands in the i-th slot -/
section
variable {X : Cx}
theorem pv (i : Nat) {x : Str} {pos : Pos} (hN : X.N[i]? = some x := by rfl) (hv : Vis X.env.scope x := by first | exact Or.inl rfl | exact Or.inr (Or.inl rfl) | exact Or.inr (Or.inr rfl)) (hd : (x == ("__debug__" : Str)) = false := by decide)
    (hcd : (x == ("__classdict__" : Str)) = false := by decide) : PE X (.Name x pos) (tVar i) := pe_var hN hv hd hcd
end

/-! ### tests -/
theorem iteF {A B : Prop} (h : B) : if false = true then A else B := by
  rw [if_neg Bool.false_ne_true]
  exact h
theorem iteT {A B : Prop} (h : A) : if true = true then A else B := by
  rw [if_pos rfl]
  exact h
theorem ite2 {c A B : Prop} [Decidable c] (h1 : c → A) (h2 : ¬ c → B) : if c then A else B := by
  by_cases h : c
  · rw [if_pos h]
    exact h1 h
  · rw [if_neg h]
    exact h2 h
theorem iteNS {c A B : Prop} [Decidable c] (hc : c) (h : B) : if (!decide c) = true then A else B := by
  rw [decide_eq_true hc]
  exact iteF h

/-! ### heaps -/
/-- all that was tracked is as it was -/
def Same (H H' : Hp) : Prop := ∀ b o, H b = some o → H' b = some o
theorem Same.refl (H : Hp) : Same H H := fun _ _ h => h
theorem Same.trans {H H1 H2 : Hp} (a : Same H H1) (b : Same H1 H2) : Same H H2 := fun c o h => b c o (a c o h)
theorem Same.free {H H' : Hp} (e : Same H H') {l : Addr} (h : H' l = Option.none) : H l = Option.none := by
  cases q : H l with
  | none => rfl
  | some o =>
    rw [e l o q] at h
    cases h
theorem Same.seq {K : PySem.W.Frag} {H H' : Hp} {a : Addr} {xs : List V} (e : Same H H') (h : SqL K H a xs) : SqL K H' a xs := by
  rcases h with (h | ⟨o, h⟩) | h
  · exact .inl (.inl (e _ _ h))
  · exact .inl (.inr ⟨o, e _ _ h⟩)
  · exact .inr h

end L2

/-! EXTENSION A: a list comprehension with one clause, a plain name as its target, at most one test -/
namespace L2
open PySem PySem.Spec PyProof.Rows

section
variable {prog : Program} {w : World} {A : Around} {R : Result → Shared → Prop} {s : Shared}
theorem compLoop_any {elt target iter : Expr} {ifs : List Expr} {scope : Scope} {pos : Pos} {it acc : Value} {env : Env} (I : Nat → Shared → Prop)
    (turn : ∀ n s, I n s → wpAny (model prog w) A (pyNext it) (fun r s₁ => match r with
      | none => R (.ok .next) s₁
      | some v => wpAny (model prog w) A (letOwnedTupleGo target it v) (fun _ s₁' => wpAny (model prog w) A (assign target env v) (fun _ s₂ =>
          wpAny (model prog w) A (forIn ifs true fun c r => if r = true then do let ok ← isTrue c env (eval c env); pure (ForInStep.yield ok) else pure (ForInStep.yield r)) (fun ok s₃ =>
            if ok = true then wpAny (model prog w) A (eval elt env) (fun x s₄ =>
              wpAny (model prog w) A (call (.builtin "list.append") [acc, x]) (fun _ s₅ => ∃ m, m < n ∧ I m s₅) (fun _ _ => False) s₄) (fun _ _ => False) s₃
            else ∃ m, m < n ∧ I m s₃) (fun _ _ => False) s₂) (fun _ _ => False) s₁') (fun _ _ => False) s₁) (fun _ _ => False) s)
    (n : Nat) (h : I n s) :
    codeAny (model prog w) A (.compLoop (.ListComp elt [⟨target, iter, ifs, 0⟩] scope pos) 0 it acc env) R s := by
  refine codeAny_loop rfl I (fun n s hI => ?_) n h
  show wpAny _ A ((compTurn (.ListComp elt [⟨target, iter, ifs, 0⟩] scope pos) 0 it acc env).onRaise (fun x => do noteFrame x env; theTreesLotGoes x)) _ _ s
  refine wpAny_noted ?_
  rw [compTurn_list]
  refine wpAny_bind (wpAny_standAt (wpAny_bind (wpAny_mono (turn n s hI) (fun r s₁ h₁ => ?_) fun _ _ h' => h'.elim)))
  cases r with
  | none => exact wpAny_pure h₁
  | some v =>
    refine wpAny_bind (wpAny_mono h₁ (fun _ s₁' h₁' => ?_) fun _ _ h' => h'.elim)
    refine wpAny_bind (wpAny_mono h₁' (fun _ s₂ h₂ => wpAny_bind (wpAny_mono h₂ (fun ok s₃ h₃ => ?_) fun _ _ h' => h'.elim)) fun _ _ h' => h'.elim)
    cases ok with
    | false => exact wpAny_pure ⟨rfl, h₃⟩
    | true =>
      exact wpAny_bind (wpAny_bind (wpAny_mono h₃ (fun x s₄ h₄ => wpAny_bind (wpAny_mono h₄ (fun _ s₅ h₅ => wpAny_pure (wpAny_pure ⟨rfl, h₅⟩)) fun _ _ h' => h'.elim)) fun _ _ h' => h'.elim))
end

/-- the context of a comprehension's block: entered at s (the accumulator laid), its names at C -/
def Cx.blk (X : Cx) (cs : Scope) (cl : List (Str × Addr)) (N : List Str) (C : Addr) (fp : List Addr) (s : Shared) (H : Hp) : Cx where
  prog := X.prog
  w := X.w
  K := X.K
  mg := X.mg
  base := X.base
  A := X.A
  N := N
  s₀ := s
  H₀ := H
  env := compEnvC cs cl C X.env
  outer := X.stack
  stack := X.stack
  ex := fp
  fn := fun _ => false
  calm := X.calm
  pn := []
  xe := fun _ _ => False

/-- what the block's scope must have; caps: the names read from around, with their slots there -/
structure CompScope (X : Cx) (cs : Scope) (cl : List (Str × Addr)) (x : Str) (caps : List (Str × Nat)) : Prop where
  clos : closureFor cs X.env = pure cl
  sub : ∀ y c, cl.lookup y = some c → X.env.cells.lookup y = some c
  kind : cs.kind = .function
  nocell : ∀ y ∈ cs.names, y.2 ≠ .cell
  names : ∀ y ∈ cs.names, y.2 = .local → cs.names.lookup y.1 = some .local
  has : ∀ y, (relabel cs X.env).names.lookup y = some .cell ∨ (relabel cs X.env).names.lookup y = some .free → ∃ c, cl.lookup y = some c
  var : cs.names.lookup x = some .local
  nd : (x :: caps.map (·.1)).Nodup
  capN : ∀ p ∈ caps, X.N[p.2]? = some p.1
  capK : ∀ p ∈ caps, ((relabel cs X.env).names.lookup p.1 = some .cell ∨ (relabel cs X.env).names.lookup p.1 = some .free) ∧ (X.env.kindOf p.1 = some .cell ∨ X.env.kindOf p.1 = some .free)

/-! ### the scope by computation -/
def closL (cells : List (Str × Addr)) : List (Str × NameKind) → List (Str × Addr) → Option (List (Str × Addr))
  | [], acc => some acc
  | (n, k) :: r, acc => if k = .free then (match cells.lookup n with | some c => closL cells r ((n, c) :: acc) | none => none) else closL cells r acc
theorem closL_for {env : Env} : ∀ (names : List (Str × NameKind)) (acc cl : List (Str × Addr)), closL env.cells names acc = some cl →
    (forIn names acc fun (x : Str × NameKind) (c : List (Str × Addr)) => if (x.2 == NameKind.free) = true then (do let a ← cellOf env x.1; pure (ForInStep.yield ((x.1, a) :: c))) else pure (ForInStep.yield c) : Sem (List (Str × Addr))) = pure cl
  | [], acc, cl, h => by cases h; rfl
  | (n, k) :: r, acc, cl, h => by
    rw [List.forIn_cons]
    unfold closL at h
    by_cases hk : k = .free
    · rw [if_pos hk] at h
      have hb : (k == NameKind.free) = true := by simp [hk]
      simp only [hb, if_true]
      cases q : env.cells.lookup n with
      | none => rw [q] at h; cases h
      | some c =>
        rw [q] at h
        have e : cellOf env n = pure c := by unfold cellOf; rw [q]
        rw [e]
        exact closL_for r _ cl h
    · rw [if_neg hk] at h
      have hb : (k == NameKind.free) = false := by simpa using hk
      simp only [hb, Bool.false_eq_true, if_false]
      exact closL_for r _ cl h
theorem closureFor_of {cs : Scope} {env : Env} {cl : List (Str × Addr)} (h : closL env.cells cs.names [] = some cl) : closureFor cs env = pure cl := by
  have e := closL_for (env := env) cs.names [] cl h
  have e2 : closureFor cs env = ((forIn cs.names ([] : List (Str × Addr)) fun (x : Str × NameKind) (c : List (Str × Addr)) => if (x.2 == NameKind.free) = true then (do let a ← cellOf env x.1; pure (ForInStep.yield ((x.1, a) :: c))) else pure (ForInStep.yield c) : Sem (List (Str × Addr))) >>= pure) := by
    unfold closureFor
    rfl
  rw [e2, e]
  rfl
theorem closL_mem {cells : List (Str × Addr)} : ∀ (names : List (Str × NameKind)) (acc cl : List (Str × Addr)), closL cells names acc = some cl →
    (∀ y c, (y, c) ∈ cl → (y, c) ∈ acc ∨ cells.lookup y = some c) ∧ (∀ p ∈ acc, p ∈ cl) ∧ ∀ y, (y, NameKind.free) ∈ names → ∃ c, (y, c) ∈ cl
  | [], acc, cl, h => by cases h; exact ⟨fun y c h => .inl h, fun p h => h, fun y h => nomatch h⟩
  | (n, k) :: r, acc, cl, h => by
    unfold closL at h
    by_cases hk : k = .free
    · rw [if_pos hk] at h
      cases q : cells.lookup n with
      | none => rw [q] at h; cases h
      | some c =>
        rw [q] at h
        obtain ⟨h1, h2, h3⟩ := closL_mem r _ cl h
        refine ⟨fun y d hd => ?_, fun p hp => h2 p (List.mem_cons_of_mem _ hp), fun y hy => ?_⟩
        · rcases h1 y d hd with z | z
          · rcases List.mem_cons.mp z with z | z
            · cases z; exact .inr q
            · exact .inl z
          · exact .inr z
        · rcases List.mem_cons.mp hy with z | z
          · cases z; exact ⟨c, h2 _ List.mem_cons_self⟩
          · exact h3 y z
    · rw [if_neg hk] at h
      obtain ⟨h1, h2, h3⟩ := closL_mem r _ cl h
      refine ⟨h1, h2, fun y hy => ?_⟩
      rcases List.mem_cons.mp hy with z | z
      · cases z; exact absurd rfl hk
      · exact h3 y z
theorem mem_of_lookup {α : Type} : ∀ {l : List (Str × α)} {y : Str} {c : α}, l.lookup y = some c → (y, c) ∈ l
  | (n, d) :: r, y, c, h => by
    rw [List.lookup_cons] at h
    cases q : y == n with
    | true => rw [q] at h; cases h; rw [beq_iff_eq.mp q]; exact List.mem_cons_self
    | false => rw [q] at h; exact List.mem_cons_of_mem _ (mem_of_lookup h)
theorem lookup_of_mem {α : Type} : ∀ {l : List (Str × α)} {y : Str} {c : α}, (y, c) ∈ l → ∃ d, l.lookup y = some d
  | (n, d) :: r, y, c, h => by
    rw [List.lookup_cons]
    cases q : y == n with
    | true => exact ⟨d, rfl⟩
    | false =>
      rcases List.mem_cons.mp h with z | z
      · cases z; simp at q
      · exact lookup_of_mem z
theorem relabel_back {env : Env} : ∀ {names : List (Str × NameKind)} {y : Str} {k : NameKind}, (names.map fun (n, k) => if (k == NameKind.free && env.scope.kind == .function && env.kindOf n == some .cell) then (n, NameKind.cell) else (n, k)).lookup y = some k →
    ∃ k', names.lookup y = some k' ∧ (k' = k ∨ k' = .free)
  | (n, k') :: r, y, k, h => by
    have ih := @relabel_back env r y k
    rw [List.map_cons] at h
    rw [List.lookup_cons]
    by_cases hc : (k' == NameKind.free && env.scope.kind == .function && env.kindOf n == some .cell) = true
    · dsimp only at h
      rw [if_pos hc, List.lookup_cons] at h
      have hf : k' = .free := by
        simp only [Bool.and_eq_true, beq_iff_eq] at hc
        exact hc.1.1
      cases q : y == n with
      | true => exact ⟨k', rfl, .inr hf⟩
      | false => rw [q] at h; exact ih h
    · dsimp only at h
      rw [if_neg hc, List.lookup_cons] at h
      cases q : y == n with
      | true => rw [q] at h; cases h; exact ⟨k', rfl, .inl rfl⟩
      | false => rw [q] at h; exact ih h
theorem relabel_free {env : Env} : ∀ {names : List (Str × NameKind)} {y : Str}, names.lookup y = some .free → (names.map fun (n, k) => if (k == NameKind.free && env.scope.kind == .function && env.kindOf n == some .cell) then (n, NameKind.cell) else (n, k)).lookup y = some .cell ∨
    (names.map fun (n, k) => if (k == NameKind.free && env.scope.kind == .function && env.kindOf n == some .cell) then (n, NameKind.cell) else (n, k)).lookup y = some .free
  | (n, k') :: r, y, h => by
    have ih := @relabel_free env r y
    rw [List.map_cons]
    rw [List.lookup_cons] at h
    by_cases hc : (k' == NameKind.free && env.scope.kind == .function && env.kindOf n == some .cell) = true
    · dsimp only
      rw [if_pos hc, List.lookup_cons]
      cases q : y == n with
      | true => exact .inl rfl
      | false => rw [q] at h; exact ih h
    · dsimp only
      rw [if_neg hc, List.lookup_cons]
      cases q : y == n with
      | true => rw [q] at h; cases h; exact .inr rfl
      | false => rw [q] at h; exact ih h
def compOk (cs : Scope) (x : Str) : Bool := (cs.kind == .function) && cs.names.all (fun y => y.2 != .cell) && cs.names.all (fun y => y.2 != .local || cs.names.lookup y.1 == some .local) && cs.names.lookup x == some .local
def capsOk (N : List Str) (outer inner : List (Str × NameKind)) (caps : List (Str × Nat)) : Bool := caps.all fun p => N[p.2]? == some p.1 && inner.lookup p.1 == some .free && (outer.lookup p.1 == some .cell || outer.lookup p.1 == some .free)
theorem comp_scope {X : Cx} {cs : Scope} {cl : List (Str × Addr)} {x : Str} {caps : List (Str × Nat)} (clos : closL X.env.cells cs.names [] = some cl) (ok : compOk cs x = true) (nd : (x :: caps.map (·.1)).Nodup)
    (cap : capsOk X.N X.env.scope.names cs.names caps = true) : CompScope X cs cl x caps := by
  simp only [compOk, Bool.and_eq_true, List.all_eq_true, beq_iff_eq, bne_iff_ne, ne_eq, Bool.or_eq_true] at ok
  obtain ⟨⟨⟨k1, k2⟩, k3⟩, k4⟩ := ok
  simp only [capsOk, List.all_eq_true, Bool.and_eq_true, beq_iff_eq, Bool.or_eq_true] at cap
  obtain ⟨m1, m2, m3⟩ := closL_mem cs.names [] cl clos
  exact
    { clos := closureFor_of clos
      sub := fun y c h => by
        rcases m1 y c (mem_of_lookup h) with z | z
        · cases z
        · exact z
      kind := k1
      nocell := fun y hy => k2 y hy
      names := fun y hy hl => (k3 y hy).resolve_left fun z => z hl
      has := fun y h => by
        have key : ∀ k, (relabel cs X.env).names.lookup y = some k → (k = .cell ∨ k = .free) → ∃ c, cl.lookup y = some c := fun k h hk => by
          obtain ⟨k', h1, h2⟩ := relabel_back h
          have mem := mem_of_lookup h1
          have hf : k' = .free := by
            rcases h2 with z | z
            · subst z
              rcases hk with z | z
              · exact absurd z (k2 _ mem)
              · exact z
            · exact z
          subst hf
          obtain ⟨c, hc⟩ := m3 y mem
          exact lookup_of_mem hc
        rcases h with h | h
        · exact key _ h (.inl rfl)
        · exact key _ h (.inr rfl)
      var := k4
      nd := nd
      capN := fun p hp => (cap p hp).1.1
      capK := fun p hp => ⟨relabel_free (cap p hp).1.2, (cap p hp).2⟩ }

/-- the block's slots: the loop's name, then the captured -/
def capSt (σ : St) (caps : List (Str × Nat)) : St := caps.map fun p => (σ[p.2]?).join

/-- W: by the turn and a measure; D: where the new list lies -/
def CompW (caps : List (Str × Nat)) (tt : TT) (te : TE) (σ : St) (Q : VK) (J : It) (H1 : Hp) : Prop := ∀ D, H1 D = none → ∃ W : Nat → Nat → Hp → Prop, (∃ m, W 0 m (upd H1 D (.lst []))) ∧ ∀ i m H, W i m H →
  (J.stop i H ∧ Q (.ref D) H) ∨ (J.go i H ∧ ∀ x H', J.yld i H x H' → tt (some x :: capSt σ caps) H' fun b H2 => if b = true then
      te (some x :: capSt σ caps) H2 fun y H3 => ∃ acc, H3 D = some (.lst acc) ∧ acc.length < sizeLine ∧ ∃ m', m' < m ∧ W (i + 1) m' (upd H3 D (.lst (acc ++ [y])))
    else ∃ m', m' < m ∧ W (i + 1) m' H2)
def tComp (wi : TI) (caps : List (Str × Nat)) (tt : TT) (te : TE) : TE := fun σ H Q => wi σ H (CompW caps tt te σ Q)

/-- the tests of a clause -/
def PTs (X : Cx) (ifs : List Expr) (t : TT) : Prop :=
  ∀ (pins : List (Addr × Obj)) (s : Shared) (σ : St) (H : Hp) (Q : Bool → Hp → Prop), Inv X pins σ H s → t σ H Q →
    wpAny (model X.prog X.w) X.A (forIn ifs true fun c r => if r = true then do let ok ← isTrue c X.env (eval c X.env); pure (ForInStep.yield ok) else pure (ForInStep.yield r)) (TP X pins σ Q) X.xe s
def ttNil : TT := fun _ H Q => Q true H
theorem pts_nil {X : Cx} : PTs X [] ttNil := fun _ _ _ H _ I h => wpAny_tests_nil ⟨H, I, h⟩
theorem pts_one {X : Cx} {c : Expr} {t : TT} (h : PT X c t) : PTs X [c] t := fun pins s σ H Q I q => wpAny_tests_one (h pins s σ H Q I q)

section
variable {X : Cx} {cs : Scope} {cl : List (Str × Addr)} {x : Str} {px pos : Pos} {caps : List (Str × Nat)} {iter elt : Expr} {ifs : List Expr} {wi : TI} {tt : TT} {te : TE}

/-- the block runs, from the accumulator's laying on: behind it the abstract heap and, of the block's names, that they lie at C -/
theorem comp_run {pins : List (Addr × Obj)} {σ : St} {H2 : Hp} {s2 : Shared} {it : Addr} {fp : List Addr} {tn : Nat → Heap → Prop} {J : It} {Q : V → Hp → Prop} {E : Value → Shared → Prop} {RR : Value → Addr → Result → Shared → Prop} (S : CompScope X cs cl x caps)
    (hc : X.calm = true) (ht : ∀ C fp s H, PTs (X.blk cs cl (x :: caps.map (·.1)) C fp s H) ifs tt) (he : ∀ C fp s H, PE (X.blk cs cl (x :: caps.map (·.1)) C fp s H) elt te)
    (I2 : Inv X pins σ H2 s2) (T : Turn X.prog X.w X.K (.Name x px) J fp it tn) (st2 : tn 0 s2.heap) (f2 : ∀ b ∈ fp, FpOk X pins H2 b)
    (hW : ∀ D, H2 D = none → ∃ W : Nat → Nat → Hp → Prop, (∃ m, W 0 m (upd H2 D (.lst []))) ∧ ∀ i m H, W i m H →
      (J.stop i H ∧ Q (.ref D) H) ∨ (J.go i H ∧ ∀ x H', J.yld i H x H' → tt (some x :: capSt σ caps) H' fun b H2 => if b = true then
        te (some x :: capSt σ caps) H2 fun y H3 => ∃ acc, H3 D = some (.lst acc) ∧ acc.length < sizeLine ∧ ∃ m', m' < m ∧ W (i + 1) m' (upd H3 D (.lst (acc ++ [y])))
      else ∃ m', m' < m ∧ W (i + 1) m' H2))
    (hR : ∀ D C H' s' m, Inv X pins σ H' s' → Q (.ref D) H' → s'.heap.Ns C m → H' C = none → C ≠ X.env.locals → X.s₀.heap.objs.size ≤ C → (∀ x c, X.env.cells.lookup x = some c → c ≠ C) → (∀ p ∈ X.pn ++ pins, p.1 ≠ C) → RR (.ref D) C (.ok .next) s') :
    wpAny (model X.prog X.w) X.A (newList []) (fun acc s₃ => wpAny (model X.prog X.w) X.A (newFunctionEnv cs X.env.globals cl [] X.env.qual none .none (some X.env)) (fun cenv s₄ =>
      codeAny (model X.prog X.w) X.A (.compStart (.ListComp elt [⟨.Name x px, iter, ifs, 0⟩] cs pos) 0 (.ref it) acc { cenv with scope := relabel cs X.env }) (RR acc cenv.locals) s₄) E s₃) E s2 := by
  refine wpAny_newObj_type (wpAny_newFunctionEnv S.nocell (by intro y hy; simp at hy) (fun h4 hns4 hsb4 => ?_) S.kind)
  dsimp only at hns4 hsb4 ⊢
  have I3 : Inv X pins σ (upd H2 s2.heap.objs.size (.lst [])) { s2 with heap := s2.heap.push { cls := .type "list", data := .seq ([] : List Value).toArray } } := I2.lnew (t' := s2.toks) (ys := []) (its := []) .nil (Nat.zero_le _)
  obtain ⟨W, ⟨m0, w0⟩, turn⟩ := hW s2.heap.objs.size I2.fresh
  -- the state with the accumulator; C: where the block's names lie
  generalize hs3 : ({ s2 with heap := s2.heap.push { cls := .type "list", data := .seq ([] : List Value).toArray } } : Shared) = s3 at I3
  have eh3 : s3.heap = s2.heap.push { cls := .type "list", data := .seq ([] : List Value).toArray } := by rw [← hs3]
  have eh3' : (s2.heap.push { cls := .type "list", dict := none, data := .seq ([] : List Value).toArray }) = s3.heap := eh3.symm
  simp only [eh3'] at hns4 hsb4 ⊢
  have e4 : ({ s2 with heap := h4, toks := s2.toks + ([] : List (Str × Value)).length } : Shared) = { s3 with heap := h4, toks := s3.toks } := by rw [← hs3]; rfl
  have hD3 : s2.heap.objs.size < s3.heap.objs.size := by rw [eh3, Heap.size_push]; exact Nat.lt_succ_self _
  have kold : ∀ b u, s3.heap.get? b = some u → h4.get? b = some u := fun b u e => hsb4.extBut b u (Nat.ne_of_lt (Heap.lt_size e)) (Heap.get?_push_of_some _ e)
  have k23 : ∀ b u, s2.heap.get? b = some u → s3.heap.get? b = some u := fun b u e => by rw [eh3]; exact Heap.get?_push_of_some _ e
  have fpl : ∀ b ∈ fp, b < s2.heap.objs.size := fun b hb => let ⟨_, e, _⟩ := T.obj _ _ st2 b hb; Heap.lt_size e
  generalize hH3 : upd H2 s2.heap.objs.size (.lst []) = H3 at I3 w0
  have fr3 : ∀ b ∈ fp, H3 b = none := fun b hb => by rw [← hH3, upd_ne (Nat.ne_of_lt (fpl b hb))]; exact (f2 b hb).1
  generalize hD : s2.heap.objs.size = D at *
  generalize hC : s3.heap.objs.size = C at *
  have ok := I3.ok
  have fsX : ∀ b ∈ fp, b ∉ frs X.stack := fun b hb h => by
    rcases List.mem_cons.mp (I3.stkSub b h) with e | e
    · exact (f2 b hb).2.1 e
    · exact (f2 b hb).2.2.1 e
  have ok' : (X.blk cs cl (x :: caps.map (·.1)) C fp s3 H3).Ok :=
    { mod := ok.mod, kind := S.kind, glob := ok.glob, blt := ok.blt, above := Nat.le_of_eq hC
      inj := fun y z c a b => ok.inj y z c (S.sub y c a) (S.sub z c b)
      has := fun y h => S.has y h
      cab := fun y c h => nomatch h
      hd := ok.hd, frames := ok.frames, stk := .inl rfl
      exf := fun b hb => ⟨Nat.ne_of_lt (Nat.lt_trans (fpl b hb) hD3), fun y c e => (f2 b hb).2.2.2.2.1 y c (S.sub y c e)⟩
      bs := fun b o e => I3.bs b o e
      bsz := Nat.le_trans ok.bsz I3.sz
      noex := fun b o e hb => by
        rcases (f2 b hb).2.2.2.1 with q | q
        · exact ok.noex b o e q
        · exact absurd (Heap.lt_size (ok.bs b o e).1) (Nat.not_lt.mpr q)
      exfs := fsX
      funs := I3.stack, frf := I3.stkFree }
  have I4 : Inv (X.blk cs cl (x :: caps.map (·.1)) C fp s3 H3) [] (none :: capSt σ caps) H3 { s3 with heap := h4, toks := s3.toks } :=
    { ok := ok', os := rfl, bare := I3.bare, base := Un.kept kold
      loc := by
        refine ⟨_, hns4, fun i y v hN hσ _ => ?_⟩
        cases i with
        | zero => exact absurd hσ (by simp)
        | succ i =>
          have hN' : (caps.map (·.1))[i]? = some y := hN
          have hσ' : (caps.map fun p => (σ[p.2]?).join)[i]? = some (some v) := hσ
          rw [List.getElem?_map] at hN' hσ'
          obtain ⟨p, hp, rfl⟩ := Option.map_eq_some_iff.mp hN'
          rw [hp, Option.map_some] at hσ'
          have hj : (σ[p.2]?).join = some v := Option.some.inj hσ'
          have hj' : σ[p.2]? = some (some v) := by
            cases q : σ[p.2]? with
            | none => rw [q] at hj; cases hj
            | some o => rw [q] at hj; exact congrArg some hj
          have mem : p ∈ caps := List.mem_of_getElem? hp
          obtain ⟨m, _, hl⟩ := I3.loc
          obtain ⟨k1, k2⟩ := S.capK p mem
          obtain ⟨u, ru, hlk⟩ := hl p.2 p.1 v (S.capN p mem) hj' (k2.elim (fun q => .inr (.inl q)) fun q => .inr (.inr q))
          refine ⟨u, ru, ?_⟩
          rcases hlk with ⟨q, _⟩ | ⟨_, c, hc1, hc2⟩
          · rcases k2 with k | k <;> (rw [q] at k; cases k)
          · obtain ⟨c', hc'⟩ := S.has p.1 k1
            have e : c' = c := Option.some.inj ((S.sub p.1 c' hc').symm.trans hc1)
            subst e
            exact .inr ⟨k1, c', hc', hc2.keeps kold⟩
      cell := fun y c e => let ⟨v, q⟩ := I3.cell y c (S.sub y c e); ⟨v, q.keeps kold⟩
      free := by have q := I3.fresh; rw [hC] at q; exact q
      freeC := fun y c e => I3.freeC y c (S.sub y c e)
      pin := fun p hp => absurd hp (by simp [Cx.blk])
      hok := I3.hok.kept kold
      len := by simp [capSt, Cx.blk] }
  have loop : codeAny (model X.prog X.w) X.A (.compLoop (.ListComp elt [⟨.Name x px, iter, ifs, 0⟩] cs pos) 0 (.ref it) (.ref D) (compEnvC cs cl C X.env)) (RR (.ref D) C) { s3 with heap := h4, toks := s3.toks } := by
    have stat : ∀ {H' : Hp}, (∀ b ∈ fp, H' b = none) → ∀ b ∈ fp, FpOk (X.blk cs cl (x :: caps.map (·.1)) C fp s3 H3) [] H' b := fun hn b hb => ⟨hn b hb, (ok'.exf b hb).1, fsX b hb, .inl hb, (ok'.exf b hb).2, fun p hp => absurd hp (by simp [Cx.blk])⟩
    refine compLoop_any (fun n s' => ∃ i H', Inv (X.blk cs cl (x :: caps.map (·.1)) C fp s3 H3) [] (none :: capSt σ caps) H' s' ∧ tn i s'.heap ∧ (∀ b ∈ fp, H' b = none) ∧ W i n H') ?_ m0
      ⟨0, H3, I4, T.keep _ _ _ st2 (fun b hb o e => kold b o (k23 b o e)), fr3, w0⟩
    rintro n s5 ⟨i, H5, I5, st5, fr5, w5⟩
    rcases turn i n H5 w5 with ⟨stop, qn⟩ | ⟨go, step⟩
    · refine thn (T.done (X.blk cs cl (x :: caps.map (·.1)) C fp s3 H3) rfl rfl rfl hc i [] s5 _ H5 _ I5 (stat fr5) st5 stop) fun r s6 ⟨hr, I6⟩ => ?_
      subst hr
      obtain ⟨m, hn6, _⟩ := I6.loc
      have IX : Inv X pins σ H5 s6 := I3.call' (s' := s6) I6.os I6.base I6.hok I6.bare fun b hb => ⟨(f2 b hb).2.2.2.1, (f2 b hb).2.1, (f2 b hb).2.2.2.2.1, (f2 b hb).2.2.2.2.2⟩
      refine hR D C H5 s6 m IX qn hn6 I6.free ?_ ?_ ?_ ?_
      · rw [← hC]; exact Nat.ne_of_gt I3.lt
      · rw [← hC]; exact I3.sz
      · intro y c e
        obtain ⟨_, o, q, _⟩ := I3.cell y c e
        rw [← hC]; exact Nat.ne_of_lt (Heap.lt_size q)
      · intro p hp
        rw [← hC]; exact Nat.ne_of_lt (Heap.lt_size (I3.pin p hp).1)
    · refine thn (T.item (X.blk cs cl (x :: caps.map (·.1)) C fp s3 H3) rfl rfl rfl hc i [] s5 _ H5 _ I5 (stat fr5) st5 go) fun r s6 ⟨u, hr, h6⟩ => ?_
      subst hr
      refine thn h6 fun _ s7 ⟨v, H7, I7, r7, y7, st7, fr7⟩ => ?_
      have I7' := I7.pinned (stat fr7) (T.obj _ _ st7)
      have lv : (relabel cs X.env).names.lookup x = some .local := lookup_relabel_local S.var
      have pg : PG (X.blk cs cl (x :: caps.map (·.1)) C fp s3 H3) (.Name x px) (gName 0) := pg_name S.nd rfl (.inl lv) (.inr lv)
      refine thn (pg _ s7 _ H7 v u (fun σ' H' => σ' = some v :: capSt σ caps ∧ H' = H7) I7' r7 ⟨rfl, rfl⟩) fun _ s8 ⟨σ8, H8, I8, e8, e8'⟩ => ?_
      subst e8 e8'
      have again : ∀ {H9 : Hp} {s9 : Shared} {m' : Nat}, Inv (X.blk cs cl (x :: caps.map (·.1)) C fp s3 H3) ([] ++ pinsAt fp s7.heap) (some v :: capSt σ caps) H9 s9 → m' < n → W (i + 1) m' H9 →
          ∃ m, m < n ∧ ∃ i H', Inv (X.blk cs cl (x :: caps.map (·.1)) C fp s3 H3) [] (none :: capSt σ caps) H' s9 ∧ tn i s9.heap ∧ (∀ b ∈ fp, H' b = none) ∧ W i m H' := fun {H9 s9 m'} I9 hm w9 => by
        have pin9 : ∀ b ∈ fp, ∀ o, s7.heap.get? b = some o → s9.heap.get? b = some o ∧ H9 b = none := fun b hb o e =>
          let q := I9.pin (b, o) (List.mem_append_right _ (List.mem_append_right _ (mem_pinsAt hb e))); ⟨q.1, q.2.1⟩
        refine ⟨m', hm, i + 1, H9, I9.unpinned.weak rfl (fun j z hz => ?_), T.keep _ _ _ st7 (fun b hb o e => (pin9 b hb o e).1), fun b hb => ?_, w9⟩
        · cases j with
          | zero => exact absurd hz (by simp)
          | succ j => exact hz
        · obtain ⟨o, e, _⟩ := T.obj _ _ st7 b hb
          exact (pin9 b hb o e).2
      refine thn (ht C fp s3 H3 _ s8 _ H8 _ I8 (step v H8 y7)) fun b s9 ⟨H9, I9, q9⟩ => ?_
      cases b with
      | false =>
        rw [if_neg (by simp)] at q9 ⊢
        obtain ⟨m', hm, w9⟩ := q9
        exact again I9 hm w9
      | true =>
        rw [if_pos rfl] at q9 ⊢
        refine thn (he C fp s3 H3 _ s9 _ H9 _ I9 q9) fun y s10 ⟨z, H10, I10, r10, acc, hacc, hlen, m', hm, w10⟩ => ?_
        refine thn (mt_append _ s10 _ H10 (.ref D) [z] (.ref D) [y] (fun _ H' => H' = upd H10 D (.lst (acc ++ [z]))) I10 rfl (.cons r10 .nil) ⟨D, acc, z, rfl, rfl, hacc, hlen, rfl⟩) fun _ s11 ⟨_, H11, I11, _, e11⟩ => ?_
        subst e11
        exact again I11 hm w10
  rw [e4]
  exact codeAny_compStart_list loop (T.self _ 0 _ _ _ (T.keep _ _ _ st2 fun b hb o e => kold b o (k23 b o e)) loop)

theorem pe_comp (S : CompScope X cs cl x caps) (hc : X.calm = true) (hi : PI X (.Name x px) iter wi) (ht : ∀ C fp s H, PTs (X.blk cs cl (x :: caps.map (·.1)) C fp s H) ifs tt) (he : ∀ C fp s H, PE (X.blk cs cl (x :: caps.map (·.1)) C fp s H) elt te)
    (hs : ∀ x, foldedSetIterable iter X.env x = pure x := by intro _; rfl) : PE X (.ListComp elt [⟨.Name x px, iter, ifs, 0⟩] cs pos) (tComp wi caps tt te) := by
  intro pins s σ H Q I h
  rw [eval_ListComp]
  refine wpAny_comprehension_free (use := none) rfl hs S.clos S.kind S.names (thn (hi pins s σ H _ I h) fun v s1 h1 => thn h1 fun itv s2 h2 => ?_)
  obtain ⟨it, fp, tn, J, H2, rfl, I2, T, st2, f2, hW⟩ := h2
  refine comp_run (RR := fun acc C => compPost (model X.prog X.w) X.A X.xe none (EP X pins σ Q) acc C) S hc ht he I2 T st2 f2 hW ?_
  intro D C H' s' m IX q hn hC hL hs0 hcl hp
  exact ⟨m, hn, fun h' hsb => ⟨.ref D, H', IX.turned (t' := s'.toks) (it := C) (fun b o hb e => hsb.extBut b o hb e) hC hL (.inr hs0) hcl hp, rfl, q⟩⟩

/-- name = [comprehension], where the store comes ahead of the block's names' end -/
theorem ps_setC {i : Nat} {y : Str} {py spos : Pos} (S : CompScope X cs cl x caps) (hc : X.calm = true) (hN : X.N.Nodup) (hiN : X.N[i]? = some y) (hy : X.env.scope.names.lookup y = some .local) (hi : PI X (.Name x px) iter wi)
    (ht : ∀ C fp s H, PTs (X.blk cs cl (x :: caps.map (·.1)) C fp s H) ifs tt) (he : ∀ C fp s H, PE (X.blk cs cl (x :: caps.map (·.1)) C fp s H) elt te)
    (hsw : swapsWith (.ListComp elt [⟨.Name x px, iter, ifs, 0⟩] cs pos) (some (.Name y py)) spos.line X.env = pure true := by rfl)
    (hs : ∀ x, foldedSetIterable iter X.env x = pure x := by intro _; rfl) : PS X (.Assign [.Name y py] (.ListComp elt [⟨.Name x px, iter, ifs, 0⟩] cs pos) spos) (tAsg (tComp wi caps tt te) (gName i)) := by
  intro pins s σ H D I h
  rw [exec_Assign_Name_used _ _ _ _ hsw]
  refine wpAny_bind (wpAny_standAt (wpAny_bind ?_))
  show wpAny _ _ (do let _ ← comprehension (.ListComp elt [⟨.Name x px, iter, ifs, 0⟩] cs pos) cs X.env _ (newList []) false (eval iter X.env) (some (assign (.Name y py) X.env))) _ _ s
  refine wpAny_bind (wpAny_mono (wpAny_comprehension_free (use := some (assign (.Name y py) X.env)) (Q := fun _ s' => SP X pins D .next s') rfl hs S.clos S.kind S.names
    (thn (hi pins s σ H _ I h) fun v s1 h1 => thn h1 fun itv s2 h2 => ?_)) (fun _ s' hq => wpAny_pure (wpAny_pure hq)) fun _ _ e => e)
  obtain ⟨it, fp, tn, J, H2, rfl, I2, T, st2, f2, hW⟩ := h2
  refine comp_run (Q := fun v H' => gName i v σ H' D.nx) (RR := fun acc C => compPost (model X.prog X.w) X.A X.xe (some (assign (.Name y py) X.env)) (fun _ s' => SP X pins D .next s') acc C) S hc ht he I2 T st2 f2 hW ?_
  intro Dl C H' s' m IX q hn hC hL hs0 hcl hp
  show wpAny _ _ (assign (.Name y py) X.env (.ref Dl)) _ _ s'
  refine wpAny_assign_Name (store_ok2 IX hN hiN (.inl hy) (v := .ref Dl) rfl (fun s'' I'' hch => ?_) (.inr hy))
  obtain ⟨a, hsa, ha⟩ := hch
  have hCa : C ≠ a := by
    rcases ha with e | e
    · rw [e]; exact hL
    · exact fun z => hcl _ _ e z.symm
  exact ⟨m, hn.sameBut hsa hCa, fun h' hsb => ⟨_, H', I''.turned (t' := s''.toks) (it := C) (fun b o hb e => hsb.extBut b o hb e) hC hL (.inr hs0) hcl hp, q⟩⟩
end

/-! ### the forms one uses -/
/-- the word of a loop of n turns, with its measure -/
def Wn (Pv : Nat → Hp → Prop) (n i m : Nat) (H : Hp) : Prop := Pv i H ∧ i ≤ n ∧ m = n - i
theorem wn_next {Pv : Nat → Hp → Prop} {n i : Nat} {H : Hp} (lt : i < n) (p : Pv (i + 1) H) : ∃ m', m' < n - i ∧ Wn Pv n (i + 1) m' H := ⟨n - (i + 1), by omega, p, lt, rfl⟩
/-- over a range: the turn i (its int lo + i) adds one item; D: the new list -/
theorem comp_range {lo : Int} {n : Nat} {tt : TT} {te : TE} {caps : List (Str × Nat)} {σ : St} {H1 : Hp} {Q : VK} (Pv : Addr → Nat → Hp → Prop) (h0 : ∀ D, H1 D = none → Pv D 0 (upd H1 D (.lst [])))
    (hs : ∀ D i H, H1 D = none → i < n → Pv D i H → tt (some (.int (lo + i)) :: capSt σ caps) H fun b H2 => if b = true then
      te (some (.int (lo + i)) :: capSt σ caps) H2 fun y H3 => ∃ acc, H3 D = some (.lst acc) ∧ acc.length < sizeLine ∧ ∃ m', m' < n - i ∧ Wn (Pv D) n (i + 1) m' (upd H3 D (.lst (acc ++ [y]))) else ∃ m', m' < n - i ∧ Wn (Pv D) n (i + 1) m' H2)
    (hd : ∀ D H, H1 D = none → Pv D n H → Q (.ref D) H) : CompW caps tt te σ Q (Itr lo n) H1 := by
  intro D hD
  refine ⟨Wn (Pv D) n, ⟨n, h0 D hD, Nat.zero_le _, rfl⟩, fun i m H ⟨p, hi, hm⟩ => ?_⟩
  subst hm
  by_cases e : i = n
  · subst e
    exact .inl ⟨Nat.le_refl _, hd D H hD p⟩
  · have lt : i < n := by omega
    refine .inr ⟨lt, fun x H' hy => ?_⟩
    obtain ⟨rfl, rfl⟩ := hy
    exact hs D i H' hD lt p
/-- over a list that stays -/
theorem comp_list {K : PySem.W.Frag} {a : Addr} {xs : List V} {tt : TT} {te : TE} {caps : List (Str × Nat)} {σ : St} {H1 : Hp} {Q : VK} (Pv : Addr → Nat → Hp → Prop) (h0 : ∀ D, H1 D = none → Pv D 0 (upd H1 D (.lst [])))
    (hl : ∀ D i H, H1 D = none → i ≤ xs.length → Pv D i H → SqL K H a xs)
    (hs : ∀ D i x H, H1 D = none → xs[i]? = some x → Pv D i H → tt (some x :: capSt σ caps) H fun b H2 => if b = true then
      te (some x :: capSt σ caps) H2 fun y H3 => ∃ acc, H3 D = some (.lst acc) ∧ acc.length < sizeLine ∧ ∃ m', m' < xs.length - i ∧ Wn (Pv D) xs.length (i + 1) m' (upd H3 D (.lst (acc ++ [y]))) else ∃ m', m' < xs.length - i ∧ Wn (Pv D) xs.length (i + 1) m' H2)
    (hd : ∀ D H, H1 D = none → Pv D xs.length H → Q (.ref D) H) : CompW caps tt te σ Q (Itl K a) H1 := by
  intro D hD
  refine ⟨Wn (Pv D) xs.length, ⟨xs.length, h0 D hD, Nat.zero_le _, rfl⟩, fun i m H ⟨p, hi, hm⟩ => ?_⟩
  subst hm
  by_cases e : i = xs.length
  · subst e
    exact .inl ⟨⟨xs, hl D _ _ hD (Nat.le_refl _) p, Nat.le_refl _⟩, hd D H hD p⟩
  · have lt : i < xs.length := by omega
    have hx : xs[i]? = some xs[i] := List.getElem?_eq_getElem lt
    refine .inr ⟨⟨xs, xs[i], hl D i H hD hi p, hx⟩, fun x H' hy => ?_⟩
    obtain ⟨rfl, hy⟩ := hy
    exact hs D i x H' hD (hy xs (hl D i H' hD hi p)) p
end L2

/-! EXTENSION B: data compared, isinstance, min, max, sum, sorted of few ints, zip -/
namespace L2
open PySem PySem.Spec PyProof.Rows

/-! ### data read off the abstract heap -/
mutual
inductive RdD (K : PySem.W.Frag) (H : Hp) : V → PyData → Prop
  | non : RdD K H .non .none
  | bl (b : Bool) : RdD K H (.bl b) (.bool b)
  | int (i : Int) : RdD K H (.int i) (.int i)
  | str (x : Str) : RdD K H (.str x) (.str x)
  | lst {a : Addr} {xs : List V} {ds : List PyData} : SqL K H a xs → RdAll K H xs ds → RdD K H (.ref a) (.list ds)
  | tup {a : Addr} {xs : List V} {ds : List PyData} : SqT K H a xs → RdAll K H xs ds → RdD K H (.ref a) (.tuple ds)
inductive RdAll (K : PySem.W.Frag) (H : Hp) : List V → List PyData → Prop
  | nil : RdAll K H [] []
  | cons {x : V} {xs : List V} {d : PyData} {ds : List PyData} : RdD K H x d → RdAll K H xs ds → RdAll K H (x :: xs) (d :: ds)
end
theorem rdInts {K : PySem.W.Frag} {H : Hp} : ∀ ns : List Int, RdAll K H (ns.map V.int) (ns.map PyData.int)
  | [] => .nil
  | n :: r => .cons (.int n) (rdInts r)
section
variable {X : Cx} {pins : List (Addr × Obj)} {σ : St} {H : Hp} {s : Shared}
mutual
theorem rd_reads (I : Inv X pins σ H s) : ∀ (d : PyData) {x : V} {u : Value}, RdD X.K H x d → RelV x u → ∃ as, Reads s.heap u d as
  | .none, _, u, .non, r => by cases (show u = Value.none from r); exact ⟨_, .none⟩
  | .bool b, _, u, .bl _, r => by cases (show u = Value.bool b from r); exact ⟨_, .bool b⟩
  | .int i, _, u, .int _, r => by obtain ⟨t, rfl⟩ := (show ∃ t, u = Value.int i t from r); exact ⟨_, .int i t⟩
  | .str x, _, u, .str _, r => by obtain ⟨t, rfl⟩ := (show ∃ t, u = Value.str x t from r); exact ⟨_, .str x t⟩
  | .list ds, _, u, .lst (a := a) hl hr, r => by
    cases (show u = Value.ref a from r)
    obtain ⟨its, rv, ⟨o, n, e, h1, _, h2⟩, _⟩ := I.list hl
    obtain ⟨as, h3⟩ := rd_readsAll I ds hr rv
    exact ⟨_, .list e h1 h2 h3⟩
  | .tuple ds, _, u, .tup (a := a) hl hr, r => by
    cases (show u = Value.ref a from r)
    obtain ⟨its, rv, ⟨o, e, h1, n, h2⟩, _⟩ := I.tuple hl
    obtain ⟨as, h3⟩ := rd_readsAll I ds hr rv
    exact ⟨_, .tuple e h1 h2 h3⟩
theorem rd_readsAll (I : Inv X pins σ H s) : ∀ (ds : List PyData) {xs : List V} {us : List Value}, RdAll X.K H xs ds → Vals xs us → ∃ as, ReadsAll s.heap us ds as
  | [], _, _, .nil, .nil => ⟨_, .nil⟩
  | d :: ds, _, _, .cons h hr, .cons r rr => by
    obtain ⟨as, h1⟩ := rd_reads I d h r
    obtain ⟨bs, h2⟩ := rd_readsAll I ds hr rr
    exact ⟨_, .cons h1 h2⟩
end
end
section
variable {X : Cx}
theorem op_eqD (hu : X.A.units + 64 < cLine) : OpR X (compareOp .Eq) (fun x y H Q => ∃ da db, RdD X.K H x da ∧ RdD X.K H y db ∧ da.canLay0 = true ∧ db.canLay0 = true ∧ da.depth ≤ 64 ∧ Q (.bl (PyData.eqv da db)) H) := by
  intro pins s σ H x y v u Q I rx ry h
  obtain ⟨da, db, hx, hy, c1, c2, hd, q⟩ := h
  obtain ⟨as, r1⟩ := rd_reads I da hx rx
  obtain ⟨bs, r2⟩ := rd_reads I db hy ry
  exact SeqAt.compareEq_reads r1 r2 c1 c2 (by omega) ⟨.bl _, H, I, rfl, q⟩
theorem op_neD (hu : X.A.units + 64 < cLine) : OpR X (compareOp .NotEq) (fun x y H Q => ∃ da db, RdD X.K H x da ∧ RdD X.K H y db ∧ da.canLay0 = true ∧ db.canLay0 = true ∧ da.depth ≤ 64 ∧ Q (.bl (!PyData.eqv da db)) H) := by
  intro pins s σ H x y v u Q I rx ry h
  obtain ⟨da, db, hx, hy, c1, c2, hd, q⟩ := h
  obtain ⟨as, r1⟩ := rd_reads I da hx rx
  obtain ⟨bs, r2⟩ := rd_reads I db hy ry
  exact SeqAt.compareNe_reads r1 r2 c1 c2 (by omega) ⟨.bl _, H, I, rfl, q⟩
end
/-- ints; lists of ints -/
def dI (ns : List Int) : PyData := .list (ns.map .int)
def dII (nss : List (List Int)) : PyData := .list (nss.map dI)
theorem lay_ints : ∀ ns : List Int, PyData.canLayAll0 (ns.map PyData.int) = true
  | [] => by simp [PyData.canLayAll0]
  | _ :: r => by simp [PyData.canLayAll0, PyData.canLay0, lay_ints r]
theorem depth_ints : ∀ ns : List Int, PyData.depthAll (ns.map PyData.int) = 0
  | [] => by simp [PyData.depthAll]
  | _ :: r => by simp [PyData.depthAll, PyData.depth, depth_ints r]
theorem dI_lay (ns : List Int) : (dI ns).canLay0 = true := by unfold dI; simp only [PyData.canLay0]; exact lay_ints ns
theorem dI_depth (ns : List Int) : (dI ns).depth = 1 := by unfold dI; simp only [PyData.depth]; rw [depth_ints]
theorem dII_layAll : ∀ nss : List (List Int), PyData.canLayAll0 (nss.map dI) = true
  | [] => by simp [PyData.canLayAll0]
  | n :: r => by simp [PyData.canLayAll0, dI_lay n, dII_layAll r]
theorem dII_depthAll : ∀ nss : List (List Int), PyData.depthAll (nss.map dI) ≤ 1
  | [] => by simp [PyData.depthAll]
  | n :: r => by
    have h := dII_depthAll r
    simp only [List.map_cons, PyData.depthAll, dI_depth]
    omega
theorem dII_lay (nss : List (List Int)) : (dII nss).canLay0 = true := by unfold dII; simp only [PyData.canLay0]; exact dII_layAll nss
theorem dII_depth (nss : List (List Int)) : (dII nss).depth ≤ 2 := by
  have h := dII_depthAll nss
  unfold dII; simp only [PyData.depth]; omega
theorem eqv_dI (ns ms : List Int) : PyData.eqv (dI ns) (dI ms) = decide (ns = ms) := by unfold dI; simp only [PyData.eqv]; exact PySem.W.ked_eqvAll ns ms
theorem eqv_dIIAll : ∀ a b : List (List Int), PyData.eqvAll (a.map dI) (b.map dI) = decide (a = b)
  | [], [] => by simp [PyData.eqvAll]
  | [], _ :: _ => by simp [PyData.eqvAll]
  | _ :: _, [] => by simp [PyData.eqvAll]
  | x :: r, y :: t => by
    simp only [List.map_cons, PyData.eqvAll, eqv_dI, eqv_dIIAll r t]
    by_cases h : x = y <;> by_cases h' : r = t <;> simp [h, h']
theorem eqv_dII (a b : List (List Int)) : PyData.eqv (dII a) (dII b) = decide (a = b) := by unfold dII; simp only [PyData.eqv]; exact eqv_dIIAll a b
/-- the refs of lists of ints -/
def RdI (K : PySem.W.Frag) (H : Hp) : List V → List (List Int) → Prop
  | [], [] => True
  | x :: xs, n :: ns => (∃ a, x = .ref a ∧ SqL K H a (n.map V.int)) ∧ RdI K H xs ns
  | _, _ => False
theorem RdI.all {K : PySem.W.Frag} {H : Hp} : ∀ {xs : List V} {nss : List (List Int)}, RdI K H xs nss → RdAll K H xs (nss.map dI)
  | [], [], _ => .nil
  | [], _ :: _, h => nomatch h
  | _ :: _, [], h => nomatch h
  | _ :: _, n :: _, ⟨⟨a, e, h⟩, hr⟩ => by subst e; exact .cons (.lst h (rdInts n)) (RdI.all hr)
section
variable {X : Cx}
/-- two lists of ints -/
theorem op_eqI (hu : X.A.units + 64 < cLine) : OpR X (compareOp .Eq) (fun x y H Q => ∃ (a b : Addr) (ns ms : List Int), x = .ref a ∧ y = .ref b ∧ SqL X.K H a (ns.map V.int) ∧ SqL X.K H b (ms.map V.int) ∧ Q (.bl (decide (ns = ms))) H) := by
  intro pins s σ H x y v u Q I rx ry h
  obtain ⟨a, b, ns, ms, rfl, rfl, h1, h2, q⟩ := h
  exact op_eqD hu pins s σ H _ _ v u Q I rx ry ⟨dI ns, dI ms, .lst h1 (rdInts ns), .lst h2 (rdInts ms), dI_lay ns, dI_lay ms, by rw [dI_depth]; omega, by rw [eqv_dI]; exact q⟩
theorem op_neI (hu : X.A.units + 64 < cLine) : OpR X (compareOp .NotEq) (fun x y H Q => ∃ (a b : Addr) (ns ms : List Int), x = .ref a ∧ y = .ref b ∧ SqL X.K H a (ns.map V.int) ∧ SqL X.K H b (ms.map V.int) ∧ Q (.bl (!decide (ns = ms))) H) := by
  intro pins s σ H x y v u Q I rx ry h
  obtain ⟨a, b, ns, ms, rfl, rfl, h1, h2, q⟩ := h
  exact op_neD hu pins s σ H _ _ v u Q I rx ry ⟨dI ns, dI ms, .lst h1 (rdInts ns), .lst h2 (rdInts ms), dI_lay ns, dI_lay ms, by rw [dI_depth]; omega, by rw [eqv_dI]; exact q⟩
/-- two lists of lists of ints -/
theorem op_eqII (hu : X.A.units + 64 < cLine) : OpR X (compareOp .Eq) (fun x y H Q => ∃ (a b : Addr) (xs ys : List V) (nss mss : List (List Int)), x = .ref a ∧ y = .ref b ∧ SqL X.K H a xs ∧ SqL X.K H b ys ∧ RdI X.K H xs nss ∧ RdI X.K H ys mss ∧ Q (.bl (decide (nss = mss))) H) := by
  intro pins s σ H x y v u Q I rx ry h
  obtain ⟨a, b, xs, ys, ns, ms, rfl, rfl, h1, h2, h3, h4, q⟩ := h
  exact op_eqD hu pins s σ H _ _ v u Q I rx ry ⟨dII ns, dII ms, .lst h1 h3.all, .lst h2 h4.all, dII_lay ns, dII_lay ms, by have := dII_depth ns; omega, by rw [eqv_dII]; exact q⟩
theorem op_neII (hu : X.A.units + 64 < cLine) : OpR X (compareOp .NotEq) (fun x y H Q => ∃ (a b : Addr) (xs ys : List V) (nss mss : List (List Int)), x = .ref a ∧ y = .ref b ∧ SqL X.K H a xs ∧ SqL X.K H b ys ∧ RdI X.K H xs nss ∧ RdI X.K H ys mss ∧ Q (.bl (!decide (nss = mss))) H) := by
  intro pins s σ H x y v u Q I rx ry h
  obtain ⟨a, b, xs, ys, ns, ms, rfl, rfl, h1, h2, h3, h4, q⟩ := h
  exact op_neD hu pins s σ H _ _ v u Q I rx ry ⟨dII ns, dII ms, .lst h1 h3.all, .lst h2 h4.all, dII_lay ns, dII_lay ms, by have := dII_depth ns; omega, by rw [eqv_dII]; exact q⟩

/-! ### isinstance -/
def rIsi (K : PySem.W.Frag) : List V → Hp → VK → Prop := fun xs H Q => ∃ x T t b, xs = [x, .ty T] ∧ TyOf K H x t ∧ PySem.W.kitOne K t (.type T) = some b ∧ Q (.bl b) H
theorem call_isi : CallR X (.builtin "isinstance") (rIsi X.K) := by
  intro pins s σ H xs us Q I r h
  obtain ⟨x, T, t, b, rfl, ty, e, q⟩ := h
  obtain ⟨u, w', rfl, ru, rw'⟩ := vals2 r
  cases (show w' = Value.type T from rw')
  exact isinst_ok I ru ty e fun tk => ⟨.bl b, H, I.tok _, rfl, q⟩

/-! ### min, max, sum, sorted of a list of ints -/
theorem ints_of_vals : ∀ {ns : List Int} {us : List Value}, Vals (ns.map V.int) us → IntsAre us ns := fun r => intsAre_of r
theorem Inv.intItems {pins : List (Addr × Obj)} {s : Shared} {σ : St} {H : Hp} {p : Addr} {ns : List Int} (I : Inv X pins σ H s) (h : SqL X.K H p (ns.map V.int)) :
    ∃ (vs : List Value), IntsAre vs ns ∧ s.heap.IsList p vs.toArray := by
  obtain ⟨its, r, pl, _⟩ := I.list h
  exact ⟨its, ints_of_vals r, pl.isList⟩
theorem call_maxL (hc : X.calm = true) : CallR X (.builtin "max") (fun xs H Q => ∃ (p : Addr) (ns : List Int), xs = [.ref p] ∧ SqL X.K H p (ns.map V.int) ∧ 0 < ns.length ∧ ∀ M, M ∈ ns → (∀ a ∈ ns, a ≤ M) → Q (.int M) H) := by
  intro pins s σ H xs us Q I r h
  obtain ⟨p, ns, rfl, hl, hne, q⟩ := h
  obtain ⟨u, rfl, ru⟩ := vals1 r
  cases (show u = Value.ref p from ru)
  obtain ⟨vs, hi, hv⟩ := I.intItems hl
  obtain ⟨xs, e⟩ := hi.allInts.items
  have hns : ns = xs.toList.map (·.1) := by rw [← hi.numsOf, ← nums_intItems, ← e]
  have hsz : 0 < xs.size := by
    have h3 := hne; rw [hns, List.length_map, Array.length_toList] at h3; exact h3
  rw [e] at hv
  refine max_intList (I.ok.hd hc) hv hsz fun v h' tk hv hk => ?_
  obtain ⟨t, rfl⟩ := intItems_at hv
  obtain ⟨h1, h2⟩ := argBest_gt (numAt xs) (xs.size - 1)
  refine ⟨.int _, H, I.kept hk, ⟨t, rfl⟩, q _ ?_ fun a ha => ?_⟩
  · rw [hns, numAt_eq]; exact getD_mem (by rw [List.length_map, Array.length_toList]; omega)
  · rw [hns] at ha
    obtain ⟨j, hj, rfl⟩ := mem_getD ha
    rw [List.length_map, Array.length_toList] at hj
    rw [← numAt_eq]; exact h2 j (by omega)
theorem call_minL (hc : X.calm = true) : CallR X (.builtin "min") (fun xs H Q => ∃ (p : Addr) (ns : List Int), xs = [.ref p] ∧ SqL X.K H p (ns.map V.int) ∧ 0 < ns.length ∧ ∀ M, M ∈ ns → (∀ a ∈ ns, M ≤ a) → Q (.int M) H) := by
  intro pins s σ H xs us Q I r h
  obtain ⟨p, ns, rfl, hl, hne, q⟩ := h
  obtain ⟨u, rfl, ru⟩ := vals1 r
  cases (show u = Value.ref p from ru)
  obtain ⟨vs, hi, hv⟩ := I.intItems hl
  obtain ⟨xs, e⟩ := hi.allInts.items
  have hns : ns = xs.toList.map (·.1) := by rw [← hi.numsOf, ← nums_intItems, ← e]
  have hsz : 0 < xs.size := by
    have h3 := hne; rw [hns, List.length_map, Array.length_toList] at h3; exact h3
  rw [e] at hv
  refine min_intList (I.ok.hd hc) hv hsz fun v h' tk hv hk => ?_
  obtain ⟨t, rfl⟩ := intItems_at hv
  obtain ⟨h1, h2⟩ := argBest_lt (numAt xs) (xs.size - 1)
  refine ⟨.int _, H, I.kept hk, ⟨t, rfl⟩, q _ ?_ fun a ha => ?_⟩
  · rw [hns, numAt_eq]; exact getD_mem (by rw [List.length_map, Array.length_toList]; omega)
  · rw [hns] at ha
    obtain ⟨j, hj, rfl⟩ := mem_getD ha
    rw [List.length_map, Array.length_toList] at hj
    rw [← numAt_eq]; exact h2 j (by omega)
/-- sorted of fewer than 64 ints: a new list -/
theorem call_sortedL : CallR X (.builtin "sorted") (fun xs H Q => ∃ (p : Addr) (ns : List Int), xs = [.ref p] ∧ SqL X.K H p (ns.map V.int) ∧ ns.length < 64 ∧ ∀ (l : Addr) (ms : List Int), H l = none → ms.Perm ns → ms.Pairwise (· ≤ ·) → Q (.ref l) (upd H l (.lst (ms.map V.int)))) := by
  intro pins s σ H xs us Q I r h
  obtain ⟨p, ns, rfl, hl, hlen, q⟩ := h
  obtain ⟨u, rfl, ru⟩ := vals1 r
  cases (show u = Value.ref p from ru)
  obtain ⟨vs, hi, hv⟩ := I.intItems hl
  have hl2 := hi.length
  refine sorted_ints hv hi (by omega) fun out ms a1 a2 a3 => ?_
  obtain ⟨e, he⟩ := sortedAll_at s.heap vs out
  have hz : (ms.map V.int).length ≤ sizeLine := by
    rw [List.length_map, a2.length_eq]
    exact Nat.le_of_lt (small1000 (by omega))
  refine ⟨.ref (s.heap.objs.size + 1), _, I.laid (t' := s.toks) (fun _ _ => sortedAll_old) (Nat.le_succ _) (show ObjOk X.prog X.w _ _ _ (.lst (ms.map V.int)) from ⟨hz, out.toList, e, vals_ints a1, ?_⟩), rfl, q _ _ (I.hok.fresh (Nat.le_succ _)) a2 a3⟩
  rw [he]
  all_goals rfl
end

/-! ### records that turn while a new object is laid -/
section
variable {X : Cx} {pins : List (Addr × Obj)} {σ : St} {H : Hp} {s : Shared} {h' : Heap} {a : Addr} {o : HO} {ch : List Addr} {t' : Nat}
theorem Inv.laidCh (I : Inv X pins σ H s) (k : ∀ b u, b ∉ ch → s.heap.get? b = some u → h'.get? b = some u) (hf : ∀ b ∈ ch, FpOk X pins H b) (hp : s.heap.objs.size ≤ a) (new : ObjOk X.prog X.w (upd H a o) h' a o) :
    Inv X pins σ (upd H a o) { s with heap := h', toks := t' } := by
  have hn : H a = none := I.hok.fresh hp
  have trk : ∀ b u, H b = some u → b ∉ ch := fun b u e hb => by rw [(hf b hb).1] at e; cases e
  have old : ∀ b, b ≠ a → upd H a o b = H b := fun b hb => upd_ne hb
  have lt : ∀ {b u}, H b = some u → b ≠ a := fun e z => by rw [z, hn] at e; cases e
  have ltH : ∀ {b u}, s.heap.get? b = some u → b ≠ a := fun e z => Nat.lt_irrefl _ (Nat.lt_of_lt_of_le (z ▸ Heap.lt_size e) hp)
  refine I.call' (ch := ch) (s' := { s with heap := h', toks := t' }) rfl ?_ ?_ I.bare fun b hb => ⟨(hf b hb).2.2.2.1, (hf b hb).2.1, (hf b hb).2.2.2.2.1, (hf b hb).2.2.2.2.2⟩
  · exact
      { keep := fun b u e _ _ hx => k b u hx e
        slot := fun b u e _ _ hx => ⟨u.slots, k b u hx e⟩
        free := fun b u e q _ => by rw [old b (ltH e)]; exact q
        there := fun b u e hx => ⟨u, k b u hx e⟩
        tups := fun b xs e => by rw [old b (lt e)]; exact e
        frzs := fun b u v e => by rw [old b (lt e)]; exact e
        tbls := fun b ps e => ⟨#[], by rw [old b (lt e)]; simpa using e⟩ }
  · intro b u e
    by_cases hb : b = a
    · subst hb
      rw [upd_same] at e; cases e
      exact new
    · rw [old b hb] at e
      refine (I.hok b u e).stay (fun c v hc q => k c v ?_ q) (fun c hc => by rw [old c (lt hc)]; exact hc) fun c xs hc => by rw [old c (lt hc)]; exact hc
      rcases hc with rfl | hc
      · exact trk _ _ e
      · exact trk _ _ hc
end

/-! ### zip of two lists, walked by a pair of names -/
def Itz (K : PySem.W.Frag) (a b : Addr) : It :=
  ⟨fun i H => ∃ xs ys x y, SqL K H a xs ∧ SqL K H b ys ∧ xs[i]? = some x ∧ ys[i]? = some y,
   fun i H v H' => ∃ t x y, v = .ref t ∧ H t = none ∧ H' = upd H t (.tup [x, y]) ∧ (∀ xs, SqL K H a xs → xs[i]? = some x) ∧ (∀ ys, SqL K H b ys → ys[i]? = some y),
   fun i H => ∃ xs ys, SqL K H a xs ∧ SqL K H b ys ∧ (xs.length ≤ i ∨ ys.length ≤ i)⟩
def ZipSt (z TI TO i1 i2 a b : Addr) (i : Nat) (h : Heap) : Prop := IsZip h z TI TO .none ∧ IsPair h TI (.ref i1) (.ref i2) ∧ (∃ x y, IsPair h TO x y) ∧ h.IsListIter i1 a i ∧ h.IsListIter i2 b i
theorem turn_zip {P : Program} {w : World} {K : PySem.W.Frag} {es : List Expr} {kk : Nat} {pos : Pos} {z TI TO i1 i2 a b : Addr} (D : ZipApart z TI TO i1 i2 a b) :
    Turn P w K (.Tuple es kk pos) (Itz K a b) [z, TI, TO, i1, i2] z (ZipSt z TI TO i1 i2 a b) where
  mem := .head _
  obj := fun i h st c hc => by
    obtain ⟨hz, hTI, ⟨x, y, hTO⟩, ⟨o1, e1, _, d1⟩, ⟨o2, e2, _, d2⟩⟩ := st
    simp only [List.mem_cons, List.mem_nil_iff, or_false] at hc
    rcases hc with rfl | rfl | rfl | rfl | rfl
    · exact ⟨_, hz, fun v q => nomatch q⟩
    · exact ⟨_, hTI, fun v q => nomatch q⟩
    · exact ⟨_, hTO, fun v q => nomatch q⟩
    · exact ⟨_, e1, fun v q => by rw [d1] at q; cases q⟩
    · exact ⟨_, e2, fun v q => by rw [d2] at q; cases q⟩
  keep := fun i h h' st k => by
    obtain ⟨hz, hTI, ⟨x, y, hTO⟩, h1, h2⟩ := st
    exact ⟨k z (by simp) _ hz, k TI (by simp) _ hTI, ⟨x, y, k TO (by simp) _ hTO⟩, h1.at fun o e => k i1 (by simp) o e, h2.at fun o e => k i2 (by simp) o e⟩
  item := fun X eP eW eK hc i pins s σ H E I hf st go => by
    subst eP eW eK
    obtain ⟨hz, hTI, ⟨x0, y0, hTO⟩, h1, h2⟩ := st
    obtain ⟨xs, ys, x, y, hxs, hys, hx, hy⟩ := go
    obtain ⟨its, r1, p1, z1⟩ := I.list hxs
    obtain ⟨jts, r2, p2, z2⟩ := I.list hys
    obtain ⟨u, hu, ru⟩ := r1.get hx
    obtain ⟨v, hv, rv⟩ := r2.get hy
    refine wpAny_pyNext_zip_item D hz hTI hTO h1 h2 p1.isList p2.isList (x := u) (y := v) (by simpa using hu) (by simpa using hv) fun h' a1 a2 a3 a4 a5 a6 hk => ⟨_, rfl, ?_⟩
    refine wpAny_letOwnedTupleGo_zip a1 fun h'' b1 hs => ?_
    have zT : s.heap.objs.size ≠ z := Nat.ne_of_gt (Heap.lt_size hz)
    have kk : ∀ c o, c ∉ [z, TI, TO, i1, i2] → s.heap.get? c = some o → h''.get? c = some o := fun c o hc e => by
      simp only [List.mem_cons, List.mem_nil_iff, or_false, not_or] at hc
      exact hs.extBut c o hc.1 (hk c o hc.1 hc.2.2.1 hc.2.2.2.1 hc.2.2.2.2 e)
    refine ⟨.ref s.heap.objs.size, upd H s.heap.objs.size (.tup [x, y]), I.laidCh (t' := s.toks) (ch := [z, TI, TO, i1, i2]) kk hf (Nat.le_refl _) ?_, rfl, ⟨_, x, y, rfl, I.fresh, rfl, fun zs hzs => ?_, fun zs hzs => ?_⟩, ?_, fun c hc => ?_⟩
    · exact ⟨by show 2 ≤ sizeLine; decide, [u, v], .cons ru (.cons rv .nil), ⟨_, hs.extBut _ _ zT a5, rfl, _, rfl⟩⟩
    · rw [I.list_inj hzs hxs]; exact hx
    · rw [I.list_inj hzs hys]; exact hy
    · exact ⟨b1, hs.extBut _ _ D.TIz (hk _ _ D.TIz D.TITO D.TIi1 D.TIi2 hTI), ⟨_, _, hs.extBut _ _ D.TOz a2⟩, a3.extBut hs.extBut D.i1z, a4.extBut hs.extBut D.i2z⟩
    · rw [upd_ne]
      · exact (hf c hc).1
      · obtain ⟨o, e⟩ : ∃ o, s.heap.get? c = some o := by
          obtain ⟨o1, e1, _⟩ := h1
          obtain ⟨o2, e2, _⟩ := h2
          simp only [List.mem_cons, List.mem_nil_iff, or_false] at hc
          rcases hc with rfl | rfl | rfl | rfl | rfl
          · exact ⟨_, hz⟩
          · exact ⟨_, hTI⟩
          · exact ⟨_, hTO⟩
          · exact ⟨_, e1⟩
          · exact ⟨_, e2⟩
        exact Nat.ne_of_lt (Heap.lt_size e)
  done := fun X eP eW eK hc i pins s σ H E I hf st stop => by
    subst eP eW eK
    obtain ⟨hz, hTI, ⟨x0, y0, hTO⟩, h1, h2⟩ := st
    obtain ⟨xs, ys, hxs, hys, hend⟩ := stop
    obtain ⟨its, r1, p1, z1⟩ := I.list hxs
    obtain ⟨jts, r2, p2, z2⟩ := I.list hys
    have l1 := r1.length
    have l2 := r2.length
    refine wpAny_pyNext_zip_end (I.ok.hd hc) D hz hTI hTO h1 h2 p1.isList p2.isList ?_ fun h' hk => ⟨rfl, ?_⟩
    · rcases hend with e | e
      · exact .inl (Array.getElem?_eq_none (by simp; omega))
      · exact .inr (Array.getElem?_eq_none (by simp; omega))
    · have trk : ∀ b u, H b = some u → b ∉ [z, TI, TO, i1, i2] := fun b u e hb => by rw [(hf b hb).1] at e; cases e
      have kk : ∀ c o, c ∉ [z, TI, TO, i1, i2] → s.heap.get? c = some o → h'.get? c = some o := fun c o hc e => by
        simp only [List.mem_cons, List.mem_nil_iff, or_false, not_or] at hc
        exact hk c o hc.1 hc.2.2.1 hc.2.2.2.1 hc.2.2.2.2 e
      refine I.call' (ch := [z, TI, TO, i1, i2]) (s' := { s with heap := h' }) rfl ?_ ?_ I.bare fun b hb => ⟨(hf b hb).2.2.2.1, (hf b hb).2.1, (hf b hb).2.2.2.2.1, (hf b hb).2.2.2.2.2⟩
      · exact
          { keep := fun b u e _ _ hx => kk b u hx e
            slot := fun b u e _ _ hx => ⟨u.slots, kk b u hx e⟩
            free := fun b u e q _ => q
            there := fun b u e hx => ⟨u, kk b u hx e⟩
            tups := fun b xs e => e
            frzs := fun b u v e => e
            tbls := fun b ps e => ⟨#[], by simpa using e⟩ }
      · intro b u e
        refine (I.hok b u e).stay (fun c v hc q => kk c v ?_ q) (fun c hc => hc) fun c xs hc => hc
        rcases hc with rfl | hc
        · exact trk _ _ e
        · exact trk _ _ hc
  self := fun A i s Q E st h => wpAny_pyIter_zip st.1 h

def iZip (K : PySem.W.Frag) (ta : TA) : TI := fun σ H R => ta σ H fun vs H1 => ∃ a b, vs = [.ref a, .ref b] ∧ (∃ xs, SqL K H1 a xs) ∧ (∃ ys, SqL K H1 b ys) ∧ R (Itz K a b) H1
section
variable {X : Cx}
theorem pi_zip {e1 e2 : Expr} {ta : TA} {p pos pos' : Pos} {es : List Expr} {kk : Nat} (hg : Gl X "zip") (hm : X.mg "zip" = none) (ha : PA X [e1, e2] ta)
    (hs : starEach [e1, e2] X.env = [(false, eval e1 X.env), (false, eval e2 X.env)] := by rfl) (hs2 : starEach [e2] X.env = [(false, eval e2 X.env)] := by rfl) :
    PI X (.Tuple es kk pos') (.Call (.Name "zip" p) [e1, e2] [] pos) (iZip X.K ta) := by
  intro pins s σ H R I h
  refine Call_ (ld_blt I hg hm PyProof.Rows.Boot.«zip» (PyProof.Rows.callWith_type1 (thn (ha pos pins s σ H _ I h) fun us s1 ⟨vs, H1, I1, r1, q1⟩ => ?_) (by rw [hs, hs2]) (by rw [hs2]; rfl)))
  obtain ⟨a, b, e, ⟨xs, hxs⟩, ⟨ys, hys⟩, q⟩ := q1
  subst e
  cases r1 with
  | cons r rr =>
    cases rr with
    | cons r' rr =>
      cases rr
      cases r
      cases r'
      obtain ⟨its, v1, p1, _⟩ := I1.list hxs
      obtain ⟨jts, v2, p2, _⟩ := I1.list hys
      have la : a < s1.heap.objs.size := by obtain ⟨o, n, e, _⟩ := p1; exact Heap.lt_size e
      have lb : b < s1.heap.objs.size := by obtain ⟨o, n, e, _⟩ := p2; exact Heap.lt_size e
      have hn : ∀ i j : Nat, i ≠ j → s1.heap.objs.size + i ≠ s1.heap.objs.size + j := fun i j h e => h (Nat.add_left_cancel e)
      have ha : ∀ k : Nat, a ≠ s1.heap.objs.size + k := fun k => Nat.ne_of_lt (Nat.lt_of_lt_of_le la (Nat.le_add_right _ _))
      have hb : ∀ k : Nat, b ≠ s1.heap.objs.size + k := fun k => Nat.ne_of_lt (Nat.lt_of_lt_of_le lb (Nat.le_add_right _ _))
      refine call_zip_2 p1.isList p2.isList fun h' z1 z2 z3 z4 z5 hsz hk => ?_
      refine wpAny_pyIter_zip z1 ⟨s1.heap.objs.size + 4, [s1.heap.objs.size + 4, s1.heap.objs.size + 2, s1.heap.objs.size + 3, s1.heap.objs.size, s1.heap.objs.size + 1], _, Itz X.K a b, H1, rfl, I1.kept (t' := s1.toks) hk,
        turn_zip (TI := s1.heap.objs.size + 2) (TO := s1.heap.objs.size + 3) (i1 := s1.heap.objs.size) (i2 := s1.heap.objs.size + 1) ⟨hn 2 4 (by decide), hn 3 4 (by decide), hn 0 4 (by decide), hn 1 4 (by decide), hn 2 3 (by decide), hn 2 0 (by decide), hn 2 1 (by decide), hn 3 0 (by decide), hn 3 1 (by decide), hn 0 1 (by decide), ha 4, ha 3, ha 0, ha 1, hb 4, hb 3, hb 0, hb 1⟩,
        ⟨z1, z2, ⟨_, _, z3⟩, z4, z5⟩, fun c hc => ?_, q⟩
      have hcl : s1.heap.objs.size ≤ c := by
        simp only [List.mem_cons, List.mem_nil_iff, or_false] at hc
        rcases hc with rfl | rfl | rfl | rfl | rfl
        · exact Nat.le_add_right _ _
        · exact Nat.le_add_right _ _
        · exact Nat.le_add_right _ _
        · exact Nat.le_refl _
        · exact Nat.le_add_right _ _
      exact I1.fpOk hcl (I1.hok.fresh hcl)
end
end L2

/-! EXTENSION C: how an exception lies behind a call; defs that never raise; the forms of loops -/
namespace L2
open PySem PySem.Spec PyProof.Rows

/-- an exception in flight: its object a (untracked), its class; B: what no frame's passing touches -/
def CXE (P : Program) (w : World) : CXT := fun outer H s E e s' => ∃ (a : Addr) (cls a0 : Value) (B : Heap) (H' : Hp), e = .ref a ∧ s'.os = s.os ∧ AllBare s'.gens ∧ Un (frs outer) [] H H' s.heap s'.heap ∧ HOk P w H' s'.heap ∧ H' a = none ∧
  (∀ b u, H' b = some u → ∃ o, B.get? b = some o) ∧ (∀ b o, s.heap.get? b = some o → b ∉ frs outer → ∃ o', B.get? b = some o') ∧ Heap.FlyingW B outer a cls a0 s'.heap ∧ E cls none H'
theorem passN {P : Program} {w : World} {X : Cx} : Passes (CXE P w) X E0 := fun _ _ _ _ _ _ _ h => by
  obtain ⟨_, _, _, _, _, _, _, _, _, _, _, _, _, _, z⟩ := h
  exact z.elim

section
variable {P : Program} {w : World} {K : PySem.W.Frag} {mg : Str → Option Value} {base : Heap}
/-- a def that never raises -/
theorem Fun.okN {CX : CXT} {x qual : Str} {st : Stmt} {f : Addr} {fd : FuncData} {N ps : List Str} {k : Nat} {sp : Sp} (F : Fun K x qual st f fd) (S : FnScope N ps (defScope st)) (len : ∀ vs H Q E, sp vs H Q E → vs.length = ps.length)
    (hbody : ∀ (cdv : Value) (A : Around) (outer : List Env) (s : Shared) (H : Hp) (vs : List V) (Q : VK) (E : XK), Room k (A.deeper (envOfC qual (defScope st) s.heap.objs.size f cdv)) → sp vs H Q E →
      ∃ t, PSs (cxOf CX P w K mg base N qual (defScope st) f cdv A outer s H E).nox (defBody st) t ∧ t { nx := fun _ H' => Q .non H', rt := Q } (start N vs) H) : FnOk P w K mg base CX (k + 1) f fd ps sp := by
  obtain ⟨oc, od, kV, doc, pm, an, cdv, ct, osl, rfl, lk, hcd⟩ := F.ex
  refine fn_of lk hcd S len fun A outer s H vs Q E hr hsp => ?_
  obtain ⟨t, h, q⟩ := hbody cdv A outer s H vs Q E hr hsp
  exact ⟨t, h.nox, q⟩
/-- a def that may raise -/
theorem Fun.okX {CX : CXT} {x qual : Str} {st : Stmt} {f : Addr} {fd : FuncData} {N ps : List Str} {k : Nat} {sp : Sp} (F : Fun K x qual st f fd) (S : FnScope N ps (defScope st)) (len : ∀ vs H Q E, sp vs H Q E → vs.length = ps.length)
    (hbody : ∀ (cdv : Value) (A : Around) (outer : List Env) (s : Shared) (H : Hp) (vs : List V) (Q : VK) (E : XK), Room k (A.deeper (envOfC qual (defScope st) s.heap.objs.size f cdv)) → sp vs H Q E →
      ∃ t, PSs (cxOf CX P w K mg base N qual (defScope st) f cdv A outer s H E) (defBody st) t ∧ t { nx := fun _ H' => Q .non H', rt := Q } (start N vs) H) : FnOk P w K mg base CX (k + 1) f fd ps sp := by
  obtain ⟨oc, od, kV, doc, pm, an, cdv, ct, osl, rfl, lk, hcd⟩ := F.ex
  exact fn_of lk hcd S len fun A outer s H vs Q E hr hsp => hbody cdv A outer s H vs Q E hr hsp
end

/-! ### zip's loop -/
theorem for_zip {K : PySem.W.Frag} {a b : Addr} {xs ys : List V} {g : TG} {tb : TS} {D : Ends} {σ : St} {H : Hp} (Pv : Nat → St → Hp → Prop) (h0 : Pv 0 σ H) (hl : ∀ i σ H, i ≤ min xs.length ys.length → Pv i σ H → SqL K H a xs ∧ SqL K H b ys)
    (hs : ∀ i x y t σ H, xs[i]? = some x → ys[i]? = some y → H t = none → Pv i σ H → g (.ref t) σ (upd H t (.tup [x, y])) fun σ2 H2 => tb { D with nx := Pv (i + 1), ct := Pv (i + 1), bk := D.nx } σ2 H2) (hd : ∀ σ H, Pv (min xs.length ys.length) σ H → D.nx σ H) :
    ∃ W : Nat → Nat → St → Hp → Prop, (∃ m, W 0 m σ H) ∧ ∀ i m σ H, W i m σ H → ((Itz K a b).stop i H ∧ D.nx σ H) ∨ ((Itz K a b).go i H ∧ ∃ N : St → Hp → Prop, (∀ σ' H', N σ' H' → ∃ m', m' < m ∧ W (i + 1) m' σ' H') ∧
      ∀ x H', (Itz K a b).yld i H x H' → g x σ H' fun σ2 H2 => tb { D with nx := N, ct := N, bk := D.nx } σ2 H2) := by
  refine ⟨fun i m σ H => Pv i σ H ∧ i ≤ min xs.length ys.length ∧ m = min xs.length ys.length - i, ⟨_, h0, Nat.zero_le _, rfl⟩, fun i m σ H ⟨p, hi, hm⟩ => ?_⟩
  obtain ⟨l1, l2⟩ := hl i σ H hi p
  by_cases e : i = min xs.length ys.length
  · subst e
    exact .inl ⟨⟨xs, ys, l1, l2, by omega⟩, hd σ H p⟩
  · have lx : i < xs.length := by omega
    have ly : i < ys.length := by omega
    have hx : xs[i]? = some xs[i] := List.getElem?_eq_getElem lx
    have hy : ys[i]? = some ys[i] := List.getElem?_eq_getElem ly
    refine .inr ⟨⟨xs, ys, xs[i], ys[i], l1, l2, hx, hy⟩, Pv (i + 1), fun σ' H' q => ⟨min xs.length ys.length - (i + 1), by omega, q, by omega, rfl⟩, fun v H' hv => ?_⟩
    obtain ⟨t, x, y, rfl, ht, rfl, h1, h2⟩ := hv
    exact hs i x y t σ H (h1 xs l1) (h2 ys l2) ht p

/-! ### heaps: what a def may do -/
/-- behind a def that makes one list l: all that was tracked stays, l is new -/
structure NewL (H H' : Hp) (l : Addr) (xs : List V) : Prop where
  same : Same H H'
  new : H l = none
  at_ : H' l = some (.lst xs)
theorem same_new {H : Hp} {p : Addr} (h : H p = none) (o : HO) : Same H (upd H p o) := fun b u q => by rw [upd_ne (ne_of_none q h)]; exact q
theorem same_tup {H H1 : Hp} (h : Same H H1) {p : Addr} (hp : H1 p = none) (o : HO) : Same H (upd H1 p o) := h.trans (same_new hp o)
theorem upd_keep {H : Hp} {a b : Addr} {o u : HO} (h : H a = some o) (hb : H b = none) : upd H b u a = some o := by rw [upd_ne (ne_of_none h hb)]; exact h
theorem same_upd {H H1 : Hp} (h : Same H H1) {p : Addr} (hp : H p = none) (o : HO) : Same H (upd H1 p o) := fun b u q => by rw [upd_ne (ne_of_none q hp)]; exact h b u q
section
variable {X : Cx}
theorem call_lenL : CallR X (.builtin "len") (fun xs H Q => ∃ p ys, xs = [.ref p] ∧ SqL X.K H p ys ∧ Q (.int ys.length) H) := by
  intro pins s σ H xs us Q I r h
  obtain ⟨p, ys, e, hs, q⟩ := h
  exact call_len_seq pins s σ H xs us Q I r ⟨p, ys, e, .inl hs, q⟩
end
theorem hu64_of {A : Around} {k : Nat} (hr : Room k A) : A.units + 64 < cLine := hr.units
theorem getI {ns : List Int} {i : Nat} {x : Int} (h : ns[i]? = some x) : (ns.map V.int)[i]? = some (.int x) := by rw [List.getElem?_map, h]; rfl
theorem ofGetI {ns : List Int} {i : Nat} {x : V} (h : (ns.map V.int)[i]? = some x) : ∃ n, ns[i]? = some n ∧ x = .int n := by
  rw [List.getElem?_map] at h
  obtain ⟨n, h1, h2⟩ := Option.map_eq_some_iff.mp h
  exact ⟨n, h1, h2.symm⟩
end L2
namespace L2
open PySem PySem.Spec PyProof.Rows
theorem cxK {CX : CXT} {P : Program} {w : World} {K : PySem.W.Frag} {mg : Str → Option Value} {base : Heap} {N : List Str} {qual : Str} {scope : Scope} {f : Addr} {cd : Value} {A : Around} {outer : List Env} {s : Shared} {H : Hp} {E : XK} :
    (cxOf CX P w K mg base N qual scope f cd A outer s H E).K = K := rfl
theorem blkK {X : Cx} {cs : Scope} {cl : List (Str × Addr)} {N : List Str} {C : Addr} {fp : List Addr} {s : Shared} {H : Hp} : (X.blk cs cl N C fp s H).K = X.K := rfl
end L2
namespace L2
open PySem PySem.Spec PyProof.Rows
theorem tyL {K : PySem.W.Frag} {H : Hp} {p : Addr} {xs : List V} (h : H p = some (.lst xs)) : tyV K "list" (.ref p) H := .inl ⟨rfl, _, SqL.of h⟩
/-- all that was tracked is as it was, but the list at p -/
def SameB (p : Addr) (H H' : Hp) : Prop := ∀ b o, b ≠ p → H b = some o → H' b = some o
theorem SameB.refl (p : Addr) (H : Hp) : SameB p H H := fun _ _ _ h => h
theorem SameB.upd {p : Addr} {H H' : Hp} (h : SameB p H H') (o : HO) : SameB p H (upd H' p o) := fun b u hb e => by rw [upd_ne hb]; exact h b u hb e
theorem SameB.new {p : Addr} {H H' : Hp} (h : SameB p H H') {q : Addr} (hq : H' q = none) (o : HO) : SameB p H (L2.upd H' q o) := fun b u hb e => by
  have z := h b u hb e
  rw [upd_ne (ne_of_none z hq)]; exact z
theorem SameB.trans {p : Addr} {H H1 H2 : Hp} (h : SameB p H H1) (k : SameB p H1 H2) : SameB p H H2 := fun b o hb e => k b o hb (h b o hb e)
theorem Same.toB {p : Addr} {H H' : Hp} (h : Same H H') : SameB p H H' := fun b o _ e => h b o e
theorem SameB.same {p : Addr} {H H' : Hp} (h : SameB p H H') (hp : H p = none) : Same H H' := fun b o e => h b o (ne_of_none e hp) e
theorem SameB.seq {K : PySem.W.Frag} {p a : Addr} {H H' : Hp} {xs : List V} (h : SameB p H H') (ha : a ≠ p) (hs : SqL K H a xs) : SqL K H' a xs := by
  rcases hs with (e | ⟨o, e⟩) | e
  · exact .inl (.inl (h _ _ ha e))
  · exact .inl (.inr ⟨o, h _ _ ha e⟩)
  · exact .inr e
theorem small12 {n : Nat} (h : n ≤ 900) : n < sizeLine := small1000 (by omega)
theorem small12' {n : Nat} (h : n ≤ 900) : n ≤ sizeLine := Nat.le_of_lt (small12 h)
end L2
namespace L2
open PySem PySem.Spec PyProof.Rows
/-! ### the rules that name the written part, K told from outside -/
def rLenL (K : PySem.W.Frag) : List V → Hp → VK → Prop := fun xs H Q => ∃ p ys, xs = [.ref p] ∧ SqL K H p ys ∧ Q (.int ys.length) H
def rLenT (K : PySem.W.Frag) : List V → Hp → VK → Prop := fun xs H Q => ∃ p ys, xs = [.ref p] ∧ SqT K H p ys ∧ Q (.int ys.length) H
def rListOf (K : PySem.W.Frag) : List V → Hp → VK → Prop := fun xs H Q => ∃ p ys, xs = [.ref p] ∧ SqL K H p ys ∧ ∀ l, H l = none → Q (.ref l) (upd H l (.lst ys))
def rMaxL (K : PySem.W.Frag) : List V → Hp → VK → Prop := fun xs H Q => ∃ (p : Addr) (ns : List Int), xs = [.ref p] ∧ SqL K H p (ns.map V.int) ∧ 0 < ns.length ∧ ∀ M, M ∈ ns → (∀ a ∈ ns, a ≤ M) → Q (.int M) H
def rMinL (K : PySem.W.Frag) : List V → Hp → VK → Prop := fun xs H Q => ∃ (p : Addr) (ns : List Int), xs = [.ref p] ∧ SqL K H p (ns.map V.int) ∧ 0 < ns.length ∧ ∀ M, M ∈ ns → (∀ a ∈ ns, M ≤ a) → Q (.int M) H
def rSortedL (K : PySem.W.Frag) : List V → Hp → VK → Prop := fun xs H Q => ∃ (p : Addr) (ns : List Int), xs = [.ref p] ∧ SqL K H p (ns.map V.int) ∧ ns.length < 64 ∧ ∀ (l : Addr) (ms : List Int), H l = none → ms.Perm ns → ms.Pairwise (· ≤ ·) → Q (.ref l) (upd H l (.lst (ms.map V.int)))
def rEqI (K : PySem.W.Frag) : R2 := fun x y H Q => ∃ (a b : Addr) (ns ms : List Int), x = .ref a ∧ y = .ref b ∧ SqL K H a (ns.map V.int) ∧ SqL K H b (ms.map V.int) ∧ Q (.bl (decide (ns = ms))) H
def rNeI (K : PySem.W.Frag) : R2 := fun x y H Q => ∃ (a b : Addr) (ns ms : List Int), x = .ref a ∧ y = .ref b ∧ SqL K H a (ns.map V.int) ∧ SqL K H b (ms.map V.int) ∧ Q (.bl (!decide (ns = ms))) H
def rEqII (K : PySem.W.Frag) : R2 := fun x y H Q => ∃ (a b : Addr) (xs ys : List V) (nss mss : List (List Int)), x = .ref a ∧ y = .ref b ∧ SqL K H a xs ∧ SqL K H b ys ∧ RdI K H xs nss ∧ RdI K H ys mss ∧ Q (.bl (decide (nss = mss))) H
def rNeII (K : PySem.W.Frag) : R2 := fun x y H Q => ∃ (a b : Addr) (xs ys : List V) (nss mss : List (List Int)), x = .ref a ∧ y = .ref b ∧ SqL K H a xs ∧ SqL K H b ys ∧ RdI K H xs nss ∧ RdI K H ys mss ∧ Q (.bl (!decide (nss = mss))) H
theorem ix_listK (K : PySem.W.Frag) {X : Cx} (e : X.K = K := by rfl) : IxR X (rIxL K) := e ▸ ix_list
theorem ix_tupK (K : PySem.W.Frag) {X : Cx} (e : X.K = K := by rfl) : IxR X (rIxT K) := e ▸ ix_tup
theorem sl_listK (K : PySem.W.Frag) {X : Cx} (e : X.K = K := by rfl) : SlR X (rSlL K) := e ▸ sl_list
theorem call_lenK (K : PySem.W.Frag) {X : Cx} (e : X.K = K := by rfl) : CallR X (.builtin "len") (rLenL K) := e ▸ call_lenL
theorem call_lenTK (K : PySem.W.Frag) {X : Cx} (e : X.K = K := by rfl) : CallR X (.builtin "len") (rLenT K) := by
  subst e
  intro pins s σ H xs us Q I r h
  obtain ⟨p, ys, e, hs, q⟩ := h
  exact call_len_seq pins s σ H xs us Q I r ⟨p, ys, e, .inr hs, q⟩
theorem call_isiK (K : PySem.W.Frag) {X : Cx} (e : X.K = K := by rfl) : CallR X (.builtin "isinstance") (rIsi K) := e ▸ call_isi
theorem call_listK (K : PySem.W.Frag) {X : Cx} (e : X.K = K := by rfl) : CallR X (.type "list") (rListOf K) := by
  subst e
  intro pins s σ H xs us Q I r h
  obtain ⟨p, ys, e, hs, q⟩ := h
  exact call_list_of pins s σ H xs us Q I r ⟨p, ys, e, .inl hs, q⟩
theorem op_notInK (K : PySem.W.Frag) {X : Cx} (e : X.K = K := by rfl) : OpR X (compareOp .NotIn) (rIn K true) := e ▸ op_notIn_seq
theorem op_inK (K : PySem.W.Frag) {X : Cx} (e : X.K = K := by rfl) : OpR X (compareOp .In) (rIn K false) := e ▸ op_in_seq
theorem call_maxK (K : PySem.W.Frag) {X : Cx} (hc : X.calm = true := by rfl) (e : X.K = K := by rfl) : CallR X (.builtin "max") (rMaxL K) := e ▸ call_maxL hc
theorem call_minK (K : PySem.W.Frag) {X : Cx} (hc : X.calm = true := by rfl) (e : X.K = K := by rfl) : CallR X (.builtin "min") (rMinL K) := e ▸ call_minL hc
theorem call_sortedK (K : PySem.W.Frag) {X : Cx} (e : X.K = K := by rfl) : CallR X (.builtin "sorted") (rSortedL K) := e ▸ call_sortedL
theorem op_eqIK (K : PySem.W.Frag) {X : Cx} (hu : X.A.units + 64 < cLine) (e : X.K = K := by rfl) : OpR X (compareOp .Eq) (rEqI K) := e ▸ op_eqI hu
theorem op_neIK (K : PySem.W.Frag) {X : Cx} (hu : X.A.units + 64 < cLine) (e : X.K = K := by rfl) : OpR X (compareOp .NotEq) (rNeI K) := e ▸ op_neI hu
theorem op_eqIIK (K : PySem.W.Frag) {X : Cx} (hu : X.A.units + 64 < cLine) (e : X.K = K := by rfl) : OpR X (compareOp .Eq) (rEqII K) := e ▸ op_eqII hu
theorem op_neIIK (K : PySem.W.Frag) {X : Cx} (hu : X.A.units + 64 < cLine) (e : X.K = K := by rfl) : OpR X (compareOp .NotEq) (rNeII K) := e ▸ op_neII hu
theorem pi_listK (K : PySem.W.Frag) {X : Cx} {tg l : Expr} {tl : TE} (hl : PE X l tl) (e : X.K = K := by rfl) : PI X tg l (iList K tl) := e ▸ pi_list hl
theorem pi_zipK (K : PySem.W.Frag) {X : Cx} {e1 e2 : Expr} {ta : TA} {p pos pos' : Pos} {es : List Expr} {kk : Nat} (hg : Gl X "zip") (hm : X.mg "zip" = none) (ha : PA X [e1, e2] ta) (e : X.K = K := by rfl)
    (hs : starEach [e1, e2] X.env = [(false, eval e1 X.env), (false, eval e2 X.env)] := by rfl) (hs2 : starEach [e2] X.env = [(false, eval e2 X.env)] := by rfl) :
    PI X (.Tuple es kk pos') (.Call (.Name "zip" p) [e1, e2] [] pos) (iZip K ta) := e ▸ pi_zip hg hm ha hs hs2
def tTruth (K : PySem.W.Frag) (ta : TE) : TT := fun σ H Q => ta σ H fun x H' => ∃ k, TruV K x H' k ∧ Q k H'
theorem pt_truthK (K : PySem.W.Frag) {X : Cx} {a : Expr} {ta : TE} (ha : PE X a ta) (he : ∀ whole, isTrue a X.env whole = (do let v ← whole; standAt a.pos; holding [v] (truthy v))) (e : X.K = K := by rfl) : PT X a (tTruth K ta) := e ▸ pt_truth ha he
theorem truBl {K : PySem.W.Frag} {b k : Bool} {H : Hp} : TruV K (.bl b) H k ↔ k = b := Iff.rfl
theorem pe_bmK (K : PySem.W.Frag) {X : Cx} {o e : Expr} {es : List Expr} {to : TE} {t : TA} {name : Str} {apos cpos : Pos} {T id : String} {r : V → List V → Hp → VK → Prop} (pa : PlainAttrs T) (slot : Slot T name id) (hty : typeOf (.builtin id) = pure (.type "method_descriptor")) (hm : MtR X id r) (ho : PE X o to) (ha : PA X (e :: es) t) (hK : X.K = K := by rfl)
    (hbase : attributeBase o name X.env (eval o X.env) = eval o X.env := by rfl) (hfew : ((backTo cpos (starEach (e :: es) X.env)).all (fun x => !x.1) && (backToKw cpos (keywordEach [] X.env)).all (fun x => x.1.isSome) && decide ((e :: es).length + ([] : List Keyword).length + (if ([] : List Keyword).isEmpty then 0 else 1) < 30)) = true := by rfl)
    (hline : (apos.endLine == cpos.line) = true := by rfl) (hs : starEach (e :: es) X.env = (false, eval e X.env) :: starEach es X.env := by rfl) (hplain : (backTo cpos (starEach es X.env)).any (·.1) = false := by rfl) :
    PE X (.Call (.Attribute o name apos) (e :: es) [] cpos) (tBM K T r to t) := hK ▸ pe_bm pa slot hty hm ho ha hbase hfew hline hs hplain
theorem pe_bm0K (K : PySem.W.Frag) {X : Cx} {o : Expr} {to : TE} {name : Str} {apos cpos : Pos} {T id : String} {r : V → List V → Hp → VK → Prop} (pa : PlainAttrs T) (slot : Slot T name id) (hty : typeOf (.builtin id) = pure (.type "method_descriptor")) (hm : MtR X id r) (ho : PE X o to) (hK : X.K = K := by rfl)
    (hbase : attributeBase o name X.env (eval o X.env) = eval o X.env := by rfl) (hline : (apos.endLine == cpos.line) = true := by rfl) : PE X (.Call (.Attribute o name apos) [] [] cpos) (tBM0 K T r to) := hK ▸ pe_bm0 pa slot hty hm ho hbase hline
theorem pg_tupK (K : PySem.W.Frag) (n : Nat) {X : Cx} {es : List Expr} {k : Nat} {t : TGs} {pos : Pos} (hc : X.calm = true) (h : PGs X es t) (e : X.K = K := by rfl) (hn : (assignEach es X.env).length = n := by rfl) (hst : (assignEach es X.env).findIdx? (·.1) = none := by rfl) : PG X (.Tuple es k pos) (gTup K n t) := e ▸ pg_tup hc h hn hst
end L2
namespace L2
theorem scalII (i j : Int) : scal (.int i) (.int j) = true := rfl
theorem scalNI (j : Int) : scal .non (.int j) = true := rfl
theorem scalIN (j : Int) : scal (.int j) .non = true := rfl
theorem scalBB (i j : Bool) : scal (.bl i) (.bl j) = true := rfl
theorem scalSS (i j : PySem.Str) : scal (.str i) (.str j) = true := rfl
theorem scalNN : scal .non .non = true := rfl
end L2

/-! EXTENSION R: a dict walked by its entries, whatever the keys -/
namespace L2
open PySem
/-- the dict's entries as they lie -/
def RawD (h : Heap) (d : Addr) (es : Array DictEntry) (ep : Nat) : Prop := ∃ o, h.get? d = some o ∧ o.ExactDict ∧ o.data = .dict es ep
theorem RawD.ty {s : Shared} {d : Addr} {es : Array DictEntry} {ep : Nat} (x : RawD s.heap d es ep) : s.TypeIs (.ref d) "dict" := let ⟨o, e, c, _⟩ := x; ⟨o, e, c.1⟩
theorem RawD.mono {h h' : Heap} {d : Addr} {es : Array DictEntry} {ep : Nat} (x : RawD h d es ep) (k : ∀ o, h.get? d = some o → h'.get? d = some o) : RawD h' d es ep := let ⟨o, e, r⟩ := x; ⟨o, k o e, r⟩
section
variable {P : Program} {w : World} {A : Around} {E : Value → Shared → Prop} {s : Shared} {d it : Addr} {es : Array DictEntry} {ep i : Nat}

/-! ### keys -/
theorem raw_iter {Q : Value → Shared → Prop} (nd : (d == sysModules) = false) (x : RawD s.heap d es ep)
    (q : Q (.ref s.heap.objs.size) { s with heap := s.heap.push { cls := .type "dict_keyiterator", data := .fields #[.ref d, .int 0 0, .int es.size 0, .int ep 0] } }) :
    wpAny (model P w) A (pyIter (.ref d)) Q E s := by
  have ty := x.ty
  obtain ⟨o, e1, e2, e3⟩ := x
  refine wpAny_pyIter_slot ty F.slot_dict_iter (wpAny_call_entry F.slot_dict_iter ty F.entry_dict_iter ?_ (F.args_dict_iter_1 _))
  unfold Builtin.«dict.__iter__»; refine wpAny_bind ?_
  unfold Builtin.Dict.dictSlotNone; refine wpAny_bind (wpAny_notOrdered_dict ty ?_)
  show wpAny _ _ (pure (Value.ref d)) _ _ s; refine wpAny_pure ?_
  show wpAny _ _ (Builtin.Dict.showsAll d >>= _) _ _ s; unfold Builtin.Dict.showsAll
  rw [if_neg (by rw [nd]; decide)]; refine wpAny_bind (wpAny_pure ?_)
  refine wpAny_bind (wpAny_dictEntries e1 e3 ?_)
  refine wpAny_bind (wpAny_dictEpoch e1 e3 ?_)
  refine wpAny_bind (wpAny_newObj_type (wpAny_pure ⟨_, rfl, "dict_keyiterator", _, ⟨_, Heap.get?_push_size _ rfl, rfl⟩, F.slot_dict_keyiterator_next.lookup, ?_⟩))
  simpa [rawInt] using q
theorem raw_next {Q : Option Value → Shared → Prop} (y : s.heap.IsKeyIter it d i es.size ep) (x : RawD s.heap d es ep) {en : DictEntry} (hx : es[i]? = some en)
    (q : ∀ h', h'.IsKeyIter it d (i + 1) es.size ep → Heap.SameBut it s.heap h' → Q (some en.key) { s with heap := h' }) :
    wpAny (model P w) A (pyNext (.ref it)) Q E s := by
  have ty := y.typeIs
  obtain ⟨o, a1, a2, a3⟩ := id y
  obtain ⟨od, e1, e2, e3⟩ := x
  obtain ⟨li, hen⟩ := Array.getElem?_eq_some_iff.mp hx
  unfold pyNext
  refine wpAny_bind (wpAny_attempt (wpAny_callSpecial?_slot (name := Str.ofString "__next__") ty F.slot_dict_keyiterator_next
    (wpAny_call_entry F.slot_dict_keyiterator_next ty F.entry_dict_keyiterator_next ?_ (F.args_dict_keyiterator_next_1 _))))
  refine wpAny_bind (wpAny_pure ?_); refine wpAny_bind ?_; refine wpAny_bind ?_
  first | refine wpAny_bind (wpAny_typeNameOfWhole_keyiter ty (wpAny_pure ?_)) | refine wpAny_bind (wpAny_typeNameOf_keyiter ty (wpAny_pure ?_))
  refine wpAny_bind (wpAny_fieldsOf a1 a3 ?_)
  have ow : Builtin.Dict_items.ownsTuple "dict_keyiterator" = false := by decide
  simp only [ow, Bool.false_eq_true, if_false]
  show wpAny _ _ (if (Value.ref d == Value.none) = true then _ else _) _ _ s; rw [if_neg (show ¬ ((Value.ref d == Value.none) = true) from Bool.false_ne_true)]
  refine wpAny_bind (wpAny_pure ?_); refine wpAny_bind (wpAny_dictEntries e1 e3 ?_)
  rw [if_neg (by simp)]
  refine wpAny_bind (wpAny_pure ?_); refine wpAny_bind (wpAny_dictEpoch e1 e3 ?_)
  rw [if_neg (by simp)]; refine wpAny_pure ?_
  simp only [show ¬ ((i : Int) < 0) from by omega, if_false, Int.toNat_natCast, hx]
  refine wpAny_bind ?_
  first | refine wpAny_bind (wpAny_typeNameOfWhole_keyiter ty (wpAny_pure ?_)) | refine wpAny_bind (wpAny_typeNameOf_keyiter ty (wpAny_pure ?_))
  refine wpAny_bind (wpAny_isOneOf_keyiter ty ?_)
  show wpAny _ _ (setField (.ref it) 1 (rawInt ((i : Int) + 1)) >>= _) _ _ s; refine wpAny_bind (wpAny_setField a1 a3 (by simp) ?_)
  have y' : (s.heap.update it (Obj.mapFields (·.setIfInBounds 1 (rawInt ((i : Int) + 1))))).IsKeyIter it d (i + 1) es.size ep :=
    ⟨_, Heap.get?_update_self _ a1 (Obj.isFreed_of_fields (Obj.data_mapFields a3 _)), (Obj.cls_mapFields ..).trans a2, by rw [Obj.data_mapFields a3]; simp [rawInt]⟩
  refine wpAny_bind (wpAny_holding ?_)
  refine wpAny_bind (wpAny_isOneOf_keyiter (s := { s with heap := s.heap.update it (Obj.mapFields (·.setIfInBounds 1 (rawInt ((i : Int) + 1)))) }) y'.typeIs ?_)
  exact wpAny_pure (wpAny_pure ⟨_, rfl, wpAny_pure (q _ y' (Heap.SameBut.update ..))⟩)
theorem raw_end {Q : Option Value → Shared → Prop} (hd : A.handled = none) (y : s.heap.IsKeyIter it d i es.size ep) (x : RawD s.heap d es ep) (hx : es[i]? = none)
    (q : ∀ h', Heap.ExtBut it s.heap h' → Q none { s with heap := h' }) : wpAny (model P w) A (pyNext (.ref it)) Q E s := by
  have ty := y.typeIs
  obtain ⟨o, a1, a2, a3⟩ := id y
  obtain ⟨od, e1, e2, e3⟩ := x
  unfold pyNext
  refine wpAny_bind (wpAny_attempt (wpAny_callSpecial?_slot (name := Str.ofString "__next__") ty F.slot_dict_keyiterator_next
    (wpAny_call_entry F.slot_dict_keyiterator_next ty F.entry_dict_keyiterator_next ?_ (F.args_dict_keyiterator_next_1 _))))
  refine wpAny_bind (wpAny_pure ?_); refine wpAny_bind ?_; refine wpAny_bind ?_
  first | refine wpAny_bind (wpAny_typeNameOfWhole_keyiter ty (wpAny_pure ?_)) | refine wpAny_bind (wpAny_typeNameOf_keyiter ty (wpAny_pure ?_))
  refine wpAny_bind (wpAny_fieldsOf a1 a3 ?_)
  have ow : Builtin.Dict_items.ownsTuple "dict_keyiterator" = false := by decide
  simp only [ow, Bool.false_eq_true, if_false]
  show wpAny _ _ (if (Value.ref d == Value.none) = true then _ else _) _ _ s; rw [if_neg (show ¬ ((Value.ref d == Value.none) = true) from Bool.false_ne_true)]
  refine wpAny_bind (wpAny_pure ?_); refine wpAny_bind (wpAny_dictEntries e1 e3 ?_)
  rw [if_neg (by simp)]
  refine wpAny_bind (wpAny_pure ?_); refine wpAny_bind (wpAny_dictEpoch e1 e3 ?_)
  rw [if_neg (by simp)]; refine wpAny_pure ?_
  simp only [show ¬ ((i : Int) < 0) from by omega, if_false, Int.toNat_natCast, hx]
  refine wpAny_bind ?_
  first | refine wpAny_bind (wpAny_typeNameOfWhole_keyiter ty (wpAny_pure ?_)) | refine wpAny_bind (wpAny_typeNameOf_keyiter ty (wpAny_pure ?_))
  show wpAny _ _ (setField (.ref it) 0 .none >>= _) _ _ s; refine wpAny_bind (wpAny_setField a1 a3 (by simp) ?_)
  show wpAny _ _ (newExc (.type "StopIteration") [] >>= _) _ _ _; refine wpAny_bind ?_; simp only [newExc, newTuple]
  refine wpAny_bind (wpAny_newObj_type ?_ (by size_fits)); refine wpAny_bind (m := firstArgMember _ _) (wpAny_of_eq (a := Value.none) (by first | rfl | (simp only [firstArgMember]; rfl)) ?_)
  refine wpAny_newObj_type ?_ (by size_fits); simp only [raiseNew]; refine wpAny_bind (wpAny_handled ?_)
  rw [show A.in1.handled = none from hd]; refine wpAny_bind (wpAny_pure (wpAny_throw ?_))
  refine wpAny_bind (wpAny_isInstance (T := "StopIteration") (b := true) ⟨_, Heap.get?_push_size _ rfl, rfl⟩ isSubtype_stop ?_); exact wpAny_pure (q _ (((Heap.SameBut.update ..).extBut.push _).push _))
theorem raw_walk (hd : A.handled = none) (hne : d ≠ it) : Walks P w A it [it, d] [it] es.size (fun i v => ∃ en, es[i]? = some en ∧ v = en.key) (fun i h => h.IsKeyIter it d i es.size ep ∧ RawD h d es ep) where
  sub := fun b hb => by simp at hb; simp [hb]
  frame := fun _ _ _ st hk => ⟨by
    obtain ⟨o, e, r⟩ := st.1
    exact ⟨o, hk it (by simp) o e, r⟩, st.2.mono fun o e => hk d (by simp) o e⟩
  item := fun i s Q E hi st hQ => by
    refine raw_next st.1 st.2 (en := es[i]) (by simp [hi]) fun h' y' sb => ?_
    exact hQ _ h' s.toks ⟨_, by simp [hi], rfl⟩ ⟨y', st.2.mono fun o e => sb.extBut d o hne e⟩ fun b o hb e => sb.extBut b o (fun z => hb (by simp [z])) e
  done := fun s Q E st hQ => raw_end hd st.1 st.2 (by simp) fun h' eb => hQ h' s.toks fun b o hb e => eb b o (fun z => hb (by simp [z])) e
  self := fun _ _ _ _ st hQ => wpAny_pyIter_keyiter st.1 hQ

/-! ### values -/
theorem raw_values {R : Value → Shared → Prop} (nd : (d == sysModules) = false) (x : RawD s.heap d es ep) (q : R (.ref s.heap.objs.size) { s with heap := s.heap.push { cls := .type "dict_values", data := .fields #[.ref d] } }) :
    wpAny (model P w) A (call (.builtin "dict.values") [.ref d]) R E s := by
  have ty := x.ty
  refine wpAny_call_entry F.slot_dict_values ty F.entry_dict_values ?_ (F.args_dict_values_1 _)
  refine wpAny_bind ?_
  unfold Builtin.Dict.noArgs
  refine wpAny_bind (wpAny_notOrdered_dict ty ?_)
  show wpAny _ _ (pure d) _ _ s; refine wpAny_pure ?_
  show wpAny _ _ (Builtin.Dict.showsAll d >>= _) _ _ s; unfold Builtin.Dict.showsAll
  rw [if_neg (by rw [nd]; decide)]; refine wpAny_bind (wpAny_pure ?_)
  exact wpAny_bind (wpAny_newObj_type (wpAny_pure ⟨_, rfl, q⟩))
theorem raw_iterV {v : Addr} {Q : Value → Shared → Prop} (vw : s.heap.IsValuesView v d) (x : RawD s.heap d es ep)
    (q : Q (.ref s.heap.objs.size) { s with heap := s.heap.push { cls := .type "dict_valueiterator", data := .fields #[.ref d, .int 0 0, .int es.size 0, .int ep 0] } }) :
    wpAny (model P w) A (pyIter (.ref v)) Q E s := by
  have ty := vw.typeIs
  obtain ⟨ov, b1, b2, b3⟩ := id vw
  obtain ⟨o, e1, e2, e3⟩ := x
  refine wpAny_pyIter_slot ty F.slot_dict_values_iter (wpAny_call_entry F.slot_dict_values_iter ty F.entry_dict_values_iter ?_ (F.args_dict_values_iter_1 _))
  unfold Builtin.«dict_values.__iter__»; refine wpAny_bind (wpAny_pure ?_); refine wpAny_bind ?_
  unfold Builtin.Dict_items.dictOf; refine wpAny_bind (wpAny_field b1 b3 (x := .ref d) rfl (wpAny_pure ?_)); refine wpAny_bind ?_
  unfold Builtin.Dict_items.newIterator; refine wpAny_bind (wpAny_dictEntries e1 e3 ?_); refine wpAny_bind (wpAny_dictEpoch e1 e3 ?_)
  have ow : Builtin.Dict_items.ownsTuple "dict_valueiterator" = false := by decide
  simp only [ow, Bool.false_eq_true, if_false]
  refine wpAny_newObj_type (wpAny_pure ⟨_, rfl, "dict_valueiterator", _, ⟨_, Heap.get?_push_size _ rfl, rfl⟩, F.slot_dict_valueiterator_next.lookup, ?_⟩)
  simpa [rawInt] using q
theorem raw_nextV {Q : Option Value → Shared → Prop} (y : s.heap.IsValIter it d i es.size ep) (x : RawD s.heap d es ep) {en : DictEntry} (hx : es[i]? = some en)
    (q : ∀ h', h'.IsValIter it d (i + 1) es.size ep → Heap.SameBut it s.heap h' → Q (some en.val) { s with heap := h' }) :
    wpAny (model P w) A (pyNext (.ref it)) Q E s := by
  have ty := y.typeIs
  obtain ⟨o, a1, a2, a3⟩ := id y
  obtain ⟨od, e1, e2, e3⟩ := x
  obtain ⟨li, hen⟩ := Array.getElem?_eq_some_iff.mp hx
  unfold pyNext
  refine wpAny_bind (wpAny_attempt (wpAny_callSpecial?_slot (name := Str.ofString "__next__") ty F.slot_dict_valueiterator_next
    (wpAny_call_entry F.slot_dict_valueiterator_next ty F.entry_dict_valueiterator_next ?_ (F.args_dict_valueiterator_next_1 _))))
  refine wpAny_bind (wpAny_pure ?_); refine wpAny_bind ?_; refine wpAny_bind ?_
  first | refine wpAny_bind (wpAny_typeNameOfWhole_valiter ty (wpAny_pure ?_)) | refine wpAny_bind (wpAny_typeNameOf_valiter ty (wpAny_pure ?_))
  refine wpAny_bind (wpAny_fieldsOf a1 a3 ?_)
  have ow : Builtin.Dict_items.ownsTuple "dict_valueiterator" = false := by decide
  simp only [ow, Bool.false_eq_true, if_false]
  show wpAny _ _ (if (Value.ref d == Value.none) = true then _ else _) _ _ s; rw [if_neg (show ¬ ((Value.ref d == Value.none) = true) from Bool.false_ne_true)]
  refine wpAny_bind (wpAny_pure ?_); refine wpAny_bind (wpAny_dictEntries e1 e3 ?_)
  rw [if_neg (by simp)]
  refine wpAny_bind (wpAny_pure ?_); refine wpAny_bind (wpAny_dictEpoch e1 e3 ?_)
  rw [if_neg (by simp)]; refine wpAny_pure ?_
  simp only [show ¬ ((i : Int) < 0) from by omega, if_false, Int.toNat_natCast, hx]
  refine wpAny_bind ?_
  first | refine wpAny_bind (wpAny_typeNameOfWhole_valiter ty (wpAny_pure ?_)) | refine wpAny_bind (wpAny_typeNameOf_valiter ty (wpAny_pure ?_))
  refine wpAny_bind (wpAny_isOneOf_valiter ty ?_)
  show wpAny _ _ (setField (.ref it) 1 (rawInt ((i : Int) + 1)) >>= _) _ _ s; refine wpAny_bind (wpAny_setField a1 a3 (by simp) ?_)
  have y' : (s.heap.update it (Obj.mapFields (·.setIfInBounds 1 (rawInt ((i : Int) + 1))))).IsValIter it d (i + 1) es.size ep :=
    ⟨_, Heap.get?_update_self _ a1 (Obj.isFreed_of_fields (Obj.data_mapFields a3 _)), (Obj.cls_mapFields ..).trans a2, by rw [Obj.data_mapFields a3]; simp [rawInt]⟩
  refine wpAny_bind (wpAny_holding ?_)
  refine wpAny_bind (wpAny_isOneOf_valiter (s := { s with heap := s.heap.update it (Obj.mapFields (·.setIfInBounds 1 (rawInt ((i : Int) + 1)))) }) y'.typeIs ?_)
  refine wpAny_bind (wpAny_isOneOf_valiter (s := { s with heap := s.heap.update it (Obj.mapFields (·.setIfInBounds 1 (rawInt ((i : Int) + 1)))) }) y'.typeIs ?_)
  exact wpAny_pure (wpAny_pure ⟨_, rfl, wpAny_pure (q _ y' (Heap.SameBut.update ..))⟩)
theorem raw_endV {Q : Option Value → Shared → Prop} (hd : A.handled = none) (y : s.heap.IsValIter it d i es.size ep) (x : RawD s.heap d es ep) (hx : es[i]? = none)
    (q : ∀ h', Heap.ExtBut it s.heap h' → Q none { s with heap := h' }) : wpAny (model P w) A (pyNext (.ref it)) Q E s := by
  have ty := y.typeIs
  obtain ⟨o, a1, a2, a3⟩ := id y
  obtain ⟨od, e1, e2, e3⟩ := x
  unfold pyNext
  refine wpAny_bind (wpAny_attempt (wpAny_callSpecial?_slot (name := Str.ofString "__next__") ty F.slot_dict_valueiterator_next
    (wpAny_call_entry F.slot_dict_valueiterator_next ty F.entry_dict_valueiterator_next ?_ (F.args_dict_valueiterator_next_1 _))))
  refine wpAny_bind (wpAny_pure ?_); refine wpAny_bind ?_; refine wpAny_bind ?_
  first | refine wpAny_bind (wpAny_typeNameOfWhole_valiter ty (wpAny_pure ?_)) | refine wpAny_bind (wpAny_typeNameOf_valiter ty (wpAny_pure ?_))
  refine wpAny_bind (wpAny_fieldsOf a1 a3 ?_)
  have ow : Builtin.Dict_items.ownsTuple "dict_valueiterator" = false := by decide
  simp only [ow, Bool.false_eq_true, if_false]
  show wpAny _ _ (if (Value.ref d == Value.none) = true then _ else _) _ _ s; rw [if_neg (show ¬ ((Value.ref d == Value.none) = true) from Bool.false_ne_true)]
  refine wpAny_bind (wpAny_pure ?_); refine wpAny_bind (wpAny_dictEntries e1 e3 ?_)
  rw [if_neg (by simp)]
  refine wpAny_bind (wpAny_pure ?_); refine wpAny_bind (wpAny_dictEpoch e1 e3 ?_)
  rw [if_neg (by simp)]; refine wpAny_pure ?_
  simp only [show ¬ ((i : Int) < 0) from by omega, if_false, Int.toNat_natCast, hx]
  refine wpAny_bind ?_
  first | refine wpAny_bind (wpAny_typeNameOfWhole_valiter ty (wpAny_pure ?_)) | refine wpAny_bind (wpAny_typeNameOf_valiter ty (wpAny_pure ?_))
  show wpAny _ _ (setField (.ref it) 0 .none >>= _) _ _ s; refine wpAny_bind (wpAny_setField a1 a3 (by simp) ?_)
  show wpAny _ _ (newExc (.type "StopIteration") [] >>= _) _ _ _; refine wpAny_bind ?_; simp only [newExc, newTuple]
  refine wpAny_bind (wpAny_newObj_type ?_ (by size_fits)); refine wpAny_bind (m := firstArgMember _ _) (wpAny_of_eq (a := Value.none) (by first | rfl | (simp only [firstArgMember]; rfl)) ?_)
  refine wpAny_newObj_type ?_ (by size_fits); simp only [raiseNew]; refine wpAny_bind (wpAny_handled ?_)
  rw [show A.in1.handled = none from hd]; refine wpAny_bind (wpAny_pure (wpAny_throw ?_))
  refine wpAny_bind (wpAny_isInstance (T := "StopIteration") (b := true) ⟨_, Heap.get?_push_size _ rfl, rfl⟩ isSubtype_stop ?_); exact wpAny_pure (q _ (((Heap.SameBut.update ..).extBut.push _).push _))
theorem raw_walkV (hd : A.handled = none) (hne : d ≠ it) : Walks P w A it [it, d] [it] es.size (fun i v => ∃ en, es[i]? = some en ∧ v = en.val) (fun i h => h.IsValIter it d i es.size ep ∧ RawD h d es ep) where
  sub := fun b hb => by simp at hb; simp [hb]
  frame := fun _ _ _ st hk => ⟨by
    obtain ⟨o, e, r⟩ := st.1
    exact ⟨o, hk it (by simp) o e, r⟩, st.2.mono fun o e => hk d (by simp) o e⟩
  item := fun i s Q E hi st hQ => by
    refine raw_nextV st.1 st.2 (en := es[i]) (by simp [hi]) fun h' y' sb => ?_
    exact hQ _ h' s.toks ⟨_, by simp [hi], rfl⟩ ⟨y', st.2.mono fun o e => sb.extBut d o hne e⟩ fun b o hb e => sb.extBut b o (fun z => hb (by simp [z])) e
  done := fun s Q E st hQ => raw_endV hd st.1 st.2 (by simp) fun h' eb => hQ h' s.toks fun b o hb e => eb b o (fun z => hb (by simp [z])) e
  self := fun _ _ _ _ st hQ => wpAny_pyIter_valiter st.1 hQ

/-! ### items -/
theorem raw_items {R : Value → Shared → Prop} (nd : (d == sysModules) = false) (x : RawD s.heap d es ep) (q : R (.ref s.heap.objs.size) { s with heap := s.heap.push { cls := .type "dict_items", data := .fields #[.ref d] } }) :
    wpAny (model P w) A (call (.builtin "dict.items") [.ref d]) R E s := by
  have ty := x.ty
  refine wpAny_call_entry F.slot_dict_items ty F.entry_dict_items ?_ (F.args_dict_items_1 _)
  unfold Builtin.«dict.items»
  refine wpAny_bind ?_
  unfold Builtin.Dict.noArgs
  refine wpAny_bind (wpAny_notOrdered_dict ty ?_)
  show wpAny _ _ (pure d) _ _ s; refine wpAny_pure ?_
  show wpAny _ _ (Builtin.Dict.showsAll d >>= _) _ _ s; unfold Builtin.Dict.showsAll
  rw [if_neg (by rw [nd]; decide)]; refine wpAny_bind (wpAny_pure ?_)
  exact wpAny_bind (wpAny_newObj_type (wpAny_pure ⟨_, rfl, q⟩))
theorem raw_iterI {v : Addr} {Q : Value → Shared → Prop} (vw : s.heap.IsItemsView v d) (x : RawD s.heap d es ep)
    (q : Q (.ref s.heap.objs.size) { s with heap := s.heap.push { cls := .type "dict_itemiterator", data := .fields #[.none, .bool false, .ref d, .int 0 0, .int es.size 0, .int ep 0, .none, .none] } }) :
    wpAny (model P w) A (pyIter (.ref v)) Q E s := by
  have ty := vw.typeIs
  obtain ⟨ov, b1, b2, b3⟩ := id vw
  obtain ⟨o, e1, e2, e3⟩ := x
  refine wpAny_pyIter_slot ty F.slot_dict_items_iter (wpAny_call_entry F.slot_dict_items_iter ty F.entry_dict_items_iter ?_ (F.args_dict_items_iter_1 _))
  unfold Builtin.«dict_items.__iter__»; refine wpAny_bind (wpAny_pure ?_); refine wpAny_bind ?_
  unfold Builtin.Dict_items.dictOf; refine wpAny_bind (wpAny_field b1 b3 (x := .ref d) rfl (wpAny_pure ?_)); refine wpAny_bind ?_
  unfold Builtin.Dict_items.newIterator; refine wpAny_bind (wpAny_dictEntries e1 e3 ?_); refine wpAny_bind (wpAny_dictEpoch e1 e3 ?_)
  have ow : Builtin.Dict_items.ownsTuple "dict_itemiterator" = true := by decide
  simp only [ow, if_true]
  refine wpAny_newObj_type (wpAny_pure ⟨_, rfl, "dict_itemiterator", _, ⟨_, Heap.get?_push_size _ rfl, rfl⟩, F.slot_dict_itemiterator_next.lookup, ?_⟩)
    (by simp only [sizeOk, Builtin.Dict_items.ownedTupleFields, List.size_toArray, List.length_append, List.length_cons, List.length_nil, sizeLine_eq]; omega)
  simpa [rawInt, Builtin.Dict_items.ownedTupleFields] using q
theorem raw_nextI {ok ov : Value} {Q : Option Value → Shared → Prop} (y : IsItemIter s.heap it d i es.size ep ok ov) (x : RawD s.heap d es ep) {en : DictEntry} (hx : es[i]? = some en)
    (q : ∀ h', IsItemIterOut h' it d (i + 1) es.size ep en.key en.val s.heap.objs.size → h'.get? s.heap.objs.size = some { cls := .type "tuple", data := .seq #[en.key, en.val] } →
      h'.objs.size = s.heap.objs.size + 1 → (∀ b o, b ≠ it → s.heap.get? b = some o → h'.get? b = some o) → Q (some (.ref s.heap.objs.size)) { s with heap := h' }) :
    wpAny (model P w) A (pyNext (.ref it)) Q E s := by
  obtain ⟨hp, g, dr, tk, os⟩ := s
  obtain ⟨od, e1, e2, e3⟩ := x
  have ty : Shared.TypeIs ⟨hp, g, dr, tk, os⟩ (.ref it) "dict_itemiterator" := ⟨_, y, rfl⟩
  obtain ⟨li, hen⟩ := Array.getElem?_eq_some_iff.mp hx
  unfold pyNext
  refine wpAny_bind (wpAny_attempt (wpAny_callSpecial?_slot (name := Str.ofString "__next__") ty F.slot_dict_itemiterator_next
    (wpAny_call_entry F.slot_dict_itemiterator_next ty F.entry_dict_itemiterator_next ?_ (F.args_dict_itemiterator_next_1 _))))
  refine wpAny_bind (wpAny_pure ?_); refine wpAny_bind ?_; refine wpAny_bind ?_
  first | refine wpAny_bind (wpAny_typeNameOfWhole_itemiter ty (wpAny_pure ?_)) | refine wpAny_bind (wpAny_typeNameOf_itemiter ty (wpAny_pure ?_))
  refine wpAny_bind (wpAny_fieldsOf y rfl ?_)
  have ow : Builtin.Dict_items.ownsTuple "dict_itemiterator" = true := by decide
  simp only [ow, if_true]
  show wpAny _ _ (if (Value.ref d == Value.none) = true then _ else _) _ _ ⟨hp, g, dr, tk, os⟩; rw [if_neg (show ¬ ((Value.ref d == Value.none) = true) from Bool.false_ne_true)]
  refine wpAny_bind (wpAny_pure ?_); refine wpAny_bind (wpAny_dictEntries e1 e3 ?_)
  rw [if_neg (by simp)]
  refine wpAny_bind (wpAny_pure ?_); refine wpAny_bind (wpAny_dictEpoch e1 e3 ?_)
  rw [if_neg (by simp)]; refine wpAny_pure ?_
  simp only [show ¬ ((i : Int) < 0) from by omega, if_false, Int.toNat_natCast, hx]
  refine wpAny_bind ?_
  first | refine wpAny_bind (wpAny_typeNameOfWhole_itemiter ty (wpAny_pure ?_)) | refine wpAny_bind (wpAny_typeNameOf_itemiter ty (wpAny_pure ?_))
  refine wpAny_bind (wpAny_isOneOf_itemiter ty ?_)
  show wpAny _ _ (setField (.ref it) 3 (rawInt ((i : Int) + 1)) >>= _) _ _ ⟨hp, g, dr, tk, os⟩; refine wpAny_bind (wpAny_setField_rec y (by simp) fun h1 y1 m1 => ?_)
  replace m1 : Heap.SameBut it hp h1 := m1
  replace y1 : IsItemIter h1 it d (i + 1) es.size ep ok ov := by
    have z : ((i + 1 : Nat) : Int) = (i : Int) + 1 := by omega
    unfold IsItemIter; rw [z]; simpa [rawInt] using y1
  have ty1 : Shared.TypeIs ⟨h1, g, dr, tk, os⟩ (.ref it) "dict_itemiterator" := ⟨_, y1, rfl⟩
  refine wpAny_bind (wpAny_holding ?_); refine wpAny_bind (wpAny_isOneOf_itemiter ty1 ?_); refine wpAny_bind (wpAny_isOneOf_itemiter ty1 ?_)
  show wpAny _ _ (Builtin.Dict_items.pairFromOwner (.ref it) 6 en.key en.val) _ _ ⟨h1, g, dr, tk, os⟩
  unfold Builtin.Dict_items.pairFromOwner; refine wpAny_bind (wpAny_newTuple ?_)
  have y2 : IsItemIter (h1.push { cls := .type "tuple", data := .seq #[en.key, en.val] }) it d (i + 1) es.size ep ok ov := Heap.get?_push_of_some _ y1
  generalize eh2 : h1.push { cls := .type "tuple", data := .seq #[en.key, en.val] } = h2 at y2
  have z1 : h1.objs.size = hp.objs.size := m1.1
  have il : it < hp.objs.size := Heap.lt_size y
  have t2 : h2.get? hp.objs.size = some { cls := .type "tuple", data := .seq #[en.key, en.val] } := by rw [← eh2, ← z1]; exact Heap.get?_push_size _ rfl
  have z2 : h2.objs.size = hp.objs.size + 1 := by rw [← eh2, Heap.size_push, z1]
  have k2 : ∀ b o, b ≠ it → hp.get? b = some o → h2.get? b = some o := fun b o hb e => by rw [← eh2]; exact Heap.get?_push_of_some _ (m1.extBut b o hb e)
  show wpAny _ _ (Builtin.Dict_items.ownedTupleIsFree (.ref it) >>= _) _ _ ⟨h2, g, dr, tk, os⟩; rw [z1]; clear eh2 y1 m1 ty1 z1 h1
  refine wpAny_bind ?_; unfold Builtin.Dict_items.ownedTupleIsFree
  refine wpAny_bind (wpAny_field y2 rfl (x := .none) rfl (wpAny_pure ?_)); simp only [if_true]
  refine wpAny_bind (wpAny_field y2 rfl (x := ok) rfl ?_); refine wpAny_bind (wpAny_field y2 rfl (x := ov) rfl ?_)
  refine wpAny_bind (wpAny_setField_rec y2 (by simp) fun h3 y3 m3 => ?_)
  replace m3 : Heap.SameBut it h2 h3 := m3; replace y3 : IsItemIter h3 it d (i + 1) es.size ep en.key ov := y3
  refine wpAny_bind (wpAny_setField_rec y3 (by simp) fun h4 y4 m4 => ?_)
  replace m4 : Heap.SameBut it h3 h4 := m4; replace y4 : IsItemIter h4 it d (i + 1) es.size ep en.key en.val := y4
  refine wpAny_bind (wpAny_setField_rec y4 (by simp) fun h5 y5 m5 => ?_)
  replace m5 : Heap.SameBut it h4 h5 := m5; replace y5 : IsItemIterOut h5 it d (i + 1) es.size ep en.key en.val hp.objs.size := y5
  refine wpAny_bind (wpAny_setField_rec y5 (by simp) fun h6 y6 m6 => ?_)
  replace m6 : Heap.SameBut it h5 h6 := m6; replace y6 : IsItemIterOut h6 it d (i + 1) es.size ep en.key en.val hp.objs.size := y6
  have kk : ∀ b o, b ≠ it → h2.get? b = some o → h6.get? b = some o := fun b o hb e => m6.extBut b o hb (m5.extBut b o hb (m4.extBut b o hb (m3.extBut b o hb e)))
  refine wpAny_bind (wpAny_letGo (wpAny_pure (wpAny_pure ⟨_, rfl, wpAny_pure (q h6 y6 (kk _ _ (Nat.ne_of_gt il) t2) ?_ fun b o hb e => kk b o hb (k2 b o hb e))⟩)))
  show h6.objs.size = hp.objs.size + 1; rw [m6.1, m5.1, m4.1, m3.1, z2]
theorem raw_endI {ok ov : Value} {Q : Option Value → Shared → Prop} (hd : A.handled = none) (y : IsItemIter s.heap it d i es.size ep ok ov) (x : RawD s.heap d es ep) (hx : es[i]? = none)
    (q : ∀ h', Heap.ExtBut it s.heap h' → Q none { s with heap := h' }) : wpAny (model P w) A (pyNext (.ref it)) Q E s := by
  obtain ⟨od, e1, e2, e3⟩ := x
  have ty : s.TypeIs (.ref it) "dict_itemiterator" := ⟨_, y, rfl⟩
  unfold pyNext
  refine wpAny_bind (wpAny_attempt (wpAny_callSpecial?_slot (name := Str.ofString "__next__") ty F.slot_dict_itemiterator_next
    (wpAny_call_entry F.slot_dict_itemiterator_next ty F.entry_dict_itemiterator_next ?_ (F.args_dict_itemiterator_next_1 _))))
  refine wpAny_bind (wpAny_pure ?_); refine wpAny_bind ?_; refine wpAny_bind ?_
  first | refine wpAny_bind (wpAny_typeNameOfWhole_itemiter ty (wpAny_pure ?_)) | refine wpAny_bind (wpAny_typeNameOf_itemiter ty (wpAny_pure ?_))
  refine wpAny_bind (wpAny_fieldsOf y rfl ?_)
  have ow : Builtin.Dict_items.ownsTuple "dict_itemiterator" = true := by decide
  simp only [ow, if_true]
  show wpAny _ _ (if (Value.ref d == Value.none) = true then _ else _) _ _ s; rw [if_neg (show ¬ ((Value.ref d == Value.none) = true) from Bool.false_ne_true)]
  refine wpAny_bind (wpAny_pure ?_); refine wpAny_bind (wpAny_dictEntries e1 e3 ?_)
  rw [if_neg (by simp)]
  refine wpAny_bind (wpAny_pure ?_); refine wpAny_bind (wpAny_dictEpoch e1 e3 ?_)
  rw [if_neg (by simp)]; refine wpAny_pure ?_
  simp only [show ¬ ((i : Int) < 0) from by omega, if_false, Int.toNat_natCast, hx]
  refine wpAny_bind ?_
  first | refine wpAny_bind (wpAny_typeNameOfWhole_itemiter ty (wpAny_pure ?_)) | refine wpAny_bind (wpAny_typeNameOf_itemiter ty (wpAny_pure ?_))
  show wpAny _ _ (setField (.ref it) 2 .none >>= _) _ _ s; refine wpAny_bind (wpAny_setField y rfl (by simp) ?_)
  show wpAny _ _ (newExc (.type "StopIteration") [] >>= _) _ _ _; refine wpAny_bind ?_; simp only [newExc, newTuple]
  refine wpAny_bind (wpAny_newObj_type ?_ (by size_fits)); refine wpAny_bind (m := firstArgMember _ _) (wpAny_of_eq (a := Value.none) (by first | rfl | (simp only [firstArgMember]; rfl)) ?_)
  refine wpAny_newObj_type ?_ (by size_fits); simp only [raiseNew]; refine wpAny_bind (wpAny_handled ?_)
  rw [show A.in1.handled = none from hd]; refine wpAny_bind (wpAny_pure (wpAny_throw ?_))
  refine wpAny_bind (wpAny_isInstance (T := "StopIteration") (b := true) ⟨_, Heap.get?_push_size _ rfl, rfl⟩ isSubtype_stop ?_); exact wpAny_pure (q _ (((Heap.SameBut.update ..).extBut.push _).push _))

/-! ### min(.., key=f), f known to keep the heap and to tell an int -/
/-- all objects of h are in h' -/
def Kp (h h' : Heap) : Prop := ∀ b o, h.get? b = some o → h'.get? b = some o
section
variable {I S : Addr} {fp wr : List Addr} {n : Nat} {PV : Nat → Value → Prop} {St : Nat → Heap → Prop} {f : String} {R : Result → Shared → Prop}
theorem mk_loop (W : Walks P w A.in1 I fp wr n PV St) (kf : Nat → Int) (hSf : S ∉ fp) (hwr : ∀ b ∈ wr, s.heap.objs.size ≤ b) (hS0 : s.heap.objs.size ≤ S)
    (turn : ∀ (i : Nat) (v : Value) (h : Heap) (tk : Nat), i < n → PV i v → Kp s.heap h → wpAny (model P w) A.in1 (call (.builtin f) [v]) (fun x s' => ∃ (t : Tok) (h' : Heap) (tk' : Nat), x = .int (kf i) t ∧ s' = { s with heap := h', toks := tk' } ∧ Kp h h') (fun _ _ => False) { s with heap := h, toks := tk })
    (hR : ∀ i v h' tk', i < n → PV i v → (∀ j, j < n → kf i ≤ kf j ∧ (j < i → kf i < kf j)) → Kp s.heap h' → R (.ok (.ret v)) { s with heap := h', toks := tk' }) :
    ∀ (r j i : Nat) (h : Heap) (tk : Nat) (vb : Value) (tb : Tok) (c : Nat), n - (j + 1) = r → j + 1 ≤ n → Kp s.heap h → h.get? S = some { cls := .type "list", data := .seq #[vb, .int (kf i) tb] c } → St (j + 1) h → PV i vb → i ≤ j →
      (∀ j', j' ≤ j → kf i ≤ kf j' ∧ (j' < i → kf i < kf j')) → codeAny (model P w) A (.builtin "min.loop" ⟨[.ref I, .builtin f, .ref S], []⟩) R { s with heap := h, toks := tk } := by
  have nm : (toString "min" ++ toString ".loop" : String) = "min.loop" := by decide
  have hSw : S ∉ wr := fun z => hSf (W.sub _ z)
  have low : ∀ b o, s.heap.get? b = some o → b ∉ wr := fun b o e z => Nat.lt_irrefl _ (Nat.lt_of_lt_of_le (Heap.lt_size e) (hwr b z))
  have lowS : ∀ b o, s.heap.get? b = some o → S ≠ b := fun b o e z => Nat.lt_irrefl _ (Nat.lt_of_lt_of_le (Heap.lt_size e) (z ▸ hS0))
  intro r
  induction r with
  | zero =>
    intro j i h tk vb tb c hr hj hk hS hst hvb hij best
    have hin : n = j + 1 := by omega
    subst hin
    refine codeAny_builtin F.entry_min_loop ?_
    rw [Around.under_plainId F.plain_min_loop _]
    show wpAny _ A.in1 (seqItems? (.ref S) >>= _) _ _ _
    refine wpAny_bind (wpAny_seqItems hS rfl ?_)
    show wpAny _ A.in1 (tryCatch (pyNext (.ref I)) _ >>= _) _ _ _
    refine wpAny_bind (wpAny_tryCatch (W.done _ _ _ hst fun h' tk' hk' => ?_))
    have hS' := hk' S _ hSw hS
    show wpAny _ A.in1 (updateSeq S (fun _ => #[]) >>= _) _ _ _
    refine wpAny_bind ?_
    refine wpAny_updateSeq hS' rfl (wpAny_bind (wpAny_letGo (wpAny_pure ?_)))
    exact hR i vb _ _ (by omega) hvb (fun j' hj' => best j' (by omega)) fun b o e => (Heap.get?_update_other _ _ (lowS b o e)).trans (hk' b o (low b o e) (hk b o e))
  | succ r ih =>
    intro j i h tk vb tb c hr hj hk hS hst hvb hij best
    have hlt : j + 1 < n := by omega
    refine codeAny_builtin F.entry_min_loop ?_
    rw [Around.under_plainId F.plain_min_loop _]
    show wpAny _ A.in1 (seqItems? (.ref S) >>= _) _ _ _
    refine wpAny_bind (wpAny_seqItems hS rfl ?_)
    show wpAny _ A.in1 (tryCatch (pyNext (.ref I)) _ >>= _) _ _ _
    refine wpAny_bind (wpAny_tryCatch (W.item (j + 1) _ _ _ hlt hst fun v h' tk' hP hst' hk' => ?_))
    have k1 : Kp s.heap h' := fun b o e => hk' b o (low b o e) (hk b o e)
    have hS1 := hk' S _ hSw hS
    show wpAny _ A.in1 (tryCatch (holding [v] (call (.builtin f) [v])) _ >>= _) _ _ _
    refine wpAny_bind (wpAny_tryCatch (wpAny_holding (wpAny_mono (turn (j + 1) v h' tk' hlt hP k1) (fun x s'' z => ?_) fun _ _ z => z.elim)))
    obtain ⟨t2, h2, tk2, rfl, rfl, k2⟩ := z
    have hS2 := k2 S _ hS1
    have st2 : St (j + 1 + 1) h2 := W.frame _ _ _ hst' fun b _ o e => k2 b o e
    show wpAny _ A.in1 (tryCatch (holding [v, .int (kf (j + 1)) t2] (richCompare .Lt (.int (kf (j + 1)) t2) (.int (kf i) tb) >>= _)) _ >>= _) _ _ _
    refine wpAny_bind (wpAny_tryCatch (wpAny_holding (wpAny_bind (CmpOf.ints_lt (prog := P) (w := w) (A := A.in1) (P := fun i v => ∃ t, v = .int (kf i) t) kf (fun i v h => h) (j + 1) i _ _ _ _ _ ⟨t2, rfl⟩ ⟨tb, rfl⟩ ?_))))
    refine wpAny_bind (wpAny_holding (wpAny_truthy_bool ?_))
    refine wpAny_bind (wpAny_letGo (wpAny_pure ?_))
    by_cases lt : kf (j + 1) < kf i
    · simp only [lt, decide_true, if_true]
      refine wpAny_bind ?_
      refine wpAny_updateSeq hS2 rfl (wpAny_bind (wpAny_letGo ?_))
      rw [nm]
      refine wpAny_pure ⟨plainId_quiet F.plain_min_loop _, ih (j + 1) (j + 1) _ _ v t2 _ (by omega) hlt (fun b o e => ?_) (Heap.get?_update_self _ hS2 rfl) (W.frame _ _ _ st2 fun b hb o e => ?_) hP (Nat.le_refl _) fun j' hj' => ?_⟩
      · exact (Heap.get?_update_other _ _ (lowS b o e)).trans (k2 b o (k1 b o e))
      · exact (Heap.get?_update_other _ _ (fun z : S = b => hSf (by rw [z]; exact hb))).trans e
      · by_cases e : j' = j + 1
        · subst e; exact ⟨by omega, fun _ => by omega⟩
        · have b1 := best j' (by omega)
          have b2 := b1.1
          exact ⟨by omega, fun _ => by omega⟩
    · simp only [lt, decide_false, Bool.false_eq_true, if_false]
      refine wpAny_bind (wpAny_letGo ?_)
      rw [nm]
      refine wpAny_pure ⟨plainId_quiet F.plain_min_loop _, ih (j + 1) i _ _ vb tb c (by omega) hlt (fun b o e => k2 b o (k1 b o e)) hS2 st2 hvb (by omega) fun j' hj' => ?_⟩
      by_cases e : j' = j + 1
      · subst e; exact ⟨by omega, fun _ => by omega⟩
      · exact best j' (by omega)
theorem mk_key (a v : Value) : argsOk "min" ⟨[a], [(Str.ofString "key", v)]⟩ := by unfold argsOk; kernel_rfl
theorem mk_min {x : Value} {Q : Value → Shared → Prop}
    (h : wpAny (model P w) A.in1 (pyIter x) (fun itv s2 => ∃ (I : Addr) (fp wr : List Addr) (n : Nat) (PV : Nat → Value → Prop) (St : Nat → Heap → Prop) (kf : Nat → Int) (h2 : Heap), itv = .ref I ∧ s2 = { s with heap := h2 } ∧ s.heap.objs.size ≤ h2.objs.size ∧ Kp s.heap h2 ∧ Walks P w A.in1 I fp wr n PV St ∧ St 0 h2 ∧ (∀ b ∈ fp, b < h2.objs.size) ∧
      (∀ b ∈ wr, s.heap.objs.size ≤ b) ∧ 0 < n ∧
      (∀ (i : Nat) (v : Value) (h : Heap) (tk : Nat), i < n → PV i v → Kp s.heap h → wpAny (model P w) A.in1 (call (.builtin f) [v]) (fun x s' => ∃ (t : Tok) (h' : Heap) (tk' : Nat), x = .int (kf i) t ∧ s' = { s with heap := h', toks := tk' } ∧ Kp h h') (fun _ _ => False) { s with heap := h, toks := tk }) ∧
      ∀ i v h' tk', i < n → PV i v → (∀ j, j < n → kf i ≤ kf j ∧ (j < i → kf i < kf j)) → Kp s.heap h' → Q v { s with heap := h', toks := tk' }) E s) :
    wpAny (model P w) A (call (.builtin "min") [x] [(Str.ofString "key", .builtin f)]) Q E s := by
  have nm : (toString "min" ++ toString ".loop" : String) = "min.loop" := by decide
  refine PyProof.Rows.kmk_tree F.kind_min F.plain_min F.entry_min (mk_key _ _) ?_
  show wpAny _ A.in1 (Builtin.Builtins.bindParams "min" ["key", "default"] 0 ⟨[], [(Str.ofString "key", .builtin f)]⟩ >>= _) _ _ s
  refine wpAny_bind (wpAny_of_eq (show Builtin.Builtins.bindParams "min" ["key", "default"] 0 ⟨[], [(Str.ofString "key", .builtin f)]⟩ = pure [some (.builtin f), none] from rfl) ?_)
  refine wpAny_bind (wpAny_pure ?_)
  refine wpAny_bind (wpAny_mono h (fun itv s2 z => ?_) fun _ _ z => z)
  obtain ⟨I, fp, wr, n, PV, St, kf, h2, rfl, rfl, sz, k2, W, hst, hfp, hwr, hn, turn, hQ⟩ := z
  refine wpAny_bind (wpAny_newList ?_ (Nat.zero_le _))
  rw [nm]
  have hSf : h2.objs.size ∉ fp := fun z => Nat.lt_irrefl _ (hfp _ z)
  have hSw : h2.objs.size ∉ wr := fun z => hSf (W.sub _ z)
  have low : ∀ b o, s.heap.get? b = some o → b ∉ wr := fun b o e z => Nat.lt_irrefl _ (Nat.lt_of_lt_of_le (Heap.lt_size e) (hwr b z))
  have gS : (h2.push { cls := .type "list", data := .seq ([] : List Value).toArray }).get? h2.objs.size = some { cls := .type "list", data := .seq #[] } := Heap.get?_push_size _ rfl
  refine wpAny_pure ⟨plainId_quiet F.plain_min_loop _, ?_⟩
  refine codeAny_builtin F.entry_min_loop ?_
  rw [Around.under_plainId F.plain_min_loop _]
  show wpAny _ A.in1 (seqItems? (.ref _) >>= _) _ _ _
  refine wpAny_bind (wpAny_seqItems gS rfl ?_)
  show wpAny _ A.in1 (tryCatch (pyNext (.ref I)) _ >>= _) _ _ _
  refine wpAny_bind (wpAny_tryCatch (W.item 0 _ _ _ hn (W.frame _ _ _ hst fun b _ o e => Heap.get?_push_of_some _ e) fun v h' tk' hP hst' hk' => ?_))
  have k1 : Kp s.heap h' := fun b o e => hk' b o (low b o e) (Heap.get?_push_of_some _ (k2 b o e))
  have hS1 := hk' _ _ hSw gS
  show wpAny _ A.in1 (tryCatch (holding [v] (call (.builtin f) [v])) _ >>= _) _ _ _
  refine wpAny_bind (wpAny_tryCatch (wpAny_holding (wpAny_mono (turn 0 v h' tk' hn hP k1) (fun x s'' z => ?_) fun _ _ z => z.elim)))
  obtain ⟨t2, h3, tk2, rfl, rfl, k3⟩ := z
  have hS3 := k3 _ _ hS1
  show wpAny _ A.in1 (updateSeq h2.objs.size (fun _ => #[v, .int (kf 0) t2]) >>= _) _ _ _
  refine wpAny_bind ?_
  refine wpAny_updateSeq hS3 rfl ?_
  rw [nm]
  refine wpAny_pure ⟨plainId_quiet F.plain_min_loop _, mk_loop (s := s) W kf hSf hwr sz turn (R := fun r s' => match r with | .ok (.ret v) => Q v s' | .ok _ => False | .error e => E e s') (fun i v h' tk' a b c d => hQ i v h' tk' a b c d) _ 0 0 _ _ v t2 _ rfl hn (fun b o e => ?_) (Heap.get?_update_self _ hS3 rfl) (W.frame _ _ _ hst' fun b hb o e => ?_) hP (Nat.le_refl _) fun j' hj' => ?_⟩
  · exact (Heap.get?_update_other _ _ (fun z : h2.objs.size = b => Nat.lt_irrefl _ (Nat.lt_of_lt_of_le (Heap.lt_size e) (z ▸ sz)))).trans (k3 b o (k1 b o e))
  · exact (Heap.get?_update_other _ _ (fun z : h2.objs.size = b => hSf (by rw [z]; exact hb))).trans (k3 b o e)
  · have e : j' = 0 := by omega
    subst e
    exact ⟨by omega, fun z => absurd z (Nat.lt_irrefl _)⟩
end
end

section
variable {P : Program} {w : World} {A : Around} {E : Value → Shared → Prop} {s : Shared}
/-- sum of what a walk yields, the heap kept -/
theorem raw_sumT {x : Addr} {items : Array Value} {val : Nat → Int} {Q : Value → Shared → Prop} (hh : A.handled = none) (ht : s.heap.IsTuple x items) (hl : x < s.heap.objs.size) (hv : ∀ (i : Nat) (v : Value), items[i]? = some v → ∃ t, v = Value.int (val i) t)
    (q : ∀ h' tk t, Kp s.heap h' → Q (.int (preSum val items.size) t) { s with heap := h', toks := tk }) : wpAny (model P w) A (call (.builtin "sum") [.ref x]) Q E s := by
  have ne : x ≠ s.heap.objs.size := Nat.ne_of_lt hl
  refine call_sum_walkAnyS (wpAny_pyIter_tuple ht ⟨s.heap.objs.size, _, _, _, _, _, _, val, rfl, (Walks.tuple (prog := P) (w := w) (A := A.in1) hh s.heap.objs.size x ne items).toS, ⟨⟨_, Heap.get?_push_size _ rfl, rfl, rfl⟩, ?_⟩, fun b hb => ?_, hv, fun s' t' hm => ?_⟩)
  · exact ht.at fun o e => Heap.get?_push_of_some _ e
  · rw [Heap.size_push]
    simp only [List.mem_cons, List.mem_nil_iff, or_false] at hb
    rcases hb with rfl | rfl
    · exact Nat.lt_succ_self _
    · exact Nat.lt_succ_of_lt hl
  · rw [Moved.eq_with hm]
    exact q _ _ _ fun b o e => hm.heap b o (fun z => absurd (Heap.lt_size e) (by rw [List.mem_singleton.mp z]; exact Nat.lt_irrefl _)) (Heap.get?_push_of_some _ e)
theorem raw_sumV {v d : Addr} {es : Array DictEntry} {ep : Nat} {val : Nat → Int} {Q : Value → Shared → Prop} (hh : A.handled = none) (vw : s.heap.IsValuesView v d) (x : RawD s.heap d es ep) (hv : ∀ (i : Nat) (en : DictEntry), es[i]? = some en → ∃ t, en.val = Value.int (val i) t)
    (q : ∀ h' tk t, Kp s.heap h' → Q (.int (preSum val es.size) t) { s with heap := h', toks := tk }) : wpAny (model P w) A (call (.builtin "sum") [.ref v]) Q E s := by
  have hl : d < s.heap.objs.size := by obtain ⟨o, e, _⟩ := x; exact Heap.lt_size e
  have ne : d ≠ s.heap.objs.size := Nat.ne_of_lt hl
  refine call_sum_walkAnyS (raw_iterV vw x ⟨s.heap.objs.size, _, _, _, _, _, _, val, rfl, (raw_walkV (P := P) (w := w) (A := A.in1) (es := es) (ep := ep) hh ne).toS, ⟨⟨_, Heap.get?_push_size _ rfl, rfl, rfl⟩, ?_⟩, fun b hb => ?_, fun i u hu => ?_, fun s' t' hm => ?_⟩)
  · exact x.mono fun o e => Heap.get?_push_of_some _ e
  · rw [Heap.size_push]
    simp only [List.mem_cons, List.mem_nil_iff, or_false] at hb
    rcases hb with rfl | rfl
    · exact Nat.lt_succ_self _
    · exact Nat.lt_succ_of_lt hl
  · obtain ⟨en, h1, rfl⟩ := hu
    exact hv i en h1
  · rw [Moved.eq_with hm]
    exact q _ _ _ fun b o e => hm.heap b o (fun z => absurd (Heap.lt_size e) (by rw [List.mem_singleton.mp z]; exact Nat.lt_irrefl _)) (Heap.get?_push_of_some _ e)
end
theorem entry_itemiter_iter : entryFor table "dict_itemiterator.__iter__" = some Builtin.«dict_keyiterator.__iter__» :=
  entryFor_alias (id' := "dict_keyiterator.__iter__") (by kernel_rfl) rfl (by decide +kernel) (by kernel_rfl)
theorem iter_itemiter {P : Program} {w : World} {A : Around} {E : Value → Shared → Prop} {s : Shared} {it d : Addr} {i n ep : Nat} {ok ov : Value} {Q : Value → Shared → Prop} (y : IsItemIter s.heap it d i n ep ok ov) (h : Q (.ref it) s) : wpAny (model P w) A (pyIter (.ref it)) Q E s := by
  have ty : s.TypeIs (.ref it) "dict_itemiterator" := ⟨_, y, rfl⟩
  refine wpAny_pyIter_slot ty F.slot_dict_itemiterator_iter (wpAny_call_entry F.slot_dict_itemiterator_iter ty entry_itemiter_iter ?_ (F.args_dict_itemiterator_iter_1 _))
  show wpAny _ _ (ret (.ref it)) _ _ s
  exact wpAny_pure ⟨_, rfl, "dict_itemiterator", _, ty, F.slot_dict_itemiterator_next.lookup, h⟩
end L2

namespace L2
open PySem PySem.Spec PyProof.Rows

/-! ### lists of pairs as tables -/
section
variable {κ : Type} [DecidableEq κ]
def valV (kvs : List (κ × V)) (k : κ) : Option V := (kvs.find? fun kv => decide (kv.1 = k)).map (·.2)
/-- in its place, or at the end -/
def putK (kvs : List (κ × V)) (k : κ) (v : V) : List (κ × V) :=
  if (kvs.any fun kv => decide (kv.1 = k)) = true then kvs.map (fun kv => if kv.1 = k then (kv.1, v) else kv) else kvs ++ [(k, v)]
def dropK (kvs : List (κ × V)) (k : κ) : List (κ × V) := kvs.filter fun kv => decide (kv.1 ≠ k)

theorem valV_nil {k : κ} : valV ([] : List (κ × V)) k = none := rfl
theorem valV_pos {p : κ × V} {r : List (κ × V)} {k : κ} (e : p.1 = k) : valV (p :: r) k = some p.2 := by simp [valV, List.find?_cons, e]
theorem valV_neg {p : κ × V} {r : List (κ × V)} {k : κ} (e : ¬ p.1 = k) : valV (p :: r) k = valV r k := by simp [valV, List.find?_cons, e]
theorem valV_any (k : κ) : ∀ kvs : List (κ × V), (kvs.any fun kv => decide (kv.1 = k)) = (valV kvs k).isSome
  | [] => rfl
  | p :: r => by
    rw [List.any_cons]
    by_cases e : p.1 = k
    · simp only [valV_pos e, decide_eq_true e, Bool.true_or, Option.isSome_some]
    · rw [valV_neg e, decide_eq_false e, Bool.false_or]; exact valV_any k r
theorem valV_map (k j : κ) (y : V) : ∀ kvs : List (κ × V), valV (kvs.map fun kv => if kv.1 = k then (kv.1, y) else kv) j = (valV kvs j).map fun x => if j = k then y else x
  | [] => rfl
  | p :: r => by
    have ih := valV_map k j y r
    rw [List.map_cons]
    by_cases h : p.1 = k
    · rw [if_pos h]
      by_cases e : p.1 = j
      · rw [valV_pos (p := (p.1, y)) e, valV_pos e, Option.map_some, if_pos (e.symm.trans h)]
      · rw [valV_neg (p := (p.1, y)) e, valV_neg e, ih]
    · rw [if_neg h]
      by_cases e : p.1 = j
      · rw [valV_pos (p := p) e, valV_pos e, Option.map_some, if_neg (fun z => h (e.trans z))]
      · rw [valV_neg (p := p) e, valV_neg e, ih]
theorem valV_snoc (k j : κ) (y : V) : ∀ kvs : List (κ × V), valV kvs k = none → valV (kvs ++ [(k, y)]) j = if j = k then some y else valV kvs j
  | [], _ => by
    by_cases e : k = j
    · rw [if_pos e.symm]; exact valV_pos (p := (k, y)) e
    · rw [if_neg (fun z => e z.symm)]; exact valV_neg (p := (k, y)) e
  | p :: r, hn => by
    rw [List.cons_append]
    have hk : ¬ p.1 = k := fun z => by rw [valV_pos z] at hn; cases hn
    rw [valV_neg hk] at hn
    have ih := valV_snoc k j y r hn
    by_cases e : p.1 = j
    · rw [valV_pos e, valV_pos e, if_neg (fun z => hk (e.trans z))]
    · rw [valV_neg e, valV_neg e, ih]
theorem valV_put (kvs : List (κ × V)) (k j : κ) (y : V) : valV (putK kvs k y) j = if j = k then some y else valV kvs j := by
  unfold putK
  by_cases a : (kvs.any fun kv => decide (kv.1 = k)) = true
  · rw [if_pos a, valV_map]
    rw [valV_any] at a
    by_cases e : j = k
    · obtain ⟨x, hx⟩ := Option.isSome_iff_exists.mp a
      rw [if_pos e, e, hx, Option.map_some, if_pos rfl]
    · rw [if_neg e]
      cases valV kvs j with
      | none => rfl
      | some x => rw [Option.map_some, if_neg e]
  · rw [if_neg a]
    refine valV_snoc k j y kvs ?_
    rw [valV_any] at a
    cases q : valV kvs k with
    | none => rfl
    | some x => rw [q] at a; exact (a rfl).elim
theorem length_putK (kvs : List (κ × V)) (k : κ) (v : V) : (putK kvs k v).length ≤ kvs.length + 1 := by
  unfold putK
  split
  · rw [List.length_map]; omega
  · rw [List.length_append, List.length_cons, List.length_nil]; omega
theorem putK_new {kvs : List (κ × V)} {k : κ} (v : V) (h : valV kvs k = none) : putK kvs k v = kvs ++ [(k, v)] := by
  unfold putK
  rw [valV_any, h]
  exact if_neg (by decide)

theorem RelO.isSome_eq {o : Option V} {u : Option Value} (r : RelO o u) : o.isSome = u.isSome := by
  cases o with
  | none => cases u with
    | none => rfl
    | some _ => exact (show False from r).elim
  | some _ => cases u with
    | none => exact (show False from r).elim
    | some _ => rfl
theorem RelO.getD {o : Option V} {u : Option Value} {d : V} {d' : Value} (r : RelO o u) (rd : RelV d d') : RelV (o.getD d) (u.getD d') := by
  cases o with
  | none => cases u with
    | none => exact rd
    | some _ => exact (show False from r).elim
  | some _ => cases u with
    | none => exact (show False from r).elim
    | some _ => exact r

/-- raw tables of the same keys -/
theorem KV.val {kvs : List (κ × V)} {vs : List (κ × Value)} (r : KV kvs vs) (k : κ) : RelO (valV kvs k) (valueAt vs k) := by
  unfold KV at r
  induction r with
  | nil => exact True.intro
  | @cons p q ps qs h t ih =>
    obtain ⟨h1, h2⟩ := h
    by_cases e : p.1 = k
    · have e' : q.1 = k := h1.symm.trans e
      have b : valueAt (q :: qs) k = some q.2 := by simp [valueAt, List.find?_cons, e']
      rw [valV_pos e, b]; exact h2
    · have e' : ¬ q.1 = k := fun z => e (h1.trans z)
      have b : valueAt (q :: qs) k = valueAt qs k := by simp [valueAt, List.find?_cons, e']
      rw [valV_neg e, b]; exact ih
theorem KV.any {kvs : List (κ × V)} {vs : List (κ × Value)} (r : KV kvs vs) (k : κ) : (kvs.any fun kv => decide (kv.1 = k)) = vs.any fun kv => decide (kv.1 = k) := by
  unfold KV at r
  induction r with
  | nil => rfl
  | cons h t ih => rw [List.any_cons, List.any_cons, ih, h.1]
theorem KV.repl {kvs : List (κ × V)} {vs : List (κ × Value)} (r : KV kvs vs) (k : κ) {y : V} {u : Value} (ry : RelV y u) :
    KV (kvs.map fun kv => if kv.1 = k then (kv.1, y) else kv) (vs.map fun kv => if kv.1 = k then (kv.1, u) else kv) := by
  unfold KV at r ⊢
  induction r with
  | nil => exact .nil
  | @cons p q ps qs h t ih =>
    rw [List.map_cons, List.map_cons]
    refine .cons ?_ ih
    obtain ⟨h1, h2⟩ := h
    by_cases e : p.1 = k
    · rw [if_pos e, if_pos (h1.symm.trans e)]; exact ⟨h1, ry⟩
    · rw [if_neg e, if_neg (fun z => e (h1.trans z))]; exact ⟨h1, h2⟩
theorem KV.put {kvs : List (κ × V)} {vs : List (κ × Value)} (r : KV kvs vs) (k : κ) {y : V} {u : Value} (ry : RelV y u) : KV (putK kvs k y) (stored vs k u) := by
  unfold putK stored
  rw [r.any k]
  by_cases e : (vs.any fun kv => decide (kv.1 = k)) = true
  · rw [if_pos e, if_pos e]; exact r.repl k ry
  · rw [if_neg e, if_neg e]; exact Paired.snoc r ⟨rfl, ry⟩
theorem KV.drop {kvs : List (κ × V)} {vs : List (κ × Value)} (r : KV kvs vs) (k : κ) : KV (dropK kvs k) (without vs k) := by
  unfold KV at r ⊢
  unfold dropK without
  induction r with
  | nil => exact .nil
  | @cons p q ps qs h t ih =>
    obtain ⟨h1, h2⟩ := h
    rw [List.filter_cons, List.filter_cons]
    by_cases e : p.1 = k
    · have a : ¬ decide (p.1 ≠ k) = true := by simp [e]
      have b : ¬ decide (q.1 ≠ k) = true := by simp [h1.symm.trans e]
      rw [if_neg a, if_neg b]; exact ih
    · have e' : ¬ q.1 = k := fun z => e (h1.trans z)
      have a : decide (p.1 ≠ k) = true := by simp [e]
      have b : decide (q.1 ≠ k) = true := by simp [e']
      rw [if_pos a, if_pos b]; exact .cons ⟨h1, h2⟩ ih
theorem KV.keys {kvs : List (κ × V)} {vs : List (κ × Value)} (r : KV kvs vs) : kvs.map (·.1) = vs.map (·.1) := by
  unfold KV at r
  induction r with
  | nil => rfl
  | cons h t ih => rw [List.map_cons, List.map_cons, ih, h.1]
theorem KV.length {kvs : List (κ × V)} {vs : List (κ × Value)} (r : KV kvs vs) : kvs.length = vs.length := Paired.length r
theorem dropK_le (kvs : List (κ × V)) (k : κ) : (dropK kvs k).length ≤ kvs.length := List.length_filter_le _ _
end


/-! ### a tracked dict, its keys ints and texts or tuples of these -/
theorem kV_is {P : Program} {w : World} {k : Key} {u : Value} (r : RelV (kV k) u) : (mixKind P w).is k u = true := by
  cases k with
  | inl i => obtain ⟨t, e⟩ := (show ∃ t, u = Value.int i t from r); subst e; exact mixKind_int P w i t
  | inr x => obtain ⟨t, e⟩ := (show ∃ t, u = Value.str x t from r); subst e; exact mixKind_str P w x t
theorem kV_inj {a b : Key} (e : kV a = kV b) : a = b := by
  cases a with
  | inl i => cases b with
    | inl j => have e' : V.int i = V.int j := e; injection e' with e'; rw [e']
    | inr y => exact nomatch (show V.int i = V.str y from e)
  | inr x => cases b with
    | inl j => exact nomatch (show V.str x = V.int j from e)
    | inr y => have e' : V.str x = V.str y := e; injection e' with e'; rw [e']
theorem kVs_inj : ∀ {a b : List Key}, a.map kV = b.map kV → a = b
  | [], [], _ => rfl
  | [], _ :: _, e => by simp at e
  | _ :: _, [], e => by simp at e
  | x :: xs, y :: ys, e => by
    rw [List.map_cons, List.map_cons] at e
    injection e with e1 e2
    rw [kV_inj e1, kVs_inj e2]
theorem items_are {P : Program} {w : World} : ∀ {ks : List Key} {us : List Value}, Vals (ks.map kV) us → ItemsAre (mixKind P w) ks us
  | [], _, r => by rw [List.map_nil] at r; cases r; exact .nil
  | k :: ks, _, r => by
    rw [List.map_cons] at r
    cases r with
    | cons h t => exact .cons (kV_is h) (items_are t)

/-- raw entries of a dict with tuple keys -/
abbrev KT (H : Hp) : List (List Key × V) → List (List Key × Addr × Value) → Prop := Paired fun p q => p.1 = q.1 ∧ H q.2.1 = some (.tup (p.1.map kV)) ∧ RelV p.2 q.2.2
theorem KT.val {H : Hp} {kvs : List (List Key × V)} {xs : List (List Key × Addr × Value)} (r : KT H kvs xs) (k : List Key) : RelO (valV kvs k) ((atKey xs k).map (·.2)) := by
  induction r with
  | nil => exact True.intro
  | @cons p q ps qs h t ih =>
    obtain ⟨h1, _, h2⟩ := h
    by_cases e : p.1 = k
    · have e' : q.1 = k := h1.symm.trans e
      have b : atKey (q :: qs) k = some q.2 := by simp [atKey, List.find?_cons, e']
      rw [valV_pos e, b]; exact h2
    · have e' : ¬ q.1 = k := fun z => e (h1.trans z)
      have b : atKey (q :: qs) k = atKey qs k := by simp [atKey, List.find?_cons, e']
      rw [valV_neg e, b]; exact ih
theorem KT.repl {H : Hp} {kvs : List (List Key × V)} {xs : List (List Key × Addr × Value)} (r : KT H kvs xs) (k : List Key) {y : V} {u : Value} (ry : RelV y u) :
    KT H (kvs.map fun kv => if kv.1 = k then (kv.1, y) else kv) (xs.map (putAt k u)) := by
  induction r with
  | nil => exact .nil
  | @cons p q ps qs h t ih =>
    rw [List.map_cons, List.map_cons]
    refine .cons ?_ ih
    obtain ⟨h1, h2, h3⟩ := h
    unfold putAt
    by_cases e : p.1 = k
    · rw [if_pos e, if_pos (h1.symm.trans e)]; exact ⟨h1, h2, ry⟩
    · rw [if_neg e, if_neg (fun z => e (h1.trans z))]; exact ⟨h1, h2, h3⟩
theorem KT.put {H : Hp} {kvs : List (List Key × V)} {xs : List (List Key × Addr × Value)} (r : KT H kvs xs) (k : List Key) {b : Addr} {y : V} {u : Value} (hb : H b = some (.tup (k.map kV))) (ry : RelV y u) :
    KT H (putK kvs k y) (storedH xs k b u) := by
  have e : (kvs.any fun kv => decide (kv.1 = k)) = (atKey xs k).isSome := by
    rw [valV_any, (r.val k).isSome_eq, Option.isSome_map]
  unfold putK storedH
  rw [e]
  by_cases q : (atKey xs k).isSome = true
  · rw [if_pos q, if_pos q]; exact r.repl k ry
  · rw [if_neg q, if_neg q]; exact Paired.snoc r ⟨rfl, hb, ry⟩
theorem KT.keeps {H H' : Hp} {kvs : List (List Key × V)} {xs : List (List Key × Addr × Value)} (r : KT H kvs xs) (ht : ∀ b ys, H b = some (.tup ys) → H' b = some (.tup ys)) : KT H' kvs xs :=
  Paired.mapP r fun _ _ z => ⟨z.1, ht _ _ z.2.1, z.2.2⟩

section
variable {P : Program} {w : World} {H : Hp} {h : Heap} {a : Addr}
theorem rd_of {u : HO} (ok : HOk P w H h) (e : Rd H a u) : ObjOk P w H h a u := e.ok ok
theorem dk_rd {kvs : List (Key × V)} (ok : HOk P w H h) (e : Rd H a (.dK kvs)) : kvs.length ≤ sizeLine ∧ (a == sysModules) = false ∧ ∃ vs, KV kvs vs ∧ h.DictOf (mixKind P w) a vs :=
  show ObjOk P w H h a (.dK kvs) from rd_of ok e
theorem dk_of {kvs : List (Key × V)} (ok : HOk P w H h) (e : H a = some (.dK kvs)) : kvs.length ≤ sizeLine ∧ (a == sysModules) = false ∧ ∃ vs, KV kvs vs ∧ h.DictOf (mixKind P w) a vs := dk_rd ok (.inl e)
/-- a tracked tuple of ints and texts is a key -/
theorem key_of {ks : List Key} (ok : HOk P w H h) (e : H a = some (.tup (ks.map kV))) : (tupleKind (mixKind P w)).is h ks a := by
  obtain ⟨_, its, r, o, h1, h2, n, h3⟩ := (show ObjOk P w H h a (.tup (ks.map kV)) from ok a _ e)
  exact ⟨o, its.toArray, n, h1, h2, h3, by simpa using items_are r⟩
theorem dt_rd {kvs : List (List Key × V)} (ok : HOk P w H h) (e : Rd H a (.dT kvs)) : kvs.length ≤ sizeLine ∧ (a == sysModules) = false ∧
    ∃ xs, KT H kvs xs ∧ h.DictOfH (tupleKind (mixKind P w)) a xs := by
  obtain ⟨z, y, xs, r, o, es, ep, h1, h2, h3, h4, h5⟩ := (show ObjOk P w H h a (.dT kvs) from rd_of ok e)
  refine ⟨z, y, xs, r, o, es, ep, h1, h2, h3, h4, fun x hx => ?_, h5⟩
  have all : ∀ {l : List (List Key × V)} {m : List (List Key × Addr × Value)}, KT H l m → ∀ x ∈ m, (tupleKind (mixKind P w)).is h x.1 x.2.1 := by
    intro l m q
    induction q with
    | nil => intro x hx; exact nomatch hx
    | @cons p q ps qs hq t ih =>
      intro x hx
      rcases List.mem_cons.mp hx with e | hx
      · subst e
        exact key_of ok (by rw [← hq.1]; exact hq.2.1)
      · exact ih x hx
  exact all r x hx
theorem dt_of {kvs : List (List Key × V)} (ok : HOk P w H h) (e : H a = some (.dT kvs)) : kvs.length ≤ sizeLine ∧ (a == sysModules) = false ∧
    ∃ xs, KT H kvs xs ∧ h.DictOfH (tupleKind (mixKind P w)) a xs := dt_rd ok (.inl e)
end

/-- what the dict at a holds at the key y -/
def DGet (H : Hp) (a : Addr) (y : V) (r : Option V) : Prop :=
  (∃ kvs k, Rd H a (.dK kvs) ∧ y = kV k ∧ r = valV kvs k) ∨ ∃ kvs k b, Rd H a (.dT kvs) ∧ y = .ref b ∧ H b = some (.tup (k.map kV)) ∧ r = valV kvs k
/-- the heap behind a[y] = v -/
def DPut (H : Hp) (a : Addr) (y v : V) (H' : Hp) : Prop :=
  (∃ kvs k, H a = some (.dK kvs) ∧ y = kV k ∧ kvs.length < sizeLine ∧ H' = upd H a (.dK (putK kvs k v))) ∨
  ∃ kvs k b, H a = some (.dT kvs) ∧ y = .ref b ∧ H b = some (.tup (k.map kV)) ∧ kvs.length < sizeLine ∧ H' = upd H a (.dT (putK kvs k v))
theorem DGet.k {H : Hp} {a : Addr} {kvs : List (Key × V)} {k : Key} (e : H a = some (.dK kvs)) : DGet H a (kV k) (valV kvs k) := .inl ⟨kvs, k, .inl e, rfl, rfl⟩
theorem DGet.t {H : Hp} {a b : Addr} {kvs : List (List Key × V)} {k : List Key} (e : H a = some (.dT kvs)) (eb : H b = some (.tup (k.map kV))) : DGet H a (.ref b) (valV kvs k) := .inr ⟨kvs, k, b, .inl e, rfl, eb, rfl⟩
theorem DPut.k {H : Hp} {a : Addr} {kvs : List (Key × V)} {k : Key} {v : V} (e : H a = some (.dK kvs)) (hl : kvs.length < sizeLine) : DPut H a (kV k) v (upd H a (.dK (putK kvs k v))) := .inl ⟨kvs, k, e, rfl, hl, rfl⟩
theorem DPut.t {H : Hp} {a b : Addr} {kvs : List (List Key × V)} {k : List Key} {v : V} (e : H a = some (.dT kvs)) (eb : H b = some (.tup (k.map kV))) (hl : kvs.length < sizeLine) :
    DPut H a (.ref b) v (upd H a (.dT (putK kvs k v))) := .inr ⟨kvs, k, b, e, rfl, eb, hl, rfl⟩


section
variable {X : Cx} {pins : List (Addr × Obj)} {σ : St} {H : Hp} {s : Shared} {a : Addr} {y v : V} {u r : Value} {o : Option V} {A : Around} {E : Value → Shared → Prop}

theorem Inv.big (I : Inv X pins σ H s) : sysModules < s.heap.objs.size := by
  have h : mainGlobals < s.heap.objs.size := (I.mod.glob.keeps I.bk).lt
  exact Nat.lt_trans (by decide) h

/-- d[y], there -/
theorem d_getItem {Q : Value → Shared → Prop} (hu : A.units + 1 < cLine) (I : Inv X pins σ H s) (g : DGet H a y (some v)) (ry : RelV y u) (h : ∀ w' s', Inv X pins σ H s' → RelV v w' → Q w' s') :
    wpAny (model X.prog X.w) A (getItem (.ref a) u) Q E s := by
  rcases g with ⟨kvs, k, e, ey, l⟩ | ⟨kvs, k, b, e, ey, eb, l⟩
  · subst ey
    obtain ⟨z, hd, vs, rel, dd⟩ := dk_rd I.hok e
    obtain ⟨w', hw, rw'⟩ := RelO.some_of (v := v) (o := valueAt vs k) (by rw [l]; exact rel.val k)
    exact wpAny_getItem_of (kV_is ry) dd.mapOf hw (h w' _ (I.tok _) rw')
  · subst ey
    cases (show u = Value.ref b from ry)
    obtain ⟨z, hd, xs, rel, dd⟩ := dt_rd I.hok e
    obtain ⟨w', hw, rw'⟩ := RelO.some_of (v := v) (o := (atKey xs k).map (·.2)) (by rw [l]; exact rel.val k)
    obtain ⟨p, hp, hp2⟩ := Option.map_eq_some_iff.mp hw
    refine wpAny_getItem_heap (tupleKind_room_in1 hu) (key_of I.hok eb) dd hp ?_
    rw [hp2]
    exact h w' _ (I.tok _) rw'
/-- y in d -/
theorem d_in {Q : Value → Shared → Prop} (hu : A.units + 1 < cLine) (I : Inv X pins σ H s) (g : DGet H a y o) (ry : RelV y u) (h : ∀ s', Inv X pins σ H s' → Q (.bool o.isSome) s') :
    wpAny (model X.prog X.w) A (compareOp .In u (.ref a)) Q E s := by
  rcases g with ⟨kvs, k, e, ey, l⟩ | ⟨kvs, k, b, e, ey, eb, l⟩
  · subst ey
    obtain ⟨z, hd, vs, rel, dd⟩ := dk_rd I.hok e
    refine wpAny_in_of (kV_is ry) hd dd.mapOf ?_
    rw [← (rel.val k).isSome_eq, ← l]
    exact h _ (I.tok _)
  · subst ey
    cases (show u = Value.ref b from ry)
    obtain ⟨z, hd, xs, rel, dd⟩ := dt_rd I.hok e
    refine wpAny_in_heap (tupleKind_room_in1 hu) (key_of I.hok eb) hd dd ?_
    have q := (rel.val k).isSome_eq
    rw [Option.isSome_map] at q
    rw [← q, ← l]
    exact h _ (I.tok _)
theorem d_notIn {Q : Value → Shared → Prop} (hu : A.units + 1 < cLine) (I : Inv X pins σ H s) (g : DGet H a y o) (ry : RelV y u) (h : ∀ s', Inv X pins σ H s' → Q (.bool (!o.isSome)) s') :
    wpAny (model X.prog X.w) A (compareOp .NotIn u (.ref a)) Q E s := by
  rcases g with ⟨kvs, k, e, ey, l⟩ | ⟨kvs, k, b, e, ey, eb, l⟩
  · subst ey
    obtain ⟨z, hd, vs, rel, dd⟩ := dk_rd I.hok e
    refine wpAny_notIn_of (kV_is ry) hd dd.mapOf ?_
    rw [← (rel.val k).isSome_eq, ← l]
    exact h _ (I.tok _)
  · subst ey
    cases (show u = Value.ref b from ry)
    obtain ⟨z, hd, xs, rel, dd⟩ := dt_rd I.hok e
    refine wpAny_notIn_heap (tupleKind_room_in1 hu) (key_of I.hok eb) hd dd ?_
    have q := (rel.val k).isSome_eq
    rw [Option.isSome_map] at q
    rw [← q, ← l]
    exact h _ (I.tok _)
/-- a dict's object is replaced -/
theorem d_write {h' : Heap} {t' : Nat} {ob : HO} (I : Inv X pins σ H s) (mu : Mut (H a)) (hs : Heap.SameBut a s.heap h') (he : ∃ q, h'.get? a = some q) (new : ObjOk X.prog X.w (upd H a ob) h' a ob) :
    Inv X pins σ (upd H a ob) { s with heap := h', toks := t' } :=
  I.write (x := a) (e := a) mu (.inl rfl) (fun b q hb z => (hs.2 b hb).trans z) he new
theorem dk_new {P : Program} {w : World} {H' : Hp} {h' : Heap} {kvs : List (Key × V)} {vs : List (Key × Value)} (z : kvs.length ≤ sizeLine) (hd : (a == sysModules) = false) (rel : KV kvs vs) (dd : h'.DictOf (mixKind P w) a vs) :
    ObjOk P w H' h' a (.dK kvs) := ⟨z, hd, vs, rel, dd⟩
/-- d[y] = v -/
theorem d_setItem {H' : Hp} {Q : Unit → Shared → Prop} (hu : A.units + 1 < cLine) (I : Inv X pins σ H s) (g : DPut H a y v H') (ry : RelV y u) (rv : RelV v r) (h : ∀ s', Inv X pins σ H' s' → Q () s') :
    wpAny (model X.prog X.w) A (setItem (.ref a) u r) Q E s := by
  rcases g with ⟨kvs, k, e, ey, l, eH⟩ | ⟨kvs, k, b, e, ey, eb, l, eH⟩
  · subst ey eH
    obtain ⟨z, hd, vs, rel, dd⟩ := dk_of I.hok e
    have hz : vs.length ≤ sizeLine := by rw [← rel.length]; exact z
    have hl : (putK kvs k v).length ≤ sizeLine := by have := length_putK kvs k v; omega
    refine wpAny_setItem_pairs (hsz := hz) (kV_is ry) dd fun h' dd' hs => h _ ?_
    have he : ∃ q, h'.get? a = some q := let ⟨q, _, _, hq, _⟩ := dd'; ⟨q, hq⟩
    exact d_write I (by rw [e]; exact True.intro) hs he (dk_new hl hd (rel.put k rv) dd')
  · subst ey eH
    cases (show u = Value.ref b from ry)
    obtain ⟨z, hd, xs, rel, dd⟩ := dt_of I.hok e
    have hz : xs.length ≤ sizeLine := by rw [← Paired.length rel]; exact z
    have hl : (putK kvs k v).length ≤ sizeLine := by have := length_putK kvs k v; omega
    refine wpAny_setItem_heap (hsz := hz) (tupleKind_room_in1 hu) (key_of I.hok eb) dd fun h' dd' hs => h _ ?_
    obtain ⟨q, es, ep, hq, h2, h3, h4, _, h5⟩ := dd'
    refine d_write I (by rw [e]; exact True.intro) hs ⟨q, hq⟩ ⟨hl, hd, _, (rel.put k eb rv).keeps fun c ys ec => ?_, q, es, ep, hq, h2, h3, h4, h5⟩
    rw [upd_ne (ne_of ec e (fun z => nomatch z))]
    exact ec
end

section
variable {X : Cx} {pins : List (Addr × Obj)} {σ : St} {H : Hp} {s : Shared} {a : Addr} {kvs : List (Key × V)} {k : Key} {u : Value} {A : Around} {E : Value → Shared → Prop}
/-- del d[k] -/
theorem d_delItem {Q : Unit → Shared → Prop} (I : Inv X pins σ H s) (e : H a = some (.dK kvs)) (ry : RelV (kV k) u) (l : (valV kvs k).isSome = true) (h : ∀ s', Inv X pins σ (upd H a (.dK (dropK kvs k))) s' → Q () s') :
    wpAny (model X.prog X.w) A (delItem (.ref a) u) Q E s := by
  obtain ⟨z, hd, vs, rel, dd⟩ := dk_of I.hok e
  refine wpAny_delItem_slot dd.typeIs (by decide) PySem.F.slot_dict_delitem
    (call_meetsIn PySem.F.slot_dict_delitem dd.typeIs PySem.F.entry_dict_delitem (PySem.F.args_dict_delitem_2 _ _) (meets_dict_delitem_pairs (mixKind X.prog X.w) a (kV_is ry)) ⟨vs, dd, by rw [← rel.length]; exact z, by rw [← (rel.val k).isSome_eq]; exact l, fun h' dd' hs => h _ ?_⟩)
  have he : ∃ q, h'.get? a = some q := let ⟨q, _, _, hq, _⟩ := dd'; ⟨q, hq⟩
  exact d_write I (by rw [e]; exact True.intro) hs he (dk_new (Nat.le_trans (dropK_le kvs k) z) hd (rel.drop k) dd')
/-- d.pop(k[, x]), there -/
theorem d_pop {v : V} {more : List Value} {Q : Value → Shared → Prop} (I : Inv X pins σ H s) (e : H a = some (.dK kvs)) (ry : RelV (kV k) u) (l : valV kvs k = some v) (hm : more = [] ∨ ∃ x, more = [x])
    (h : ∀ w' s', Inv X pins σ (upd H a (.dK (dropK kvs k))) s' → RelV v w' → Q w' s') : wpAny (model X.prog X.w) A (call (.builtin "dict.pop") (.ref a :: u :: more)) Q E s := by
  obtain ⟨z, hd, vs, rel, dd⟩ := dk_of I.hok e
  obtain ⟨w', hw, rw'⟩ := RelO.some_of (v := v) (o := valueAt vs k) (by rw [← l]; exact rel.val k)
  have hp : (keyPart u).isSome = true := by
    cases k with
    | inl i => obtain ⟨t, q⟩ := (show ∃ t, u = Value.int i t from ry); subst q; rfl
    | inr x => obtain ⟨t, q⟩ := (show ∃ t, u = Value.str x t from ry); subst q; rfl
  have ha : argsOk "dict.pop" ⟨.ref a :: u :: more, []⟩ := by
    rcases hm with q | ⟨x, q⟩
    · subst q; exact PySem.F.args_dict_pop_2 _ _
    · subst q; exact PySem.F.args_dict_pop_3 _ _ _
  refine call_meetsIn PySem.F.slot_dict_pop dd.typeIs PySem.F.entry_dict_pop ha (meets_dict_pop_there (mixKind X.prog X.w) a (kV_is ry) more hm hp)
    ⟨vs, w', dd, by rw [← rel.length]; exact z, hw, fun h' dd' hs => h w' _ ?_ rw'⟩
  have he : ∃ q, h'.get? a = some q := let ⟨q, _, _, hq, _⟩ := dd'; ⟨q, hq⟩
  exact d_write I (by rw [e]; exact True.intro) hs he (dk_new (Nat.le_trans (dropK_le kvs k) z) hd (rel.drop k) dd')
/-- d.pop(k, x), not there -/
theorem d_popD {r : Value} {Q : Value → Shared → Prop} (I : Inv X pins σ H s) (e : H a = some (.dK kvs)) (ry : RelV (kV k) u) (l : valV kvs k = none) (h : ∀ s', Inv X pins σ H s' → Q r s') :
    wpAny (model X.prog X.w) A (call (.builtin "dict.pop") [.ref a, u, r]) Q E s := by
  obtain ⟨z, hd, vs, rel, dd⟩ := dk_of I.hok e
  have hn : valueAt vs k = none := RelO.none_of (by rw [← l]; exact rel.val k)
  have hp : (keyPart u).isSome = true := by
    cases k with
    | inl i => obtain ⟨t, q⟩ := (show ∃ t, u = Value.int i t from ry); subst q; rfl
    | inr x => obtain ⟨t, q⟩ := (show ∃ t, u = Value.str x t from ry); subst q; rfl
  exact call_meetsIn PySem.F.slot_dict_pop dd.typeIs PySem.F.entry_dict_pop (PySem.F.args_dict_pop_3 _ _ _) (meets_dict_pop_default (mixKind X.prog X.w) a (kV_is ry) hd hp r) ⟨vs, dd, hn, h _ (I.tok _)⟩
/-- d.clear() -/
theorem d_clear {Q : Value → Shared → Prop} (I : Inv X pins σ H s) (e : H a = some (.dK kvs)) (h : ∀ s', Inv X pins σ (upd H a (.dK [])) s' → Q .none s') : wpAny (model X.prog X.w) A (call (.builtin "dict.clear") [.ref a]) Q E s := by
  obtain ⟨z, hd, vs, rel, dd⟩ := dk_of I.hok e
  refine call_meetsIn PySem.F.slot_dict_clear dd.typeIs PySem.F.entry_dict_clear (PySem.F.args_dict_clear_1 _) (meets_dict_clear (mixKind X.prog X.w) a) ⟨vs, dd, by rw [← rel.length]; exact z, fun h' dd' hs => h _ ?_⟩
  have he : ∃ q, h'.get? a = some q := let ⟨q, _, _, hq, _⟩ := dd'; ⟨q, hq⟩
  exact d_write (t' := s.toks) I (by rw [e]; exact True.intro) hs he (dk_new (Nat.zero_le _) hd .nil dd')
/-- len(d) -/
theorem d_len {Q : Value → Shared → Prop} (I : Inv X pins σ H s) (e : Rd H a (.dK kvs)) (h : ∀ t s', Inv X pins σ H s' → Q (.int kvs.length t) s') : wpAny (model X.prog X.w) A (call (.builtin "len") [.ref a]) Q E s := by
  obtain ⟨z, hd, vs, rel, dd⟩ := dk_rd I.hok e
  refine call_len_dict hd dd (by rw [← rel.length]; rw [sizeLine_eq] at z; omega) ?_
  rw [← rel.length]
  exact h _ _ (I.tok _)
/-- if d -/
theorem d_truth {Q : Bool → Shared → Prop} (I : Inv X pins σ H s) (e : Rd H a (.dK kvs)) (h : ∀ s', Inv X pins σ H s' → Q (!kvs.isEmpty) s') : wpAny (model X.prog X.w) A (truthy (.ref a)) Q E s := by
  obtain ⟨z, hd, vs, rel, dd⟩ := dk_rd I.hok e
  refine wpAny_truthy_dict hd dd (by rw [← rel.length]; rw [sizeLine_eq] at z; omega) ?_
  have q : kvs.isEmpty = vs.isEmpty := by cases rel <;> rfl
  rw [← q]
  exact h _ (I.tok _)
end


/-! ### readings and rules -/
/-- the element of a subscription, not a slice -/
def NoSl (i : Expr) : Prop := ∀ ov iv, subscripted i false ov iv = operate [ov, iv] (getItem ov iv)
theorem subD_of {prog : Program} {w : World} {A : Around} {E : Value → Shared → Prop} {s : Shared} {env : Env} {value slice : Expr} {pos : Pos} {T id : String} {Q : Value → Shared → Prop}
    (hl : typeLookup (.type T) "__getitem__" = pure (some (.builtin id))) (hs : NoSl slice)
    (h : wpAny (model prog w) A (eval value env) (fun o s₁ => wpAny (model prog w) A (eval slice env) (fun i s₂ => s₂.TypeIs o T ∧ wpAny (model prog w) A (getItem o i) Q E s₂) E s₁) E s) :
    wpAny (model prog w) A (eval (.Subscript value slice pos) env) Q E s := by
  refine Subscript_ (wpAny_mono h (fun o s₁ h₁ => wpAny_mono h₁ (fun i s₂ h₂ => ?_) fun _ _ x => x) fun _ _ x => x)
  obtain ⟨hT, h₂⟩ := h₂
  unfold subscriptTail
  refine wpAny_bind ?_
  rw [getitemInPython_of_ne hT.not_modules]
  refine wpAny_bind (wpAny_specialOf hT hl ?_)
  have fin : wpAny (model prog w) A (subscripted slice false o i) (fun r s₃ => wpAny (model prog w) A (letTemporaryGo value o r >>= fun _ => pure r) Q E s₃) E s₂ := by
    rw [hs o i]
    exact wpAny_operating (wpAny_mono h₂ (fun r s₃ h₃ => wpAny_bind (wpAny_letTemporaryGo (wpAny_pure h₃))) fun _ _ x => x)
  first
    | exact wpAny_pure (wpAny_bind fin)
    | exact wpAny_bind (wpAny_pure (wpAny_bind fin))
    | exact wpAny_bind fin

theorem dict_typeIs {X : Cx} {pins : List (Addr × Obj)} {σ : St} {H : Hp} {s : Shared} {a : Addr} {y : V} {o : Option V} (I : Inv X pins σ H s) (g : DGet H a y o) : s.TypeIs (.ref a) "dict" := by
  rcases g with ⟨kvs, k, e, _, _⟩ | ⟨kvs, k, b, e, _, _, _⟩
  · obtain ⟨_, _, vs, _, dd⟩ := dk_rd I.hok e
    exact dd.typeIs
  · obtain ⟨_, _, xs, _, dd⟩ := dt_rd I.hok e
    exact dd.typeIs
theorem dict_noDict {X : Cx} {pins : List (Addr × Obj)} {σ : St} {H : Hp} {s : Shared} {a : Addr} {y : V} {o : Option V} (I : Inv X pins σ H s) (g : DGet H a y o) :
    ∀ b, Value.ref a = .ref b → ∃ ob, s.heap.get? b = some ob ∧ ob.dict = none := fun b q => by
  cases q
  rcases g with ⟨kvs, k, e, _, _⟩ | ⟨kvs, k, b, e, _, _, _⟩
  · obtain ⟨_, _, vs, _, ob, _, _, h1, h2, _⟩ := dk_rd I.hok e
    exact ⟨ob, h1, h2.2.1⟩
  · obtain ⟨_, _, xs, _, ob, _, _, h1, h2, _⟩ := dt_rd I.hok e
    exact ⟨ob, h1, h2.2.1⟩

/-- d[y] -/
def tDGet (td ty : TE) : TE := fun σ H Q => td σ H fun x H1 => ty σ H1 fun y H2 => ∃ a v, x = .ref a ∧ DGet H2 a y (some v) ∧ Q v H2
/-- y in d, y not in d -/
def tDIn (ty td : TE) : TE := fun σ H Q => ty σ H fun y H1 => td σ H1 fun x H2 => ∃ a o, x = .ref a ∧ DGet H2 a y o ∧ Q (.bl o.isSome) H2
def tDNotIn (ty td : TE) : TE := fun σ H Q => ty σ H fun y H1 => td σ H1 fun x H2 => ∃ a o, x = .ref a ∧ DGet H2 a y o ∧ Q (.bl (!o.isSome)) H2
/-- d[y] = v -/
def sDPut (td ty tv : TE) : TS := fun D σ H => tv σ H fun v H1 => td σ H1 fun x H2 => ty σ H2 fun y H3 => ∃ a H4, x = .ref a ∧ DPut H3 a y v H4 ∧ D.nx σ H4
/-- d[y] op= v -/
def sDAug (td ty tv : TE) (rd : V → V → Hp → VK → Prop) : TS := fun D σ H => td σ H fun x H1 => ty σ H1 fun y H2 => ∃ a v, x = .ref a ∧ DGet H2 a y (some v) ∧
  tv σ H2 fun y2 H3 => rd v y2 H3 fun z H4 => ∃ H5, DPut H4 a y z H5 ∧ D.nx σ H5
/-- del d[y] -/
def sDDel (td ty : TE) : TS := fun D σ H => td σ H fun x H1 => ty σ H1 fun y H2 => ∃ a kvs k, x = .ref a ∧ H2 a = some (.dK kvs) ∧ y = kV k ∧ (valV kvs k).isSome = true ∧ D.nx σ (upd H2 a (.dK (dropK kvs k)))

section
variable {X : Cx} {o i e value : Expr} {pos pos' tpos : Pos} {td ty tv : TE}
theorem pe_dget (hu : X.A.units + 1 < cLine) (ho : PE X o td) (hi : PE X i ty) (hs : NoSl i) : PE X (.Subscript o i pos) (tDGet td ty) := by
  intro pins s σ H Q I h
  refine subD_of PySem.F.slot_dict_getitem.lookup hs (thn (ho pins s σ H _ I h) fun u s1 ⟨x, H1, I1, rx, q1⟩ => thn (hi pins s1 σ H1 _ I1 q1) fun iv s2 ⟨y, H2, I2, ry, a, v, ex, g, q2⟩ => ?_)
  subst ex
  obtain rfl : u = Value.ref a := rx
  exact ⟨dict_typeIs I2 g, d_getItem hu I2 g ry fun w' s3 I3 rw' => ⟨v, H2, I3, rw', q2⟩⟩
theorem pc_din (hu : X.A.units + 1 < cLine) (hi : PE X i ty) (ho : PE X o td) : PC X .In i o (tDIn ty td) := by
  intro pins s σ H Q I h
  refine thn (hi pins s σ H _ I h) fun iv s1 ⟨y, H1, I1, ry, q1⟩ => thn (ho pins s1 σ H1 _ I1 q1) fun u s2 ⟨x, H2, I2, rx, a, ov, ex, g, q2⟩ => ?_
  subst ex
  obtain rfl : u = Value.ref a := rx
  exact d_in hu I2 g ry fun s3 I3 => ⟨.bl ov.isSome, H2, I3, rfl, q2⟩
theorem pc_dnotin (hu : X.A.units + 1 < cLine) (hi : PE X i ty) (ho : PE X o td) : PC X .NotIn i o (tDNotIn ty td) := by
  intro pins s σ H Q I h
  refine thn (hi pins s σ H _ I h) fun iv s1 ⟨y, H1, I1, ry, q1⟩ => thn (ho pins s1 σ H1 _ I1 q1) fun u s2 ⟨x, H2, I2, rx, a, ov, ex, g, q2⟩ => ?_
  subst ex
  obtain rfl : u = Value.ref a := rx
  exact d_notIn hu I2 g ry fun s3 I3 => ⟨.bl (!ov.isSome), H2, I3, rfl, q2⟩
theorem ps_dput (hu : X.A.units + 1 < cLine) (ho : PE X o td) (hi : PE X i ty) (hv : PE X value tv) (hs : swapsWith value (some (.Subscript o i pos')) pos.line X.env = pure false) :
    PS X (.Assign [.Subscript o i pos'] value pos) (sDPut td ty tv) := by
  intro pins s σ H D I h
  refine wpAny_Assign_Subscript (thn (hv pins s σ H _ I h) fun r s1 ⟨v, H1, I1, rv, q1⟩ => thn (ho pins s1 σ H1 _ I1 q1) fun u s2 ⟨x, H2, I2, rx, q2⟩ => thn (hi pins s2 σ H2 _ I2 q2) fun iv s3 ⟨y, H3, I3, ry, a, H4, ex, g, q3⟩ => ?_) hs
  subst ex
  obtain rfl : u = Value.ref a := rx
  exact d_setItem hu I3 g ry rv fun s4 I4 => ⟨σ, H4, I4, q3⟩
theorem ps_daug {op : Operator} {rd : V → V → Hp → VK → Prop} (hu : X.A.units + 1 < cLine) (ho : PE X o td) (hi : PE X i ty) (hv : PE X value tv) (hop : InOp X op rd)
    (ha : ∀ ov iv new, augStore i ov iv new = (do holding [new, ov, iv] (setItem ov iv new); release [new, ov, iv] []; pure .next)) : PS X (.AugAssign (.Subscript o i tpos) op value pos) (sDAug td ty tv rd) := by
  intro pins s σ H D I h
  refine wpAny_AugAssign_SubscriptAny (thn (ho pins s σ H _ I h) fun u s1 ⟨x, H1, I1, rx, q1⟩ => thn (hi pins s1 σ H1 _ I1 q1) fun iv s2 ⟨y, H2, I2, ry, a, v, ex, g, q2⟩ => ?_) ha
  subst ex
  obtain rfl : u = Value.ref a := rx
  refine d_getItem hu I2 g ry fun w' s3 I3 rw' => thn (hv pins s3 σ H2 _ I3 q2) fun w2 s4 ⟨y2, H3, I4, ry2, q3⟩ => thn (hop pins s4 σ H3 v y2 w' w2 _ I4 rw' ry2 q3) fun w3 s5 ⟨z, H4, I5, rz, H5, g5, q4⟩ => ?_
  exact d_setItem hu I5 g5 ry rz fun s6 I6 => ⟨σ, H5, I6, q4⟩
theorem ps_ddel (ho : PE X o td) (hi : PE X i ty) : PS X (.Delete [.Subscript o i tpos] pos) (sDDel td ty) := by
  intro pins s σ H D I h
  refine wpAny_Delete (wpAny_deleteEach_cons (wpAny_delete_Subscript (thn (ho pins s σ H _ I h) fun u s1 ⟨x, H1, I1, rx, q1⟩ => thn (hi pins s1 σ H1 _ I1 q1) fun iv s2 ⟨y, H2, I2, ry, a, kvs, k, ex, e, ey, l, q2⟩ => ?_)))
  subst ex ey
  obtain rfl : u = Value.ref a := rx
  exact d_delItem I2 e ry l fun s3 I3 => wpAny_deleteEach_nil ⟨σ, _, I3, q2⟩
end


/-! ### displays -/
theorem dk_empty {P : Program} {w : World} {H : Hp} (h : Heap) (hb : sysModules < h.objs.size) : ObjOk P w H (h.push { cls := .type "dict", data := .dict #[] }) h.objs.size (.dK []) :=
  ⟨Nat.zero_le _, beq_eq_false_iff_ne.mpr (Ne.symm (Nat.ne_of_lt hb)), [], .nil, Heap.DictOf.new h⟩
theorem dt_empty {P : Program} {w : World} {H : Hp} (h : Heap) (hb : sysModules < h.objs.size) : ObjOk P w H (h.push { cls := .type "dict", data := .dict #[] }) h.objs.size (.dT []) :=
  ⟨Nat.zero_le _, beq_eq_false_iff_ne.mpr (Ne.symm (Nat.ne_of_lt hb)), [], .nil, _, #[], 0, Heap.get?_push_size _ rfl, ⟨rfl, rfl, rfl⟩, rfl, rfl, List.nodup_nil⟩
/-- {}, to be a dict of the kind that is wanted -/
def tDNewK : TE := fun _ H Q => ∀ p, H p = none → Q (.ref p) (upd H p (.dK []))
def tDNewT : TE := fun _ H Q => ∀ p, H p = none → Q (.ref p) (upd H p (.dT []))
section
variable {X : Cx} {pos : Pos}
theorem pe_dnewK : PE X (.Dict [] [] pos) tDNewK := fun pins s σ H Q I h =>
  wpAny_Dict_empty ⟨.ref s.heap.objs.size, _, I.laid (a := s.heap.objs.size) (o := .dK []) (t' := s.toks) (fun _ _ q => Heap.get?_push_of_some _ q) (Nat.le_refl _) (dk_empty s.heap I.big), rfl, h _ (I.hok.fresh (Nat.le_refl _))⟩
theorem pe_dnewT : PE X (.Dict [] [] pos) tDNewT := fun pins s σ H Q I h =>
  wpAny_Dict_empty ⟨.ref s.heap.objs.size, _, I.laid (a := s.heap.objs.size) (o := .dT []) (t' := s.toks) (fun _ _ q => Heap.get?_push_of_some _ q) (Nat.le_refl _) (dt_empty s.heap I.big), rfl, h _ (I.hok.fresh (Nat.le_refl _))⟩
end

/-- the pairs of a display, from the left -/
def tPairs : List (TE × TE) → St → Hp → (List (V × V) → Hp → Prop) → Prop
  | [], _, H, Q => Q [] H
  | (tk, tv) :: r, σ, H, Q => tk σ H fun x H1 => tv σ H1 fun y H2 => tPairs r σ H2 fun ps H3 => Q ((x, y) :: ps) H3
abbrev VV : List (V × V) → List (Value × Value) → Prop := Paired fun p q => RelV p.1 q.1 ∧ RelV p.2 q.2
def PPs (X : Cx) (pos : Pos) (keys : List (Option Expr)) (values : List Expr) (trs : List (TE × TE)) : Prop :=
  ∀ (pins : List (Addr × Obj)) (s : Shared) (σ : St) (H : Hp) (Q : List (V × V) → Hp → Prop), Inv X pins σ H s → tPairs trs σ H Q →
    wpAny (model X.prog X.w) X.A (evalPairs (pairTrees keys values X.env pos)) (fun vs s' => ∃ ps H', Inv X pins σ H' s' ∧ VV ps vs ∧ Q ps H') X.xe s
theorem pps_nil {X : Cx} {pos : Pos} : PPs X pos [] [] [] := fun pins s σ H Q I h => pairTrees_nil_walk ⟨[], H, I, .nil, h⟩
theorem pps_cons {X : Cx} {pos : Pos} {k v : Expr} {ks : List (Option Expr)} {vs : List Expr} {tk tv : TE} {trs : List (TE × TE)} (hk : PE X k tk) (hv : PE X v tv) (hr : PPs X pos ks vs trs) :
    PPs X pos (some k :: ks) (v :: vs) ((tk, tv) :: trs) := fun pins s σ H Q I h =>
  pairTrees_cons_walk (thn (hk pins s σ H _ I h) fun u s1 ⟨x, H1, I1, rx, q1⟩ => thn (hv pins s1 σ H1 _ I1 q1) fun w2 s2 ⟨y, H2, I2, ry, q2⟩ =>
    thn (hr pins s2 σ H2 _ I2 q2) fun ws s3 ⟨ps, H3, I3, rel, q3⟩ => ⟨(x, y) :: ps, H3, I3, .cons ⟨rx, ry⟩ rel, q3⟩)

def mergeK (kvs more : List (Key × V)) : List (Key × V) := more.foldl (fun acc kv => putK acc kv.1 kv.2) kvs
theorem KV.merge : ∀ {more : List (Key × V)} {rs : List (Key × Value)} {kvs : List (Key × V)} {vs : List (Key × Value)}, KV more rs → KV kvs vs → KV (mergeK kvs more) (merged vs rs) := by
  intro more rs kvs vs r
  unfold KV at r
  induction r generalizing kvs vs with
  | nil => intro q; exact q
  | @cons p q ps qs h t ih =>
    intro r0
    have e : KV (putK kvs p.1 p.2) (stored vs q.1 q.2) := by
      have := r0.put p.1 h.2
      rw [← h.1]; exact this
    exact ih e
theorem length_mergeK : ∀ (more kvs : List (Key × V)), (mergeK kvs more).length ≤ kvs.length + more.length
  | [], kvs => by show kvs.length ≤ kvs.length + 0; omega
  | p :: r, kvs => by
    have h1 := length_mergeK r (putK kvs p.1 p.2)
    have h2 := length_putK kvs p.1 p.2
    show (mergeK (putK kvs p.1 p.2) r).length ≤ _
    rw [List.length_cons]; omega
theorem carries_of {P : Program} {w : World} : ∀ {kvs : List (Key × V)} {ws : List (Value × Value)}, VV (kvs.map fun kv => (kV kv.1, kv.2)) ws → ∃ rs, Carries (mixKind P w) ws rs ∧ KV kvs rs
  | [], _, r => by rw [List.map_nil] at r; cases r; exact ⟨[], True.intro, .nil⟩
  | p :: kvs, _, r => by
    rw [List.map_cons] at r
    cases r with
    | @cons a b as bs h t =>
      obtain ⟨rs, c, q⟩ := carries_of (P := P) (w := w) t
      obtain ⟨b1, b2⟩ := b
      exact ⟨(p.1, b2) :: rs, ⟨kV_is h.1, rfl, c⟩, .cons ⟨rfl, h.2⟩ q⟩
/-- {k: v, ..} with keys ints and texts; the new dict stands empty while the pairs are made -/
def tDisp (trs : List (TE × TE)) : TE := fun σ H Q => ∀ p, H p = none → tPairs trs σ (upd H p (.dK [])) fun ps H2 => H2 p = some (.dK []) ∧ ∃ kvs : List (Key × V), ps = kvs.map (fun kv => (kV kv.1, kv.2)) ∧ kvs.length ≤ 15 ∧ Q (.ref p) (upd H2 p (.dK (mergeK [] kvs)))
theorem pe_disp {X : Cx} {pos : Pos} {keys : List (Option Expr)} {values : List Expr} {trs : List (TE × TE)} (h : PPs X pos keys values trs) (hall : keys.all (·.isSome) = true) (hl : keys.length = values.length) (h0 : keys ≠ [])
    (h15 : keys.length ≤ 15) : PE X (.Dict keys values pos) (tDisp trs) := by
  intro pins s σ H Q I q
  have hn := I.hok.fresh (Nat.le_refl s.heap.objs.size)
  have I1 := I.laid (a := s.heap.objs.size) (o := .dK []) (h' := s.heap.push { cls := .type "dict", data := .dict #[] }) (t' := s.toks) (fun _ _ q => Heap.get?_push_of_some _ q) (Nat.le_refl _) (dk_empty s.heap I.big)
  refine wpAny_Dict_walk (knd := mixKind X.prog X.w) hall hl h0 h15 (thn (h pins _ σ _ _ I1 (q _ hn)) fun ws s2 ⟨ps, H2, I2, rel, e, kvs, ep, lk, q2⟩ => ?_)
  subst ep
  obtain ⟨rs, c, rk⟩ := carries_of (P := X.prog) (w := X.w) rel
  obtain ⟨z, hd, vs0, r0, dd⟩ := dk_of I2.hok e
  cases r0
  refine ⟨rs, c, dd, fun h' dd' hs => ⟨.ref s.heap.objs.size, _, ?_, rfl, q2⟩⟩
  have hz : (mergeK [] kvs).length ≤ sizeLine := by
    have h1 := length_mergeK kvs []
    rw [List.length_nil] at h1
    rw [sizeLine_eq]; omega
  have he : ∃ q, h'.get? s.heap.objs.size = some q := let ⟨q, _, _, hq, _⟩ := dd'; ⟨q, hq⟩
  exact d_write I2 (by rw [e]; exact True.intro) hs he (dk_new hz hd (rk.merge .nil) dd')


/-! ### methods -/
/-- a method call o.m(e) of a built-in, with one argument: what must be seen of the text -/
structure M1 (X : Cx) (o : Expr) (m : Str) (apos : Pos) (e : Expr) (cpos : Pos) : Prop where
  base : attributeBase o m X.env (eval o X.env) = eval o X.env
  few : ((backTo cpos (starEach [e] X.env)).all (fun x => !x.1) && (backToKw cpos (keywordEach [] X.env)).all (fun x => x.1.isSome)
    && decide (([e] : List Expr).length + ([] : List Keyword).length + (if ([] : List Keyword).isEmpty then 0 else 1) < 30)) = true
  line : (apos.endLine == cpos.line) = true
  trees : backTo cpos (starEach [e] X.env) = [(false, eval e X.env)]
structure M2 (X : Cx) (o : Expr) (m : Str) (apos : Pos) (e f : Expr) (cpos : Pos) : Prop where
  base : attributeBase o m X.env (eval o X.env) = eval o X.env
  few : ((backTo cpos (starEach [e, f] X.env)).all (fun x => !x.1) && (backToKw cpos (keywordEach [] X.env)).all (fun x => x.1.isSome)
    && decide (([e, f] : List Expr).length + ([] : List Keyword).length + (if ([] : List Keyword).isEmpty then 0 else 1) < 30)) = true
  line : (apos.endLine == cpos.line) = true
  trees : backTo cpos (starEach [e, f] X.env) = [(false, eval e X.env), (false, eval f X.env)]

/-- a is a dict, whatever its keys -/
def IsD (H : Hp) (a : Addr) : Prop := (∃ kvs, Rd H a (.dK kvs)) ∨ ∃ kvs, Rd H a (.dT kvs)
theorem isD_at {X : Cx} {pins : List (Addr × Obj)} {σ : St} {H : Hp} {s : Shared} {a : Addr} (I : Inv X pins σ H s) (d : IsD H a) :
    s.TypeIs (.ref a) "dict" ∧ (∀ b, Value.ref a = .ref b → ∃ ob, s.heap.get? b = some ob ∧ ob.dict = none) ∧ (a == sysModules) = false := by
  rcases d with ⟨kvs, e⟩ | ⟨kvs, e⟩
  · obtain ⟨_, hd, vs, _, dd⟩ := dk_rd I.hok e
    refine ⟨dd.typeIs, fun b q => ?_, hd⟩
    cases q
    obtain ⟨ob, _, _, h1, h2, _⟩ := dd
    exact ⟨ob, h1, h2.2.1⟩
  · obtain ⟨_, hd, xs, _, dd⟩ := dt_rd I.hok e
    refine ⟨dd.typeIs, fun b q => ?_, hd⟩
    cases q
    obtain ⟨ob, _, _, h1, h2, _⟩ := dd
    exact ⟨ob, h1, h2.2.1⟩

section
variable {X : Cx} {pins : List (Addr × Obj)} {σ : St} {H : Hp} {s : Shared} {a : Addr} {y d : V} {u r : Value} {o : Option V} {A : Around} {E : Value → Shared → Prop}
/-- d.get(y) -/
theorem d_get1 {Q : Value → Shared → Prop} (hu : A.units + 1 < cLine) (I : Inv X pins σ H s) (g : DGet H a y o) (ry : RelV y u) (h : ∀ w' s', Inv X pins σ H s' → RelV (o.getD .non) w' → Q w' s') :
    wpAny (model X.prog X.w) A (call (.builtin "dict.get") [.ref a, u]) Q E s := by
  rcases g with ⟨kvs, k, e, ey, l⟩ | ⟨kvs, k, b, e, ey, eb, l⟩
  · subst ey
    obtain ⟨z, hd, vs, rel, dd⟩ := dk_rd I.hok e
    refine call_meetsIn PySem.F.slot_dict_get dd.typeIs PySem.F.entry_dict_get (PySem.F.args_dict_get_2 _ _) (meets_dict_get (mixKind X.prog X.w) a (kV_is ry) hd) ⟨_, dd.mapOf, h _ _ (I.tok _) ?_⟩
    rw [l]
    exact (rel.val k).getD rfl
  · subst ey
    cases (show u = Value.ref b from ry)
    obtain ⟨z, hd, xs, rel, dd⟩ := dt_rd I.hok e
    refine call_meetsIn PySem.F.slot_dict_get dd.typeIs PySem.F.entry_dict_get (PySem.F.args_dict_get_2 _ _) (meetsH_dict_get (tupleKind (mixKind X.prog X.w)) a b hd) ⟨tupleKind_room_in1 hu, k, xs, key_of I.hok eb, dd, h _ _ (I.tok _) ?_⟩
    rw [l]
    exact (rel.val k).getD rfl
/-- d.get(y, x) -/
theorem d_get2 {Q : Value → Shared → Prop} (hu : A.units + 1 < cLine) (I : Inv X pins σ H s) (g : DGet H a y o) (ry : RelV y u) (rd : RelV d r) (h : ∀ w' s', Inv X pins σ H s' → RelV (o.getD d) w' → Q w' s') :
    wpAny (model X.prog X.w) A (call (.builtin "dict.get") [.ref a, u, r]) Q E s := by
  rcases g with ⟨kvs, k, e, ey, l⟩ | ⟨kvs, k, b, e, ey, eb, l⟩
  · subst ey
    obtain ⟨z, hd, vs, rel, dd⟩ := dk_rd I.hok e
    refine call_meetsIn PySem.F.slot_dict_get dd.typeIs PySem.F.entry_dict_get (PySem.F.args_dict_get_3 _ _ _) (meets_dict_get_default (mixKind X.prog X.w) a (kV_is ry) hd r) ⟨_, dd.mapOf, h _ _ (I.tok _) ?_⟩
    rw [l]
    exact (rel.val k).getD rd
  · subst ey
    cases (show u = Value.ref b from ry)
    obtain ⟨z, hd, xs, rel, dd⟩ := dt_rd I.hok e
    refine call_meetsIn PySem.F.slot_dict_get dd.typeIs PySem.F.entry_dict_get (PySem.F.args_dict_get_3 _ _ _) (meetsH_dict_get_default (tupleKind (mixKind X.prog X.w)) a b hd r) ⟨tupleKind_room_in1 hu, k, xs, key_of I.hok eb, dd, h _ _ (I.tok _) ?_⟩
    rw [l]
    exact (rel.val k).getD rd
end

def tDGet1 (td ty : TE) : TE := fun σ H Q => td σ H fun x H1 => ∃ a, x = .ref a ∧ IsD H1 a ∧ ty σ H1 fun y H2 => ∃ o, DGet H2 a y o ∧ Q (o.getD .non) H2
def tDGet2 (td ty tx : TE) : TE := fun σ H Q => td σ H fun x H1 => ∃ a, x = .ref a ∧ IsD H1 a ∧ ty σ H1 fun y H2 => tx σ H2 fun z H3 => ∃ o, DGet H3 a y o ∧ Q (o.getD z) H3
/-- d.pop(k): there; d.pop(k, x): there or not -/
def tDPop1 (td ty : TE) : TE := fun σ H Q => td σ H fun x H1 => ∃ a, x = .ref a ∧ IsD H1 a ∧ ty σ H1 fun y H2 => ∃ kvs k v, H2 a = some (.dK kvs) ∧ y = kV k ∧ valV kvs k = some v ∧ Q v (upd H2 a (.dK (dropK kvs k)))
def tDPop2 (td ty tx : TE) : TE := fun σ H Q => td σ H fun x H1 => ∃ a, x = .ref a ∧ IsD H1 a ∧ ty σ H1 fun y H2 => tx σ H2 fun z H3 => ∃ kvs k, H3 a = some (.dK kvs) ∧ y = kV k ∧
  (∀ v, valV kvs k = some v → Q v (upd H3 a (.dK (dropK kvs k)))) ∧ (valV kvs k = none → Q z H3)
section
variable {X : Cx} {o e f : Expr} {apos cpos : Pos} {td ty tx : TE}
theorem pe_dget1 (hu : X.A.units + 1 < cLine) (ho : PE X o td) (he : PE X e ty) (m : M1 X o "get" apos e cpos) : PE X (.Call (.Attribute o "get" apos) [e] [] cpos) (tDGet1 td ty) := by
  intro pins s σ H Q I h
  refine wpAny_Call_method m.base m.few m.line PySem.F.plainAttrs_dict PySem.F.slot_dict_get PySem.F.type_dict_get (thn (ho pins s σ H _ I h) fun u s1 ⟨x, H1, I1, rx, a, ex, d, q1⟩ => ?_)
  subst ex
  obtain rfl : u = Value.ref a := rx
  obtain ⟨t1, t2, _⟩ := isD_at I1 d
  refine ⟨t1, t2, ?_⟩
  rw [m.trees]
  refine Calls.callWith_builtin rfl (Calls.evalArgs_plain (Calls.spliced_cons (thn (he pins s1 σ H1 _ I1 q1) fun iv s2 ⟨y, H2, I2, ry, ov, g, q2⟩ => Calls.spliced_nil ?_)))
  exact d_get1 hu I2 g ry fun w' s3 I3 rw' => ⟨_, H2, I3, rw', q2⟩
theorem pe_dget2 (hu : X.A.units + 1 < cLine) (ho : PE X o td) (he : PE X e ty) (hf : PE X f tx) (m : M2 X o "get" apos e f cpos) : PE X (.Call (.Attribute o "get" apos) [e, f] [] cpos) (tDGet2 td ty tx) := by
  intro pins s σ H Q I h
  refine wpAny_Call_method m.base m.few m.line PySem.F.plainAttrs_dict PySem.F.slot_dict_get PySem.F.type_dict_get (thn (ho pins s σ H _ I h) fun u s1 ⟨x, H1, I1, rx, a, ex, d, q1⟩ => ?_)
  subst ex
  obtain rfl : u = Value.ref a := rx
  obtain ⟨t1, t2, _⟩ := isD_at I1 d
  refine ⟨t1, t2, ?_⟩
  rw [m.trees]
  refine Calls.callWith_builtin rfl (Calls.evalArgs_plain (Calls.spliced_cons (thn (he pins s1 σ H1 _ I1 q1) fun iv s2 ⟨y, H2, I2, ry, q2⟩ =>
    Calls.spliced_cons (thn (hf pins s2 σ H2 _ I2 q2) fun fv s3 ⟨z, H3, I3, rz, ov, g, q3⟩ => Calls.spliced_nil ?_))))
  exact d_get2 hu I3 g ry rz fun w' s4 I4 rw' => ⟨_, H3, I4, rw', q3⟩
theorem pe_dpop1 (ho : PE X o td) (he : PE X e ty) (m : M1 X o "pop" apos e cpos) : PE X (.Call (.Attribute o "pop" apos) [e] [] cpos) (tDPop1 td ty) := by
  intro pins s σ H Q I h
  refine wpAny_Call_method m.base m.few m.line PySem.F.plainAttrs_dict PySem.F.slot_dict_pop PySem.F.type_dict_pop (thn (ho pins s σ H _ I h) fun u s1 ⟨x, H1, I1, rx, a, ex, d, q1⟩ => ?_)
  subst ex
  obtain rfl : u = Value.ref a := rx
  obtain ⟨t1, t2, _⟩ := isD_at I1 d
  refine ⟨t1, t2, ?_⟩
  rw [m.trees]
  refine Calls.callWith_builtin rfl (Calls.evalArgs_plain (Calls.spliced_cons (thn (he pins s1 σ H1 _ I1 q1) fun iv s2 ⟨y, H2, I2, ry, kvs, k, v, ea, ey, l, q2⟩ => Calls.spliced_nil ?_)))
  subst ey
  exact d_pop I2 ea ry l (.inl rfl) fun w' s3 I3 rw' => ⟨v, _, I3, rw', q2⟩
theorem pe_dpop2 (ho : PE X o td) (he : PE X e ty) (hf : PE X f tx) (m : M2 X o "pop" apos e f cpos) : PE X (.Call (.Attribute o "pop" apos) [e, f] [] cpos) (tDPop2 td ty tx) := by
  intro pins s σ H Q I h
  refine wpAny_Call_method m.base m.few m.line PySem.F.plainAttrs_dict PySem.F.slot_dict_pop PySem.F.type_dict_pop (thn (ho pins s σ H _ I h) fun u s1 ⟨x, H1, I1, rx, a, ex, d, q1⟩ => ?_)
  subst ex
  obtain rfl : u = Value.ref a := rx
  obtain ⟨t1, t2, _⟩ := isD_at I1 d
  refine ⟨t1, t2, ?_⟩
  rw [m.trees]
  refine Calls.callWith_builtin rfl (Calls.evalArgs_plain (Calls.spliced_cons (thn (he pins s1 σ H1 _ I1 q1) fun iv s2 ⟨y, H2, I2, ry, q2⟩ =>
    Calls.spliced_cons (thn (hf pins s2 σ H2 _ I2 q2) fun fv s3 ⟨z, H3, I3, rz, kvs, k, ea, ey, q3, q4⟩ => Calls.spliced_nil ?_))))
  subst ey
  cases l : valV kvs k with
  | some v => exact d_pop I3 ea ry l (.inr ⟨fv, rfl⟩) fun w' s4 I4 rw' => ⟨v, _, I4, rw', q3 v l⟩
  | none => exact d_popD I3 ea ry l fun s4 I4 => ⟨z, H3, I4, rz, q4 l⟩
end

/-! ### dict(d): a copy -/
section
variable {X : Cx} {pins : List (Addr × Obj)} {σ : St} {H : Hp} {s : Shared} {a : Addr} {kvs : List (Key × V)} {A : Around} {E : Value → Shared → Prop}
theorem d_copyOf {Q : Value → Shared → Prop} (I : Inv X pins σ H s) (e : Rd H a (.dK kvs)) (h : ∀ p s', H p = none → Inv X pins σ (upd H p (.dK kvs)) s' → Q (.ref p) s') : wpAny (model X.prog X.w) A (call (.type "dict") [.ref a]) Q E s := by
  obtain ⟨z, hd, vs, rel, dd⟩ := dk_rd I.hok e
  refine kt_call_dict hd dd (by rw [← rel.length]; exact z) fun h' dd' hs => ?_
  refine h _ _ (I.hok.fresh (Nat.le_refl _)) (I.laid (a := s.heap.objs.size) (o := .dK kvs) (t' := s.toks) (fun b q hq => ?_) (Nat.le_refl _) (dk_new z (beq_eq_false_iff_ne.mpr (Ne.symm (Nat.ne_of_lt I.big))) rel dd'))
  exact (hs.2 b (Nat.ne_of_lt (Heap.lt_size hq))).trans (Heap.get?_push_of_some _ hq)
end


section
variable {X : Cx} {pins : List (Addr × Obj)} {σ : St} {H : Hp} {s : Shared} {a : Addr} {y : V} {u : Value} {A : Around} {E : Value → Shared → Prop}
/-- d[y], not there: a KeyError -/
theorem d_missing {Q : Value → Shared → Prop} (hu : A.units + 1 < cLine) (hh : A.handled = none) (I : Inv X pins σ H s) (g : DGet H a y none) (ry : RelV y u)
    (h : ∀ h' e t', Heap.NewExc s.heap h' e "KeyError" → E (.ref e) { s with heap := h', toks := t' }) : wpAny (model X.prog X.w) A (getItem (.ref a) u) Q E s := by
  rcases g with ⟨kvs, k, e, ey, l⟩ | ⟨kvs, k, b, e, ey, eb, l⟩
  · subst ey
    obtain ⟨z, hd, vs, rel, dd⟩ := dk_rd I.hok e
    have hn : valueAt vs k = none := RelO.none_of (by rw [l]; exact rel.val k)
    exact wpAny_getItem_missing_of (kV_is ry) hd hh dd.mapOf hn fun h' ex ne => h h' ex _ ne
  · subst ey
    cases (show u = Value.ref b from ry)
    obtain ⟨z, hd, xs, rel, dd⟩ := dt_rd I.hok e
    have hn : (atKey xs k).map (·.2) = none := RelO.none_of (by rw [l]; exact rel.val k)
    exact wpAny_getItem_missing_heap (tupleKind_room_in1 hu) (key_of I.hok eb) hd hh dd (Option.map_eq_none_iff.mp hn) fun h' ex ne => h h' ex _ ne
end
end L2

/-! EXTENSION E: dicts with tuple keys: made, walked, summed, asked for the least -/
namespace L2
open PySem PySem.Spec PyProof.Rows
/-- a key of two ints -/
def keyR (r : Int × Int) : List Key := [.inl r.1, .inl r.2]
theorem keyR_inj {a b : Int × Int} (h : keyR a = keyR b) : a = b := by
  obtain ⟨a1, a2⟩ := a
  obtain ⟨b1, b2⟩ := b
  simp only [keyR, List.cons.injEq, Sum.inl.injEq, and_true] at h
  rw [h.1, h.2]
theorem keyR_map (r : Int × Int) : (keyR r).map kV = [.int r.1, .int r.2] := rfl
section
variable {P : Program} {w : World} {H : Hp} {h : Heap} {a : Addr} {kvs : List (List Key × V)}
theorem Paired.getR {α β : Type} {F : α → β → Prop} : ∀ {l : List α} {m : List β}, Paired F l m → ∀ {i : Nat} {x : α}, l[i]? = some x → ∃ y, m[i]? = some y ∧ F x y
  | _, _, .nil, _, _, e => by simp at e
  | _, _, .cons r _, 0, _, e => by simp at e; subst e; exact ⟨_, rfl, r⟩
  | _, _, .cons _ t, i + 1, x, e => by
    obtain ⟨y, h1, h2⟩ := Paired.getR t (i := i) (x := x) (by simpa using e)
    exact ⟨y, by simpa using h1, h2⟩
theorem dt_raw (ok : HOk P w H h) (e : Rd H a (.dT kvs)) : ∃ (es : Array DictEntry) (ep : Nat), RawD h a es ep ∧ (a == sysModules) = false ∧ kvs.length ≤ sizeLine ∧ es.size = kvs.length ∧
    ∀ (i : Nat) (k : List Key) (v : V), kvs[i]? = some (k, v) → ∃ (en : DictEntry) (kt : Addr), es[i]? = some en ∧ en.key = .ref kt ∧ H kt = some (.tup (k.map kV)) ∧ RelV v en.val := by
  obtain ⟨z, y, xs, r, o, es, ep, h1, h2, h3, h4, h5⟩ := (show ObjOk P w H h a (.dT kvs) from rd_of ok e)
  refine ⟨es, ep, ⟨o, h1, h2, h3⟩, y, z, ?_, fun i k v hi => ?_⟩
  · rw [← Array.length_toList, h4, List.length_map, ← Paired.length r]
  · obtain ⟨x, hx, q1, q2, q3⟩ := Paired.getR r hi
    refine ⟨entryOfKey (tupleKind (mixKind P w)) x, x.2.1, ?_, rfl, q2, q3⟩
    rw [← Array.getElem?_toList, h4, List.getElem?_map, hx]; rfl
end
section
variable {X : Cx} {pins : List (Addr × Obj)} {σ : St} {H : Hp} {s : Shared} {a : Addr} {kvs : List (List Key × V)}
/-- a dict that a loop walks is known to its object -/
theorem Inv.freeze (I : Inv X pins σ H s) (e : H a = some (.dT kvs)) : ∃ o, s.heap.get? a = some o ∧ Inv X pins σ (upd H a (.frz o (.dT kvs))) s := by
  obtain ⟨z, y, xs, r, o, es, ep, h1, h2, h3, h4, h5⟩ := (show ObjOk X.prog X.w H s.heap a (.dT kvs) from I.hok a _ e)
  refine ⟨o, h1, I.write (x := a) (e := a) (h' := s.heap) (t' := s.toks) (by rw [e]; exact True.intro) (.inl rfl) (fun b u _ q => q) ⟨o, h1⟩ ⟨h1, ?_⟩⟩
  exact ⟨z, y, xs, Paired.mapP r fun p q u => ⟨u.1, by rw [upd_ne (ne_of u.2.1 e (fun z => nomatch z))]; exact u.2.1, u.2.2⟩, o, es, ep, h1, h2, h3, h4, h5⟩
end

/-! ### d.items() in a for -/
def Iti (a : Addr) (o : Obj) : It :=
  ⟨fun i H => ∃ kvs, H a = some (.frz o (.dT kvs)) ∧ i < kvs.length,
   fun i H v H' => ∃ t kt k x, v = .ref t ∧ H t = none ∧ H' = upd H t (.tup [.ref kt, x]) ∧ H kt = some (.tup (k.map kV)) ∧ ∀ kvs, H a = some (.frz o (.dT kvs)) → kvs[i]? = some (k, x),
   fun i H => ∃ kvs, H a = some (.frz o (.dT kvs)) ∧ kvs.length ≤ i⟩
theorem turn_items {P : Program} {w : World} {K : PySem.W.Frag} {es : List Expr} {kk : Nat} {pos : Pos} {it a : Addr} {o : Obj} {ents : Array DictEntry} {ep : Nat} (hod : o.data = .dict ents ep) :
    Turn P w K (.Tuple es kk pos) (Iti a o) [it] it (fun i h => ∃ ok ov, IsItemIter h it a i ents.size ep ok ov) where
  mem := .head _
  obj := fun i h st c hc => by
    obtain ⟨ok, ov, y⟩ := st
    cases List.mem_singleton.mp hc
    exact ⟨_, y, fun v q => nomatch q⟩
  keep := fun i h h' st k => by
    obtain ⟨ok, ov, y⟩ := st
    exact ⟨ok, ov, k it (by simp) _ y⟩
  item := fun X eP eW eK hc i pins s σ H E I hf st go => by
    subst eP eW eK
    obtain ⟨ok, ov, y⟩ := st
    obtain ⟨kvs, ea, hi⟩ := go
    obtain ⟨f0, f1, f2, f3, f4, f5⟩ := hf it (by simp)
    obtain ⟨es', ep', rd, nd, z, sz, at_⟩ := dt_raw I.hok (a := a) (kvs := kvs) (.inr ⟨o, ea⟩)
    have eo : s.heap.get? a = some o := (show ObjOk X.prog X.w H s.heap a (.frz o (.dT kvs)) from I.hok a _ ea).1
    have ee : es' = ents ∧ ep' = ep := by
      obtain ⟨o', q1, q2, q3⟩ := rd
      rw [eo] at q1; cases q1
      rw [hod] at q3; cases q3; exact ⟨rfl, rfl⟩
    obtain ⟨rfl, rfl⟩ := ee
    obtain ⟨⟨k, x⟩, hk⟩ : ∃ p, kvs[i]? = some p := ⟨kvs[i], List.getElem?_eq_getElem hi⟩
    obtain ⟨en, kt, e1, e2, e3, e4⟩ := at_ i k x hk
    refine raw_nextI y rd e1 fun h' a1 a2 a3 a4 => ⟨_, rfl, ?_⟩
    refine wpAny_letOwnedTupleGo_items a1 fun h'' b1 hs => ?_
    have zT : s.heap.objs.size ≠ it := Nat.ne_of_gt (Heap.lt_size y)
    have kk : ∀ c o, c ∉ [it] → s.heap.get? c = some o → h''.get? c = some o := fun c o hc e => by
      have hc' : c ≠ it := by simpa using hc
      exact hs.extBut c o hc' (a4 c o hc' e)
    refine ⟨.ref s.heap.objs.size, upd H s.heap.objs.size (.tup [.ref kt, x]), I.laidCh (t' := s.toks) (ch := [it]) kk hf (Nat.le_refl _) ?_, rfl, ⟨_, kt, k, x, rfl, I.fresh, rfl, e3, fun kvs' q => ?_⟩, ⟨_, _, b1⟩, fun c hc => ?_⟩
    · exact ⟨by show 2 ≤ sizeLine; decide, [en.key, en.val], .cons e2 (.cons e4 .nil), ⟨_, hs.extBut _ _ zT a2, rfl, _, rfl⟩⟩
    · rw [ea] at q; cases q; exact hk
    · cases List.mem_singleton.mp hc
      rw [upd_ne (Nat.ne_of_lt (Heap.lt_size y))]; exact f0
  done := fun X eP eW eK hc i pins s σ H E I hf st stop => by
    subst eP eW eK
    obtain ⟨ok, ov, y⟩ := st
    obtain ⟨kvs, ea, hi⟩ := stop
    obtain ⟨f0, f1, f2, f3, f4, f5⟩ := hf it (by simp)
    obtain ⟨es', ep', rd, nd, z, sz, at_⟩ := dt_raw I.hok (a := a) (kvs := kvs) (.inr ⟨o, ea⟩)
    have eo : s.heap.get? a = some o := (show ObjOk X.prog X.w H s.heap a (.frz o (.dT kvs)) from I.hok a _ ea).1
    have ee : es' = ents ∧ ep' = ep := by
      obtain ⟨o', q1, q2, q3⟩ := rd
      rw [eo] at q1; cases q1
      rw [hod] at q3; cases q3; exact ⟨rfl, rfl⟩
    obtain ⟨rfl, rfl⟩ := ee
    exact raw_endI (I.ok.hd hc) y rd (Array.getElem?_eq_none (by omega)) fun h' eb => ⟨rfl, I.turned (t' := s.toks) (fun b o hb e => eb b o hb e) f0 f1 f3 f4 f5⟩
  self := fun A i s Q E st h => by
    obtain ⟨ok, ov, y⟩ := st
    exact iter_itemiter y h
/-- d.items(): a view of the dict at a -/
def rItems : V → List V → Hp → VK → Prop := fun x xs H Q => ∃ a kvs, x = .ref a ∧ xs = [] ∧ Rd H a (.dT kvs) ∧ ∀ v, H v = none → Q (.ref v) (upd H v (.ext fun h => h.IsItemsView v a))
def rValues : V → List V → Hp → VK → Prop := fun x xs H Q => ∃ a kvs, x = .ref a ∧ xs = [] ∧ Rd H a (.dT kvs) ∧ ∀ v, H v = none → Q (.ref v) (upd H v (.ext fun h => h.IsValuesView v a))
def iView (tl : TE) : TI := fun σ H R => tl σ H fun x H1 => ∃ v a kvs, x = .ref v ∧ H1 v = some (.ext fun h => h.IsItemsView v a) ∧ H1 a = some (.dT kvs) ∧ ∀ o, R (Iti a o) (upd H1 a (.frz o (.dT kvs)))
section
variable {X : Cx}
theorem mt_items : MtR X "dict.items" rItems := by
  intro pins s σ H x xs v us Q I rx rxs h
  obtain ⟨a, kvs, rfl, rfl, e, q⟩ := h
  cases (show v = Value.ref a from rx)
  cases rxs
  obtain ⟨es, ep, rd, nd, _⟩ := dt_raw I.hok e
  refine raw_items nd rd ⟨.ref s.heap.objs.size, _, I.laid (a := s.heap.objs.size) (o := .ext fun h => h.IsItemsView s.heap.objs.size a) (t' := s.toks) (fun _ _ q => Heap.get?_push_of_some _ q) (Nat.le_refl _) ?_, rfl, q _ (I.hok.fresh (Nat.le_refl _))⟩
  exact ⟨⟨_, Heap.get?_push_size _ rfl, rfl, rfl⟩, ⟨_, Heap.get?_push_size _ rfl⟩, fun h1 h2 ⟨o, p1, p2⟩ k => ⟨o, k o p1, p2⟩⟩
theorem mt_values : MtR X "dict.values" rValues := by
  intro pins s σ H x xs v us Q I rx rxs h
  obtain ⟨a, kvs, rfl, rfl, e, q⟩ := h
  cases (show v = Value.ref a from rx)
  cases rxs
  obtain ⟨es, ep, rd, nd, _⟩ := dt_raw I.hok e
  refine raw_values nd rd ⟨.ref s.heap.objs.size, _, I.laid (a := s.heap.objs.size) (o := .ext fun h => h.IsValuesView s.heap.objs.size a) (t' := s.toks) (fun _ _ q => Heap.get?_push_of_some _ q) (Nat.le_refl _) ?_, rfl, q _ (I.hok.fresh (Nat.le_refl _))⟩
  exact ⟨⟨_, Heap.get?_push_size _ rfl, rfl, rfl⟩, ⟨_, Heap.get?_push_size _ rfl⟩, fun h1 h2 ⟨o, p1, p2⟩ k => ⟨o, k o p1, p2⟩⟩
theorem pi_view {es : List Expr} {kk : Nat} {pos : Pos} {l : Expr} {tl : TE} (hl : PE X l tl) : PI X (.Tuple es kk pos) l (iView tl) := by
  intro pins s σ H R I h
  refine thn (hl pins s σ H _ I h) fun u s1 ⟨x, H1, I1, r1, q1⟩ => ?_
  obtain ⟨v, a, kvs, rfl, ev, ea, q⟩ := q1
  cases (show u = Value.ref v from r1)
  obtain ⟨vw, _⟩ := (show ObjOk X.prog X.w H1 s1.heap v (.ext fun h => h.IsItemsView v a) from I1.hok v _ ev)
  obtain ⟨o, eo, I2⟩ := I1.freeze ea
  obtain ⟨ents, ep, rd, nd, z, sz, at_⟩ := dt_raw I1.hok (a := a) (kvs := kvs) (.inl ea)
  have hod : o.data = .dict ents ep := by
    obtain ⟨o', q1, q2, q3⟩ := rd
    rw [eo] at q1; cases q1; exact q3
  refine raw_iterI vw rd ?_
  refine ⟨s1.heap.objs.size, [s1.heap.objs.size], _, _, _, rfl, I2.kept (t' := s1.toks) fun b o e => Heap.get?_push_of_some _ e, turn_items (a := a) (o := o) hod, ⟨_, _, Heap.get?_push_size _ rfl⟩, fun b hb => ?_, q o⟩
  cases List.mem_singleton.mp hb
  exact I2.fpOk (Nat.le_refl _) (I2.hok.fresh (Nat.le_refl _))
end
theorem for_items {a : Addr} {o : Obj} {kvs : List (List Key × V)} {g : TG} {tb : TS} {D : Ends} {σ : St} {H : Hp} (Pv : Nat → St → Hp → Prop) (h0 : Pv 0 σ H) (hl : ∀ i σ H, i ≤ kvs.length → Pv i σ H → H a = some (.frz o (.dT kvs)))
    (hs : ∀ i k x t kt σ H, kvs[i]? = some (k, x) → H t = none → H kt = some (.tup (k.map kV)) → Pv i σ H → g (.ref t) σ (upd H t (.tup [.ref kt, x])) fun σ2 H2 => tb { D with nx := Pv (i + 1), ct := Pv (i + 1), bk := D.nx } σ2 H2) (hd : ∀ σ H, Pv kvs.length σ H → D.nx σ H) :
    ∃ W : Nat → Nat → St → Hp → Prop, (∃ m, W 0 m σ H) ∧ ∀ i m σ H, W i m σ H → ((Iti a o).stop i H ∧ D.nx σ H) ∨ ((Iti a o).go i H ∧ ∃ N : St → Hp → Prop, (∀ σ' H', N σ' H' → ∃ m', m' < m ∧ W (i + 1) m' σ' H') ∧
      ∀ x H', (Iti a o).yld i H x H' → g x σ H' fun σ2 H2 => tb { D with nx := N, ct := N, bk := D.nx } σ2 H2) := by
  refine ⟨fun i m σ H => Pv i σ H ∧ i ≤ kvs.length ∧ m = kvs.length - i, ⟨_, h0, Nat.zero_le _, rfl⟩, fun i m σ H ⟨p, hi, hm⟩ => ?_⟩
  have l1 := hl i σ H hi p
  by_cases e : i = kvs.length
  · subst e
    exact .inl ⟨⟨kvs, l1, Nat.le_refl _⟩, hd σ H p⟩
  · refine .inr ⟨⟨kvs, l1, by omega⟩, Pv (i + 1), fun σ' H' q => ⟨kvs.length - (i + 1), by omega, q, by omega, rfl⟩, fun v H' hv => ?_⟩
    obtain ⟨t, kt, k, x, rfl, ht, rfl, h1, h2⟩ := hv
    exact hs i k x t kt σ H (h2 kvs l1) ht h1 p

/-! ### sum -/
theorem preSum_list {ns : List Int} {val : Nat → Int} (h : ∀ i n, ns[i]? = some n → val i = n) : preSum val ns.length = ns.sum := by
  have key : ∀ (k : Nat) , k ≤ ns.length → preSum val k = (ns.take k).sum := by
    intro k
    induction k with
    | zero => intro _; rfl
    | succ k ih =>
      intro hk
      have hn : ns[k]? = some ns[k] := List.getElem?_eq_getElem (by omega)
      show preSum val k + val k = _
      rw [ih (by omega), h k _ hn, List.take_add_one, hn, List.sum_append]
      simp
  rw [key _ (Nat.le_refl _), List.take_length]
theorem vals_int_at {ns : List Int} {us : List Value} (r : Vals (ns.map V.int) us) (i : Nat) (v : Value) (h : us[i]? = some v) : ∃ t, v = .int (ns.getD i 0) t := by
  have hl := r.length
  rw [List.length_map] at hl
  have hi : i < us.length := (List.getElem?_eq_some_iff.mp h).1
  have hn : ns[i]? = some ns[i] := List.getElem?_eq_getElem (by omega)
  obtain ⟨u, h1, t, h2⟩ := r.get (show (ns.map V.int)[i]? = some (.int ns[i]) by rw [List.getElem?_map, hn]; rfl)
  rw [h] at h1; cases h1
  exact ⟨t, by rw [h2]; simp [List.getD, hn]⟩
def rSumT (K : PySem.W.Frag) : List V → Hp → VK → Prop := fun xs H Q => ∃ (p : Addr) (ns : List Int), xs = [.ref p] ∧ SqT K H p (ns.map V.int) ∧ Q (.int ns.sum) H
def rSumV : List V → Hp → VK → Prop := fun xs H Q => ∃ (v a : Addr) (kvs : List (List Key × V)) (ns : List Int), xs = [.ref v] ∧ H v = some (.ext fun h => h.IsValuesView v a) ∧ Rd H a (.dT kvs) ∧ kvs.map (·.2) = ns.map V.int ∧ Q (.int ns.sum) H
theorem call_sumT (K : PySem.W.Frag) {X : Cx} (hc : X.calm = true := by rfl) (e : X.K = K := by rfl) : CallR X (.builtin "sum") (rSumT K) := by
  subst e
  intro pins s σ H xs us Q I r h
  obtain ⟨p, ns, rfl, hl, q⟩ := h
  obtain ⟨u, rfl, ru⟩ := vals1 r
  cases (show u = Value.ref p from ru)
  obtain ⟨its, rv, pt, _⟩ := I.tuple hl
  have lp : p < s.heap.objs.size := by obtain ⟨o, e, _⟩ := pt; exact Heap.lt_size e
  have hlen := rv.length
  rw [List.length_map] at hlen
  refine raw_sumT (val := fun i => ns.getD i 0) (I.ok.hd hc) (show s.heap.IsTuple p its.toArray from pt) lp (fun i v hv => vals_int_at rv i v (by simpa using hv)) fun h' tk t k => ⟨.int ns.sum, H, I.kept k, ⟨t, ?_⟩, q⟩
  rw [List.size_toArray, ← hlen, preSum_list]
  intro i n hn; simp [List.getD, hn]
theorem call_sumV {X : Cx} (hc : X.calm = true := by rfl) : CallR X (.builtin "sum") rSumV := by
  intro pins s σ H xs us Q I r h
  obtain ⟨v, a, kvs, ns, rfl, ev, ea, en, q⟩ := h
  obtain ⟨u, rfl, ru⟩ := vals1 r
  cases (show u = Value.ref v from ru)
  obtain ⟨vw, _⟩ := (show ObjOk X.prog X.w H s.heap v (.ext fun h => h.IsValuesView v a) from I.hok v _ ev)
  obtain ⟨es, ep, rd, nd, z, sz, at_⟩ := dt_raw I.hok ea
  have hlen : kvs.length = ns.length := by have := congrArg List.length en; simpa using this
  refine raw_sumV (val := fun i => ns.getD i 0) (I.ok.hd hc) vw rd (fun i x hx => ?_) fun h' tk t k => ⟨.int ns.sum, H, I.kept k, ⟨t, ?_⟩, q⟩
  · have hi : i < kvs.length := by have := (Array.getElem?_eq_some_iff.mp hx).1; omega
    obtain ⟨x', kt, e1, e2, e3, e4⟩ := at_ i kvs[i].1 kvs[i].2 (List.getElem?_eq_getElem hi)
    rw [hx] at e1; cases e1
    have hv : (kvs.map (·.2))[i]? = some kvs[i].2 := by rw [List.getElem?_map, List.getElem?_eq_getElem hi]; rfl
    rw [en] at hv
    obtain ⟨n, h1, h2⟩ := ofGetI hv
    rw [h2] at e4
    obtain ⟨t, e5⟩ := e4
    exact ⟨t, by rw [e5]; simp [List.getD, h1]⟩
  · rw [sz, hlen, preSum_list]
    intro i n hn; simp [List.getD, hn]

/-! ### min(d, key=sum) -/
def tMinS (ta : TA) : TE := fun σ H Q => ta σ H fun vs H1 => ∃ (a : Addr) (kvs : List (List Key × V)) (rs : List (Int × Int)), vs = [.ref a] ∧ Rd H1 a (.dT kvs) ∧ kvs.map (·.1) = rs.map keyR ∧ 0 < rs.length ∧
  ∀ (i : Nat) (r : Int × Int) (kt : Addr), rs[i]? = some r → (∀ (j : Nat) (r' : Int × Int), rs[j]? = some r' → r.1 + r.2 ≤ r'.1 + r'.2 ∧ (j < i → r.1 + r.2 < r'.1 + r'.2)) → H1 kt = some (.tup [.int r.1, .int r.2]) → Q (.ref kt) H1
theorem pe_minSum {X : Cx} {e : Expr} {ta : TA} {p p2 pos kpos : Pos} (hc : X.calm = true) (hg : Gl X "min") (hm : X.mg "min" = none) (hg2 : Gl X "sum") (hm2 : X.mg "sum" = none) (ha : PA X [e] ta) (hs : backTo pos (starEach [e] X.env) = (false, eval e X.env) :: backTo pos (starEach [] X.env) := by rfl) :
    PE X (.Call (.Name "min" p) [e] [⟨some "key", .Name "sum" p2, kpos⟩] pos) (tMinS ta) := by
  intro pins s σ H Q I h
  refine wpAny_Call_Name_kw (ld_blt I hg hm PyProof.Rows.Boot.«min» ?_)
  refine PyProof.Rows.callWith_kw (thn (ha pos pins s σ H _ I h) fun us s1 ⟨vs, H1, I1, r1, q1⟩ => ?_) hs (by rw [hs]; rfl)
  obtain ⟨a, kvs, rs, rfl, ea, ek, hn, q⟩ := q1
  obtain ⟨u, rfl, ru⟩ := vals1 r1
  cases (show u = Value.ref a from ru)
  refine PyProof.Rows.kws_cons (ld_blt I1 hg2 hm2 PyProof.Rows.Boot.«sum» (PyProof.Rows.kws_nil ?_))
  obtain ⟨es, ep, rd, nd, z, sz, at_⟩ := dt_raw I1.hok ea
  have hlen : kvs.length = rs.length := by have := congrArg List.length ek; simpa using this
  have la : a < s1.heap.objs.size := by obtain ⟨o, e, _⟩ := rd; exact Heap.lt_size e
  have ne : a ≠ s1.heap.objs.size := Nat.ne_of_lt la
  have key : ∀ (i : Nat) (v : Value), (∃ en, es[i]? = some en ∧ v = en.key) → ∃ kt r, v = .ref kt ∧ rs[i]? = some r ∧ H1 kt = some (.tup [.int r.1, .int r.2]) := fun i v hv => by
    obtain ⟨en, h1, rfl⟩ := hv
    have hi : i < kvs.length := by have := (Array.getElem?_eq_some_iff.mp h1).1; omega
    obtain ⟨x', kt, e1, e2, e3, e4⟩ := at_ i kvs[i].1 kvs[i].2 (List.getElem?_eq_getElem hi)
    rw [h1] at e1; cases e1
    have hv : (kvs.map (·.1))[i]? = some kvs[i].1 := by rw [List.getElem?_map, List.getElem?_eq_getElem hi]; rfl
    rw [ek, List.getElem?_map] at hv
    obtain ⟨r, h2, h3⟩ := Option.map_eq_some_iff.mp hv
    exact ⟨kt, r, e2, h2, by rw [e3, ← h3, keyR_map]⟩
  have hh := I1.ok.hd hc
  refine mk_min (f := "sum") (raw_iter nd rd ⟨s1.heap.objs.size, _, _, es.size, _, _, fun i => (rs.getD i (0, 0)).1 + (rs.getD i (0, 0)).2, _, rfl, rfl, ?_, fun b o e => Heap.get?_push_of_some _ e, raw_walk (P := X.prog) (w := X.w) (A := X.A.in1) (es := es) (ep := ep) hh ne,
    ⟨⟨_, Heap.get?_push_size _ rfl, rfl, rfl⟩, rd.mono fun o e => Heap.get?_push_of_some _ e⟩, fun b hb => ?_, fun b hb => ?_, by omega, fun i v h tk hi hv hk => ?_, fun i v h' tk' hi hv hb hk => ?_⟩)
  · rw [Heap.size_push]; exact Nat.le_succ _
  · rw [Heap.size_push]
    simp only [List.mem_cons, List.mem_nil_iff, or_false] at hb
    rcases hb with rfl | rfl
    · exact Nat.lt_succ_self _
    · exact Nat.lt_succ_of_lt la
  · cases List.mem_singleton.mp hb; exact Nat.le_refl _
  · obtain ⟨kt, r, rfl, hr, ht⟩ := key i v hv
    obtain ⟨_, its, rv, pt⟩ := (show ObjOk X.prog X.w H1 s1.heap kt (.tup [.int r.1, .int r.2]) from I1.hok kt _ ht)
    have pt' : h.IsTuple kt its.toArray := (show s1.heap.IsTuple kt its.toArray from pt).at fun o e => hk kt o e
    have lk : kt < h.objs.size := by obtain ⟨o, e, _⟩ := pt'; exact Heap.lt_size e
    have rv' : Vals (([r.1, r.2] : List Int).map V.int) its := rv
    have hl2 := rv'.length
    refine raw_sumT (s := { s1 with heap := h, toks := tk }) (val := fun i => ([r.1, r.2] : List Int).getD i 0) hh pt' lk (fun i v hv => vals_int_at rv' i v (by simpa using hv)) fun h' tk' t k => ⟨t, h', tk', ?_, rfl, k⟩
    have e1 : its.toArray.size = ([r.1, r.2] : List Int).length := by rw [List.size_toArray, ← hl2]; rfl
    rw [e1, preSum_list (ns := [r.1, r.2]) (by intro i n hn; simp [List.getD, hn])]
    simp [List.getD, hr]
  · obtain ⟨kt, r, rfl, hr, ht⟩ := key i v hv
    refine ⟨.ref kt, H1, I1.kept hk, rfl, q i r kt hr (fun j r' hj => ?_) ht⟩
    have hjl : j < es.size := by have := (List.getElem?_eq_some_iff.mp hj).1; omega
    have := hb j hjl
    simpa [List.getD, hr, hj] using this

/-! ### {k: v} with a tuple of two ints for a key -/
def tDisp1 (tk tv : TE) : TE := fun σ H Q => ∀ p, H p = none → tk σ (upd H p (.dT [])) fun x H1 => tv σ H1 fun y H2 => ∃ kt r, x = .ref kt ∧ H2 kt = some (.tup (List.map kV r)) ∧ H2 p = some (.dT []) ∧ Q (.ref p) (upd H2 p (.dT [(r, y)]))
theorem pe_disp1 {X : Cx} {pos : Pos} {k v : Expr} {tk tv : TE} (hu : X.A.units < cLine) (hk : PE X k tk) (hv : PE X v tv) : PE X (.Dict [some k] [v] pos) (tDisp1 tk tv) := by
  intro pins s σ H Q I q
  have hn := I.hok.fresh (Nat.le_refl s.heap.objs.size)
  have I1 := I.laid (a := s.heap.objs.size) (o := .dT []) (h' := s.heap.push { cls := .type "dict", data := .dict #[] }) (t' := s.toks) (fun _ _ q => Heap.get?_push_of_some _ q) (Nat.le_refl _) (dt_empty s.heap I.big)
  refine wpAny_Dict_any rfl rfl (by simp) (by simp) ?_
  refine pairTrees_cons_walk (thn (hk pins _ σ _ _ I1 (q _ hn)) fun u s1 ⟨x, H1, I1, rx, q1⟩ => thn (hv pins s1 σ H1 _ I1 q1) fun w2 s2 ⟨y, H2, I2, ry, q2⟩ => pairTrees_nil_walk ?_)
  obtain ⟨kt, r, rfl, ht, hp, q3⟩ := q2
  cases (show u = Value.ref kt from rx)
  obtain ⟨z, hd, xs, rel, dd⟩ := dt_of I2.hok hp
  cases rel
  unfold storeAll
  simp only [List.forIn_cons, List.forIn_nil]
  refine wpAny_bind (wpAny_bind (wpAny_dictSet_heap (hsz := Nat.zero_le _) (knd := tupleKind (mixKind X.prog X.w)) hu (key_of I2.hok ht) dd fun h' dd' hs => wpAny_pure (wpAny_pure ⟨.ref s.heap.objs.size, _, ?_, rfl, q3⟩)))
  obtain ⟨o, es, ep, hq, h2, h3, h4, _, h5⟩ := dd'
  refine d_write I2 (by rw [hp]; exact True.intro) hs ⟨o, hq⟩ ⟨by show 1 ≤ sizeLine; decide, hd, _, ?_, o, es, ep, hq, h2, h3, h4, h5⟩
  refine .cons ⟨rfl, ?_, ry⟩ .nil
  show upd H2 s.heap.objs.size _ kt = _
  rw [upd_ne (ne_of ht hp (fun z => nomatch z))]
  exact ht
theorem hu1_of {A : Around} {k : Nat} (hr : Room k A) : A.units + 1 < cLine := by have := hr.units; omega
theorem hu0_of {A : Around} {k : Nat} (hr : Room k A) : A.units < cLine := by have := hr.units; omega
theorem pi_tupK (K : PySem.W.Frag) {X : Cx} {tg l : Expr} {tl : TE} (hl : PE X l tl) (e : X.K = K := by rfl) : PI X tg l (iTup K tl) := e ▸ pi_tup hl
theorem cut_from (xs : List V) (k : Nat) : cutV xs (some (k : Int)) none = xs.drop k := by
  unfold cutV
  rw [HT.sIx_nat, HT.sIx_none, List.take_of_length_le (by rw [List.length_drop]; omega)]
  by_cases h : k ≤ xs.length
  · rw [Nat.min_eq_left h]
  · rw [Nat.min_eq_right (by omega), List.drop_length, List.drop_of_length_le (by omega)]
end L2

/-! ### enumerate of a list, walked by a pair of names -/
namespace L2
open PySem PySem.Spec PyProof.Rows
def Ite (K : PySem.W.Frag) (a : Addr) : It :=
  ⟨fun i H => ∃ xs x, SqL K H a xs ∧ xs[i]? = some x,
   fun i H v H' => ∃ t x, v = .ref t ∧ H t = none ∧ H' = upd H t (.tup [.int i, x]) ∧ ∀ xs, SqL K H a xs → xs[i]? = some x,
   fun i H => ∃ xs, SqL K H a xs ∧ xs.length ≤ i⟩
theorem turn_enum {P : Program} {w : World} {K : PySem.W.Frag} {es : List Expr} {kk : Nat} {pos : Pos} {e it a : Addr} (ne : e ≠ it) (nea : a ≠ e) (nia : a ≠ it) :
    Turn P w K (.Tuple es kk pos) (Ite K a) [e, it] e (fun i h => (∃ old, IsEnum h e it i old) ∧ h.IsListIter it a i) where
  mem := .head _
  obj := fun i h st c hc => by
    obtain ⟨⟨old, y⟩, o1, e1, _, d1⟩ := st
    simp only [List.mem_cons, List.mem_nil_iff, or_false] at hc
    rcases hc with rfl | rfl
    · exact ⟨_, y, fun v q => nomatch q⟩
    · exact ⟨_, e1, fun v q => by rw [d1] at q; cases q⟩
  keep := fun i h h' st k => by
    obtain ⟨⟨old, y⟩, h1⟩ := st
    exact ⟨⟨old, k e (by simp) _ y⟩, h1.at fun o q => k it (by simp) o q⟩
  item := fun X eP eW eK hc i pins s σ H E I hf st go => by
    subst eP eW eK
    obtain ⟨⟨old, y⟩, h1⟩ := st
    obtain ⟨xs, x, hxs, hx⟩ := go
    obtain ⟨its, r1, p1, z1⟩ := I.list hxs
    obtain ⟨u, hu, ru⟩ := r1.get hx
    refine wpAny_pyNext_enum_item y h1 p1.isList (x := u) (by simpa using hu) ne fun h' a1 a2 a3 a4 hk => ⟨_, rfl, ?_⟩
    refine wpAny_letOwnedTupleGo_enum a1 fun h'' b1 hs => ?_
    have zT : s.heap.objs.size ≠ e := Nat.ne_of_gt (Heap.lt_size y)
    have kk : ∀ c o, c ∉ [e, it] → s.heap.get? c = some o → h''.get? c = some o := fun c o hc q => by
      simp only [List.mem_cons, List.mem_nil_iff, or_false, not_or] at hc
      exact hs.extBut c o hc.1 (hk c o hc.1 hc.2 q)
    refine ⟨.ref s.heap.objs.size, upd H s.heap.objs.size (.tup [.int i, x]), I.laidCh (t' := s.toks + 1) (ch := [e, it]) kk hf (Nat.le_refl _) ?_, rfl, ⟨_, x, rfl, I.fresh, rfl, fun zs hzs => ?_⟩, ⟨⟨_, b1⟩, a2.extBut hs.extBut ne.symm⟩, fun c hc => ?_⟩
    · exact ⟨by show 2 ≤ sizeLine; decide, [.int i s.toks, u], .cons ⟨_, rfl⟩ (.cons ru .nil), ⟨_, hs.extBut _ _ zT a3, rfl, _, rfl⟩⟩
    · rw [I.list_inj hzs hxs]; exact hx
    · rw [upd_ne]
      · exact (hf c hc).1
      · obtain ⟨o, q⟩ : ∃ o, s.heap.get? c = some o := by
          obtain ⟨o1, e1, _⟩ := h1
          simp only [List.mem_cons, List.mem_nil_iff, or_false] at hc
          rcases hc with rfl | rfl
          · exact ⟨_, y⟩
          · exact ⟨_, e1⟩
        exact Nat.ne_of_lt (Heap.lt_size q)
  done := fun X eP eW eK hc i pins s σ H E I hf st stop => by
    subst eP eW eK
    obtain ⟨⟨old, y⟩, h1⟩ := st
    obtain ⟨xs, hxs, hi⟩ := stop
    obtain ⟨its, r1, p1, z1⟩ := I.list hxs
    have l1 := r1.length
    obtain ⟨f0, f1, f2, f3, f4, f5⟩ := hf it (by simp)
    exact wpAny_pyNext_enum_end (I.ok.hd hc) y h1 p1.isList (Array.getElem?_eq_none (by simp; omega)) fun h' eb => ⟨rfl, I.turned (t' := s.toks) (fun b o hb q => eb b o hb q) f0 f1 f3 f4 f5⟩
  self := fun A i s Q E st h => by
    obtain ⟨⟨old, y⟩, _⟩ := st
    exact wpAny_pyIter_enum y h
def iEnum (K : PySem.W.Frag) (ta : TA) : TI := fun σ H R => ta σ H fun vs H1 => ∃ a, vs = [.ref a] ∧ (∃ xs, SqL K H1 a xs) ∧ R (Ite K a) H1
theorem pi_enumK (K : PySem.W.Frag) {X : Cx} {e1 : Expr} {ta : TA} {p pos pos' : Pos} {es : List Expr} {kk : Nat} (hg : Gl X "enumerate") (hm : X.mg "enumerate" = none) (ha : PA X [e1] ta) (eK : X.K = K := by rfl)
    (hs : starEach [e1] X.env = [(false, eval e1 X.env)] := by rfl) : PI X (.Tuple es kk pos') (.Call (.Name "enumerate" p) [e1] [] pos) (iEnum K ta) := by
  subst eK
  intro pins s σ H R I h
  refine Call_ (ld_blt I hg hm PyProof.Rows.Boot.«enumerate» (PyProof.Rows.callWith_type1 (thn (ha pos pins s σ H _ I h) fun us s1 ⟨vs, H1, I1, r1, q1⟩ => ?_) hs rfl))
  obtain ⟨a, rfl, ⟨xs, hxs⟩, q⟩ := q1
  obtain ⟨u, rfl, ru⟩ := vals1 r1
  cases (show u = Value.ref a from ru)
  obtain ⟨its, v1, p1, _⟩ := I1.list hxs
  have la : a < s1.heap.objs.size := by obtain ⟨o, n, e, _⟩ := p1; exact Heap.lt_size e
  refine call_enumerate_list p1.isList fun h' z1 z2 hsz hk => ?_
  refine wpAny_pyIter_enum z1 ⟨s1.heap.objs.size + 1, [s1.heap.objs.size + 1, s1.heap.objs.size], _, Ite X.K a, H1, rfl, I1.kept (t' := s1.toks) hk,
    turn_enum (Nat.ne_of_gt (Nat.lt_succ_self _)) (Nat.ne_of_lt (Nat.lt_succ_of_lt la)) (Nat.ne_of_lt la), ⟨⟨_, z1⟩, z2⟩, fun c hc => ?_, q⟩
  have hcl : s1.heap.objs.size ≤ c := by
    simp only [List.mem_cons, List.mem_nil_iff, or_false] at hc
    rcases hc with rfl | rfl
    · exact Nat.le_succ _
    · exact Nat.le_refl _
  exact I1.fpOk hcl (I1.hok.fresh hcl)
theorem for_enum {K : PySem.W.Frag} {a : Addr} {xs : List V} {g : TG} {tb : TS} {D : Ends} {σ : St} {H : Hp} (Pv : Nat → St → Hp → Prop) (h0 : Pv 0 σ H) (hl : ∀ i σ H, i ≤ xs.length → Pv i σ H → SqL K H a xs)
    (hs : ∀ i x t σ H, xs[i]? = some x → H t = none → Pv i σ H → g (.ref t) σ (upd H t (.tup [.int i, x])) fun σ2 H2 => tb { D with nx := Pv (i + 1), ct := Pv (i + 1), bk := D.nx } σ2 H2) (hd : ∀ σ H, Pv xs.length σ H → D.nx σ H) :
    ∃ W : Nat → Nat → St → Hp → Prop, (∃ m, W 0 m σ H) ∧ ∀ i m σ H, W i m σ H → ((Ite K a).stop i H ∧ D.nx σ H) ∨ ((Ite K a).go i H ∧ ∃ N : St → Hp → Prop, (∀ σ' H', N σ' H' → ∃ m', m' < m ∧ W (i + 1) m' σ' H') ∧
      ∀ x H', (Ite K a).yld i H x H' → g x σ H' fun σ2 H2 => tb { D with nx := N, ct := N, bk := D.nx } σ2 H2) := by
  refine ⟨fun i m σ H => Pv i σ H ∧ i ≤ xs.length ∧ m = xs.length - i, ⟨_, h0, Nat.zero_le _, rfl⟩, fun i m σ H ⟨p, hi, hm⟩ => ?_⟩
  have l1 := hl i σ H hi p
  by_cases e : i = xs.length
  · subst e
    exact .inl ⟨⟨xs, l1, Nat.le_refl _⟩, hd σ H p⟩
  · have lx : i < xs.length := by omega
    refine .inr ⟨⟨xs, xs[i], l1, List.getElem?_eq_getElem lx⟩, Pv (i + 1), fun σ' H' q => ⟨xs.length - (i + 1), by omega, q, by omega, rfl⟩, fun v H' hv => ?_⟩
    obtain ⟨t, x, rfl, ht, rfl, h1⟩ := hv
    exact hs i x t σ H (h1 xs l1) ht p
end L2

/-! EXTENSION V: sum of a list, list(reversed(..)) -/
namespace L2
open PySem PySem.Spec PyProof.Rows
section
variable {P : Program} {w : World} {A : Around} {E : Value → Shared → Prop} {s : Shared}
theorem raw_sumL {x : Addr} {items : Array Value} {val : Nat → Int} {Q : Value → Shared → Prop} (hh : A.handled = none) (ht : s.heap.IsList x items) (hl : x < s.heap.objs.size) (hv : ∀ (i : Nat) (v : Value), items[i]? = some v → ∃ t, v = Value.int (val i) t)
    (q : ∀ h' tk t, Kp s.heap h' → Q (.int (preSum val items.size) t) { s with heap := h', toks := tk }) : wpAny (model P w) A (call (.builtin "sum") [.ref x]) Q E s := by
  have ne : x ≠ s.heap.objs.size := Nat.ne_of_lt hl
  refine call_sum_walkAnyS (wpAny_pyIter_list ht ⟨s.heap.objs.size, _, _, _, _, _, _, val, rfl, (Walks.list (prog := P) (w := w) (A := A.in1) hh s.heap.objs.size x ne items).toS, ⟨⟨_, Heap.get?_push_size _ rfl, rfl, rfl⟩, ?_⟩, fun b hb => ?_, hv, fun s' t' hm => ?_⟩)
  · exact ht.at fun o e => Heap.get?_push_of_some _ e
  · rw [Heap.size_push]
    simp only [List.mem_cons, List.mem_nil_iff, or_false] at hb
    rcases hb with rfl | rfl
    · exact Nat.lt_succ_self _
    · exact Nat.lt_succ_of_lt hl
  · rw [Moved.eq_with hm]
    exact q _ _ _ fun b o e => hm.heap b o (fun z => absurd (Heap.lt_size e) (by rw [List.mem_singleton.mp z]; exact Nat.lt_irrefl _)) (Heap.get?_push_of_some _ e)
end
def rSumL (K : PySem.W.Frag) : List V → Hp → VK → Prop := fun xs H Q => ∃ (p : Addr) (ns : List Int), xs = [.ref p] ∧ SqL K H p (ns.map V.int) ∧ Q (.int ns.sum) H
theorem call_sumLK (K : PySem.W.Frag) {X : Cx} (hc : X.calm = true := by rfl) (e : X.K = K := by rfl) : CallR X (.builtin "sum") (rSumL K) := by
  subst e
  intro pins s σ H xs us Q I r h
  obtain ⟨p, ns, rfl, hl, q⟩ := h
  obtain ⟨u, rfl, ru⟩ := vals1 r
  cases (show u = Value.ref p from ru)
  obtain ⟨its, rv, pt, _⟩ := I.list hl
  have lp : p < s.heap.objs.size := by obtain ⟨o, n, e, _⟩ := pt; exact Heap.lt_size e
  have hlen := rv.length
  rw [List.length_map] at hlen
  refine raw_sumL (val := fun i => ns.getD i 0) (I.ok.hd hc) pt.isList lp (fun i v hv => vals_int_at rv i v (by simpa using hv)) fun h' tk t k => ⟨.int ns.sum, H, I.kept k, ⟨t, ?_⟩, q⟩
  rw [List.size_toArray, ← hlen, preSum_list]
  intro i n hn; simp [List.getD, hn]

/-! ### list(reversed(l)) -/
theorem nolen_rev : typeLookup (.type "list_reverseiterator") "__len__" = pure none := by
  rw [typeLookup_type, builtinLookup_eq_fast]; kernel_rfl
theorem hint_rev : typeLookup (.type "list_reverseiterator") "__length_hint__" = pure (some (.builtin "list_reverseiterator.__length_hint__")) := by
  rw [typeLookup_type, builtinLookup_eq_fast]; kernel_rfl
section
variable {P : Program} {w : World} {A : Around} {E : Value → Shared → Prop} {s : Shared}
theorem raw_extRev {R : Result → Shared → Prop} {I l S : Addr} {items : Array Value} (hh : A.handled = none) (y : s.heap.IsRevIter I l ((items.size : Int) - 1)) (hl : s.heap.IsList l items) (ne : l ≠ I) (nS : S ≠ I) (nl : S ≠ l) (res : Value) (c0 : Nat)
    (hS : s.heap.get? S = some { cls := .type "list", data := .seq #[] c0 }) (hn : items.size ≤ sizeLine)
    (q : ∀ h' tk acc c, (∀ b o, b ≠ S → b ≠ I → s.heap.get? b = some o → h'.get? b = some o) → h'.get? S = some { cls := .type "list", dict := none, data := .seq acc c, slots := #[] } → ItemsOf (fun i v => items[items.size - 1 - i]? = some v) acc items.size → R (.ok (.ret res)) { s with heap := h', toks := tk }) :
    wpAny (model P w) A.in1 (Builtin.List.listExtendWith (.ref S) (.ref I) res) (fun fin s' => match fin with | .done f => R (.ok f) s' | .again c' => c'.quiet = true ∧ codeAny (model P w) A c' R s') (fun e s' => R (.error e) s') s := by
  have ty := y.typeIs
  have W := (Walks.listRev (prog := P) (w := w) (A := A.in1) hh I l ne items).toS
  have hSf : S ∉ [I, l] := by simp only [List.mem_cons, List.mem_nil_iff, or_false, not_or]; exact ⟨nS, nl⟩
  unfold Builtin.List.listExtendWith
  refine wpAny_bind (wpAny_typeOf ty ?_)
  have e1 : Builtin.List.listSameRef (.ref S) (.ref I) = false := by simp [Builtin.List.listSameRef, nS]
  rw [if_neg (by rw [e1]; decide)]
  refine wpAny_bind (wpAny_pyIter_revIter y ?_)
  refine wpAny_bind (wpAny_holding ?_)
  unfold Builtin.List.listLengthHint
  refine wpAny_bind (wpAny_specialOf ty nolen_rev ?_)
  show wpAny _ A.in1 (specialOf (Value.ref I) (Str.ofString "__length_hint__") >>= _) _ _ _
  refine wpAny_bind (wpAny_specialOf ty hint_rev ?_)
  generalize hid : ("list_reverseiterator.__length_hint__" : String) = id0
  wp_delta
  rw [show splitId id0 = some ("list_reverseiterator", "__length_hint__") from by subst hid; decide +kernel]
  subst hid
  refine wpAny_bind (wpAny_isInstance (b := true) ty (by rw [isSubtype_type]; kernel_rfl) ?_)
  refine wpAny_pure ?_
  rw [if_neg (by decide)]
  refine wpAny_pure ⟨plainId_quiet F.plain_extend_loop _, codeAny_extend_loopS W hn S hSf res items.size 0 _ #[] c0 rfl (Nat.zero_le _) ⟨Nat.zero_le _, by simpa using y, hl⟩ hS (ItemsOf.nil _) fun s' acc c hm hS' hacc => ?_⟩
  rw [Moved.eq_with hm]
  refine q _ _ acc c (fun b o hb hi e => hm.heap b o (fun z => ?_) e) hS' hacc
  rcases List.mem_cons.mp z with z | z
  · exact hb z
  · exact hi (List.mem_singleton.mp z)
theorem raw_listRev {Q : Value → Shared → Prop} {I l : Addr} {items : Array Value} (hh : A.handled = none) (y : s.heap.IsRevIter I l ((items.size : Int) - 1)) (hl : s.heap.IsList l items) (ne : l ≠ I) (hn : items.size ≤ sizeLine)
    (q : ∀ h' tk acc c, (∀ b o, b ≠ I → s.heap.get? b = some o → h'.get? b = some o) → h'.get? s.heap.objs.size = some { cls := .type "list", dict := none, data := .seq acc c, slots := #[] } → ItemsOf (fun i v => items[items.size - 1 - i]? = some v) acc items.size → Q (.ref s.heap.objs.size) { s with heap := h', toks := tk }) :
    wpAny (model P w) A (call (.type "list") [.ref I]) Q E s := by
  have lI : I < s.heap.objs.size := by obtain ⟨o, e, _⟩ := y; exact Heap.lt_size e
  have ll : l < s.heap.objs.size := by obtain ⟨o, e, _⟩ := hl; exact Heap.lt_size e
  refine callType_codes (Q₁ := fun obj s1 => obj = .ref s.heap.objs.size ∧ s1 = { s with heap := s.heap.push { cls := .type "list", data := .seq #[] } }) F.called_list (F.typeCall_list_1 _) F.entry_list_init (code_list_new _ ⟨rfl, rfl⟩) fun obj s1 z => ?_
  obtain ⟨rfl, rfl⟩ := z
  have hS : (s.heap.push { cls := .type "list", data := .seq #[] }).get? s.heap.objs.size = some { cls := .type "list", data := .seq #[] } := Heap.get?_push_size _ rfl
  refine ⟨⟨_, hS, rfl⟩, F.args_list_init_2 _ _, ?_⟩
  show wpAny _ _ (do let old ← Builtin.List.listItems (.ref s.heap.objs.size); Builtin.List.listUpdate (.ref s.heap.objs.size) (fun _ => #[]); letGo old.toList.reverse; Builtin.List.listExtendWith (.ref s.heap.objs.size) (.ref I) .none) _ _ _
  refine wpAny_bind ?_
  unfold Builtin.List.listItems
  refine wpAny_bind (wpAny_seqItems hS rfl (wpAny_pure ?_))
  show wpAny _ _ (updateSeq s.heap.objs.size (fun _ => #[]) >>= fun _ => letGo (#[] : Array Value).toList.reverse >>= fun _ => Builtin.List.listExtendWith (.ref s.heap.objs.size) (.ref I) .none) _ _ _
  refine wpAny_bind (wpAny_updateSeq hS rfl ?_)
  have hS2 := Heap.get?_update_self (Obj.mapSeq (fun _ => (#[] : Array Value))) hS rfl
  have oth : ∀ b o, b ≠ s.heap.objs.size → s.heap.get? b = some o → ((s.heap.push { cls := .type "list", data := .seq #[] }).update s.heap.objs.size (Obj.mapSeq (fun _ => (#[] : Array Value)))).get? b = some o :=
    fun b o hb e => (Heap.get?_update_other _ _ (Ne.symm hb)).trans (Heap.get?_push_of_some _ e)
  refine wpAny_bind (wpAny_letGo ?_)
  refine raw_extRev (A := A.in1) (I := I) (l := l) (items := items) hh (y.at fun o e => oth I o (Nat.ne_of_lt lI) e) (hl.at fun o e => oth l o (Nat.ne_of_lt ll) e) ne (Nat.ne_of_gt lI) (Nat.ne_of_gt ll) .none _ hS2 hn fun h' tk acc c hk hS' hacc => ?_
  exact ⟨rfl, q h' tk acc c (fun b o hb e => hk b o (Nat.ne_of_lt (Heap.lt_size e)) hb (oth b o (Nat.ne_of_lt (Heap.lt_size e)) e)) hS' hacc⟩
end
theorem vals_of_at : ∀ {xs : List V} {us : List Value}, xs.length = us.length → (∀ (i : Nat) (x : V) (u : Value), xs[i]? = some x → us[i]? = some u → RelV x u) → Vals xs us
  | [], [], _, _ => .nil
  | [], _ :: _, h, _ => by simp at h
  | _ :: _, [], h, _ => by simp at h
  | x :: xs, u :: us, h, f => .cons (f 0 x u rfl rfl) (vals_of_at (by simpa using h) fun i y z h1 h2 => f (i + 1) y z (by simpa using h1) (by simpa using h2))
def tListRev (K : PySem.W.Frag) (te : TE) : TE := fun σ H Q => te σ H fun x H1 => ∃ (a : Addr) (ns : List Int), x = .ref a ∧ SqL K H1 a (ns.map V.int) ∧ ∀ l, H1 l = none → Q (.ref l) (upd H1 l (.lst (ns.reverse.map V.int)))
theorem pe_listRev (K : PySem.W.Frag) {X : Cx} {e : Expr} {te : TE} {p p2 pos pos2 : Pos} (hc : X.calm = true) (hg : Gl X "list") (hm : X.mg "list" = none) (hg2 : Gl X "reversed") (hm2 : X.mg "reversed" = none) (ha : PE X e te) (eK : X.K = K := by rfl)
    (hs : starEach [e] X.env = [(false, eval e X.env)] := by rfl)
    (hs2 : starEach [.Call (.Name "reversed" p2) [e] [] pos2] X.env = [(false, eval (.Call (.Name "reversed" p2) [e] [] pos2) X.env)] := by rfl) :
    PE X (.Call (.Name "list" p) [.Call (.Name "reversed" p2) [e] [] pos2] [] pos) (tListRev K te) := by
  subst eK
  intro pins s σ H Q I h
  refine Call_ (ld_blt I hg hm PyProof.Rows.Boot.«list» (PyProof.Rows.callWith_type1 ?_ hs2 rfl))
  rw [hs2]
  refine Calls.spliced_cons (Call_ (ld_blt I hg2 hm2 PyProof.Rows.Boot.«reversed» (PyProof.Rows.callWith_type1 ?_ hs rfl)))
  rw [hs]
  refine Calls.spliced_cons (thn (ha pins s σ H _ I h) fun u s1 ⟨x, H1, I1, r1, q1⟩ => Calls.spliced_nil ?_)
  obtain ⟨a, ns, rfl, hS, q⟩ := q1
  cases (show u = Value.ref a from r1)
  obtain ⟨its, rv, pl, hz⟩ := I1.list hS
  have hlen := rv.length
  have la : a < s1.heap.objs.size := by obtain ⟨o, n, e, _⟩ := pl; exact Heap.lt_size e
  refine call_reversed_list pl.isList (Calls.spliced_nil ?_)
  have y : (s1.heap.push (revObj a ((its.toArray.size : Int) - 1))).IsRevIter s1.heap.objs.size a ((its.toArray.size : Int) - 1) := ⟨_, Heap.get?_push_size _ rfl, rfl, rfl⟩
  refine raw_listRev (I.ok.hd hc) y (pl.isList.at fun o e => Heap.get?_push_of_some _ e) (Nat.ne_of_lt la) (by rw [List.size_toArray, ← hlen]; exact hz) fun h' tk acc c hk hS' hacc => ?_
  have I2 : Inv X pins σ H1 { s1 with heap := s1.heap.push (revObj a ((its.toArray.size : Int) - 1)) } := I1.kept (t' := s1.toks) fun b o e => Heap.get?_push_of_some _ e
  have hsz : (s1.heap.push (revObj a ((its.toArray.size : Int) - 1))).objs.size = s1.heap.objs.size + 1 := Heap.size_push ..
  have kk : ∀ b o, s1.heap.get? b = some o → h'.get? b = some o := fun b o e => hk b o (Nat.ne_of_lt (Heap.lt_size e)) (Heap.get?_push_of_some _ e)
  rw [hsz] at hS' ⊢
  refine ⟨.ref (s1.heap.objs.size + 1), _, I1.laid (a := s1.heap.objs.size + 1) (o := .lst (ns.reverse.map V.int)) (t' := tk) kk (Nat.le_succ _) ⟨?_, acc.toList, c, ?_, by simpa using hS'⟩, rfl, q _ (I1.hok.fresh (Nat.le_succ _))⟩
  · rw [List.length_map] at hz ⊢; rw [List.length_reverse]; exact hz
  · have hl2 : ns.length = its.length := by rw [List.length_map] at hlen; exact hlen
    obtain ⟨a1, a2⟩ := hacc
    have a3 : acc.size = its.length := a1.trans (by simp)
    refine vals_of_at (by simp [hl2, a3]) fun i x u h1 h2 => ?_
    obtain ⟨n, h3, rfl⟩ := ofGetI h1
    have li : i < ns.length := by have := (List.getElem?_eq_some_iff.mp h3).1; rw [List.length_reverse] at this; exact this
    rw [List.getElem?_reverse li] at h3
    have h4 : its[its.length - 1 - i]? = some u := by
      have h7 := a2 i u (by simpa using h2)
      simpa using h7
    rw [← hl2] at h4
    obtain ⟨u', h5, h6⟩ := rv.get (getI h3)
    rw [h4] at h5; cases h5; exact h6
end L2

/-! EXTENSION W: two lists of ints of one length compared by < and >= -/
namespace L2
open PySem PySem.Spec PyProof.Rows
section
open PySem.SeqAt
open PySem.AutoSeq1 (wpAny_loadPart')
open PySem.MeetsSeq PySem.MeetsSeq2 PySem.MeetsSeq3
theorem ints_at {vs : List Value} {ns : List Int} (h : IntsAre vs ns) : ∀ (i : Nat) (v : Value), vs[i]? = some v → ∃ t, v = Value.int (ns.getD i 0) t := by
  induction h with
  | nil => intro i v e; simp at e
  | cons a t _ ih =>
    intro i v e
    cases i with
    | zero => simp at e; subst e; exact ⟨t, rfl⟩
    | succ j => simpa using ih j v (by simpa using e)
theorem drop_getD {ns : List Int} {i : Nat} (h : i < ns.length) : ns.drop i = ns.getD i 0 :: ns.drop (i + 1) := by
  rw [List.drop_eq_getElem_cons h]
  simp [List.getD, List.getElem?_eq_getElem h]
theorem rcGe_int (A : Around) (s : Shared) (a : Int) (t : Tok) (c : Int) (u : Tok) (prog : Program) (w : World) (E : Value → Shared → Prop) (Q : Value → Shared → Prop) (h : Q (.bool (decide (c ≤ a))) s) :
    wpAny (model prog w) A (richCompare .GtE (.int a t) (.int c u)) Q E s :=
  (PyProof.Rows.ge_int h : wpAny (model prog w) A (compareOp .GtE (.int a t) (.int c u)) Q E s)
theorem lt_loop (l b : Addr) (items items2 : Array Value) (n n2 : Nat) (dd dd2 : Option Addr) (sl sl2 : Array (Option Value)) (ns ms : List Int) (hi : IntsAre items.toList ns) (hj : IntsAre items2.toList ms) (hsz : ns.length = ms.length) (k : Nat) :
    ∀ i : Nat, items.size - i = k → Meets (Builtin.«list.__eq__.loop» ⟨[.ref l, .ref b, rawInt i, rawInt 0], []⟩)
      (fun _ R s => s.heap.get? l = some { cls := .type "list", dict := dd, data := .seq items n, slots := sl } ∧ s.heap.get? b = some { cls := .type "list", dict := dd2, data := .seq items2 n2, slots := sl2 } ∧
        R (.ok (.ret (.bool (HT.lexLt (ns.drop i) (ms.drop i))))) s) := by
  have z1 : items.size = ns.length := by rw [← hi.length]; simp
  have z2 : items2.size = ms.length := by rw [← hj.length]; simp
  induction k with
  | zero =>
    intro i hk prog w A R s h
    obtain ⟨hp, g, d, tk, os⟩ := s; obtain ⟨hl, hb, h⟩ := h
    wp_walk using wpAny_loadPart' hl, wpAny_loadPart' hb
    have hi1 : items[((i : Nat) : Int).toNat]? = none := by simp; omega
    have hi2 : items2[((i : Nat) : Int).toNat]? = none := by simp; omega
    rw [List.drop_of_length_le (by omega), List.drop_of_length_le (by omega)] at h
    rw [hi1, hi2]
    wp_walk using wpAny_loadPart' hl, wpAny_loadPart' hb
    show R (.ok (.ret (.bool (decide (items.size < items2.size)))) ) _
    have hend : decide (items.size < items2.size) = HT.lexLt [] [] := by rw [z1, z2, hsz]; simp [HT.lexLt]
    rw [hend]; exact h
  | succ k ih =>
    intro i hk prog w A R s h
    obtain ⟨hp, g, d, tk, os⟩ := s; obtain ⟨hl, hb, h⟩ := h
    wp_walk using wpAny_loadPart' hl, wpAny_loadPart' hb
    have hlt : i < items.size := by omega
    have hlt2 : i < items2.size := by omega
    have hi1 : items[((i : Nat) : Int).toNat]? = some items[i] := by simp [hlt]
    have hi2 : items2[((i : Nat) : Int).toNat]? = some items2[i] := by simp [hlt2]
    obtain ⟨t, et⟩ : ∃ t, items[i] = Value.int (ns.getD i 0) t := ints_at hi i items[i] (by simp [hlt])
    obtain ⟨u, eu⟩ : ∃ t, items2[i] = Value.int (ms.getD i 0) t := ints_at hj i items2[i] (by simp [hlt2])
    have d1 : ns.drop i = ns.getD i 0 :: ns.drop (i + 1) := drop_getD (by omega)
    have d2 : ms.drop i = ms.getD i 0 :: ms.drop (i + 1) := drop_getD (by omega)
    have hc : ((i : Int) + 1) = ((i + 1 : Nat) : Int) := by omega
    rw [d1, d2] at h
    generalize ns.getD i 0 = a at *
    generalize ms.getD i 0 = c at *
    rw [hi1, hi2, et, eu]
    obtain ⟨e, he, hiff⟩ := HT.eqAt_int A.in1 ⟨hp, g, d, tk, os⟩ a t c u
    refine wpAny_bind (he prog w _ _ ?_)
    cases e with
    | true =>
      have hac := hiff.mp rfl
      have hv : HT.lexLt (a :: ns.drop (i + 1)) (c :: ms.drop (i + 1)) = HT.lexLt (ns.drop (i + 1)) (ms.drop (i + 1)) := by simp [HT.lexLt, hac]
      rw [hv] at h
      wp_walk
      rw [hc]
      exact ⟨plainId_quiet plain_eq_loop _, codeAny_builtin entry_eq_loop (by
        rw [Around.under_plainId plain_eq_loop _]
        exact ih (i + 1) (by omega) prog w A R _ ⟨hl, hb, h⟩)⟩
    | false =>
      have hac : ¬ a = c := fun q => absurd (hiff.mpr q) Bool.false_ne_true
      have hv : HT.lexLt (a :: ns.drop (i + 1)) (c :: ms.drop (i + 1)) = decide (a < c) := by simp [HT.lexLt, hac]
      rw [hv] at h
      wp_walk using wpAny_loadPart' hl, wpAny_loadPart' hb
      rw [hi1, hi2, et, eu]
      have hri := HT.rcLt_int A.in1 ⟨hp, g, d, tk, os⟩ a t c u prog w
      wp_walk using hri
      exact h
theorem list_lt (l b : Addr) (items items2 : Array Value) (n n2 : Nat) (dd dd2 : Option Addr) (sl sl2 : Array (Option Value)) (ns ms : List Int) (hi : IntsAre items.toList ns) (hj : IntsAre items2.toList ms) (hsz : ns.length = ms.length) :
    Meets (Builtin.«list.__lt__» ⟨[.ref l, .ref b], []⟩)
      (fun _ R s => s.heap.get? l = some { cls := .type "list", dict := dd, data := .seq items n, slots := sl } ∧ s.heap.get? b = some { cls := .type "list", dict := dd2, data := .seq items2 n2, slots := sl2 } ∧
        R (.ok (.ret (.bool (HT.lexLt ns ms)))) s) := by
  intro prog w A R s h
  obtain ⟨hp, g, d, tk, os⟩ := s; obtain ⟨hl, hb, h⟩ := h
  have f3 := AutoSeq1.sub_list_list
  wp_walk using wpAny_loadPart' hl, wpAny_loadPart' hb
  exact ⟨plainId_quiet plain_eq_loop _, codeAny_builtin entry_eq_loop (by
    rw [Around.under_plainId plain_eq_loop _]
    exact lt_loop l b items items2 n n2 dd dd2 sl sl2 ns ms hi hj hsz _ 0 rfl prog w A R _ ⟨hl, hb, by simpa using h⟩)⟩
def rLtL (K : PySem.W.Frag) : R2 := fun x y H Q => ∃ (a b : Addr) (ns ms : List Int), x = .ref a ∧ y = .ref b ∧ SqL K H a (ns.map V.int) ∧ SqL K H b (ms.map V.int) ∧ ns.length = ms.length ∧ Q (.bl (HT.lexLt ns ms)) H
theorem op_ltL (K : PySem.W.Frag) {X : Cx} (hu : X.A.units < cLine) (e : X.K = K := by rfl) : OpR X (compareOp .Lt) (rLtL K) := by
  subst e
  intro pins s σ H x y v u Q I rx ry h
  obtain ⟨a, b, ns, ms, rfl, rfl, h1, h2, hl, q⟩ := h
  cases (show v = Value.ref a from rx)
  cases (show u = Value.ref b from ry)
  obtain ⟨its, r1, p1, _⟩ := I.list h1
  obtain ⟨jts, r2, p2, _⟩ := I.list h2
  have i1 : IntsAre its ns := ints_of_vals r1
  have i2 : IntsAre jts ms := ints_of_vals r2
  obtain ⟨⟨cls, dd, data, sl⟩, ho, hc, n, hd⟩ := p1.isList
  obtain ⟨⟨cls2, dd2, data2, sl2⟩, ho2, hc2, n2, hd2⟩ := p2.isList
  simp only at hc hd hc2 hd2
  subst hc hd hc2 hd2
  exact richCompare_meets_room (op := .Lt) ⟨_, ho, rfl⟩ ⟨_, ho2, rfl⟩ PySem.F.slot_list_lt PySem.F.entry_list_lt (PySem.F.args_list_lt_2 _ _) (list_lt a b its.toArray jts.toArray n n2 dd dd2 sl sl2 ns ms (by simpa using i1) (by simpa using i2) hl)
    ⟨ho, ho2, show Value.bool (HT.lexLt ns ms) ≠ Value.notImplemented ∧ _ from ⟨(fun x => nomatch x), ⟨.bl (HT.lexLt ns ms), H, I, rfl, q⟩⟩⟩ hu
/-- not the lesser -/
def geI (ns ms : List Int) : Bool := !HT.lexLt ns ms
theorem ge_loop (l b : Addr) (items items2 : Array Value) (n n2 : Nat) (dd dd2 : Option Addr) (sl sl2 : Array (Option Value)) (ns ms : List Int) (hi : IntsAre items.toList ns) (hj : IntsAre items2.toList ms) (hsz : ns.length = ms.length) (k : Nat) :
    ∀ i : Nat, items.size - i = k → Meets (Builtin.«list.__eq__.loop» ⟨[.ref l, .ref b, rawInt i, rawInt 5], []⟩)
      (fun _ R s => s.heap.get? l = some { cls := .type "list", dict := dd, data := .seq items n, slots := sl } ∧ s.heap.get? b = some { cls := .type "list", dict := dd2, data := .seq items2 n2, slots := sl2 } ∧
        R (.ok (.ret (.bool (geI (ns.drop i) (ms.drop i))))) s) := by
  have z1 : items.size = ns.length := by rw [← hi.length]; simp
  have z2 : items2.size = ms.length := by rw [← hj.length]; simp
  induction k with
  | zero =>
    intro i hk prog w A R s h
    obtain ⟨hp, g, d, tk, os⟩ := s; obtain ⟨hl, hb, h⟩ := h
    wp_walk using wpAny_loadPart' hl, wpAny_loadPart' hb
    have hi1 : items[((i : Nat) : Int).toNat]? = none := by simp; omega
    have hi2 : items2[((i : Nat) : Int).toNat]? = none := by simp; omega
    rw [List.drop_of_length_le (by omega), List.drop_of_length_le (by omega)] at h
    rw [hi1, hi2]
    wp_walk using wpAny_loadPart' hl, wpAny_loadPart' hb
    show R (.ok (.ret (.bool (decide (items.size ≥ items2.size)))) ) _
    have hend : decide (items.size ≥ items2.size) = geI [] [] := by rw [z1, z2, hsz]; simp [geI, HT.lexLt]
    rw [hend]; exact h
  | succ k ih =>
    intro i hk prog w A R s h
    obtain ⟨hp, g, d, tk, os⟩ := s; obtain ⟨hl, hb, h⟩ := h
    wp_walk using wpAny_loadPart' hl, wpAny_loadPart' hb
    have hlt : i < items.size := by omega
    have hlt2 : i < items2.size := by omega
    have hi1 : items[((i : Nat) : Int).toNat]? = some items[i] := by simp [hlt]
    have hi2 : items2[((i : Nat) : Int).toNat]? = some items2[i] := by simp [hlt2]
    obtain ⟨t, et⟩ : ∃ t, items[i] = Value.int (ns.getD i 0) t := ints_at hi i items[i] (by simp [hlt])
    obtain ⟨u, eu⟩ : ∃ t, items2[i] = Value.int (ms.getD i 0) t := ints_at hj i items2[i] (by simp [hlt2])
    have d1 : ns.drop i = ns.getD i 0 :: ns.drop (i + 1) := drop_getD (by omega)
    have d2 : ms.drop i = ms.getD i 0 :: ms.drop (i + 1) := drop_getD (by omega)
    have hc : ((i : Int) + 1) = ((i + 1 : Nat) : Int) := by omega
    rw [d1, d2] at h
    generalize ns.getD i 0 = a at *
    generalize ms.getD i 0 = c at *
    rw [hi1, hi2, et, eu]
    obtain ⟨e, he, hiff⟩ := HT.eqAt_int A.in1 ⟨hp, g, d, tk, os⟩ a t c u
    refine wpAny_bind (he prog w _ _ ?_)
    cases e with
    | true =>
      have hac := hiff.mp rfl
      have hv : geI (a :: ns.drop (i + 1)) (c :: ms.drop (i + 1)) = geI (ns.drop (i + 1)) (ms.drop (i + 1)) := by simp [geI, HT.lexLt, hac]
      rw [hv] at h
      wp_walk
      rw [hc]
      exact ⟨plainId_quiet plain_eq_loop _, codeAny_builtin entry_eq_loop (by
        rw [Around.under_plainId plain_eq_loop _]
        exact ih (i + 1) (by omega) prog w A R _ ⟨hl, hb, h⟩)⟩
    | false =>
      have hac : ¬ a = c := fun q => absurd (hiff.mpr q) Bool.false_ne_true
      have hv : geI (a :: ns.drop (i + 1)) (c :: ms.drop (i + 1)) = decide (c ≤ a) := by (unfold geI; rw [HT.lexLt_cons, if_neg hac]; by_cases q : a < c; (rw [decide_eq_true q, decide_eq_false (by omega)]; rfl); (rw [decide_eq_false q, decide_eq_true (by omega)]; rfl))
      rw [hv] at h
      wp_walk using wpAny_loadPart' hl, wpAny_loadPart' hb
      rw [hi1, hi2, et, eu]
      have hri := rcGe_int A.in1 ⟨hp, g, d, tk, os⟩ a t c u prog w
      wp_walk using hri
      exact h
theorem list_ge (l b : Addr) (items items2 : Array Value) (n n2 : Nat) (dd dd2 : Option Addr) (sl sl2 : Array (Option Value)) (ns ms : List Int) (hi : IntsAre items.toList ns) (hj : IntsAre items2.toList ms) (hsz : ns.length = ms.length) :
    Meets (Builtin.«list.__ge__» ⟨[.ref l, .ref b], []⟩)
      (fun _ R s => s.heap.get? l = some { cls := .type "list", dict := dd, data := .seq items n, slots := sl } ∧ s.heap.get? b = some { cls := .type "list", dict := dd2, data := .seq items2 n2, slots := sl2 } ∧
        R (.ok (.ret (.bool (geI ns ms)))) s) := by
  intro prog w A R s h
  obtain ⟨hp, g, d, tk, os⟩ := s; obtain ⟨hl, hb, h⟩ := h
  have f3 := AutoSeq1.sub_list_list
  wp_walk using wpAny_loadPart' hl, wpAny_loadPart' hb
  exact ⟨plainId_quiet plain_eq_loop _, codeAny_builtin entry_eq_loop (by
    rw [Around.under_plainId plain_eq_loop _]
    exact ge_loop l b items items2 n n2 dd dd2 sl sl2 ns ms hi hj hsz _ 0 rfl prog w A R _ ⟨hl, hb, by simpa using h⟩)⟩
def rGeL (K : PySem.W.Frag) : R2 := fun x y H Q => ∃ (a b : Addr) (ns ms : List Int), x = .ref a ∧ y = .ref b ∧ SqL K H a (ns.map V.int) ∧ SqL K H b (ms.map V.int) ∧ ns.length = ms.length ∧ Q (.bl (geI ns ms)) H
theorem op_geL (K : PySem.W.Frag) {X : Cx} (hu : X.A.units < cLine) (e : X.K = K := by rfl) : OpR X (compareOp .GtE) (rGeL K) := by
  subst e
  intro pins s σ H x y v u Q I rx ry h
  obtain ⟨a, b, ns, ms, rfl, rfl, h1, h2, hl, q⟩ := h
  cases (show v = Value.ref a from rx)
  cases (show u = Value.ref b from ry)
  obtain ⟨its, r1, p1, _⟩ := I.list h1
  obtain ⟨jts, r2, p2, _⟩ := I.list h2
  have i1 : IntsAre its ns := ints_of_vals r1
  have i2 : IntsAre jts ms := ints_of_vals r2
  obtain ⟨⟨cls, dd, data, sl⟩, ho, hc, n, hd⟩ := p1.isList
  obtain ⟨⟨cls2, dd2, data2, sl2⟩, ho2, hc2, n2, hd2⟩ := p2.isList
  simp only at hc hd hc2 hd2
  subst hc hd hc2 hd2
  exact richCompare_meets_room (op := .GtE) ⟨_, ho, rfl⟩ ⟨_, ho2, rfl⟩ PySem.F.slot_list_ge PySem.F.entry_list_ge (PySem.F.args_list_ge_2 _ _) (list_ge a b its.toArray jts.toArray n n2 dd dd2 sl sl2 ns ms (by simpa using i1) (by simpa using i2) hl)
    ⟨ho, ho2, show Value.bool (geI ns ms) ≠ Value.notImplemented ∧ _ from ⟨(fun x => nomatch x), ⟨.bl (geI ns ms), H, I, rfl, q⟩⟩⟩ hu
end
end L2

/-! EXTENSION X: own exceptions: raised, passed on, caught by a name of their own or of one above -/
namespace L2
open PySem PySem.Spec PyProof.Rows

abbrev bmVE : List Value := [.type "ValueError", .type "Exception", .type "BaseException", .type "object"]
/-- an own error class beneath ValueError -/
def ExcC (K : PySem.W.Frag) (C : Addr) : Prop := PySem.W.excIn K C bmVE "ValueError.__new__" = true
theorem ExcC.obj {K : PySem.W.Frag} {h : Heap} {C : Addr} (q : ExcC K C) (X : K.In h) : ∃ bm N nm q bs hdct sn sub ab col dd k0 k1 k2 k3 k5 mN,
    h.get? C = some (excClassObj nm q C N bs bm hdct sn sub ab col dd k0 k1 k2 k3 k5 "ValueError.__new__") ∧ h.Ns N mN ∧ mN "__init__" = none ∧ OwnTail h bmVE bm := by
  have q' : PySem.W.excIn K C bmVE "ValueError.__new__" = true := q
  unfold PySem.W.excIn at q'
  split at q'
  · rename_i dd cd sl ho
    split at q'
    · rename_i C' bm k0 k1 k2 k3 n k5 hm hs
      simp only [Bool.and_eq_true, beq_iff_eq, Bool.not_eq_true'] at q'
      obtain ⟨⟨⟨⟨⟨e1, e2⟩, hdel⟩, ht⟩, hok⟩, hni⟩ := q'
      subst e1 e2
      obtain ⟨nm, bs, mro, ns, qn, hd, sn, sub, ab, col, del⟩ := cd
      dsimp only at hm hdel hok hni
      subst hm hdel
      have hsl : sl = #[k0, k1, k2, k3, some (.builtin "ValueError.__new__"), k5] := by
        obtain ⟨l⟩ := sl
        simp only at hs
        rw [hs]
      subst hsl
      exact ⟨bm, ns, nm, qn, bs, hd, sn, sub, ab, col, dd, k0, k1, k2, k3, k5, _, X _ _ ho, .of_isNs (PySem.W.isNs_of_in X hok), PySem.W.nsMap_none_of_in X hok hni, PySem.W.tail_of_in X ht⟩
    · cases q'
  · cases q'

/-! ### the heap while an exception flies -/
theorem ObjOk.obj {P : Program} {w : World} {H : Hp} {h : Heap} {a : Addr} {o : HO} (x : ObjOk P w H h a o) : ∃ ob, h.get? a = some ob := by
  cases o with
  | lst xs => obtain ⟨_, _, _, _, e⟩ := x; exact ⟨_, e⟩
  | tup xs => obtain ⟨_, _, _, e⟩ := x; obtain ⟨ob, e, _⟩ := e; exact ⟨_, e⟩
  | dK kvs => obtain ⟨_, _, _, _, e⟩ := x; obtain ⟨ob, _, _, e, _⟩ := e; exact ⟨_, e⟩
  | dT kvs => obtain ⟨_, _, _, _, ob, _, _, e, _⟩ := x; exact ⟨_, e⟩
  | set S n => obtain ⟨o, _, _, _, e, _⟩ := x; exact ⟨_, e⟩
  | ins C dx fs => obtain ⟨_, _, _, e, _⟩ := x; exact ⟨_, e⟩
  | own _ => exact x
  | xd fs => obtain ⟨_, ⟨_, _, _, e, _⟩, _⟩ := x; exact ⟨_, e⟩
  | rng lo hi => obtain ⟨_, _, _, e⟩ := x; exact ⟨_, e⟩
  | frz ob u => obtain ⟨e, _⟩ := x; exact ⟨_, e⟩
  | tbl ps => exact ⟨_, x⟩
  | met f y => exact ⟨_, x⟩
  | ext φ => exact x.2.1

theorem fly_step {P : Program} {w : World} {fs : List Addr} {H H1 : Hp} {h h1 h2 B : Heap} (U : Un fs [] H H1 h h1) (ok : HOk P w H1 h1) (tB : ∀ b u, H1 b = some u → ∃ o, B.get? b = some o)
    (oB : ∀ b o, h.get? b = some o → b ∉ fs → ∃ o', B.get? b = some o') (st1 : ∀ b o, B.get? b = some o → h1.get? b = some o) (st2 : ∀ b o, B.get? b = some o → h2.get? b = some o) (up : h1.UpToSlots h2)
    (ff : ∀ b ∈ fs, ∃ o, h.get? b = some o ∧ H b = none ∧ ∀ vs, o.data ≠ .fields vs) : Un fs [] H H1 h h2 ∧ HOk P w H1 h2 := by
  have inB : ∀ b o, h1.get? b = some o → (∃ o', B.get? b = some o') → h2.get? b = some o := fun b o e ⟨o', q⟩ => by
    have z := st1 b o' q
    rw [e] at z; cases z
    exact st2 b o q
  have nx : ∀ b, b ∉ ([] : List Addr) := fun b hb => nomatch hb
  have slotF : ∀ b ∈ fs, ∀ o, h.get? b = some o → ∃ sl, h2.get? b = some { o with slots := sl } := fun b hb o e => by
    obtain ⟨o', e', hn, hd⟩ := ff b hb
    rw [e] at e'; cases e'
    obtain ⟨sl, q⟩ := U.slot b o e hn hb (nx b)
    obtain ⟨sl2, q2⟩ := up b _ q hd
    exact ⟨sl2, q2⟩
  refine ⟨⟨fun b o e hn hb hx => inB b o (U.keep b o e hn hb hx) (oB b o e hb), fun b o e _ hb _ => slotF b hb o e, U.free, fun b o e hx => ?_, U.tups, U.frzs, U.tbls⟩, fun b u e => ?_⟩
  · by_cases hb : b ∈ fs
    · obtain ⟨sl, q⟩ := slotF b hb o e
      exact ⟨_, q⟩
    · obtain ⟨o', q⟩ := U.there b o e hx
      exact ⟨o', inB b o' q (oB b o e hb)⟩
  · refine (ok b u e).stay (fun c v hc q => inB c v q ?_) (fun c hc => hc) fun c xs hc => hc
    rcases hc with rfl | hc
    · exact tB _ _ e
    · exact tB _ _ hc

section
variable {P : Program} {w : World} {K : PySem.W.Frag} {mg : Str → Option Value} {base : Heap} {N : List Str} {qual : Str} {scope : Scope} {f : Addr} {cd : Value} {A : Around} {outer : List Env} {s0 : Shared} {H0 : Hp} {E : XK}
/-- from a state of the body in which an exception flies: it lies behind the call -/
theorem cxe_of {pins : List (Addr × Obj)} {σ : St} {H1 : Hp} {s1 : Shared} {h2 B : Heap} {e : Addr} {cls a0 : Value} (I : Inv (cxOf (CXE P w) P w K mg base N qual scope f cd A outer s0 H0 E) pins σ H1 s1)
    (tB : ∀ b u, H1 b = some u → ∃ o, B.get? b = some o) (oB : ∀ b o, s0.heap.get? b = some o → b ∉ frs outer → ∃ o', B.get? b = some o') (st1 : ∀ b o, B.get? b = some o → s1.heap.get? b = some o)
    (up : s1.heap.UpToSlots h2) (he : H1 e = none) (fl : Heap.FlyingW B outer e cls a0 h2) (q : E cls none H1) : CXE P w outer H0 s0 E (.ref e) { s1 with heap := h2 } := by
  have ff : ∀ b ∈ frs outer, ∃ o, s0.heap.get? b = some o ∧ H0 b = none ∧ ∀ vs, o.data ≠ .fields vs := fun b hb => by
    have z := Heap.FunFrames.mem I.ok.funs (b := b) hb
    obtain ⟨o, e1, e2⟩ := z.2
    exact ⟨o, e1, I.ok.frf b hb, e2⟩
  obtain ⟨U, ok⟩ := fly_step (h2 := h2) I.base I.hok tB oB st1 fl.1 up ff
  exact ⟨e, cls, a0, B, H1, rfl, I.os, I.bare, U, ok, he, tB, oB, fl, q⟩

/-- an exception of a callee goes on to the caller -/
theorem passE {E' : XK} (h : ∀ c d H', E' c d H' → E c d H') : Passes (CXE P w) (cxOf (CXE P w) P w K mg base N qual scope f cd A outer s0 H0 E) E' := by
  intro pins σ H s e s' I hx
  obtain ⟨a, cls, a0, B, H', rfl, os, bare, U, ok, ha, tB, oB, fl, q⟩ := hx
  have I' : Inv (cxOf (CXE P w) P w K mg base N qual scope f cd A outer s0 H0 E) pins σ H' s' := I.call' (ch := []) os U ok bare fun b hb => nomatch hb
  show wpAny _ _ (leaving _ (.ref a)) _ _ s'
  refine wpAny_leaves_onW I.ok.frames rfl fl fun h2 fl2 up => ?_
  have nin : ∀ b o, s0.heap.get? b = some o → b ∉ frs outer → b ∉ frs (cxOf (CXE P w) P w K mg base N qual scope f cd A outer s0 H0 E).stack := fun b o e1 e2 e3 => by
    rcases List.mem_cons.mp (I.stkSub b e3) with z | z
    · exact absurd (z ▸ Heap.lt_size e1) (Nat.not_lt.mpr I.ok.above)
    · exact e2 z
  refine cxe_of I' tB (fun b o e1 e2 => ?_) fl.1 up ha fl2 (h _ _ _ q)
  obtain ⟨o', e3⟩ := I.base.there b o e1 (fun z => nomatch z)
  exact oB b o' e3 (nin b o e1 e2)

/-- raise C(e, ..) -/
def tRaise (C : Addr) (E : XK) (ta : TA) : TS := fun _ σ H => ta σ H fun vs H1 => vs.length ≤ sizeLine ∧ E (.ref C) none H1
theorem ps_raise {C : Addr} {x : Str} {np cpos pos : Pos} {e : Expr} {es : List Expr} {ta : TA} (q : ExcC K C) (hg : Gl (cxOf (CXE P w) P w K mg base N qual scope f cd A outer s0 H0 E) x) (hm : mg x = some (.ref C))
    (ha : PA (cxOf (CXE P w) P w K mg base N qual scope f cd A outer s0 H0 E) (e :: es) ta) (hdb : (x == ("__debug__" : Str)) = false := by decide)
    (he : starEach (e :: es) (cxOf (CXE P w) P w K mg base N qual scope f cd A outer s0 H0 E).env = (false, eval e (cxOf (CXE P w) P w K mg base N qual scope f cd A outer s0 H0 E).env) :: starEach es (cxOf (CXE P w) P w K mg base N qual scope f cd A outer s0 H0 E).env := by rfl)
    (hpl : (backTo cpos (starEach es (cxOf (CXE P w) P w K mg base N qual scope f cd A outer s0 H0 E).env)).any (·.1) = false := by rfl) :
    PS (cxOf (CXE P w) P w K mg base N qual scope f cd A outer s0 H0 E) (.Raise (some (.Call (.Name x np) (e :: es) [] cpos)) none pos) (tRaise C E ta) := by
  intro pins s σ H D I h
  obtain ⟨bm, Nn, nm, qq, bs, hdct, sn, sub, ab, col, dd, k0, k1, k2, k3, k5, mN, hC, hN, hni, T⟩ := q.obj I.mod.kin
  refine wpAny_Raise_call_subT (nm := nm) (q := qq) (N := Nn) (bs := bs) (bm := bm) (hdct := hdct) (sn := sn) (sub := sub) (ab := ab) (col := col) (dd := dd) (k0 := k0) (k1 := k1) (k2 := k2) (k3 := k3) (k5 := k5)
    PySem.F.excBase_ValueError (mN := mN) (T.hasType PySem.F.excBase_ValueError.hasBase) (I.ok.hd rfl) ?_ hni (ld_glob I hg hm ⟨rfl, ?_⟩ hdb)
  · rw [he]
    show (false || (backTo cpos (starEach es _)).any (·.1)) = false
    rw [hpl]; rfl
  · have hh := ha cpos pins s σ H _ I h
    rw [he] at hh ⊢
    refine Calls.evalArgs_plain (wpAny_mono hh (fun us s1 h1 => ?_) fun _ _ y => y)
    obtain ⟨vs, H1, I1, r1, hl, qE⟩ := h1
    refine ⟨rfl, by rw [← r1.length]; exact hl, I1.bk _ _ hC, hN.keeps I1.bk, T.keeps I1.bk, fun h' e' hx => ?_⟩
    show wpAny _ _ (leaving _ (.ref e')) _ _ { s1 with heap := h' }
    have hin : ∀ env ∈ (cxOf (CXE P w) P w K mg base N qual scope f cd A outer s0 H0 E).stack, ∀ b, env.frame = some b → b ∈ frs (cxOf (CXE P w) P w K mg base N qual scope f cd A outer s0 H0 E).stack := fun env henv b hb => List.mem_filterMap.mpr ⟨env, henv, hb⟩
    have gB : ∀ b o, s1.heap.get? b = some o → b ∉ frs (cxOf (CXE P w) P w K mg base N qual scope f cd A outer s0 H0 E).stack → (PySem.W.hideAll s1.heap (frs (cxOf (CXE P w) P w K mg base N qual scope f cd A outer s0 H0 E).stack)).get? b = some o := fun b o e1 e2 => PySem.W.hideAll_get _ e1 e2
    refine wpAny_leaves_madeW I1.ok.frames rfl (fun b o e1 => PySem.W.of_hideAll _ e1) (PySem.W.funFrames_hide I1.stack hin) hx fun h2 t fl _ _ up => ?_
    have hn : H1 e' = none := by
      cases z : H1 e' with
      | none => rfl
      | some u =>
        obtain ⟨ob, z2⟩ := (I1.hok e' u z).obj
        rw [hx.new] at z2; cases z2
    have tB : ∀ b u, H1 b = some u → ∃ o, (PySem.W.hideAll s1.heap (frs (cxOf (CXE P w) P w K mg base N qual scope f cd A outer s0 H0 E).stack)).get? b = some o := fun b u z => by
      obtain ⟨ob, z2⟩ := (I1.hok b u z).obj
      exact ⟨ob, gB b ob z2 fun z3 => by rw [I1.stkFree b z3] at z; cases z⟩
    have I2 : Inv (cxOf (CXE P w) P w K mg base N qual scope f cd A outer s0 H0 E) pins σ H1 { s1 with heap := h', toks := s1.toks } := I1.kept hx.keeps
    refine cxe_of I2 tB (fun b o e1 e2 => ?_) (fun b o e1 => hx.keeps b o (PySem.W.of_hideAll _ e1)) up hn fl qE
    obtain ⟨o', e3⟩ := I1.base.there b o e1 (fun z => nomatch z)
    refine ⟨o', gB b o' e3 fun z => ?_⟩
    rcases List.mem_cons.mp (I1.stkSub b z) with z | z
    · exact absurd (z ▸ Heap.lt_size e1) (Nat.not_lt.mpr I1.ok.above)
    · exact e2 z
end
end L2

/-! EXTENSION Y: try with one except .. as -/
namespace L2
open PySem PySem.Spec PyProof.Rows

section
variable {X : Cx} {pins : List (Addr × Obj)} {σ : St} {H : Hp} {s : Shared}
/-- a local name goes -/
theorem Inv.gone {ie : Nat} {n : Str} {m : Str → Option Value} {v : Option Value} {h' : Heap} {t' : Nat} (I : Inv X pins σ H s) (hN : X.N.Nodup) (hi : X.N[ie]? = some n)
    (hl : ∀ (i : Nat) (x : Str) (v : V), X.N[i]? = some x → σ[i]? = some (some v) → Vis X.env.scope x → ∃ u, RelV v u ∧ Look X.env s.heap m x u) (hn : h'.Ns X.env.locals (fun x => if x = n then v else m x)) (hs : Heap.SameBut X.env.locals s.heap h') :
    Inv X pins (σ.set ie none) H { s with heap := h', toks := t' } := by
  have neL : ∀ b o, X.s₀.heap.get? b = some o → b ≠ X.env.locals := fun b o e => Nat.ne_of_lt (Nat.lt_of_lt_of_le (Heap.lt_size e) I.ok.above)
  have k : ∀ b o, b ≠ X.env.locals → s.heap.get? b = some o → h'.get? b = some o := fun b o hb e => hs.extBut b o hb e
  refine { ok := I.ok, os := I.os, bare := I.bare, base := ?_, loc := ⟨_, hn, fun i x w hx hσ hv => ?_⟩, cell := fun x c e => ?_, free := I.free, freeC := I.freeC, pin := fun p hp => ?_, hok := fun b u e => ?_, len := by rw [List.length_set]; exact I.len }
  · exact
      { keep := fun b o e h1 h2 h3 => k b o (neL b o e) (I.base.keep b o e h1 h2 h3)
        slot := fun b o e h1 h2 h3 => let ⟨sl, q⟩ := I.base.slot b o e h1 h2 h3; ⟨sl, k b _ (neL b o e) q⟩
        free := I.base.free
        there := fun b o e h1 => let ⟨o', q⟩ := I.base.there b o e h1; ⟨o', k b o' (neL b o e) q⟩
        tups := I.base.tups, frzs := I.base.frzs, tbls := I.base.tbls }
  · by_cases hii : i = ie
    · subst hii
      have hlt : i < σ.length := by
        have := (List.getElem?_eq_some_iff.mp hx).1
        rw [I.len]; exact this
      rw [List.getElem?_set_self hlt] at hσ
      cases hσ
    · rw [List.getElem?_set_ne (Ne.symm hii)] at hσ
      obtain ⟨u, ru, lk⟩ := hl i x w hx hσ hv
      have hxn : x ≠ n := fun e => hii (nodup_ix hN (e ▸ hx) hi)
      refine ⟨u, ru, ?_⟩
      rcases lk with ⟨a1, a2⟩ | ⟨a1, c, a2, a3⟩
      · exact .inl ⟨a1, by show (if x = n then v else m x) = some u; rw [if_neg hxn]; exact a2⟩
      · obtain ⟨o, e1, e2⟩ := a3
        exact .inr ⟨a1, c, a2, o, k c o (I.cne x c a2) e1, e2⟩
  · obtain ⟨w, o, e1, e2⟩ := I.cell x c e
    exact ⟨w, o, k c o (I.cne x c e) e1, e2⟩
  · obtain ⟨a1, a2, a3, a4, a5⟩ := I.pin p hp
    exact ⟨k _ _ a3 a1, a2, a3, a4, a5⟩
  · refine (I.hok b u e).stay (fun c w hc q => k c w ?_ q) (fun c hc => hc) fun c xs hc => hc
    rcases hc with rfl | hc
    · intro z; rw [z, I.free] at e; cases e
    · intro z; rw [z, I.free] at hc; cases hc
end

/-- the exception's object, known by its class -/
def exO (a C : Addr) : HO := .ext fun h => ∃ o vs, h.get? a = some o ∧ o.cls = .ref C ∧ o.data = .fields vs

def Cx.tr (X : Cx) (pn : List (Addr × Obj)) (E : XK) : Cx := { X with pn := pn, xe := fun e s' => ∃ pins σ H s, Inv { X with pn := pn } pins σ H s ∧ CXE X.prog X.w X.stack H s E e s' }
def Cx.hdl (X : Cx) (pn : List (Addr × Obj)) (a : Addr) : Cx := { X with pn := pn, A := X.A.mark (some (.ref a)), calm := false, xe := fun _ _ => False }
theorem Cx.Ok.pns {X : Cx} (ok : X.Ok) (pn : List (Addr × Obj)) : Cx.Ok { X with pn := pn } := ⟨ok.mod, ok.kind, ok.glob, ok.blt, ok.above, ok.inj, ok.has, ok.cab, ok.hd, ok.frames, ok.stk, ok.exf, ok.bs, ok.bsz, ok.noex, ok.exfs, ok.funs, ok.frf⟩
theorem Cx.Ok.unpn {X : Cx} {pn : List (Addr × Obj)} (ok : Cx.Ok { X with pn := pn }) : X.Ok := ⟨ok.mod, ok.kind, ok.glob, ok.blt, ok.above, ok.inj, ok.has, ok.cab, ok.hd, ok.frames, ok.stk, ok.exf, ok.bs, ok.bsz, ok.noex, ok.exfs, ok.funs, ok.frf⟩
theorem Cx.Ok.trr {X : Cx} (ok : X.Ok) (pn : List (Addr × Obj)) (E : XK) : (X.tr pn E).Ok := ⟨ok.mod, ok.kind, ok.glob, ok.blt, ok.above, ok.inj, ok.has, ok.cab, ok.hd, ok.frames, ok.stk, ok.exf, ok.bs, ok.bsz, ok.noex, ok.exfs, ok.funs, ok.frf⟩
theorem Cx.Ok.hdl {X : Cx} (ok : X.Ok) (pn : List (Addr × Obj)) (a : Addr) : (X.hdl pn a).Ok := ⟨ok.mod, ok.kind, ok.glob, ok.blt, ok.above, ok.inj, ok.has, ok.cab, (fun z => nomatch z), ok.frames, ok.stk, ok.exf, ok.bs, ok.bsz, ok.noex, ok.exfs, ok.funs, ok.frf⟩
section
variable {X : Cx} {pins pn : List (Addr × Obj)} {σ : St} {H : Hp} {s : Shared} {E : XK} {a : Addr}
theorem Inv.toTr (I : Inv X pins σ H s) : Inv (X.tr (X.pn ++ pins) E) [] σ H s :=
  ⟨I.ok.trr _ _, I.os, I.bare, I.base, I.loc, I.cell, I.free, I.freeC, fun p hp => I.pin p (by simpa [Cx.tr] using hp), I.hok, I.len⟩
theorem Inv.ofTr {pins' : List (Addr × Obj)} (ok : X.Ok) (I : Inv (X.tr (X.pn ++ pins) E) pins' σ H s) : Inv X pins σ H s :=
  ⟨ok, I.os, I.bare, I.base, I.loc, I.cell, I.free, I.freeC, fun p hp => I.pin p (List.mem_append_left _ hp), I.hok, I.len⟩
theorem Inv.trPn {pins' : List (Addr × Obj)} (I : Inv (X.tr pn E) pins' σ H s) (ok : X.Ok) : Inv { X with pn := pn } pins' σ H s :=
  ⟨ok.pns pn, I.os, I.bare, I.base, I.loc, I.cell, I.free, I.freeC, I.pin, I.hok, I.len⟩
theorem Inv.toHdl {pins' : List (Addr × Obj)} (ok : X.Ok) (I : Inv { X with pn := pn } pins' σ H s) : Inv (X.hdl pn a) pins' σ H s :=
  ⟨ok.hdl pn a, I.os, I.bare, I.base, I.loc, I.cell, I.free, I.freeC, I.pin, I.hok, I.len⟩
theorem Inv.ofHdl {pins' : List (Addr × Obj)} (ok : X.Ok) (I : Inv (X.hdl (X.pn ++ pins) a) pins' σ H s) : Inv X pins σ H s :=
  ⟨ok, I.os, I.bare, I.base, I.loc, I.cell, I.free, I.freeC, fun p hp => I.pin p (List.mem_append_left _ hp), I.hok, I.len⟩
theorem passT {E' : XK} (ok : ∀ {pins : List (Addr × Obj)} {σ : St} {H : Hp} {s : Shared}, Inv (X.tr pn E) pins σ H s → X.Ok) (h : ∀ c d H', E' c d H' → E c d H') : Passes (CXE X.prog X.w) (X.tr pn E) E' := by
  intro pins σ H s e s' I hx
  obtain ⟨a, cls, a0, B, H', rfl, os, bare, U, hok, ha, tB, oB, fl, q⟩ := hx
  exact ⟨pins, σ, H, s, I.trPn (ok I), a, cls, a0, B, H', rfl, os, bare, U, hok, ha, tB, oB, fl, h _ _ _ q⟩
theorem tr_ok {pins : List (Addr × Obj)} (I : Inv (X.tr pn E) pins σ H s) : X.Ok := ⟨I.ok.mod, I.ok.kind, I.ok.glob, I.ok.blt, I.ok.above, I.ok.inj, I.ok.has, I.ok.cab, I.ok.hd, I.ok.frames, I.ok.stk, I.ok.exf, I.ok.bs, I.ok.bsz, I.ok.noex, I.ok.exfs, I.ok.funs, I.ok.frf⟩
end

/-- e's class C' lies beneath C -/
theorem excMatches_own {K : PySem.W.Frag} {M : Model} {A : Around} {E : Value → Shared → Prop} {s : Shared} {e C C' : Addr} {oe : Obj} {Q : Bool → Shared → Prop} (X : K.In s.heap) (qC : ExcC K C) (he : s.heap.get? e = some oe) (hcls : oe.cls = .ref C')
    (m1 : PySem.W.mroIn K C (.type "BaseException") = some true) (m2 : PySem.W.mroIn K C' (.ref C) = some true) (hq : Q true s) : wpAny M A (excMatches (.ref e) (.ref C)) Q E s := by
  obtain ⟨h, g, d, t, os⟩ := s
  obtain ⟨bm, N, nm, qq, bs, hdct, sn, sub, ab, col, dd, k0, k1, k2, k3, k5, mN, hC, hN, hni, T⟩ := qC.obj X
  have L1 := PySem.W.looks_mroIn (M := M) X m1
  have L2 := PySem.W.looks_mroIn (M := M) X m2
  have f := tc_notTuple
  unfold excMatches
  repeat (first | (with_reducible refine wpAny_loadPart_at he ?_; rw [hcls]) | with_reducible refine wpAny_loadPart_at hC ?_ | with_reducible refine L1.at ?_ | with_reducible refine L2.at ?_ | wp_step)
  exact hq

/-- try: body / except x as n: suite. E: what is known of an exception that leaves the body; behind it the names are forgotten -/
def tTry (K : PySem.W.Frag) (C : Addr) (E : XK) (ie : Nat) (tb ts : TS) : TS := fun D σ H => tb D σ H ∧ ∀ cls d H', E cls d H' → ∃ C', cls = .ref C' ∧ PySem.W.mroIn K C' (.ref C) = some true ∧ ∀ a, H' a = none →
  ts { nx := fun σ2 H2 => D.nx (σ2.set ie none) H2, rt := D.rt, bk := fun σ2 H2 => D.bk (σ2.set ie none) H2, ct := fun σ2 H2 => D.ct (σ2.set ie none) H2 } ((List.replicate σ.length none).set ie (some (.ref a))) (upd H' a (exO a C'))
section
variable {X : Cx} {body : List Stmt} {x n : Str} {np hpos pos : Pos} {b0 : Stmt} {suite : List Stmt} {ie : Nat} {tb ts : TS} {E : XK} {C : Addr}
theorem ps_try (hst : X.stack = X.env :: X.outer) (hfr : X.env.frame = some X.env.locals) (hN : X.N.Nodup) (hi : X.N[ie]? = some n) (hn : X.env.scope.names.lookup n = some .local) (hg : Gl X x) (hm : X.mg x = some (.ref C))
    (qC : ExcC X.K C) (m1 : PySem.W.mroIn X.K C (.type "BaseException") = some true) (hb : ∀ pn, PSs (X.tr pn E) body tb) (hs : ∀ pn a, PSs (X.hdl pn a) (b0 :: suite) ts) (hdb : (x == ("__debug__" : Str)) = false := by decide) :
    PS X (.Try body [.ExceptHandler (some (.Name x np)) (some n) (b0 :: suite) hpos] [] [] pos) (tTry X.K C E ie tb ts) := by
  intro pins s σ H D I h
  obtain ⟨hbody, hexc⟩ := h
  have ok := I.ok
  refine wpAny_Try_except (wpAny_mono (hb (X.pn ++ pins) [] s σ H D I.toTr hbody) (fun f s1 q => ?_) fun e s1 q => ?_)
  · cases f with
    | next => obtain ⟨σ', H', I', q⟩ := q; exact wpAny_execs_nil ⟨σ', H', I'.ofTr ok, q⟩
    | brk => obtain ⟨σ', H', I', q⟩ := q; exact ⟨σ', H', I'.ofTr ok, q⟩
    | cont => obtain ⟨σ', H', I', q⟩ := q; exact ⟨σ', H', I'.ofTr ok, q⟩
    | ret v => obtain ⟨u, σ', H', I', r, q⟩ := q; exact ⟨u, σ', H', I'.ofTr ok, r, q⟩
  · obtain ⟨pins', σ', H', sc, Ic, a, cls, a0, B, H1, rfl, os, bare, U, hok, ha, tB, oB, fl, qE⟩ := q
    obtain ⟨C', rfl, m2, hts⟩ := hexc cls none H1 qE
    have ff : ∀ b ∈ frs X.stack, ∃ o, sc.heap.get? b = some o ∧ H' b = none ∧ ∀ vs, o.data ≠ .fields vs := fun b hb' => by
      have z := Heap.FunFrames.mem Ic.stack (b := b) hb'
      obtain ⟨o, e1, e2⟩ := z.2
      exact ⟨o, e1, Ic.stkFree b hb', e2⟩
    -- the state at any later heap of the flight, the exception tracked
    have mkI : ∀ h2 : Heap, Heap.FlyingW B X.stack a (.ref C') a0 h2 → s1.heap.UpToSlots h2 → Inv (X.hdl (X.pn ++ pins) a) pins' σ' (upd H1 a (exO a C')) { s1 with heap := h2 } := fun h2 fl2 up => by
      obtain ⟨U2, ok2⟩ := fly_step (h2 := h2) U hok tB oB fl.1 fl2.1 up ff
      obtain ⟨oe, vs, e1, e2, e3, _⟩ := fl2.first
      have hnew : ∀ o, sc.heap.get? a ≠ some o := fun o e => by
        by_cases hf : a ∈ frs X.stack
        · obtain ⟨o', e4, hn', hd⟩ := ff a hf
          obtain ⟨sl, e5⟩ := U2.slot a o' e4 hn' hf (fun z => nomatch z)
          rw [e1] at e5; cases e5
          exact hd vs e3
        · obtain ⟨o', e4⟩ := oB a o e hf
          rw [fl2.2.1] at e4; cases e4
      have lt : ∀ {b u}, H1 b = some u → b ≠ a := fun e z => by rw [z, ha] at e; cases e
      have U3 : Un (frs X.stack) [] H' (upd H1 a (exO a C')) sc.heap h2 :=
        { keep := U2.keep, slot := U2.slot
          free := fun b o e q hx => by rw [upd_ne (fun z => hnew o (by rw [← z]; exact e))]; exact U2.free b o e q hx
          there := U2.there
          tups := fun b xs e => by have z := U2.tups b xs e; rw [upd_ne (lt z)]; exact z
          frzs := fun b o u e => by have z := U2.frzs b o u e; rw [upd_ne (lt z)]; exact z
          tbls := fun b ps e => by obtain ⟨more, z⟩ := U2.tbls b ps e; exact ⟨more, by rw [upd_ne (lt z)]; exact z⟩ }
      have ok3 : HOk X.prog X.w (upd H1 a (exO a C')) h2 := fun b u e => by
        by_cases hb' : b = a
        · subst hb'
          rw [upd_same] at e; cases e
          exact ⟨⟨oe, vs, e1, e2, e3⟩, ⟨oe, e1⟩, fun g1 g2 ⟨o, ws, q1, q2, q3⟩ kk => ⟨o, ws, kk o q1, q2, q3⟩⟩
        · rw [upd_ne hb'] at e
          exact (ok2 b u e).stay (fun c v _ q => q) (fun c hc => by rw [upd_ne (lt hc)]; exact hc) fun c xs hc => by rw [upd_ne (lt hc)]; exact hc
      exact (Ic.call' (ch := []) (s' := { s1 with heap := h2 }) os U3 ok3 bare fun b hb' => nomatch hb').toHdl ok
    have fl' := fl
    rw [hst] at fl'
    refine wpAny_looks_onW (hst ▸ ok.frames) hfr fl' fun h4 held up4 => ?_
    refine wpAny_landsW held fun h5 fl5 up5 => ?_
    rw [← hst] at fl5
    have I5 := mkI h5 fl5 (up4.trans up5)
    obtain ⟨ob, hob, hobc⟩ := fl5.there
    refine wpAny_handleBy_cons (codeAny_handlers_test (ld_glob I5 hg hm ?_ hdb)) (by intro q; cases q)
    refine excMatches_own I5.kIn qC hob hobc m1 m2 (codeAny_handlers_suite_as ?_)
    refine lands_againW fl5 fun h6 fl6 up6 => ?_
    have I6 := mkI h6 fl6 ((up4.trans up5).trans up6)
    have I6' : Inv (X.hdl (X.pn ++ pins) a) pins' (List.replicate σ.length none) (upd H1 a (exO a C')) { s1 with heap := h6 } := I6.weak (by rw [List.length_replicate, I.len, I6.len]; rfl) fun i v e => by
      rcases List.getElem?_eq_some_iff.mp e with ⟨hlt, e⟩
      rw [List.getElem_replicate] at e; cases e
    refine store_ok (X := X.hdl (X.pn ++ pins) a) I6' hN hi (.inl hn) (v := .ref a) rfl (fun s7 I7 => ?_) (.inr hn)
    refine wpAny_mono (hs (X.pn ++ pins) a pins' s7 _ _ _ I7 (hts a ha)) (fun f s8 q8 => ?_) fun _ _ z => z.elim
    have fin : ∀ {σ2 : St} {H2 : Hp} {R : Shared → Prop}, Inv (X.hdl (X.pn ++ pins) a) pins' σ2 H2 s8 → (∀ s9, Inv X pins (σ2.set ie none) H2 s9 → R s9) →
        wpAny (model X.prog X.w) X.A (do bindName X.env n .none; unbindBehindTheSuite X.env n hpos) (fun _ s9 => R s9) X.xe s8 := fun {σ2 H2 R} I8 k => by
      have I9 := I8.ofHdl ok
      obtain ⟨m, hm', hl⟩ := I9.loc
      refine wpAny_nameGoes_keeps hn hm' (by rw [ok.kind]; rfl) fun h9 v hn9 hs9 => k _ (I9.gone hN hi hl hn9 hs9)
    cases f with
    | next => obtain ⟨σ2, H2, I8, q⟩ := q8; exact fin I8 fun s9 I9 => ⟨_, H2, I9, q⟩
    | brk => obtain ⟨σ2, H2, I8, q⟩ := q8; exact fin I8 fun s9 I9 => ⟨_, H2, I9, q⟩
    | cont => obtain ⟨σ2, H2, I8, q⟩ := q8; exact fin I8 fun s9 I9 => ⟨_, H2, I9, q⟩
    | ret v => obtain ⟨u, σ2, H2, I8, r, q⟩ := q8; exact fin I8 fun s9 I9 => ⟨u, _, H2, I9, r, q⟩
end
end L2

/-! EXTENSION Z: isinstance of an own exception; count and index of a list of bools -/
namespace L2
open PySem PySem.Spec PySem.Calls PyProof.Rows PySem.W PySem.Builtin.ObjectAttr PySem.Builtin PySem.Builtin.Getset_descriptor
section
variable {prog : Program} {w : World} {A : Around} {E : Value → Shared → Prop} {s : Shared} {K : Frag} {x D : Addr}
/-- the exception's object, whatever its dict -/
def XO (x D : Addr) (h : Heap) : Prop := ∃ o vs, h.get? x = some o ∧ o.cls = .ref D ∧ o.data = .fields vs
theorem XO.ty {M : Model} {h : Heap} (p : XO x D h) : Looks M h (typeOf (.ref x)) (.ref D) := by
  obtain ⟨o, vs, e1, e2, e3⟩ := p
  exact e2 ▸ (Looks.ld e1).andThen .now
theorem exc_find {M : Model} {h : Heap} {name : Str} {a g : Value} (X : K.In h) (ha : findIn K (.ref D) name = some (some a)) (hg : specialIn K a "__get__" = some (some g)) (ht : takesIn K a = some true) :
    Looks M h (find (.ref x) (.ref D) name) (.bind g a) := by
  have l1 := looks_findIn (M := M) X ha
  have l2 : Looks M h (getOf (some a)) (some g) := looks_specialIn X hg
  have l3 := looks_takesIn (M := M) X ht
  exact l1.andThen (l2.andThen ((show Looks M h (dataDescriptor? (some a) (some g)) (some (g, a)) from l3.andThen .now).andThen (Looks.tag .now)))
theorem exc_get {tp : Value} {R : Result → Shared → Prop} (X : K.In s.heap) (p : XO x D s.heap) (hm : mroIn K D (.type "object") = some true) (h : R (.ok (.ret (.ref D))) s) :
    codeAny (model prog w) A (.call (.builtin "getset_descriptor.__get__") ⟨[.builtin "object.__class__", .ref x, tp], []⟩) R s := by
  obtain ⟨hh, g, dr, t, os⟩ := s
  have L0 := p.ty (M := model prog w)
  have L1 := looks_mroIn (M := model prog w) X hm
  refine codeAny_call_builtin KF.slot_gs.plain KF.entry_gs (KF.slot_gs.check _ _ _ _ _ _ _ _ KF.type_class (KF.args_gs _ _ _) ?_)
  unfold Builtin.«getset_descriptor.__get__» descrGet
  rw [dga_obj]; refine wpAny_bind (wpAny_pure ?_)
  unfold descrGetter descrCheckInstance descrNameAndClass isInstance; simp only [KF.owner_class]
  repeat lk
  refine ⟨Code.quiet_builtin _ (by decide +kernel), codeAny_builtin KF.entry_class ?_⟩
  unfold Builtin.«object.__class__» shownTypeOf
  repeat lk
  exact h
theorem exc_check {nameV : Value} {Q : Unit → Shared → Prop} (X : K.In s.heap) (p : XO x D s.heap) (hmB : mroIn K D (.type "BaseException") = some true) (hq : Q () s) :
    wpAny (model prog w) A (checkBuiltinCall "BaseException.__getattribute__" ⟨[.ref x, nameV], []⟩) Q E s := by
  obtain ⟨hh, g, dr, t, os⟩ := s
  have hk : builtinKind "BaseException.__getattribute__" = some .slot := by decide +kernel
  have hsplit : splitId "BaseException.__getattribute__" = some ("BaseException", "__getattribute__") := by decide +kernel
  have L0 := p.ty (M := model prog w)
  have L1 := looks_mroIn (M := model prog w) X hmB
  have ha := F.args_bexc_ga (.ref x) nameV
  simp only [checkBuiltinCall, hk, hsplit]
  refine wpAny_bind ?_
  unfold isInstance
  repeat (any_goals (first | assumption | lk))
theorem exc_body {tk : Tok} {Q : Fin → Shared → Prop} (X : K.In s.heap) (p : XO x D s.heap) (ha : findIn K (.ref D) "__class__" = some (some (.builtin "object.__class__"))) (hg : specialIn K (.builtin "object.__class__") "__get__" = some (some (.builtin "getset_descriptor.__get__")))
    (ht : takesIn K (.builtin "object.__class__") = some true) (hm : mroIn K D (.type "object") = some true) (hq : Q (.done (.ret (.ref D))) s) :
    wpAny (model prog w) A (Builtin.«object.__getattribute__» ⟨[.ref x, .str "__class__" tk], []⟩) Q E s := by
  obtain ⟨hh, g, dr, t, os⟩ := s
  have L0 := p.ty (M := model prog w)
  have L1 := exc_find (M := model prog w) (x := x) X ha hg ht
  repeat (any_goals (first | assumption | with_reducible refine L0.at ?_ | with_reducible refine L1.at ?_ | wp_step))
  exact exc_get X p hm (wpAny_pure hq)
theorem exc_open {Q : Option Value → Shared → Prop} (X : K.In s.heap) (p : XO x D s.heap) (hga : findIn K (.ref D) "__getattribute__" = some (some (.builtin "BaseException.__getattribute__"))) (hgt : findIn K (.ref D) "__getattr__" = some none)
    (hmB : mroIn K D (.type "BaseException") = some true) (ha : findIn K (.ref D) "__class__" = some (some (.builtin "object.__class__"))) (hg : specialIn K (.builtin "object.__class__") "__get__" = some (some (.builtin "getset_descriptor.__get__")))
    (ht : takesIn K (.builtin "object.__class__") = some true) (hm : mroIn K D (.type "object") = some true) (k : Q (some (.ref D)) { s with toks := s.toks + 1 }) : wpAny (model prog w) A (getAttr? (.ref x) "__class__") Q E s := by
  obtain ⟨hh, g, dr, t, os⟩ := s
  have L0 := p.ty (M := model prog w)
  have L1 := looks_findIn (M := model prog w) X hga
  have L2 := looks_findIn (M := model prog w) X hgt
  have f3 := PySem.F.excAttr_ValueError.ga.bind (.ref x)
  have hx0 : (false && onTheHeap (Value.builtin "BaseException.__getattribute__")) = false := rfl
  have hx2 : (Value.builtin "BaseException.__getattribute__" == Value.builtin "object.__getattribute__") = false := by decide +kernel
  have hx1 : (onTheHeap (Value.ref D) && Value.builtin "BaseException.__getattribute__" == Value.builtin "object.__getattribute__") = false := by rw [hx2]; rfl
  unfold getAttr? getAttrBy?
  repeat (any_goals (first | assumption | with_reducible refine L0.at ?_ | with_reducible refine L1.at ?_ | with_reducible refine L2.at ?_ | wp_step))
  refine codeAny_call_builtin PySem.F.excAttr_ValueError.ga.plain F.entry_bexc_ga (exc_check X p hmB (exc_body X p ha hg ht hm ?_))
  exact handed_on rfl (wpAny_pure k)
/-- an own error class, as isinstance asks it -/
structure ExcI (K : Frag) (D : Addr) : Prop where
  ga : findIn K (.ref D) "__getattribute__" = some (some (.builtin "BaseException.__getattribute__"))
  gt : findIn K (.ref D) "__getattr__" = some none
  mB : mroIn K D (.type "BaseException") = some true
  hd : hasDictIn K D = true
  ha : findIn K (.ref D) "__class__" = some (some (.builtin "object.__class__"))
  hn : specialIn K (.builtin "object.__class__") "__get__" = some (some (.builtin "getset_descriptor.__get__"))
  tk : takesIn K (.builtin "object.__class__") = some true
  hm : mroIn K D (.type "object") = some true
theorem kitx_exc (q : ExcI K D) : KitX K (.ref x) (.ref D) (XO x D) where
  ty := fun _ _ _ p => p.ty
  it := fun _ _ X _ => by
    obtain ⟨cdD, hcD, _⟩ := any_some q.hd
    unfold clsIn at hcD
    split at hcD
    · rename_i c' d' cd' sl' ho
      intro A' Q' E' s' k z
      unfold isType loadHead
      exact wpAny_bind (wpAny_loadPart (k _ _ (X _ _ ho)) (wpAny_pure z))
    · cases hcD
  ne := fun h tp dd its n sl X htp => by
    obtain ⟨cdD, hcD, _⟩ := any_some q.hd
    refine Bool.eq_false_iff.mpr fun z => ?_
    have e : D = tp := Value.ref.inj (beq_iff_eq.mp z)
    subst e
    unfold clsIn at hcD
    split at hcD
    · rename_i c' d' cd' sl' ho
      have z2 := (X _ _ ho).symm.trans htp
      cases z2
    · cases hcD
  ca := fun {prog w A E Q s} X p k => exc_open X p q.ga q.gt q.mB q.ha q.hn q.tk q.hm k
end
def vC : V → Option Value
  | .ref a => some (.ref a)
  | .ty T => some (.type T)
  | _ => none
def rIsiE (K : PySem.W.Frag) : List V → Hp → VK → Prop := fun xs H Q => ∃ a C y c b, xs = [.ref a, y] ∧ vC y = some c ∧ H a = some (exO a C) ∧ ExcI K C ∧ PySem.W.kitOne K (.ref C) c = some b ∧ Q (.bl b) H
theorem call_isiE (K : PySem.W.Frag) {X : Cx} (e : X.K = K := by rfl) : CallR X (.builtin "isinstance") (rIsiE K) := by
  subst e
  intro pins s σ H xs us Q I r h
  obtain ⟨a, C, y, c, b, rfl, ey, ea, q, e, qq⟩ := h
  obtain ⟨u, w', rfl, ru, rw'⟩ := vals2 r
  cases (show u = Value.ref a from ru)
  obtain ⟨p, _⟩ := (show ObjOk X.prog X.w H s.heap a (.ext fun h => ∃ o vs, h.get? a = some o ∧ o.cls = .ref C ∧ o.data = .fields vs) from I.hok a _ ea)
  have ew : w' = c := by
    cases y with
    | ref d => cases ey; exact rw'
    | ty T => cases ey; exact rw'
    | non => cases ey
    | bl _ => cases ey
    | int _ => cases ey
    | str _ => cases ey
    | byt _ => cases ey
    | flt _ => cases ey
  subst ew
  exact PySem.W.kia_one (kitx_exc q) I.kIn p e (fun z => nomatch z) fun tk => ⟨.bl b, H, I.tok _, rfl, qq⟩

/-! ### count and index -/
def isBl (k : Bool) : Value → Bool
  | .bool b => b == k
  | _ => false
theorem vals_bools {bs : List Bool} {us : List Value} (r : Vals (bs.map V.bl) us) : us = bs.map Value.bool := by
  induction bs generalizing us with
  | nil => cases r; rfl
  | cons b q ih =>
    cases r with
    | cons h t => rw [ih t, show _ = Value.bool b from h]; rfl
def rCount (K : PySem.W.Frag) : V → List V → Hp → VK → Prop := fun x xs H Q => ∃ (a : Addr) (bs : List Bool) (k : Bool), x = .ref a ∧ xs = [.bl k] ∧ SqL K H a (bs.map V.bl) ∧ Q (.int (bs.countP (· == k) : Nat)) H
def rIndex (K : PySem.W.Frag) : V → List V → Hp → VK → Prop := fun x xs H Q => ∃ (a : Addr) (bs : List Bool) (k : Bool) (j : Nat), x = .ref a ∧ xs = [.bl k] ∧ SqL K H a (bs.map V.bl) ∧ bs[j]? = some k ∧ (∀ m, m < j → bs[m]? ≠ some k) ∧ j < 1000 ∧ Q (.int (j : Nat)) H
theorem eq_bl {A : Around} {s : Shared} (k : Bool) {bs : List Bool} (y : Value) (hy : y ∈ (bs.map Value.bool).toArray) : SeqAt.EqAt A s y (.bool k) (isBl k y) := by
  have hy' : y ∈ bs.map Value.bool := by simpa using hy
  obtain ⟨b, _, rfl⟩ := List.mem_map.mp hy'
  exact SeqAt.EqAt.bool_bool b k
theorem count_bl (k : Bool) : ∀ bs : List Bool, (bs.map Value.bool).countP (isBl k) = bs.countP (· == k)
  | [] => rfl
  | b :: q => by rw [List.map_cons, List.countP_cons, List.countP_cons, count_bl k q]; rfl
section
variable {X : Cx}
theorem mt_count (K : PySem.W.Frag) {X : Cx} (e : X.K = K := by rfl) : MtR X "list.count" (rCount K) := by
  subst e
  intro pins s σ H x xs v us Q I rx rxs h
  obtain ⟨a, bs, k, rfl, rfl, hS, q⟩ := h
  cases (show v = Value.ref a from rx)
  obtain ⟨u, rfl, ru⟩ := vals1 rxs
  cases (show u = Value.bool k from ru)
  obtain ⟨its, r, pl, _⟩ := I.list hS
  have hi := vals_bools r
  subst hi
  obtain ⟨⟨cls, dd, data, sl⟩, ho, hc, n, hd⟩ := pl.isList
  simp only at hc hd
  subst hc hd
  refine call_meets PySem.F.slot_list_count ⟨_, ho, rfl⟩ PySem.F.entry_list_count (PySem.F.args_list_count_2 _ _) (SeqAt.list_countAt a (bs.map Value.bool).toArray n dd sl (.bool k) (isBl k)) ⟨ho, fun y hy => eq_bl k y hy, ?_⟩
  rw [show (bs.map Value.bool).toArray.toList = bs.map Value.bool from rfl, count_bl]
  exact ⟨.int (bs.countP (· == k) : Nat), H, I.tok _, ⟨_, rfl⟩, q⟩
theorem mt_index (K : PySem.W.Frag) {X : Cx} (e : X.K = K := by rfl) : MtR X "list.index" (rIndex K) := by
  subst e
  intro pins s σ H x xs v us Q I rx rxs h
  obtain ⟨a, bs, k, j, rfl, rfl, hS, hj, hno, hsm, q⟩ := h
  cases (show v = Value.ref a from rx)
  obtain ⟨u, rfl, ru⟩ := vals1 rxs
  cases (show u = Value.bool k from ru)
  obtain ⟨its, r, pl, _⟩ := I.list hS
  have hi := vals_bools r
  subst hi
  obtain ⟨⟨cls, dd, data, sl⟩, ho, hc, n, hd⟩ := pl.isList
  simp only at hc hd
  subst hc hd
  obtain ⟨hl, hjv⟩ := List.getElem?_eq_some_iff.mp hj
  have hsz : (bs.map Value.bool).toArray.size = bs.length := by simp
  refine call_meets PySem.F.slot_list_index ⟨_, ho, rfl⟩ PySem.F.entry_list_index (PySem.F.args_list_index_2 _ _) (SeqAt.list_indexAt a (bs.map Value.bool).toArray n dd sl (.bool k) (isBl k) j (by rw [hsz]; exact hl) (by omega) ?_ ?_) ⟨ho, fun y hy => eq_bl k y hy, ?_⟩
  · simp [isBl, hjv]
  · intro m hm hmj
    have hm' : m < bs.length := by rw [hsz] at hm; exact hm
    have := hno m hmj
    simp [isBl]
    intro z
    exact this (by rw [List.getElem?_eq_getElem hm', z])
  · exact ⟨.int (j : Nat), H, I.tok _, ⟨_, rfl⟩, q⟩
end
end L2

/-! EXTENSION Q: the five error classes of the package, as the fragment holds them -/
namespace L2
open PySem PySem.Spec PyProof.Rows PySem.W
def clsA (K : Frag) (x : Str) : Addr := match nsIn K mainGlobals x with
  | some (some (.ref a)) => a
  | _ => 0
def kidN : List Str := ["BadRule", "BadFolding", "NoSuch", "NoText"]
def hasC (K : Frag) (x : Str) : Bool := match nsIn K mainGlobals x with
  | some (some (.ref _)) => true
  | _ => false
def errB (K : Frag) : Bool :=
  ((("RuleError" : Str) :: kidN).all fun x => hasC K x && excIn K (clsA K x) bmVE "ValueError.__new__") && (mroIn K (clsA K "RuleError") (.type "BaseException") == some true) &&
  (kidN.all fun x => (findIn K (.ref (clsA K x)) "__getattribute__" == some (some (.builtin "BaseException.__getattribute__"))) && (findIn K (.ref (clsA K x)) "__getattr__" == some none) && (mroIn K (clsA K x) (.type "BaseException") == some true) && hasDictIn K (clsA K x) && (findIn K (.ref (clsA K x)) "__class__" == some (some (.builtin "object.__class__"))) && (mroIn K (clsA K x) (.type "object") == some true) &&
    (mroIn K (clsA K x) (.ref (clsA K "RuleError")) == some true) && (kitOne K (.ref (clsA K x)) (.ref (clsA K "RuleError")) == some true) && (kitOne K (.ref (clsA K x)) (.type "ValueError") == some true) &&
    kidN.all fun y => kitOne K (.ref (clsA K x)) (.ref (clsA K y)) == some (decide (x = y))) &&
  (specialIn K (.builtin "object.__class__") "__get__" == some (some (.builtin "getset_descriptor.__get__"))) && (takesIn K (.builtin "object.__class__") == some true)
structure Errs (K : Frag) (mg : Str → Option Value) : Prop where
  m : ∀ x ∈ ("RuleError" : Str) :: kidN, mg x = some (.ref (clsA K x))
  q : ∀ x ∈ ("RuleError" : Str) :: kidN, ExcC K (clsA K x)
  b : mroIn K (clsA K "RuleError") (.type "BaseException") = some true
  i : ∀ x ∈ kidN, ExcI K (clsA K x)
  r : ∀ x ∈ kidN, mroIn K (clsA K x) (.ref (clsA K "RuleError")) = some true
  kR : ∀ x ∈ kidN, kitOne K (.ref (clsA K x)) (.ref (clsA K "RuleError")) = some true
  kV : ∀ x ∈ kidN, kitOne K (.ref (clsA K x)) (.type "ValueError") = some true
  k : ∀ x ∈ kidN, ∀ y ∈ kidN, kitOne K (.ref (clsA K x)) (.ref (clsA K y)) = some (decide (x = y))
theorem errs_of {K : Frag} {h : Heap} {mg : Str → Option Value} (X : K.In h) (G : h.Ns mainGlobals mg) (e : errB K = true) : Errs K mg := by
  unfold errB at e
  simp only [Bool.and_eq_true, List.all_eq_true, beq_iff_eq] at e
  obtain ⟨⟨⟨⟨e1, e2⟩, e3⟩, e4⟩, e5⟩ := e
  refine ⟨fun x hx => ?_, fun x hx => (e1 x hx).2, e2, fun x hx => ?_, fun x hx => ?_, fun x hx => ?_, fun x hx => ?_, fun x hx y hy => ?_⟩
  · have h1 := (e1 x hx).1
    unfold hasC at h1
    unfold clsA
    split at h1
    · rename_i a ha
      exact mg_of X G ha
    · cases h1
  · obtain ⟨⟨⟨⟨⟨⟨⟨⟨⟨a1, b1⟩, c1⟩, a2⟩, a3⟩, a4⟩, a5⟩, a6⟩, a7⟩, a8⟩ := e3 x hx
    exact ⟨a1, b1, c1, a2, a3, e4, e5, a4⟩
  · exact (e3 x hx).1.1.1.2
  · exact (e3 x hx).1.1.2
  · exact (e3 x hx).1.2
  · exact (e3 x hx).2 y hy
theorem PS.nox {X : Cx} {st : Stmt} {t : TS} (h : PS X.nox st t) : PS X st t := fun pins s σ H D I hw =>
  wpAny_mono (h pins s σ H D (I.wish _) hw) (fun _ _ q => q.unwish) fun _ _ z => False.elim z
end L2

set_option maxHeartbeats 4000000
local macro_rules | `(tactic| walk_at "rd") => `(tactic| simp only [L2.tSeq, L2.tIfS, L2.tOr, L2.tAnd, L2.tNot, L2.tTest, L2.tB, L2.tOp, L2.tUn, L2.tCB, L2.tCons, L2.tNil, L2.tVar, L2.tC, L2.rI0, L2.rI, L2.rU, L2.tNever, L2.tNext, L2.tDrop, L2.tRet, L2.tRetN, L2.tAsg, L2.gName, L2.gTup, L2.gCons, L2.gNil, L2.tCall, L2.tBM, L2.tBM0, L2.rAppend, L2.rClear, L2.rPop, L2.tLst, L2.tTup, L2.rIxL, L2.rIxT, L2.rEq, L2.rNe, L2.rCat, L2.tAndV, L2.tOrV, L2.tNotV, L2.tIf, L2.tBreak, L2.tCont, L2.rIsi, L2.CMul, L2.CDiv, L2.cxK, L2.blkK, L2.capSt, L2.start, List.map_cons, List.map_nil, List.length_cons, List.length_nil, List.replicate_zero, List.replicate_succ, List.nil_append, List.cons_append, List.append_nil, Nat.add_sub_cancel, Nat.reduceAdd, Nat.reduceSub, Nat.sub_self, Nat.zero_add, List.set_cons_zero, List.set_cons_succ, List.getElem?_cons_zero, List.getElem?_cons_succ, Option.join_some, Option.some.injEq, exists_eq_left', exists_eq_left, exists_and_left, exists_eq, exists_eq', List.cons.injEq, L2.V.ref.injEq, L2.V.int.injEq, L2.V.bl.injEq, L2.V.str.injEq, and_true, true_and, if_true, if_false, decide_eq_true_eq, Bool.not_eq_true', Bool.false_eq_true, reduceCtorEq, L2.scalII, L2.scalNI, L2.scalIN, L2.scalBB, L2.scalSS, L2.scalNN, decide_eq_false_iff_not, L2.V.ty.injEq, and_assoc, L2.tTruth, L2.truBl, L2.rLenL, L2.rLenT, L2.rListOf, L2.rMaxL, L2.rMinL, L2.rSortedL, L2.rEqI, L2.rNeI, L2.rEqII, L2.rNeII, L2.tDisp1, L2.tDGet, L2.tDGet2, L2.tDNotIn, L2.tDIn, L2.sDPut, L2.tDNewT, L2.tMinS, L2.rSumT, L2.rSumV, L2.rSumL, L2.rItems, L2.rValues, L2.tSl, L2.tPart, L2.tNoPart, L2.rSlL, L2.tListRev, L2.tChain, L2.rIsiE, L2.rCount, L2.rIndex, L2.tRaise, L2.vC])
local macro_rules | `(tactic| walk_at "rdT") => `(tactic| simp only [L2.ttNil, L2.tSeq, L2.tIfS, L2.tOr, L2.tAnd, L2.tNot, L2.tTest, L2.tB, L2.tOp, L2.tUn, L2.tCB, L2.tCons, L2.tNil, L2.tVar, L2.tC, L2.rI0, L2.rI, L2.rU, L2.tNever, L2.tNext, L2.tDrop, L2.tRet, L2.tRetN, L2.tAsg, L2.gName, L2.gTup, L2.gCons, L2.gNil, L2.tCall, L2.tBM, L2.tBM0, L2.rAppend, L2.rClear, L2.rPop, L2.tLst, L2.tTup, L2.rIxL, L2.rIxT, L2.rEq, L2.rNe, L2.rCat, L2.tAndV, L2.tOrV, L2.tNotV, L2.tIf, L2.tBreak, L2.tCont, L2.rIsi, L2.CMul, L2.CDiv, L2.cxK, L2.blkK, L2.capSt, L2.start, List.map_cons, List.map_nil, List.length_cons, List.length_nil, List.replicate_zero, List.replicate_succ, List.nil_append, List.cons_append, List.append_nil, Nat.add_sub_cancel, Nat.reduceAdd, Nat.reduceSub, Nat.sub_self, Nat.zero_add, List.set_cons_zero, List.set_cons_succ, List.getElem?_cons_zero, List.getElem?_cons_succ, Option.join_some, Option.some.injEq, exists_eq_left', exists_eq_left, exists_and_left, exists_eq, exists_eq', List.cons.injEq, L2.V.ref.injEq, L2.V.int.injEq, L2.V.bl.injEq, L2.V.str.injEq, and_true, true_and, if_true, if_false, decide_eq_true_eq, Bool.not_eq_true', Bool.false_eq_true, reduceCtorEq, L2.scalII, L2.scalNI, L2.scalIN, L2.scalBB, L2.scalSS, L2.scalNN, decide_eq_false_iff_not, L2.V.ty.injEq, and_assoc, L2.tTruth, L2.truBl, L2.rLenL, L2.rLenT, L2.rListOf, L2.rMaxL, L2.rMinL, L2.rSortedL, L2.rEqI, L2.rNeI, L2.rEqII, L2.rNeII, L2.tDisp1, L2.tDGet, L2.tDGet2, L2.tDNotIn, L2.tDIn, L2.sDPut, L2.tDNewT, L2.tMinS, L2.rSumT, L2.rSumV, L2.rSumL, L2.rItems, L2.rValues, L2.tSl, L2.tPart, L2.tNoPart, L2.rSlL, L2.tListRev, L2.tChain, L2.rIsiE, L2.rCount, L2.rIndex, L2.tRaise, L2.vC])
/-! THE MATHEMATICS A: joints and spans -/
namespace FR

/-- one piece: the turn ahead of it, its length; the place and the way (1 or -1) -/
def stepJ (s : Int × Int) (z : Int × Int) : Int × Int := (s.1 + (if z.1 = 1 then -s.2 else s.2) * z.2, if z.1 = 1 then -s.2 else s.2)
def scanJ (s : Int × Int) : List (Int × Int) → List Int
  | [] => []
  | z :: r => (stepJ s z).1 :: scanJ (stepJ s z) r
theorem scanJ_snoc (zs : List (Int × Int)) (z : Int × Int) : ∀ s, scanJ s (zs ++ [z]) = scanJ s zs ++ [(stepJ (zs.foldl stepJ s) z).1] := by
  induction zs with
  | nil => intro s; rfl
  | cons y r ih => intro s; simp only [List.cons_append, scanJ, ih, List.foldl_cons]
theorem scanJ_length (zs : List (Int × Int)) : ∀ s, (scanJ s zs).length = zs.length := by
  induction zs with
  | nil => intro s; rfl
  | cons y r ih => intro s; simp only [scanJ, List.length_cons, ih]
/-- the turns with the one that no hinge has -/
def zipJ (rs fs : List Int) : List (Int × Int) := ((0 : Int) :: fs).zip rs
def jointsL (rs fs : List Int) : List Int := 0 :: scanJ (0, 1) (zipJ rs fs)
theorem last_scanJ (zs : List (Int × Int)) : (0 :: scanJ (0, 1) zs)[zs.length]? = some (zs.foldl stepJ (0, 1)).1 := by
  have key : ∀ (zs : List (Int × Int)) (s : Int × Int), (s.1 :: scanJ s zs)[zs.length]? = some (zs.foldl stepJ s).1 := by
    intro zs
    induction zs with
    | nil => intro s; rfl
    | cons y r ih =>
      intro s
      simp only [scanJ, List.length_cons, List.getElem?_cons_succ, List.foldl_cons]
      exact ih (stepJ s y)
  exact key zs (0, 1)
/-- the way is 1 or -1 -/
theorem way_one (zs : List (Int × Int)) : (zs.foldl stepJ (0, 1)).2 = 1 ∨ (zs.foldl stepJ (0, 1)).2 = -1 := by
  have key : ∀ (zs : List (Int × Int)) (s : Int × Int), (s.2 = 1 ∨ s.2 = -1) → (zs.foldl stepJ s).2 = 1 ∨ (zs.foldl stepJ s).2 = -1 := by
    intro zs
    induction zs with
    | nil => intro s h; exact h
    | cons y r ih =>
      intro s h
      refine ih _ ?_
      unfold stepJ
      split <;> dsimp only <;> omega
  exact key zs (0, 1) (.inl rfl)
theorem take_snoc {α : Type} {l : List α} {i : Nat} {x : α} (h : l[i]? = some x) : l.take (i + 1) = l.take i ++ [x] := by
  rw [List.take_add_one, h]; rfl

/-! ### greatest and least -/
def maxZ (ns : List Int) : Int := ns.foldl max 0
def minZ (ns : List Int) : Int := ns.foldl min 0
theorem maxZ_spec : ∀ (ns : List Int) (a : Int), (ns.foldl max a = a ∨ ns.foldl max a ∈ ns) ∧ a ≤ ns.foldl max a ∧ ∀ x ∈ ns, x ≤ ns.foldl max a := by
  intro ns
  induction ns with
  | nil => intro a; exact ⟨.inl rfl, Int.le_refl a, fun x hx => nomatch hx⟩
  | cons y r ih =>
    intro a
    obtain ⟨h1, h2, h3⟩ := ih (max a y)
    rw [List.foldl_cons]
    refine ⟨?_, by omega, fun x hx => ?_⟩
    · rcases h1 with h1 | h1
      · by_cases hy : a ≤ y
        · right; rw [h1, Int.max_eq_right hy]; exact List.mem_cons_self
        · left; rw [h1]; omega
      · right; exact List.mem_cons_of_mem _ h1
    · rcases List.mem_cons.mp hx with rfl | hx
      · omega
      · exact h3 x hx
theorem minZ_spec : ∀ (ns : List Int) (a : Int), (ns.foldl min a = a ∨ ns.foldl min a ∈ ns) ∧ ns.foldl min a ≤ a ∧ ∀ x ∈ ns, ns.foldl min a ≤ x := by
  intro ns
  induction ns with
  | nil => intro a; exact ⟨.inl rfl, Int.le_refl a, fun x hx => nomatch hx⟩
  | cons y r ih =>
    intro a
    obtain ⟨h1, h2, h3⟩ := ih (min a y)
    rw [List.foldl_cons]
    refine ⟨?_, by omega, fun x hx => ?_⟩
    · rcases h1 with h1 | h1
      · by_cases hy : y ≤ a
        · right; rw [h1, Int.min_eq_right hy]; exact List.mem_cons_self
        · left; rw [h1]; omega
      · right; exact List.mem_cons_of_mem _ h1
    · rcases List.mem_cons.mp hx with rfl | hx
      · omega
      · exact h3 x hx
theorem max_is {ns : List Int} {M : Int} (h0 : (0 : Int) ∈ ns) (hm : M ∈ ns) (h : ∀ a ∈ ns, a ≤ M) : M = maxZ ns := by
  obtain ⟨h1, h2, h3⟩ := maxZ_spec ns 0
  unfold maxZ
  have a1 := h3 M hm
  rcases h1 with e | e
  · rw [e] at a1 ⊢; have := h 0 h0; omega
  · have := h _ e; omega
theorem min_is {ns : List Int} {M : Int} (h0 : (0 : Int) ∈ ns) (hm : M ∈ ns) (h : ∀ a ∈ ns, M ≤ a) : M = minZ ns := by
  obtain ⟨h1, h2, h3⟩ := minZ_spec ns 0
  unfold minZ
  have a1 := h3 M hm
  rcases h1 with e | e
  · rw [e] at a1 ⊢; have := h 0 h0; omega
  · have := h _ e; omega
def spanL (rs fs : List Int) : Int := maxZ (jointsL rs fs) - minZ (jointsL rs fs)
theorem zero_mem_joints (rs fs : List Int) : (0 : Int) ∈ jointsL rs fs := List.mem_cons_self
theorem joints_length {rs fs : List Int} (h : fs.length + 1 = rs.length) : (jointsL rs fs).length = rs.length + 1 := by
  unfold jointsL zipJ
  rw [List.length_cons, scanJ_length, List.length_zip, List.length_cons]
  omega

/-- a rule, a folding of it -/
structure IsRule (rs : List Int) : Prop where
  some : 1 ≤ rs.length
  few : rs.length ≤ 12
  lo : ∀ x ∈ rs, 1 ≤ x
  hi : ∀ x ∈ rs, x ≤ 60
structure IsFold (rs fs : List Int) : Prop where
  len : fs.length + 1 = rs.length
  two : ∀ x ∈ fs, x = 0 ∨ x = 1
/-- sorted: the first, the last -/
theorem sorted_first {ms ns : List Int} (p : ms.Perm ns) (o : ms.Pairwise (· ≤ ·)) {x : Int} (h : ms[0]? = some x) : x ∈ ns ∧ ∀ a ∈ ns, x ≤ a := by
  cases ms with
  | nil => cases h
  | cons y r =>
    cases h
    refine ⟨p.subset List.mem_cons_self, fun a ha => ?_⟩
    rcases List.mem_cons.mp (p.symm.subset ha) with rfl | ha
    · exact Int.le_refl _
    · exact (List.pairwise_cons.mp o).1 a ha
theorem sorted_last {ms ns : List Int} (p : ms.Perm ns) (o : ms.Pairwise (· ≤ ·)) {x : Int} {n : Nat} (hn : n + 1 = ms.length) (h : ms[n]? = some x) : x ∈ ns ∧ ∀ a ∈ ns, a ≤ x := by
  refine ⟨p.subset (List.mem_of_getElem? h), fun a ha => ?_⟩
  obtain ⟨i, hi, e⟩ := List.getElem_of_mem (p.symm.subset ha)
  obtain ⟨hn', e'⟩ := List.getElem?_eq_some_iff.mp h
  by_cases q : i = n
  · subst q; rw [← e, ← e']; exact Int.le_refl _
  · have := (List.pairwise_iff_getElem.mp o) i n hi hn' (by omega)
    rw [e, e'] at this; exact this
end FR
/-! THE MATHEMATICS B: rules end to end, told from the other end, greater -/
namespace FR
theorem stepJ_aff (p w : Int) (s z : Int × Int) : stepJ (p + w * s.1, w * s.2) z = (p + w * (stepJ s z).1, w * (stepJ s z).2) := by
  unfold stepJ
  split <;> dsimp only <;> refine Prod.ext ?_ ?_ <;> dsimp only <;> grind
theorem scanJ_aff (p w : Int) : ∀ (zs : List (Int × Int)) (s : Int × Int), scanJ (p + w * s.1, w * s.2) zs = (scanJ s zs).map (p + w * ·)
  | [], _ => rfl
  | z :: r, s => by
    unfold scanJ
    rw [stepJ_aff, scanJ_aff p w r]
    rfl
theorem scanJ_at (p w : Int) (zs : List (Int × Int)) : scanJ (p, w) zs = (scanJ (0, 1) zs).map (p + w * ·) := by
  have h := scanJ_aff p w zs (0, 1)
  simpa using h
theorem scanJ_append : ∀ (xs ys : List (Int × Int)) (s : Int × Int), scanJ s (xs ++ ys) = scanJ s xs ++ scanJ (xs.foldl stepJ s) ys
  | [], _, _ => rfl
  | x :: r, ys, s => by simp only [List.cons_append, scanJ, List.foldl_cons, scanJ_append r ys]
def finJ (rs fs : List Int) : Int × Int := (zipJ rs fs).foldl stepJ (0, 1)
theorem fin_one (rs fs : List Int) : (finJ rs fs).2 = 1 ∨ (finJ rs fs).2 = -1 := way_one _
theorem fin_mem (rs fs : List Int) : (finJ rs fs).1 ∈ jointsL rs fs := List.mem_of_getElem? (last_scanJ (zipJ rs fs))
/-- the way behind a hinge -/
def bend (t w : Int) : Int := if t = 1 then -w else w
theorem bend_one {t w : Int} (h : w = 1 ∨ w = -1) : bend t w = 1 ∨ bend t w = -1 := by unfold bend; split <;> omega
theorem zip_app {a b fa fb : List Int} {t : Int} (ha : fa.length + 1 = a.length) : zipJ (a ++ b) (fa ++ t :: fb) = zipJ a fa ++ (t :: fb).zip b := by
  unfold zipJ
  rw [← List.cons_append, List.zip_append (by simpa using ha)]
theorem joints_app {a b fa fb : List Int} {t : Int} (ha : fa.length + 1 = a.length) (hb : fb.length + 1 = b.length) :
    jointsL (a ++ b) (fa ++ t :: fb) = jointsL a fa ++ (scanJ (0, 1) (zipJ b fb)).map ((finJ a fa).1 + bend t (finJ a fa).2 * ·) := by
  unfold jointsL
  rw [zip_app ha, scanJ_append, List.cons_append]
  congr 2
  cases b with
  | nil => simp at hb
  | cons l r =>
    rw [← scanJ_at]
    unfold zipJ
    rw [List.zip_cons_cons, List.zip_cons_cons]
    unfold scanJ
    have e : stepJ ((((0 : Int) :: fa).zip a).foldl stepJ (0, 1)) (t, l) = stepJ ((finJ a fa).1, bend t (finJ a fa).2) (0, l) := by
      unfold finJ zipJ stepJ bend
      simp
    rw [e]
theorem fin_app {a b fa fb : List Int} {t : Int} (ha : fa.length + 1 = a.length) (hb : fb.length + 1 = b.length) :
    finJ (a ++ b) (fa ++ t :: fb) = ((finJ a fa).1 + bend t (finJ a fa).2 * (finJ b fb).1, bend t (finJ a fa).2 * (finJ b fb).2) := by
  have key : ∀ (zs : List (Int × Int)) (p w : Int) (s : Int × Int), zs.foldl stepJ (p + w * s.1, w * s.2) = (p + w * (zs.foldl stepJ s).1, w * (zs.foldl stepJ s).2) := by
    intro zs
    induction zs with
    | nil => intro p w s; rfl
    | cons z r ih => intro p w s; rw [List.foldl_cons, List.foldl_cons, stepJ_aff, ih]
  unfold finJ
  rw [zip_app ha, List.foldl_append]
  cases b with
  | nil => simp at hb
  | cons l r =>
    have h := key (zipJ (l :: r) fb) (finJ a fa).1 (bend t (finJ a fa).2) (0, 1)
    simp only [Int.mul_zero, Int.add_zero, Int.mul_one] at h
    have e : ((t :: fb).zip (l :: r)).foldl stepJ ((zipJ a fa).foldl stepJ (0, 1)) = (zipJ (l :: r) fb).foldl stepJ ((finJ a fa).1, bend t (finJ a fa).2) := by
      unfold zipJ
      rw [List.zip_cons_cons, List.zip_cons_cons, List.foldl_cons, List.foldl_cons]
      have e2 : stepJ ((((0 : Int) :: fa).zip a).foldl stepJ (0, 1)) (t, l) = stepJ ((finJ a fa).1, bend t (finJ a fa).2) (0, l) := by
        unfold finJ zipJ stepJ bend
        simp
      rw [e2]
    rw [e, h]
    rfl
theorem mem_app {a b fa fb : List Int} {t : Int} (ha : fa.length + 1 = a.length) (hb : fb.length + 1 = b.length) (x : Int) :
    x ∈ jointsL (a ++ b) (fa ++ t :: fb) ↔ x ∈ jointsL a fa ∨ ∃ y ∈ jointsL b fb, x = (finJ a fa).1 + bend t (finJ a fa).2 * y := by
  rw [joints_app ha hb, List.mem_append, List.mem_map]
  constructor
  · rintro (h | ⟨y, hy, rfl⟩)
    · exact .inl h
    · exact .inr ⟨y, List.mem_cons_of_mem _ hy, rfl⟩
  · rintro (h | ⟨y, hy, rfl⟩)
    · exact .inl h
    · rcases List.mem_cons.mp hy with rfl | hy
      · left; rw [Int.mul_zero, Int.add_zero]; exact fin_mem a fa
      · exact .inr ⟨y, hy, rfl⟩

/-! ### spans -/
theorem span_le (rs fs : List Int) (c : Int) : spanL rs fs ≤ c ↔ ∀ a ∈ jointsL rs fs, ∀ b ∈ jointsL rs fs, a - b ≤ c := by
  obtain ⟨h1, h2, h3⟩ := maxZ_spec (jointsL rs fs) 0
  obtain ⟨g1, g2, g3⟩ := minZ_spec (jointsL rs fs) 0
  have z := zero_mem_joints rs fs
  unfold spanL maxZ minZ
  constructor
  · intro h a ha b hb
    have := h3 a ha
    have := g3 b hb
    omega
  · intro h
    refine h _ ?_ _ ?_
    · rcases h1 with e | e
      · rw [e]; exact z
      · exact e
    · rcases g1 with e | e
      · rw [e]; exact z
      · exact e
theorem span_at (rs fs : List Int) {a b : Int} (ha : a ∈ jointsL rs fs) (hb : b ∈ jointsL rs fs) : a - b ≤ spanL rs fs := (span_le rs fs _).mp (Int.le_refl _) a ha b hb
theorem span_nonneg (rs fs : List Int) : 0 ≤ spanL rs fs := by have := span_at rs fs (zero_mem_joints rs fs) (zero_mem_joints rs fs); omega
theorem one_mul_le {w x c : Int} (hw : w = 1 ∨ w = -1) (h1 : x ≤ c) (h2 : -x ≤ c) : w * x ≤ c := by
  rcases hw with rfl | rfl <;> omega
theorem span_app1 {a b fa fb : List Int} {t : Int} (ha : fa.length + 1 = a.length) (hb : fb.length + 1 = b.length) : spanL a fa ≤ spanL (a ++ b) (fa ++ t :: fb) :=
  (span_le _ _ _).mpr fun x hx y hy => span_at _ _ ((mem_app ha hb x).mpr (.inl hx)) ((mem_app ha hb y).mpr (.inl hy))
theorem span_app2 {a b fa fb : List Int} {t : Int} (ha : fa.length + 1 = a.length) (hb : fb.length + 1 = b.length) : spanL b fb ≤ spanL (a ++ b) (fa ++ t :: fb) := by
  refine (span_le _ _ _).mpr fun x hx y hy => ?_
  have m1 := (mem_app ha hb (t := t) ((finJ a fa).1 + bend t (finJ a fa).2 * x)).mpr (.inr ⟨x, hx, rfl⟩)
  have m2 := (mem_app ha hb (t := t) ((finJ a fa).1 + bend t (finJ a fa).2 * y)).mpr (.inr ⟨y, hy, rfl⟩)
  have s1 := span_at _ _ m1 m2
  have s2 := span_at _ _ m2 m1
  rcases bend_one (t := t) (fin_one a fa) with e | e <;> rw [e] at s1 s2 <;> omega
theorem app_ex {a b fa fb : List Int} (t : Int) (ha : fa.length + 1 = a.length) (hb : fb.length + 1 = b.length) : ∃ p w : Int, (w = 1 ∨ w = -1) ∧ p ∈ jointsL a fa ∧
    ∀ x, x ∈ jointsL (a ++ b) (fa ++ t :: fb) ↔ x ∈ jointsL a fa ∨ ∃ y ∈ jointsL b fb, x = p + w * y :=
  ⟨_, _, bend_one (t := t) (fin_one a fa), fin_mem a fa, mem_app ha hb⟩
theorem span_app {a b fa fb : List Int} {t : Int} (ha : fa.length + 1 = a.length) (hb : fb.length + 1 = b.length) : spanL (a ++ b) (fa ++ t :: fb) ≤ spanL a fa + spanL b fb := by
  obtain ⟨p, w, hw, hp, hm⟩ := app_ex t ha hb
  have na := span_nonneg a fa
  have nb := span_nonneg b fb
  have z := zero_mem_joints b fb
  refine (span_le _ _ _).mpr fun x hx y hy => ?_
  rcases (hm x).mp hx with qx | ⟨x', qx, ex⟩ <;> rcases (hm y).mp hy with qy | ⟨y', qy, ey⟩
  · have := span_at _ _ qx qy; omega
  · have h1 := span_at _ _ qx hp
    have h3 := span_at _ _ qy z
    have h4 := span_at _ _ z qy
    rcases hw with rfl | rfl <;> omega
  · have h1 := span_at _ _ hp qy
    have h3 := span_at _ _ qx z
    have h4 := span_at _ _ z qx
    rcases hw with rfl | rfl <;> omega
  · have h3 := span_at _ _ qx qy
    have h4 := span_at _ _ qy qx
    rcases hw with rfl | rfl <;> omega
/-- told from the other end -/
theorem joints_rev : ∀ (n : Nat) (rs fs : List Int), fs.length = n → fs.length + 1 = rs.length → ∀ x, x ∈ jointsL rs.reverse fs.reverse ↔ ∃ y ∈ jointsL rs fs, x = (finJ rs fs).2 * ((finJ rs fs).1 - y)
  | 0, rs, fs, h, hl, x => by
    cases fs with
    | cons _ _ => simp at h
    | nil =>
      match rs, hl with
      | [l], _ =>
        have e : finJ [l] [] = (l, 1) := by simp [finJ, zipJ, stepJ]
        rw [e]
        simp [jointsL, zipJ, scanJ, stepJ]
        omega
  | n + 1, rs, fs, h, hl, x => by
    obtain ⟨rs', l, rfl⟩ : ∃ rs' l, rs = rs' ++ [l] := ⟨rs.dropLast, rs.getLast (by intro z; subst z; simp at hl), (List.dropLast_concat_getLast _).symm⟩
    obtain ⟨fs', t, rfl⟩ : ∃ fs' t, fs = fs' ++ [t] := ⟨fs.dropLast, fs.getLast (by intro z; subst z; simp at h), (List.dropLast_concat_getLast _).symm⟩
    simp only [List.length_append, List.length_cons, List.length_nil] at h hl
    have hl' : fs'.length + 1 = rs'.length := by omega
    have ih := joints_rev n rs' fs' (by omega) hl'
    have ef : finJ (rs' ++ [l]) (fs' ++ [t]) = ((finJ rs' fs').1 + bend t (finJ rs' fs').2 * l, bend t (finJ rs' fs').2) := by
      have := fin_app (a := rs') (b := [l]) (fa := fs') (fb := []) (t := t) hl' rfl
      rw [this]
      have e : finJ [l] [] = (l, 1) := by simp [finJ, zipJ, stepJ]
      rw [e, Int.mul_one]
    have e1 : finJ [l] [] = (l, 1) := by simp [finJ, zipJ, stepJ]
    have eJ : jointsL [l] [] = [0, l] := by simp [jointsL, zipJ, scanJ, stepJ]
    rw [ef, List.reverse_append, List.reverse_append]
    show x ∈ jointsL ([l] ++ rs'.reverse) ([] ++ t :: fs'.reverse) ↔ _
    rw [mem_app (a := [l]) (fa := []) rfl (by simpa using hl') x, e1, eJ]
    have hm := mem_app (a := rs') (b := [l]) (fa := fs') (fb := []) (t := t) hl' rfl
    have hw := fin_one rs' fs'
    have hfm := fin_mem rs' fs'
    generalize finJ rs' fs' = F at *
    obtain ⟨p, w⟩ := F
    dsimp only at *
    rw [eJ] at hm
    simp only [List.mem_cons, List.not_mem_nil, or_false] at hm ⊢
    have hb : bend t w = w * bend t 1 := by unfold bend; split <;> omega
    have hb1 : bend t 1 = 1 ∨ bend t 1 = -1 := bend_one (.inl rfl)
    rw [hb] at hm ⊢
    generalize bend t 1 = v at *
    constructor
    · rintro ((rfl | rfl) | ⟨y, hy, rfl⟩)
      · exact ⟨p + w * v * l, (hm _).mpr (.inr ⟨l, .inr rfl, rfl⟩), by grind⟩
      · refine ⟨p, (hm _).mpr (.inl hfm), ?_⟩
        rcases hw with rfl | rfl <;> rcases hb1 with rfl | rfl <;> omega
      · obtain ⟨u, hu, rfl⟩ := (ih y).mp hy
        refine ⟨u, (hm u).mpr (.inl hu), ?_⟩
        rcases hw with rfl | rfl <;> rcases hb1 with rfl | rfl <;> omega
    · rintro ⟨y, hy, rfl⟩
      rcases (hm y).mp hy with hy | ⟨u, rfl | rfl, rfl⟩
      · refine .inr ⟨w * (p - y), (ih _).mpr ⟨y, hy, rfl⟩, ?_⟩
        rcases hw with rfl | rfl <;> rcases hb1 with rfl | rfl <;> omega
      · left; right
        rcases hw with rfl | rfl <;> rcases hb1 with rfl | rfl <;> omega
      · left; left
        grind
theorem span_rev {rs fs : List Int} (hl : fs.length + 1 = rs.length) : spanL rs.reverse fs.reverse ≤ spanL rs fs := by
  refine (span_le _ _ _).mpr fun x hx y hy => ?_
  obtain ⟨u, hu, rfl⟩ := (joints_rev _ rs fs rfl hl x).mp hx
  obtain ⟨v, hv, rfl⟩ := (joints_rev _ rs fs rfl hl y).mp hy
  have h1 := span_at _ _ hu hv
  have h2 := span_at _ _ hv hu
  rcases fin_one rs fs with e | e <;> rw [e] <;> omega
/-- greater by a factor -/
theorem joints_times (t : Int) : ∀ (rs fs : List Int), jointsL (rs.map (t * ·)) fs = (jointsL rs fs).map (t * ·) := by
  have key : ∀ (xs ys : List Int) (p w : Int), scanJ (t * p, w) (xs.zip (ys.map (t * ·))) = (scanJ (p, w) (xs.zip ys)).map (t * ·) := by
    intro xs
    induction xs with
    | nil => intro ys p w; simp [scanJ]
    | cons x r ih =>
      intro ys p w
      cases ys with
      | nil => simp [scanJ]
      | cons y q =>
        simp only [List.map_cons, List.zip_cons_cons, scanJ]
        have e : stepJ (t * p, w) (x, t * y) = (t * (stepJ (p, w) (x, y)).1, (stepJ (p, w) (x, y)).2) := by
          unfold stepJ
          split <;> simp <;> grind
        rw [e, ih]
  intro rs fs
  unfold jointsL zipJ
  have := key ((0 : Int) :: fs) rs 0 1
  rw [Int.mul_zero] at this
  rw [this, List.map_cons, Int.mul_zero]
theorem span_times {t : Int} (ht : 1 ≤ t) (rs fs : List Int) : spanL (rs.map (t * ·)) fs = t * spanL rs fs := by
  have h1 : spanL (rs.map (t * ·)) fs ≤ t * spanL rs fs := by
    refine (span_le _ _ _).mpr fun x hx y hy => ?_
    rw [joints_times] at hx hy
    obtain ⟨u, hu, rfl⟩ := List.mem_map.mp hx
    obtain ⟨v, hv, rfl⟩ := List.mem_map.mp hy
    rw [← Int.mul_sub]
    exact Int.mul_le_mul_of_nonneg_left (span_at _ _ hu hv) (by omega)
  obtain ⟨q1, q2, q3⟩ := maxZ_spec (jointsL rs fs) 0
  obtain ⟨g1, g2, g3⟩ := minZ_spec (jointsL rs fs) 0
  have z := zero_mem_joints rs fs
  have m1 : maxZ (jointsL rs fs) ∈ jointsL rs fs := by
    rcases q1 with e | e
    · unfold maxZ; rw [e]; exact z
    · exact e
  have m2 : minZ (jointsL rs fs) ∈ jointsL rs fs := by
    rcases g1 with e | e
    · unfold minZ; rw [e]; exact z
    · exact e
  have h2 : t * maxZ (jointsL rs fs) - t * minZ (jointsL rs fs) ≤ spanL (rs.map (t * ·)) fs := by
    refine span_at _ _ ?_ ?_ <;> rw [joints_times]
    · exact List.mem_map_of_mem m1
    · exact List.mem_map_of_mem m2
  rw [← Int.mul_sub] at h2
  have : t * spanL rs fs ≤ spanL (rs.map (t * ·)) fs := h2
  omega

/-- c is the shortest case's length -/
structure IsMin (rs : List Int) (c : Int) : Prop where
  has : ∃ fs, IsFold rs fs ∧ spanL rs fs = c
  low : ∀ fs, IsFold rs fs → c ≤ spanL rs fs
theorem IsMin.uniq {rs : List Int} {c d : Int} (h : IsMin rs c) (g : IsMin rs d) : c = d := by
  obtain ⟨f, hf, rfl⟩ := h.has
  obtain ⟨f', hf', rfl⟩ := g.has
  have := h.low f' hf'
  have := g.low f hf
  omega
theorem fold_split {a b fs : List Int} (ha : 1 ≤ a.length) (hb : 1 ≤ b.length) (h : IsFold (a ++ b) fs) : ∃ fa t fb, fs = fa ++ t :: fb ∧ IsFold a fa ∧ IsFold b fb := by
  have hl := h.len
  rw [List.length_append] at hl
  have hd : fs.drop (a.length - 1) ≠ [] := by intro z; have := congrArg List.length z; simp at this; omega
  obtain ⟨t, fb, e⟩ := List.exists_cons_of_ne_nil hd
  have e' : fs = fs.take (a.length - 1) ++ t :: fb := by rw [← e, List.take_append_drop]
  have l1 : (fs.take (a.length - 1)).length = a.length - 1 := by rw [List.length_take]; omega
  have l2 := congrArg List.length e'
  simp only [List.length_append, l1, List.length_cons] at l2
  refine ⟨_, t, fb, e', ⟨by rw [l1]; omega, fun x hx => h.two x (List.mem_of_mem_take hx)⟩, ⟨by omega, fun x hx => h.two x ?_⟩⟩
  rw [e']
  exact List.mem_append_right _ (List.mem_cons_of_mem _ hx)
theorem min_app {a b : List Int} {ca cb c : Int} (na : 1 ≤ a.length) (nb : 1 ≤ b.length) (ha : IsMin a ca) (hb : IsMin b cb) (h : IsMin (a ++ b) c) : ca ≤ c ∧ cb ≤ c ∧ c ≤ ca + cb := by
  obtain ⟨fs, hf, rfl⟩ := h.has
  obtain ⟨fa, t, fb, rfl, h1, h2⟩ := fold_split na nb hf
  refine ⟨Int.le_trans (ha.low fa h1) (span_app1 h1.len h2.len), Int.le_trans (hb.low fb h2) (span_app2 h1.len h2.len), ?_⟩
  obtain ⟨ga, g1, rfl⟩ := ha.has
  obtain ⟨gb, g2, rfl⟩ := hb.has
  refine Int.le_trans (h.low (ga ++ 0 :: gb) ⟨?_, fun x hx => ?_⟩) (span_app g1.len g2.len)
  · have := g1.len
    have := g2.len
    simp only [List.length_append, List.length_cons]
    omega
  · rcases List.mem_append.mp hx with hx | hx
    · exact g1.two x hx
    · rcases List.mem_cons.mp hx with rfl | hx
      · exact .inl rfl
      · exact g2.two x hx
theorem IsFold.rev {rs fs : List Int} (h : IsFold rs fs) : IsFold rs.reverse fs.reverse := ⟨by rw [List.length_reverse, List.length_reverse]; exact h.len, fun x hx => h.two x (List.mem_reverse.mp hx)⟩
theorem min_rev {rs : List Int} {c d : Int} (h : IsMin rs c) (g : IsMin rs.reverse d) : d = c := by
  obtain ⟨fs, hf, rfl⟩ := h.has
  obtain ⟨gs, hg, rfl⟩ := g.has
  have h1 := g.low _ hf.rev
  have h2 := span_rev hf.len
  have h3 := span_rev hg.len
  have hg' := hg.rev
  rw [List.reverse_reverse] at hg' h3
  have h4 := h.low _ hg'
  omega
theorem min_times {rs : List Int} {t c d : Int} (ht : 1 ≤ t) (h : IsMin rs c) (g : IsMin (rs.map (t * ·)) d) : d = t * c := by
  obtain ⟨fs, hf, rfl⟩ := h.has
  obtain ⟨gs, hg, rfl⟩ := g.has
  have hf' : IsFold (rs.map (t * ·)) fs := ⟨by rw [List.length_map]; exact hf.len, hf.two⟩
  have hg' : IsFold rs gs := ⟨by have := hg.len; rw [List.length_map] at this; exact this, hg.two⟩
  have h1 := g.low _ hf'
  have h2 := h.low _ hg'
  rw [span_times ht] at h1 ⊢
  have : t * spanL rs fs ≤ t * spanL rs gs := Int.mul_le_mul_of_nonneg_left h2 (by omega)
  rw [span_times ht] at h1
  omega
end FR
/-! THE MATHEMATICS C: reaches, the first foldings, counting -/
namespace FR

abbrev Rch := Int × Int
/-- one piece more: the reach behind it -/
def frR (r : Rch) (t L : Int) : Rch := if t = 0 then (r.1 + L, max (r.2 - L) 0) else (r.2 + L, max (r.1 - L) 0)
def sumR (r : Rch) : Int := r.1 + r.2
/-- the reach behind a list of (turn, length) -/
def rchZ (r : Rch) (zs : List (Int × Int)) : Rch := zs.foldl (fun r z => frR r z.1 z.2) r
def rchL (rs fs : List Int) : Rch := rchZ (rs.headD 0, 0) (fs.zip rs.tail)
theorem rchZ_snoc (r : Rch) (zs : List (Int × Int)) (z : Int × Int) : rchZ r (zs ++ [z]) = frR (rchZ r zs) z.1 z.2 := by
  unfold rchZ; rw [List.foldl_append]; rfl
/-- both nought or more -/
def Ge0 (r : Rch) : Prop := 0 ≤ r.1 ∧ 0 ≤ r.2
theorem Ge0.fr {r : Rch} (h : Ge0 r) {t L : Int} (hL : 0 ≤ L) : Ge0 (frR r t L) := by
  obtain ⟨h1, h2⟩ := h
  unfold frR Ge0; split <;> dsimp only <;> omega
theorem sum_fr {r : Rch} (h : Ge0 r) {t L : Int} (hL : 0 ≤ L) : sumR r ≤ sumR (frR r t L) := by
  obtain ⟨h1, h2⟩ := h
  unfold frR sumR; split <;> dsimp only <;> omega
theorem Ge0.z {r : Rch} (h : Ge0 r) {zs : List (Int × Int)} (hz : ∀ z ∈ zs, 0 ≤ z.2) : Ge0 (rchZ r zs) := by
  induction zs generalizing r with
  | nil => exact h
  | cons z q ih => exact ih (h.fr (hz z List.mem_cons_self)) fun y hy => hz y (List.mem_cons_of_mem _ hy)
/-- the reach's sum is the span -/
theorem span_gen (zs : List (Int × Int)) : ∀ (p w m M : Int), (w = 1 ∨ w = -1) → m ≤ p → p ≤ M → (∀ z ∈ zs, 0 ≤ z.2 ∧ (z.1 = 0 ∨ z.1 = 1)) →
    (scanJ (p, w) zs).foldl max M - (scanJ (p, w) zs).foldl min m = sumR (rchZ (if w = 1 then (p - m, M - p) else (M - p, p - m)) zs) := by
  induction zs with
  | nil =>
    intro p w m M hw h1 h2 _
    show M - m = _
    unfold rchZ sumR
    rcases hw with rfl | rfl <;> simp <;> omega
  | cons z r ih =>
    intro p w m M hw h1 h2 hz
    obtain ⟨zl, zt⟩ := hz z List.mem_cons_self
    have hr := fun y hy => hz y (List.mem_cons_of_mem _ hy)
    obtain ⟨t, L⟩ := z
    have hstep : stepJ (p, w) (t, L) = (p + (if t = 1 then -w else w) * L, if t = 1 then -w else w) := rfl
    rw [scanJ, hstep]
    simp only [List.foldl_cons]
    have hw' : (if t = 1 then -w else w) = 1 ∨ (if t = 1 then -w else w) = -1 := by
      split <;> omega
    rw [ih _ _ _ _ hw' (by omega) (by omega) hr]
    show sumR (rchZ _ r) = sumR (rchZ (frR _ t L) r)
    congr 2
    dsimp only at zl zt
    rcases hw with rfl | rfl <;> rcases zt with rfl | rfl <;> simp [frR] <;> omega
theorem span_rch {rs fs : List Int} (h : IsFold rs fs) (hl : ∀ x ∈ rs, 1 ≤ x) : spanL rs fs = sumR (rchL rs fs) := by
  cases rs with
  | nil => have := h.len; simp at this
  | cons r0 rt =>
    have hr0 : 1 ≤ r0 := hl r0 List.mem_cons_self
    unfold spanL maxZ minZ jointsL zipJ rchL
    rw [List.zip_cons_cons, List.foldl_cons, List.foldl_cons, scanJ, List.foldl_cons, List.foldl_cons]
    have e : stepJ (0, 1) ((0 : Int), r0) = (r0, 1) := by simp [stepJ]
    rw [e]
    rw [span_gen _ r0 1 _ _ (.inl rfl) (by omega) (by omega)]
    · rw [if_pos rfl]
      congr 2
      simp <;> omega
    · intro z hz
      obtain ⟨t, L⟩ := z
      have h1 := (List.of_mem_zip hz).1
      have h2 := (List.of_mem_zip hz).2
      exact ⟨by have := hl L (List.mem_cons_of_mem _ h2); dsimp only; omega, h.two t h1⟩

/-! ### the number of a folding -/
def numF (fs : List Int) : Int := fs.foldl (fun n t => 2 * n + t) 0
theorem numF_snoc (fs : List Int) (t : Int) : numF (fs ++ [t]) = 2 * numF fs + t := by unfold numF; rw [List.foldl_append]; rfl
def Two (fs : List Int) : Prop := ∀ x ∈ fs, x = 0 ∨ x = 1
theorem Two.snoc {fs : List Int} {t : Int} (h : Two fs) (ht : t = 0 ∨ t = 1) : Two (fs ++ [t]) := fun x hx => by
  rcases List.mem_append.mp hx with hx | hx
  · exact h x hx
  · cases List.mem_singleton.mp hx; exact ht
theorem snoc_cases {α : Type} (l : List α) : l = [] ∨ ∃ q x, l = q ++ [x] := by
  rcases l.eq_nil_or_concat with h | ⟨q, x, h⟩
  · exact .inl h
  · exact .inr ⟨q, x, by rw [h, List.concat_eq_append]⟩
theorem numF_ge {fs : List Int} (h : Two fs) : 0 ≤ numF fs ∧ numF fs < 2 ^ fs.length := by
  induction hn : fs.length generalizing fs with
  | zero => cases fs with
    | nil => exact ⟨by decide, by decide⟩
    | cons => simp at hn
  | succ n ih =>
    rcases snoc_cases fs with rfl | ⟨q, x, rfl⟩
    · simp at hn
    · have hq : Two q := fun y hy => h y (List.mem_append_left _ hy)
      have hx := h x (List.mem_append_right _ (List.mem_singleton.mpr rfl))
      have := ih hq (by simpa using hn)
      rw [numF_snoc, Int.pow_succ]
      omega
theorem numF_inj : ∀ {n : Nat} {fs gs : List Int}, fs.length = n → gs.length = n → Two fs → Two gs → numF fs = numF gs → fs = gs := by
  intro n
  induction n with
  | zero => intro fs gs h1 h2 _ _ _; rw [List.length_eq_zero_iff.mp h1, List.length_eq_zero_iff.mp h2]
  | succ n ih =>
    intro fs gs h1 h2 t1 t2 e
    rcases snoc_cases fs with rfl | ⟨q, x, rfl⟩
    · simp at h1
    rcases snoc_cases gs with rfl | ⟨q', x', rfl⟩
    · simp at h2
    rw [numF_snoc, numF_snoc] at e
    have a1 := t1 x (List.mem_append_right _ (List.mem_singleton.mpr rfl))
    have a2 := t2 x' (List.mem_append_right _ (List.mem_singleton.mpr rfl))
    have ex : x = x' := by omega
    have eq : q = q' := ih (by simpa using h1) (by simpa using h2) (fun y hy => t1 y (List.mem_append_left _ hy)) (fun y hy => t2 y (List.mem_append_left _ hy)) (by omega)
    rw [ex, eq]
end FR
/-! THE MATHEMATICS D: the first foldings of each reach -/
namespace FR
/-- the dict of first foldings behind the pieces ls, those of a span within B -/
structure Firsts (r0 B : Int) (ls : List Int) (es : List (Rch × List Int)) : Prop where
  ent : ∀ e ∈ es, e.2.length = ls.length ∧ Two e.2 ∧ e.1 = rchZ (r0, 0) (e.2.zip ls) ∧ sumR e.1 ≤ B
  ord : es.Pairwise fun a b => numF a.2 < numF b.2
  all : ∀ g, g.length = ls.length → Two g → sumR (rchZ (r0, 0) (g.zip ls)) ≤ B → ∃ e ∈ es, e.1 = rchZ (r0, 0) (g.zip ls) ∧ numF e.2 ≤ numF g
theorem Firsts.start {r0 B : Int} (h : r0 ≤ B) : Firsts r0 B [] [((r0, 0), [])] where
  ent := fun e he => by
    cases List.mem_singleton.mp he
    exact ⟨rfl, fun x hx => (nomatch hx), rfl, by simpa [sumR] using h⟩
  ord := List.pairwise_singleton _ _
  all := fun g hg _ _ => by
    cases List.length_eq_zero_iff.mp hg
    exact ⟨_, List.mem_singleton.mpr rfl, rfl, Int.le_refl _⟩
/-- one more entry, unless its reach is there or too wide -/
def addF (B L : Int) (found : List (Rch × List Int)) (e : Rch × List Int) (t : Int) : List (Rch × List Int) :=
  if sumR (frR e.1 t L) ≤ B ∧ (∀ x ∈ found, x.1 ≠ frR e.1 t L) then found ++ [(frR e.1 t L, e.2 ++ [t])] else found
def stepF (B L : Int) (es : List (Rch × List Int)) : List (Rch × List Int) := es.foldl (fun f e => addF B L (addF B L f e 0) e 1) []
theorem stepF_snoc (B L : Int) (es : List (Rch × List Int)) (e : Rch × List Int) : stepF B L (es ++ [e]) = addF B L (addF B L (stepF B L es) e 0) e 1 := by
  unfold stepF; rw [List.foldl_append]; rfl
/-- what stands there when the candidates up to the number n have been looked at -/
structure Half (B L : Int) (C : List (Rch × List Int × Int)) (found : List (Rch × List Int)) (n : Int) : Prop where
  ent : ∀ x ∈ found, ∃ c ∈ C, x.2 = c.2.1 ++ [c.2.2] ∧ x.1 = frR c.1 c.2.2 L ∧ sumR x.1 ≤ B
  ord : found.Pairwise fun a b => numF a.2 < numF b.2
  low : ∀ x ∈ found, numF x.2 < n
  all : ∀ c ∈ C, sumR (frR c.1 c.2.2 L) ≤ B → ∃ x ∈ found, x.1 = frR c.1 c.2.2 L ∧ numF x.2 ≤ 2 * numF c.2.1 + c.2.2
theorem Half.add {B L : Int} {C : List (Rch × List Int × Int)} {found : List (Rch × List Int)} {n : Int} (h : Half B L C found n) {e : Rch × List Int} {t n' : Int} (h1 : n ≤ 2 * numF e.2 + t) (h2 : 2 * numF e.2 + t < n') :
    Half B L (C ++ [(e.1, e.2, t)]) (addF B L found e t) n' := by
  unfold addF
  have lift : ∀ x ∈ found, ∃ c ∈ C ++ [(e.1, e.2, t)], x.2 = c.2.1 ++ [c.2.2] ∧ x.1 = frR c.1 c.2.2 L ∧ sumR x.1 ≤ B := fun x hx => by
    obtain ⟨c, hc, q⟩ := h.ent x hx
    exact ⟨c, List.mem_append_left _ hc, q⟩
  split
  · rename_i hc
    refine ⟨fun x hx => ?_, ?_, fun x hx => ?_, fun c hcm hs => ?_⟩
    · rcases List.mem_append.mp hx with hx | hx
      · exact lift x hx
      · cases List.mem_singleton.mp hx
        exact ⟨_, List.mem_append_right _ (List.mem_singleton.mpr rfl), rfl, rfl, hc.1⟩
    · rw [List.pairwise_append]
      refine ⟨h.ord, List.pairwise_singleton _ _, fun a ha b hb => ?_⟩
      cases List.mem_singleton.mp hb
      have := h.low a ha
      show numF a.2 < numF (e.2 ++ [t])
      rw [numF_snoc]; omega
    · rcases List.mem_append.mp hx with hx | hx
      · have := h.low x hx; omega
      · cases List.mem_singleton.mp hx
        show numF (e.2 ++ [t]) < n'
        rw [numF_snoc]; omega
    · rcases List.mem_append.mp hcm with hcm | hcm
      · obtain ⟨x, hx, q⟩ := h.all c hcm hs
        exact ⟨x, List.mem_append_left _ hx, q⟩
      · cases List.mem_singleton.mp hcm
        refine ⟨_, List.mem_append_right _ (List.mem_singleton.mpr rfl), rfl, ?_⟩
        show numF (e.2 ++ [t]) ≤ _
        rw [numF_snoc]; exact Int.le_refl _
  · rename_i hc
    refine ⟨lift, h.ord, fun x hx => by have := h.low x hx; omega, fun c hcm hs => ?_⟩
    rcases List.mem_append.mp hcm with hcm | hcm
    · exact h.all c hcm hs
    · cases List.mem_singleton.mp hcm
      have hx : ∃ x ∈ found, x.1 = frR e.1 t L := by
        apply Classical.byContradiction
        intro hn
        exact hc ⟨hs, fun x hx z => hn ⟨x, hx, z⟩⟩
      obtain ⟨x, hx, hxe⟩ := hx
      have := h.low x hx
      exact ⟨x, hx, hxe, by show numF x.2 ≤ 2 * numF e.2 + t; omega⟩
def cands (es : List (Rch × List Int)) : List (Rch × List Int × Int) := es.flatMap fun e => [(e.1, e.2, 0), (e.1, e.2, 1)]
theorem cands_snoc (es : List (Rch × List Int)) (e : Rch × List Int) : cands (es ++ [e]) = (cands es ++ [(e.1, e.2, 0)]) ++ [(e.1, e.2, 1)] := by
  unfold cands; rw [List.flatMap_append]; simp
theorem half_of {B L : Int} : ∀ {k : Nat} {es : List (Rch × List Int)}, es.length = k → (es.Pairwise fun a b => numF a.2 < numF b.2) → (∀ a ∈ es, 0 ≤ numF a.2) → ∀ n, 0 ≤ n → (∀ a ∈ es, 2 * numF a.2 + 2 ≤ n) →
    Half B L (cands es) (stepF B L es) n := by
  intro k
  induction k with
  | zero =>
    intro es hk _ _ n _ _
    cases List.length_eq_zero_iff.mp hk
    exact ⟨fun x hx => (by cases hx), List.Pairwise.nil, fun x hx => (by cases hx), fun c hc => (by cases hc)⟩
  | succ k ih =>
    intro es hk ho h0 n hn hb
    rcases snoc_cases es with rfl | ⟨q, e, rfl⟩
    · simp at hk
    rw [List.pairwise_append] at ho
    obtain ⟨o1, _, o2⟩ := ho
    have he := h0 e (List.mem_append_right _ (List.mem_singleton.mpr rfl))
    have hb' := hb e (List.mem_append_right _ (List.mem_singleton.mpr rfl))
    have H := ih (es := q) (by simpa using hk) o1 (fun a ha => h0 a (List.mem_append_left _ ha)) (2 * numF e.2) (by omega) (fun a ha => by
      have := o2 a ha e (List.mem_singleton.mpr rfl); omega)
    rw [cands_snoc, stepF_snoc]
    exact (H.add (t := 0) (n' := 2 * numF e.2 + 1) (by omega) (by omega)).add (t := 1) (by omega) (by omega)
theorem mem_cands {es : List (Rch × List Int)} {e : Rch × List Int} {t : Int} (h : e ∈ es) (ht : t = 0 ∨ t = 1) : (e.1, e.2, t) ∈ cands es := by
  unfold cands
  rw [List.mem_flatMap]
  refine ⟨e, h, ?_⟩
  rcases ht with rfl | rfl <;> simp
theorem of_cands {es : List (Rch × List Int)} {c : Rch × List Int × Int} (h : c ∈ cands es) : (c.1, c.2.1) ∈ es ∧ (c.2.2 = 0 ∨ c.2.2 = 1) := by
  unfold cands at h
  rw [List.mem_flatMap] at h
  obtain ⟨e, he, hc⟩ := h
  simp only [List.mem_cons, List.mem_nil_iff, or_false] at hc
  rcases hc with rfl | rfl
  · exact ⟨he, .inl rfl⟩
  · exact ⟨he, .inr rfl⟩
theorem exists_bound (es : List (Rch × List Int)) : ∃ n, 0 ≤ n ∧ ∀ a ∈ es, 2 * numF a.2 + 2 ≤ n := by
  induction es with
  | nil => exact ⟨0, Int.le_refl _, fun a ha => by cases ha⟩
  | cons e r ih =>
    obtain ⟨n, h0, h⟩ := ih
    refine ⟨max n (2 * numF e.2 + 2), by omega, fun a ha => ?_⟩
    rcases List.mem_cons.mp ha with rfl | ha
    · omega
    · have := h a ha; omega
theorem zip_snoc {f ls : List Int} {t L : Int} (h : f.length = ls.length) : (f ++ [t]).zip (ls ++ [L]) = f.zip ls ++ [(t, L)] := by
  rw [List.zip_append h]; rfl
theorem Firsts.step {r0 B L : Int} {ls : List Int} {es : List (Rch × List Int)} (h : Firsts r0 B ls es) (h0 : 0 ≤ r0) (hls : ∀ x ∈ ls, 0 ≤ x) (hL : 0 ≤ L) : Firsts r0 B (ls ++ [L]) (stepF B L es) := by
  obtain ⟨n, n0, hn⟩ := exists_bound es
  have H := half_of (B := B) (L := L) (k := es.length) rfl h.ord (fun a ha => (numF_ge (h.ent a ha).2.1).1) n n0 hn
  refine ⟨fun e he => ?_, H.ord, fun g hg tg hs => ?_⟩
  · obtain ⟨c, hc, e2, e1, es⟩ := H.ent e he
    obtain ⟨m, ht⟩ := of_cands hc
    obtain ⟨l1, l2, l3, _⟩ := h.ent _ m
    dsimp only at l1 l2 l3
    refine ⟨by rw [e2, List.length_append, List.length_append, l1]; rfl, by rw [e2]; exact l2.snoc ht, ?_, es⟩
    rw [e2, zip_snoc l1, rchZ_snoc, e1, l3]
  · rcases snoc_cases g with rfl | ⟨q, t, rfl⟩
    · simp at hg
    have lq : q.length = ls.length := by simpa using hg
    have tq : Two q := fun y hy => tg y (List.mem_append_left _ hy)
    have ht := tg t (List.mem_append_right _ (List.mem_singleton.mpr rfl))
    rw [zip_snoc lq, rchZ_snoc] at hs ⊢
    have g0 : Ge0 (rchZ (r0, 0) (q.zip ls)) := Ge0.z ⟨h0, Int.le_refl _⟩ fun z hz => hls _ (List.of_mem_zip hz).2
    have hle := sum_fr g0 (t := t) hL
    obtain ⟨e, he, e1, e2⟩ := h.all q lq tq (by dsimp only at hs; omega)
    obtain ⟨x, hx, x1, x2⟩ := H.all _ (mem_cands he ht) (by dsimp only; rw [e1]; exact hs)
    refine ⟨x, hx, by rw [x1, e1], ?_⟩
    rw [numF_snoc]; dsimp only at x2; omega
theorem firsts_len {B L : Int} (es : List (Rch × List Int)) : (stepF B L es).length ≤ 2 * es.length := by
  have key : ∀ (l : List (Rch × List Int)) (f : List (Rch × List Int)), (l.foldl (fun f e => addF B L (addF B L f e 0) e 1) f).length ≤ f.length + 2 * l.length := by
    have one : ∀ f e t, (addF B L f e t).length ≤ f.length + 1 := fun f e t => by
      unfold addF; split
      · rw [List.length_append]; exact Nat.le_refl _
      · exact Nat.le_succ _
    intro l
    induction l with
    | nil => intro f; exact Nat.le_refl _
    | cons e r ih =>
      intro f
      rw [List.foldl_cons]
      refine Nat.le_trans (ih _) ?_
      have a := one f e 0
      have b := one (addF B L f e 0) e 1
      rw [List.length_cons]; omega
  have := key es []
  simpa [stepF] using this

/-- the first folding of the least span -/
structure IsFirst (rs : List Int) (c : Int) (f : List Int) : Prop where
  fold : IsFold rs f
  span : spanL rs f = c
  low : ∀ g, IsFold rs g → c ≤ spanL rs g
  fst : ∀ g, IsFold rs g → spanL rs g = c → numF f ≤ numF g
theorem IsFirst.min {rs f : List Int} {c : Int} (h : IsFirst rs c f) : IsMin rs c := ⟨⟨f, h.fold, h.span⟩, h.low⟩
theorem Firsts.best {r0 B : Int} {ls : List Int} {es : List (Rch × List Int)} (h : Firsts r0 B ls es) (hr : ∀ x ∈ r0 :: ls, 1 ≤ x) {i : Nat} {e : Rch × List Int} (hi : es[i]? = some e)
    (hm : ∀ (j : Nat) (x : Rch × List Int), es[j]? = some x → sumR e.1 ≤ sumR x.1 ∧ (j < i → sumR e.1 < sumR x.1)) : IsFirst (r0 :: ls) (sumR e.1) e.2 := by
  obtain ⟨l1, l2, l3, l4⟩ := h.ent e (List.mem_of_getElem? hi)
  have hf : IsFold (r0 :: ls) e.2 := ⟨by rw [List.length_cons, l1], l2⟩
  have sp : ∀ g, IsFold (r0 :: ls) g → g.length = ls.length ∧ spanL (r0 :: ls) g = sumR (rchZ (r0, 0) (g.zip ls)) := fun g hg => ⟨by have := hg.len; simpa using this, span_rch hg hr⟩
  refine ⟨hf, by rw [(sp _ hf).2, ← l3], fun g hg => ?_, fun g hg hs => ?_⟩
  · obtain ⟨g1, g2⟩ := sp g hg
    rw [g2]
    by_cases hb : sumR (rchZ (r0, 0) (g.zip ls)) ≤ B
    · obtain ⟨x, hx, x1, _⟩ := h.all g g1 hg.two hb
      obtain ⟨j, hj⟩ := List.getElem?_of_mem hx
      rw [← x1]; exact (hm j x hj).1
    · omega
  · obtain ⟨g1, g2⟩ := sp g hg
    rw [g2] at hs
    obtain ⟨x, hx, x1, x2⟩ := h.all g g1 hg.two (by omega)
    obtain ⟨j, hj⟩ := List.getElem?_of_mem hx
    have hmj := (hm j x hj).2
    rw [x1] at hmj
    have hji : ¬ j < i := fun z => by have := hmj z; omega
    by_cases hij : i = j
    · subst hij
      rw [hi] at hj
      cases hj; exact x2
    · obtain ⟨a1, a2⟩ := List.getElem?_eq_some_iff.mp hi
      obtain ⟨b1, b2⟩ := List.getElem?_eq_some_iff.mp hj
      have := (List.pairwise_iff_getElem.mp h.ord) i j a1 b1 (by omega)
      rw [a2, b2] at this
      omega

/-! ### the folding by half -/
def halfW (p : Int) : Int := if p ≤ 0 then 1 else -1
def halfL (p w : Int) : List Int → List Int
  | [] => []
  | L :: ls => (if halfW p = w then 0 else 1) :: halfL (p + halfW p * L) (halfW p) ls
def byHalf (rs : List Int) : List Int := halfL (rs.headD 0) 1 rs.tail
theorem halfL_len (p w : Int) (ls : List Int) : (halfL p w ls).length = ls.length := by
  induction ls generalizing p w with
  | nil => rfl
  | cons L r ih => rw [halfL, List.length_cons, ih, List.length_cons]
theorem halfL_two (p w : Int) (ls : List Int) : Two (halfL p w ls) := by
  induction ls generalizing p w with
  | nil => exact fun x hx => by cases hx
  | cons L r ih =>
    intro x hx
    rcases List.mem_cons.mp hx with rfl | hx
    · split
      · exact .inl rfl
      · exact .inr rfl
    · exact ih _ _ x hx
theorem halfW_one (p : Int) : halfW p = 1 ∨ halfW p = -1 := by unfold halfW; split <;> omega
theorem half_scan {M : Int} : ∀ (ls : List Int) (p w : Int), (w = 1 ∨ w = -1) → (∀ x ∈ ls, 1 ≤ x ∧ x ≤ M) → -M < p → p ≤ M → ∀ x ∈ scanJ (p, w) ((halfL p w ls).zip ls), -M < x ∧ x ≤ M := by
  intro ls
  induction ls with
  | nil => intro p w _ _ _ _ x hx; cases hx
  | cons L r ih =>
    intro p w hw hl h1 h2 x hx
    have hL := hl L List.mem_cons_self
    have hW := halfW_one p
    have e : stepJ (p, w) ((if halfW p = w then 0 else 1 : Int), L) = (p + halfW p * L, halfW p) := by
      unfold stepJ
      by_cases hq : halfW p = w
      · simp [hq]
      · have hw2 : halfW p = -w := by omega
        have hw3 : ¬ -w = w := by omega
        simp [hw2, hw3]
    have b : -M < p + halfW p * L ∧ p + halfW p * L ≤ M := by
      unfold halfW
      split
      · rw [Int.one_mul]; omega
      · rw [Int.neg_mul, Int.one_mul]; omega
    rw [halfL, List.zip_cons_cons, scanJ, e] at hx
    rcases List.mem_cons.mp hx with rfl | hx
    · exact b
    · exact ih _ _ hW (fun y hy => hl y (List.mem_cons_of_mem _ hy)) b.1 b.2 x hx
theorem byHalf_fold {rs : List Int} (h : 1 ≤ rs.length) : IsFold rs (byHalf rs) := by
  cases rs with
  | nil => simp at h
  | cons r0 ls => exact ⟨by unfold byHalf; rw [List.tail_cons, halfL_len, List.length_cons], halfL_two _ _ _⟩
theorem byHalf_joints {rs : List Int} {M : Int} (h : 1 ≤ rs.length) (hl : ∀ x ∈ rs, 1 ≤ x ∧ x ≤ M) : ∀ x ∈ jointsL rs (byHalf rs), -M < x ∧ x ≤ M := by
  cases rs with
  | nil => simp at h
  | cons r0 ls =>
    intro x hx
    have h0 := hl r0 List.mem_cons_self
    unfold jointsL zipJ byHalf at hx
    rw [List.tail_cons, List.headD_cons, List.zip_cons_cons, scanJ] at hx
    have e : stepJ (0, 1) ((0 : Int), r0) = (r0, 1) := by simp [stepJ]
    rw [e] at hx
    rcases List.mem_cons.mp hx with rfl | hx
    · omega
    rcases List.mem_cons.mp hx with rfl | hx
    · omega
    · exact half_scan ls r0 1 (.inl rfl) (fun y hy => hl y (List.mem_cons_of_mem _ hy)) (by omega) (by omega) x hx
theorem byHalf_span {rs : List Int} {M : Int} (h : 1 ≤ rs.length) (hl : ∀ x ∈ rs, 1 ≤ x ∧ x ≤ M) : spanL rs (byHalf rs) ≤ 2 * M := by
  rw [span_le]
  intro a ha b hb
  have := byHalf_joints h hl a ha
  have := byHalf_joints h hl b hb
  omega
/-- some folding fits in twice the longest -/
theorem Firsts.some {r0 B : Int} {ls : List Int} {es : List (Rch × List Int)} (h : Firsts r0 B ls es) {M : Int} (hr : ∀ x ∈ r0 :: ls, 1 ≤ x ∧ x ≤ M) (hB : 2 * M ≤ B) : es ≠ [] := by
  have hf := byHalf_fold (rs := r0 :: ls) (by simp)
  have hs := byHalf_span (rs := r0 :: ls) (by simp) hr
  rw [span_rch hf fun x hx => (hr x hx).1] at hs
  obtain ⟨e, he, _⟩ := h.all (byHalf (r0 :: ls)) (by have := hf.len; simpa using this) hf.two (by
    show sumR (rchL (r0 :: ls) (byHalf (r0 :: ls))) ≤ B
    omega)
  intro z; rw [z] at he; cases he
end FR
/-! THE MATHEMATICS E: counting -/
namespace FR
/-- how many foldings of the pieces ls behind the reach r fit -/
def cnt (c : Int) (r : Rch) : List Int → Int
  | [] => if sumR r ≤ c then 1 else 0
  | L :: ls => cnt c (frR r 0 L) ls + cnt c (frR r 1 L) ls
/-- these foldings in their order -/
def dueL (c : Int) (r : Rch) : List Int → List (List Int)
  | [] => if sumR r ≤ c then [[]] else []
  | L :: ls => (dueL c (frR r 0 L) ls).map (0 :: ·) ++ (dueL c (frR r 1 L) ls).map (1 :: ·)
def atL (c : Int) (r : Rch) : List Int → Int → List Int
  | [], _ => []
  | L :: ls, n => if n < cnt c (frR r 0 L) ls then 0 :: atL c (frR r 0 L) ls n else 1 :: atL c (frR r 1 L) ls (n - cnt c (frR r 0 L) ls)
def numL (c : Int) (r : Rch) : List Int → List Int → Int
  | L :: ls, t :: fs => (if t = 1 then cnt c (frR r 0 L) ls else 0) + numL c (frR r t L) ls fs
  | _, _ => 0
theorem cnt_due (c : Int) (ls : List Int) : ∀ r, cnt c r ls = ((dueL c r ls).length : Int) := by
  induction ls with
  | nil => intro r; unfold cnt dueL; split <;> rfl
  | cons L q ih =>
    intro r
    rw [cnt, dueL, ih, ih, List.length_append, List.length_map, List.length_map]
    omega
theorem cnt_nonneg (c : Int) (ls : List Int) (r : Rch) : 0 ≤ cnt c r ls := by rw [cnt_due]; omega
theorem cnt_zero {c : Int} {ls : List Int} (hl : ∀ x ∈ ls, 0 ≤ x) : ∀ {r : Rch}, Ge0 r → c < sumR r → cnt c r ls = 0 := by
  induction ls with
  | nil => intro r _ h; rw [cnt, if_neg (by omega)]
  | cons L q ih =>
    intro r g h
    have hL := hl L List.mem_cons_self
    have hq := fun x hx => hl x (List.mem_cons_of_mem _ hx)
    have a := sum_fr g (t := 0) hL
    have b := sum_fr g (t := 1) hL
    rw [cnt, ih hq (g.fr hL) (by omega), ih hq (g.fr hL) (by omega)]; rfl
theorem due_at (c : Int) (ls : List Int) : ∀ (r : Rch) (n : Nat), (n : Int) < cnt c r ls → (dueL c r ls)[n]? = some (atL c r ls n) := by
  induction ls with
  | nil =>
    intro r n h
    rw [cnt] at h
    rw [dueL, atL]
    split at h
    · rename_i hs
      rw [if_pos hs]
      have : n = 0 := by omega
      subst this; rfl
    · omega
  | cons L q ih =>
    intro r n h
    rw [cnt] at h
    rw [dueL, atL]
    have e0 := cnt_due c q (frR r 0 L)
    split
    · rename_i hn
      rw [List.getElem?_append_left (by rw [List.length_map]; omega), List.getElem?_map, ih _ n hn]; rfl
    · rename_i hn
      rw [List.getElem?_append_right (by rw [List.length_map]; omega), List.getElem?_map, List.length_map]
      have e1 : ((n - (dueL c (frR r 0 L) q).length : Nat) : Int) = n - cnt c (frR r 0 L) q := by omega
      rw [ih _ _ (by omega), e1]; rfl
theorem atL_len (c : Int) (ls : List Int) : ∀ (r : Rch) (n : Int), (atL c r ls n).length = ls.length := by
  induction ls with
  | nil => intro r n; rfl
  | cons L q ih => intro r n; rw [atL]; split <;> rw [List.length_cons, ih, List.length_cons]
theorem atL_two (c : Int) (ls : List Int) : ∀ (r : Rch) (n : Int), Two (atL c r ls n) := by
  induction ls with
  | nil => intro r n x hx; cases hx
  | cons L q ih =>
    intro r n x hx
    rw [atL] at hx
    split at hx
    · rcases List.mem_cons.mp hx with rfl | hx
      · exact .inl rfl
      · exact ih _ _ x hx
    · rcases List.mem_cons.mp hx with rfl | hx
      · exact .inr rfl
      · exact ih _ _ x hx
theorem num_at (c : Int) (ls : List Int) : ∀ (r : Rch) (n : Int), 0 ≤ n → n < cnt c r ls → numL c r ls (atL c r ls n) = n := by
  induction ls with
  | nil =>
    intro r n h0 h
    rw [cnt] at h
    show (0 : Int) = n
    split at h <;> omega
  | cons L q ih =>
    intro r n h0 h
    rw [cnt] at h
    rw [atL]
    split
    · rename_i hn
      rw [numL, if_neg (by decide), ih _ n h0 hn]; omega
    · rename_i hn
      rw [numL, if_pos rfl, ih _ _ (by omega) (by omega)]; omega
theorem at_sum (c : Int) (ls : List Int) : ∀ (r : Rch) (n : Int), 0 ≤ n → n < cnt c r ls → sumR (rchZ r ((atL c r ls n).zip ls)) ≤ c := by
  induction ls with
  | nil =>
    intro r n h0 h
    rw [cnt] at h
    show sumR r ≤ c
    split at h <;> omega
  | cons L q ih =>
    intro r n h0 h
    rw [cnt] at h
    rw [atL]
    split
    · rename_i hn
      exact ih _ n h0 hn
    · rename_i hn
      exact ih (frR r 1 L) _ (by omega) (by omega)
theorem num_lt (c : Int) (ls : List Int) : ∀ (r : Rch) (fs : List Int), fs.length = ls.length → Two fs → sumR (rchZ r (fs.zip ls)) ≤ c → 0 ≤ numL c r ls fs ∧ numL c r ls fs < cnt c r ls ∧ atL c r ls (numL c r ls fs) = fs := by
  induction ls with
  | nil =>
    intro r fs hl _ hs
    cases List.length_eq_zero_iff.mp hl
    have hs' : sumR r ≤ c := hs
    show 0 ≤ (0 : Int) ∧ (0 : Int) < cnt c r [] ∧ _
    rw [cnt, if_pos hs']; exact ⟨Int.le_refl _, by decide, rfl⟩
  | cons L q ih =>
    intro r fs hl ht hs
    cases fs with
    | nil => simp at hl
    | cons t f =>
      have hf : f.length = q.length := by simpa using hl
      obtain ⟨a1, a2, a3⟩ := ih (frR r t L) f hf (fun x hx => ht x (List.mem_cons_of_mem _ hx)) hs
      have z1 := cnt_nonneg c q (frR r 0 L)
      have z2 := cnt_nonneg c q (frR r 1 L)
      rw [numL, cnt]
      rcases ht t List.mem_cons_self with rfl | rfl
      · rw [if_neg (by decide), Int.zero_add]
        refine ⟨a1, by omega, ?_⟩
        rw [atL, if_pos a2, a3]
      · rw [if_pos rfl]
        refine ⟨by omega, by omega, ?_⟩
        rw [atL, if_neg (by omega)]
        congr 1
        rw [show cnt c (frR r 0 L) q + numL c (frR r 1 L) q f - cnt c (frR r 0 L) q = numL c (frR r 1 L) q f by omega]
        exact a3
/-- the sum of the numbers times what each reach has still -/
def pot (c : Int) (ls : List Int) (kvs : List (Rch × Int)) : Int := (kvs.map fun x => x.2 * cnt c x.1 ls).sum
def lookM (kvs : List (Rch × Int)) (k : Rch) : Option Int := (kvs.find? fun x => decide (x.1 = k)).map (·.2)
def putM (kvs : List (Rch × Int)) (k : Rch) (v : Int) : List (Rch × Int) :=
  if (kvs.any fun x => decide (x.1 = k)) = true then kvs.map (fun x => if x.1 = k then (x.1, v) else x) else kvs ++ [(k, v)]
theorem pot_append (c : Int) (ls : List Int) (a b : List (Rch × Int)) : pot c ls (a ++ b) = pot c ls a + pot c ls b := by
  unfold pot; rw [List.map_append, List.sum_append]
theorem pot_same {c : Int} {ls : List Int} {k : Rch} {v : Int} : ∀ (kvs : List (Rch × Int)), (kvs.any fun x => decide (x.1 = k)) = false → kvs.map (fun x => if x.1 = k then (x.1, v) else x) = kvs
  | [], _ => rfl
  | x :: r, h => by
    rw [List.any_cons, Bool.or_eq_false_iff] at h
    have hx : ¬ x.1 = k := by simpa using h.1
    rw [List.map_cons, if_neg hx, pot_same (c := c) (ls := ls) r h.2]
theorem pot_put {c : Int} {ls : List Int} {k : Rch} {m : Int} : ∀ (kvs : List (Rch × Int)), (kvs.map (·.1)).Nodup → pot c ls (putM kvs k ((lookM kvs k).getD 0 + m)) = pot c ls kvs + m * cnt c k ls := by
  intro kvs hn
  unfold putM
  by_cases ha : (kvs.any fun x => decide (x.1 = k)) = true
  · rw [if_pos ha]
    have key : ∀ (l : List (Rch × Int)), (l.map (·.1)).Nodup → (l.any fun x => decide (x.1 = k)) = true → pot c ls (l.map (fun x => if x.1 = k then (x.1, (lookM l k).getD 0 + m) else x)) = pot c ls l + m * cnt c k ls := by
      intro l
      induction l with
      | nil => intro _ h; cases h
      | cons x r ih =>
        intro hn h
        rw [List.map_cons, List.nodup_cons] at hn
        by_cases hx : x.1 = k
        · have hr : (r.any fun x => decide (x.1 = k)) = false := by
            rw [Bool.eq_false_iff]
            intro z
            obtain ⟨y, hy, e⟩ := List.any_eq_true.mp z
            exact hn.1 (List.mem_map.mpr ⟨y, hy, by rw [hx]; simpa using e⟩)
          have lk : lookM (x :: r) k = some x.2 := by simp [lookM, hx]
          rw [lk, List.map_cons, if_pos hx, pot_same (c := c) (ls := ls) r hr]
          unfold pot
          rw [List.map_cons, List.map_cons, List.sum_cons, List.sum_cons]
          simp only [Option.getD_some, hx]
          rw [Int.add_mul]; omega
        · have lk : lookM (x :: r) k = lookM r k := by simp [lookM, hx]
          have h' : (r.any fun x => decide (x.1 = k)) = true := by
            rw [List.any_cons] at h
            simpa [hx] using h
          have := ih hn.2 h'
          rw [lk, List.map_cons, if_neg hx]
          unfold pot at this ⊢
          rw [List.map_cons, List.map_cons, List.sum_cons, List.sum_cons, this]
          omega
    exact key kvs hn ha
  · rw [if_neg ha, pot_append]
    have lk : lookM kvs k = none := by
      unfold lookM
      rw [List.find?_eq_none.mpr]
      · rfl
      · intro x hx z
        exact ha (List.any_eq_true.mpr ⟨x, hx, z⟩)
    rw [lk]
    simp [pot]
theorem putM_keys (kvs : List (Rch × Int)) (k : Rch) (v : Int) : (putM kvs k v).map (·.1) = if (kvs.any fun x => decide (x.1 = k)) = true then kvs.map (·.1) else kvs.map (·.1) ++ [k] := by
  unfold putM
  split
  · rw [List.map_map]
    apply List.map_congr_left
    intro x _
    show (if x.1 = k then (x.1, v) else x).1 = x.1
    split <;> rfl
  · rw [List.map_append]; rfl
theorem putM_nodup {kvs : List (Rch × Int)} (h : (kvs.map (·.1)).Nodup) (k : Rch) (v : Int) : ((putM kvs k v).map (·.1)).Nodup := by
  rw [putM_keys]
  split
  · exact h
  · rename_i ha
    rw [List.nodup_append]
    refine ⟨h, by simp, fun a h1 b h2 e => ?_⟩
    cases List.mem_singleton.mp h2
    obtain ⟨x, hx, ex⟩ := List.mem_map.mp h1
    exact ha (List.any_eq_true.mpr ⟨x, hx, by simp [ex, e]⟩)
theorem putM_mem {kvs : List (Rch × Int)} {k : Rch} {v : Int} {x : Rch × Int} (h : x ∈ putM kvs k v) : x.1 = k ∨ x ∈ kvs := by
  unfold putM at h
  split at h
  · obtain ⟨y, hy, e⟩ := List.mem_map.mp h
    by_cases hk : y.1 = k
    · rw [if_pos hk] at e; left; rw [← e]; exact hk
    · rw [if_neg hk] at e; right; rw [← e]; exact hy
  · rcases List.mem_append.mp h with h | h
    · exact .inr h
    · cases List.mem_singleton.mp h; exact .inl rfl
theorem putM_len (kvs : List (Rch × Int)) (k : Rch) (v : Int) : (putM kvs k v).length ≤ kvs.length + 1 := by
  unfold putM
  split
  · rw [List.length_map]; omega
  · rw [List.length_append]; exact Nat.le_refl _
/-- one turn of one entry -/
def addC (c L : Int) (found : List (Rch × Int)) (e : Rch × Int) (t : Int) : List (Rch × Int) :=
  if sumR (frR e.1 t L) ≤ c then putM found (frR e.1 t L) ((lookM found (frR e.1 t L)).getD 0 + e.2) else found
def stepC (c L : Int) (es : List (Rch × Int)) : List (Rch × Int) := es.foldl (fun f e => addC c L (addC c L f e 0) e 1) []
theorem stepC_snoc (c L : Int) (es : List (Rch × Int)) (e : Rch × Int) : stepC c L (es ++ [e]) = addC c L (addC c L (stepC c L es) e 0) e 1 := by
  unfold stepC; rw [List.foldl_append]; rfl
structure Cts (c : Int) (kvs : List (Rch × Int)) : Prop where
  nd : (kvs.map (·.1)).Nodup
  ge : ∀ x ∈ kvs, Ge0 x.1 ∧ sumR x.1 ≤ c
theorem Cts.add {c L : Int} {f : List (Rch × Int)} (h : Cts c f) {e : Rch × Int} (g : Ge0 e.1) (hL : 0 ≤ L) (t : Int) : Cts c (addC c L f e t) := by
  unfold addC
  split
  · rename_i hs
    refine ⟨putM_nodup h.nd _ _, fun x hx => ?_⟩
    rcases putM_mem hx with e' | hx
    · rw [e']; exact ⟨g.fr hL, hs⟩
    · exact h.ge x hx
  · exact h
theorem pot_add {c L : Int} {ls : List Int} {f : List (Rch × Int)} (h : Cts c f) {e : Rch × Int} (g : Ge0 e.1) (hL : 0 ≤ L) (hl : ∀ x ∈ ls, 0 ≤ x) (t : Int) : pot c ls (addC c L f e t) = pot c ls f + e.2 * cnt c (frR e.1 t L) ls := by
  unfold addC
  split
  · exact pot_put f h.nd
  · rw [cnt_zero hl (g.fr hL) (by omega)]; simp
theorem stepC_ok {c L : Int} {ls : List Int} (hL : 0 ≤ L) (hl : ∀ x ∈ ls, 0 ≤ x) {kvs : List (Rch × Int)} (h : ∀ x ∈ kvs, Ge0 x.1) : Cts c (stepC c L kvs) ∧ pot c ls (stepC c L kvs) = pot c (L :: ls) kvs := by
  have key : ∀ (l : List (Rch × Int)) (f : List (Rch × Int)), (∀ x ∈ l, Ge0 x.1) → Cts c f → Cts c (l.foldl (fun f e => addC c L (addC c L f e 0) e 1) f) ∧ pot c ls (l.foldl (fun f e => addC c L (addC c L f e 0) e 1) f) = pot c ls f + pot c (L :: ls) l := by
    intro l
    induction l with
    | nil => intro f _ hf; exact ⟨hf, by simp [pot]⟩
    | cons e r ih =>
      intro f hl' hf
      have g := hl' e List.mem_cons_self
      have h1 := hf.add g hL 0
      have h2 := h1.add g hL 1
      obtain ⟨a, b⟩ := ih (addC c L (addC c L f e 0) e 1) (fun x hx => hl' x (List.mem_cons_of_mem _ hx)) h2
      rw [List.foldl_cons]
      refine ⟨a, ?_⟩
      rw [b, pot_add h1 g hL hl, pot_add hf g hL hl]
      have e2 : pot c (L :: ls) (e :: r) = e.2 * (cnt c (frR e.1 0 L) ls + cnt c (frR e.1 1 L) ls) + pot c (L :: ls) r := by
        unfold pot; rw [List.map_cons, List.sum_cons]; rfl
      rw [e2, Int.mul_add]; omega
  have := key kvs [] h ⟨by simp, fun x hx => by cases hx⟩
  refine ⟨this.1, ?_⟩
  have h2 := this.2
  simpa [pot, stepC] using h2
theorem stepC_len {c L : Int} (es : List (Rch × Int)) : (stepC c L es).length ≤ 2 * es.length := by
  have one : ∀ f e t, (addC c L f e t).length ≤ f.length + 1 := fun f e t => by
    unfold addC; split
    · exact putM_len _ _ _
    · exact Nat.le_succ _
  have key : ∀ (l f : List (Rch × Int)), (l.foldl (fun f e => addC c L (addC c L f e 0) e 1) f).length ≤ f.length + 2 * l.length := by
    intro l
    induction l with
    | nil => intro f; exact Nat.le_refl _
    | cons e r ih =>
      intro f
      rw [List.foldl_cons]
      refine Nat.le_trans (ih _) ?_
      have a := one f e 0
      have b := one (addC c L f e 0) e 1
      rw [List.length_cons]; omega
  have := key es []
  simpa [stepC] using this
/-- all of them at the end: the sum of the numbers -/
theorem pot_end {c : Int} {kvs : List (Rch × Int)} (h : Cts c kvs) : pot c [] kvs = (kvs.map (·.2)).sum := by
  unfold pot
  congr 1
  apply List.map_congr_left
  intro x hx
  rw [cnt, if_pos (h.ge x hx).2, Int.mul_one]
def runC (c : Int) (kvs : List (Rch × Int)) (ls : List Int) : List (Rch × Int) := ls.foldl (fun k L => stepC c L k) kvs
theorem runC_snoc (c : Int) (kvs : List (Rch × Int)) (ls : List Int) (L : Int) : runC c kvs (ls ++ [L]) = stepC c L (runC c kvs ls) := by unfold runC; rw [List.foldl_append]; rfl
theorem runC_ok {c : Int} : ∀ (ls : List Int) {kvs : List (Rch × Int)}, (∀ x ∈ ls, 0 ≤ x) → Cts c kvs → Cts c (runC c kvs ls) ∧ ((runC c kvs ls).map (·.2)).sum = pot c ls kvs
  | [], kvs, _, h => ⟨h, (pot_end h).symm⟩
  | L :: ls, kvs, hl, h => by
    obtain ⟨a, b⟩ := stepC_ok (c := c) (hl L List.mem_cons_self) (fun x hx => hl x (List.mem_cons_of_mem _ hx)) (kvs := kvs) fun x hx => (h.ge x hx).1
    obtain ⟨a', b'⟩ := runC_ok ls (fun x hx => hl x (List.mem_cons_of_mem _ hx)) a
    exact ⟨a', b'.trans b⟩
theorem runC_len {c : Int} : ∀ (ls : List Int) (kvs : List (Rch × Int)), (runC c kvs ls).length ≤ 2 ^ ls.length * kvs.length
  | [], kvs => by simp [runC]
  | L :: ls, kvs => by
    have h1 := runC_len (c := c) ls (stepC c L kvs)
    have h2 := stepC_len (c := c) (L := L) kvs
    show (runC c (stepC c L kvs) ls).length ≤ _
    rw [List.length_cons, Nat.pow_succ]
    refine Nat.le_trans h1 ?_
    rw [Nat.mul_assoc]
    exact Nat.mul_le_mul_left _ h2
theorem run_one {c : Int} {r : Rch} (g : Ge0 r) (hs : sumR r ≤ c) {ls : List Int} (hl : ∀ x ∈ ls, 0 ≤ x) : ((runC c [(r, 1)] ls).map (·.2)).sum = cnt c r ls := by
  rw [(runC_ok ls hl (kvs := [(r, 1)]) ⟨by simp, fun x hx => by cases List.mem_singleton.mp hx; exact ⟨g, hs⟩⟩).2]
  simp [pot]
end FR
/-! THE MATHEMATICS G: all foldings in their order -/
namespace FR
theorem numF_cons (t : Int) (f : List Int) : numF (t :: f) = t * 2 ^ f.length + numF f := by
  have key : ∀ (f : List Int) (a : Int), f.foldl (fun n t => 2 * n + t) a = a * 2 ^ f.length + f.foldl (fun n t => 2 * n + t) 0 := by
    intro f
    induction f with
    | nil => intro a; simp
    | cons x r ih =>
      intro a
      rw [List.foldl_cons, ih (2 * a + x), List.foldl_cons, ih (2 * 0 + x), List.length_cons, Int.pow_succ]
      have : (2 * a + x) * 2 ^ r.length = a * (2 ^ r.length * 2) + (2 * 0 + x) * 2 ^ r.length := by
        rw [Int.add_mul, Int.mul_comm 2 a, Int.mul_assoc, Int.mul_comm 2 (2 ^ r.length)]; simp
      omega
  unfold numF
  rw [List.foldl_cons, key]
  simp
/-- the foldings of n hinges in their order, one hinge more at a time -/
def allF : Nat → List (List Int)
  | 0 => [[]]
  | n + 1 => (allF n).flatMap fun r => [r ++ [0], r ++ [1]]
theorem allF_mem (n : Nat) : ∀ f, f ∈ allF n ↔ f.length = n ∧ Two f := by
  induction n with
  | zero =>
    intro f
    constructor
    · intro h; cases List.mem_singleton.mp h; exact ⟨rfl, fun x hx => by cases hx⟩
    · rintro ⟨h, _⟩; cases List.length_eq_zero_iff.mp h; exact List.mem_singleton.mpr rfl
  | succ n ih =>
    intro f
    rw [allF, List.mem_flatMap]
    constructor
    · rintro ⟨r, hr, hf⟩
      obtain ⟨l, t⟩ := (ih r).mp hr
      simp only [List.mem_cons, List.mem_nil_iff, or_false] at hf
      rcases hf with rfl | rfl
      · exact ⟨by simp [l], t.snoc (.inl rfl)⟩
      · exact ⟨by simp [l], t.snoc (.inr rfl)⟩
    · rintro ⟨l, t⟩
      rcases snoc_cases f with rfl | ⟨q, x, rfl⟩
      · simp at l
      refine ⟨q, (ih q).mpr ⟨by simpa using l, fun y hy => t y (List.mem_append_left _ hy)⟩, ?_⟩
      rcases t x (List.mem_append_right _ (List.mem_singleton.mpr rfl)) with rfl | rfl <;> simp
theorem allF_ord (n : Nat) : (allF n).Pairwise fun a b => numF a < numF b := by
  induction n with
  | zero => exact List.pairwise_singleton _ _
  | succ n ih =>
    rw [allF]
    have key : ∀ l : List (List Int), (l.Pairwise fun a b => numF a < numF b) → ((l.flatMap fun r => [r ++ [(0 : Int)], r ++ [1]]).Pairwise fun a b => numF a < numF b) := by
      intro l
      induction l with
      | nil => intro _; exact List.Pairwise.nil
      | cons r q ih2 =>
        intro h
        rw [List.pairwise_cons] at h
        rw [List.flatMap_cons, List.pairwise_append]
        refine ⟨?_, ih2 h.2, fun a ha b hb => ?_⟩
        · rw [List.pairwise_cons]
          refine ⟨fun b hb => ?_, List.pairwise_singleton _ _⟩
          cases List.mem_singleton.mp hb
          rw [numF_snoc, numF_snoc]; omega
        · obtain ⟨r', hr', hb'⟩ := List.mem_flatMap.mp hb
          have := h.1 r' hr'
          simp only [List.mem_cons, List.mem_nil_iff, or_false] at ha hb'
          rcases ha with rfl | rfl <;> rcases hb' with rfl | rfl <;> rw [numF_snoc, numF_snoc] <;> omega
    exact key _ ih
theorem allF_len (n : Nat) : (allF n).length = 2 ^ n := by
  induction n with
  | zero => rfl
  | succ n ih =>
    rw [allF, List.length_flatMap, Nat.pow_succ, ← ih]
    have key : ∀ l : List (List Int), (l.map fun r => ([r ++ [(0 : Int)], r ++ [1]] : List (List Int)).length).sum = l.length * 2 := by
      intro l
      induction l with
      | nil => rfl
      | cons r q ih2 => rw [List.map_cons, List.sum_cons, ih2, List.length_cons]; simp; omega
    exact key _
/-- lists that rise by their numbers, with the same members -/
theorem rise_num : ∀ {a b : List (List Int)}, (a.Pairwise fun x y => numF x < numF y) → (b.Pairwise fun x y => numF x < numF y) → (∀ x, x ∈ a ↔ x ∈ b) → a = b
  | [], [], _, _, _ => rfl
  | [], y :: _, _, _, h => by have := (h y).mpr List.mem_cons_self; cases this
  | x :: _, [], _, _, h => by have := (h x).mp List.mem_cons_self; cases this
  | x :: r, y :: t, ha, hb, h => by
    rw [List.pairwise_cons] at ha hb
    have e : x = y := by
      rcases List.mem_cons.mp ((h x).mp List.mem_cons_self) with e | e
      · exact e
      · rcases List.mem_cons.mp ((h y).mpr List.mem_cons_self) with e' | e'
        · exact e'.symm
        · have := hb.1 x e; have := ha.1 y e'; omega
    subst e
    rw [rise_num ha.2 hb.2 fun z => ?_]
    constructor
    · intro hz
      rcases List.mem_cons.mp ((h z).mp (List.mem_cons_of_mem _ hz)) with e | e
      · have := ha.1 z hz; rw [e] at this; omega
      · exact e
    · intro hz
      rcases List.mem_cons.mp ((h z).mpr (List.mem_cons_of_mem _ hz)) with e | e
      · have := hb.1 z hz; rw [e] at this; omega
      · exact e
theorem due_mem (c : Int) (ls : List Int) : ∀ (r : Rch) (f : List Int), f ∈ dueL c r ls ↔ f.length = ls.length ∧ Two f ∧ sumR (rchZ r (f.zip ls)) ≤ c := by
  induction ls with
  | nil =>
    intro r f
    rw [dueL]
    constructor
    · intro h
      split at h
      · cases List.mem_singleton.mp h; rename_i hs; exact ⟨rfl, fun x hx => (by cases hx), hs⟩
      · cases h
    · rintro ⟨h, _, hs⟩
      cases List.length_eq_zero_iff.mp h
      have hs' : sumR r ≤ c := hs
      rw [if_pos hs']; exact List.mem_singleton.mpr rfl
  | cons L q ih =>
    intro r f
    rw [dueL, List.mem_append]
    constructor
    · rintro (h | h)
      · obtain ⟨g, hg, rfl⟩ := List.mem_map.mp h
        obtain ⟨a, b, c'⟩ := (ih _ _).mp hg
        exact ⟨by simp [a], fun x hx => by
          rcases List.mem_cons.mp hx with rfl | hx
          · exact .inl rfl
          · exact b x hx, c'⟩
      · obtain ⟨g, hg, rfl⟩ := List.mem_map.mp h
        obtain ⟨a, b, c'⟩ := (ih _ _).mp hg
        exact ⟨by simp [a], fun x hx => by
          rcases List.mem_cons.mp hx with rfl | hx
          · exact .inr rfl
          · exact b x hx, c'⟩
    · rintro ⟨h, t, hs⟩
      cases f with
      | nil => simp at h
      | cons x g =>
        have hg : g.length = q.length := by simpa using h
        have tg : Two g := fun y hy => t y (List.mem_cons_of_mem _ hy)
        rcases t x List.mem_cons_self with rfl | rfl
        · exact .inl (List.mem_map.mpr ⟨g, (ih _ _).mpr ⟨hg, tg, hs⟩, rfl⟩)
        · exact .inr (List.mem_map.mpr ⟨g, (ih _ _).mpr ⟨hg, tg, hs⟩, rfl⟩)
theorem due_ord (c : Int) (ls : List Int) : ∀ r : Rch, (dueL c r ls).Pairwise fun a b => numF a < numF b := by
  induction ls with
  | nil => intro r; rw [dueL]; split <;> simp
  | cons L q ih =>
    intro r
    rw [dueL, List.pairwise_append]
    have mp : ∀ (t : Int) (r' : Rch), ((dueL c r' q).map (t :: ·)).Pairwise fun a b => numF a < numF b := fun t r' => by
      rw [List.pairwise_map]
      refine (ih r').imp_of_mem fun {a b} ha hb h => ?_
      rw [numF_cons, numF_cons, ((due_mem c q r' a).mp ha).1, ((due_mem c q r' b).mp hb).1]; omega
    refine ⟨mp 0 _, mp 1 _, fun a ha b hb => ?_⟩
    obtain ⟨g, hg, rfl⟩ := List.mem_map.mp ha
    obtain ⟨g', hg', rfl⟩ := List.mem_map.mp hb
    obtain ⟨l1, t1, _⟩ := (due_mem c q _ g).mp hg
    obtain ⟨l2, t2, _⟩ := (due_mem c q _ g').mp hg'
    have := (numF_ge t1).2
    have := (numF_ge t2).1
    rw [numF_cons, numF_cons, l2]
    rw [l1] at *
    omega
/-- those of all that fit, in their order -/
theorem due_filter {r0 : Int} {ls : List Int} (hr : ∀ x ∈ r0 :: ls, 1 ≤ x) (c : Int) : (allF ls.length).filter (fun f => decide (spanL (r0 :: ls) f ≤ c)) = dueL c (r0, 0) ls := by
  refine rise_num ((allF_ord _).filter _) (due_ord c ls _) fun f => ?_
  rw [List.mem_filter, allF_mem, due_mem, decide_eq_true_eq]
  constructor
  · rintro ⟨⟨a, b⟩, h⟩
    have hF : IsFold (r0 :: ls) f := ⟨by rw [List.length_cons, a], b⟩
    rw [span_rch hF hr] at h
    exact ⟨a, b, h⟩
  · rintro ⟨a, b, h⟩
    have hF : IsFold (r0 :: ls) f := ⟨by rw [List.length_cons, a], b⟩
    exact ⟨⟨a, b⟩, by rw [span_rch hF hr]; exact h⟩
/-- the lesser number has the lesser folding -/
theorem num_mono (c : Int) {ls : List Int} {r : Rch} {n m : Int} (h0 : 0 ≤ n) (h : n < m) (h1 : m < cnt c r ls) : numF (atL c r ls n) < numF (atL c r ls m) := by
  obtain ⟨a, rfl⟩ := Int.eq_ofNat_of_zero_le h0
  obtain ⟨b, rfl⟩ := Int.eq_ofNat_of_zero_le (show 0 ≤ m by omega)
  obtain ⟨a1, a2⟩ := List.getElem?_eq_some_iff.mp (due_at c ls r a (by omega))
  obtain ⟨b1, b2⟩ := List.getElem?_eq_some_iff.mp (due_at c ls r b h1)
  have := (List.pairwise_iff_getElem.mp (due_ord c ls r)) a b a1 b1 (by omega)
  rw [a2, b2] at this; exact this
/-- where all fit, the number is the one by two -/
theorem cnt_all (c : Int) (ls : List Int) : ∀ r : Rch, (∀ f : List Int, f.length = ls.length → Two f → sumR (rchZ r (f.zip ls)) ≤ c) → cnt c r ls = 2 ^ ls.length := by
  induction ls with
  | nil =>
    intro r h
    have h' : sumR r ≤ c := h [] rfl fun x hx => by cases hx
    rw [cnt, if_pos h']; rfl
  | cons L q ih =>
    intro r h
    have step : ∀ t : Int, (t = 0 ∨ t = 1) → cnt c (frR r t L) q = 2 ^ q.length := fun t ht => ih _ fun f hf tf => h (t :: f) (by simp [hf]) fun x hx => by
      rcases List.mem_cons.mp hx with rfl | hx
      · exact ht
      · exact tf x hx
    rw [cnt, step 0 (.inl rfl), step 1 (.inr rfl), List.length_cons, Int.pow_succ]; omega
theorem num_all (c : Int) (ls : List Int) : ∀ (r : Rch) (fs : List Int), (∀ f : List Int, f.length = ls.length → Two f → sumR (rchZ r (f.zip ls)) ≤ c) → fs.length = ls.length → Two fs → numL c r ls fs = numF fs := by
  induction ls with
  | nil => intro r fs _ hl _; cases List.length_eq_zero_iff.mp hl; rfl
  | cons L q ih =>
    intro r fs h hl ht
    cases fs with
    | nil => simp at hl
    | cons t f =>
      have hf : f.length = q.length := by simpa using hl
      have tf : Two f := fun x hx => ht x (List.mem_cons_of_mem _ hx)
      have step : ∀ t : Int, (t = 0 ∨ t = 1) → ∀ f : List Int, f.length = q.length → Two f → sumR (rchZ (frR r t L) (f.zip q)) ≤ c := fun t ht f hf tf => h (t :: f) (by simp [hf]) fun x hx => by
        rcases List.mem_cons.mp hx with rfl | hx
        · exact ht
        · exact tf x hx
      rw [numL, numF_cons, hf]
      rcases ht t List.mem_cons_self with rfl | rfl
      · rw [if_neg (by decide), ih _ f (step 0 (.inl rfl)) hf tf]; simp
      · rw [if_pos rfl, ih _ f (step 1 (.inr rfl)) hf tf, cnt_all c q _ (step 0 (.inl rfl))]; simp
/-- no span is more than all pieces in a row -/
theorem rch_sum (ls : List Int) : ∀ (r : Rch) (f : List Int), Ge0 r → (∀ x ∈ ls, 0 ≤ x) → f.length = ls.length → sumR (rchZ r (f.zip ls)) ≤ sumR r + ls.sum := by
  induction ls with
  | nil => intro r f _ _ hf; cases List.length_eq_zero_iff.mp hf; show sumR r ≤ _; simp
  | cons L q ih =>
    intro r f g hl hf
    cases f with
    | nil => simp at hf
    | cons t f =>
      have hL := hl L List.mem_cons_self
      have := ih (frR r t L) f (g.fr hL) (fun x hx => hl x (List.mem_cons_of_mem _ hx)) (by simpa using hf)
      have h2 : sumR (frR r t L) ≤ sumR r + L := by
        obtain ⟨g1, g2⟩ := g
        unfold frR sumR; split <;> dsimp only <;> omega
      rw [List.sum_cons]
      show sumR (rchZ (frR r t L) (f.zip q)) ≤ _
      omega
end FR
namespace FR
open PySem L2
def top (i : Nat) : Stmt := PySem.Challenge.pw_foldrule_k04_whole_counted_in_order.main.body.getD i (.Pass ⟨0, 0, 0, 0⟩)
abbrev s_check_rule : Stmt := top 9
theorem sc_check_rule : FnScope ["rule", "length"] ["rule"] (defScope s_check_rule) := ⟨rfl, rfl, rfl, by decide +kernel, rfl, by decide +kernel, by decide +kernel⟩
abbrev s_check_folding : Stmt := top 10
theorem sc_check_folding : FnScope ["rule", "folding", "turn"] ["rule", "folding"] (defScope s_check_folding) := ⟨rfl, rfl, rfl, by decide +kernel, rfl, by decide +kernel, by decide +kernel⟩
abbrev s_joints : Stmt := top 11
theorem sc_joints : FnScope ["rule", "folding", "place", "places", "way", "turn", "length"] ["rule", "folding"] (defScope s_joints) := ⟨rfl, rfl, rfl, by decide +kernel, rfl, by decide +kernel, by decide +kernel⟩
abbrev s_span : Stmt := top 12
theorem sc_span : FnScope ["rule", "folding", "places"] ["rule", "folding"] (defScope s_span) := ⟨rfl, rfl, rfl, by decide +kernel, rfl, by decide +kernel, by decide +kernel⟩
abbrev s_fits : Stmt := top 14
theorem sc_fits : FnScope ["rule", "folding", "case"] ["rule", "folding", "case"] (defScope s_fits) := ⟨rfl, rfl, rfl, by decide +kernel, rfl, by decide +kernel, by decide +kernel⟩
abbrev s_first_reach : Stmt := top 15
theorem sc_first_reach : FnScope ["rule"] ["rule"] (defScope s_first_reach) := ⟨rfl, rfl, rfl, by decide +kernel, rfl, by decide +kernel, by decide +kernel⟩
abbrev s_further_reach : Stmt := top 16
theorem sc_further_reach : FnScope ["reach", "turn", "length"] ["reach", "turn", "length"] (defScope s_further_reach) := ⟨rfl, rfl, rfl, by decide +kernel, rfl, by decide +kernel, by decide +kernel⟩
abbrev s_further_counts : Stmt := top 18
theorem sc_further_counts : FnScope ["counts", "length", "case", "found", "reach", "many", "turn", "further"] ["counts", "length", "case"] (defScope s_further_counts) := ⟨rfl, rfl, rfl, by decide +kernel, rfl, by decide +kernel, by decide +kernel⟩
abbrev s_many_beyond : Stmt := top 19
theorem sc_many_beyond : FnScope ["reach", "lengths", "case", "counts", "length"] ["reach", "lengths", "case"] (defScope s_many_beyond) := ⟨rfl, rfl, rfl, by decide +kernel, rfl, by decide +kernel, by decide +kernel⟩
abbrev s_many_going_on : Stmt := top 20
theorem sc_many_going_on : FnScope ["rule", "case", "reach", "hinge", "onward"] ["rule", "case", "reach", "hinge"] (defScope s_many_going_on) := ⟨rfl, rfl, rfl, by decide +kernel, rfl, by decide +kernel, by decide +kernel⟩
abbrev s_many_fits : Stmt := top 21
theorem sc_many_fits : FnScope ["rule", "case"] ["rule", "case"] (defScope s_many_fits) := ⟨rfl, rfl, rfl, by decide +kernel, rfl, by decide +kernel, by decide +kernel⟩
abbrev s_folding_at : Stmt := top 22
theorem sc_folding_at : FnScope ["rule", "case", "number", "reach", "left", "folding", "hinge", "many", "turn"] ["rule", "case", "number"] (defScope s_folding_at) := ⟨rfl, rfl, rfl, by decide +kernel, rfl, by decide +kernel, by decide +kernel⟩
abbrev s_number_of : Stmt := top 23
theorem sc_number_of : FnScope ["rule", "case", "folding", "reach", "number", "hinge", "turn"] ["rule", "case", "folding"] (defScope s_number_of) := ⟨rfl, rfl, rfl, by decide +kernel, rfl, by decide +kernel, by decide +kernel⟩
abbrev s_law_cell_at : Stmt := top 25
theorem sc_law_cell_at : FnScope ["script", "k"] ["script", "k"] (defScope s_law_cell_at) := ⟨rfl, rfl, rfl, by decide +kernel, rfl, by decide +kernel, by decide +kernel⟩
abbrev s_law_draw : Stmt := top 26
theorem sc_law_draw : FnScope ["script", "k", "stir"] ["script", "k"] (defScope s_law_draw) := ⟨rfl, rfl, rfl, by decide +kernel, rfl, by decide +kernel, by decide +kernel⟩
abbrev s_law_whole : Stmt := top 27
theorem sc_law_whole : FnScope ["found"] ["found"] (defScope s_law_whole) := ⟨rfl, rfl, rfl, by decide +kernel, rfl, by decide +kernel, by decide +kernel⟩
abbrev s_law_rule : Stmt := top 28
theorem sc_law_rule : FnScope ["script", "pieces", "most", "rule"] ["script", "pieces"] (defScope s_law_rule) := ⟨rfl, rfl, rfl, by decide +kernel, rfl, by decide +kernel, by decide +kernel⟩
abbrev s_law_folding : Stmt := top 29
theorem sc_law_folding : FnScope ["script", "start", "pieces"] ["script", "start", "pieces"] (defScope s_law_folding) := ⟨rfl, rfl, rfl, by decide +kernel, rfl, by decide +kernel, by decide +kernel⟩
abbrev s_law_joints : Stmt := top 30
theorem sc_law_joints : FnScope ["rule", "folding", "places", "up", "k"] ["rule", "folding"] (defScope s_law_joints) := ⟨rfl, rfl, rfl, by decide +kernel, rfl, by decide +kernel, by decide +kernel⟩
abbrev s_law_span : Stmt := top 31
theorem sc_law_span : FnScope ["rule", "folding", "places"] ["rule", "folding"] (defScope s_law_span) := ⟨rfl, rfl, rfl, by decide +kernel, rfl, by decide +kernel, by decide +kernel⟩
abbrev s_law_all : Stmt := top 32
theorem sc_law_all : FnScope ["hinges", "rows", "k", "longer", "row"] ["hinges"] (defScope s_law_all) := ⟨rfl, rfl, rfl, by decide +kernel, rfl, by decide +kernel, by decide +kernel⟩
abbrev s_law_numbers : Stmt := top 33
theorem sc_law_numbers : FnScope ["found", "due"] ["found", "due"] (defScope s_law_numbers) := ⟨rfl, rfl, rfl, by decide +kernel, rfl, by decide +kernel, by decide +kernel⟩
abbrev s_law_alone : Stmt := top 34
theorem sc_law_alone : FnScope ["e", "found"] ["e"] (defScope s_law_alone) := ⟨rfl, rfl, rfl, by decide +kernel, rfl, by decide +kernel, by decide +kernel⟩
abbrev s_law_refused : Stmt := top 35
theorem sc_law_refused : FnScope ["rule", "case", "number", "found", "e"] ["rule", "case", "number"] (defScope s_law_refused) := ⟨rfl, rfl, rfl, by decide +kernel, rfl, by decide +kernel, by decide +kernel⟩
abbrev s_law : Stmt := top 36
theorem sc_law : FnScope ["script", "rule", "case", "due", "many", "number", "handed", "told"] ["script"] (defScope s_law) := ⟨rfl, rfl, rfl, by decide +kernel, rfl, by decide +kernel, by decide +kernel⟩

end FR
namespace FR
open PySem L2
theorem max_if (i j : Int) : (if j > i then j else i) = max i j := by
  split <;> omega
theorem big_small {n : Nat} (h : n ≤ 100000) : n < sizeLine := by rw [sizeLine_eq]; omega
theorem two_pow {n : Nat} (h : n ≤ 12) : 2 ^ n ≤ 4096 := Nat.pow_le_pow_right (by decide) h
theorem drop_cons {ls : List Int} {i : Nat} {L : Int} (h : ls[i]? = some L) : ls.drop i = L :: ls.drop (i + 1) := by
  obtain ⟨hi, e⟩ := List.getElem?_eq_some_iff.mp h
  rw [List.drop_eq_getElem_cons hi, e]
end FR
namespace FR
open PySem L2
section
variable {P : Program} {w : World} {K : PySem.W.Frag} {mg : Str → Option Value} {base : Heap}
def sp_law_cell_at (K : PySem.W.Frag) : Sp := fun vs H Q _ => ∃ (a : Addr) (ns : List Int) (k : Int), vs = [.ref a, .int k] ∧ SqL K H a (ns.map V.int) ∧ 0 ≤ k ∧ ∀ n, Q (.int n) H
theorem ok_law_cell_at {f : Addr} {fd : FuncData} (F : Fun K "_law_cell_at" "_law_cell_at" s_law_cell_at f fd) (z_len : mg "len" = none) :
    FnOk P w K mg base (CXE P w) 1 f fd ["script", "k"] (sp_law_cell_at K) := by
  refine F.okN sc_law_cell_at (fun vs H Q E h => ?_) (fun cdv A outer s H vs Q E hr h => ?_)
  · obtain ⟨a, ns, k, rfl, _⟩ := h
    rfl
  obtain ⟨a, ns, k, rfl, hS, h0, q⟩ := h
  have ND := sc_law_cell_at.nd
  refine ⟨_, (pss_cons (ps_if (pt_cmpR op_lt (pv 1) (pe_callB (call_lenK K) (by rfl) z_len PySem.boot_len (pa_cons (pv 0) pa_nil)) (nomark _)) (pss_one (ps_ret (pe_ix (ix_listK K) (pv 0) (pv 1) (fun _ _ => rfl)))) pss_nil)
    (pss_one (ps_ret pe_int))), ?_⟩
  walk_at "rd"
  refine ⟨_, hS, ?_⟩
  rw [List.length_map]
  refine ite2 (fun c => ?_) (fun c => q 0)
  obtain ⟨j, rfl⟩ := Int.eq_ofNat_of_zero_le h0
  have hj : j < ns.length := by omega
  exact ⟨_, hS, _, atI_nat (getI (List.getElem?_eq_getElem hj)), q _⟩
/-- a drawn number: only its bounds matter -/
def sp_law_draw (K : PySem.W.Frag) : Sp := fun vs H Q _ => ∃ (a : Addr) (ns : List Int) (k : Int), vs = [.ref a, .int k] ∧ SqL K H a (ns.map V.int) ∧ 0 ≤ k ∧ k ≤ 1000 ∧ ∀ n, 0 ≤ n → n ≤ 268435455 → Q (.int n) H
theorem ok_law_draw {f : Addr} {fd : FuncData} (F : Fun K "_law_draw" "_law_draw" s_law_draw f fd) {f_law_cell_at : Addr} {d_law_cell_at : FuncData} (G_law_cell_at : FnOk P w K mg base (CXE P w) 1 f_law_cell_at d_law_cell_at ["script", "k"] (sp_law_cell_at K)) (m_law_cell_at : mg "_law_cell_at" = some (.ref f_law_cell_at)) (k_law_cell_at : PySem.W.keepIn K (.ref f_law_cell_at) = true) (b_law_cell_at : Binds K d_law_cell_at ["script", "k"] []) :
    FnOk P w K mg base (CXE P w) 2 f fd ["script", "k"] (sp_law_draw K) := by
  refine F.okN sc_law_draw (fun vs H Q E h => ?_) (fun cdv A outer s H vs Q E hr h => ?_)
  · obtain ⟨a, ns, k, rfl, _⟩ := h
    rfl
  obtain ⟨a, ns, k, rfl, hS, h0, h1, q⟩ := h
  have ND := sc_law_draw.nd
  refine ⟨_, (pss_cons (ps_set (i := 2) ND rfl (Or.inl rfl) (pe_op op_mod (pe_op op_mul (pe_op op_add (pe_op op_add (pe_call G_law_cell_at (hr.mono (by omega)) (by rfl) m_law_cell_at k_law_cell_at b_law_cell_at .nil passN (pa_cons (pv 0) (pa_cons (pe_op op_mod (pv 1) pe_int) pa_nil))) (pe_op op_mul pe_int (pv 1))) pe_int) pe_int) pe_int))
    (pss_cons (ps_set (i := 2) ND rfl (Or.inl rfl) (pe_op op_mod (pe_op op_mul (pv 2) (pv 2)) pe_int))
    (pss_one (ps_ret (pe_op op_fdiv (pe_op op_mod (pe_op op_mul (pv 2) pe_int) pe_int) pe_int))))), ?_⟩
  walk_at "rd"
  refine ⟨by decide, a, ns, k % 61, rfl, hS, Int.emod_nonneg _ (by decide), fun n => ?_⟩
  walk_at "rd"
  have l1 : (0 : Int) ≤ (n + 7919 * k + 104729) * 48271 % 2147483647 := Int.emod_nonneg _ (by decide)
  have l2 : (n + 7919 * k + 104729) * 48271 % 2147483647 < 2147483647 := Int.emod_lt_of_pos _ (by decide)
  generalize (n + 7919 * k + 104729) * 48271 % 2147483647 = x at *
  generalize x * x % 2147483647 = y
  have l3 : (0 : Int) ≤ y * 16807 % 2147483647 := Int.emod_nonneg _ (by decide)
  have l4 : y * 16807 % 2147483647 < 2147483647 := Int.emod_lt_of_pos _ (by decide)
  generalize y * 16807 % 2147483647 = z at *
  refine ⟨.inl (by decide), .inr (by decide), by decide, .inl ⟨by omega, by omega⟩, by decide, .inr (by decide), by decide, by decide, by decide, q _ (by omega) (by omega)⟩
def sp_law_whole (K : PySem.W.Frag) : Sp := fun vs H Q _ => ∃ n : Int, vs = [.int n] ∧ Q (.bl true) H
theorem kit_int_int {K : PySem.W.Frag} : PySem.W.kitOne K (.type "int") (.type "int") = some true := by rfl
theorem kit_int_bool {K : PySem.W.Frag} : PySem.W.kitOne K (.type "int") (.type "bool") = some false := by rfl
theorem ok_law_whole {f : Addr} {fd : FuncData} (F : Fun K "_law_whole" "_law_whole" s_law_whole f fd) (z_isinstance : mg "isinstance" = none) (z_bool : mg "bool" = none) (z_int : mg "int" = none) :
    FnOk P w K mg base (CXE P w) 1 f fd ["found"] (sp_law_whole K) := by
  refine F.okN sc_law_whole (fun vs H Q E h => ?_) (fun cdv A outer s H vs Q E hr h => ?_)
  · obtain ⟨n, rfl, _⟩ := h
    rfl
  obtain ⟨n, rfl, q⟩ := h
  refine ⟨_, (pss_one (ps_ret (pe_and (pe_callB (call_isiK K) (by rfl) z_isinstance PyProof.Rows.Boot.«isinstance» (pa_cons (pv 0) (pa_cons (pe_bltn (v := .ty "int") (by rfl) z_int PyProof.Rows.Boot.«int» rfl) pa_nil))) (pe_one (pe_not (pe_callB (call_isiK K) (by rfl) z_isinstance PyProof.Rows.Boot.«isinstance» (pa_cons (pv 0) (pa_cons (pe_bltn (v := .ty "bool") (by rfl) z_bool PyProof.Rows.Boot.«bool» rfl) pa_nil)))))))), ?_⟩
  walk_at "rd"
  refine ⟨_, .int n, _, kit_int_int, ?_⟩
  walk_at "rd"
  exact ⟨_, .int n, _, kit_int_bool, q⟩

/-- a new list: some rule of that many pieces -/
def sp_law_rule (K : PySem.W.Frag) : Sp := fun vs H Q _ => ∃ (a : Addr) (ns : List Int) (k : Int), vs = [.ref a, .int k] ∧ SqL K H a (ns.map V.int) ∧ 1 ≤ k ∧ k ≤ 12 ∧
  ∀ (l : Addr) (H' : Hp) (rs : List Int), NewL H H' l (rs.map V.int) → IsRule rs → (rs.length : Int) = k → Q (.ref l) H'
theorem ok_law_rule {f : Addr} {fd : FuncData} (F : Fun K "_law_rule" "_law_rule" s_law_rule f fd) {f_law_draw : Addr} {d_law_draw : FuncData} (G_law_draw : FnOk P w K mg base (CXE P w) 2 f_law_draw d_law_draw ["script", "k"] (sp_law_draw K)) (m_law_draw : mg "_law_draw" = some (.ref f_law_draw)) (k_law_draw : PySem.W.keepIn K (.ref f_law_draw) = true) (b_law_draw : Binds K d_law_draw ["script", "k"] []) (z_range : mg "range" = none) :
    FnOk P w K mg base (CXE P w) 3 f fd ["script", "pieces"] (sp_law_rule K) := by
  refine F.okN sc_law_rule (fun vs H Q E h => ?_) (fun cdv A outer s H vs Q E hr h => ?_)
  · obtain ⟨a, ns, k, rfl, _⟩ := h
    rfl
  obtain ⟨a, ns, k, rfl, hS, h0, h1, q⟩ := h
  have ND := sc_law_rule.nd
  refine ⟨_, (pss_cons (ps_set (i := 2) ND rfl (Or.inr rfl) (pe_ix (ix_listK K) (pe_lst (pa_cons pe_int (pa_cons pe_int (pa_cons pe_int (pa_cons pe_int pa_nil))))) (pe_op op_mod (pe_call G_law_draw (hr.mono (by omega)) (by rfl) m_law_draw k_law_draw b_law_draw .nil passN (pa_cons (pv 0) (pa_cons pe_int pa_nil))) pe_int) (fun _ _ => rfl)))
    (pss_cons (ps_set (i := 3) ND rfl (Or.inr rfl) (pe_comp (caps := [("most", 2), ("script", 0)]) (comp_scope (by rfl) (by rfl) (by decide) (by rfl)) rfl (pi_range1 (by rfl) z_range (pa_cons (pv 1) pa_nil)) (fun _ _ _ _ => pts_nil) (fun _ _ _ _ => (pe_op op_add pe_int (pe_op op_mod (pe_call G_law_draw (hr.mono (by omega)) (by rfl) m_law_draw k_law_draw b_law_draw .nil passN (pa_cons (pv 2) (pa_cons (pe_op op_add pe_int (pv 0)) pa_nil))) (pv 1))))))
    (pss_cons (ps_if (pt_cmpR op_eq (pe_op op_mod (pe_call G_law_draw (hr.mono (by omega)) (by rfl) m_law_draw k_law_draw b_law_draw .nil passN (pa_cons (pv 0) (pa_cons pe_int pa_nil))) pe_int) pe_int (nomark _)) (pss_one (ps_set (i := 3) ND rfl (Or.inr rfl) (pe_comp (caps := [("rule", 3)]) (comp_scope (by rfl) (by rfl) (by decide) (by rfl)) rfl (pi_range1 (by rfl) z_range (pa_cons (pv 1) pa_nil)) (fun _ _ _ _ => pts_nil) (fun _ _ _ _ => (pe_ix (ix_listK K) (pv 1) (pe_op op_mod (pv 0) pe_int) (fun _ _ => rfl)))))) pss_nil)
    (pss_one (ps_ret (pv 3)))))), ?_⟩
  walk_at "rd"
  refine ⟨by decide, fun p hp => ?_⟩
  have s1 : Same H (upd H p (.lst [.int 4, .int 9, .int 60, .int 20])) := same_new hp _
  have hpp : upd H p (.lst [.int 4, .int 9, .int 60, .int 20]) p = some (.lst [.int 4, .int 9, .int 60, .int 20]) := upd_same
  generalize hH1 : upd H p (.lst [.int 4, .int 9, .int 60, .int 20]) = H1 at *
  refine ⟨a, ns, 2, rfl, s1.seq hS, by decide, by decide, fun d hd0 hd1 => ?_⟩
  have hm : ∃ m : Int, atI ([.int 4, .int 9, .int 60, .int 20] : List V) (d % 4) = some (.int m) ∧ 1 ≤ m ∧ m ≤ 60 := by
    have l1 : 0 ≤ d % 4 := Int.emod_nonneg _ (by decide)
    have l2 : d % 4 < 4 := Int.emod_lt_of_pos _ (by decide)
    have l3 : d % 4 = 0 ∨ d % 4 = 1 ∨ d % 4 = 2 ∨ d % 4 = 3 := by omega
    rcases l3 with e | e | e | e <;> rw [e]
    · exact ⟨4, rfl, by decide, by decide⟩
    · exact ⟨9, rfl, by decide, by decide⟩
    · exact ⟨60, rfl, by decide, by decide⟩
    · exact ⟨20, rfl, by decide, by decide⟩
  obtain ⟨m, hm, m1, m2⟩ := hm
  walk_at "rd"
  refine ⟨by decide, _, SqL.of hpp, _, hm, ?_⟩
  have hS1 : SqL K H1 a (ns.map V.int) := s1.seq hS
  refine ⟨_, rfl, k, rfl, by omega, by omega, comp_range (fun D i H' => SameB D H1 H' ∧ ∃ acc : List Int, H' D = some (.lst (acc.map V.int)) ∧ acc.length = i ∧ ∀ x ∈ acc, 1 ≤ x ∧ x ≤ 60)
    (fun D hD => ⟨(SameB.refl _ _).upd _, [], upd_same, rfl, fun x hx => nomatch hx⟩) (fun D i H' hD hi h => ?_) (fun D H2 hD h => ?_)⟩
  · obtain ⟨h2, acc, h3, h4, h5⟩ := h
    walk_at "rdT"
    refine ⟨a, ns, _, rfl, (h2.same hD).seq hS1, by omega, by omega, fun e he0 he1 => ?_⟩
    walk_at "rd"
    refine ⟨by omega, _, h3, ?_, ?_⟩
    · rw [List.length_map]; exact small12 (by omega)
    · have l1 : 0 ≤ e % m := Int.emod_nonneg _ (by omega)
      have l2 : e % m < m := Int.emod_lt_of_pos _ (by omega)
      refine wn_next hi ⟨h2.upd _, acc ++ [1 + e % m], ?_, by rw [List.length_append, h4]; rfl, fun x hx => ?_⟩
      · rw [upd_same, List.map_append]; rfl
      · rcases List.mem_append.mp hx with hx | hx
        · exact h5 x hx
        · cases List.mem_singleton.mp hx; omega
  · obtain ⟨h2, rs, h3, h4, h5⟩ := h
    have s2 : Same H H2 := s1.trans (h2.same hD)
    have hDn : H D = none := s1.free hD
    refine ⟨a, ns, 3, rfl, s2.seq hS, by decide, by decide, fun d' hd0 hd1 => ?_⟩
    walk_at "rd"
    refine ⟨by decide, ite2 (fun c => ?_) (fun c => q D H2 rs ⟨s2, hDn, h3⟩ ⟨by omega, by omega, fun x hx => (h5 x hx).1, fun x hx => (h5 x hx).2⟩ (by omega))⟩
    refine ⟨_, rfl, k, rfl, by omega, by omega, comp_range (fun D' i H' => SameB D' H2 H' ∧ ∃ acc : List Int, H' D' = some (.lst (acc.map V.int)) ∧ acc.length = i ∧ ∀ x ∈ acc, 1 ≤ x ∧ x ≤ 60)
      (fun D' hD' => ⟨(SameB.refl _ _).upd _, [], upd_same, rfl, fun x hx => nomatch hx⟩) (fun D' i H' hD' hi h => ?_) (fun D' H3 hD' h => ?_)⟩
    · obtain ⟨g2, acc, g3, g4, g5⟩ := h
      walk_at "rdT"
      have li : (0 + (i : Int)) % 2 = ((i % 2 : Nat) : Int) := by omega
      have lt : i % 2 < rs.length := by omega
      refine ⟨by decide, _, SqL.of (g2 D _ (ne_of_none h3 hD') h3), _, by rw [li]; exact atI_nat (getI (List.getElem?_eq_getElem lt)), _, g3, ?_, ?_⟩
      · rw [List.length_map]; exact small12 (by omega)
      · refine wn_next hi ⟨g2.upd _, acc ++ [rs[i % 2]], ?_, by rw [List.length_append, g4]; rfl, fun x hx => ?_⟩
        · rw [upd_same, List.map_append]; rfl
        · rcases List.mem_append.mp hx with hx | hx
          · exact g5 x hx
          · cases List.mem_singleton.mp hx; exact h5 _ (List.getElem_mem lt)
    · obtain ⟨g2, rs', g3, g4, g5⟩ := h
      exact q D' H3 rs' ⟨s2.trans (g2.same hD'), s2.free hD', g3⟩ ⟨by omega, by omega, fun x hx => (g5 x hx).1, fun x hx => (g5 x hx).2⟩ (by omega)
/-- a new list: some folding of a rule of that many pieces -/
def sp_law_folding (K : PySem.W.Frag) : Sp := fun vs H Q _ => ∃ (a : Addr) (ns : List Int) (t k : Int), vs = [.ref a, .int t, .int k] ∧ SqL K H a (ns.map V.int) ∧ 0 ≤ t ∧ t ≤ 100 ∧ 1 ≤ k ∧ k ≤ 12 ∧
  ∀ (l : Addr) (H' : Hp) (fs : List Int), NewL H H' l (fs.map V.int) → (∀ x ∈ fs, x = 0 ∨ x = 1) → (fs.length : Int) + 1 = k → Q (.ref l) H'
theorem ok_law_folding {f : Addr} {fd : FuncData} (F : Fun K "_law_folding" "_law_folding" s_law_folding f fd) {f_law_draw : Addr} {d_law_draw : FuncData} (G_law_draw : FnOk P w K mg base (CXE P w) 2 f_law_draw d_law_draw ["script", "k"] (sp_law_draw K)) (m_law_draw : mg "_law_draw" = some (.ref f_law_draw)) (k_law_draw : PySem.W.keepIn K (.ref f_law_draw) = true) (b_law_draw : Binds K d_law_draw ["script", "k"] []) (z_range : mg "range" = none) :
    FnOk P w K mg base (CXE P w) 3 f fd ["script", "start", "pieces"] (sp_law_folding K) := by
  refine F.okN sc_law_folding (fun vs H Q E h => ?_) (fun cdv A outer s H vs Q E hr h => ?_)
  · obtain ⟨a, ns, t, k, rfl, _⟩ := h
    rfl
  obtain ⟨a, ns, t, k, rfl, hS, t0, t1, h0, h1, q⟩ := h
  have ND := sc_law_folding.nd
  refine ⟨_, (pss_one (ps_ret (pe_comp (caps := [("script", 0), ("start", 1)]) (comp_scope (by rfl) (by rfl) (by decide) (by rfl)) rfl (pi_range1 (by rfl) z_range (pa_cons (pe_op op_sub (pv 2) pe_int) pa_nil)) (fun _ _ _ _ => pts_nil) (fun _ _ _ _ => (pe_op op_mod (pe_call G_law_draw (hr.mono (by omega)) (by rfl) m_law_draw k_law_draw b_law_draw .nil passN (pa_cons (pv 1) (pa_cons (pe_op op_add (pv 2) (pv 0)) pa_nil))) pe_int))))), ?_⟩
  refine ⟨_, rfl, _, _, rfl, rfl, k - 1, rfl, by omega, by omega, comp_range (fun D i H' => SameB D H H' ∧ ∃ acc : List Int, H' D = some (.lst (acc.map V.int)) ∧ acc.length = i ∧ ∀ x ∈ acc, x = 0 ∨ x = 1)
    (fun D hD => ⟨(SameB.refl _ _).upd _, [], upd_same, rfl, fun x hx => nomatch hx⟩) (fun D i H' hD hi h => ?_) (fun D H2 hD h => ?_)⟩
  · obtain ⟨h2, acc, h3, h4, h5⟩ := h
    walk_at "rdT"
    refine ⟨a, ns, _, rfl, (h2.same hD).seq hS, by omega, by omega, fun e he0 he1 => ?_⟩
    walk_at "rd"
    refine ⟨by decide, _, h3, ?_, ?_⟩
    · rw [List.length_map]; exact small12 (by omega)
    · have l1 : 0 ≤ e % 2 := Int.emod_nonneg _ (by decide)
      have l2 : e % 2 < 2 := Int.emod_lt_of_pos _ (by decide)
      refine wn_next hi ⟨h2.upd _, acc ++ [e % 2], ?_, by rw [List.length_append, h4]; rfl, fun x hx => ?_⟩
      · rw [upd_same, List.map_append]; rfl
      · rcases List.mem_append.mp hx with hx | hx
        · exact h5 x hx
        · cases List.mem_singleton.mp hx; omega
  · obtain ⟨h2, fs, h3, h4, h5⟩ := h
    exact q D H2 fs ⟨h2.same hD, hD, h3⟩ h5 (by omega)
/-- a new list with the joints, walked by the law -/
def sp_law_joints (K : PySem.W.Frag) : Sp := fun vs H Q _ => ∃ (a b : Addr) (rs fs : List Int), vs = [.ref a, .ref b] ∧ H a = some (.lst (rs.map V.int)) ∧ H b = some (.lst (fs.map V.int)) ∧ rs.length ≤ 12 ∧ fs.length + 1 = rs.length ∧
  ∀ (l : Addr) (H' : Hp), NewL H H' l ((jointsL rs fs).map V.int) → Q (.ref l) H'
theorem last_at (zs : List (Int × Int)) : atI ((0 :: scanJ (0, 1) zs).map V.int) (-1) = some (.int (zs.foldl stepJ (0, 1)).1) := by
  have h := getI (last_scanJ zs)
  have l : ((0 :: scanJ (0, 1) zs).map V.int).length = zs.length + 1 := by rw [List.length_map, List.length_cons, scanJ_length]
  unfold atI ixN
  rw [if_neg (by decide), l, if_pos (by omega), Option.bind_some]
  rw [show ((-1 : Int) + ((zs.length + 1 : Nat) : Int)).toNat = zs.length by omega]
  exact h
theorem ok_law_joints {f : Addr} {fd : FuncData} (F : Fun K "_law_joints" "_law_joints" s_law_joints f fd) (z_range : mg "range" = none) (z_len : mg "len" = none) :
    FnOk P w K mg base (CXE P w) 1 f fd ["rule", "folding"] (sp_law_joints K) := by
  refine F.okN sc_law_joints (fun vs H Q E h => ?_) (fun cdv A outer s H vs Q E hr h => ?_)
  · obtain ⟨a, b, rs, fs, rfl, _⟩ := h
    rfl
  obtain ⟨a, b, rs, fs, rfl, hS, hT, hR, hF, q⟩ := h
  have ND := sc_law_joints.nd
  refine ⟨_, (pss_cons (ps_set (i := 2) ND rfl (Or.inl rfl) (pe_lst (pa_cons pe_int pa_nil)))
    (pss_cons (ps_set (i := 3) ND rfl (Or.inl rfl) pe_bl)
    (pss_cons (ps_for PassesOwn.never rfl (pi_range1 (by rfl) z_range (pa_cons (pe_callB (call_lenK K) (by rfl) z_len PySem.boot_len (pa_cons (pv 0) pa_nil)) pa_nil)) (pg_name (i := 4) ND rfl (Or.inl rfl)) (pss_cons (ps_if (pw_and (pt_cmpR op_gt (pv 4) pe_int (nomark _)) (pw_and1 (pt_cmpR op_eq (pe_ix (ix_listK K) (pv 1) (pe_op op_sub (pv 4) pe_int) (fun _ _ => rfl)) pe_int (nomark _)))).pt (pss_one (ps_set (i := 3) ND rfl (Or.inl rfl) (pe_not (pv 3)))) pss_nil)
    (pss_one (ps_if (pt_truthK K (pv 3) (fun _ => rfl)) (pss_one (ps_expr (pe_bmK K PySem.F.plainAttrs_list PySem.F.slot_list_append PySem.F.type_list_append mt_append (pv 2) (pa_cons (pe_op op_add (pe_ix (ix_listK K) (pv 2) (pe_un un_neg pe_int) (fun _ _ => rfl)) (pe_ix (ix_listK K) (pv 0) (pv 4) (fun _ _ => rfl))) pa_nil)))) (pss_one (ps_expr (pe_bmK K PySem.F.plainAttrs_list PySem.F.slot_list_append PySem.F.type_list_append mt_append (pv 2) (pa_cons (pe_op op_sub (pe_ix (ix_listK K) (pv 2) (pe_un un_neg pe_int) (fun _ _ => rfl)) (pe_ix (ix_listK K) (pv 0) (pv 4) (fun _ _ => rfl))) pa_nil))))))))
    (pss_one (ps_ret (pv 2)))))), ?_⟩
  walk_at "rd"
  refine ⟨(by decide : 1 ≤ sizeLine), fun p hp => ?_⟩
  have s1 : Same H (upd H p (.lst [.int 0])) := same_new hp _
  have pp : upd H p (.lst [.int 0]) p = some (.lst [.int 0]) := upd_same
  have zl : (zipJ rs fs).length = rs.length := by unfold zipJ; rw [List.length_zip, List.length_cons]; omega
  refine ⟨_, rfl, a, _, rfl, SqL.of (s1 _ _ hS), rs.length, by rw [List.length_map], by omega, by omega, ?_⟩
  rw [Int.toNat_natCast]
  refine for_range (lo := 0) (n := rs.length) (fun i σ H' => H' p = some (.lst ((0 :: scanJ (0, 1) ((zipJ rs fs).take i)).map V.int)) ∧ SameB p H H' ∧ ∃ o, σ = [some (.ref a), some (.ref b), some (.ref p), some (.bl (decide ((((zipJ rs fs).take i).foldl stepJ (0, 1)).2 = 1))), o])
    ⟨pp, (SameB.refl _ _).upd _, _, rfl⟩ (fun i σ H' hi h => ?_) (fun σ H' h => ?_)
  · obtain ⟨h1, h2, o, rfl⟩ := h
    have hw := way_one ((zipJ rs fs).take i)
    have ht : ((0 : Int) :: fs)[i]? = some (((0 : Int) :: fs)[i]'(by rw [List.length_cons]; omega)) := List.getElem?_eq_getElem _
    have hl : rs[i]? = some rs[i] := List.getElem?_eq_getElem hi
    generalize ((0 : Int) :: fs)[i]'(by rw [List.length_cons]; omega) = t at ht
    generalize rs[i] = l at hl
    have hz : (zipJ rs fs)[i]? = some (t, l) := PyProof.Rows.zip_get ht hl
    have tk := take_snoc hz
    have lT := last_at ((zipJ rs fs).take i)
    have ln : ((0 :: scanJ (0, 1) ((zipJ rs fs).take i)).map V.int).length < sizeLine := by
      rw [List.length_map, List.length_cons, scanJ_length, List.length_take]
      exact small12 (by omega)
    have hat : atI (rs.map V.int) (0 + (i : Int)) = some (.int l) := by rw [Int.zero_add]; exact atI_nat (getI hl)
    have ha' : H' a = some (.lst (rs.map V.int)) := h2 a _ (ne_of_none hS hp) hS
    have hb' : H' b = some (.lst (fs.map V.int)) := h2 b _ (ne_of_none hT hp) hT
    have hb2 : 0 < i → atI (fs.map V.int) (0 + (i : Int) - 1) = some (.int t) := fun hpos => by
      obtain ⟨j, rfl⟩ : ∃ j, i = j + 1 := ⟨i - 1, by omega⟩
      rw [show (0 : Int) + ((j + 1 : Nat) : Int) - 1 = (j : Int) by omega]
      exact atI_nat (getI (by simpa using ht))
    have ht0 : i = 0 → t = 0 := fun e => by subst e; simpa using ht.symm
    have fin : ∀ w' : Int, w' = (if t = 1 then -(((zipJ rs fs).take i).foldl stepJ (0, 1)).2 else (((zipJ rs fs).take i).foldl stepJ (0, 1)).2) → ∀ x : Int, x = (((zipJ rs fs).take i).foldl stepJ (0, 1)).1 + w' * l →
        upd H' p (.lst ((0 :: scanJ (0, 1) ((zipJ rs fs).take i)).map V.int ++ [.int x])) p = some (.lst ((0 :: scanJ (0, 1) ((zipJ rs fs).take (i + 1))).map V.int)) ∧ SameB p H (upd H' p (.lst ((0 :: scanJ (0, 1) ((zipJ rs fs).take i)).map V.int ++ [.int x]))) ∧
        decide (w' = 1) = decide ((((zipJ rs fs).take (i + 1)).foldl stepJ (0, 1)).2 = 1) := fun w' hw' x hx => by
      refine ⟨?_, h2.upd _, ?_⟩
      · rw [upd_same, tk, scanJ_snoc, hx, hw', ← List.cons_append, List.map_append]; rfl
      · rw [tk, List.foldl_append, hw']; rfl
    simp only [List.map_cons] at fin
    generalize (((zipJ rs fs).take i).foldl stepJ (0, 1)).2 = T2 at *
    generalize (((zipJ rs fs).take i).foldl stepJ (0, 1)).1 = T1 at *
    walk_at "rd"
    have pl := fun (e : (1 : Int) = (if t = 1 then -T2 else T2)) => fin 1 e (T1 + l) (by omega)
    have mn := fun (e : (-1 : Int) = (if t = 1 then -T2 else T2)) => fin (-1) e (T1 - l) (by omega)
    by_cases hpos : 0 < i
    · rw [if_pos (by omega)]
      refine ⟨_, SqL.of hb', _, hb2 hpos, scalII _ _, ?_⟩
      simp only [V.int.injEq]
      by_cases h1' : t = 1
      · rw [if_pos h1']
        rcases hw with hw | hw
        · rw [if_neg (by omega)]
          obtain ⟨z1, z2, z3⟩ := mn (by rw [if_pos h1', hw])
          exact ⟨tyL h1, _, SqL.of h1, _, lT, _, SqL.of ha', _, hat, _, rfl, _, rfl, _, h1, ln, z1, z2, by rw [← z3, hw]; rfl⟩
        · rw [if_pos (by omega)]
          obtain ⟨z1, z2, z3⟩ := pl (by rw [if_pos h1', hw]; rfl)
          exact ⟨tyL h1, _, SqL.of h1, _, lT, _, SqL.of ha', _, hat, _, rfl, _, rfl, _, h1, ln, z1, z2, by rw [← z3, hw]; rfl⟩
      · rw [if_neg h1']
        rcases hw with hw | hw
        · rw [if_pos hw]
          obtain ⟨z1, z2, z3⟩ := pl (by rw [if_neg h1', hw])
          exact ⟨tyL h1, _, SqL.of h1, _, lT, _, SqL.of ha', _, hat, _, rfl, _, rfl, _, h1, ln, z1, z2, by rw [← z3, hw]⟩
        · rw [if_neg (by omega)]
          obtain ⟨z1, z2, z3⟩ := mn (by rw [if_neg h1', hw])
          exact ⟨tyL h1, _, SqL.of h1, _, lT, _, SqL.of ha', _, hat, _, rfl, _, rfl, _, h1, ln, z1, z2, by rw [← z3, hw]⟩
    · rw [if_neg (by omega)]
      have h1' : ¬ t = 1 := by have := ht0 (by omega); omega
      rcases hw with hw | hw
      · rw [if_pos hw]
        obtain ⟨z1, z2, z3⟩ := pl (by rw [if_neg h1', hw])
        exact ⟨tyL h1, _, SqL.of h1, _, lT, _, SqL.of ha', _, hat, _, rfl, _, rfl, _, h1, ln, z1, z2, by rw [← z3, hw]⟩
      · rw [if_neg (by omega)]
        obtain ⟨z1, z2, z3⟩ := mn (by rw [if_neg h1', hw])
        exact ⟨tyL h1, _, SqL.of h1, _, lT, _, SqL.of ha', _, hat, _, rfl, _, rfl, _, h1, ln, z1, z2, by rw [← z3, hw]⟩
  · obtain ⟨h1, h2, o, rfl⟩ := h
    refine ⟨_, rfl, q p H' ⟨h2.same hp, hp, ?_⟩⟩
    rw [h1, List.take_of_length_le (by omega)]
    rfl
def sp_law_span (K : PySem.W.Frag) : Sp := fun vs H Q _ => ∃ (a b : Addr) (rs fs : List Int), vs = [.ref a, .ref b] ∧ H a = some (.lst (rs.map V.int)) ∧ H b = some (.lst (fs.map V.int)) ∧ rs.length ≤ 12 ∧ fs.length + 1 = rs.length ∧
  ∀ H' : Hp, Same H H' → Q (.int (spanL rs fs)) H'
theorem ok_law_span {f : Addr} {fd : FuncData} (F : Fun K "_law_span" "_law_span" s_law_span f fd) {f_law_joints : Addr} {d_law_joints : FuncData} (G_law_joints : FnOk P w K mg base (CXE P w) 1 f_law_joints d_law_joints ["rule", "folding"] (sp_law_joints K)) (m_law_joints : mg "_law_joints" = some (.ref f_law_joints)) (k_law_joints : PySem.W.keepIn K (.ref f_law_joints) = true) (b_law_joints : Binds K d_law_joints ["rule", "folding"] []) (z_sorted : mg "sorted" = none) :
    FnOk P w K mg base (CXE P w) 2 f fd ["rule", "folding"] (sp_law_span K) := by
  refine F.okN sc_law_span (fun vs H Q E h => ?_) (fun cdv A outer s H vs Q E hr h => ?_)
  · obtain ⟨a, b, rs, fs, rfl, _⟩ := h
    rfl
  obtain ⟨a, b, rs, fs, rfl, hS, hT, hR, hF, q⟩ := h
  have ND := sc_law_span.nd
  refine ⟨_, (pss_cons (ps_set (i := 2) ND rfl (Or.inl rfl) (pe_callB (call_sortedK K) (by rfl) z_sorted PyProof.Rows.Boot.«sorted» (pa_cons (pe_call G_law_joints (hr.mono (by omega)) (by rfl) m_law_joints k_law_joints b_law_joints .nil passN (pa_cons (pv 0) (pa_cons (pv 1) pa_nil))) pa_nil)))
    (pss_one (ps_ret (pe_op op_sub (pe_ix (ix_listK K) (pv 2) (pe_un un_neg pe_int) (fun _ _ => rfl)) (pe_ix (ix_listK K) (pv 2) pe_int (fun _ _ => rfl)))))), ?_⟩
  walk_at "rd"
  refine ⟨a, b, rs, fs, rfl, hS, hT, hR, hF, fun l H' hN => ?_⟩
  walk_at "rd"
  have hlen := joints_length hF
  refine ⟨_, SqL.of hN.at_, by omega, fun l2 ms hl2 hp hs => ?_⟩
  have ml := hp.length_eq
  have e1 : ms[ms.length - 1]? = some (ms[ms.length - 1]'(by omega)) := List.getElem?_eq_getElem _
  have e2 : ms[0]? = some (ms[0]'(by omega)) := List.getElem?_eq_getElem _
  have i1 : atI (ms.map V.int) (-1) = some (.int (ms[ms.length - 1]'(by omega))) := by
    unfold atI ixN
    rw [if_neg (by decide), List.length_map, if_pos (by omega), Option.bind_some, show ((-1 : Int) + (ms.length : Int)).toNat = ms.length - 1 by omega]
    exact getI e1
  refine ⟨_, SqL.of upd_same, _, i1, _, SqL.of upd_same, _, atI_nat (j := 0) (getI e2), _, rfl, _, rfl, ?_⟩
  have m1 := sorted_last hp hs (by omega) e1
  have m2 := sorted_first hp hs e2
  rw [max_is (zero_mem_joints rs fs) m1.1 m1.2, min_is (zero_mem_joints rs fs) m2.1 m2.2]
  exact q _ (same_tup hN.same hl2 _)
/-- two lists of ints: the same ints -/
def sp_law_numbers (K : PySem.W.Frag) : Sp := fun vs H Q _ => ∃ (a b : Addr) (ns ms : List Int), vs = [.ref a, .ref b] ∧ H a = some (.lst (ns.map V.int)) ∧ H b = some (.lst (ms.map V.int)) ∧ ns.length ≤ 850 ∧ ns = ms ∧
  ∀ H' : Hp, Same H H' → Q (.bl true) H'
theorem kit_list {K : PySem.W.Frag} : PySem.W.kitOne K (.type "list") (.type "list") = some true := by rfl
theorem no_false (n : Nat) : inV (.bl false) (List.replicate n (V.bl true)) = false := by
  induction n with
  | zero => rfl
  | succ n ih => rw [List.replicate_succ]; exact ih
theorem ok_law_numbers {f : Addr} {fd : FuncData} (F : Fun K "_law_numbers" "_law_numbers" s_law_numbers f fd) {f_law_whole : Addr} {d_law_whole : FuncData} (G_law_whole : FnOk P w K mg base (CXE P w) 1 f_law_whole d_law_whole ["found"] (sp_law_whole K)) (m_law_whole : mg "_law_whole" = some (.ref f_law_whole)) (k_law_whole : PySem.W.keepIn K (.ref f_law_whole) = true) (b_law_whole : Binds K d_law_whole ["found"] []) (z_isinstance : mg "isinstance" = none) (z_list : mg "list" = none) :
    FnOk P w K mg base (CXE P w) 2 f fd ["found", "due"] (sp_law_numbers K) := by
  refine F.okN sc_law_numbers (fun vs H Q E h => ?_) (fun cdv A outer s H vs Q E hr h => ?_)
  · obtain ⟨a, b, ns, ms, rfl, _⟩ := h
    rfl
  obtain ⟨a, b, ns, ms, rfl, hS, hT, hL, hE, q⟩ := h
  have ND := sc_law_numbers.nd
  have hu64 := hu64_of hr
  refine ⟨_, (pss_cons (ps_if (pw_or (pt_not (pt_truthK K (pe_callB (call_isiK K) (by rfl) z_isinstance PyProof.Rows.Boot.«isinstance» (pa_cons (pv 0) (pa_cons (pe_bltn (v := .ty "list") (by rfl) z_list PyProof.Rows.Boot.«list» rfl) pa_nil))) (fun _ => rfl))) (pw_or1 (pt_cmpR (op_neIK K hu64) (pv 0) (pv 1) (nomark _)))).pt (pss_one (ps_ret pe_bl)) pss_nil)
    (pss_one (ps_ret (pe_cmpR (op_notInK K) pe_bl (pe_comp (caps := []) (comp_scope (by rfl) (by rfl) (by decide) (by rfl)) rfl (pi_listK K (pv 0)) (fun _ _ _ _ => pts_nil) (fun _ _ _ _ => (pe_call G_law_whole (hr.mono (by omega)) (by rfl) m_law_whole k_law_whole b_law_whole .nil passN (pa_cons (pv 0) pa_nil)))) (by with_unfolding_all rfl))))), ?_⟩
  walk_at "rd"
  refine ⟨_, .lst hS, _, kit_list, ?_⟩
  rw [if_neg (by decide)]
  refine ⟨ns, SqL.of hS, ms, SqL.of hT, ?_⟩
  rw [if_neg (fun z => z hE)]
  refine ⟨_, rfl, a, rfl, ⟨_, SqL.of hS⟩, comp_list (xs := ns.map V.int) (fun D i H' => SameB D H H' ∧ H' D = some (.lst (List.replicate i (V.bl true)))) (fun D hD => ⟨(SameB.refl _ _).upd _, upd_same⟩)
    (fun D i H' hD _ h => SqL.of (h.1 a _ (ne_of_none hS hD) hS)) (fun D i x H' hD hx h => ?_) (fun D H2 hD h => ?_)⟩
  · obtain ⟨h1, h2⟩ := h
    obtain ⟨n, hn, rfl⟩ := ofGetI hx
    have li := (List.getElem?_eq_some_iff.mp hn).1
    walk_at "rdT"
    refine ⟨n, rfl, _, h2, ?_, wn_next (by rw [List.length_map]; exact li) ⟨h1.upd _, ?_⟩⟩
    · rw [List.length_replicate]; exact small12 (by omega)
    · rw [upd_same, List.replicate_succ']
  · obtain ⟨h1, h2⟩ := h
    refine ⟨D, _, rfl, .inl (SqL.of h2), rfl, ?_, ?_⟩
    · rw [List.all_eq_true]
      intro x hx
      rw [List.eq_of_mem_replicate hx]; rfl
    · rw [if_pos rfl, no_false]
      exact q H2 (h1.same hD)
end
end FR
namespace FR
open PySem L2
def sp_check_rule (K : PySem.W.Frag) : Sp := fun vs H Q _ => ∃ (a : Addr) (rs : List Int), vs = [.ref a] ∧ SqL K H a (rs.map V.int) ∧ IsRule rs ∧ Q .non H
section
variable {P : Program} {w : World} {K : PySem.W.Frag} {mg : Str → Option Value} {base : Heap}
theorem ok_check_rule {f : Addr} {fd : FuncData} (F : Fun K "check_rule" "check_rule" s_check_rule f fd) (z_len : mg "len" = none) {t_LONGEST_PIECE : Tok} (m_LONGEST_PIECE : mg "LONGEST_PIECE" = some (.int 60 t_LONGEST_PIECE)) {t_MOST_PIECES : Tok} (m_MOST_PIECES : mg "MOST_PIECES" = some (.int 12 t_MOST_PIECES)) :
    FnOk P w K mg base (CXE P w) 1 f fd ["rule"] (sp_check_rule K) := by
  refine F.okN sc_check_rule (fun vs H Q E h => ?_) (fun cdv A outer s H vs Q E hr h => ?_)
  · obtain ⟨a, rs, rfl, _⟩ := h
    rfl
  obtain ⟨a, rs, rfl, hS, hR, q⟩ := h
  have ND := sc_check_rule.nd
  refine ⟨_, (pss_cons (ps_if (pw_or (pt_cmpR op_lt (pe_callB (call_lenK K) (by rfl) z_len PySem.boot_len (pa_cons (pv 0) pa_nil)) pe_int (nomark _)) (pw_or1 (pt_cmpR op_gt (pe_callB (call_lenK K) (by rfl) z_len PySem.boot_len (pa_cons (pv 0) pa_nil)) (pe_glob (v := .int 12) (by rfl) m_MOST_PIECES ⟨_, rfl⟩) (nomark _)))).pt (pss_one ps_never) pss_nil)
    (pss_one (ps_for PassesOwn.never rfl (pi_listK K (pv 0)) (pg_name (i := 1) ND rfl (Or.inl rfl)) (pss_one (ps_if (pw_or (pt_cmpR op_lt (pv 1) pe_int (nomark _)) (pw_or1 (pt_cmpR op_gt (pv 1) (pe_glob (v := .int 60) (by rfl) m_LONGEST_PIECE ⟨_, rfl⟩) (nomark _)))).pt (pss_one ps_never) pss_nil))))), ?_⟩
  walk_at "rd"
  have h1 := hR.some
  have h2 := hR.few
  refine ⟨_, hS, ?_⟩
  rw [List.length_map, if_neg (by omega)]
  refine ⟨_, hS, ?_⟩
  rw [List.length_map, if_neg (by omega)]
  refine ⟨_, rfl, a, rfl, ⟨_, hS⟩, for_list (xs := rs.map V.int) (fun i σ H' => H' = H ∧ ∃ o, σ = [some (.ref a), o]) ⟨rfl, _, rfl⟩ (fun i σ H' _ h => h.1 ▸ hS) (fun i x σ H' hx h => ?_) (fun σ H' h => ?_)⟩
  · obtain ⟨rfl, o, rfl⟩ := h
    obtain ⟨n, hn, rfl⟩ := ofGetI hx
    walk_at "rd"
    have l1 := hR.lo n (List.mem_of_getElem? hn)
    have l2 := hR.hi n (List.mem_of_getElem? hn)
    rw [if_neg (by omega), if_neg (by omega)]
    trivial
  · obtain ⟨rfl, _⟩ := h
    exact q

def sp_check_folding (K : PySem.W.Frag) : Sp := fun vs H Q _ => ∃ (a b : Addr) (rs fs : List Int), vs = [.ref a, .ref b] ∧ SqL K H a (rs.map V.int) ∧ SqL K H b (fs.map V.int) ∧ IsRule rs ∧ IsFold rs fs ∧ Q .non H
theorem ok_check_folding {f : Addr} {fd : FuncData} (F : Fun K "check_folding" "check_folding" s_check_folding f fd) {f_check_rule : Addr} {d_check_rule : FuncData} (G_check_rule : FnOk P w K mg base (CXE P w) 1 f_check_rule d_check_rule ["rule"] (sp_check_rule K)) (m_check_rule : mg "check_rule" = some (.ref f_check_rule)) (k_check_rule : PySem.W.keepIn K (.ref f_check_rule) = true) (b_check_rule : Binds K d_check_rule ["rule"] []) (z_len : mg "len" = none) :
    FnOk P w K mg base (CXE P w) 2 f fd ["rule", "folding"] (sp_check_folding K) := by
  refine F.okN sc_check_folding (fun vs H Q E h => ?_) (fun cdv A outer s H vs Q E hr h => ?_)
  · obtain ⟨a, b, rs, fs, rfl, _⟩ := h
    rfl
  obtain ⟨a, b, rs, fs, rfl, hS, hT, hR, hF, q⟩ := h
  have ND := sc_check_folding.nd
  refine ⟨_, (pss_cons (ps_expr (pe_call G_check_rule (hr.mono (by omega)) (by rfl) m_check_rule k_check_rule b_check_rule .nil passN (pa_cons (pv 0) pa_nil)))
    (pss_cons (ps_if (pt_cmpR op_ne (pe_callB (call_lenK K) (by rfl) z_len PySem.boot_len (pa_cons (pv 1) pa_nil)) (pe_op op_sub (pe_callB (call_lenK K) (by rfl) z_len PySem.boot_len (pa_cons (pv 0) pa_nil)) pe_int) (nomark _)) (pss_one ps_never) pss_nil)
    (pss_one (ps_for PassesOwn.never rfl (pi_listK K (pv 1)) (pg_name (i := 2) ND rfl (Or.inl rfl)) (pss_one (ps_if (pw_and (pt_cmpR op_ne (pv 2) pe_int (nomark _)) (pw_and1 (pt_cmpR op_ne (pv 2) pe_int (nomark _)))).pt (pss_one ps_never) pss_nil)))))), ?_⟩
  walk_at "rd"
  refine ⟨a, rs, rfl, hS, hR, ?_⟩
  refine ⟨_, hT, _, hS, ?_⟩
  have h1 := hF.len
  rw [List.length_map, List.length_map, if_neg (by omega)]
  refine ⟨_, rfl, b, rfl, ⟨_, hT⟩, for_list (xs := fs.map V.int) (fun i σ H' => H' = H ∧ ∃ o, σ = [some (.ref a), some (.ref b), o]) ⟨rfl, _, rfl⟩ (fun i σ H' _ h => h.1 ▸ hT) (fun i x σ H' hx h => ?_) (fun σ H' h => ?_)⟩
  · obtain ⟨rfl, o, rfl⟩ := h
    obtain ⟨n, hn, rfl⟩ := ofGetI hx
    walk_at "rd"
    have l1 := hF.two n (List.mem_of_getElem? hn)
    rcases l1 with rfl | rfl <;> simp
  · obtain ⟨rfl, _⟩ := h
    exact q
/-- a new list with the joints -/
def sp_joints (K : PySem.W.Frag) : Sp := fun vs H Q _ => ∃ (a b : Addr) (rs fs : List Int), vs = [.ref a, .ref b] ∧ H a = some (.lst (rs.map V.int)) ∧ H b = some (.lst (fs.map V.int)) ∧ IsRule rs ∧ IsFold rs fs ∧
  ∀ (l : Addr) (H' : Hp), NewL H H' l ((jointsL rs fs).map V.int) → Q (.ref l) H'
theorem ok_joints {f : Addr} {fd : FuncData} (F : Fun K "joints" "joints" s_joints f fd) {f_check_folding : Addr} {d_check_folding : FuncData} (G_check_folding : FnOk P w K mg base (CXE P w) 2 f_check_folding d_check_folding ["rule", "folding"] (sp_check_folding K)) (m_check_folding : mg "check_folding" = some (.ref f_check_folding)) (k_check_folding : PySem.W.keepIn K (.ref f_check_folding) = true) (b_check_folding : Binds K d_check_folding ["rule", "folding"] []) (z_zip : mg "zip" = none) :
    FnOk P w K mg base (CXE P w) 3 f fd ["rule", "folding"] (sp_joints K) := by
  refine F.okN sc_joints (fun vs H Q E h => ?_) (fun cdv A outer s H vs Q E hr h => ?_)
  · obtain ⟨a, b, rs, fs, rfl, _⟩ := h
    rfl
  obtain ⟨a, b, rs, fs, rfl, hS, hT, hR, hF, q⟩ := h
  have ND := sc_joints.nd
  refine ⟨_, (pss_cons (ps_expr (pe_call G_check_folding (hr.mono (by omega)) (by rfl) m_check_folding k_check_folding b_check_folding .nil passN (pa_cons (pv 0) (pa_cons (pv 1) pa_nil))))
    (pss_cons (ps_set (i := 2) ND rfl (Or.inl rfl) pe_int)
    (pss_cons (ps_set (i := 3) ND rfl (Or.inl rfl) (pe_lst (pa_cons (pv 2) pa_nil)))
    (pss_cons (ps_set (i := 4) ND rfl (Or.inl rfl) pe_int)
    (pss_cons (ps_for PassesOwn.never rfl (pi_zipK K (by rfl) z_zip (pa_cons (pe_op op_cat (pe_lst (pa_cons pe_int pa_nil)) (pv 1)) (pa_cons (pv 0) pa_nil))) (pg_tupK K 2 rfl (pgs_cons (pg_name (i := 5) ND rfl (Or.inl rfl)) (pgs_cons (pg_name (i := 6) ND rfl (Or.inl rfl)) pgs_nil))) (pss_cons (ps_if (pt_cmpR op_eq (pv 5) pe_int (nomark _)) (pss_one (ps_set (i := 4) ND rfl (Or.inl rfl) (pe_un un_neg (pv 4)))) pss_nil)
    (pss_cons (ps_set (i := 2) ND rfl (Or.inl rfl) (pe_op op_add (pv 2) (pe_op op_mul (pv 4) (pv 6))))
    (pss_one (ps_expr (pe_bmK K PySem.F.plainAttrs_list PySem.F.slot_list_append PySem.F.type_list_append mt_append (pv 3) (pa_cons (pv 2) pa_nil)))))))
    (pss_one (ps_ret (pv 3)))))))), ?_⟩
  walk_at "rd"
  refine ⟨a, b, rs, fs, rfl, .inl (.inl hS), .inl (.inl hT), hR, hF, ?_⟩
  refine ⟨(by decide : 1 ≤ sizeLine), fun p hp => ?_⟩
  have s1 : Same H (upd H p (.lst [.int 0])) := same_new hp _
  have hl := hF.len
  have hfew := hR.few
  refine ⟨(by decide : 1 ≤ sizeLine), fun p2 hp2 => ⟨_, rfl, p2, b, _, _, rfl, rfl, upd_same, upd_keep (s1 _ _ hT) hp2, ?_, fun c hc => ?_⟩⟩
  · rw [List.length_map]
    exact small12' (by simp only [List.length_cons, List.length_nil]; omega)
  have s2 : Same H (upd (upd H p (.lst [.int 0])) p2 (.lst [.int 0])) := same_tup s1 hp2 _
  have s3 : Same H (upd (upd (upd H p (.lst [.int 0])) p2 (.lst [.int 0])) c (.lst ([.int 0] ++ fs.map V.int))) := same_tup s2 hc _
  have pp : upd (upd (upd H p (.lst [.int 0])) p2 (.lst [.int 0])) c (.lst ([.int 0] ++ fs.map V.int)) p = some (.lst [.int 0]) := upd_keep (upd_keep upd_same hp2) hc
  have pc : p ≠ c := ne_of_none (upd_keep upd_same hp2) hc
  generalize hH3 : upd (upd (upd H p (.lst [.int 0])) p2 (.lst [.int 0])) c (.lst ([.int 0] ++ fs.map V.int)) = H3 at s3 pp
  have hc3 : H3 c = some (.lst (((0 : Int) :: fs).map V.int)) := by rw [← hH3, upd_same]; rfl
  have zl : (zipJ rs fs).length = rs.length := by unfold zipJ; rw [List.length_zip, List.length_cons]; omega
  refine ⟨_, rfl, c, a, rfl, ⟨_, SqL.of hc3⟩, ⟨_, SqL.of (s3 _ _ hS)⟩, for_zip (xs := ((0 : Int) :: fs).map V.int) (ys := rs.map V.int)
    (fun i σ H' => H' p = some (.lst ((0 :: scanJ (0, 1) ((zipJ rs fs).take i)).map V.int)) ∧ SameB p H3 H' ∧ ∃ o1 o2, σ = [some (.ref a), some (.ref b), some (.int (((zipJ rs fs).take i).foldl stepJ (0, 1)).1), some (.ref p), some (.int (((zipJ rs fs).take i).foldl stepJ (0, 1)).2), o1, o2])
    ⟨pp, SameB.refl _ _, _, _, rfl⟩ (fun i σ H' _ h => ?_) (fun i x y t σ H' hx hy ht h => ?_) (fun σ H' h => ?_)⟩
  · obtain ⟨h1, h2, _⟩ := h
    exact ⟨SqL.of (h2 c _ pc.symm hc3), SqL.of (h2 a _ (ne_of_none hS hp) (s3 _ _ hS))⟩
  · obtain ⟨h1, h2, o1, o2, rfl⟩ := h
    obtain ⟨n, hn, rfl⟩ := ofGetI hx
    obtain ⟨m, hm, rfl⟩ := ofGetI hy
    have hz : (zipJ rs fs)[i]? = some (n, m) := PyProof.Rows.zip_get hn hm
    have tk := take_snoc hz
    have li : i < 12 := by
      have := (List.getElem?_eq_some_iff.mp hm).1
      omega
    walk_at "rd"
    refine ⟨[.int n, .int m], SqT.of upd_same, rfl, _, _, rfl, _, _, rfl, rfl, ?_⟩
    walk_at "rd"
    have hp' : upd H' t (.tup [.int n, .int m]) p = some (.lst ((0 :: scanJ (0, 1) ((zipJ rs fs).take i)).map V.int)) := upd_keep h1 ht
    have hw := way_one ((zipJ rs fs).take i)
    have sB : ∀ o, SameB p H3 (upd (upd H' t (.tup [.int n, .int m])) p o) := fun o => (h2.new ht _).upd _
    have ln : ((0 :: scanJ (0, 1) ((zipJ rs fs).take i)).map V.int).length < sizeLine := by
      rw [List.length_map, List.length_cons, scanJ_length, List.length_take]
      exact small12 (by omega)
    rw [tk, scanJ_snoc, List.foldl_append]
    simp only [List.foldl_cons, List.foldl_nil, stepJ]
    by_cases hn1 : n = 1
    · subst hn1
      simp only [if_true]
      refine ⟨.inl (by omega), tyL hp', _, hp', ln, ?_, sB _, trivial, trivial⟩
      rw [upd_same, List.map_append]
      rfl
    · simp only [hn1, if_false]
      refine ⟨.inl (by omega), tyL hp', _, hp', ln, ?_, sB _, trivial, trivial⟩
      rw [upd_same, List.map_append]
      rfl
  · obtain ⟨h1, h2, o1, o2, rfl⟩ := h
    refine ⟨_, rfl, q p H' ⟨fun d o e => h2 d o (ne_of_none e hp) (s3 d o e), hp, ?_⟩⟩
    rw [h1, List.length_map, List.length_map, List.take_of_length_le (by rw [zl, List.length_cons]; omega)]
    rfl
def sp_span (K : PySem.W.Frag) : Sp := fun vs H Q _ => ∃ (a b : Addr) (rs fs : List Int), vs = [.ref a, .ref b] ∧ H a = some (.lst (rs.map V.int)) ∧ H b = some (.lst (fs.map V.int)) ∧ IsRule rs ∧ IsFold rs fs ∧
  ∀ H' : Hp, Same H H' → Q (.int (spanL rs fs)) H'
theorem ok_span {f : Addr} {fd : FuncData} (F : Fun K "span" "span" s_span f fd) {f_joints : Addr} {d_joints : FuncData} (G_joints : FnOk P w K mg base (CXE P w) 3 f_joints d_joints ["rule", "folding"] (sp_joints K)) (m_joints : mg "joints" = some (.ref f_joints)) (k_joints : PySem.W.keepIn K (.ref f_joints) = true) (b_joints : Binds K d_joints ["rule", "folding"] []) (z_max : mg "max" = none) (z_min : mg "min" = none) :
    FnOk P w K mg base (CXE P w) 4 f fd ["rule", "folding"] (sp_span K) := by
  refine F.okN sc_span (fun vs H Q E h => ?_) (fun cdv A outer s H vs Q E hr h => ?_)
  · obtain ⟨a, b, rs, fs, rfl, _⟩ := h
    rfl
  obtain ⟨a, b, rs, fs, rfl, hS, hT, hR, hF, q⟩ := h
  have ND := sc_span.nd
  refine ⟨_, (pss_cons (ps_set (i := 2) ND rfl (Or.inl rfl) (pe_call G_joints (hr.mono (by omega)) (by rfl) m_joints k_joints b_joints .nil passN (pa_cons (pv 0) (pa_cons (pv 1) pa_nil))))
    (pss_one (ps_ret (pe_op op_sub (pe_callB (call_maxK K) (by rfl) z_max PyProof.Rows.Boot.«max» (pa_cons (pv 2) pa_nil)) (pe_callB (call_minK K) (by rfl) z_min PyProof.Rows.Boot.«min» (pa_cons (pv 2) pa_nil)))))), ?_⟩
  walk_at "rd"
  refine ⟨a, b, rs, fs, rfl, hS, hT, hR, hF, fun l H' hN => ?_⟩
  walk_at "rd"
  have hlen := joints_length hF.len
  refine ⟨_, SqL.of hN.at_, by omega, fun M hM1 hM2 => ⟨_, SqL.of hN.at_, by omega, fun M' h1 h2 => ?_⟩⟩
  rw [max_is (zero_mem_joints rs fs) hM1 hM2, min_is (zero_mem_joints rs fs) h1 h2]
  exact q H' hN.same
end
end FR
namespace FR
open PySem L2
section
variable {P : Program} {w : World} {K : PySem.W.Frag} {mg : Str → Option Value} {base : Heap}
def sp_first_reach (K : PySem.W.Frag) : Sp := fun vs H Q _ => ∃ (a : Addr) (r0 : Int) (ls : List Int), vs = [.ref a] ∧ SqL K H a ((r0 :: ls).map V.int) ∧ ∀ p, H p = none → Q (.ref p) (upd H p (.tup [.int r0, .int 0]))
theorem ok_first_reach {f : Addr} {fd : FuncData} (F : Fun K "first_reach" "first_reach" s_first_reach f fd) :
    FnOk P w K mg base (CXE P w) 1 f fd ["rule"] (sp_first_reach K) := by
  refine F.okN sc_first_reach (fun vs H Q E h => ?_) (fun cdv A outer s H vs Q E hr h => ?_)
  · obtain ⟨a, r0, ls, rfl, _⟩ := h
    rfl
  obtain ⟨a, r0, ls, rfl, hS, q⟩ := h
  refine ⟨_, (pss_one (ps_ret (pe_tup (pa_cons (pe_ix (ix_listK K) (pv 0) pe_int (fun _ _ => rfl)) (pa_cons pe_int pa_nil))))), ?_⟩
  walk_at "rd"
  exact ⟨_, hS, _, atI_nat (j := 0) rfl, (by decide : 2 ≤ sizeLine), fun p hp => q p hp⟩
def sp_further_reach (K : PySem.W.Frag) : Sp := fun vs H Q _ => ∃ (a : Addr) (r : Rch) (t L : Int), vs = [.ref a, .int t, .int L] ∧ SqT K H a [.int r.1, .int r.2] ∧ ∀ p, H p = none → Q (.ref p) (upd H p (.tup [.int (frR r t L).1, .int (frR r t L).2]))
theorem ok_further_reach {f : Addr} {fd : FuncData} (F : Fun K "further_reach" "further_reach" s_further_reach f fd) (z_max : mg "max" = none) :
    FnOk P w K mg base (CXE P w) 1 f fd ["reach", "turn", "length"] (sp_further_reach K) := by
  refine F.okN sc_further_reach (fun vs H Q E h => ?_) (fun cdv A outer s H vs Q E hr h => ?_)
  · obtain ⟨a, r, t, L, rfl, _⟩ := h
    rfl
  obtain ⟨a, r, t, L, rfl, hS, q⟩ := h
  refine ⟨_, (pss_cons (ps_if (pt_cmpR op_eq (pv 1) pe_int (nomark _)) (pss_one (ps_ret (pe_tup (pa_cons (pe_op op_add (pe_ix (ix_tupK K) (pv 0) pe_int (fun _ _ => rfl)) (pv 2)) (pa_cons (pe_callB (call_max2 rfl) (by rfl) z_max PyProof.Rows.Boot.«max» (pa_cons (pe_op op_sub (pe_ix (ix_tupK K) (pv 0) pe_int (fun _ _ => rfl)) (pv 2)) (pa_cons pe_int pa_nil))) pa_nil))))) pss_nil)
    (pss_one (ps_ret (pe_tup (pa_cons (pe_op op_add (pe_ix (ix_tupK K) (pv 0) pe_int (fun _ _ => rfl)) (pv 2)) (pa_cons (pe_callB (call_max2 rfl) (by rfl) z_max PyProof.Rows.Boot.«max» (pa_cons (pe_op op_sub (pe_ix (ix_tupK K) (pv 0) pe_int (fun _ _ => rfl)) (pv 2)) (pa_cons pe_int pa_nil))) pa_nil)))))), ?_⟩
  walk_at "rd"
  unfold frR at q
  refine ite2 (fun c => ?_) (fun c => ?_)
  · rw [if_pos c] at q
    refine ⟨_, hS, _, atI_nat (j := 0) rfl, ?_⟩
    walk_at "rd"
    refine ⟨_, hS, _, atI_nat (j := 1) rfl, ?_⟩
    walk_at "rd"
    rw [max_if]
    exact ⟨(by decide : 2 ≤ sizeLine), fun p hp => q p hp⟩
  · rw [if_neg c] at q
    refine ⟨_, hS, _, atI_nat (j := 1) rfl, ?_⟩
    walk_at "rd"
    refine ⟨_, hS, _, atI_nat (j := 0) rfl, ?_⟩
    walk_at "rd"
    rw [max_if]
    exact ⟨(by decide : 2 ≤ sizeLine), fun p hp => q p hp⟩
/-! ### the dict of first foldings -/
def encX (x : Rch × List Int × Addr) : List Key × V := (keyR x.1, .ref x.2.2)
def prX (x : Rch × List Int × Addr) : Rch × List Int := (x.1, x.2.1)
theorem val_none {xs : List (Rch × List Int × Addr)} {r : Rch} (h : ∀ x ∈ xs, x.1 ≠ r) : valV (xs.map encX) (keyR r) = none := by
  induction xs with
  | nil => rfl
  | cons x q ih =>
    rw [List.map_cons, valV_neg]
    · exact ih fun y hy => h y (List.mem_cons_of_mem _ hy)
    · exact fun z => h x List.mem_cons_self (keyR_inj z)
theorem val_some {xs : List (Rch × List Int × Addr)} {r : Rch} (h : ∃ x ∈ xs, x.1 = r) : ∃ v, valV (xs.map encX) (keyR r) = some v := by
  induction xs with
  | nil => obtain ⟨x, hx, _⟩ := h; cases hx
  | cons x q ih =>
    rw [List.map_cons]
    by_cases e : x.1 = r
    · exact ⟨_, valV_pos (p := encX x) (by show keyR x.1 = _; rw [e])⟩
    · rw [valV_neg (p := encX x) (fun z => e (keyR_inj z))]
      refine ih ?_
      obtain ⟨y, hy, ey⟩ := h
      rcases List.mem_cons.mp hy with rfl | hy
      · exact absurd ey e
      · exact ⟨y, hy, ey⟩
theorem val_first {r : Rch} : ∀ {xs : List (Rch × List Int × Addr)} {i : Nat} {x : Rch × List Int × Addr}, xs[i]? = some x → x.1 = r → (∀ j y, j < i → xs[j]? = some y → y.1 ≠ r) → valV (xs.map encX) (keyR r) = some (.ref x.2.2)
  | [], _, _, h, _, _ => by simp at h
  | y :: q, 0, x, h, e, _ => by
    simp at h; subst h
    rw [List.map_cons]
    exact valV_pos (p := encX y) (by show keyR y.1 = _; rw [e])
  | y :: q, i + 1, x, h, e, hj => by
    rw [List.map_cons, valV_neg (p := encX y) (fun z => hj 0 y (by omega) rfl (keyR_inj z))]
    exact val_first (i := i) (by simpa using h) e fun j z hji hz => hj (j + 1) z (by omega) (by simpa using hz)
structure FD (H0 H : Hp) (d f : Addr) (o : Obj) (kv : List (List Key × V)) (G : List (Rch × List Int)) : Prop where
  fd : H d = some (.frz o (.dT kv))
  same : ∀ b u, b ≠ d → H0 b = some u → H b = some u
  ex : ∃ xs : List (Rch × List Int × Addr), H f = some (.dT (xs.map encX)) ∧ xs.map prX = G ∧ ∀ x ∈ xs, H x.2.2 = some (.lst (x.2.1.map V.int)) ∧ H0 x.2.2 = none
theorem FD.new {H0 H : Hp} {d f : Addr} {o : Obj} {kv : List (List Key × V)} {G : List (Rch × List Int)} (h : FD H0 H d f o kv G) {p : Addr} (hp : H p = none) (ob : HO) : FD H0 (upd H p ob) d f o kv G := by
  obtain ⟨a, b, xs, c1, c2, c3⟩ := h
  exact ⟨upd_keep a hp, fun b' u hb e => upd_keep (b b' u hb e) hp, xs, upd_keep c1 hp, c2, fun x hx => ⟨upd_keep (c3 x hx).1 hp, (c3 x hx).2⟩⟩
theorem FD.put {H0 H : Hp} {d f : Addr} {o : Obj} {kv : List (List Key × V)} {xs : List (Rch × List Int × Addr)} (a : H d = some (.frz o (.dT kv))) (b : ∀ b u, b ≠ d → H0 b = some u → H b = some u) (c1 : H f = some (.dT (xs.map encX)))
    (c3 : ∀ x ∈ xs, H x.2.2 = some (.lst (x.2.1.map V.int)) ∧ H0 x.2.2 = none) (f0 : H0 f = none) {r : Rch} {fl : List Int} {c : Addr} (hc : H c = some (.lst (fl.map V.int))) (hc0 : H0 c = none) (hn : ∀ x ∈ xs, x.1 ≠ r) :
    FD H0 (upd H f (.dT (putK (xs.map encX) (keyR r) (.ref c)))) d f o kv (xs.map prX ++ [(r, fl)]) := by
  have df : d ≠ f := ne_of a c1 (fun z => nomatch z)
  refine ⟨by rw [upd_ne df]; exact a, fun b' u hb e => by rw [upd_ne (ne_of_none e f0)]; exact b b' u hb e, xs ++ [(r, fl, c)], ?_, by rw [List.map_append]; rfl, fun x hx => ?_⟩
  · rw [upd_same, putK_new _ (val_none hn), List.map_append]; rfl
  · rcases List.mem_append.mp hx with hx | hx
    · exact ⟨by rw [upd_ne (ne_of (c3 x hx).1 c1 (fun z => nomatch z))]; exact (c3 x hx).1, (c3 x hx).2⟩
    · cases List.mem_singleton.mp hx
      exact ⟨by rw [upd_ne (ne_of hc c1 (fun z => nomatch z))]; exact hc, hc0⟩
def addJ (B L : Int) (G : List (Rch × List Int)) (e : Rch × List Int) : Nat → List (Rch × List Int)
  | 0 => G
  | 1 => addF B L G e 0
  | _ => addF B L (addF B L G e 0) e 1
theorem addJ_succ (B L : Int) (G : List (Rch × List Int)) (e : Rch × List Int) {j : Nat} (hj : j < 2) : addJ B L G e (j + 1) = addF B L (addJ B L G e j) e (j : Int) := by
  match j, hj with
  | 0, _ => rfl
  | 1, _ => rfl
theorem addF_pos {B L : Int} {f : List (Rch × List Int)} {e : Rch × List Int} {t : Int} (h1 : sumR (frR e.1 t L) ≤ B) (h2 : ∀ x ∈ f, x.1 ≠ frR e.1 t L) : addF B L f e t = f ++ [(frR e.1 t L, e.2 ++ [t])] := if_pos ⟨h1, h2⟩
theorem addF_neg {B L : Int} {f : List (Rch × List Int)} {e : Rch × List Int} {t : Int} (h : ¬ (sumR (frR e.1 t L) ≤ B ∧ ∀ x ∈ f, x.1 ≠ frR e.1 t L)) : addF B L f e t = f := if_neg h
theorem addF_len (B L : Int) (f : List (Rch × List Int)) (e : Rch × List Int) (t : Int) : (addF B L f e t).length ≤ f.length + 1 := by
  unfold addF; split
  · rw [List.length_append]; exact Nat.le_refl _
  · exact Nat.le_succ _
theorem addJ_len (B L : Int) (G : List (Rch × List Int)) (e : Rch × List Int) (j : Nat) : (addJ B L G e j).length ≤ G.length + 2 := by
  match j with
  | 0 => exact Nat.le_add_right _ _
  | 1 => have := addF_len B L G e 0; show (addF B L G e 0).length ≤ _; omega
  | k + 2 => have := addF_len B L G e 0; have := addF_len B L (addF B L G e 0) e 1; show (addF B L (addF B L G e 0) e 1).length ≤ _; omega
end
end FR
namespace FR
open PySem L2
section
variable {P : Program} {w : World} {K : PySem.W.Frag} {mg : Str → Option Value} {base : Heap}
/-! ### the dict of counts -/
def encC (x : Rch × Int) : List Key × V := (keyR x.1, .int x.2)
theorem valC (k : Rch) : ∀ kvs : List (Rch × Int), valV (kvs.map encC) (keyR k) = (lookM kvs k).map V.int
  | [] => rfl
  | x :: q => by
    rw [List.map_cons]
    by_cases e : x.1 = k
    · rw [valV_pos (p := encC x) (by show keyR x.1 = _; rw [e])]
      simp [lookM, e, encC]
    · rw [valV_neg (p := encC x) (fun z => e (keyR_inj z)), valC k q]
      simp [lookM, e]
theorem anyC (k : Rch) : ∀ kvs : List (Rch × Int), ((kvs.map encC).any fun kv => decide (kv.1 = keyR k)) = kvs.any fun x => decide (x.1 = k)
  | [] => rfl
  | x :: q => by
    rw [List.map_cons, List.any_cons, List.any_cons, anyC k q]
    congr 1
    by_cases e : x.1 = k
    · rw [decide_eq_true e, decide_eq_true (show (encC x).1 = keyR k by show keyR x.1 = _; rw [e])]
    · rw [decide_eq_false e, decide_eq_false (fun z : (encC x).1 = keyR k => e (keyR_inj z))]
theorem putC (kvs : List (Rch × Int)) (k : Rch) (v : Int) : putK (kvs.map encC) (keyR k) (.int v) = (putM kvs k v).map encC := by
  unfold putK putM
  rw [anyC]
  split
  · rw [List.map_map, List.map_map]
    apply List.map_congr_left
    intro x _
    show (if keyR x.1 = keyR k then (keyR x.1, V.int v) else encC x) = encC (if x.1 = k then (x.1, v) else x)
    by_cases e : x.1 = k
    · rw [if_pos e, if_pos (by rw [e])]; rfl
    · rw [if_neg e, if_neg (fun z => e (keyR_inj z))]
  · rw [List.map_append]; rfl
structure CDt (H0 H : Hp) (d f : Addr) (o : Obj) (kv : List (List Key × V)) (G : List (Rch × Int)) : Prop where
  fd : H d = some (.frz o (.dT kv))
  same : ∀ b u, b ≠ d → H0 b = some u → H b = some u
  ex : H f = some (.dT (G.map encC))
theorem CDt.new {H0 H : Hp} {d f : Addr} {o : Obj} {kv : List (List Key × V)} {G : List (Rch × Int)} (h : CDt H0 H d f o kv G) {p : Addr} (hp : H p = none) (ob : HO) : CDt H0 (upd H p ob) d f o kv G := by
  obtain ⟨a, b, c1⟩ := h
  exact ⟨upd_keep a hp, fun b' u hb e => upd_keep (b b' u hb e) hp, upd_keep c1 hp⟩
theorem CDt.put {H0 H : Hp} {d f : Addr} {o : Obj} {kv : List (List Key × V)} {G : List (Rch × Int)} (h : CDt H0 H d f o kv G) (f0 : H0 f = none) (r : Rch) (n : Int) : CDt H0 (upd H f (.dT (putK (G.map encC) (keyR r) (.int n)))) d f o kv (putM G r n) := by
  obtain ⟨a, b, c1⟩ := h
  have df : d ≠ f := ne_of a c1 (fun z => nomatch z)
  exact ⟨by rw [upd_ne df]; exact a, fun b' u hb e => by rw [upd_ne (ne_of_none e f0)]; exact b b' u hb e, by rw [upd_same, putC]⟩
def addK (c L : Int) (G : List (Rch × Int)) (e : Rch × Int) : Nat → List (Rch × Int)
  | 0 => G
  | 1 => addC c L G e 0
  | _ => addC c L (addC c L G e 0) e 1
theorem addK_succ (c L : Int) (G : List (Rch × Int)) (e : Rch × Int) {j : Nat} (hj : j < 2) : addK c L G e (j + 1) = addC c L (addK c L G e j) e (j : Int) := by
  match j, hj with
  | 0, _ => rfl
  | 1, _ => rfl
theorem addC_len (c L : Int) (f : List (Rch × Int)) (e : Rch × Int) (t : Int) : (addC c L f e t).length ≤ f.length + 1 := by
  unfold addC; split
  · exact putM_len _ _ _
  · exact Nat.le_succ _
theorem addK_len (c L : Int) (G : List (Rch × Int)) (e : Rch × Int) (j : Nat) : (addK c L G e j).length ≤ G.length + 2 := by
  match j with
  | 0 => exact Nat.le_add_right _ _
  | 1 => have := addC_len c L G e 0; show (addC c L G e 0).length ≤ _; omega
  | k + 2 => have := addC_len c L G e 0; have := addC_len c L (addC c L G e 0) e 1; show (addC c L (addC c L G e 0) e 1).length ≤ _; omega
def sp_further_counts (K : PySem.W.Frag) : Sp := fun vs H Q _ => ∃ (d : Addr) (L c : Int) (kvs : List (Rch × Int)), vs = [.ref d, .int L, .int c] ∧ H d = some (.dT (kvs.map encC)) ∧ kvs.length ≤ 40000 ∧
  ∀ (f : Addr) (H' : Hp), H f = none → (∀ b u, b ≠ d → H b = some u → H' b = some u) → H' f = some (.dT ((stepC c L kvs).map encC)) → Q (.ref f) H'
theorem ok_further_counts {f : Addr} {fd : FuncData} (F : Fun K "further_counts" "further_counts" s_further_counts f fd) {f_further_reach : Addr} {d_further_reach : FuncData} (G_further_reach : FnOk P w K mg base (CXE P w) 1 f_further_reach d_further_reach ["reach", "turn", "length"] (sp_further_reach K)) (m_further_reach : mg "further_reach" = some (.ref f_further_reach)) (k_further_reach : PySem.W.keepIn K (.ref f_further_reach) = true) (b_further_reach : Binds K d_further_reach ["reach", "turn", "length"] []) (z_sum : mg "sum" = none) :
    FnOk P w K mg base (CXE P w) 2 f fd ["counts", "length", "case"] (sp_further_counts K) := by
  refine F.okN sc_further_counts (fun vs H Q E h => ?_) (fun cdv A outer s H vs Q E hr h => ?_)
  · obtain ⟨d, L, c, xs, rfl, _⟩ := h
    rfl
  obtain ⟨d, L, c, xs, rfl, hd, hn, q⟩ := h
  have ND := sc_further_counts.nd
  have hu1 := hu1_of hr
  refine ⟨_, (pss_cons (ps_set (i := 3) ND rfl (Or.inl rfl) pe_dnewT)
    (pss_cons (ps_for PassesOwn.never rfl (pi_view (pe_bm0K K PySem.F.plainAttrs_dict PySem.F.slot_dict_items PySem.F.type_dict_items mt_items (pv 0))) (pg_tupK K 2 rfl (pgs_cons (pg_name (i := 4) ND rfl (Or.inl rfl)) (pgs_cons (pg_name (i := 5) ND rfl (Or.inl rfl)) pgs_nil))) (pss_one (ps_for PassesOwn.never rfl (pi_tupK K (pe_tup (pa_cons pe_int (pa_cons pe_int pa_nil)))) (pg_name (i := 6) ND rfl (Or.inl rfl)) (pss_cons (ps_set (i := 7) ND rfl (Or.inl rfl) (pe_call G_further_reach (hr.mono (by omega)) (by rfl) m_further_reach k_further_reach b_further_reach .nil passN (pa_cons (pv 4) (pa_cons (pv 6) (pa_cons (pv 1) pa_nil)))))
    (pss_one (ps_if (pt_cmpR op_le (pe_callB (call_sumT K) (by rfl) z_sum PyProof.Rows.Boot.«sum» (pa_cons (pv 7) pa_nil)) (pv 2) (nomark _)) (pss_one (ps_dput hu1 (pv 3) (pv 7) (pe_op op_add (pe_dget2 hu1 (pv 3) (pv 7) pe_int ⟨rfl, rfl, rfl, rfl⟩) (pv 5)) rfl)) pss_nil))))))
    (pss_one (ps_ret (pv 3))))), ?_⟩
  walk_at "rd"
  intro f hf
  have hdf : upd H f (.dT []) d = some (.dT (xs.map encC)) := upd_keep hd hf
  refine ⟨_, rfl, .inr (.inr (.inl ⟨rfl, .inr ⟨_, hdf⟩⟩)), d, _, rfl, rfl, .inl hdf, fun v hv => ?_⟩
  refine ⟨v, d, xs.map encC, rfl, upd_same, upd_keep hdf hv, fun o => ?_⟩
  have vd : v ≠ d := fun z => by rw [z, hdf] at hv; cases hv
  have fv : f ≠ v := fun z => by rw [← z, upd_same] at hv; cases hv
  have fd' : f ≠ d := (ne_of_none hd hf).symm
  have F0 : CDt H (upd (upd (upd H f (.dT [])) v (.ext fun h => h.IsItemsView v d)) d (.frz o (.dT (xs.map encC)))) d f o (xs.map encC) (stepC c L (xs.take 0)) := by
    refine ⟨upd_same, fun b u hb e => ?_, ?_⟩
    · rw [upd_ne hb]; exact upd_keep (upd_keep e hf) hv
    · rw [upd_ne fd', upd_ne fv, upd_same]; rfl
  generalize upd (upd (upd H f (.dT [])) v (.ext fun h => h.IsItemsView v d)) d (.frz o (.dT (xs.map encC))) = H1 at F0
  refine for_items (kvs := xs.map encC) (fun i σ H' => CDt H H' d f o (xs.map encC) (stepC c L (xs.take i)) ∧ ∃ o4 o5 o6 o7, σ = [some (.ref d), some (.int L), some (.int c), some (.ref f), o4, o5, o6, o7])
    ⟨F0, _, _, _, _, rfl⟩ (fun i σ H' _ h => h.1.fd) (fun i k x t kt σ H' hx ht hkt h => ?_) (fun σ H' h => ?_)
  · obtain ⟨F1, o4, o5, o6, o7, rfl⟩ := h
    rw [List.getElem?_map] at hx
    obtain ⟨y, hy, ey⟩ := Option.map_eq_some_iff.mp hx
    cases ey
    have li := (List.getElem?_eq_some_iff.mp hy).1
    have tk := take_snoc hy
    have F2 := F1.new ht (.tup [.ref kt, .int y.2])
    have hkt2 := upd_keep (u := .tup [.ref kt, .int y.2]) hkt ht
    have Gl : (stepC c L (xs.take i)).length ≤ 80000 := by
      have := stepC_len (c := c) (L := L) (xs.take i)
      rw [List.length_take] at this
      omega
    have nxt : stepC c L (xs.take (i + 1)) = addK c L (stepC c L (xs.take i)) y 2 := by
      rw [tk]; exact stepC_snoc _ _ _ _
    rw [nxt]
    generalize stepC c L (xs.take i) = G at *
    have tS : SqT K (upd H' t (.tup [.ref kt, .int y.2])) t [.ref kt, .int y.2] := SqT.of upd_same
    generalize upd H' t (.tup [.ref kt, .int y.2]) = H2 at *
    walk_at "rd"
    refine ⟨_, tS, rfl, _, _, rfl, _, _, rfl, rfl, ?_⟩
    refine ⟨(by decide : 2 ≤ sizeLine), fun p hp => ⟨p, rfl, ⟨_, SqT.of upd_same⟩, ?_⟩⟩
    refine for_tup (xs := [.int 0, .int 1]) (fun j σ H' => CDt H H' d f o (xs.map encC) (addK c L G y j) ∧ H' p = some (.tup [.int 0, .int 1]) ∧ H' kt = some (.tup ((keyR y.1).map kV)) ∧ ∃ o6 o7, σ = [some (.ref d), some (.int L), some (.int c), some (.ref f), some (.ref kt), some (.int y.2), o6, o7])
      ⟨F2.new hp _, upd_same, upd_keep hkt2 hp, _, _, rfl⟩ (fun j σ H' _ h => SqT.of h.2.1) (fun j x σ H3 hx h => ?_) (fun σ H3 h => ?_)
    · obtain ⟨F3, hp3, hkt3, o6, o7, rfl⟩ := h
      have hj : j < 2 := (List.getElem?_eq_some_iff.mp hx).1
      have ex : x = .int (j : Int) := by
        match j, hj with
        | 0, _ => simpa using hx.symm
        | 1, _ => simpa using hx.symm
      subst ex
      rw [addK_succ _ _ _ _ hj]
      have Jl := addK_len c L G y j
      generalize addK c L G y j = G3 at *
      walk_at "rd"
      refine ⟨kt, y.1, (j : Int), L, rfl, SqT.of hkt3, fun b hb => ?_⟩
      have F4 := F3.new hb (.tup [.int (frR y.1 j L).1, .int (frR y.1 j L).2])
      have hkt4 := upd_keep (u := .tup [.int (frR y.1 j L).1, .int (frR y.1 j L).2]) hkt3 hb
      have hp4 := upd_keep (u := .tup [.int (frR y.1 j L).1, .int (frR y.1 j L).2]) hp3 hb
      have hb4 : upd H3 b (.tup [.int (frR y.1 j L).1, .int (frR y.1 j L).2]) b = some (.tup ((keyR (frR y.1 j L)).map kV)) := upd_same
      generalize upd H3 b (.tup [.int (frR y.1 j L).1, .int (frR y.1 j L).2]) = H4 at *
      walk_at "rd"
      refine ⟨[(frR y.1 j L).1, (frR y.1 j L).2], SqT.of hb4, ?_⟩
      have es : ([(frR y.1 j L).1, (frR y.1 j L).2] : List Int).sum = sumR (frR y.1 j L) := by simp [sumR]
      rw [es]
      unfold addC
      refine ite2 (fun c1 => ?_) (fun c1 => ?_)
      · rw [if_pos c1]
        refine ⟨.inr ⟨_, .inl F4.ex⟩, _, DGet.t (k := keyR (frR y.1 j L)) F4.ex hb4, ?_⟩
        rw [valC]
        refine ⟨(lookM G3 (frR y.1 j L)).getD 0, by cases lookM G3 (frR y.1 j L) <;> rfl, _, DPut.t F4.ex hb4 ?_, F4.put hf _ _, ?_, ?_⟩
        · rw [List.length_map]; exact big_small (by omega)
        · rw [upd_ne (ne_of hp4 F4.ex (fun z => nomatch z))]; exact hp4
        · rw [upd_ne (ne_of hkt4 F4.ex (fun z => nomatch z))]; exact hkt4
      · rw [if_neg c1]
        exact ⟨F4, hp4, hkt4⟩
    · obtain ⟨F3, hp3, hkt3, o6, o7, rfl⟩ := h
      exact ⟨F3, _, _, _, _, rfl⟩
  · obtain ⟨F4, o4, o5, o6, o7, rfl⟩ := h
    rw [List.length_map, List.take_length] at F4
    walk_at "rd"
    exact q f H' hf F4.same F4.ex
/-- how many foldings of the lengths fit behind the reach -/
def sp_many_beyond (K : PySem.W.Frag) : Sp := fun vs H Q _ => ∃ (p a : Addr) (c : Int) (r : Rch) (ls : List Int), vs = [.ref p, .ref a, .int c] ∧ H p = some (.tup [.int r.1, .int r.2]) ∧ SqL K H a (ls.map V.int) ∧ Ge0 r ∧ (∀ x ∈ ls, 0 ≤ x) ∧ ls.length ≤ 12 ∧
  ∀ H' : Hp, Same H H' → Q (.int (cnt c r ls)) H'
theorem ok_many_beyond {f : Addr} {fd : FuncData} (F : Fun K "many_beyond" "many_beyond" s_many_beyond f fd) {f_further_counts : Addr} {d_further_counts : FuncData} (G_further_counts : FnOk P w K mg base (CXE P w) 2 f_further_counts d_further_counts ["counts", "length", "case"] (sp_further_counts K)) (m_further_counts : mg "further_counts" = some (.ref f_further_counts)) (k_further_counts : PySem.W.keepIn K (.ref f_further_counts) = true) (b_further_counts : Binds K d_further_counts ["counts", "length", "case"] []) (z_sum : mg "sum" = none) :
    FnOk P w K mg base (CXE P w) 3 f fd ["reach", "lengths", "case"] (sp_many_beyond K) := by
  refine F.okN sc_many_beyond (fun vs H Q E h => ?_) (fun cdv A outer s H vs Q E hr h => ?_)
  · obtain ⟨p, a, c, r, ls, rfl, _⟩ := h
    rfl
  obtain ⟨p, a, c, r, ls, rfl, hp, hS, hG, hL, h12, q⟩ := h
  have ND := sc_many_beyond.nd
  have hu0 := hu0_of hr
  refine ⟨_, (pss_cons (ps_if (pt_cmpR op_gt (pe_callB (call_sumT K) (by rfl) z_sum PyProof.Rows.Boot.«sum» (pa_cons (pv 0) pa_nil)) (pv 2) (nomark _)) (pss_one (ps_ret pe_int)) pss_nil)
    (pss_cons (ps_set (i := 3) ND rfl (Or.inl rfl) (pe_disp1 hu0 (pv 0) pe_int))
    (pss_cons (ps_for PassesOwn.never rfl (pi_listK K (pv 1)) (pg_name (i := 4) ND rfl (Or.inl rfl)) (pss_one (ps_set (i := 3) ND rfl (Or.inl rfl) (pe_call G_further_counts (hr.mono (by omega)) (by rfl) m_further_counts k_further_counts b_further_counts .nil passN (pa_cons (pv 3) (pa_cons (pv 4) (pa_cons (pv 2) pa_nil)))))))
    (pss_one (ps_ret (pe_callB call_sumV (by rfl) z_sum PyProof.Rows.Boot.«sum» (pa_cons (pe_bm0K K PySem.F.plainAttrs_dict PySem.F.slot_dict_values PySem.F.type_dict_values mt_values (pv 3)) pa_nil))))))), ?_⟩
  walk_at "rd"
  refine ⟨[r.1, r.2], SqT.of hp, ?_⟩
  have es : ([r.1, r.2] : List Int).sum = sumR r := by simp [sumR]
  rw [es]
  refine ite2 (fun c1 => ?_) (fun c1 => ?_)
  · have e := cnt_zero hL hG (by omega : c < sumR r)
    rw [e] at q
    exact q H (Same.refl H)
  intro d hd
  refine ⟨keyR r, upd_keep hp hd, upd_same, ?_⟩
  rw [upd_upd]
  have s1 : Same H (upd H d (.dT [(keyR r, .int 1)])) := same_new hd _
  have hd1 : upd H d (.dT [(keyR r, .int 1)]) d = some (.dT ([(r, 1)].map encC)) := upd_same
  generalize upd H d (.dT [(keyR r, .int 1)]) = H1 at *
  refine ⟨_, rfl, a, rfl, ⟨_, s1.seq hS⟩, for_list (xs := ls.map V.int) (fun i σ H' => Same H H' ∧ ∃ (d : Addr) (o4 : Option V), σ = [some (.ref p), some (.ref a), some (.int c), some (.ref d), o4] ∧ H d = none ∧ H' d = some (.dT ((runC c [(r, 1)] (ls.take i)).map encC)))
    ⟨s1, d, _, rfl, hd, hd1⟩ (fun i σ H' _ h => h.1.seq hS) (fun i x σ H' hx h => ?_) (fun σ H' h => ?_)⟩
  · obtain ⟨g1, d', o4, rfl, d0, hd'⟩ := h
    obtain ⟨n, hn, rfl⟩ := ofGetI hx
    have li := (List.getElem?_eq_some_iff.mp hn).1
    have tk := take_snoc hn
    have p12 := two_pow (n := i) (by omega)
    walk_at "rd"
    refine ⟨d', n, c, _, rfl, hd', ?_, fun f H2 f0 sm hf => ?_⟩
    · have := runC_len (c := c) (ls.take i) [(r, 1)]
      rw [List.length_take, Nat.min_eq_left (by omega)] at this
      simp only [List.length_cons, List.length_nil] at this
      omega
    refine ⟨fun b u e => sm b u (ne_of_none e d0) (g1 b u e), f, rfl, g1.free f0, ?_⟩
    rw [tk, runC_snoc]; exact hf
  · obtain ⟨g1, d', o4, rfl, d0, hd'⟩ := h
    rw [List.length_map, List.take_length] at hd'
    walk_at "rd"
    refine ⟨.inr (.inr (.inl ⟨rfl, .inr ⟨_, hd'⟩⟩)), _, .inl hd', fun v hv => ?_⟩
    refine ⟨d', upd_same, _, .inl (upd_keep hd' hv), (runC c [(r, 1)] ls).map (·.2), by rw [List.map_map, List.map_map]; rfl, ?_⟩
    rw [run_one hG (by omega) hL]
    exact q _ (same_tup g1 hv _)
def sp_many_going_on (K : PySem.W.Frag) : Sp := fun vs H Q _ => ∃ (a p : Addr) (c : Int) (r : Rch) (rs : List Int) (k : Nat) (L : Int), vs = [.ref a, .int c, .ref p, .int (k : Int)] ∧ SqL K H a (rs.map V.int) ∧ H p = some (.tup [.int r.1, .int r.2]) ∧ Ge0 r ∧ (∀ x ∈ rs, 0 ≤ x) ∧ rs.length ≤ 12 ∧ rs[k + 1]? = some L ∧
  ∀ H' : Hp, Same H H' → Q (.int (cnt c (frR r 0 L) (rs.drop (k + 2)))) H'
theorem ok_many_going_on {f : Addr} {fd : FuncData} (F : Fun K "many_going_on" "many_going_on" s_many_going_on f fd) {f_many_beyond : Addr} {d_many_beyond : FuncData} (G_many_beyond : FnOk P w K mg base (CXE P w) 3 f_many_beyond d_many_beyond ["reach", "lengths", "case"] (sp_many_beyond K)) (m_many_beyond : mg "many_beyond" = some (.ref f_many_beyond)) (k_many_beyond : PySem.W.keepIn K (.ref f_many_beyond) = true) (b_many_beyond : Binds K d_many_beyond ["reach", "lengths", "case"] []) {f_further_reach : Addr} {d_further_reach : FuncData} (G_further_reach : FnOk P w K mg base (CXE P w) 1 f_further_reach d_further_reach ["reach", "turn", "length"] (sp_further_reach K)) (m_further_reach : mg "further_reach" = some (.ref f_further_reach)) (k_further_reach : PySem.W.keepIn K (.ref f_further_reach) = true) (b_further_reach : Binds K d_further_reach ["reach", "turn", "length"] []) :
    FnOk P w K mg base (CXE P w) 4 f fd ["rule", "case", "reach", "hinge"] (sp_many_going_on K) := by
  refine F.okN sc_many_going_on (fun vs H Q E h => ?_) (fun cdv A outer s H vs Q E hr h => ?_)
  · obtain ⟨a, p, c, r, rs, k, L, rfl, _⟩ := h
    rfl
  obtain ⟨a, p, c, r, rs, k, L, rfl, hS, hp, hG, hL, h12, hk, q⟩ := h
  have ND := sc_many_going_on.nd
  refine ⟨_, (pss_cons (ps_set (i := 4) ND rfl (Or.inl rfl) (pe_call G_further_reach (hr.mono (by omega)) (by rfl) m_further_reach k_further_reach b_further_reach .nil passN (pa_cons (pv 2) (pa_cons pe_int (pa_cons (pe_ix (ix_listK K) (pv 0) (pe_op op_add (pv 3) pe_int) (fun _ _ => rfl)) pa_nil)))))
    (pss_one (ps_ret (pe_call G_many_beyond (hr.mono (by omega)) (by rfl) m_many_beyond k_many_beyond b_many_beyond .nil passN (pa_cons (pv 4) (pa_cons (pe_slice (sl_listK K) (pv 0) (po_some (pe_op op_add (pv 3) pe_int)) po_none) (pa_cons (pv 1) pa_nil))))))), ?_⟩
  walk_at "rd"
  have e1 : ((k : Int) + 1) = ((k + 1 : Nat) : Int) := by omega
  have e2 : ((k : Int) + 2) = ((k + 2 : Nat) : Int) := by omega
  refine ⟨_, hS, .int L, by rw [e1]; exact atI_nat (getI hk), p, r, 0, L, rfl, SqT.of hp, fun p2 hp2 => ?_⟩
  walk_at "rd"
  have s1 := same_new hp2 (.tup [.int (frR r 0 L).1, .int (frR r 0 L).2])
  refine ⟨_, s1.seq hS, fun l hl => ?_⟩
  rw [e2, cut_from, ← List.map_drop]
  refine ⟨p2, l, c, frR r 0 L, rs.drop (k + 2), rfl, upd_keep upd_same hl, SqL.of upd_same, hG.fr (hL L (List.mem_of_getElem? hk)), fun x hx => hL x (List.mem_of_mem_drop hx), by rw [List.length_drop]; omega, fun H' g => ?_⟩
  exact q H' ((same_tup s1 hl _).trans g)
def sp_many_fits (K : PySem.W.Frag) : Sp := fun vs H Q _ => ∃ (a : Addr) (c r0 : Int) (ls : List Int), vs = [.ref a, .int c] ∧ SqL K H a ((r0 :: ls).map V.int) ∧ IsRule (r0 :: ls) ∧ ∀ H' : Hp, Same H H' → Q (.int (cnt c (r0, 0) ls)) H'
theorem ok_many_fits {f : Addr} {fd : FuncData} (F : Fun K "many_fits" "many_fits" s_many_fits f fd) {f_many_beyond : Addr} {d_many_beyond : FuncData} (G_many_beyond : FnOk P w K mg base (CXE P w) 3 f_many_beyond d_many_beyond ["reach", "lengths", "case"] (sp_many_beyond K)) (m_many_beyond : mg "many_beyond" = some (.ref f_many_beyond)) (k_many_beyond : PySem.W.keepIn K (.ref f_many_beyond) = true) (b_many_beyond : Binds K d_many_beyond ["reach", "lengths", "case"] []) {f_first_reach : Addr} {d_first_reach : FuncData} (G_first_reach : FnOk P w K mg base (CXE P w) 1 f_first_reach d_first_reach ["rule"] (sp_first_reach K)) (m_first_reach : mg "first_reach" = some (.ref f_first_reach)) (k_first_reach : PySem.W.keepIn K (.ref f_first_reach) = true) (b_first_reach : Binds K d_first_reach ["rule"] []) {f_check_rule : Addr} {d_check_rule : FuncData} (G_check_rule : FnOk P w K mg base (CXE P w) 1 f_check_rule d_check_rule ["rule"] (sp_check_rule K)) (m_check_rule : mg "check_rule" = some (.ref f_check_rule)) (k_check_rule : PySem.W.keepIn K (.ref f_check_rule) = true) (b_check_rule : Binds K d_check_rule ["rule"] []) :
    FnOk P w K mg base (CXE P w) 4 f fd ["rule", "case"] (sp_many_fits K) := by
  refine F.okN sc_many_fits (fun vs H Q E h => ?_) (fun cdv A outer s H vs Q E hr h => ?_)
  · obtain ⟨a, c, r0, ls, rfl, _⟩ := h
    rfl
  obtain ⟨a, c, r0, ls, rfl, hS, hR, q⟩ := h
  have ND := sc_many_fits.nd
  refine ⟨_, (pss_cons (ps_expr (pe_call G_check_rule (hr.mono (by omega)) (by rfl) m_check_rule k_check_rule b_check_rule .nil passN (pa_cons (pv 0) pa_nil)))
    (pss_one (ps_ret (pe_call G_many_beyond (hr.mono (by omega)) (by rfl) m_many_beyond k_many_beyond b_many_beyond .nil passN (pa_cons (pe_call G_first_reach (hr.mono (by omega)) (by rfl) m_first_reach k_first_reach b_first_reach .nil passN (pa_cons (pv 0) pa_nil)) (pa_cons (pe_slice (sl_listK K) (pv 0) (po_some pe_int) po_none) (pa_cons (pv 1) pa_nil))))))), ?_⟩
  walk_at "rd"
  refine ⟨a, r0 :: ls, rfl, hS, hR, a, r0, ls, rfl, hS, fun p hp => ?_⟩
  walk_at "rd"
  have s1 := same_new hp (.tup [.int r0, .int 0])
  refine ⟨_, s1.seq hS, fun l hl => ?_⟩
  have hcut : cutV ((r0 :: ls).map V.int) (some 1) none = ls.map V.int := (cut_from _ 1).trans rfl
  rw [hcut]
  have hfew := hR.few
  rw [List.length_cons] at hfew
  refine ⟨p, l, c, (r0, 0), ls, rfl, upd_keep upd_same hl, SqL.of upd_same, ⟨by have := hR.lo r0 List.mem_cons_self; show 0 ≤ r0; omega, Int.le_refl _⟩, fun x hx => by have := hR.lo x (List.mem_cons_of_mem _ hx); omega, by omega, fun H' g => ?_⟩
  exact q H' ((same_tup s1 hl _).trans g)
end
end FR
namespace FR
open PySem L2
section
variable {P : Program} {w : World} {K : PySem.W.Frag} {mg : Str → Option Value} {base : Heap}
def sp_fits (K : PySem.W.Frag) : Sp := fun vs H Q _ => ∃ (a b : Addr) (c : Int) (rs fs : List Int), vs = [.ref a, .ref b, .int c] ∧ H a = some (.lst (rs.map V.int)) ∧ H b = some (.lst (fs.map V.int)) ∧ IsRule rs ∧ IsFold rs fs ∧
  ∀ H' : Hp, Same H H' → Q (.bl (decide (spanL rs fs ≤ c))) H'
theorem ok_fits {f : Addr} {fd : FuncData} (F : Fun K "fits" "fits" s_fits f fd) {f_span : Addr} {d_span : FuncData} (G_span : FnOk P w K mg base (CXE P w) 4 f_span d_span ["rule", "folding"] (sp_span K)) (m_span : mg "span" = some (.ref f_span)) (k_span : PySem.W.keepIn K (.ref f_span) = true) (b_span : Binds K d_span ["rule", "folding"] []) :
    FnOk P w K mg base (CXE P w) 5 f fd ["rule", "folding", "case"] (sp_fits K) := by
  refine F.okN sc_fits (fun vs H Q E h => ?_) (fun cdv A outer s H vs Q E hr h => ?_)
  · obtain ⟨a, b, c, rs, fs, rfl, _⟩ := h
    rfl
  obtain ⟨a, b, c, rs, fs, rfl, hS, hT, hR, hF, q⟩ := h
  refine ⟨_, (pss_one (ps_ret (pe_cmpR op_le (pe_call G_span (hr.mono (by omega)) (by rfl) m_span k_span b_span .nil passN (pa_cons (pv 0) (pa_cons (pv 1) pa_nil))) (pv 2) (nomark _)))), ?_⟩
  walk_at "rd"
  refine ⟨a, b, rs, fs, rfl, hS, hT, hR, hF, fun H' g => ?_⟩
  walk_at "rd"
  exact q H' g
end
end FR
namespace FR
open PySem L2
section
variable {P : Program} {w : World} {K : PySem.W.Frag} {mg : Str → Option Value} {base : Heap}
/-- the folding of a number (0 ≤ n below how many) -/
def sp_folding_at (K : PySem.W.Frag) : Sp := fun vs H Q E => ∃ (a : Addr) (c n r0 : Int) (ls : List Int), vs = [.ref a, .int c, .int n] ∧ SqL K H a ((r0 :: ls).map V.int) ∧ IsRule (r0 :: ls) ∧
  (0 ≤ n → n < cnt c (r0, 0) ls → ∀ (l : Addr) (H' : Hp), NewL H H' l ((atL c (r0, 0) ls n).map V.int) → Q (.ref l) H') ∧ (¬ (0 ≤ n ∧ n < cnt c (r0, 0) ls) → ∀ H' : Hp, Same H H' → E (.ref (clsA K "NoSuch")) none H')
theorem ok_folding_at {f : Addr} {fd : FuncData} (F : Fun K "folding_at" "folding_at" s_folding_at f fd) {f_further_reach : Addr} {d_further_reach : FuncData} (G_further_reach : FnOk P w K mg base (CXE P w) 1 f_further_reach d_further_reach ["reach", "turn", "length"] (sp_further_reach K)) (m_further_reach : mg "further_reach" = some (.ref f_further_reach)) (k_further_reach : PySem.W.keepIn K (.ref f_further_reach) = true) (b_further_reach : Binds K d_further_reach ["reach", "turn", "length"] []) {f_many_going_on : Addr} {d_many_going_on : FuncData} (G_many_going_on : FnOk P w K mg base (CXE P w) 4 f_many_going_on d_many_going_on ["rule", "case", "reach", "hinge"] (sp_many_going_on K)) (m_many_going_on : mg "many_going_on" = some (.ref f_many_going_on)) (k_many_going_on : PySem.W.keepIn K (.ref f_many_going_on) = true) (b_many_going_on : Binds K d_many_going_on ["rule", "case", "reach", "hinge"] []) {f_first_reach : Addr} {d_first_reach : FuncData} (G_first_reach : FnOk P w K mg base (CXE P w) 1 f_first_reach d_first_reach ["rule"] (sp_first_reach K)) (m_first_reach : mg "first_reach" = some (.ref f_first_reach)) (k_first_reach : PySem.W.keepIn K (.ref f_first_reach) = true) (b_first_reach : Binds K d_first_reach ["rule"] []) {f_many_fits : Addr} {d_many_fits : FuncData} (G_many_fits : FnOk P w K mg base (CXE P w) 4 f_many_fits d_many_fits ["rule", "case"] (sp_many_fits K)) (m_many_fits : mg "many_fits" = some (.ref f_many_fits)) (k_many_fits : PySem.W.keepIn K (.ref f_many_fits) = true) (b_many_fits : Binds K d_many_fits ["rule", "case"] []) (Er : Errs K mg) (z_range : mg "range" = none) (z_len : mg "len" = none) :
    FnOk P w K mg base (CXE P w) 5 f fd ["rule", "case", "number"] (sp_folding_at K) := by
  refine F.okX sc_folding_at (fun vs H Q E h => ?_) (fun cdv A outer s H vs Q E hr h => ?_)
  · obtain ⟨a, c, n, r0, ls, rfl, _⟩ := h
    rfl
  obtain ⟨a, c, n, r0, ls, rfl, hS, hR, q0, qx⟩ := h
  have ND := sc_folding_at.nd
  refine ⟨_, (pss_cons (ps_if (pw_or (pt_cmpR op_ge (pv 2) (pe_call G_many_fits (hr.mono (by omega)) (by rfl) m_many_fits k_many_fits b_many_fits .nil passN (pa_cons (pv 0) (pa_cons (pv 1) pa_nil))) (nomark _)) (pw_or1 (pt_cmpR op_lt (pv 2) pe_int (nomark _)))).pt (pss_one (ps_raise (Er.q "NoSuch" (by decide)) (by rfl) (Er.m "NoSuch" (by decide)) (pa_cons pe_str pa_nil))) pss_nil)
    (pss_cons (ps_set (i := 3) ND rfl (Or.inl rfl) (pe_call G_first_reach (hr.mono (by omega)) (by rfl) m_first_reach k_first_reach b_first_reach .nil passN (pa_cons (pv 0) pa_nil)))
    (pss_cons (ps_set (i := 4) ND rfl (Or.inl rfl) (pv 2))
    (pss_cons (ps_set (i := 5) ND rfl (Or.inl rfl) (pe_lst pa_nil))
    (pss_cons (PS.nox (ps_for PassesOwn.never rfl (pi_range1 (by rfl) z_range (pa_cons (pe_op op_sub (pe_callB (call_lenK K) (by rfl) z_len PySem.boot_len (pa_cons (pv 0) pa_nil)) pe_int) pa_nil)) (pg_name (i := 6) ND rfl (Or.inl rfl)) (pss_cons (ps_set (i := 7) ND rfl (Or.inl rfl) (pe_call G_many_going_on (hr.mono (by omega)) (by rfl) m_many_going_on k_many_going_on b_many_going_on .nil passN (pa_cons (pv 0) (pa_cons (pv 1) (pa_cons (pv 3) (pa_cons (pv 6) pa_nil))))))
    (pss_cons (ps_set (i := 8) ND rfl (Or.inl rfl) (pe_ifExp (pt_cmpR op_lt (pv 4) (pv 7) (nomark _)) pe_int pe_int))
    (pss_cons (ps_if (pt_cmpR op_eq (pv 8) pe_int (nomark _)) (pss_one (ps_set (i := 4) ND rfl (Or.inl rfl) (pe_op op_sub (pv 4) (pv 7)))) pss_nil)
    (pss_cons (ps_expr (pe_bmK K PySem.F.plainAttrs_list PySem.F.slot_list_append PySem.F.type_list_append mt_append (pv 5) (pa_cons (pv 8) pa_nil)))
    (pss_one (ps_set (i := 3) ND rfl (Or.inl rfl) (pe_call G_further_reach (hr.mono (by omega)) (by rfl) m_further_reach k_further_reach b_further_reach .nil passN (pa_cons (pv 3) (pa_cons (pv 8) (pa_cons (pe_ix (ix_listK K) (pv 0) (pe_op op_add (pv 6) pe_int) (fun _ _ => rfl)) pa_nil))))))))))))
    (pss_one (ps_ret (pv 5)))))))), ?_⟩
  walk_at "rd"
  have hlo : ∀ x ∈ r0 :: ls, 0 ≤ x := fun x hx => by have := hR.lo x hx; omega
  have hfew := hR.few
  rw [List.length_cons] at hfew
  refine ⟨a, c, r0, ls, rfl, hS, hR, fun H1 g1 => ?_⟩
  walk_at "rd"
  refine ite2 (fun hb => ⟨(by decide : 1 ≤ sizeLine), qx (by omega) _ g1⟩) (fun hb => ?_)
  refine ite2 (fun hc => ⟨(by decide : 1 ≤ sizeLine), qx (by omega) _ g1⟩) (fun hc => ?_)
  have hn0 : 0 ≤ n := by omega
  have hn1 : n < cnt c (r0, 0) ls := by omega
  have q := q0 hn0 hn1
  refine ⟨a, r0, ls, rfl, g1.seq hS, fun p hp => ?_⟩
  walk_at "rd"
  have s2 := same_tup g1 hp (.tup [.int r0, .int 0])
  refine ⟨(by decide : 0 ≤ sizeLine), fun l hl => ?_⟩
  have ln : H l = none := s2.free hl
  have s3 := same_tup s2 hl (.lst [])
  have hp3 : upd (upd H1 p (.tup [.int r0, .int 0])) l (.lst []) p = some (.tup [.int r0, .int 0]) := upd_keep upd_same hl
  have hl3 : upd (upd H1 p (.tup [.int r0, .int 0])) l (.lst []) l = some (.lst (([] : List Int).map V.int)) := upd_same
  generalize upd (upd H1 p (.tup [.int r0, .int 0])) l (.lst []) = H3 at *
  have en : ((((r0 :: ls).map V.int).length : Int) - 1).toNat = ls.length := by rw [List.length_map, List.length_cons]; omega
  refine ⟨_, rfl, a, _, rfl, s3.seq hS, _, _, rfl, rfl, _, rfl, ?_, ?_, ?_⟩
  · rw [List.length_map, List.length_cons]; omega
  · rw [List.length_map, List.length_cons]; omega
  rw [en]
  refine for_range (lo := 0) (n := ls.length) (fun i σ H' => Same H H' ∧ ∃ (p : Addr) (r : Rch) (m : Int) (fs : List Int) (o6 o7 o8 : Option V), σ = [some (.ref a), some (.int c), some (.int n), some (.ref p), some (.int m), some (.ref l), o6, o7, o8] ∧ H' p = some (.tup [.int r.1, .int r.2]) ∧ Ge0 r ∧
      H' l = some (.lst (fs.map V.int)) ∧ fs.length = i ∧ 0 ≤ m ∧ m < cnt c r (ls.drop i) ∧ atL c (r0, 0) ls n = fs ++ atL c r (ls.drop i) m)
    ⟨s3, p, (r0, 0), n, [], _, _, _, rfl, hp3, ⟨by have := hR.lo r0 List.mem_cons_self; show 0 ≤ r0; omega, Int.le_refl _⟩, hl3, rfl, hn0, hn1, rfl⟩ (fun i σ H' hi h => ?_) (fun σ H' h => ?_)
  · obtain ⟨g4, p', r, m, fs, o6, o7, o8, rfl, hp', hG, hl', hfl, m0, m1, hat⟩ := h
    obtain ⟨L, hL⟩ : ∃ L, ls[i]? = some L := ⟨_, List.getElem?_eq_getElem hi⟩
    have hL' : (r0 :: ls)[i + 1]? = some L := by rw [List.getElem?_cons_succ]; exact hL
    have hdr := drop_cons hL
    have hLge : 0 ≤ L := hlo L (List.mem_of_getElem? hL')
    rw [hdr, cnt] at m1
    rw [hdr, atL] at hat
    walk_at "rd"
    refine ⟨a, p', c, r, r0 :: ls, i, L, by rw [Int.zero_add], g4.seq hS, hp', hG, hlo, by rw [List.length_cons]; omega, hL', fun H5 g5 => ?_⟩
    have e1 : (0 + (i : Int) + 1) = ((i + 1 : Nat) : Int) := by omega
    have pl : p' ≠ l := ne_of hp' hl' (fun z => nomatch z)
    have hdd : (r0 :: ls).drop (i + 2) = ls.drop (i + 1) := rfl
    rw [hdd]
    walk_at "rd"
    have hlen : (fs.map V.int).length < sizeLine := by rw [List.length_map]; exact small12 (by omega)
    have l5 := g5 _ _ hl'
    have S6 : ∀ o, Same H (upd H5 l o) := fun o => same_upd (g4.trans g5) ln o
    have hp6 : ∀ o, upd H5 l o p' = some (.tup [.int r.1, .int r.2]) := fun o => by rw [upd_ne pl]; exact g5 _ _ hp'
    have at6 : atI ((r0 :: ls).map V.int) (0 + (i : Int) + 1) = some (.int L) := by rw [e1]; exact atI_nat (getI hL')
    by_cases hm : m < cnt c (frR r 0 L) (ls.drop (i + 1))
    · rw [if_pos hm] at hat ⊢
      rw [if_neg (by decide)]
      refine ⟨tyL l5, _, l5, hlen, _, (S6 _).seq hS, _, at6, p', r, 0, L, rfl, SqT.of (hp6 _), fun p2 hp2 => ⟨same_tup (S6 _) hp2 _, p2, rfl, frR r 0 L, upd_same, hG.fr hLge, fs ++ [0], ?_, by simp [hfl], m0, hm, by rw [hat]; simp⟩⟩
      rw [List.map_append]; exact upd_keep upd_same hp2
    · rw [if_neg hm] at hat ⊢
      refine ⟨tyL l5, _, l5, hlen, _, (S6 _).seq hS, _, at6, p', r, 1, L, rfl, SqT.of (hp6 _), fun p2 hp2 => ⟨same_tup (S6 _) hp2 _, p2, rfl, frR r 1 L, upd_same, hG.fr hLge, fs ++ [1], ?_, by simp [hfl], by omega, by omega, by rw [hat]; simp⟩⟩
      rw [List.map_append]; exact upd_keep upd_same hp2
  · obtain ⟨g4, p', r, m, fs, o6, o7, o8, rfl, hp', hG, hl', hfl, m0, m1, hat⟩ := h
    rw [List.drop_length, atL, List.append_nil] at hat
    walk_at "rd"
    refine q l H' ⟨g4, ln, ?_⟩
    rw [hat]; exact hl'
/-- the number of a folding that fits -/
def sp_number_of (K : PySem.W.Frag) : Sp := fun vs H Q _ => ∃ (a b : Addr) (c r0 : Int) (ls fs : List Int), vs = [.ref a, .int c, .ref b] ∧ H a = some (.lst ((r0 :: ls).map V.int)) ∧ H b = some (.lst (fs.map V.int)) ∧ IsRule (r0 :: ls) ∧ IsFold (r0 :: ls) fs ∧ spanL (r0 :: ls) fs ≤ c ∧
  ∀ H' : Hp, Same H H' → Q (.int (numL c (r0, 0) ls fs)) H'
theorem ok_number_of {f : Addr} {fd : FuncData} (F : Fun K "number_of" "number_of" s_number_of f fd) {f_further_reach : Addr} {d_further_reach : FuncData} (G_further_reach : FnOk P w K mg base (CXE P w) 1 f_further_reach d_further_reach ["reach", "turn", "length"] (sp_further_reach K)) (m_further_reach : mg "further_reach" = some (.ref f_further_reach)) (k_further_reach : PySem.W.keepIn K (.ref f_further_reach) = true) (b_further_reach : Binds K d_further_reach ["reach", "turn", "length"] []) {f_many_going_on : Addr} {d_many_going_on : FuncData} (G_many_going_on : FnOk P w K mg base (CXE P w) 4 f_many_going_on d_many_going_on ["rule", "case", "reach", "hinge"] (sp_many_going_on K)) (m_many_going_on : mg "many_going_on" = some (.ref f_many_going_on)) (k_many_going_on : PySem.W.keepIn K (.ref f_many_going_on) = true) (b_many_going_on : Binds K d_many_going_on ["rule", "case", "reach", "hinge"] []) {f_first_reach : Addr} {d_first_reach : FuncData} (G_first_reach : FnOk P w K mg base (CXE P w) 1 f_first_reach d_first_reach ["rule"] (sp_first_reach K)) (m_first_reach : mg "first_reach" = some (.ref f_first_reach)) (k_first_reach : PySem.W.keepIn K (.ref f_first_reach) = true) (b_first_reach : Binds K d_first_reach ["rule"] []) {f_fits : Addr} {d_fits : FuncData} (G_fits : FnOk P w K mg base (CXE P w) 5 f_fits d_fits ["rule", "folding", "case"] (sp_fits K)) (m_fits : mg "fits" = some (.ref f_fits)) (k_fits : PySem.W.keepIn K (.ref f_fits) = true) (b_fits : Binds K d_fits ["rule", "folding", "case"] []) (z_enumerate : mg "enumerate" = none) :
    FnOk P w K mg base (CXE P w) 6 f fd ["rule", "case", "folding"] (sp_number_of K) := by
  refine F.okN sc_number_of (fun vs H Q E h => ?_) (fun cdv A outer s H vs Q E hr h => ?_)
  · obtain ⟨a, b, c, r0, ls, fs, rfl, _⟩ := h
    rfl
  obtain ⟨a, b, c, r0, ls, fs, rfl, hS, hT, hR, hF, hsp, q⟩ := h
  have ND := sc_number_of.nd
  refine ⟨_, (pss_cons (ps_if (pt_not (pt_truthK K (pe_call G_fits (hr.mono (by omega)) (by rfl) m_fits k_fits b_fits .nil passN (pa_cons (pv 0) (pa_cons (pv 2) (pa_cons (pv 1) pa_nil)))) (fun _ => rfl))) (pss_one ps_never) pss_nil)
    (pss_cons (ps_set (i := 3) ND rfl (Or.inl rfl) (pe_call G_first_reach (hr.mono (by omega)) (by rfl) m_first_reach k_first_reach b_first_reach .nil passN (pa_cons (pv 0) pa_nil)))
    (pss_cons (ps_set (i := 4) ND rfl (Or.inl rfl) pe_int)
    (pss_cons (ps_for PassesOwn.never rfl (pi_enumK K (by rfl) z_enumerate (pa_cons (pv 2) pa_nil)) (pg_tupK K 2 rfl (pgs_cons (pg_name (i := 5) ND rfl (Or.inl rfl)) (pgs_cons (pg_name (i := 6) ND rfl (Or.inl rfl)) pgs_nil))) (pss_cons (ps_if (pt_cmpR op_eq (pv 6) pe_int (nomark _)) (pss_one (ps_set (i := 4) ND rfl (Or.inl rfl) (pe_op op_add (pv 4) (pe_call G_many_going_on (hr.mono (by omega)) (by rfl) m_many_going_on k_many_going_on b_many_going_on .nil passN (pa_cons (pv 0) (pa_cons (pv 1) (pa_cons (pv 3) (pa_cons (pv 5) pa_nil)))))))) pss_nil)
    (pss_one (ps_set (i := 3) ND rfl (Or.inl rfl) (pe_call G_further_reach (hr.mono (by omega)) (by rfl) m_further_reach k_further_reach b_further_reach .nil passN (pa_cons (pv 3) (pa_cons (pv 6) (pa_cons (pe_ix (ix_listK K) (pv 0) (pe_op op_add (pv 5) pe_int) (fun _ _ => rfl)) pa_nil))))))))
    (pss_one (ps_ret (pv 4))))))), ?_⟩
  walk_at "rd"
  have hlo : ∀ x ∈ r0 :: ls, 0 ≤ x := fun x hx => by have := hR.lo x hx; omega
  have hfew := hR.few
  rw [List.length_cons] at hfew
  have hlen : fs.length = ls.length := by have := hF.len; simpa using this
  refine ⟨a, b, c, r0 :: ls, fs, rfl, hS, hT, hR, hF, fun H1 g1 => ?_⟩
  walk_at "rd"
  rw [if_neg (fun z => z hsp)]
  refine ⟨a, r0, ls, rfl, SqL.of (g1 _ _ hS), fun p hp => ?_⟩
  walk_at "rd"
  have s2 := same_tup g1 hp (.tup [.int r0, .int 0])
  have hp2 : upd H1 p (.tup [.int r0, .int 0]) p = some (.tup [.int r0, .int 0]) := upd_same
  generalize upd H1 p (.tup [.int r0, .int 0]) = H2 at *
  refine ⟨_, rfl, b, rfl, ⟨_, SqL.of (s2 _ _ hT)⟩, for_enum (xs := fs.map V.int) (fun i σ H' => Same H H' ∧ ∃ (p : Addr) (r : Rch) (n : Int) (o5 o6 : Option V), σ = [some (.ref a), some (.int c), some (.ref b), some (.ref p), some (.int n), o5, o6] ∧ H' p = some (.tup [.int r.1, .int r.2]) ∧ Ge0 r ∧
      numL c (r0, 0) ls fs = n + numL c r (ls.drop i) (fs.drop i))
    ⟨s2, p, (r0, 0), 0, _, _, rfl, hp2, ⟨by have := hR.lo r0 List.mem_cons_self; show 0 ≤ r0; omega, Int.le_refl _⟩, (Int.zero_add _).symm⟩ (fun i σ H' _ h => SqL.of (h.1 _ _ hT)) (fun i x t σ H' hx ht h => ?_) (fun σ H' h => ?_)⟩
  · obtain ⟨g3, p', r, n, o5, o6, rfl, hp', hG, hnum⟩ := h
    obtain ⟨u, hu, rfl⟩ := ofGetI hx
    have li := (List.getElem?_eq_some_iff.mp hu).1
    obtain ⟨L, hL⟩ : ∃ L, ls[i]? = some L := ⟨_, List.getElem?_eq_getElem (by omega)⟩
    have hL' : (r0 :: ls)[i + 1]? = some L := by rw [List.getElem?_cons_succ]; exact hL
    have hLge : 0 ≤ L := hlo L (List.mem_of_getElem? hL')
    rw [drop_cons hL, drop_cons hu, numL] at hnum
    have g4 := same_tup g3 ht (.tup [.int (i : Int), .int u])
    have hp4 := upd_keep (u := .tup [.int (i : Int), .int u]) hp' ht
    have tS : SqT K (upd H' t (.tup [.int (i : Int), .int u])) t [.int (i : Int), .int u] := SqT.of upd_same
    generalize upd H' t (.tup [.int (i : Int), .int u]) = H4 at *
    walk_at "rd"
    refine ⟨_, tS, rfl, _, _, rfl, _, _, rfl, rfl, ?_⟩
    have e1 : ((i : Int) + 1) = ((i + 1 : Nat) : Int) := by omega
    have at6 : atI ((r0 :: ls).map V.int) ((i : Int) + 1) = some (.int L) := by rw [e1]; exact atI_nat (getI hL')
    have hdd : (r0 :: ls).drop (i + 2) = ls.drop (i + 1) := rfl
    refine ⟨rfl, ?_⟩
    by_cases hu1 : u = 1
    · subst hu1
      rw [if_pos rfl] at hnum ⊢
      refine ⟨a, p', c, r, r0 :: ls, i, L, rfl, SqL.of (g4 _ _ hS), hp4, hG, hlo, by rw [List.length_cons]; omega, hL', fun H5 g5 => ⟨_, rfl, _, rfl, _, SqL.of (g5 _ _ (g4 _ _ hS)), _, at6, p', r, 1, L, rfl, SqT.of (g5 _ _ hp4), fun p2 hp2 => ⟨same_tup (g4.trans g5) hp2 _, p2, rfl, frR r 1 L, upd_same, hG.fr hLge, ?_⟩⟩⟩
      rw [hdd]; omega
    · rw [if_neg hu1] at hnum
      rw [if_neg (fun z => hu1 (by cases z; rfl))]
      refine ⟨_, rfl, _, SqL.of (g4 _ _ hS), _, at6, p', r, u, L, rfl, SqT.of hp4, fun p2 hp2 => ⟨same_tup g4 hp2 _, p2, rfl, frR r u L, upd_same, hG.fr hLge, ?_⟩⟩
      omega
  · obtain ⟨g3, p', r, n, o5, o6, rfl, hp', hG, hnum⟩ := h
    rw [List.length_map, hlen, List.drop_length] at hnum
    have e0 : numL c r [] (fs.drop ls.length) = 0 := rfl
    rw [e0, Int.add_zero] at hnum
    walk_at "rd"
    rw [← hnum]
    exact q H' g3
end
end FR
namespace FR
open PySem L2
section
variable {P : Program} {w : World} {K : PySem.W.Frag} {mg : Str → Option Value} {base : Heap}
-- ALWAYS
/-- the lists at the addresses -/
structure AtAll (H : Hp) (refs : List Addr) (fs : List (List Int)) : Prop where
  len : refs.length = fs.length
  at_ : ∀ (i : Nat) (r : Addr) (f : List Int), refs[i]? = some r → fs[i]? = some f → H r = some (.lst (f.map V.int))
theorem AtAll.same {H H' : Hp} {refs : List Addr} {fs : List (List Int)} (h : AtAll H refs fs) (g : ∀ r ∈ refs, ∀ o, H r = some o → H' r = some o) : AtAll H' refs fs :=
  ⟨h.len, fun i r f h1 h2 => g r (List.mem_of_getElem? h1) _ (h.at_ i r f h1 h2)⟩
theorem AtAll.snoc {H : Hp} {refs : List Addr} {fs : List (List Int)} (h : AtAll H refs fs) {r : Addr} {f : List Int} (hr : H r = some (.lst (f.map V.int))) : AtAll H (refs ++ [r]) (fs ++ [f]) := by
  refine ⟨by rw [List.length_append, List.length_append, h.len]; rfl, fun i r' f' h1 h2 => ?_⟩
  by_cases hi : i < refs.length
  · rw [List.getElem?_append_left hi] at h1
    rw [List.getElem?_append_left (by rw [← h.len]; exact hi)] at h2
    exact h.at_ i r' f' h1 h2
  · have hl := (List.getElem?_eq_some_iff.mp h1).1
    rw [List.length_append] at hl
    have e : i = refs.length := by simp at hl; omega
    subst e
    rw [List.getElem?_append_right (Nat.le_refl _)] at h1
    rw [List.getElem?_append_right (by rw [h.len]; exact Nat.le_refl _), h.len] at h2
    simp at h1 h2
    subst h1 h2; exact hr
theorem AtAll.mem {H : Hp} {refs : List Addr} {fs : List (List Int)} (h : AtAll H refs fs) {r : Addr} (hr : r ∈ refs) : ∃ f ∈ fs, H r = some (.lst (f.map V.int)) := by
  obtain ⟨i, hi⟩ := List.getElem?_of_mem hr
  have hl := (List.getElem?_eq_some_iff.mp hi).1
  have hf : fs[i]? = some (fs[i]'(by rw [← h.len]; exact hl)) := List.getElem?_eq_getElem _
  exact ⟨_, List.mem_of_getElem? hf, h.at_ i r _ hi hf⟩
def twoOf (f : List Int) : List (List Int) := [f ++ [0], f ++ [1]]
theorem refGet {refs : List Addr} {i : Nat} {x : V} (h : (refs.map V.ref)[i]? = some x) : ∃ r, refs[i]? = some r ∧ x = .ref r := by
  rw [List.getElem?_map] at h
  obtain ⟨r, h1, h2⟩ := Option.map_eq_some_iff.mp h
  exact ⟨r, h1, h2.symm⟩
structure LA (H : Hp) (l lg : Addr) (refs : List Addr) (A : List (List Int)) (H' : Hp) (refs2 : List Addr) (G : List (List Int)) : Prop where
  same : Same H H'
  hl : H' l = some (.lst (refs.map V.ref))
  hA : AtAll H' refs A
  hlg : H' lg = some (.lst (refs2.map V.ref))
  h2 : AtAll H' refs2 G
  fr : ∀ r ∈ refs2, H r = none ∧ r ≠ lg
theorem LA.step {H : Hp} {l lg : Addr} {refs : List Addr} {A : List (List Int)} {H' : Hp} {refs2 : List Addr} {G : List (List Int)} (h : LA H l lg refs A H' refs2 G) (lgn : H lg = none) (llg : l ≠ lg) (rlg : ∀ r ∈ refs, r ≠ lg) {f : List Int} {t : Int} {p1 c1 : Addr}
    (hp1 : H' p1 = none) (hc1 : upd H' p1 (.lst [.int t]) c1 = none) : LA H l lg refs A (upd (upd (upd H' p1 (.lst [.int t])) c1 (.lst (f.map V.int ++ [.int t]))) lg (.lst (refs2.map V.ref ++ [.ref c1]))) (refs2 ++ [c1]) (G ++ [f ++ [t]]) := by
  have kp : ∀ {b : Addr} {u : HO}, b ≠ lg → H' b = some u → upd (upd (upd H' p1 (.lst [.int t])) c1 (.lst (f.map V.int ++ [.int t]))) lg (.lst (refs2.map V.ref ++ [.ref c1])) b = some u := fun hb e => by
    rw [upd_ne hb]; exact upd_keep (upd_keep e hp1) hc1
  have c1lg : c1 ≠ lg := fun z => by rw [z, upd_keep h.hlg hp1] at hc1; cases hc1
  refine ⟨fun b u e => kp (ne_of_none e lgn) (h.same b u e), kp llg h.hl, h.hA.same fun r hr o e => kp (rlg r hr) e, by rw [upd_same, List.map_append]; rfl, ?_, fun r hr => ?_⟩
  · refine (h.h2.same fun r hr o e => kp (h.fr r hr).2 e).snoc ?_
    rw [upd_ne c1lg, upd_same, List.map_append]; rfl
  · rcases List.mem_append.mp hr with hr | hr
    · exact h.fr r hr
    · cases List.mem_singleton.mp hr
      refine ⟨?_, c1lg⟩
      cases e : H c1 with
      | none => rfl
      | some u => rw [upd_keep (h.same _ _ e) hp1] at hc1; cases hc1
/-- all foldings of so many hinges, in their order -/
def sp_law_all (K : PySem.W.Frag) : Sp := fun vs H Q _ => ∃ n : Nat, vs = [.int (n : Int)] ∧ n ≤ 11 ∧ ∀ (l : Addr) (H' : Hp) (refs : List Addr), Same H H' → H l = none → H' l = some (.lst (refs.map V.ref)) → AtAll H' refs (allF n) → (∀ r ∈ refs, H r = none) → Q (.ref l) H'
theorem ok_law_all {f : Addr} {fd : FuncData} (F : Fun K "_law_all" "_law_all" s_law_all f fd) (z_range : mg "range" = none) :
    FnOk P w K mg base (CXE P w) 1 f fd ["hinges"] (sp_law_all K) := by
  refine F.okN sc_law_all (fun vs H Q E h => ?_) (fun cdv A outer s H vs Q E hr h => ?_)
  · obtain ⟨n, rfl, _⟩ := h
    rfl
  obtain ⟨n, rfl, hn, q⟩ := h
  have ND := sc_law_all.nd
  refine ⟨_, (pss_cons (ps_set (i := 1) ND rfl (Or.inl rfl) (pe_lst (pa_cons (pe_lst pa_nil) pa_nil)))
    (pss_cons (ps_for PassesOwn.never rfl (pi_range1 (by rfl) z_range (pa_cons (pv 0) pa_nil)) (pg_name (i := 2) ND rfl (Or.inl rfl)) (pss_cons (ps_set (i := 3) ND rfl (Or.inl rfl) (pe_lst pa_nil))
    (pss_cons (ps_for PassesOwn.never rfl (pi_listK K (pv 1)) (pg_name (i := 4) ND rfl (Or.inl rfl)) (pss_cons (ps_expr (pe_bmK K PySem.F.plainAttrs_list PySem.F.slot_list_append PySem.F.type_list_append mt_append (pv 3) (pa_cons (pe_op op_cat (pv 4) (pe_lst (pa_cons pe_int pa_nil))) pa_nil)))
    (pss_one (ps_expr (pe_bmK K PySem.F.plainAttrs_list PySem.F.slot_list_append PySem.F.type_list_append mt_append (pv 3) (pa_cons (pe_op op_cat (pv 4) (pe_lst (pa_cons pe_int pa_nil))) pa_nil))))))
    (pss_one (ps_set (i := 1) ND rfl (Or.inl rfl) (pv 3))))))
    (pss_one (ps_ret (pv 1))))), ?_⟩
  walk_at "rd"
  refine ⟨(by decide : 0 ≤ sizeLine), fun l0 hl0 => ⟨(by decide : 1 ≤ sizeLine), fun l1 hl1 => ?_⟩⟩
  have e0 : Same H (upd (upd H l0 (.lst [])) l1 (.lst [.ref l0])) := same_tup (same_new hl0 _) hl1 _
  have l1n : H l1 = none := (same_new hl0 _).free hl1
  have b0 : upd (upd H l0 (.lst [])) l1 (.lst [.ref l0]) l0 = some (.lst []) := upd_keep upd_same hl1
  have b1 : upd (upd H l0 (.lst [])) l1 (.lst [.ref l0]) l1 = some (.lst [.ref l0]) := upd_same
  generalize upd (upd H l0 (.lst [])) l1 (.lst [.ref l0]) = H1 at *
  have en : ((n : Int)).toNat = n := by omega
  refine ⟨_, rfl, _, rfl, by omega, by omega, ?_⟩
  rw [en]
  refine for_range (lo := 0) (n := n) (fun i σ H' => Same H H' ∧ ∃ (l : Addr) (refs : List Addr) (o2 o3 o4 : Option V), σ = [some (.int (n : Int)), some (.ref l), o2, o3, o4] ∧ H l = none ∧ H' l = some (.lst (refs.map V.ref)) ∧ AtAll H' refs (allF i) ∧ ∀ r ∈ refs, H r = none)
    ⟨e0, l1, [l0], _, _, _, rfl, l1n, b1, ⟨rfl, fun i r f h1 h2 => ?_⟩, fun r hr => by cases List.mem_singleton.mp hr; exact hl0⟩ (fun i σ H2 hi h => ?_) (fun σ H2 h => ?_)
  · match i with
    | 0 =>
      simp at h1
      have h2' : ([] : List Int) = f := by simpa [allF] using h2
      subst h1 h2'; exact b0
    | k + 1 => simp at h1
  · obtain ⟨g2, l, refs, o2, o3, o4, rfl, ln, hl, hA, hrn⟩ := h
    walk_at "rd"
    refine ⟨(by decide : 0 ≤ sizeLine), fun lg hlg => ?_⟩
    have g3 := same_tup g2 hlg (.lst [])
    have lgn : H lg = none := g2.free hlg
    have hl3 := upd_keep (u := .lst []) hl hlg
    have lg3 : upd H2 lg (.lst []) lg = some (.lst (([] : List Addr).map V.ref)) := upd_same
    have hA3 : AtAll (upd H2 lg (.lst [])) refs (allF i) := hA.same fun r hr o e => upd_keep e hlg
    have llg : l ≠ lg := ne_of_none hl hlg
    have rlg : ∀ r ∈ refs, r ≠ lg := fun r hr => by
      obtain ⟨f, _, e⟩ := hA.mem hr
      exact ne_of_none e hlg
    generalize upd H2 lg (.lst []) = H3 at *
    have alen : (allF i).length ≤ 2048 := by
      rw [allF_len]
      exact Nat.le_trans (Nat.pow_le_pow_right (by decide) (show i ≤ 11 by omega)) (by decide)
    have L3 : LA H l lg refs (allF i) H3 [] [] := ⟨g3, hl3, hA3, lg3, ⟨rfl, fun i r f h1 => by simp at h1⟩, fun r hr => by cases hr⟩
    refine ⟨_, rfl, l, rfl, ⟨_, SqL.of hl3⟩, for_list (xs := refs.map V.ref) (fun j σ H' => ∃ (refs2 : List Addr) (o4 : Option V), σ = [some (.int (n : Int)), some (.ref l), some (.int (0 + (i : Int))), some (.ref lg), o4] ∧ LA H l lg refs (allF i) H' refs2 (((allF i).take j).flatMap twoOf))
      ⟨[], _, rfl, L3⟩ (fun j σ H' _ h => by obtain ⟨_, _, _, h⟩ := h; exact SqL.of h.hl) (fun j x σ H4 hx h => ?_) (fun σ H4 h => ?_)⟩
    · obtain ⟨refs2, o4, rfl, L4⟩ := h
      obtain ⟨r, hr, rfl⟩ := refGet hx
      have lj := (List.getElem?_eq_some_iff.mp hr).1
      obtain ⟨f, hf⟩ : ∃ f, (allF i)[j]? = some f := ⟨_, List.getElem?_eq_getElem (by rw [← hA.len]; exact lj)⟩
      have hrf : H4 r = some (.lst (f.map V.int)) := L4.hA.at_ j r f hr hf
      have fl : f.length = i := ((allF_mem i f).mp (List.mem_of_getElem? hf)).1
      have rl : r ≠ lg := rlg r (List.mem_of_getElem? hr)
      have tk := take_snoc hf
      have r2len : refs2.length ≤ 4096 := by
        rw [L4.h2.len, List.length_flatMap]
        have key : ∀ l : List (List Int), (l.map fun r => (twoOf r).length).sum = l.length * 2 := by
          intro l
          induction l with
          | nil => rfl
          | cons r q ih2 => rw [List.map_cons, List.sum_cons, ih2, List.length_cons]; simp [twoOf]; omega
        rw [key, List.length_take]; omega
      rw [tk, List.flatMap_append]
      have e2 : ([f] : List (List Int)).flatMap twoOf = [f ++ [0]] ++ [f ++ [1]] := rfl
      rw [e2, ← List.append_assoc]
      walk_at "rd"
      refine ⟨tyL L4.hlg, (by decide : 1 ≤ sizeLine), fun p1 hp1 => ⟨_, upd_keep hrf hp1, _, upd_same, ?_, fun c1 hc1 => ⟨_, upd_keep (upd_keep L4.hlg hp1) hc1, ?_, ?_⟩⟩⟩
      · rw [List.length_map]; exact small12' (by simp only [List.length_cons, List.length_nil]; omega)
      · rw [List.length_map]; exact big_small (by omega)
      have L5 := L4.step lgn llg rlg (f := f) (t := 0) hp1 hc1
      have hrf5 : upd (upd (upd H4 p1 (.lst [.int 0])) c1 (.lst (f.map V.int ++ [.int 0]))) lg (.lst (refs2.map V.ref ++ [.ref c1])) r = some (.lst (f.map V.int)) := by
        rw [upd_ne rl]; exact upd_keep (upd_keep hrf hp1) hc1
      generalize upd (upd (upd H4 p1 (.lst [.int 0])) c1 (.lst (f.map V.int ++ [.int 0]))) lg (.lst (refs2.map V.ref ++ [.ref c1])) = H5 at *
      refine ⟨tyL L5.hlg, (by decide : 1 ≤ sizeLine), fun p2 hp2 => ⟨_, upd_keep hrf5 hp2, _, upd_same, ?_, fun c2 hc2 => ⟨_, upd_keep (upd_keep L5.hlg hp2) hc2, ?_, ?_⟩⟩⟩
      · rw [List.length_map]; exact small12' (by simp only [List.length_cons, List.length_nil]; omega)
      · rw [List.length_map, List.length_append]; exact big_small (by simp only [List.length_cons, List.length_nil]; omega)
      exact ⟨_, L5.step lgn llg rlg (f := f) (t := 1) hp2 hc2⟩
    · obtain ⟨refs2, o4, rfl, L4⟩ := h
      have e3 : ((allF i).take (refs.map V.ref).length).flatMap twoOf = allF (i + 1) := by
        rw [List.length_map, hA.len, List.take_length]; rfl
      rw [e3] at L4
      walk_at "rd"
      exact ⟨L4.same, lgn, refs2, L4.hlg, L4.h2, fun r hr => (L4.fr r hr).1⟩
  · obtain ⟨g2, l, refs, o2, o3, o4, rfl, ln, hl, hA, hrn⟩ := h
    walk_at "rd"
    exact q l H2 refs g2 ln hl hA hrn
/-- which of the four the exception is -/
def sp_law_alone (K : PySem.W.Frag) : Sp := fun vs H Q _ => ∃ (a : Addr) (nm : Str) (j : Nat), vs = [.ref a] ∧ H a = some (exO a (clsA K nm)) ∧ kidN[j]? = some nm ∧ ∀ H' : Hp, Same H H' → Q (.int (j : Int)) H'
theorem kid_cases {j : Nat} {nm : Str} (h : kidN[j]? = some nm) : (j = 0 ∧ nm = "BadRule") ∨ (j = 1 ∧ nm = "BadFolding") ∨ (j = 2 ∧ nm = "NoSuch") ∨ (j = 3 ∧ nm = "NoText") := by
  match j with
  | 0 => left; exact ⟨rfl, by simpa [kidN] using h.symm⟩
  | 1 => right; left; exact ⟨rfl, by simpa [kidN] using h.symm⟩
  | 2 => right; right; left; exact ⟨rfl, by simpa [kidN] using h.symm⟩
  | 3 => right; right; right; exact ⟨rfl, by simpa [kidN] using h.symm⟩
  | k + 4 => simp [kidN] at h
theorem ok_law_alone {f : Addr} {fd : FuncData} (F : Fun K "_law_alone" "_law_alone" s_law_alone f fd) (Er : Errs K mg) (z_isinstance : mg "isinstance" = none) (z_ValueError : mg "ValueError" = none) :
    FnOk P w K mg base (CXE P w) 1 f fd ["e"] (sp_law_alone K) := by
  refine F.okN sc_law_alone (fun vs H Q E h => ?_) (fun cdv A outer s H vs Q E hr h => ?_)
  · obtain ⟨a, nm, j, rfl, _⟩ := h
    rfl
  obtain ⟨a, nm, j, rfl, ha, hj, q⟩ := h
  have ND := sc_law_alone.nd
  have hm : nm ∈ kidN := List.mem_of_getElem? hj
  refine ⟨_, (pss_cons (ps_set (i := 1) ND rfl (Or.inl rfl) (pe_lst (pa_cons (pe_callB (call_isiE K) (by rfl) z_isinstance PyProof.Rows.Boot.«isinstance» (pa_cons (pv 0) (pa_cons (pe_glob (v := .ref (clsA K "BadRule")) (by rfl) (Er.m "BadRule" (by decide)) rfl) pa_nil))) (pa_cons (pe_callB (call_isiE K) (by rfl) z_isinstance PyProof.Rows.Boot.«isinstance» (pa_cons (pv 0) (pa_cons (pe_glob (v := .ref (clsA K "BadFolding")) (by rfl) (Er.m "BadFolding" (by decide)) rfl) pa_nil))) (pa_cons (pe_callB (call_isiE K) (by rfl) z_isinstance PyProof.Rows.Boot.«isinstance» (pa_cons (pv 0) (pa_cons (pe_glob (v := .ref (clsA K "NoSuch")) (by rfl) (Er.m "NoSuch" (by decide)) rfl) pa_nil))) (pa_cons (pe_callB (call_isiE K) (by rfl) z_isinstance PyProof.Rows.Boot.«isinstance» (pa_cons (pv 0) (pa_cons (pe_glob (v := .ref (clsA K "NoText")) (by rfl) (Er.m "NoText" (by decide)) rfl) pa_nil))) pa_nil))))))
    (pss_cons (ps_if (pw_or (pt_not (pt_truthK K (pe_callB (call_isiE K) (by rfl) z_isinstance PyProof.Rows.Boot.«isinstance» (pa_cons (pv 0) (pa_cons (pe_glob (v := .ref (clsA K "RuleError")) (by rfl) (Er.m "RuleError" (by decide)) rfl) pa_nil))) (fun _ => rfl))) (pw_or (pt_not (pt_truthK K (pe_callB (call_isiE K) (by rfl) z_isinstance PyProof.Rows.Boot.«isinstance» (pa_cons (pv 0) (pa_cons (pe_bltn (v := .ty "ValueError") (by rfl) z_ValueError PyProof.Rows.Boot.«ValueError» rfl) pa_nil))) (fun _ => rfl))) (pw_or1 (pt_cmpR op_ne (pe_bmK K PySem.F.plainAttrs_list PySem.F.slot_list_count PySem.F.type_list_count (mt_count K) (pv 1) (pa_cons pe_bl pa_nil)) pe_int (nomark _))))).pt (pss_one (ps_ret (pe_un un_neg pe_int))) pss_nil)
    (pss_one (ps_ret (pe_bmK K PySem.F.plainAttrs_list PySem.F.slot_list_index PySem.F.type_list_index (mt_index K) (pv 1) (pa_cons pe_bl pa_nil)))))), ?_⟩
  walk_at "rd"
  have hI := Er.i nm hm
  have hK := Er.k nm hm
  refine ⟨_, ha, hI, _, hK "BadRule" (by decide), _, ha, hI, _, hK "BadFolding" (by decide), _, ha, hI, _, hK "NoSuch" (by decide), _, ha, hI, _, hK "NoText" (by decide), (by decide : 4 ≤ sizeLine), fun p hp => ?_⟩
  have s1 := same_new hp (.lst [.bl (decide (nm = "BadRule")), .bl (decide (nm = "BadFolding")), .bl (decide (nm = "NoSuch")), .bl (decide (nm = "NoText"))])
  have hp1 : upd H p (.lst [.bl (decide (nm = "BadRule")), .bl (decide (nm = "BadFolding")), .bl (decide (nm = "NoSuch")), .bl (decide (nm = "NoText"))]) p = some (.lst ([decide (nm = "BadRule"), decide (nm = "BadFolding"), decide (nm = "NoSuch"), decide (nm = "NoText")].map V.bl)) := upd_same
  generalize upd H p (.lst [.bl (decide (nm = "BadRule")), .bl (decide (nm = "BadFolding")), .bl (decide (nm = "NoSuch")), .bl (decide (nm = "NoText"))]) = H1 at *
  have ha' := s1 _ _ ha
  refine ⟨_, ha', hI, true, Er.kR nm hm, ?_⟩
  rw [if_neg (by decide)]
  refine ⟨_, ha', hI, true, Er.kV nm hm, ?_⟩
  rw [if_neg (by decide)]
  refine ⟨tyL hp1, _, SqL.of hp1, ?_⟩
  have q' := q H1 s1
  rcases kid_cases hj with ⟨rfl, rfl⟩ | ⟨rfl, rfl⟩ | ⟨rfl, rfl⟩ | ⟨rfl, rfl⟩
  · rw [if_neg (by decide)]
    exact ⟨tyL hp1, _, SqL.of hp1, 0, rfl, fun m hm => by omega, by decide, q'⟩
  · rw [if_neg (by decide)]
    refine ⟨tyL hp1, _, SqL.of hp1, 1, rfl, fun m hm => ?_, by decide, q'⟩
    match m, hm with
    | 0, _ => exact (by decide)
  · rw [if_neg (by decide)]
    refine ⟨tyL hp1, _, SqL.of hp1, 2, rfl, fun m hm => ?_, by decide, q'⟩
    match m, hm with
    | 0, _ => exact (by decide)
    | 1, _ => exact (by decide)
  · rw [if_neg (by decide)]
    refine ⟨tyL hp1, _, SqL.of hp1, 3, rfl, fun m hm => ?_, by decide, q'⟩
    match m, hm with
    | 0, _ => exact (by decide)
    | 1, _ => exact (by decide)
    | 2, _ => exact (by decide)
/-- the call is refused with NoSuch -/
def sp_law_refused (K : PySem.W.Frag) : Sp := fun vs H Q _ => ∃ (a : Addr) (c n r0 : Int) (ls : List Int), vs = [.ref a, .int c, .int n] ∧ SqL K H a ((r0 :: ls).map V.int) ∧ IsRule (r0 :: ls) ∧ ¬ (0 ≤ n ∧ n < cnt c (r0, 0) ls) ∧ ∀ H' : Hp, Same H H' → Q (.bl true) H'
theorem ok_law_refused {f : Addr} {fd : FuncData} (F : Fun K "_law_refused" "_law_refused" s_law_refused f fd) {f_law_alone : Addr} {d_law_alone : FuncData} (G_law_alone : FnOk P w K mg base (CXE P w) 1 f_law_alone d_law_alone ["e"] (sp_law_alone K)) (m_law_alone : mg "_law_alone" = some (.ref f_law_alone)) (k_law_alone : PySem.W.keepIn K (.ref f_law_alone) = true) (b_law_alone : Binds K d_law_alone ["e"] []) {f_folding_at : Addr} {d_folding_at : FuncData} (G_folding_at : FnOk P w K mg base (CXE P w) 5 f_folding_at d_folding_at ["rule", "case", "number"] (sp_folding_at K)) (m_folding_at : mg "folding_at" = some (.ref f_folding_at)) (k_folding_at : PySem.W.keepIn K (.ref f_folding_at) = true) (b_folding_at : Binds K d_folding_at ["rule", "case", "number"] []) (Er : Errs K mg) :
    FnOk P w K mg base (CXE P w) 6 f fd ["rule", "case", "number"] (sp_law_refused K) := by
  refine F.okN sc_law_refused (fun vs H Q E h => ?_) (fun cdv A outer s H vs Q E hr h => ?_)
  · obtain ⟨a, c, n, r0, ls, rfl, _⟩ := h
    rfl
  obtain ⟨a, c, n, r0, ls, rfl, hS, hR, hn, q⟩ := h
  have ND := sc_law_refused.nd
  let EX : XK := fun cls _ H' => cls = .ref (clsA K "NoSuch") ∧ Same H H'
  refine ⟨_, (pss_cons (ps_set (i := 3) ND rfl (Or.inl rfl) pe_non)
    (pss_cons (ps_try (E := EX) (ie := 4) rfl rfl ND rfl rfl (by rfl) (Er.m "RuleError" (by decide)) (Er.q "RuleError" (by decide)) Er.b (fun _ => (pss_one (ps_expr (pe_call G_folding_at (hr.mono (by omega)) (by rfl) m_folding_at k_folding_at b_folding_at .nil (passT tr_ok (fun _ _ _ z => z)) (pa_cons (pv 0) (pa_cons (pv 1) (pa_cons (pv 2) pa_nil))))))) (fun _ _ => (pss_one (ps_set (i := 3) ND rfl (Or.inl rfl) (pv 4)))))
    (pss_one (ps_ret (pe_cmpR op_eq (pe_call G_law_alone (hr.mono (by omega)) (by rfl) m_law_alone k_law_alone b_law_alone .nil passN (pa_cons (pv 3) pa_nil)) pe_int (nomark _)))))), ?_⟩
  walk_at "rd"
  refine ⟨⟨_, rfl, _, rfl, _, rfl, a, c, n, r0, ls, rfl, hS, hR, fun h0 h1 => absurd ⟨h0, h1⟩ hn, fun _ H' g => ⟨rfl, g⟩⟩, fun cls d H' hE => ?_⟩
  obtain ⟨rfl, g⟩ := hE
  refine ⟨clsA K "NoSuch", rfl, Er.r "NoSuch" (by decide), fun x hx => ?_⟩
  walk_at "rd"
  refine ⟨x, "NoSuch", 2, rfl, upd_same, rfl, fun H2 g2 => ⟨rfl, ?_⟩⟩
  exact q H2 ((same_tup g hx _).trans g2)
end
end FR
namespace FR
open PySem L2
theorem cnt_le (c : Int) (ls : List Int) : ∀ r : Rch, cnt c r ls ≤ 2 ^ ls.length := by
  induction ls with
  | nil => intro r; rw [cnt]; split <;> simp
  | cons L q ih =>
    intro r
    have a := ih (frR r 0 L)
    have b := ih (frR r 1 L)
    rw [cnt, List.length_cons, Int.pow_succ]; omega
section
variable {P : Program} {w : World} {K : PySem.W.Frag} {mg : Str → Option Value} {base : Heap}
def sp_law (K : PySem.W.Frag) : Sp := fun vs H Q _ => ∃ (a : Addr) (ns : List Int), vs = [.ref a] ∧ SqL K H a (ns.map V.int) ∧ ns.length ≤ 63 ∧ ∀ H', Q (.bl true) H'
theorem ok_law {f : Addr} {fd : FuncData} (F : Fun K "law" "law" s_law f fd) {f_law_draw : Addr} {d_law_draw : FuncData} (G_law_draw : FnOk P w K mg base (CXE P w) 2 f_law_draw d_law_draw ["script", "k"] (sp_law_draw K)) (m_law_draw : mg "_law_draw" = some (.ref f_law_draw)) (k_law_draw : PySem.W.keepIn K (.ref f_law_draw) = true) (b_law_draw : Binds K d_law_draw ["script", "k"] []) {f_law_refused : Addr} {d_law_refused : FuncData} (G_law_refused : FnOk P w K mg base (CXE P w) 6 f_law_refused d_law_refused ["rule", "case", "number"] (sp_law_refused K)) (m_law_refused : mg "_law_refused" = some (.ref f_law_refused)) (k_law_refused : PySem.W.keepIn K (.ref f_law_refused) = true) (b_law_refused : Binds K d_law_refused ["rule", "case", "number"] []) {f_law_whole : Addr} {d_law_whole : FuncData} (G_law_whole : FnOk P w K mg base (CXE P w) 1 f_law_whole d_law_whole ["found"] (sp_law_whole K)) (m_law_whole : mg "_law_whole" = some (.ref f_law_whole)) (k_law_whole : PySem.W.keepIn K (.ref f_law_whole) = true) (b_law_whole : Binds K d_law_whole ["found"] []) {f_number_of : Addr} {d_number_of : FuncData} (G_number_of : FnOk P w K mg base (CXE P w) 6 f_number_of d_number_of ["rule", "case", "folding"] (sp_number_of K)) (m_number_of : mg "number_of" = some (.ref f_number_of)) (k_number_of : PySem.W.keepIn K (.ref f_number_of) = true) (b_number_of : Binds K d_number_of ["rule", "case", "folding"] []) {f_law_numbers : Addr} {d_law_numbers : FuncData} (G_law_numbers : FnOk P w K mg base (CXE P w) 2 f_law_numbers d_law_numbers ["found", "due"] (sp_law_numbers K)) (m_law_numbers : mg "_law_numbers" = some (.ref f_law_numbers)) (k_law_numbers : PySem.W.keepIn K (.ref f_law_numbers) = true) (b_law_numbers : Binds K d_law_numbers ["found", "due"] []) {f_folding_at : Addr} {d_folding_at : FuncData} (G_folding_at : FnOk P w K mg base (CXE P w) 5 f_folding_at d_folding_at ["rule", "case", "number"] (sp_folding_at K)) (m_folding_at : mg "folding_at" = some (.ref f_folding_at)) (k_folding_at : PySem.W.keepIn K (.ref f_folding_at) = true) (b_folding_at : Binds K d_folding_at ["rule", "case", "number"] []) {f_many_fits : Addr} {d_many_fits : FuncData} (G_many_fits : FnOk P w K mg base (CXE P w) 4 f_many_fits d_many_fits ["rule", "case"] (sp_many_fits K)) (m_many_fits : mg "many_fits" = some (.ref f_many_fits)) (k_many_fits : PySem.W.keepIn K (.ref f_many_fits) = true) (b_many_fits : Binds K d_many_fits ["rule", "case"] []) {f_law_all : Addr} {d_law_all : FuncData} (G_law_all : FnOk P w K mg base (CXE P w) 1 f_law_all d_law_all ["hinges"] (sp_law_all K)) (m_law_all : mg "_law_all" = some (.ref f_law_all)) (k_law_all : PySem.W.keepIn K (.ref f_law_all) = true) (b_law_all : Binds K d_law_all ["hinges"] []) {f_law_span : Addr} {d_law_span : FuncData} (G_law_span : FnOk P w K mg base (CXE P w) 2 f_law_span d_law_span ["rule", "folding"] (sp_law_span K)) (m_law_span : mg "_law_span" = some (.ref f_law_span)) (k_law_span : PySem.W.keepIn K (.ref f_law_span) = true) (b_law_span : Binds K d_law_span ["rule", "folding"] []) {f_law_rule : Addr} {d_law_rule : FuncData} (G_law_rule : FnOk P w K mg base (CXE P w) 3 f_law_rule d_law_rule ["script", "pieces"] (sp_law_rule K)) (m_law_rule : mg "_law_rule" = some (.ref f_law_rule)) (k_law_rule : PySem.W.keepIn K (.ref f_law_rule) = true) (b_law_rule : Binds K d_law_rule ["script", "pieces"] []) (z_len : mg "len" = none) (z_range : mg "range" = none) (z_list : mg "list" = none) (z_sum : mg "sum" = none) :
    FnOk P w K mg base (CXE P w) 7 f fd ["script"] (sp_law K) := by
  refine F.okN sc_law (fun vs H Q E h => ?_) (fun cdv A outer s H vs Q E hr h => ?_)
  · obtain ⟨a, ns, rfl, _⟩ := h
    rfl
  obtain ⟨a, ns, rfl, hS, h63, q⟩ := h
  have ND := sc_law.nd
  have hu64 := hu64_of hr
  refine ⟨_, (pss_cons (ps_set (i := 1) ND rfl (Or.inr rfl) (pe_call G_law_rule (hr.mono (by omega)) (by rfl) m_law_rule k_law_rule b_law_rule .nil passN (pa_cons (pv 0) (pa_cons (pe_op op_add pe_int (pe_op op_mod (pe_call G_law_draw (hr.mono (by omega)) (by rfl) m_law_draw k_law_draw b_law_draw .nil passN (pa_cons (pv 0) (pa_cons pe_int pa_nil))) pe_int)) pa_nil))))
    (pss_cons (ps_set (i := 2) ND rfl (Or.inr rfl) (pe_op op_mod (pe_call G_law_draw (hr.mono (by omega)) (by rfl) m_law_draw k_law_draw b_law_draw .nil passN (pa_cons (pv 0) (pa_cons pe_int pa_nil))) (pe_op op_add (pe_callB (call_sumLK K) (by rfl) z_sum PyProof.Rows.Boot.«sum» (pa_cons (pv 1) pa_nil)) pe_int)))
    (pss_cons (ps_setC (i := 3) (caps := [("case", 2), ("rule", 1)]) (comp_scope (by rfl) (by rfl) (by decide) (by rfl)) rfl ND rfl rfl (pi_listK K (pe_call G_law_all (hr.mono (by omega)) (by rfl) m_law_all k_law_all b_law_all .nil passN (pa_cons (pe_op op_sub (pe_callB (call_lenK K) (by rfl) z_len PySem.boot_len (pa_cons (pv 1) pa_nil)) pe_int) pa_nil))) (fun _ _ _ _ => (pts_one (pt_cmpR op_le (pe_call G_law_span (hr.mono (by omega)) (by rfl) m_law_span k_law_span b_law_span .nil passN (pa_cons (pv 2) (pa_cons (pv 0) pa_nil))) (pv 1) (nomark _)))) (fun _ _ _ _ => (pv 0)))
    (pss_cons (ps_set (i := 4) ND rfl (Or.inl rfl) (pe_call G_many_fits (hr.mono (by omega)) (by rfl) m_many_fits k_many_fits b_many_fits .nil passN (pa_cons (pe_callTy (call_listK K) (by rfl) z_list PyProof.Rows.Boot.«list» (pa_cons (pv 1) pa_nil)) (pa_cons (pv 2) pa_nil))))
    (pss_cons (ps_if (pw_or (pt_not (pt_truthK K (pe_call G_law_whole (hr.mono (by omega)) (by rfl) m_law_whole k_law_whole b_law_whole .nil passN (pa_cons (pv 4) pa_nil)) (fun _ => rfl))) (pw_or1 (pt_cmpR op_ne (pv 4) (pe_callB (call_lenK K) (by rfl) z_len PySem.boot_len (pa_cons (pv 3) pa_nil)) (nomark _)))).pt (pss_one (ps_ret pe_bl)) pss_nil)
    (pss_cons (ps_for PassesOwn.never rfl (pi_range1 (by rfl) z_range (pa_cons (pe_callB (call_lenK K) (by rfl) z_len PySem.boot_len (pa_cons (pv 3) pa_nil)) pa_nil)) (pg_name (i := 5) ND rfl (Or.inl rfl)) (pss_cons (ps_set (i := 6) ND rfl (Or.inl rfl) (pe_lst (pa_cons (pe_callTy (call_listK K) (by rfl) z_list PyProof.Rows.Boot.«list» (pa_cons (pv 1) pa_nil)) (pa_cons (pe_callTy (call_listK K) (by rfl) z_list PyProof.Rows.Boot.«list» (pa_cons (pe_ix (ix_listK K) (pv 3) (pv 5) (fun _ _ => rfl)) pa_nil)) pa_nil))))
    (pss_cons (ps_if (pt_not (pt_truthK K (pe_call G_law_numbers (hr.mono (by omega)) (by rfl) m_law_numbers k_law_numbers b_law_numbers .nil passN (pa_cons (pe_call G_folding_at (hr.mono (by omega)) (by rfl) m_folding_at k_folding_at b_folding_at .nil passN (pa_cons (pe_ix (ix_listK K) (pv 6) pe_int (fun _ _ => rfl)) (pa_cons (pv 2) (pa_cons (pv 5) pa_nil)))) (pa_cons (pe_ix (ix_listK K) (pv 3) (pv 5) (fun _ _ => rfl)) pa_nil))) (fun _ => rfl))) (pss_one (ps_ret pe_bl)) pss_nil)
    (pss_cons (ps_set (i := 7) ND rfl (Or.inl rfl) (pe_call G_number_of (hr.mono (by omega)) (by rfl) m_number_of k_number_of b_number_of .nil passN (pa_cons (pe_ix (ix_listK K) (pv 6) pe_int (fun _ _ => rfl)) (pa_cons (pv 2) (pa_cons (pe_ix (ix_listK K) (pv 6) pe_int (fun _ _ => rfl)) pa_nil)))))
    (pss_one (ps_if (pw_or (pt_not (pt_truthK K (pe_call G_law_whole (hr.mono (by omega)) (by rfl) m_law_whole k_law_whole b_law_whole .nil passN (pa_cons (pv 7) pa_nil)) (fun _ => rfl))) (pw_or (pt_cmpR op_ne (pv 7) (pv 5) (nomark _)) (pw_or1 (pt_cmpR (op_neIIK K hu64) (pv 6) (pe_lst (pa_cons (pv 1) (pa_cons (pe_ix (ix_listK K) (pv 3) (pv 5) (fun _ _ => rfl)) pa_nil))) (nomark _))))).pt (pss_one (ps_ret pe_bl)) pss_nil))))))
    (pss_cons (ps_for PassesOwn.never rfl (pi_listK K (pe_lst (pa_cons (pe_callB (call_lenK K) (by rfl) z_len PySem.boot_len (pa_cons (pv 3) pa_nil)) (pa_cons (pe_op op_add (pe_op op_add (pe_callB (call_lenK K) (by rfl) z_len PySem.boot_len (pa_cons (pv 3) pa_nil)) pe_int) (pe_op op_mod (pe_call G_law_draw (hr.mono (by omega)) (by rfl) m_law_draw k_law_draw b_law_draw .nil passN (pa_cons (pv 0) (pa_cons pe_int pa_nil))) pe_int)) (pa_cons (pe_op op_sub (pe_un un_neg pe_int) (pe_call G_law_draw (hr.mono (by omega)) (by rfl) m_law_draw k_law_draw b_law_draw .nil passN (pa_cons (pv 0) (pa_cons pe_int pa_nil)))) pa_nil))))) (pg_name (i := 5) ND rfl (Or.inl rfl)) (pss_one (ps_if (pt_not (pt_truthK K (pe_call G_law_refused (hr.mono (by omega)) (by rfl) m_law_refused k_law_refused b_law_refused .nil passN (pa_cons (pv 1) (pa_cons (pv 2) (pa_cons (pv 5) pa_nil)))) (fun _ => rfl))) (pss_one (ps_ret pe_bl)) pss_nil)))
    (pss_one (ps_ret pe_bl))))))))), ?_⟩
  walk_at "rd"
  refine ⟨a, ns, 1, rfl, hS, by decide, by decide, fun d d0 d1 => ?_⟩
  walk_at "rd"
  refine ⟨by decide, a, ns, 1 + d % 7, rfl, hS, by omega, by omega, fun lr H1 rs N1 hR hk => ?_⟩
  walk_at "rd"
  obtain ⟨r0, ls, rfl⟩ : ∃ r0 ls, rs = r0 :: ls := by
    cases rs with
    | nil => have := hR.some; simp at this
    | cons r0 ls => exact ⟨r0, ls, rfl⟩
  have hlo : ∀ x ∈ r0 :: ls, 1 ≤ x := hR.lo
  have hlen : ls.length ≤ 6 := by rw [List.length_cons] at hk; omega
  have r1 := N1.at_
  have hsum0 : 0 ≤ (r0 :: ls).sum := by
    have key : ∀ l : List Int, (∀ x ∈ l, 1 ≤ x) → 0 ≤ l.sum := by
      intro l
      induction l with
      | nil => intro _; simp
      | cons z q ih =>
        intro hz
        have h1 := hz z List.mem_cons_self
        have h2 := ih fun x hx => hz x (List.mem_cons_of_mem _ hx)
        rw [List.sum_cons]; omega
    exact key _ hlo
  refine ⟨a, ns, 4, rfl, N1.same.seq hS, by decide, by decide, fun e e0 e1 => ?_⟩
  walk_at "rd"
  refine ⟨_, SqL.of r1, by omega, ?_⟩
  generalize e % ((r0 :: ls).sum + 2) = c at *
  have elen : (((r0 :: ls).map V.int).length : Int) - 1 = (ls.length : Int) := by rw [List.length_map, List.length_cons]; omega
  refine ⟨_, rfl, lr, _, rfl, SqL.of r1, _, _, rfl, rfl, ls.length, (by show [V.int ((((r0 :: ls).map V.int).length : Int) - 1)] = [V.int (ls.length : Int)]; rw [elen]), by omega, fun la H2 refs g2 lan hla hA hrn => ?_⟩
  have r2 := g2 _ _ r1
  have hcnt : ∀ f ∈ allF ls.length, IsFold (r0 :: ls) f := fun f hf => by
    obtain ⟨a1, a2⟩ := (allF_mem _ _).mp hf
    exact ⟨by rw [List.length_cons, a1], a2⟩
  have alen : (allF ls.length).length ≤ 64 := by
    rw [allF_len]
    exact Nat.le_trans (Nat.pow_le_pow_right (by decide) hlen) (by decide)
  refine ⟨la, rfl, ⟨_, SqL.of hla⟩, comp_list (xs := refs.map V.ref) (fun D i H' => SameB D H2 H' ∧ ∃ refs2 : List Addr, H' D = some (.lst (refs2.map V.ref)) ∧ AtAll H2 refs2 (((allF ls.length).take i).filter fun f => decide (spanL (r0 :: ls) f ≤ c)))
    (fun D hD => ⟨(SameB.refl _ _).upd _, [], upd_same, ⟨rfl, fun i r f h => by simp at h⟩⟩) (fun D i H' hD _ h => SqL.of (h.1 la _ (ne_of_none hla hD) hla)) (fun D i x H' hD hx h => ?_) (fun D H3 hD h => ?_)⟩
  · obtain ⟨h1, refs2, h2, h3⟩ := h
    obtain ⟨r, hr, rfl⟩ := refGet hx
    have li := (List.getElem?_eq_some_iff.mp hr).1
    obtain ⟨f, hf⟩ : ∃ f, (allF ls.length)[i]? = some f := ⟨_, List.getElem?_eq_getElem (by rw [← hA.len]; exact li)⟩
    have hrf := hA.at_ i r f hr hf
    have tk := take_snoc hf
    have hF := hcnt f (List.mem_of_getElem? hf)
    walk_at "rd"
    refine ⟨lr, r, r0 :: ls, f, rfl, h1 _ _ (ne_of_none r2 hD) r2, h1 _ _ (ne_of_none hrf hD) hrf, hR.few, hF.len, fun H4 g4 => ?_⟩
    walk_at "rd"
    have hb4 : SameB D H2 H4 := h1.trans g4.toB
    have r2l : refs2.length ≤ 64 := by
      have h5 := h3.len
      have h6 := List.length_filter_le (fun f => decide (spanL (r0 :: ls) f ≤ c)) ((allF ls.length).take i)
      rw [List.length_take] at h6
      omega
    refine ite2 (fun hc => ?_) (fun hc => ?_)
    · refine ⟨_, g4 _ _ h2, by rw [List.length_map]; exact small12 (by omega), wn_next (by rw [List.length_map]; exact li) ⟨hb4.upd _, refs2 ++ [r], by rw [upd_same, List.map_append]; rfl, ?_⟩⟩
      rw [tk, List.filter_append]
      have e1 : [f].filter (fun f => decide (spanL (r0 :: ls) f ≤ c)) = [f] := by simp [hc]
      rw [e1]
      exact h3.snoc hrf
    · refine wn_next (by rw [List.length_map]; exact li) ⟨hb4, refs2, g4 _ _ h2, ?_⟩
      rw [tk, List.filter_append]
      have e1 : [f].filter (fun f => decide (spanL (r0 :: ls) f ≤ c)) = [] := by simp [hc]
      rw [e1, List.append_nil]
      exact h3
  · obtain ⟨h1, refs2, h2, h3⟩ := h
    rw [List.length_map, hA.len, List.take_length, due_filter hlo c] at h3
    have D3 : Same H2 H3 := h1.same hD
    have r3 := D3 _ _ r2
    have S3 : Same H H3 := N1.same.trans (g2.trans D3)
    have hA3 : AtAll H3 refs2 (dueL c (r0, 0) ls) := h3.same fun r hr o e => D3 r o e
    have dlen : (refs2.length : Int) = cnt c (r0, 0) ls := by rw [h3.len, cnt_due]
    have dsmall : refs2.length ≤ 4096 := by
      have := cnt_le c ls (r0, 0)
      have h5 := two_pow (n := ls.length) (by omega)
      have h6 : ((2 ^ ls.length : Nat) : Int) = (2 : Int) ^ ls.length := by rw [Int.natCast_pow]; rfl
      omega
    refine ⟨_, SqL.of r3, fun l4 hl4 => ?_⟩
    have s4 := same_new hl4 (.lst ((r0 :: ls).map V.int))
    have l44 : upd H3 l4 (.lst ((r0 :: ls).map V.int)) l4 = some (.lst ((r0 :: ls).map V.int)) := upd_same
    generalize upd H3 l4 (.lst ((r0 :: ls).map V.int)) = H4 at *
    refine ⟨l4, c, r0, ls, rfl, SqL.of l44, hR, fun H5 g5 => ?_⟩
    refine ⟨_, rfl, true, rfl, ?_⟩
    rw [if_neg (by decide)]
    have S5 : Same H3 H5 := s4.trans g5
    refine ⟨D, rfl, _, SqL.of (S5 _ _ h2), ?_⟩
    rw [List.length_map, dlen]
    refine ⟨rfl, ?_⟩
    rw [if_neg (fun z => z rfl)]
    have lenD : (((refs2.map V.ref).length : Int)).toNat = refs2.length := by rw [List.length_map]; omega
    refine ⟨_, rfl, D, _, rfl, SqL.of (S5 _ _ h2), _, rfl, by rw [List.length_map]; omega, by rw [List.length_map]; omega, ?_⟩
    rw [lenD]
    refine for_range (lo := 0) (n := refs2.length) (fun i σ H' => Same H3 H' ∧ ∃ (o5 o6 o7 : Option V), σ = [some (.ref a), some (.ref lr), some (.int c), some (.ref D), some (.int (cnt c (r0, 0) ls)), o5, o6, o7])
      ⟨S5, _, _, _, rfl⟩ (fun i σ H6 hi h => ?_) (fun σ H6 h => ?_)
    · obtain ⟨g6, o5, o6, o7, rfl⟩ := h
      obtain ⟨r, hr⟩ : ∃ r, refs2[i]? = some r := ⟨_, List.getElem?_eq_getElem hi⟩
      have ni : ((i : Nat) : Int) < cnt c (r0, 0) ls := by omega
      have hdue := due_at c ls (r0, 0) i ni
      have hrf : H3 r = some (.lst ((atL c (r0, 0) ls i).map V.int)) := hA3.at_ i r _ hr hdue
      have hF : IsFold (r0 :: ls) (atL c (r0, 0) ls i) := ⟨by rw [atL_len, List.length_cons], atL_two c ls (r0, 0) i⟩
      have hsp : spanL (r0 :: ls) (atL c (r0, 0) ls i) ≤ c := by rw [span_rch hF hlo]; exact at_sum c ls (r0, 0) i (by omega) ni
      have hnum := num_at c ls (r0, 0) i (by omega) ni
      have fl : (atL c (r0, 0) ls i).length = ls.length := atL_len c ls (r0, 0) i
      generalize hat : atL c (r0, 0) ls i = f at *
      have aD : atI (refs2.map V.ref) (i : Int) = some (.ref r) := atI_nat (by rw [List.getElem?_map, hr]; rfl)
      simp only [tSeq, tIfS, tOr, tAnd, tNot, tTest, tB, tOp, tUn, tCB, tCons, tNil, tVar, tC, rI0, rI, rU, tNever, tNext, tDrop, tRet, tRetN, tAsg, gName, gTup, gCons, gNil, tCall, tBM, tBM0, rAppend, rClear, rPop, tLst, tTup, rIxL, rIxT, rEq, rNe, rCat, tAndV, tOrV, tNotV, tIf, tBreak, tCont, rIsi, CMul, CDiv, cxK, blkK, capSt, L2.start, List.map_cons, List.map_nil, List.length_cons, List.length_nil, List.replicate_zero, List.replicate_succ, List.nil_append, List.cons_append, List.append_nil, Nat.add_sub_cancel, Nat.reduceAdd, Nat.reduceSub, Nat.sub_self, Nat.zero_add, List.set_cons_zero, List.set_cons_succ, List.getElem?_cons_zero, List.getElem?_cons_succ, Option.join_some, Option.some.injEq, exists_eq_left', exists_eq_left, exists_and_left, exists_eq, exists_eq', List.cons.injEq, V.ref.injEq, V.int.injEq, V.bl.injEq, V.str.injEq, and_true, true_and, if_true, if_false, decide_eq_true_eq, Bool.not_eq_true', Bool.false_eq_true, reduceCtorEq, scalII, scalNI, scalIN, scalBB, scalSS, scalNN, decide_eq_false_iff_not, V.ty.injEq, and_assoc, tTruth, truBl, rLenL, rLenT, rListOf, rMaxL, rMinL, rSortedL, rEqI, rNeI, rEqII, rNeII, tDisp1, tDGet, tDGet2, tDNotIn, tDIn, sDPut, tDNewT, tMinS, rSumT, rSumV, rSumL, rItems, rValues, tSl, tPart, tNoPart, rSlL, tListRev, tChain, rIsiE, rCount, rIndex, tRaise, vC, Int.zero_add]
      have D6 := g6 _ _ h2
      have r6 := g6 _ _ r3
      have f6 := g6 _ _ hrf
      refine ⟨_, SqL.of r6, fun l1 hl1 => ⟨_, SqL.of (upd_keep D6 hl1), _, aD, r, rfl, _, SqL.of (upd_keep f6 hl1), fun l2 hl2 => ⟨(by decide : 2 ≤ sizeLine), fun hd hhd => ?_⟩⟩⟩
      have s7 : Same H6 (upd (upd (upd H6 l1 (.lst ((r0 :: ls).map V.int))) l2 (.lst (f.map V.int))) hd (.lst [.ref l1, .ref l2])) := same_tup (same_tup (same_new hl1 _) hl2 _) hhd _
      have a7 : upd (upd (upd H6 l1 (.lst ((r0 :: ls).map V.int))) l2 (.lst (f.map V.int))) hd (.lst [.ref l1, .ref l2]) l1 = some (.lst ((r0 :: ls).map V.int)) := upd_keep (upd_keep upd_same hl2) hhd
      have b7 : upd (upd (upd H6 l1 (.lst ((r0 :: ls).map V.int))) l2 (.lst (f.map V.int))) hd (.lst [.ref l1, .ref l2]) l2 = some (.lst (f.map V.int)) := upd_keep upd_same hhd
      have d7 : upd (upd (upd H6 l1 (.lst ((r0 :: ls).map V.int))) l2 (.lst (f.map V.int))) hd (.lst [.ref l1, .ref l2]) hd = some (.lst [.ref l1, .ref l2]) := upd_same
      generalize upd (upd (upd H6 l1 (.lst ((r0 :: ls).map V.int))) l2 (.lst (f.map V.int))) hd (.lst [.ref l1, .ref l2]) = H7 at *
      refine ⟨_, SqL.of d7, _, atI_nat (j := 0) rfl, l1, c, i, r0, ls, rfl, SqL.of a7, hR, fun _ _ l8 H8 N8 => ?_, fun hx => absurd ⟨by omega, ni⟩ hx⟩
      rw [hat] at N8
      have S8 : Same H6 H8 := s7.trans N8.same
      refine ⟨_, SqL.of (S8 _ _ D6), _, aD, l8, r, f, f, rfl, N8.at_, S8 _ _ f6, by omega, rfl, fun H9 g9 => ⟨true, rfl, ?_⟩⟩
      rw [if_neg (by decide)]
      have S9 : Same H7 H9 := N8.same.trans g9
      refine ⟨_, SqL.of (S9 _ _ d7), _, atI_nat (j := 0) rfl, _, SqL.of (S9 _ _ d7), _, atI_nat (j := 1) rfl, l1, l2, c, r0, ls, f, rfl, S9 _ _ a7, S9 _ _ b7, hR, hF, hsp, fun H10 g10 => ?_⟩
      rw [hnum]
      refine ⟨_, rfl, true, rfl, ?_⟩
      rw [if_neg (by decide)]
      refine ⟨rfl, ?_⟩
      rw [if_neg (fun z => z rfl)]
      have S10 : Same H7 H10 := S9.trans g10
      refine ⟨_, SqL.of (S10 _ _ (s7 _ _ D6)), _, aD, (by decide : 2 ≤ sizeLine), fun p hp => ?_⟩
      have S11 : Same H7 (upd H10 p (.lst [.ref lr, .ref r])) := same_tup S10 hp _
      refine ⟨_, SqL.of (S11 _ _ d7), _, SqL.of upd_same, [r0 :: ls, f], ⟨⟨_, rfl, SqL.of (S11 _ _ a7)⟩, ⟨_, rfl, SqL.of (S11 _ _ b7)⟩, trivial⟩, [r0 :: ls, f], ⟨⟨_, rfl, SqL.of (S11 _ _ (s7 _ _ r6))⟩, ⟨_, rfl, SqL.of (S11 _ _ (s7 _ _ f6))⟩, trivial⟩, ?_⟩
      rw [if_neg (fun z => z rfl)]
      exact g6.trans (s7.trans S11)
    · obtain ⟨g6, o5, o6, o7, rfl⟩ := h
      have r6 := g6 _ _ r3
      have D6 := g6 _ _ h2
      have S6 : Same H H6 := S3.trans g6
      have lD : (((refs2.map V.ref).length : Nat) : Int) = cnt c (r0, 0) ls := by rw [List.length_map, dlen]
      refine ⟨_, rfl, D, _, rfl, SqL.of D6, _, rfl, D, _, rfl, SqL.of D6, _, _, rfl, rfl, _, rfl, a, ns, 5, rfl, S6.seq hS, by decide, by decide, fun x x0 x1 => ⟨_, _, rfl, rfl, (by decide : (0 : Int) < 999), _, _, rfl, rfl, _, rfl, _, rfl, a, ns, 6, rfl, S6.seq hS, by decide, by decide, fun y y0 y1 => ⟨_, _, rfl, rfl, (by decide : 3 ≤ sizeLine), fun lc hlc => ⟨lc, rfl, ⟨_, SqL.of upd_same⟩, ?_⟩⟩⟩⟩
      have m0 : 0 ≤ x % 999 := Int.emod_nonneg _ (by decide)
      refine for_list (xs := [.int (((refs2.map V.ref).length : Nat) : Int), .int ((((refs2.map V.ref).length : Nat) : Int) + 1 + x % 999), .int (-1 - y)]) (fun i σ H' => Same H6 H' ∧ H' lc = some (.lst [.int (((refs2.map V.ref).length : Nat) : Int), .int ((((refs2.map V.ref).length : Nat) : Int) + 1 + x % 999), .int (-1 - y)]) ∧ ∃ (o5 o6 o7 : Option V), σ = [some (.ref a), some (.ref lr), some (.int c), some (.ref D), some (.int (cnt c (r0, 0) ls)), o5, o6, o7])
        ⟨same_new hlc _, upd_same, _, _, _, rfl⟩ (fun i σ H' _ h => SqL.of h.2.1) (fun i z σ H7 hz h => ?_) (fun σ H7 h => ?_)
      · obtain ⟨g7, h7, o5, o6, o7, rfl⟩ := h
        have hz' : ∃ n, z = .int n ∧ ¬ (0 ≤ n ∧ n < cnt c (r0, 0) ls) := by
          have hm := List.mem_of_getElem? hz
          simp only [List.mem_cons, List.mem_nil_iff, or_false] at hm
          rw [lD] at hm
          rcases hm with h | h | h
          · exact ⟨_, h, by omega⟩
          · exact ⟨_, h, by omega⟩
          · exact ⟨_, h, by omega⟩
        obtain ⟨n, rfl, hn⟩ := hz'
        walk_at "rd"
        refine ⟨lr, c, n, r0, ls, rfl, SqL.of (g7 _ _ r6), hR, hn, fun H8 g8 => ?_⟩
        walk_at "rd"
        exact ⟨g7.trans g8, g8 _ _ h7⟩
      · exact q _
end
theorem all_mk {l : PySem.W.OpenLaw} {w : World} {K : PySem.W.Frag} {h : Heap} {mg : Str → Option Value} {fa : Addr} (X : K.In h) (G : h.Ns mainGlobals mg) (hfa : mg "law" = some (.ref fa))
    {f_law_cell_at : Addr} {od_law_cell_at an_law_cell_at : Option Addr} {sl_law_cell_at : Array (Option Value)} {oc_law_cell_at kV_law_cell_at dc_law_cell_at pm_law_cell_at cd_law_cell_at ct_law_cell_at : Value}
    {f_law_draw : Addr} {od_law_draw an_law_draw : Option Addr} {sl_law_draw : Array (Option Value)} {oc_law_draw kV_law_draw dc_law_draw pm_law_draw cd_law_draw ct_law_draw : Value}
    {f_law_alone : Addr} {od_law_alone an_law_alone : Option Addr} {sl_law_alone : Array (Option Value)} {oc_law_alone kV_law_alone dc_law_alone pm_law_alone cd_law_alone ct_law_alone : Value}
    {f_further_reach : Addr} {od_further_reach an_further_reach : Option Addr} {sl_further_reach : Array (Option Value)} {oc_further_reach kV_further_reach dc_further_reach pm_further_reach cd_further_reach ct_further_reach : Value}
    {f_further_counts : Addr} {od_further_counts an_further_counts : Option Addr} {sl_further_counts : Array (Option Value)} {oc_further_counts kV_further_counts dc_further_counts pm_further_counts cd_further_counts ct_further_counts : Value}
    {f_many_beyond : Addr} {od_many_beyond an_many_beyond : Option Addr} {sl_many_beyond : Array (Option Value)} {oc_many_beyond kV_many_beyond dc_many_beyond pm_many_beyond cd_many_beyond ct_many_beyond : Value}
    {f_many_going_on : Addr} {od_many_going_on an_many_going_on : Option Addr} {sl_many_going_on : Array (Option Value)} {oc_many_going_on kV_many_going_on dc_many_going_on pm_many_going_on cd_many_going_on ct_many_going_on : Value}
    {f_first_reach : Addr} {od_first_reach an_first_reach : Option Addr} {sl_first_reach : Array (Option Value)} {oc_first_reach kV_first_reach dc_first_reach pm_first_reach cd_first_reach ct_first_reach : Value}
    {f_check_rule : Addr} {od_check_rule an_check_rule : Option Addr} {sl_check_rule : Array (Option Value)} {oc_check_rule kV_check_rule dc_check_rule pm_check_rule cd_check_rule ct_check_rule : Value}
    {f_many_fits : Addr} {od_many_fits an_many_fits : Option Addr} {sl_many_fits : Array (Option Value)} {oc_many_fits kV_many_fits dc_many_fits pm_many_fits cd_many_fits ct_many_fits : Value}
    {f_folding_at : Addr} {od_folding_at an_folding_at : Option Addr} {sl_folding_at : Array (Option Value)} {oc_folding_at kV_folding_at dc_folding_at pm_folding_at cd_folding_at ct_folding_at : Value}
    {f_law_refused : Addr} {od_law_refused an_law_refused : Option Addr} {sl_law_refused : Array (Option Value)} {oc_law_refused kV_law_refused dc_law_refused pm_law_refused cd_law_refused ct_law_refused : Value}
    {f_law_whole : Addr} {od_law_whole an_law_whole : Option Addr} {sl_law_whole : Array (Option Value)} {oc_law_whole kV_law_whole dc_law_whole pm_law_whole cd_law_whole ct_law_whole : Value}
    {f_check_folding : Addr} {od_check_folding an_check_folding : Option Addr} {sl_check_folding : Array (Option Value)} {oc_check_folding kV_check_folding dc_check_folding pm_check_folding cd_check_folding ct_check_folding : Value}
    {f_joints : Addr} {od_joints an_joints : Option Addr} {sl_joints : Array (Option Value)} {oc_joints kV_joints dc_joints pm_joints cd_joints ct_joints : Value}
    {f_span : Addr} {od_span an_span : Option Addr} {sl_span : Array (Option Value)} {oc_span kV_span dc_span pm_span cd_span ct_span : Value}
    {f_fits : Addr} {od_fits an_fits : Option Addr} {sl_fits : Array (Option Value)} {oc_fits kV_fits dc_fits pm_fits cd_fits ct_fits : Value}
    {f_number_of : Addr} {od_number_of an_number_of : Option Addr} {sl_number_of : Array (Option Value)} {oc_number_of kV_number_of dc_number_of pm_number_of cd_number_of ct_number_of : Value}
    {f_law_numbers : Addr} {od_law_numbers an_law_numbers : Option Addr} {sl_law_numbers : Array (Option Value)} {oc_law_numbers kV_law_numbers dc_law_numbers pm_law_numbers cd_law_numbers ct_law_numbers : Value}
    {f_law_all : Addr} {od_law_all an_law_all : Option Addr} {sl_law_all : Array (Option Value)} {oc_law_all kV_law_all dc_law_all pm_law_all cd_law_all ct_law_all : Value}
    {f_law_joints : Addr} {od_law_joints an_law_joints : Option Addr} {sl_law_joints : Array (Option Value)} {oc_law_joints kV_law_joints dc_law_joints pm_law_joints cd_law_joints ct_law_joints : Value}
    {f_law_span : Addr} {od_law_span an_law_span : Option Addr} {sl_law_span : Array (Option Value)} {oc_law_span kV_law_span dc_law_span pm_law_span cd_law_span ct_law_span : Value}
    {f_law_rule : Addr} {od_law_rule an_law_rule : Option Addr} {sl_law_rule : Array (Option Value)} {oc_law_rule kV_law_rule dc_law_rule pm_law_rule cd_law_rule ct_law_rule : Value}
    {f_law : Addr} {od_law an_law : Option Addr} {sl_law : Array (Option Value)} {oc_law kV_law dc_law pm_law cd_law ct_law : Value}
    {t_LONGEST_PIECE : Tok}
    {t_MOST_PIECES : Tok}
    (a_law_cell_at : PySem.W.nsIn K mainGlobals "_law_cell_at" = some (some (.ref f_law_cell_at)))
    (l_law_cell_at : K.lookup f_law_cell_at = some ⟨oc_law_cell_at, od_law_cell_at, .func (PySem.W.fnOf "_law_cell_at" "_law_cell_at" (defArgs s_law_cell_at) (defBody s_law_cell_at) (defScope s_law_cell_at) .none kV_law_cell_at dc_law_cell_at pm_law_cell_at an_law_cell_at cd_law_cell_at ct_law_cell_at), sl_law_cell_at⟩)
    (c_law_cell_at : PySem.W.codeIn K cd_law_cell_at "_law_cell_at" = true)
    (k_law_cell_at : PySem.W.keepIn K (.ref f_law_cell_at) = true)
    (a_law_draw : PySem.W.nsIn K mainGlobals "_law_draw" = some (some (.ref f_law_draw)))
    (l_law_draw : K.lookup f_law_draw = some ⟨oc_law_draw, od_law_draw, .func (PySem.W.fnOf "_law_draw" "_law_draw" (defArgs s_law_draw) (defBody s_law_draw) (defScope s_law_draw) .none kV_law_draw dc_law_draw pm_law_draw an_law_draw cd_law_draw ct_law_draw), sl_law_draw⟩)
    (c_law_draw : PySem.W.codeIn K cd_law_draw "_law_draw" = true)
    (k_law_draw : PySem.W.keepIn K (.ref f_law_draw) = true)
    (a_law_alone : PySem.W.nsIn K mainGlobals "_law_alone" = some (some (.ref f_law_alone)))
    (l_law_alone : K.lookup f_law_alone = some ⟨oc_law_alone, od_law_alone, .func (PySem.W.fnOf "_law_alone" "_law_alone" (defArgs s_law_alone) (defBody s_law_alone) (defScope s_law_alone) .none kV_law_alone dc_law_alone pm_law_alone an_law_alone cd_law_alone ct_law_alone), sl_law_alone⟩)
    (c_law_alone : PySem.W.codeIn K cd_law_alone "_law_alone" = true)
    (k_law_alone : PySem.W.keepIn K (.ref f_law_alone) = true)
    (a_further_reach : PySem.W.nsIn K mainGlobals "further_reach" = some (some (.ref f_further_reach)))
    (l_further_reach : K.lookup f_further_reach = some ⟨oc_further_reach, od_further_reach, .func (PySem.W.fnOf "further_reach" "further_reach" (defArgs s_further_reach) (defBody s_further_reach) (defScope s_further_reach) .none kV_further_reach dc_further_reach pm_further_reach an_further_reach cd_further_reach ct_further_reach), sl_further_reach⟩)
    (c_further_reach : PySem.W.codeIn K cd_further_reach "further_reach" = true)
    (k_further_reach : PySem.W.keepIn K (.ref f_further_reach) = true)
    (a_further_counts : PySem.W.nsIn K mainGlobals "further_counts" = some (some (.ref f_further_counts)))
    (l_further_counts : K.lookup f_further_counts = some ⟨oc_further_counts, od_further_counts, .func (PySem.W.fnOf "further_counts" "further_counts" (defArgs s_further_counts) (defBody s_further_counts) (defScope s_further_counts) .none kV_further_counts dc_further_counts pm_further_counts an_further_counts cd_further_counts ct_further_counts), sl_further_counts⟩)
    (c_further_counts : PySem.W.codeIn K cd_further_counts "further_counts" = true)
    (k_further_counts : PySem.W.keepIn K (.ref f_further_counts) = true)
    (a_many_beyond : PySem.W.nsIn K mainGlobals "many_beyond" = some (some (.ref f_many_beyond)))
    (l_many_beyond : K.lookup f_many_beyond = some ⟨oc_many_beyond, od_many_beyond, .func (PySem.W.fnOf "many_beyond" "many_beyond" (defArgs s_many_beyond) (defBody s_many_beyond) (defScope s_many_beyond) .none kV_many_beyond dc_many_beyond pm_many_beyond an_many_beyond cd_many_beyond ct_many_beyond), sl_many_beyond⟩)
    (c_many_beyond : PySem.W.codeIn K cd_many_beyond "many_beyond" = true)
    (k_many_beyond : PySem.W.keepIn K (.ref f_many_beyond) = true)
    (a_many_going_on : PySem.W.nsIn K mainGlobals "many_going_on" = some (some (.ref f_many_going_on)))
    (l_many_going_on : K.lookup f_many_going_on = some ⟨oc_many_going_on, od_many_going_on, .func (PySem.W.fnOf "many_going_on" "many_going_on" (defArgs s_many_going_on) (defBody s_many_going_on) (defScope s_many_going_on) .none kV_many_going_on dc_many_going_on pm_many_going_on an_many_going_on cd_many_going_on ct_many_going_on), sl_many_going_on⟩)
    (c_many_going_on : PySem.W.codeIn K cd_many_going_on "many_going_on" = true)
    (k_many_going_on : PySem.W.keepIn K (.ref f_many_going_on) = true)
    (a_first_reach : PySem.W.nsIn K mainGlobals "first_reach" = some (some (.ref f_first_reach)))
    (l_first_reach : K.lookup f_first_reach = some ⟨oc_first_reach, od_first_reach, .func (PySem.W.fnOf "first_reach" "first_reach" (defArgs s_first_reach) (defBody s_first_reach) (defScope s_first_reach) .none kV_first_reach dc_first_reach pm_first_reach an_first_reach cd_first_reach ct_first_reach), sl_first_reach⟩)
    (c_first_reach : PySem.W.codeIn K cd_first_reach "first_reach" = true)
    (k_first_reach : PySem.W.keepIn K (.ref f_first_reach) = true)
    (a_check_rule : PySem.W.nsIn K mainGlobals "check_rule" = some (some (.ref f_check_rule)))
    (l_check_rule : K.lookup f_check_rule = some ⟨oc_check_rule, od_check_rule, .func (PySem.W.fnOf "check_rule" "check_rule" (defArgs s_check_rule) (defBody s_check_rule) (defScope s_check_rule) .none kV_check_rule dc_check_rule pm_check_rule an_check_rule cd_check_rule ct_check_rule), sl_check_rule⟩)
    (c_check_rule : PySem.W.codeIn K cd_check_rule "check_rule" = true)
    (k_check_rule : PySem.W.keepIn K (.ref f_check_rule) = true)
    (a_many_fits : PySem.W.nsIn K mainGlobals "many_fits" = some (some (.ref f_many_fits)))
    (l_many_fits : K.lookup f_many_fits = some ⟨oc_many_fits, od_many_fits, .func (PySem.W.fnOf "many_fits" "many_fits" (defArgs s_many_fits) (defBody s_many_fits) (defScope s_many_fits) .none kV_many_fits dc_many_fits pm_many_fits an_many_fits cd_many_fits ct_many_fits), sl_many_fits⟩)
    (c_many_fits : PySem.W.codeIn K cd_many_fits "many_fits" = true)
    (k_many_fits : PySem.W.keepIn K (.ref f_many_fits) = true)
    (a_folding_at : PySem.W.nsIn K mainGlobals "folding_at" = some (some (.ref f_folding_at)))
    (l_folding_at : K.lookup f_folding_at = some ⟨oc_folding_at, od_folding_at, .func (PySem.W.fnOf "folding_at" "folding_at" (defArgs s_folding_at) (defBody s_folding_at) (defScope s_folding_at) .none kV_folding_at dc_folding_at pm_folding_at an_folding_at cd_folding_at ct_folding_at), sl_folding_at⟩)
    (c_folding_at : PySem.W.codeIn K cd_folding_at "folding_at" = true)
    (k_folding_at : PySem.W.keepIn K (.ref f_folding_at) = true)
    (a_law_refused : PySem.W.nsIn K mainGlobals "_law_refused" = some (some (.ref f_law_refused)))
    (l_law_refused : K.lookup f_law_refused = some ⟨oc_law_refused, od_law_refused, .func (PySem.W.fnOf "_law_refused" "_law_refused" (defArgs s_law_refused) (defBody s_law_refused) (defScope s_law_refused) .none kV_law_refused dc_law_refused pm_law_refused an_law_refused cd_law_refused ct_law_refused), sl_law_refused⟩)
    (c_law_refused : PySem.W.codeIn K cd_law_refused "_law_refused" = true)
    (k_law_refused : PySem.W.keepIn K (.ref f_law_refused) = true)
    (a_law_whole : PySem.W.nsIn K mainGlobals "_law_whole" = some (some (.ref f_law_whole)))
    (l_law_whole : K.lookup f_law_whole = some ⟨oc_law_whole, od_law_whole, .func (PySem.W.fnOf "_law_whole" "_law_whole" (defArgs s_law_whole) (defBody s_law_whole) (defScope s_law_whole) .none kV_law_whole dc_law_whole pm_law_whole an_law_whole cd_law_whole ct_law_whole), sl_law_whole⟩)
    (c_law_whole : PySem.W.codeIn K cd_law_whole "_law_whole" = true)
    (k_law_whole : PySem.W.keepIn K (.ref f_law_whole) = true)
    (a_check_folding : PySem.W.nsIn K mainGlobals "check_folding" = some (some (.ref f_check_folding)))
    (l_check_folding : K.lookup f_check_folding = some ⟨oc_check_folding, od_check_folding, .func (PySem.W.fnOf "check_folding" "check_folding" (defArgs s_check_folding) (defBody s_check_folding) (defScope s_check_folding) .none kV_check_folding dc_check_folding pm_check_folding an_check_folding cd_check_folding ct_check_folding), sl_check_folding⟩)
    (c_check_folding : PySem.W.codeIn K cd_check_folding "check_folding" = true)
    (k_check_folding : PySem.W.keepIn K (.ref f_check_folding) = true)
    (a_joints : PySem.W.nsIn K mainGlobals "joints" = some (some (.ref f_joints)))
    (l_joints : K.lookup f_joints = some ⟨oc_joints, od_joints, .func (PySem.W.fnOf "joints" "joints" (defArgs s_joints) (defBody s_joints) (defScope s_joints) .none kV_joints dc_joints pm_joints an_joints cd_joints ct_joints), sl_joints⟩)
    (c_joints : PySem.W.codeIn K cd_joints "joints" = true)
    (k_joints : PySem.W.keepIn K (.ref f_joints) = true)
    (a_span : PySem.W.nsIn K mainGlobals "span" = some (some (.ref f_span)))
    (l_span : K.lookup f_span = some ⟨oc_span, od_span, .func (PySem.W.fnOf "span" "span" (defArgs s_span) (defBody s_span) (defScope s_span) .none kV_span dc_span pm_span an_span cd_span ct_span), sl_span⟩)
    (c_span : PySem.W.codeIn K cd_span "span" = true)
    (k_span : PySem.W.keepIn K (.ref f_span) = true)
    (a_fits : PySem.W.nsIn K mainGlobals "fits" = some (some (.ref f_fits)))
    (l_fits : K.lookup f_fits = some ⟨oc_fits, od_fits, .func (PySem.W.fnOf "fits" "fits" (defArgs s_fits) (defBody s_fits) (defScope s_fits) .none kV_fits dc_fits pm_fits an_fits cd_fits ct_fits), sl_fits⟩)
    (c_fits : PySem.W.codeIn K cd_fits "fits" = true)
    (k_fits : PySem.W.keepIn K (.ref f_fits) = true)
    (a_number_of : PySem.W.nsIn K mainGlobals "number_of" = some (some (.ref f_number_of)))
    (l_number_of : K.lookup f_number_of = some ⟨oc_number_of, od_number_of, .func (PySem.W.fnOf "number_of" "number_of" (defArgs s_number_of) (defBody s_number_of) (defScope s_number_of) .none kV_number_of dc_number_of pm_number_of an_number_of cd_number_of ct_number_of), sl_number_of⟩)
    (c_number_of : PySem.W.codeIn K cd_number_of "number_of" = true)
    (k_number_of : PySem.W.keepIn K (.ref f_number_of) = true)
    (a_law_numbers : PySem.W.nsIn K mainGlobals "_law_numbers" = some (some (.ref f_law_numbers)))
    (l_law_numbers : K.lookup f_law_numbers = some ⟨oc_law_numbers, od_law_numbers, .func (PySem.W.fnOf "_law_numbers" "_law_numbers" (defArgs s_law_numbers) (defBody s_law_numbers) (defScope s_law_numbers) .none kV_law_numbers dc_law_numbers pm_law_numbers an_law_numbers cd_law_numbers ct_law_numbers), sl_law_numbers⟩)
    (c_law_numbers : PySem.W.codeIn K cd_law_numbers "_law_numbers" = true)
    (k_law_numbers : PySem.W.keepIn K (.ref f_law_numbers) = true)
    (a_law_all : PySem.W.nsIn K mainGlobals "_law_all" = some (some (.ref f_law_all)))
    (l_law_all : K.lookup f_law_all = some ⟨oc_law_all, od_law_all, .func (PySem.W.fnOf "_law_all" "_law_all" (defArgs s_law_all) (defBody s_law_all) (defScope s_law_all) .none kV_law_all dc_law_all pm_law_all an_law_all cd_law_all ct_law_all), sl_law_all⟩)
    (c_law_all : PySem.W.codeIn K cd_law_all "_law_all" = true)
    (k_law_all : PySem.W.keepIn K (.ref f_law_all) = true)
    (a_law_joints : PySem.W.nsIn K mainGlobals "_law_joints" = some (some (.ref f_law_joints)))
    (l_law_joints : K.lookup f_law_joints = some ⟨oc_law_joints, od_law_joints, .func (PySem.W.fnOf "_law_joints" "_law_joints" (defArgs s_law_joints) (defBody s_law_joints) (defScope s_law_joints) .none kV_law_joints dc_law_joints pm_law_joints an_law_joints cd_law_joints ct_law_joints), sl_law_joints⟩)
    (c_law_joints : PySem.W.codeIn K cd_law_joints "_law_joints" = true)
    (k_law_joints : PySem.W.keepIn K (.ref f_law_joints) = true)
    (a_law_span : PySem.W.nsIn K mainGlobals "_law_span" = some (some (.ref f_law_span)))
    (l_law_span : K.lookup f_law_span = some ⟨oc_law_span, od_law_span, .func (PySem.W.fnOf "_law_span" "_law_span" (defArgs s_law_span) (defBody s_law_span) (defScope s_law_span) .none kV_law_span dc_law_span pm_law_span an_law_span cd_law_span ct_law_span), sl_law_span⟩)
    (c_law_span : PySem.W.codeIn K cd_law_span "_law_span" = true)
    (k_law_span : PySem.W.keepIn K (.ref f_law_span) = true)
    (a_law_rule : PySem.W.nsIn K mainGlobals "_law_rule" = some (some (.ref f_law_rule)))
    (l_law_rule : K.lookup f_law_rule = some ⟨oc_law_rule, od_law_rule, .func (PySem.W.fnOf "_law_rule" "_law_rule" (defArgs s_law_rule) (defBody s_law_rule) (defScope s_law_rule) .none kV_law_rule dc_law_rule pm_law_rule an_law_rule cd_law_rule ct_law_rule), sl_law_rule⟩)
    (c_law_rule : PySem.W.codeIn K cd_law_rule "_law_rule" = true)
    (k_law_rule : PySem.W.keepIn K (.ref f_law_rule) = true)
    (a_law : PySem.W.nsIn K mainGlobals "law" = some (some (.ref f_law)))
    (l_law : K.lookup f_law = some ⟨oc_law, od_law, .func (PySem.W.fnOf "law" "law" (defArgs s_law) (defBody s_law) (defScope s_law) .none kV_law dc_law pm_law an_law cd_law ct_law), sl_law⟩)
    (c_law : PySem.W.codeIn K cd_law "law" = true)
    (k_law : PySem.W.keepIn K (.ref f_law) = true)
    (z_len : PySem.W.nsIn K mainGlobals "len" = some none)
    (z_isinstance : PySem.W.nsIn K mainGlobals "isinstance" = some none)
    (z_ValueError : PySem.W.nsIn K mainGlobals "ValueError" = some none)
    (z_max : PySem.W.nsIn K mainGlobals "max" = some none)
    (z_sum : PySem.W.nsIn K mainGlobals "sum" = some none)
    (z_range : PySem.W.nsIn K mainGlobals "range" = some none)
    (z_bool : PySem.W.nsIn K mainGlobals "bool" = some none)
    (z_int : PySem.W.nsIn K mainGlobals "int" = some none)
    (z_zip : PySem.W.nsIn K mainGlobals "zip" = some none)
    (z_min : PySem.W.nsIn K mainGlobals "min" = some none)
    (z_enumerate : PySem.W.nsIn K mainGlobals "enumerate" = some none)
    (z_list : PySem.W.nsIn K mainGlobals "list" = some none)
    (z_sorted : PySem.W.nsIn K mainGlobals "sorted" = some none)
    (e_rr : errB K = true)
    (g_LONGEST_PIECE : PySem.W.nsIn K mainGlobals "LONGEST_PIECE" = some (some (.int 60 t_LONGEST_PIECE)))
    (g_MOST_PIECES : PySem.W.nsIn K mainGlobals "MOST_PIECES" = some (some (.int 12 t_MOST_PIECES))) :
    ∃ fd : FuncData, (∀ (s : Shared) (v : Value), BindsTo s fd ⟨[v], []⟩ [("script", v)]) ∧ ∀ base : Heap, K.In base → base.Ns mainGlobals mg → FnOk l.prog w K mg base (CXE l.prog w) 7 fa fd ["script"] (sp_law K) := by
  have e := hfa.symm.trans (PySem.W.mg_of X G a_law)
  cases e
  have F_law_cell_at := fun_mk (st := s_law_cell_at) l_law_cell_at c_law_cell_at k_law_cell_at
  have m_law_cell_at := PySem.W.mg_of X G a_law_cell_at
  have b_law_cell_at := F_law_cell_at.binds (ps := ["script", "k"]) fun _ _ _ _ _ _ us hl => match us, hl with | [_, _], _ => rfl
  have F_law_draw := fun_mk (st := s_law_draw) l_law_draw c_law_draw k_law_draw
  have m_law_draw := PySem.W.mg_of X G a_law_draw
  have b_law_draw := F_law_draw.binds (ps := ["script", "k"]) fun _ _ _ _ _ _ us hl => match us, hl with | [_, _], _ => rfl
  have F_law_alone := fun_mk (st := s_law_alone) l_law_alone c_law_alone k_law_alone
  have m_law_alone := PySem.W.mg_of X G a_law_alone
  have b_law_alone := F_law_alone.binds (ps := ["e"]) fun _ _ _ _ _ _ us hl => match us, hl with | [_], _ => rfl
  have F_further_reach := fun_mk (st := s_further_reach) l_further_reach c_further_reach k_further_reach
  have m_further_reach := PySem.W.mg_of X G a_further_reach
  have b_further_reach := F_further_reach.binds (ps := ["reach", "turn", "length"]) fun _ _ _ _ _ _ us hl => match us, hl with | [_, _, _], _ => rfl
  have F_further_counts := fun_mk (st := s_further_counts) l_further_counts c_further_counts k_further_counts
  have m_further_counts := PySem.W.mg_of X G a_further_counts
  have b_further_counts := F_further_counts.binds (ps := ["counts", "length", "case"]) fun _ _ _ _ _ _ us hl => match us, hl with | [_, _, _], _ => rfl
  have F_many_beyond := fun_mk (st := s_many_beyond) l_many_beyond c_many_beyond k_many_beyond
  have m_many_beyond := PySem.W.mg_of X G a_many_beyond
  have b_many_beyond := F_many_beyond.binds (ps := ["reach", "lengths", "case"]) fun _ _ _ _ _ _ us hl => match us, hl with | [_, _, _], _ => rfl
  have F_many_going_on := fun_mk (st := s_many_going_on) l_many_going_on c_many_going_on k_many_going_on
  have m_many_going_on := PySem.W.mg_of X G a_many_going_on
  have b_many_going_on := F_many_going_on.binds (ps := ["rule", "case", "reach", "hinge"]) fun _ _ _ _ _ _ us hl => match us, hl with | [_, _, _, _], _ => rfl
  have F_first_reach := fun_mk (st := s_first_reach) l_first_reach c_first_reach k_first_reach
  have m_first_reach := PySem.W.mg_of X G a_first_reach
  have b_first_reach := F_first_reach.binds (ps := ["rule"]) fun _ _ _ _ _ _ us hl => match us, hl with | [_], _ => rfl
  have F_check_rule := fun_mk (st := s_check_rule) l_check_rule c_check_rule k_check_rule
  have m_check_rule := PySem.W.mg_of X G a_check_rule
  have b_check_rule := F_check_rule.binds (ps := ["rule"]) fun _ _ _ _ _ _ us hl => match us, hl with | [_], _ => rfl
  have F_many_fits := fun_mk (st := s_many_fits) l_many_fits c_many_fits k_many_fits
  have m_many_fits := PySem.W.mg_of X G a_many_fits
  have b_many_fits := F_many_fits.binds (ps := ["rule", "case"]) fun _ _ _ _ _ _ us hl => match us, hl with | [_, _], _ => rfl
  have F_folding_at := fun_mk (st := s_folding_at) l_folding_at c_folding_at k_folding_at
  have m_folding_at := PySem.W.mg_of X G a_folding_at
  have b_folding_at := F_folding_at.binds (ps := ["rule", "case", "number"]) fun _ _ _ _ _ _ us hl => match us, hl with | [_, _, _], _ => rfl
  have F_law_refused := fun_mk (st := s_law_refused) l_law_refused c_law_refused k_law_refused
  have m_law_refused := PySem.W.mg_of X G a_law_refused
  have b_law_refused := F_law_refused.binds (ps := ["rule", "case", "number"]) fun _ _ _ _ _ _ us hl => match us, hl with | [_, _, _], _ => rfl
  have F_law_whole := fun_mk (st := s_law_whole) l_law_whole c_law_whole k_law_whole
  have m_law_whole := PySem.W.mg_of X G a_law_whole
  have b_law_whole := F_law_whole.binds (ps := ["found"]) fun _ _ _ _ _ _ us hl => match us, hl with | [_], _ => rfl
  have F_check_folding := fun_mk (st := s_check_folding) l_check_folding c_check_folding k_check_folding
  have m_check_folding := PySem.W.mg_of X G a_check_folding
  have b_check_folding := F_check_folding.binds (ps := ["rule", "folding"]) fun _ _ _ _ _ _ us hl => match us, hl with | [_, _], _ => rfl
  have F_joints := fun_mk (st := s_joints) l_joints c_joints k_joints
  have m_joints := PySem.W.mg_of X G a_joints
  have b_joints := F_joints.binds (ps := ["rule", "folding"]) fun _ _ _ _ _ _ us hl => match us, hl with | [_, _], _ => rfl
  have F_span := fun_mk (st := s_span) l_span c_span k_span
  have m_span := PySem.W.mg_of X G a_span
  have b_span := F_span.binds (ps := ["rule", "folding"]) fun _ _ _ _ _ _ us hl => match us, hl with | [_, _], _ => rfl
  have F_fits := fun_mk (st := s_fits) l_fits c_fits k_fits
  have m_fits := PySem.W.mg_of X G a_fits
  have b_fits := F_fits.binds (ps := ["rule", "folding", "case"]) fun _ _ _ _ _ _ us hl => match us, hl with | [_, _, _], _ => rfl
  have F_number_of := fun_mk (st := s_number_of) l_number_of c_number_of k_number_of
  have m_number_of := PySem.W.mg_of X G a_number_of
  have b_number_of := F_number_of.binds (ps := ["rule", "case", "folding"]) fun _ _ _ _ _ _ us hl => match us, hl with | [_, _, _], _ => rfl
  have F_law_numbers := fun_mk (st := s_law_numbers) l_law_numbers c_law_numbers k_law_numbers
  have m_law_numbers := PySem.W.mg_of X G a_law_numbers
  have b_law_numbers := F_law_numbers.binds (ps := ["found", "due"]) fun _ _ _ _ _ _ us hl => match us, hl with | [_, _], _ => rfl
  have F_law_all := fun_mk (st := s_law_all) l_law_all c_law_all k_law_all
  have m_law_all := PySem.W.mg_of X G a_law_all
  have b_law_all := F_law_all.binds (ps := ["hinges"]) fun _ _ _ _ _ _ us hl => match us, hl with | [_], _ => rfl
  have F_law_joints := fun_mk (st := s_law_joints) l_law_joints c_law_joints k_law_joints
  have m_law_joints := PySem.W.mg_of X G a_law_joints
  have b_law_joints := F_law_joints.binds (ps := ["rule", "folding"]) fun _ _ _ _ _ _ us hl => match us, hl with | [_, _], _ => rfl
  have F_law_span := fun_mk (st := s_law_span) l_law_span c_law_span k_law_span
  have m_law_span := PySem.W.mg_of X G a_law_span
  have b_law_span := F_law_span.binds (ps := ["rule", "folding"]) fun _ _ _ _ _ _ us hl => match us, hl with | [_, _], _ => rfl
  have F_law_rule := fun_mk (st := s_law_rule) l_law_rule c_law_rule k_law_rule
  have m_law_rule := PySem.W.mg_of X G a_law_rule
  have b_law_rule := F_law_rule.binds (ps := ["script", "pieces"]) fun _ _ _ _ _ _ us hl => match us, hl with | [_, _], _ => rfl
  have F_law := fun_mk (st := s_law) l_law c_law k_law
  have m_law := PySem.W.mg_of X G a_law
  have y_len := PySem.W.mg_none_of X G z_len
  have y_isinstance := PySem.W.mg_none_of X G z_isinstance
  have y_ValueError := PySem.W.mg_none_of X G z_ValueError
  have y_max := PySem.W.mg_none_of X G z_max
  have y_sum := PySem.W.mg_none_of X G z_sum
  have y_range := PySem.W.mg_none_of X G z_range
  have y_bool := PySem.W.mg_none_of X G z_bool
  have y_int := PySem.W.mg_none_of X G z_int
  have y_zip := PySem.W.mg_none_of X G z_zip
  have y_min := PySem.W.mg_none_of X G z_min
  have y_enumerate := PySem.W.mg_none_of X G z_enumerate
  have y_list := PySem.W.mg_none_of X G z_list
  have y_sorted := PySem.W.mg_none_of X G z_sorted
  have m_LONGEST_PIECE := PySem.W.mg_of X G g_LONGEST_PIECE
  have m_MOST_PIECES := PySem.W.mg_of X G g_MOST_PIECES
  have Er := errs_of X G e_rr
  refine ⟨PySem.W.fnOf "law" "law" (defArgs s_law) (defBody s_law) (defScope s_law) .none kV_law dc_law pm_law an_law cd_law ct_law, fun s v => .of_eq rfl, fun base _ _ => ?_⟩
  have G_law_cell_at := ok_law_cell_at (P := l.prog) (w := w) (mg := mg) (base := base) F_law_cell_at y_len
  have G_law_draw := ok_law_draw (P := l.prog) (w := w) (mg := mg) (base := base) F_law_draw G_law_cell_at m_law_cell_at k_law_cell_at b_law_cell_at
  have G_law_alone := ok_law_alone (P := l.prog) (w := w) (mg := mg) (base := base) F_law_alone Er y_isinstance y_ValueError
  have G_further_reach := ok_further_reach (P := l.prog) (w := w) (mg := mg) (base := base) F_further_reach y_max
  have G_further_counts := ok_further_counts (P := l.prog) (w := w) (mg := mg) (base := base) F_further_counts G_further_reach m_further_reach k_further_reach b_further_reach y_sum
  have G_many_beyond := ok_many_beyond (P := l.prog) (w := w) (mg := mg) (base := base) F_many_beyond G_further_counts m_further_counts k_further_counts b_further_counts y_sum
  have G_many_going_on := ok_many_going_on (P := l.prog) (w := w) (mg := mg) (base := base) F_many_going_on G_many_beyond m_many_beyond k_many_beyond b_many_beyond G_further_reach m_further_reach k_further_reach b_further_reach
  have G_first_reach := ok_first_reach (P := l.prog) (w := w) (mg := mg) (base := base) F_first_reach
  have G_check_rule := ok_check_rule (P := l.prog) (w := w) (mg := mg) (base := base) F_check_rule y_len m_LONGEST_PIECE m_MOST_PIECES
  have G_many_fits := ok_many_fits (P := l.prog) (w := w) (mg := mg) (base := base) F_many_fits G_many_beyond m_many_beyond k_many_beyond b_many_beyond G_first_reach m_first_reach k_first_reach b_first_reach G_check_rule m_check_rule k_check_rule b_check_rule
  have G_folding_at := ok_folding_at (P := l.prog) (w := w) (mg := mg) (base := base) F_folding_at G_further_reach m_further_reach k_further_reach b_further_reach G_many_going_on m_many_going_on k_many_going_on b_many_going_on G_first_reach m_first_reach k_first_reach b_first_reach G_many_fits m_many_fits k_many_fits b_many_fits Er y_range y_len
  have G_law_refused := ok_law_refused (P := l.prog) (w := w) (mg := mg) (base := base) F_law_refused G_law_alone m_law_alone k_law_alone b_law_alone G_folding_at m_folding_at k_folding_at b_folding_at Er
  have G_law_whole := ok_law_whole (P := l.prog) (w := w) (mg := mg) (base := base) F_law_whole y_isinstance y_bool y_int
  have G_check_folding := ok_check_folding (P := l.prog) (w := w) (mg := mg) (base := base) F_check_folding G_check_rule m_check_rule k_check_rule b_check_rule y_len
  have G_joints := ok_joints (P := l.prog) (w := w) (mg := mg) (base := base) F_joints G_check_folding m_check_folding k_check_folding b_check_folding y_zip
  have G_span := ok_span (P := l.prog) (w := w) (mg := mg) (base := base) F_span G_joints m_joints k_joints b_joints y_max y_min
  have G_fits := ok_fits (P := l.prog) (w := w) (mg := mg) (base := base) F_fits G_span m_span k_span b_span
  have G_number_of := ok_number_of (P := l.prog) (w := w) (mg := mg) (base := base) F_number_of G_further_reach m_further_reach k_further_reach b_further_reach G_many_going_on m_many_going_on k_many_going_on b_many_going_on G_first_reach m_first_reach k_first_reach b_first_reach G_fits m_fits k_fits b_fits y_enumerate
  have G_law_numbers := ok_law_numbers (P := l.prog) (w := w) (mg := mg) (base := base) F_law_numbers G_law_whole m_law_whole k_law_whole b_law_whole y_isinstance y_list
  have G_law_all := ok_law_all (P := l.prog) (w := w) (mg := mg) (base := base) F_law_all y_range
  have G_law_joints := ok_law_joints (P := l.prog) (w := w) (mg := mg) (base := base) F_law_joints y_range y_len
  have G_law_span := ok_law_span (P := l.prog) (w := w) (mg := mg) (base := base) F_law_span G_law_joints m_law_joints k_law_joints b_law_joints y_sorted
  have G_law_rule := ok_law_rule (P := l.prog) (w := w) (mg := mg) (base := base) F_law_rule G_law_draw m_law_draw k_law_draw b_law_draw y_range
  exact ok_law (P := l.prog) (w := w) (mg := mg) (base := base) F_law G_law_draw m_law_draw k_law_draw b_law_draw G_law_refused m_law_refused k_law_refused b_law_refused G_law_whole m_law_whole k_law_whole b_law_whole G_number_of m_number_of k_number_of b_number_of G_law_numbers m_law_numbers k_law_numbers b_law_numbers G_folding_at m_folding_at k_folding_at b_folding_at G_many_fits m_many_fits k_many_fits b_many_fits G_law_all m_law_all k_law_all b_law_all G_law_span m_law_span k_law_span b_law_span G_law_rule m_law_rule k_law_rule b_law_rule y_len y_range y_list y_sum
theorem walk {l : PySem.W.OpenLaw} {q : Program} {loose : List Str} {XP : (Str → Option Value) → Heap → Prop} {YP : World → Heap → Prop} {d : DefRec} {K : Params → PySem.W.Frag} (hn : l.most = some 63) (hdf : d.params.defaults = [])
    (hY : ∀ (w : World) (h : Heap), YP w h → (K w.params).In h)
    (F : ∀ (w : World) (mg : Str → Option Value) (fa : Addr) (h : Heap), (K w.params).In h → h.Ns mainGlobals mg → mg d.name = some (.ref fa) →
      ∃ fd : FuncData, (∀ (s : Shared) (u : Value), BindsTo s fd ⟨[u], []⟩ [("script", u)]) ∧ ∀ base : Heap, (K w.params).In base → base.Ns mainGlobals mg → FnOk l.prog w (K w.params) mg base (CXE l.prog w) 7 fa fd ["script"] (sp_law (K w.params))) :
    PySem.W.WalkO q loose XP YP l.row.toRowW d [] (fun f vs => PySem.call f vs) :=
  L2.walk_of (n := 63) (k := 7) (x := "script") (CX := fun w => CXE l.prog w) (sp := fun w => sp_law (K w.params)) hn (by decide) hdf ⟨rfl, by decide, by decide⟩ hY F (fun _ _ a ns hl _ hS => ⟨a, ns, rfl, hS, hl, fun _ => rfl⟩) fun _ _ _ _ _ z => by
    obtain ⟨_, _, _, _, _, _, _, _, _, _, _, _, _, _, z⟩ := z
    exact z
end FR
open PySem PySem.W PyProof.Rows
set_option maxRecDepth 100000 in
set_option maxHeartbeats 0 in
theorem PySem.Challenge.cw_foldrule_k04_whole_counted_in_order_holds : PySem.Challenge.rw_foldrule_k04_whole_counted_in_order.Holds := by
  w_on; o_law; k_head; (case hw => w_witness2)
  k_fill
  refine FR.walk (l := PySem.Challenge.rw_foldrule_k04_whole_counted_in_order) rfl rfl (fun w h Y => PySem.W.kIn_of Y) ?F
  case F =>
    intro w mg fa h KX G hmg
    refine' FR.all_mk KX G hmg ?a_law_cell_at ?l_law_cell_at ?c_law_cell_at ?k_law_cell_at ?a_law_draw ?l_law_draw ?c_law_draw ?k_law_draw ?a_law_alone ?l_law_alone ?c_law_alone ?k_law_alone ?a_further_reach ?l_further_reach ?c_further_reach ?k_further_reach ?a_further_counts ?l_further_counts ?c_further_counts ?k_further_counts ?a_many_beyond ?l_many_beyond ?c_many_beyond ?k_many_beyond ?a_many_going_on ?l_many_going_on ?c_many_going_on ?k_many_going_on ?a_first_reach ?l_first_reach ?c_first_reach ?k_first_reach ?a_check_rule ?l_check_rule ?c_check_rule ?k_check_rule ?a_many_fits ?l_many_fits ?c_many_fits ?k_many_fits ?a_folding_at ?l_folding_at ?c_folding_at ?k_folding_at ?a_law_refused ?l_law_refused ?c_law_refused ?k_law_refused ?a_law_whole ?l_law_whole ?c_law_whole ?k_law_whole ?a_check_folding ?l_check_folding ?c_check_folding ?k_check_folding ?a_joints ?l_joints ?c_joints ?k_joints ?a_span ?l_span ?c_span ?k_span ?a_fits ?l_fits ?c_fits ?k_fits ?a_number_of ?l_number_of ?c_number_of ?k_number_of ?a_law_numbers ?l_law_numbers ?c_law_numbers ?k_law_numbers ?a_law_all ?l_law_all ?c_law_all ?k_law_all ?a_law_joints ?l_law_joints ?c_law_joints ?k_law_joints ?a_law_span ?l_law_span ?c_law_span ?k_law_span ?a_law_rule ?l_law_rule ?c_law_rule ?k_law_rule ?a_law ?l_law ?c_law ?k_law ?z_len ?z_isinstance ?z_ValueError ?z_max ?z_sum ?z_range ?z_bool ?z_int ?z_zip ?z_min ?z_enumerate ?z_list ?z_sorted ?e_rr ?g_LONGEST_PIECE ?g_MOST_PIECES
    (case a_law_cell_at => k_is)
    (case l_law_cell_at => k_is)
    (case c_law_cell_at => k_is)
    (case k_law_cell_at => k_is)
    (case a_law_draw => k_is)
    (case l_law_draw => k_is)
    (case c_law_draw => k_is)
    (case k_law_draw => k_is)
    (case a_law_alone => k_is)
    (case l_law_alone => k_is)
    (case c_law_alone => k_is)
    (case k_law_alone => k_is)
    (case a_further_reach => k_is)
    (case l_further_reach => k_is)
    (case c_further_reach => k_is)
    (case k_further_reach => k_is)
    (case a_further_counts => k_is)
    (case l_further_counts => k_is)
    (case c_further_counts => k_is)
    (case k_further_counts => k_is)
    (case a_many_beyond => k_is)
    (case l_many_beyond => k_is)
    (case c_many_beyond => k_is)
    (case k_many_beyond => k_is)
    (case a_many_going_on => k_is)
    (case l_many_going_on => k_is)
    (case c_many_going_on => k_is)
    (case k_many_going_on => k_is)
    (case a_first_reach => k_is)
    (case l_first_reach => k_is)
    (case c_first_reach => k_is)
    (case k_first_reach => k_is)
    (case a_check_rule => k_is)
    (case l_check_rule => k_is)
    (case c_check_rule => k_is)
    (case k_check_rule => k_is)
    (case a_many_fits => k_is)
    (case l_many_fits => k_is)
    (case c_many_fits => k_is)
    (case k_many_fits => k_is)
    (case a_folding_at => k_is)
    (case l_folding_at => k_is)
    (case c_folding_at => k_is)
    (case k_folding_at => k_is)
    (case a_law_refused => k_is)
    (case l_law_refused => k_is)
    (case c_law_refused => k_is)
    (case k_law_refused => k_is)
    (case a_law_whole => k_is)
    (case l_law_whole => k_is)
    (case c_law_whole => k_is)
    (case k_law_whole => k_is)
    (case a_check_folding => k_is)
    (case l_check_folding => k_is)
    (case c_check_folding => k_is)
    (case k_check_folding => k_is)
    (case a_joints => k_is)
    (case l_joints => k_is)
    (case c_joints => k_is)
    (case k_joints => k_is)
    (case a_span => k_is)
    (case l_span => k_is)
    (case c_span => k_is)
    (case k_span => k_is)
    (case a_fits => k_is)
    (case l_fits => k_is)
    (case c_fits => k_is)
    (case k_fits => k_is)
    (case a_number_of => k_is)
    (case l_number_of => k_is)
    (case c_number_of => k_is)
    (case k_number_of => k_is)
    (case a_law_numbers => k_is)
    (case l_law_numbers => k_is)
    (case c_law_numbers => k_is)
    (case k_law_numbers => k_is)
    (case a_law_all => k_is)
    (case l_law_all => k_is)
    (case c_law_all => k_is)
    (case k_law_all => k_is)
    (case a_law_joints => k_is)
    (case l_law_joints => k_is)
    (case c_law_joints => k_is)
    (case k_law_joints => k_is)
    (case a_law_span => k_is)
    (case l_law_span => k_is)
    (case c_law_span => k_is)
    (case k_law_span => k_is)
    (case a_law_rule => k_is)
    (case l_law_rule => k_is)
    (case c_law_rule => k_is)
    (case k_law_rule => k_is)
    (case a_law => k_is)
    (case l_law => k_is)
    (case c_law => k_is)
    (case k_law => k_is)
    (case z_len => k_is)
    (case z_isinstance => k_is)
    (case z_ValueError => k_is)
    (case z_max => k_is)
    (case z_sum => k_is)
    (case z_range => k_is)
    (case z_bool => k_is)
    (case z_int => k_is)
    (case z_zip => k_is)
    (case z_min => k_is)
    (case z_enumerate => k_is)
    (case z_list => k_is)
    (case z_sorted => k_is)
    (case e_rr => kernel_rfl)
    (case g_LONGEST_PIECE => k_is)
    (case g_MOST_PIECES => k_is)

