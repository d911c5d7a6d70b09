import PyProof.Rows.All
import Wide.All
import OpenK.AllK
import Wide.FinOn
import Lean
import PyProof.EqAt
import PyProof.EqKinds
import PyProof.TupleCall
import PySem.Challenge.RW_foldrule_k08_written_and_read
set_option Elab.async false
set_option linter.all false
set_option maxRecDepth 100000
/-! THE HAND LAYER, for ints, bools, texts, own classes, LISTS and tuples (index, slices, in, append, pop ..), calls, loops. Paste it whole ahead of your own text; what your proof does not reach may be deleted. -/
/-! EXTENSION TK: a run never lowers the number of tokens -/
namespace L2
open PySem PySem.Spec PyProof.Rows
theorem runs_toks {M : Model} {Γ : PySem.Ctx} {p : Pos} {t : Sem Fin} {fs : List Frame} {s s' : Shared} {e : End} (h : Runs M Γ p t fs s e s') : s.toks ≤ s'.toks := by
  induction h
  all_goals first
    | exact Nat.le_refl _
    | assumption
    | (simp only [Shared.setGen] at *; omega)
    | omega
theorem wakes_toks {M : Model} {Γ : PySem.Ctx} {p : Pos} {g : Nat} {r : Resume} {s s' : Shared} {res : GenResult} (h : Wakes M Γ p g r s res s') : s.toks ≤ s'.toks := by
  unfold Wakes at h
  split at h
  · exact h.elim
  · split at h
    · obtain ⟨e, s1, h1, _, _, rfl⟩ := h
      have := runs_toks h1
      exact this
    · obtain ⟨_, rfl⟩ := h; exact Nat.le_refl _
    · obtain ⟨_, rfl⟩ := h; exact Nat.le_refl _
  · obtain ⟨e, s1, h1, _, _, rfl⟩ := h
    have := runs_toks h1
    exact this
  · obtain ⟨_, rfl⟩ := h; exact Nat.le_refl _
  · obtain ⟨_, rfl⟩ := h; exact Nat.le_refl _
theorem wp_toks {α : Type} {M : Model} {Γ : PySem.Ctx} {n : Nat} {Q : α → Pos → Shared → Prop} {E : Value → Pos → Shared → Prop} (t : Sem α) : ∀ (p : Pos) (s : Shared), n ≤ s.toks → Sem.wp M Γ t (fun a p' s' => n ≤ s'.toks → Q a p' s') (fun e p' s' => n ≤ s'.toks → E e p' s') p s → Sem.wp M Γ t Q E p s := by
  induction t with
  | pure a => intro p s hn h; exact h hn
  | raise e => intro p s hn h; exact h hn
  | unsupported _ => intro p s hn h; exact h
  | finish _ => intro p s hn h; exact h
  | register _ _ _ => intro p s hn h; exact h
  | yield _ _ _ _ _ => intro p s hn h; exact h
  | fork _ _ _ => intro p s hn h; exact h
  | await _ _ _ _ _ _ => intro p s hn h; exact h
  | rule tag k ih => intro p s hn h; exact ih _ p s hn h
  | «at» p' k ih => intro p s hn h; exact ih _ p' s hn h
  | load a part k ih => intro p s hn h; obtain ⟨o, ho, h⟩ := h; exact ⟨o, ho, ih o p s hn h⟩
  | update a part f k ih => intro p s hn h; exact ⟨h.1, ih _ p _ hn h.2⟩
  | alloc o k ih => intro p s hn h; exact ih _ p _ hn h
  | loadIfAlive a k ih => intro p s hn h; exact ih _ p s hn h
  | point l k ih => intro p s hn h; exact ih _ p s hn h
  | fresh k ih => intro p s hn h; exact ih _ p _ (Nat.le_succ_of_le hn) h
  | ask k ih => intro p s hn h; exact ih _ p s hn h
  | choose src m k ih => intro p s hn h; exact ⟨h.1, ih _ p _ hn h.2⟩
  | os q l k ih => intro p s hn h; exact ih _ p _ hn h
  | call c hd g l k ih =>
    intro p s hn h
    obtain ⟨r, s', hr, h⟩ := h
    exact ⟨r, s', hr, ih r p s' (Nat.le_trans hn (runs_toks hr)) h⟩
  | handled own k ih => intro p s hn h; exact ih _ p s hn h
  | newGen c k ih => intro p s hn h; exact ih _ p _ hn h
  | genState g k ih => intro p s hn h; obtain ⟨o, ho, h⟩ := h; exact ⟨o, ho, ih _ p s hn h⟩
  | resume g r l k ih =>
    intro p s hn h
    obtain ⟨res, s', hw, h⟩ := h
    exact ⟨res, s', hw, ih res p s' (Nat.le_trans hn (wakes_toks hw)) h⟩
  | stack k ih => intro p s hn h; exact ih _ p s hn h
  | thread k ih => intro p s hn h; exact ih _ p s hn h
/-- what a run ends with may be met with the word that tokens are no fewer -/
theorem wpAny_toks {α : Type} {M : Model} {A : Around} {t : Sem α} {Q : α → Shared → Prop} {E : Value → Shared → Prop} {s : Shared} (h : wpAny M A t (fun a s' => s.toks ≤ s'.toks → Q a s') (fun e s' => s.toks ≤ s'.toks → E e s') s) : wpAny M A t Q E s :=
  fun Γ p hΓ => wp_toks t p s (Nat.le_refl _) (h Γ p hΓ)
end L2

namespace L2
open PySem PySem.Spec PyProof.Rows

/-- a key: an int or a str -/
abbrev Key := Sum Int Str
def keyIs : Key → Value → Bool
  | .inl k, v => Value.isInt k v
  | .inr x, v => Value.isStrOf x v
def keyH (w : World) : Key → Int
  | .inl k => hashInt k
  | .inr x => hashStr w x
theorem keyIs_shape : ∀ {k : Key} {v : Value}, keyIs k v = true → (∃ i t, k = Sum.inl i ∧ v = Value.int i t) ∨ (∃ x t, k = Sum.inr x ∧ v = Value.str x t)
  | .inl i, v, h => by
    obtain ⟨t, e⟩ := Value.isInt_shape (k := i) (v := v) h
    exact .inl ⟨i, t, rfl, e⟩
  | .inr x, v, h => by
    obtain ⟨t, e⟩ := Value.isStrOf_shape (x := x) (v := v) h
    exact .inr ⟨x, t, rfl, e⟩
theorem key_ll (a b : Int) : decide ((Sum.inl a : Key) = Sum.inl b) = (a == b) := by
  by_cases e : a = b
  · subst e; simp
  · have h : ¬ (Sum.inl a : Key) = Sum.inl b := fun q => e (Sum.inl.inj q)
    rw [decide_eq_false h]
    exact (beq_eq_false_iff_ne.mpr e).symm
theorem key_rr (a b : Str) : decide ((Sum.inr a : Key) = Sum.inr b) = decide (a = b) := by
  by_cases e : a = b
  · subst e; simp
  · have h : ¬ (Sum.inr a : Key) = Sum.inr b := fun q => e (Sum.inr.inj q)
    rw [decide_eq_false h, decide_eq_false e]
theorem key_lr (a : Int) (b : Str) : decide ((Sum.inl a : Key) = Sum.inr b) = false := decide_eq_false (fun q => nomatch q)
theorem key_rl (a : Str) (b : Int) : decide ((Sum.inr a : Key) = Sum.inl b) = false := decide_eq_false (fun q => nomatch q)

def mixKind (prog : Program) (w : World) : PySem.KeyKind prog w Key where
  is := keyIs
  hash := keyH w
  inj := fun v a b ha hb => by
    rcases keyIs_shape ha with ⟨i, t, rfl, rfl⟩ | ⟨x, t, rfl, rfl⟩
    · rcases keyIs_shape hb with ⟨j, u, rfl, e⟩ | ⟨y, u, rfl, e⟩
      · injection e with e1 _; rw [e1]
      · exact nomatch e
    · rcases keyIs_shape hb with ⟨j, u, rfl, e⟩ | ⟨y, u, rfl, e⟩
      · exact nomatch e
      · injection e with e1 _; rw [e1]
  byValue := fun k v h => by
    rcases keyIs_shape h with ⟨i, t, rfl, rfl⟩ | ⟨x, t, rfl, rfl⟩ <;> rfl
  pyHash := fun hv h => by
    rcases keyIs_shape hv with ⟨i, t, rfl, rfl⟩ | ⟨x, t, rfl, rfl⟩
    · exact wpAny_pyHash_int h
    · exact wpAny_pyHash_str h
  eqBool := fun hu hv h => by
    rcases keyIs_shape hu with ⟨i, t, rfl, rfl⟩ | ⟨x, t, rfl, rfl⟩
    · rcases keyIs_shape hv with ⟨j, u, rfl, rfl⟩ | ⟨y, u, rfl, rfl⟩
      · rw [key_ll] at h; exact wpAny_eqBool_int h
      · rw [key_lr] at h; exact SeqAt.EqAt.int_str i t y u _ _ _ _ h
    · rcases keyIs_shape hv with ⟨j, u, rfl, rfl⟩ | ⟨y, u, rfl, rfl⟩
      · rw [key_rl] at h; exact SeqAt.EqAt.str_int x t j u _ _ _ _ h
      · rw [key_rr] at h; exact wpAny_eqBool_str h
  «strs» := fun k x t v h => by
    rcases keyIs_shape h with ⟨i, u, rfl, e⟩ | ⟨y, u, rfl, e⟩
    · exact nomatch e
    · injection e with e1 _
      subst e1
      cases v <;> rfl

end L2

namespace L2
open PySem PySem.Spec PyProof.Rows

/-- a value, without the heap -/
inductive V where
  | non | bl (b : Bool) | int (i : Int) | str (x : Str) | byt (b : Array UInt8) | flt (b : UInt64) | ref (a : Addr) | ty (n : String)
  deriving DecidableEq

def RelV : V → Value → Prop
  | .non, u => u = Value.none
  | .bl b, u => u = Value.bool b
  | .int i, u => ∃ t, u = Value.int i t
  | .str x, u => ∃ t, u = Value.str x t
  | .byt b, u => ∃ t, u = Value.bytes b t
  | .flt b, u => ∃ t, u = Value.float b t
  | .ref a, u => u = Value.ref a
  | .ty n, u => u = Value.type n

abbrev Vals : List V → List Value → Prop := Paired RelV
theorem Vals.length {xs : List V} {us : List Value} (r : Vals xs us) : xs.length = us.length := Paired.length r
theorem Vals.get : ∀ {xs : List V} {us : List Value} {i : Nat} {x : V}, Vals xs us → xs[i]? = some x → ∃ u, us[i]? = some u ∧ RelV x u
  | _, _, _, _, .nil, e => by simp at e
  | _, _, 0, _, .cons r _, e => by simp at e; subst e; exact ⟨_, rfl, r⟩
  | _, _, i + 1, x, .cons _ t, e => by
    obtain ⟨u, h1, h2⟩ := Vals.get (i := i) (x := x) t (by simpa using e)
    exact ⟨u, by simpa using h1, h2⟩
theorem Vals.set {x : V} {u : Value} (r : RelV x u) : ∀ {xs : List V} {us : List Value} (i : Nat), Vals xs us → Vals (xs.set i x) (us.set i u)
  | _, _, _, .nil => .nil
  | _, _, 0, .cons _ t => .cons r t
  | _, _, i + 1, .cons q t => .cons q (Vals.set r i t)
theorem Vals.append : ∀ {xs ys : List V} {us ws : List Value}, Vals xs us → Vals ys ws → Vals (xs ++ ys) (us ++ ws)
  | _, _, _, _, .nil, s => s
  | _, _, _, _, .cons r t, s => .cons r (Vals.append t s)
theorem Vals.take : ∀ {xs : List V} {us : List Value} (n : Nat), Vals xs us → Vals (xs.take n) (us.take n)
  | _, _, 0, _ => .nil
  | _, _, _ + 1, .nil => .nil
  | _, _, n + 1, .cons r t => .cons r (Vals.take n t)
theorem Vals.drop : ∀ {xs : List V} {us : List Value} (n : Nat), Vals xs us → Vals (xs.drop n) (us.drop n)
  | _, _, 0, r => r
  | _, _, _ + 1, .nil => .nil
  | _, _, n + 1, .cons _ t => Vals.drop n t
theorem Vals.none_of : ∀ {xs : List V} {us : List Value} {i : Nat}, Vals xs us → xs[i]? = none → us[i]? = none := fun {xs us i} r e => by
  have h1 := r.length
  have h2 : xs.length ≤ i := List.getElem?_eq_none_iff.mp e
  exact List.getElem?_eq_none_iff.mpr (by omega)

def RelO : Option V → Option Value → Prop
  | some v, some u => RelV v u
  | none, none => True
  | _, _ => False
def KV {κ : Type} : List (κ × V) → List (κ × Value) → Prop := Paired fun (p : κ × V) (q : κ × Value) => p.1 = q.1 ∧ RelV p.2 q.2

/-- a key of a dict (00_mix): an int or a text -/
def kV : Key → V
  | .inl i => .int i
  | .inr x => .str x

/-- what stands at a tracked address -/
inductive HO where
  /-- a list -/
  | lst (xs : List V)
  /-- a tuple (never changes) -/
  | tup (xs : List V)
  /-- a dict whose keys are ints and texts; one whose keys are tuples of ints and texts (the empty one is both) -/
  | dK (kvs : List (Key × V)) | dT (kvs : List (List Key × V))
  /-- a set of ints: its members, its size -/
  | set (S : Int → Bool) (n : Nat)
  /-- an instance of the class at C, its dict at dx, its attributes -/
  | ins (C dx : Addr) (fs : List (Str × V))
  /-- the dict of the instance at x -/
  | own (x : Addr)
  /-- the dict of an exception -/
  | xd (fs : List (Str × V))
  /-- a bound method, f of x -/
  | met (f x : Addr)
  /-- a range object lo, lo + 1, .. below hi -/
  | rng (lo hi : Int)
  /-- a thing that is known to the object (the script; a dict while a loop walks it): read, never written while it is so -/
  | frz (o : Obj) (u : HO)
  /-- a code object's table -/
  | tbl (ps : Array Value)
  /-- any other thing, by what is true of its one object (a def of one's own: SetO a S n := HO.ext fun h => ..) -/
  | ext (φ : Heap → Prop)

abbrev Hp := Addr → Option HO
def upd (H : Hp) (a : Addr) (o : HO) : Hp := fun b => if b = a then some o else H b
theorem upd_same {H : Hp} {a : Addr} {o : HO} : upd H a o a = some o := by unfold upd; rw [if_pos rfl]
theorem upd_ne {H : Hp} {a b : Addr} {o : HO} (h : b ≠ a) : upd H a o b = H b := by unfold upd; rw [if_neg h]
theorem ne_of_none {H : Hp} {a b : Addr} {o : HO} (h : H a = some o) (h' : H b = none) : a ≠ b := by
  intro e; subst e; rw [h] at h'; cases h'

section
variable (P : Program) (w : World)
def ObjOk (H : Hp) (h : Heap) (a : Addr) : HO → Prop
  | .lst xs => xs.length ≤ sizeLine ∧ ∃ (its : List Value) (n : Nat), Vals xs its ∧ h.get? a = some { cls := .type "list", data := .seq its.toArray n }
  | .tup xs => xs.length ≤ sizeLine ∧ ∃ its : List Value, Vals xs its ∧ IsTup h a its.toArray
  | .dK kvs => kvs.length ≤ sizeLine ∧ (a == sysModules) = false ∧ ∃ vs, KV kvs vs ∧ h.DictOf (mixKind P w) a vs
  | .dT kvs => kvs.length ≤ sizeLine ∧ (a == sysModules) = false ∧ ∃ xs : List (List Key × Addr × Value),
      Paired (fun (p : List Key × V) (q : List Key × Addr × Value) => p.1 = q.1 ∧ H q.2.1 = some (.tup (p.1.map kV)) ∧ RelV p.2 q.2.2) kvs xs ∧
      ∃ o es ep, h.get? a = some o ∧ o.ExactDict ∧ o.data = .dict es ep ∧ es.toList = xs.map (entryOfKey (tupleKind (mixKind P w))) ∧ (xs.map (·.1)).Nodup
  | .set S n => h.SetOf (intKind P w) a S n
  | .ins C dx fs => H dx = some (.own a) ∧ fs.length ≤ 1000 ∧ dx ≠ a ∧ h.get? a = some (PySem.W.instObj C dx) ∧
      ∃ mA, h.Ns1 dx mA ∧ (∀ f, RelO (fs.lookup f) (mA f)) ∧ PySem.Within mA (fs.map (·.1))
  | .own _ => ∃ o, h.get? a = some o
  | .xd fs => ∃ mA, h.Ns1 a mA ∧ ∀ f, RelO (fs.lookup f) (mA f)
  | .rng lo hi => ∃ t u v, h.get? a = some { cls := .type "range", data := .fields #[.int lo t, .int hi u, .int 1 v] }
  | .frz o u => h.get? a = some o ∧ ObjOk H h a u
  | .tbl ps => h.get? a = some { cls := .none, data := .fields ps }
  | .met f x => h.get? a = some (PySem.W.methodObj (.ref f) (.ref x))
  | .ext φ => φ h ∧ (∃ o, h.get? a = some o) ∧ ∀ h1 h2 : Heap, φ h1 → (∀ o, h1.get? a = some o → h2.get? a = some o) → φ h2
/-- the abstract heap is held -/
def HOk (H : Hp) (h : Heap) : Prop := ∀ a o, H a = some o → ObjOk P w H h a o
end

section
variable {P : Program} {w : World} {H H' : Hp} {h h' : Heap} {a : Addr} {o : HO}
theorem ObjOk.lt (x : ObjOk P w H h a o) : a < h.objs.size := by
  cases o with
  | lst xs => obtain ⟨_, _, _, _, e⟩ := x; exact Heap.lt_size e
  | tup xs => obtain ⟨_, _, _, p⟩ := x; exact p.lt
  | dK kvs => obtain ⟨_, _, _, _, o, _, _, e, _⟩ := x; exact Heap.lt_size e
  | dT kvs => obtain ⟨_, _, _, _, o, _, _, e, _⟩ := x; exact Heap.lt_size e
  | set S n => obtain ⟨o, _, _, _, e, _⟩ := x; exact Heap.lt_size e
  | ins C dx fs => obtain ⟨_, _, _, e, _⟩ := x; exact Heap.lt_size e
  | own y => obtain ⟨_, e⟩ := x; exact Heap.lt_size e
  | xd fs => obtain ⟨_, ⟨_, _, _, e, _⟩, _⟩ := x; exact Heap.lt_size e
  | rng lo hi => obtain ⟨_, _, _, e⟩ := x; exact Heap.lt_size e
  | frz ob u => obtain ⟨e, _⟩ := x; exact Heap.lt_size e
  | tbl ps => exact Heap.lt_size (show h.get? a = some _ from x)
  | met f y => exact Heap.lt_size (show h.get? a = some _ from x)
  | ext φ => obtain ⟨_, ⟨_, e⟩, _⟩ := x; exact Heap.lt_size e
theorem Paired.mapP {α β : Type} {F G : α → β → Prop} : ∀ {l₁ : List α} {l₂ : List β}, Paired F l₁ l₂ → (∀ a b, F a b → G a b) → Paired G l₁ l₂
  | _, _, .nil, _ => .nil
  | _, _, .cons r t, f => .cons (f _ _ r) (Paired.mapP t f)
/-- what an object's description leans on: its own object, its own dict, the tuples -/
theorem ObjOk.stay (x : ObjOk P w H h a o) (k : ∀ b u, (b = a ∨ H b = some (.own a)) → h.get? b = some u → h'.get? b = some u)
    (ho : ∀ b, H b = some (.own a) → H' b = some (.own a)) (ht : ∀ b xs, H b = some (.tup xs) → H' b = some (.tup xs)) : ObjOk P w H' h' a o := by
  induction o with
  | lst xs => obtain ⟨z, its, n, r, e⟩ := x; exact ⟨z, its, n, r, k _ _ (.inl rfl) e⟩
  | tup xs => obtain ⟨z, its, r, ob, e, c⟩ := x; exact ⟨z, its, r, ob, k _ _ (.inl rfl) e, c⟩
  | dK kvs => obtain ⟨z, y, vs, r, ob, es, ep, e, c⟩ := x; exact ⟨z, y, vs, r, ob, es, ep, k _ _ (.inl rfl) e, c⟩
  | dT kvs =>
    obtain ⟨z, y, xs, r, ob, es, ep, e, c⟩ := x
    exact ⟨z, y, xs, Paired.mapP r fun p q z => ⟨z.1, ht _ _ z.2.1, z.2.2⟩, ob, es, ep, k _ _ (.inl rfl) e, c⟩
  | set S n => obtain ⟨ob, es, ep, t, e, c⟩ := x; exact ⟨ob, es, ep, t, k _ _ (.inl rfl) e, c⟩
  | ins C dx fs =>
    obtain ⟨d, z, ne, e, mA, ⟨od, es, ep, e2, c⟩, r⟩ := x
    exact ⟨ho _ d, z, ne, k _ _ (.inl rfl) e, mA, ⟨od, es, ep, k _ _ (.inr d) e2, c⟩, r⟩
  | own y => obtain ⟨ob, e⟩ := x; exact ⟨ob, k _ _ (.inl rfl) e⟩
  | xd fs => obtain ⟨mA, ⟨od, es, ep, e, c⟩, r⟩ := x; exact ⟨mA, ⟨od, es, ep, k _ _ (.inl rfl) e, c⟩, r⟩
  | rng lo hi => obtain ⟨t, u, v, e⟩ := x; exact ⟨t, u, v, k _ _ (.inl rfl) e⟩
  | frz ob u ih => obtain ⟨e, q⟩ := x; exact ⟨k _ _ (.inl rfl) e, ih q⟩
  | tbl ps =>
    have e : h.get? a = some { cls := .none, data := .fields ps } := x
    show h'.get? a = some { cls := .none, data := .fields ps }
    exact k a _ (.inl rfl) e
  | met f y =>
    have e : h.get? a = some (PySem.W.methodObj (.ref f) (.ref y)) := x
    show h'.get? a = some (PySem.W.methodObj (.ref f) (.ref y))
    exact k a _ (.inl rfl) e
  | ext φ => obtain ⟨p, ⟨o, e⟩, st⟩ := x; exact ⟨st _ _ p fun o q => k _ _ (.inl rfl) q, ⟨o, k _ _ (.inl rfl) e⟩, st⟩
theorem HOk.lt (x : HOk P w H h) (e : H a = some o) : a < h.objs.size := (x a o e).lt
theorem HOk.fresh (x : HOk P w H h) (e : h.objs.size ≤ a) : H a = none := by
  cases q : H a with
  | none => rfl
  | some u => exact absurd (Nat.lt_of_lt_of_le (x.lt q) e) (Nat.lt_irrefl _)
/-- every object of the heap is kept -/
theorem HOk.kept (x : HOk P w H h) (k : ∀ b u, h.get? b = some u → h'.get? b = some u) : HOk P w H h' := fun a o e =>
  (x a o e).stay (fun b u _ q => k b u q) (fun _ q => q) fun _ _ q => q
/-- a new object is laid and tracked -/
theorem HOk.laid (x : HOk P w H h) (k : ∀ b u, h.get? b = some u → h'.get? b = some u) (hp : h.objs.size ≤ a) (new : ObjOk P w (upd H a o) h' a o) : HOk P w (upd H a o) h' := fun b u e => by
  have hn := x.fresh hp
  by_cases hb : b = a
  · subst hb; rw [upd_same] at e; cases e; exact new
  · rw [upd_ne hb] at e
    exact (x b u e).stay (fun c v _ q => k c v q) (fun c q => by rw [upd_ne (ne_of_none q hn)]; exact q) fun c xs q => by rw [upd_ne (ne_of_none q hn)]; exact q
end

/-- what may be read as u: it is u, or a known u -/
def Rd (H : Hp) (a : Addr) (u : HO) : Prop := H a = some u ∨ ∃ o, H a = some (.frz o u)
theorem Rd.of {H : Hp} {a : Addr} {u : HO} (h : H a = some u) : Rd H a u := .inl h
theorem Rd.ok {P : Program} {w : World} {H : Hp} {h : Heap} {a : Addr} {u : HO} (r : Rd H a u) (x : HOk P w H h) : ObjOk P w H h a u := by
  rcases r with r | ⟨o, r⟩
  · exact x a u r
  · obtain ⟨_, q⟩ := x a _ r
    exact q
/-- what may be written -/
def Mut : Option HO → Prop
  | some (.lst _) => True
  | some (.dK _) => True
  | some (.dT _) => True
  | some (.set _ _) => True
  | some (.ins _ _ _) => True
  | some (.ext _) => True
  | _ => False
section
variable {P : Program} {w : World} {H : Hp} {h h' : Heap} {x e : Addr} {o' : HO}
/-- the object at e is changed: x itself, or the dict of the instance x -/
theorem HOk.write (ok : HOk P w H h) (mu : Mut (H x)) (he : e = x ∨ H e = some (.own x)) (k : ∀ b u, b ≠ e → h.get? b = some u → h'.get? b = some u) (heo : ∃ u, h'.get? e = some u)
    (new : ObjOk P w (upd H x o') h' x o') : HOk P w (upd H x o') h' := fun b u q => by
  have nown : ∀ c y, H c = some (.own y) → c ≠ x := fun c y r z => by subst z; rw [r] at mu; exact mu
  have ntup : ∀ c xs, H c = some (.tup xs) → c ≠ x := fun c xs r z => by subst z; rw [r] at mu; exact mu
  by_cases hb : b = x
  · subst hb; rw [upd_same] at q; cases q; exact new
  · rw [upd_ne hb] at q
    by_cases hbe : b = e
    · have q' : H b = some (.own x) := by
        rcases he with z | z
        · exact absurd (hbe.trans z) hb
        · rw [hbe]; exact z
      rw [q] at q'; cases q'
      obtain ⟨v, hv⟩ := heo
      exact ⟨v, by rw [hbe]; exact hv⟩
    · refine (ok b u q).stay (fun c v hc r => k c v ?_ r) (fun c r => by rw [upd_ne (nown c b r)]; exact r) fun c xs r => by rw [upd_ne (ntup c xs r)]; exact r
      rcases hc with rfl | hc
      · exact hbe
      · rintro rfl
        rcases he with z | z
        · exact nown c b hc z
        · rw [hc] at z; cases z; exact hb rfl
end

/-! ### kept unless tracked; of the frames at fs (the callers') the slots may change (an exception that passes writes there); of the records at ex (iterators) nothing is said -/
structure Un (fs ex : List Addr) (H H' : Hp) (h h' : Heap) : Prop where
  keep : ∀ b o, h.get? b = some o → H b = none → b ∉ fs → b ∉ ex → h'.get? b = some o
  slot : ∀ b o, h.get? b = some o → H b = none → b ∈ fs → b ∉ ex → ∃ sl, h'.get? b = some { o with slots := sl }
  free : ∀ b o, h.get? b = some o → H b = none → b ∉ ex → H' b = none
  there : ∀ b o, h.get? b = some o → b ∉ ex → ∃ o', h'.get? b = some o'
  tups : ∀ b xs, H b = some (.tup xs) → H' b = some (.tup xs)
  frzs : ∀ b o u, H b = some (.frz o u) → H' b = some (.frz o u)
  tbls : ∀ b ps, H b = some (.tbl ps) → ∃ more, H' b = some (.tbl (ps ++ more))
section
variable {fs fs' ex ex' : List Addr} {H H1 H2 : Hp} {h h1 h2 h' : Heap} {a x e : Addr} {o : HO}
theorem Un.any (u : Un fs ex H H1 h h1) {b : Addr} {ob : Obj} (q : h.get? b = some ob) (n : H b = none) (hx : b ∉ ex) : ∃ sl, h1.get? b = some { ob with slots := sl } := by
  by_cases hb : b ∈ fs
  · exact u.slot b ob q n hb hx
  · exact ⟨ob.slots, u.keep b ob q n hb hx⟩
theorem Un.trans (a : Un fs ex H H1 h h1) (b : Un fs ex H1 H2 h1 h2) : Un fs ex H H2 h h2 where
  keep := fun c ob q n hc hx => b.keep c ob (a.keep c ob q n hc hx) (a.free c ob q n hx) hc hx
  slot := fun c ob q n hc hx => by
    obtain ⟨sl, e1⟩ := a.slot c ob q n hc hx
    obtain ⟨sl', e2⟩ := b.slot c _ e1 (a.free c ob q n hx) hc hx
    exact ⟨sl', e2⟩
  free := fun c ob q n hx => by
    obtain ⟨o', e1⟩ := a.there c ob q hx
    exact b.free c o' e1 (a.free c ob q n hx) hx
  there := fun c ob q hx => by
    obtain ⟨o', e1⟩ := a.there c ob q hx
    exact b.there c o' e1 hx
  tups := fun c xs q => b.tups c xs (a.tups c xs q)
  frzs := fun c ob xs q => b.frzs c ob xs (a.frzs c ob xs q)
  tbls := fun c ps q => by
    obtain ⟨m1, e1⟩ := a.tbls c ps q
    obtain ⟨m2, e2⟩ := b.tbls c _ e1
    exact ⟨m1 ++ m2, by rw [e2, Array.append_assoc]⟩
theorem Un.kept (k : ∀ b u, h.get? b = some u → h'.get? b = some u) : Un fs ex H H h h' :=
  ⟨fun b ob q _ _ _ => k b ob q, fun b ob q _ _ _ => ⟨ob.slots, k b ob q⟩, fun _ _ _ n _ => n, fun b ob q _ => ⟨ob, k b ob q⟩, fun _ _ q => q, fun _ _ _ q => q, fun _ ps q => ⟨#[], by rw [q]; simp⟩⟩
theorem Un.refl : Un fs ex H H h h := Un.kept fun _ _ q => q
theorem Un.laid (k : ∀ b u, h.get? b = some u → h'.get? b = some u) (hp : h.objs.size ≤ a) (hn : H a = none) : Un fs ex H (upd H a o) h h' where
  keep := fun b u q _ _ _ => k b u q
  slot := fun b u q _ _ _ => ⟨u.slots, k b u q⟩
  free := fun b u q n _ => by rw [upd_ne (Nat.ne_of_lt (Nat.lt_of_lt_of_le (Heap.lt_size q) hp))]; exact n
  there := fun b u q _ => ⟨u, k b u q⟩
  tups := fun b xs q => by rw [upd_ne (ne_of_none q hn)]; exact q
  frzs := fun b u xs q => by rw [upd_ne (ne_of_none q hn)]; exact q
  tbls := fun b ps q => ⟨#[], by rw [upd_ne (ne_of_none q hn), q]; simp⟩
theorem Un.write (mu : Mut (H x)) (he : e = x ∨ H e = some (.own x)) (k : ∀ b u, b ≠ e → h.get? b = some u → h'.get? b = some u) (heo : ∃ u, h'.get? e = some u) : Un fs ex H (upd H x o) h h' := by
  have hx : ∀ b, H b = none → b ≠ x := fun b n z => by subst z; rw [n] at mu; exact mu
  have hb : ∀ b, H b = none → b ≠ e := fun b n z => by
    subst z
    rcases he with r | r
    · exact hx b n r
    · rw [n] at r; cases r
  have hm : ∀ b u, H b = some u → ¬ Mut (some u) → b ≠ x := fun b u q nm z => by subst z; rw [q] at mu; exact nm mu
  refine ⟨fun b u q n _ _ => k b u (hb b n) q, fun b u q n _ _ => ⟨u.slots, k b u (hb b n) q⟩, fun b u q n _ => by rw [upd_ne (hx b n)]; exact n, fun b u q _ => ?_,
    fun b xs q => by rw [upd_ne (hm b _ q fun z => z)]; exact q, fun b u xs q => by rw [upd_ne (hm b _ q fun z => z)]; exact q, fun b ps q => ⟨#[], by rw [upd_ne (hm b _ q fun z => z), q]; simp⟩⟩
  by_cases hbe : b = e
  · subst hbe; exact heo
  · exact ⟨u, k b u hbe q⟩
theorem Un.mono (u : Un fs ex H H1 h h1) (hs : ∀ b ∈ fs, b ∈ fs') (hx : ∀ b ∈ ex, b ∈ ex') : Un fs' ex' H H1 h h1 :=
  ⟨fun b ob q n hb he => u.keep b ob q n (fun z => hb (hs b z)) fun z => he (hx b z), fun _ _ q n _ he => u.any q n fun z => he (hx _ z), fun b ob q n he => u.free b ob q n fun z => he (hx b z), fun b ob q he => u.there b ob q fun z => he (hx b z), u.tups, u.frzs, u.tbls⟩
end

/-! ### the heap without what is tracked -/
def trk (h : Heap) (H : Hp) : List Addr := (List.range h.objs.size).filter fun a => (H a).isSome
def hidT (h : Heap) (H : Hp) : Heap := PySem.W.hideAll h (trk h H)
theorem hidT_size (h : Heap) (H : Hp) : (hidT h H).objs.size = h.objs.size := PySem.W.hideAll_size _ _
theorem hidT_get {h : Heap} {H : Hp} {b : Addr} {o : Obj} (e : h.get? b = some o) (n : H b = none) : (hidT h H).get? b = some o :=
  PySem.W.hideAll_get _ e fun hm => by
    have q : (H b).isSome = true := (List.mem_filter.mp hm).2
    rw [n] at q; simp at q
theorem of_hidT {h : Heap} {H : Hp} {b : Addr} {o : Obj} (e : (hidT h H).get? b = some o) : h.get? b = some o ∧ H b = none := by
  have e' : h.get? b = some o := PySem.W.of_hideAll (trk h H) e
  refine ⟨e', ?_⟩
  cases q : H b with
  | none => rfl
  | some x =>
    have hm : b ∈ trk h H := List.mem_filter.mpr ⟨List.mem_range.mpr (Heap.lt_size e'), by simp [q]⟩
    have z : (hidT h H).get? b = none := PySem.W.hideAll_none (trk h H) hm
    rw [z] at e; cases e

/-! ### OpenK's ledger, filled with every new object but one -/
def allNews (g h : Heap) (L : Addr) : List (Addr × Obj) := (List.range h.objs.size).filterMap fun a => if a = L ∨ (g.get? a).isSome = true then none else (h.get? a).map fun o => (a, o)
def rest (g h : Heap) (L d : Addr) : List (Addr × Obj) := (allNews g h L).filter fun p => decide (p.1 ≠ d)
end L2

namespace L2
open PySem PySem.Spec PyProof.Rows

/-- the module's facts, over the base: the heap at the law's entry without what is tracked there -/
structure Mod (K : PySem.W.Frag) (mg : Str → Option Value) (base : Heap) : Prop where
  kin : K.In base
  glob : base.Ns mainGlobals mg
  blt : ∃ mb, base.Ns builtinsNs mb ∧ ∀ x : Str, x ≠ "__name__" → mb x = bootBuiltins x
  nolimit : base.NoLimit

/-- the context: a def's body (or a comprehension's block) running. base: fixed through the whole law; s₀, H₀: the entry; outer: the frames whose slots others may change (a def's callers); stack: all frames that run;
   ex: iterators that were made ahead of the entry and are walked here (a comprehension's); fn: the names whose cells were made at the entry (a def: all; a comprehension's block: its own); calm: not within an except suite; pn: pins that every state bears; xe: what is wanted of an exception that leaves the code -/
structure Cx where
  prog : Program
  w : World
  K : PySem.W.Frag
  mg : Str → Option Value
  base : Heap
  A : Around
  N : List Str
  s₀ : Shared
  H₀ : Hp
  env : Env
  outer : List Env
  stack : List Env
  ex : List Addr
  fn : Str → Bool
  calm : Bool
  pn : List (Addr × Obj)
  xe : Value → Shared → Prop
/-- the callers' frames -/
def frs (l : List Env) : List Addr := l.filterMap (·.frame)
abbrev Cx.fs (X : Cx) : List Addr := frs X.outer

def Vis (sc : Scope) (x : Str) : Prop := sc.names.lookup x = some .local ∨ sc.names.lookup x = some .cell ∨ sc.names.lookup x = some .free
def Loc (sc : Scope) (x : Str) : Prop := sc.names.lookup x = some .local ∨ sc.names.lookup x = some .cell
def Look (env : Env) (h : Heap) (m : Str → Option Value) (x : Str) (u : Value) : Prop :=
  (env.kindOf x = some .local ∧ m x = some u) ∨ ((env.kindOf x = some .cell ∨ env.kindOf x = some .free) ∧ ∃ c, env.cells.lookup x = some c ∧ h.IsCell c (some u))

structure Cx.Ok (X : Cx) : Prop where
  mod : Mod X.K X.mg X.base
  kind : X.env.scope.kind = .function
  glob : X.env.globals = mainGlobals
  blt : X.env.builtins = builtinsNs
  above : X.s₀.heap.objs.size ≤ X.env.locals
  inj : ∀ x y c, X.env.cells.lookup x = some c → X.env.cells.lookup y = some c → x = y
  has : ∀ x, (X.env.kindOf x = some .cell ∨ X.env.kindOf x = some .free) → ∃ c, X.env.cells.lookup x = some c
  cab : ∀ x c, X.fn x = true → X.env.cells.lookup x = some c → X.s₀.heap.objs.size ≤ c
  hd : X.calm = true → X.A.handled = none
  frames : X.A.frames = some X.stack
  stk : X.stack = X.outer ∨ (X.stack = X.env :: X.outer ∧ X.env.frame = some X.env.locals)
  exf : ∀ b ∈ X.ex, b ≠ X.env.locals ∧ ∀ x c, X.env.cells.lookup x = some c → c ≠ b
  bs : ∀ b o, X.base.get? b = some o → X.s₀.heap.get? b = some o ∧ X.H₀ b = none
  bsz : X.base.objs.size ≤ X.s₀.heap.objs.size
  noex : ∀ b o, X.base.get? b = some o → b ∉ X.ex
  exfs : ∀ b ∈ X.ex, b ∉ X.fs
  funs : X.s₀.heap.FunFrames X.base X.outer
  frf : ∀ b ∈ X.fs, X.H₀ b = none

structure Inv (X : Cx) (pins : List (Addr × Obj)) (σ : List (Option V)) (H : Hp) (s : Shared) : Prop where
  ok : X.Ok
  os : s.os = X.s₀.os
  bare : AllBare s.gens
  base : Un X.fs X.ex X.H₀ H X.s₀.heap s.heap
  loc : ∃ m, s.heap.Ns X.env.locals m ∧ ∀ (i : Nat) (x : Str) (v : V), X.N[i]? = some x → σ[i]? = some (some v) → Vis X.env.scope x → ∃ u, RelV v u ∧ Look X.env s.heap m x u
  cell : ∀ x c, X.env.cells.lookup x = some c → ∃ v, s.heap.IsCell c v
  free : H X.env.locals = none
  freeC : ∀ x c, X.env.cells.lookup x = some c → H c = none
  pin : ∀ p ∈ X.pn ++ pins, s.heap.get? p.1 = some p.2 ∧ H p.1 = none ∧ p.1 ≠ X.env.locals ∧ p.1 ∉ X.fs ∧ ∀ v, p.2.data ≠ .cell v
  hok : HOk X.prog X.w H s.heap
  len : σ.length = X.N.length
  tk : 0 < X.s₀.toks ∧ X.s₀.toks ≤ s.toks

section
variable {X : Cx} {pins : List (Addr × Obj)} {σ : List (Option V)} {H H' : Hp} {s : Shared} {h' : Heap}

theorem Cx.Ok.nofr (ok : X.Ok) {b : Addr} {o : Obj} (e : X.base.get? b = some o) : b ∉ X.fs := fun hb => by
  have := (ok.funs.mem hb).1
  rw [e] at this; cases this
theorem Inv.bs (I : Inv X pins σ H s) : ∀ b o, X.base.get? b = some o → s.heap.get? b = some o ∧ H b = none := fun b o e =>
  ⟨I.base.keep b o (I.ok.bs b o e).1 (I.ok.bs b o e).2 (I.ok.nofr e) (I.ok.noex b o e), I.base.free b o (I.ok.bs b o e).1 (I.ok.bs b o e).2 (I.ok.noex b o e)⟩
theorem Inv.bk (I : Inv X pins σ H s) : ∀ b o, X.base.get? b = some o → s.heap.get? b = some o := fun b o e => (I.bs b o e).1
theorem Inv.mod (I : Inv X pins σ H s) : Mod X.K X.mg X.base := I.ok.mod
theorem Inv.kIn (I : Inv X pins σ H s) : X.K.In s.heap := I.ok.mod.kin.keeps I.bk
theorem Inv.nolimit (I : Inv X pins σ H s) : s.heap.NoLimit := I.ok.mod.nolimit.keeps I.bk
/-- the frame over the base: for OpenK's rules (K.In X.base is I.mod.kin) -/
theorem Inv.fr (I : Inv X pins σ H s) : ∃ m, Fr X.base X.env.locals s.heap m :=
  let ⟨m, hn, _⟩ := I.loc
  ⟨m, hn, I.bk, Nat.le_trans I.ok.bsz I.ok.above⟩
theorem Inv.lt (I : Inv X pins σ H s) : X.env.locals < s.heap.objs.size := let ⟨_, hn, _⟩ := I.loc; hn.lt
theorem Inv.sz (I : Inv X pins σ H s) : X.s₀.heap.objs.size ≤ s.heap.objs.size := Nat.le_trans I.ok.above (Nat.le_of_lt I.lt)
theorem Inv.nofs (I : Inv X pins σ H s) {a : Addr} (h : s.heap.objs.size ≤ a) : a ∉ X.fs := fun hb => by
  obtain ⟨_, o, ho, _⟩ := I.ok.funs.mem hb
  exact absurd (Nat.lt_of_lt_of_le (Heap.lt_size ho) (Nat.le_trans I.sz h)) (Nat.lt_irrefl _)
theorem Inv.cne (I : Inv X pins σ H s) : ∀ x c, X.env.cells.lookup x = some c → c ≠ X.env.locals := fun x c e z => by
  obtain ⟨v, o, ho, hd⟩ := I.cell x c e
  obtain ⟨m, ⟨o', es, ep, ho', hd', _⟩, _⟩ := I.loc
  rw [z, ho'] at ho; cases ho; rw [hd'] at hd; cases hd
theorem Inv.funs (I : Inv X pins σ H s) : s.heap.FunFrames X.base X.outer := by
  have all : ∀ (l : List Env), (∀ b ∈ frs l, b ∈ X.fs) → X.s₀.heap.FunFrames X.base l → s.heap.FunFrames X.base l := by
    intro l
    induction l with
    | nil => intro _ _; trivial
    | cons env r ih =>
      intro hs hl
      obtain ⟨hk, ⟨L, o, hf, hn, ho, hd⟩, hr⟩ := hl
      have hL : L ∈ X.fs := hs L (by unfold frs; rw [List.filterMap_cons, hf]; exact List.mem_cons_self)
      obtain ⟨sl, e⟩ := I.base.slot L o ho (I.ok.frf L hL) hL fun z => I.ok.exfs L z hL
      exact ⟨hk, ⟨L, _, hf, hn, e, hd⟩, ih (fun b hb => hs b (by unfold frs; rw [List.filterMap_cons, hf]; exact List.mem_cons_of_mem _ hb)) hr⟩
  exact all X.outer (fun _ hb => hb) I.ok.funs

/-- the frames that run, for a call -/
theorem Inv.stack (I : Inv X pins σ H s) : s.heap.FunFrames X.base X.stack := by
  rcases I.ok.stk with e | ⟨e, hf⟩
  · rw [e]; exact I.funs
  · rw [e]
    obtain ⟨m, hn, _⟩ := I.loc
    refine .cons (by rw [I.ok.kind]; decide) hf hn ?_ I.funs
    exact Heap.get?_none_of_le (Nat.le_trans I.ok.bsz I.ok.above)
theorem Inv.stkSub (I : Inv X pins σ H s) : ∀ b ∈ frs X.stack, b ∈ X.env.locals :: X.fs := fun b hb => by
  rcases I.ok.stk with e | ⟨e, hf⟩
  · rw [e] at hb; exact List.mem_cons_of_mem _ hb
  · rw [e] at hb
    unfold frs at hb
    rw [List.filterMap_cons, hf] at hb
    exact hb
theorem Inv.stkFree (I : Inv X pins σ H s) : ∀ b ∈ frs X.stack, H b = none := fun b hb => by
  rcases List.mem_cons.mp (I.stkSub b hb) with e | hb
  · rw [e]; exact I.free
  · obtain ⟨_, o, ho, _⟩ := I.ok.funs.mem hb
    exact I.base.free b o ho (I.ok.frf b hb) fun z => I.ok.exfs b z hb

/-- THE STEP: the untracked objects but the frame and the records at ch are kept (the callers' frames up to slots), the frame's map is kept, the new abstract heap is held -/
theorem Inv.step {g' : Array GenState} {t' : Nat} {d' : Drawn} {ch : List Addr} (I : Inv X pins σ H s)
    (hch : ∀ b ∈ ch, (b ∈ X.ex ∨ X.s₀.heap.objs.size ≤ b) ∧ b ≠ X.env.locals ∧ (∀ x c, X.env.cells.lookup x = some c → c ≠ b) ∧ ∀ p ∈ X.pn ++ pins, p.1 ≠ b)
    (keep : ∀ b o, b ≠ X.env.locals → b ∉ X.fs → b ∉ ch → s.heap.get? b = some o → H b = none → h'.get? b = some o)
    (slot : ∀ b o, b ≠ X.env.locals → b ∈ X.fs → b ∉ ch → s.heap.get? b = some o → H b = none → ∃ sl, h'.get? b = some { o with slots := sl }) (free : ∀ b o, b ∉ ch → s.heap.get? b = some o → H b = none → H' b = none)
    (there : ∀ b o, b ∉ ch → s.heap.get? b = some o → ∃ o', h'.get? b = some o')
    (tups : ∀ b xs, H b = some (.tup xs) → H' b = some (.tup xs)) (frzs : ∀ b o u, H b = some (.frz o u) → H' b = some (.frz o u)) (tbls : ∀ b ps, H b = some (.tbl ps) → ∃ more, H' b = some (.tbl (ps ++ more)))
    (ns : ∀ m, s.heap.Ns X.env.locals m → h'.Ns X.env.locals m) (hok : HOk X.prog X.w H' h') (hg : AllBare g') (ht : s.toks ≤ t' := by first | exact Nat.le_refl _ | exact Nat.le_succ _ | assumption | omega) :
    Inv X pins σ H' { s with heap := h', gens := g', drawn := d', toks := t' } := by
  have neL : ∀ b o, X.s₀.heap.get? b = some o → b ≠ X.env.locals := fun b o e => Nat.ne_of_lt (Nat.lt_of_lt_of_le (Heap.lt_size e) I.ok.above)
  have neC : ∀ b o, X.s₀.heap.get? b = some o → b ∉ X.ex → b ∉ ch := fun b o e hx hb => by
    rcases (hch b hb).1 with z | z
    · exact hx z
    · exact absurd (Nat.lt_of_lt_of_le (Heap.lt_size e) z) (Nat.lt_irrefl _)
  have cellK : ∀ x c, X.env.cells.lookup x = some c → ∀ v, s.heap.IsCell c v → h'.IsCell c v := fun x c e v ⟨o, ho, hd⟩ => by
    have nch : c ∉ ch := fun z => (hch c z).2.2.1 x c e rfl
    by_cases hc : c ∈ X.fs
    · obtain ⟨sl, q⟩ := slot c o (I.cne x c e) hc nch ho (I.freeC x c e)
      exact ⟨_, q, hd⟩
    · exact ⟨o, keep c o (I.cne x c e) hc nch ho (I.freeC x c e), hd⟩
  refine ⟨I.ok, I.os, hg, ⟨fun b o e n hb hx => ?_, fun b o e n hb hx => ?_, fun b o e n hx => ?_, fun b o e hx => ?_, fun b xs e => tups b xs (I.base.tups b xs e), fun b o xs e => frzs b o xs (I.base.frzs b o xs e), fun b ps e => ?_⟩, ?_, fun x c e => ?_, ?_, fun x c e => ?_, fun p hp => ?_, hok, I.len, ⟨I.tk.1, Nat.le_trans I.tk.2 ht⟩⟩
  · exact keep b o (neL b o e) hb (neC b o e hx) (I.base.keep b o e n hb hx) (I.base.free b o e n hx)
  · obtain ⟨sl, e1⟩ := I.base.slot b o e n hb hx
    obtain ⟨sl', e2⟩ := slot b _ (neL b o e) hb (neC b o e hx) e1 (I.base.free b o e n hx)
    exact ⟨sl', e2⟩
  · obtain ⟨o', e1⟩ := I.base.there b o e hx
    exact free b o' (neC b o e hx) e1 (I.base.free b o e n hx)
  · obtain ⟨o', e1⟩ := I.base.there b o e hx
    exact there b o' (neC b o e hx) e1
  · obtain ⟨m1, e1⟩ := I.base.tbls b ps e
    obtain ⟨m2, e2⟩ := tbls b _ e1
    exact ⟨m1 ++ m2, by rw [e2, Array.append_assoc]⟩
  · obtain ⟨m, hn, hl⟩ := I.loc
    refine ⟨m, ns m hn, fun i x v e1 e2 e3 => ?_⟩
    obtain ⟨u, r, l⟩ := hl i x v e1 e2 e3
    refine ⟨u, r, ?_⟩
    rcases l with l | ⟨k, c, e, z⟩
    · exact .inl l
    · exact .inr ⟨k, c, e, cellK x c e _ z⟩
  · obtain ⟨v, z⟩ := I.cell x c e
    exact ⟨v, cellK x c e v z⟩
  · obtain ⟨m, ⟨o, _, _, ho, _⟩, _⟩ := I.loc
    exact free _ o (fun z => (hch _ z).2.1 rfl) ho I.free
  · obtain ⟨v, o, ho, hd⟩ := I.cell x c e
    exact free c o (fun z => (hch c z).2.2.1 x c e rfl) ho (I.freeC x c e)
  · obtain ⟨e, n, ne, nf, d⟩ := I.pin p hp
    have nch : p.1 ∉ ch := fun z => (hch p.1 z).2.2.2 p hp rfl
    exact ⟨keep p.1 p.2 ne nf nch e n, free p.1 p.2 nch e n, ne, nf, d⟩
/-- .. where the frame's own object is kept too -/
theorem Inv.un {t' : Nat} (I : Inv X pins σ H s) (u : Un X.fs [] H H' s.heap h') (hok : HOk X.prog X.w H' h') (ht : s.toks ≤ t' := by first | exact Nat.le_refl _ | exact Nat.le_succ _ | assumption | omega) : Inv X pins σ H' { s with heap := h', toks := t' } := by
  obtain ⟨m, ⟨o, es, ep, ho, r⟩, _⟩ := id I.loc
  obtain ⟨sl, hL⟩ := u.any ho I.free (by simp)
  exact I.step (g' := s.gens) (d' := s.drawn) (ch := []) (fun _ z => nomatch z) (fun b o _ hb _ e n => u.keep b o e n hb (by simp)) (fun b o _ hb _ e n => u.slot b o e n hb (by simp)) (fun b o _ e n => u.free b o e n (by simp)) (fun b o _ e => u.there b o e (by simp)) u.tups u.frzs u.tbls (fun m' hm => by
    obtain ⟨o', es', ep', ho', r'⟩ := hm
    rw [ho] at ho'; cases ho'
    exact ⟨_, es', ep', hL, r'⟩) hok I.bare ht
/-- behind a call (or a comprehension's block): the slots of this frame may have changed too, the records at ch may have turned -/
theorem Inv.call {g' : Array GenState} {t' : Nat} {d' : Drawn} {ch : List Addr} (I : Inv X pins σ H s) (u : Un (frs X.stack) ch H H' s.heap h') (hok : HOk X.prog X.w H' h') (hg : AllBare g')
    (hch : ∀ b ∈ ch, (b ∈ X.ex ∨ X.s₀.heap.objs.size ≤ b) ∧ b ≠ X.env.locals ∧ (∀ x c, X.env.cells.lookup x = some c → c ≠ b) ∧ ∀ p ∈ X.pn ++ pins, p.1 ≠ b) (ht : s.toks ≤ t' := by first | exact Nat.le_refl _ | exact Nat.le_succ _ | assumption | omega) :
    Inv X pins σ H' { s with heap := h', gens := g', drawn := d', toks := t' } := by
  obtain ⟨m, ⟨o, es, ep, ho, r⟩, _⟩ := id I.loc
  obtain ⟨sl, hL⟩ := u.any ho I.free fun z => (hch _ z).2.1 rfl
  exact I.step (ch := ch) hch (fun b o hL hb hc e n => u.keep b o e n (fun z => (List.mem_cons.mp (I.stkSub b z)).elim hL hb) hc) (fun b o _ _ hc e n => u.any e n hc) (fun b o hc e n => u.free b o e n hc) (fun b o hc e => u.there b o e hc) u.tups u.frzs u.tbls (fun m' hm => by
    obtain ⟨o', es', ep', ho', r'⟩ := hm
    rw [ho] at ho'; cases ho'
    exact ⟨_, es', ep', hL, r'⟩) hok hg ht
/-- an untracked record of ours (an iterator) has turned -/
theorem Inv.turned {t' : Nat} {it : Addr} (I : Inv X pins σ H s) (k : ∀ b o, b ≠ it → s.heap.get? b = some o → h'.get? b = some o) (hn : H it = none) (hL : it ≠ X.env.locals)
    (h1 : it ∈ X.ex ∨ X.s₀.heap.objs.size ≤ it) (h2 : ∀ x c, X.env.cells.lookup x = some c → c ≠ it) (h3 : ∀ p ∈ X.pn ++ pins, p.1 ≠ it) (ht : s.toks ≤ t' := by first | exact Nat.le_refl _ | exact Nat.le_succ _ | assumption | omega) : Inv X pins σ H { s with heap := h', toks := t' } := by
  have nit : ∀ b u, H b = some u → b ≠ it := fun b u e z => by rw [z, hn] at e; cases e
  refine I.step (g' := s.gens) (d' := s.drawn) (ch := [it]) (fun b hb => ?_) (fun b o _ _ hc e _ => k b o (fun z => hc (by simp [z])) e) (fun b o _ _ hc e _ => ⟨o.slots, k b o (fun z => hc (by simp [z])) e⟩) (fun _ _ _ _ n => n)
    (fun b o hc e => ⟨o, k b o (fun z => hc (by simp [z])) e⟩) (fun _ _ e => e) (fun _ _ _ e => e) (fun b ps e => ⟨#[], by rw [e]; simp⟩) (fun m hm => ?_) (fun b u e => ?_) I.bare ht
  · have e : b = it := by simpa using hb
    subst e
    exact ⟨h1, hL, h2, h3⟩
  · obtain ⟨o, es, ep, ho, r⟩ := hm
    exact ⟨o, es, ep, k _ o (Ne.symm hL) ho, r⟩
  · refine (I.hok b u e).stay (fun c v hc q => k c v ?_ q) (fun _ q => q) fun _ _ q => q
    rcases hc with z | z
    · rw [z]; exact nit b u e
    · exact nit c _ z
theorem Inv.tok (I : Inv X pins σ H s) (t : Nat) (ht : s.toks ≤ t := by first | exact Nat.le_refl _ | exact Nat.le_succ _ | assumption | omega) : Inv X pins σ H { s with toks := t } := I.un (h' := s.heap) (t' := t) Un.refl I.hok ht
/-- all objects kept -/
theorem Inv.kept {t' : Nat} (I : Inv X pins σ H s) (k : ∀ b u, s.heap.get? b = some u → h'.get? b = some u) (ht : s.toks ≤ t' := by first | exact Nat.le_refl _ | exact Nat.le_succ _ | assumption | omega) : Inv X pins σ H { s with heap := h', toks := t' } := I.un (Un.kept k) (I.hok.kept k) ht
/-- a new object laid and tracked -/
theorem Inv.laid {a : Addr} {o : HO} {t' : Nat} (I : Inv X pins σ H s) (k : ∀ b u, s.heap.get? b = some u → h'.get? b = some u) (hp : s.heap.objs.size ≤ a) (new : ObjOk X.prog X.w (upd H a o) h' a o) (ht : s.toks ≤ t' := by first | exact Nat.le_refl _ | exact Nat.le_succ _ | assumption | omega) :
    Inv X pins σ (upd H a o) { s with heap := h', toks := t' } := I.un (Un.laid k hp (I.hok.fresh hp)) (I.hok.laid k hp new) ht
/-- an object written -/
theorem Inv.write {x e : Addr} {o : HO} {t' : Nat} (I : Inv X pins σ H s) (mu : Mut (H x)) (he : e = x ∨ H e = some (.own x)) (k : ∀ b u, b ≠ e → s.heap.get? b = some u → h'.get? b = some u) (heo : ∃ u, h'.get? e = some u)
    (new : ObjOk X.prog X.w (upd H x o) h' x o) (ht : s.toks ≤ t' := by first | exact Nat.le_refl _ | exact Nat.le_succ _ | assumption | omega) : Inv X pins σ (upd H x o) { s with heap := h', toks := t' } := I.un (Un.write mu he k heo) (I.hok.write mu he k heo new) ht
/-- forgetting slots, pins -/
theorem Inv.weak {σ' : List (Option V)} (I : Inv X pins σ H s) (hl : σ'.length = σ.length) (w : ∀ (i : Nat) v, σ'[i]? = some (some v) → σ[i]? = some (some v)) : Inv X pins σ' H s :=
  ⟨I.ok, I.os, I.bare, I.base, let ⟨m, hn, hl'⟩ := I.loc; ⟨m, hn, fun i x v e1 e2 e3 => hl' i x v e1 (w i v e2) e3⟩, I.cell, I.free, I.freeC, I.pin, I.hok, hl.trans I.len, I.tk⟩
theorem Inv.pins_of {pins' : List (Addr × Obj)} (I : Inv X pins σ H s) (h : ∀ p ∈ pins', s.heap.get? p.1 = some p.2 ∧ H p.1 = none ∧ p.1 ≠ X.env.locals ∧ p.1 ∉ X.fs ∧ ∀ v, p.2.data ≠ .cell v) : Inv X pins' σ H s :=
  ⟨I.ok, I.os, I.bare, I.base, I.loc, I.cell, I.free, I.freeC, fun p hp => (List.mem_append.mp hp).elim (fun z => I.pin p (List.mem_append_left _ z)) (h p), I.hok, I.len, I.tk⟩

theorem nodup_ix {N : List Str} (hN : N.Nodup) {i j : Nat} {x : Str} (a : N[i]? = some x) (b : N[j]? = some x) : i = j := by
  obtain ⟨h1, e1⟩ := List.getElem?_eq_some_iff.mp a
  obtain ⟨h2, e2⟩ := List.getElem?_eq_some_iff.mp b
  exact (List.getElem_inj hN).mp (e1.trans e2.symm)

/-- a name is stored; what changed -/
theorem store_ok2 {M : Model} {A : Around} {E : Value → Shared → Prop} {i : Nat} {x : Str} {v : V} {u : Value} {Q : Unit → Shared → Prop} (I : Inv X pins σ H s) (hN : X.N.Nodup) (hi : X.N[i]? = some x) (hx : Loc X.env.scope x) (r : RelV v u)
    (h : ∀ s', Inv X pins (σ.set i (some v)) H s' → (∃ a, Heap.SameBut a s.heap s'.heap ∧ (a = X.env.locals ∨ X.env.cells.lookup x = some a)) → Q () s') (hf : X.fn x = true ∨ X.env.scope.names.lookup x = some .local := by first | exact .inl rfl | exact .inr rfl | assumption) : wpAny M A (storeName X.env x u) Q E s := by
  obtain ⟨m, hn, hl⟩ := id I.loc
  have hcls : (X.env.scope.kind == .class || (X.env.scope.kind == .module && X.env.locals != X.env.globals)) = false := by rw [I.ok.kind]; rfl
  have hiσ : i < σ.length := by rw [I.len]; exact (List.getElem?_eq_some_iff.mp hi).1
  have cne := I.cne
  have tracked : ∀ {a : Addr} {h' : Heap}, (∃ o, s.heap.get? a = some o ∧ H a = none) → Heap.SameBut a s.heap h' → HOk X.prog X.w H h' := fun {a h'} ha hs b ob e => by
    obtain ⟨_, _, hfree⟩ := ha
    refine (I.hok b ob e).stay (fun c w' hc q => (hs.2 c ?_).trans q) (fun _ q => q) fun _ _ q => q
    rintro rfl
    rcases hc with rfl | hc
    · rw [hfree] at e; cases e
    · rw [hfree] at hc; cases hc
  rcases hx with hk | hk
  · refine wpAny_storeName_local hk hn (fun h' hn' hs => ?_) hcls
    obtain ⟨oL, _, _, hoL, _⟩ := id hn
    refine h _ ⟨I.ok, I.os, I.bare, ⟨fun b o e n hb hx => ?_, fun b o e n hb hx => ?_, I.base.free, fun b o e hx => ?_, I.base.tups, I.base.frzs, I.base.tbls⟩, ⟨_, hn', fun j y v' e1 e2 e3 => ?_⟩, fun y c e => ?_, I.free, I.freeC, fun p hp => ?_, tracked ⟨oL, hoL, I.free⟩ hs, by simpa using I.len, ⟨I.tk.1, Nat.le_trans I.tk.2 (by first | exact Nat.le_refl _ | exact Nat.le_succ _)⟩⟩ ⟨_, hs, .inl rfl⟩
    · exact (hs.2 b (Nat.ne_of_lt (Nat.lt_of_lt_of_le (Heap.lt_size e) I.ok.above))).trans (I.base.keep b o e n hb hx)
    · obtain ⟨sl, e1⟩ := I.base.slot b o e n hb hx
      exact ⟨sl, (hs.2 b (Nat.ne_of_lt (Nat.lt_of_lt_of_le (Heap.lt_size e) I.ok.above))).trans e1⟩
    · obtain ⟨o', e1⟩ := I.base.there b o e hx
      exact ⟨o', (hs.2 b (Nat.ne_of_lt (Nat.lt_of_lt_of_le (Heap.lt_size e) I.ok.above))).trans e1⟩
    · by_cases hj : j = i
      · subst hj
        rw [hi] at e1; cases e1
        rw [List.getElem?_set_self hiσ] at e2
        cases e2
        exact ⟨u, r, .inl ⟨hk, by simp⟩⟩
      · rw [List.getElem?_set_ne (Ne.symm hj)] at e2
        obtain ⟨u', r', q⟩ := hl j y v' e1 e2 e3
        refine ⟨u', r', ?_⟩
        rcases q with ⟨k, e⟩ | ⟨k, c, e, z⟩
        · refine .inl ⟨k, ?_⟩
          have : y ≠ x := fun e => hj (nodup_ix hN e1 (e ▸ hi))
          simp [this, e]
        · exact .inr ⟨k, c, e, z.sameBut hs (cne y c e)⟩
    · obtain ⟨w', z⟩ := I.cell y c e
      exact ⟨w', z.sameBut hs (cne y c e)⟩
    · obtain ⟨e, n, ne, nf, d⟩ := I.pin p hp
      exact ⟨(hs.2 p.1 ne).trans e, n, ne, nf, d⟩
  · have hfn : X.fn x = true := by
      rcases hf with z | z
      · exact z
      · rw [z] at hk; cases hk
    obtain ⟨c, hc⟩ := I.ok.has x (.inl hk)
    obtain ⟨w', z⟩ := I.cell x c hc
    refine wpAny_storeName_cell I.ok.kind hk hc z (fun h' hc' hs => ?_)
    obtain ⟨oc, hoc, hocd⟩ := id z
    refine h { s with heap := h' } ⟨I.ok, I.os, I.bare, ⟨fun b o e n hb hx => ?_, fun b o e n hb hx => ?_, I.base.free, fun b o e hx => ?_, I.base.tups, I.base.frzs, I.base.tbls⟩, ⟨m, hn.sameBut hs (Ne.symm (cne x c hc)), fun j y v' e1 e2 e3 => ?_⟩, fun y c' e => ?_, I.free, I.freeC, fun p hp => ?_, tracked ⟨oc, hoc, I.freeC x c hc⟩ hs, by simpa using I.len, ⟨I.tk.1, Nat.le_trans I.tk.2 (by first | exact Nat.le_refl _ | exact Nat.le_succ _)⟩⟩ ⟨c, hs, .inr hc⟩
    · exact (hs.2 b (Nat.ne_of_lt (Nat.lt_of_lt_of_le (Heap.lt_size e) (I.ok.cab x c hfn hc)))).trans (I.base.keep b o e n hb hx)
    · obtain ⟨sl, e1⟩ := I.base.slot b o e n hb hx
      exact ⟨sl, (hs.2 b (Nat.ne_of_lt (Nat.lt_of_lt_of_le (Heap.lt_size e) (I.ok.cab x c hfn hc)))).trans e1⟩
    · obtain ⟨o', e1⟩ := I.base.there b o e hx
      exact ⟨o', (hs.2 b (Nat.ne_of_lt (Nat.lt_of_lt_of_le (Heap.lt_size e) (I.ok.cab x c hfn hc)))).trans e1⟩
    · by_cases hj : j = i
      · subst hj
        rw [hi] at e1; cases e1
        rw [List.getElem?_set_self hiσ] at e2
        cases e2
        exact ⟨u, r, .inr ⟨.inl hk, c, hc, hc'⟩⟩
      · rw [List.getElem?_set_ne (Ne.symm hj)] at e2
        obtain ⟨u', r', q⟩ := hl j y v' e1 e2 e3
        refine ⟨u', r', ?_⟩
        rcases q with q | ⟨k, c', e, z'⟩
        · exact .inl q
        · refine .inr ⟨k, c', e, z'.sameBut hs ?_⟩
          rintro rfl
          exact hj (nodup_ix hN e1 (I.ok.inj _ _ _ e hc ▸ hi))
    · by_cases hcc : c' = c
      · subst hcc; exact ⟨_, hc'⟩
      · obtain ⟨w2, z2⟩ := I.cell y c' e
        exact ⟨w2, z2.sameBut hs hcc⟩
    · obtain ⟨e, n, ne, nf, d⟩ := I.pin p hp
      refine ⟨(hs.2 p.1 ?_).trans e, n, ne, nf, d⟩
      intro q
      rw [q, hoc] at e
      have q' : oc = p.2 := Option.some.inj e
      exact d w' (by rw [← q']; exact hocd)
theorem store_ok {M : Model} {A : Around} {E : Value → Shared → Prop} {i : Nat} {x : Str} {v : V} {u : Value} {Q : Unit → Shared → Prop} (I : Inv X pins σ H s) (hN : X.N.Nodup) (hi : X.N[i]? = some x) (hx : Loc X.env.scope x) (r : RelV v u)
    (h : ∀ s', Inv X pins (σ.set i (some v)) H s' → Q () s') (hf : X.fn x = true ∨ X.env.scope.names.lookup x = some .local := by first | exact .inl rfl | exact .inr rfl | assumption) : wpAny M A (storeName X.env x u) Q E s :=
  store_ok2 I hN hi hx r (fun s' I' _ => h s' I') hf
/-- behind a call or a block, the state as it is -/
theorem Inv.call' {s' : Shared} {ch : List Addr} (I : Inv X pins σ H s) (ho : s'.os = s.os) (u : Un (frs X.stack) ch H H' s.heap s'.heap) (hok : HOk X.prog X.w H' s'.heap) (hg : AllBare s'.gens)
    (hch : ∀ b ∈ ch, (b ∈ X.ex ∨ X.s₀.heap.objs.size ≤ b) ∧ b ≠ X.env.locals ∧ (∀ x c, X.env.cells.lookup x = some c → c ≠ b) ∧ ∀ p ∈ X.pn ++ pins, p.1 ≠ b) (ht : s.toks ≤ s'.toks := by first | exact Nat.le_refl _ | exact Nat.le_succ _ | assumption | omega) : Inv X pins σ H' s' := by
  obtain ⟨h', g', d', t', o'⟩ := s'
  have e : o' = s.os := ho
  subst e
  exact I.call (g' := g') (t' := t') (d' := d') u hok hg hch ht
end

/-! ### the judgements -/
/-- an exception: its class, its own dict's address (where it has one), the abstract heap behind it -/
abbrev XK := Value → Option Addr → Hp → Prop
abbrev St := List (Option V)
abbrev VK := V → Hp → Prop
/-- an expression's reading; a test's; an argument list's -/
abbrev TE := St → Hp → VK → Prop
abbrev TT := St → Hp → (Bool → Hp → Prop) → Prop
abbrev TA := St → Hp → (List V → Hp → Prop) → Prop
/-- what is wanted behind a statement -/
structure Ends where
  nx : St → Hp → Prop
  rt : VK
  bk : St → Hp → Prop := fun _ _ => False
  ct : St → Hp → Prop := fun _ _ => False
abbrev TS := Ends → St → Hp → Prop

def EP (X : Cx) (pins : List (Addr × Obj)) (σ : St) (Q : VK) (u : Value) (s' : Shared) : Prop := ∃ v H', Inv X pins σ H' s' ∧ RelV v u ∧ Q v H'
def TP (X : Cx) (pins : List (Addr × Obj)) (σ : St) (Q : Bool → Hp → Prop) (b : Bool) (s' : Shared) : Prop := ∃ H', Inv X pins σ H' s' ∧ Q b H'
def AP (X : Cx) (pins : List (Addr × Obj)) (σ : St) (Q : List V → Hp → Prop) (us : List Value) (s' : Shared) : Prop := ∃ vs H', Inv X pins σ H' s' ∧ Vals vs us ∧ Q vs H'
def SP (X : Cx) (pins : List (Addr × Obj)) (D : Ends) (f : Flow) (s' : Shared) : Prop :=
  match f with
  | .next => ∃ σ' H', Inv X pins σ' H' s' ∧ D.nx σ' H'
  | .brk => ∃ σ' H', Inv X pins σ' H' s' ∧ D.bk σ' H'
  | .cont => ∃ σ' H', Inv X pins σ' H' s' ∧ D.ct σ' H'
  | .ret u => ∃ v σ' H', Inv X pins σ' H' s' ∧ RelV v u ∧ D.rt v H'

def PE (X : Cx) (e : Expr) (t : TE) : Prop :=
  ∀ (pins : List (Addr × Obj)) (s : Shared) (σ : St) (H : Hp) (Q : VK), Inv X pins σ H s → t σ H Q → wpAny (model X.prog X.w) X.A (eval e X.env) (EP X pins σ Q) X.xe s
def PT (X : Cx) (e : Expr) (t : TT) : Prop :=
  ∀ (pins : List (Addr × Obj)) (s : Shared) (σ : St) (H : Hp) (Q : Bool → Hp → Prop), Inv X pins σ H s → t σ H Q → wpAny (model X.prog X.w) X.A (isTrue e X.env (eval e X.env)) (TP X pins σ Q) X.xe s
/-- a test whatever its 'whole' is (and, or) -/
def PW (X : Cx) (e : Expr) (t : TT) : Prop :=
  ∀ (whole : Sem Value) (pins : List (Addr × Obj)) (s : Shared) (σ : St) (H : Hp) (Q : Bool → Hp → Prop), Inv X pins σ H s → t σ H Q → wpAny (model X.prog X.w) X.A (isTrue e X.env whole) (TP X pins σ Q) X.xe s
theorem PW.pt {X : Cx} {e : Expr} {t : TT} (h : PW X e t) : PT X e t := h _
/-- an argument list (no star), from the left -/
def PA (X : Cx) (es : List Expr) (t : TA) : Prop :=
  ∀ (pos : Pos) (pins : List (Addr × Obj)) (s : Shared) (σ : St) (H : Hp) (Q : List V → Hp → Prop), Inv X pins σ H s → t σ H Q → wpAny (model X.prog X.w) X.A (spliced (backTo pos (starEach es X.env))) (AP X pins σ Q) X.xe s
def PS (X : Cx) (st : Stmt) (t : TS) : Prop :=
  ∀ (pins : List (Addr × Obj)) (s : Shared) (σ : St) (H : Hp) (D : Ends), Inv X pins σ H s → t D σ H → wpAny (model X.prog X.w) X.A (exec st X.env) (SP X pins D) X.xe s
def PSs (X : Cx) (st : List Stmt) (t : TS) : Prop :=
  ∀ (pins : List (Addr × Obj)) (s : Shared) (σ : St) (H : Hp) (D : Ends), Inv X pins σ H s → t D σ H → wpAny (model X.prog X.w) X.A (execs st X.env) (SP X pins D) X.xe s
/-- weaken the end -/
theorem thn {α : Type} {t : Sem α} {Q Q' : α → Shared → Prop} {M : Model} {A : Around} {E : Value → Shared → Prop} {s : Shared} (h : wpAny M A t Q E s) (hQ : ∀ a s, Q a s → Q' a s) : wpAny M A t Q' E s := wpAny_mono h hQ fun _ _ x => x
end L2

namespace L2
open PySem PySem.Spec PyProof.Rows
section
variable {X : Cx}

/-! ### names and constants -/
def tVar (i : Nat) : TE := fun σ H Q => ∃ v, σ[i]? = some (some v) ∧ Q v H
def tC (v : V) : TE := fun _ H Q => Q v H
theorem pe_var {i : Nat} {x : Str} {pos : Pos} (hN : X.N[i]? = some x) (hv : Vis X.env.scope x) (hd : (x == ("__debug__" : Str)) = false := by decide) (hcd : (x == ("__classdict__" : Str)) = false := by decide) : PE X (.Name x pos) (tVar i) := by
  intro pins s σ H Q I h
  obtain ⟨v, e, h⟩ := h
  obtain ⟨m, hn, hl⟩ := I.loc
  obtain ⟨u, r, l⟩ := hl i x v hN e hv
  have fin : EP X pins σ Q u s := ⟨v, H, I, r, h⟩
  rcases l with ⟨hk, hm⟩ | ⟨hk, c, hc, hcell⟩
  · exact wpAny_Name (wpAny_loadName_local I.ok.kind hk hn hm fin) hd
  · rcases hk with hk | hk
    · exact wpAny_Name (wpAny_loadName_cell I.ok.kind hk hc hcell fin) hd
    · exact wpAny_Name (wpAny_loadName_free I.ok.kind hk hc hcell fin hcd) hd
theorem pe_int {i j pos} : PE X (.Constant (.int i) j pos) (tC (.int i)) := fun _ _ _ H _ I h => wpAny_Constant_int ⟨.int i, H, I.tok _, ⟨_, rfl⟩, h⟩
theorem pe_bl {b j pos} : PE X (.Constant (.bool b) j pos) (tC (.bl b)) := fun _ _ _ H _ I h => Constant_bool ⟨.bl b, H, I, rfl, h⟩
theorem pe_non {j pos} : PE X (.Constant .none j pos) (tC .non) := fun _ _ _ H _ I h => Constant_none ⟨.non, H, I, rfl, h⟩
theorem pe_str {x j pos} : PE X (.Constant (.str x) j pos) (tC (.str x)) := fun _ _ _ H _ I h => Calls.Constant_str ⟨.str x, H, I.tok _, ⟨_, rfl⟩, h⟩

/-- a global name of the def -/
def Gl (X : Cx) (x : Str) : Prop := X.env.kindOf x = some .globalImplicit
theorem ld_glob {E : Value → Shared → Prop} {pins : List (Addr × Obj)} {s : Shared} {σ : St} {H : Hp} {x : Str} {u : Value} {pos : Pos} {Q : Value → Shared → Prop} (I : Inv X pins σ H s) (hg : Gl X x) (hm : X.mg x = some u) (h : Q u s)
    (hd : (x == ("__debug__" : Str)) = false := by decide) : wpAny (model X.prog X.w) X.A (eval (.Name x pos) X.env) Q E s :=
  Calls.Name_function_global I.ok.kind hg (Calls.loadGlobal_global (by rw [I.ok.glob]; exact I.mod.glob.keeps I.bk) hm h) hd
theorem ld_blt {E : Value → Shared → Prop} {pins : List (Addr × Obj)} {s : Shared} {σ : St} {H : Hp} {x : Str} {u : Value} {pos : Pos} {Q : Value → Shared → Prop} (I : Inv X pins σ H s) (hg : Gl X x) (hm : X.mg x = none) (hv : bootBuiltins x = some u) (h : Q u s)
    (hn : x ≠ "__name__" := by decide) (hd : (x == ("__debug__" : Str)) = false := by decide) : wpAny (model X.prog X.w) X.A (eval (.Name x pos) X.env) Q E s := by
  obtain ⟨mb, h1, h2⟩ := I.mod.blt
  exact Calls.Name_function_global I.ok.kind hg (Calls.loadGlobal_builtin (by rw [I.ok.glob]; exact I.mod.glob.keeps I.bk) hm (by rw [I.ok.blt]; exact h1.keeps I.bk) ((h2 x hn).trans hv) h) hd
/-- a module's constant, a class, a function, as a value -/
theorem pe_glob {x : Str} {v : V} {u : Value} {pos : Pos} (hg : Gl X x) (hm : X.mg x = some u) (r : RelV v u) (hd : (x == ("__debug__" : Str)) = false := by decide) : PE X (.Name x pos) (tC v) :=
  fun _ _ _ H _ I h => ld_glob I hg hm ⟨v, H, I, r, h⟩ hd
theorem pe_bltn {x : Str} {v : V} {u : Value} {pos : Pos} (hg : Gl X x) (hm : X.mg x = none) (hv : bootBuiltins x = some u) (r : RelV v u) (hn : x ≠ "__name__" := by decide) (hd : (x == ("__debug__" : Str)) = false := by decide) : PE X (.Name x pos) (tC v) :=
  fun _ _ _ H _ I h => ld_blt I hg hm hv ⟨v, H, I, r, h⟩ hn hd

/-! ### arithmetic -/
variable {a b : Expr} {ta tb : TE} {pos : Pos}
/-! ### comparisons -/
/-- a comparison as a value, as a test -/
def tB (t : TE) : TT := fun σ H Q => t σ H fun x H1 => ∃ c, x = .bl c ∧ Q c H1
/-! ### and, or, not -/
variable {tA tB' : TT} {rest : List Expr}
def tAnd (t u : TT) : TT := fun σ H Q => t σ H fun c H1 => if c = true then u σ H1 Q else Q false H1
def tOr (t u : TT) : TT := fun σ H Q => t σ H fun c H1 => if c = true then Q true H1 else u σ H1 Q
def tNot (t : TT) : TT := fun σ H Q => t σ H fun c H1 => Q (!c) H1
theorem pw_and1 (ha : PT X a tA) : PW X (.BoolOp .And [a] pos) tA := by
  intro wh pins s σ H Q I h
  refine isTrue_and (thn (ha pins s σ H Q I h) fun c s1 e => ?_)
  cases c with
  | true => exact isTrue_and_nil e
  | false => exact e
theorem pw_or1 (ha : PT X a tA) : PW X (.BoolOp .Or [a] pos) tA := by
  intro wh pins s σ H Q I h
  refine isTrue_or (thn (ha pins s σ H Q I h) fun c s1 e => ?_)
  cases c with
  | false => exact isTrue_or_nil e
  | true => exact e
theorem pw_and (ha : PT X a tA) (hb : PW X (.BoolOp .And (b :: rest) pos) tB') : PW X (.BoolOp .And (a :: b :: rest) pos) (tAnd tA tB') := by
  intro wh pins s σ H Q I h
  refine isTrue_and (thn (ha pins s σ H _ I h) fun c s1 ⟨H1, I1, q1⟩ => ?_)
  cases c with
  | true => exact hb wh pins s1 σ H1 Q I1 q1
  | false => exact ⟨H1, I1, q1⟩
theorem pw_or (ha : PT X a tA) (hb : PW X (.BoolOp .Or (b :: rest) pos) tB') : PW X (.BoolOp .Or (a :: b :: rest) pos) (tOr tA tB') := by
  intro wh pins s σ H Q I h
  refine isTrue_or (thn (ha pins s σ H _ I h) fun c s1 ⟨H1, I1, q1⟩ => ?_)
  cases c with
  | true => exact ⟨H1, I1, q1⟩
  | false => exact hb wh pins s1 σ H1 Q I1 q1
theorem pt_not (ha : PT X a tA) : PT X (.UnaryOp .Not a pos) (tNot tA) := by
  intro pins s σ H Q I h
  exact isTrue_not (ha pins s σ H (fun c H1 => Q (!c) H1) I h)
/-- .. as values (bools) -/
def tAndV (ta tb : TE) : TE := fun σ H Q => ta σ H fun x H1 => ∃ c, x = .bl c ∧ if c = true then tb σ H1 Q else Q (.bl false) H1
def tOrV (ta tb : TE) : TE := fun σ H Q => ta σ H fun x H1 => ∃ c, x = .bl c ∧ if c = true then Q (.bl true) H1 else tb σ H1 Q
def tNotV (ta : TE) : TE := fun σ H Q => ta σ H fun x H1 => ∃ c, x = .bl c ∧ Q (.bl (!c)) H1
theorem pe_one {op} {t : TE} (h : PE X a t) : PE X (.BoolOp op [a] pos) t := fun pins s σ H Q I hw => BoolOp_one (h pins s σ H Q I hw)
theorem pe_and (ha : PE X a ta) (hb : PE X (.BoolOp .And (b :: rest) pos) tb) : PE X (.BoolOp .And (a :: b :: rest) pos) (tAndV ta tb) := by
  intro pins s σ H Q I h
  refine BoolOp_and (thn (ha pins s σ H _ I h) fun v s1 ⟨x, H1, I1, r1, q1⟩ => ?_)
  obtain ⟨c, rfl, q1⟩ := q1
  cases r1
  refine wpAny_truthy_bool ?_
  cases c with
  | true => exact hb pins s1 σ H1 Q I1 q1
  | false => exact ⟨.bl false, H1, I1, rfl, q1⟩
theorem pe_not (ha : PE X a ta) : PE X (.UnaryOp .Not a pos) (tNotV ta) := by
  intro pins s σ H Q I h
  refine UnaryOp_ (thn (ha pins s σ H _ I h) fun v s1 ⟨x, H1, I1, r1, q1⟩ => ?_)
  obtain ⟨c, rfl, q1⟩ := q1
  cases r1
  exact not_of (wpAny_truthy_bool ⟨.bl (!c), H1, I1, rfl, q1⟩)
/-- a if t else b -/
def tIf (t : TT) (ta tb : TE) : TE := fun σ H Q => t σ H fun c H1 => if c = true then ta σ H1 Q else tb σ H1 Q
theorem pe_ifExp {c : Expr} (hc : PT X c tA) (ha : PE X a ta) (hb : PE X b tb) : PE X (.IfExp c a b pos) (tIf tA ta tb) := by
  intro pins s σ H Q I h
  refine wpAny_IfExp (thn (hc pins s σ H _ I h) fun d s1 ⟨H1, I1, q1⟩ => ?_)
  cases d with
  | true => exact ha pins s1 σ H1 Q I1 q1
  | false => exact hb pins s1 σ H1 Q I1 q1
end
end L2

namespace L2
open PySem PySem.Spec PyProof.Rows

/-! ### a list, a tuple that is read: tracked, frozen, or an object of the module -/
def SqL (K : PySem.W.Frag) (H : Hp) (a : Addr) (xs : List V) : Prop :=
  Rd H a (.lst xs) ∨
    ∃ (o : Obj) (its : Array Value) (n : Nat), K.lookup a = some o ∧ o.cls = .type "list" ∧ o.dict = none ∧ o.data = .seq its n ∧ its.size ≤ sizeLine ∧ Vals xs its.toList
def SqT (K : PySem.W.Frag) (H : Hp) (a : Addr) (xs : List V) : Prop :=
  Rd H a (.tup xs) ∨
    ∃ (o : Obj) (its : Array Value) (n : Nat), K.lookup a = some o ∧ o.cls = .type "tuple" ∧ o.data = .seq its n ∧ its.size ≤ sizeLine ∧ Vals xs its.toList
def absV : Value → Option V
  | .none => some .non
  | .bool b => some (.bl b)
  | .int i _ => some (.int i)
  | .str x _ => some (.str x)
  | .bytes b _ => some (.byt b)
  | .float b _ => some (.flt b)
  | .ref a => some (.ref a)
  | .type n => some (.ty n)
  | _ => none
theorem RelV.abs {x : V} {u : Value} (r : RelV x u) : absV u = some x := by
  cases x with
  | non => cases r; rfl
  | bl _ => cases r; rfl
  | int _ => obtain ⟨t, rfl⟩ := r; rfl
  | str _ => obtain ⟨t, rfl⟩ := r; rfl
  | byt _ => obtain ⟨t, rfl⟩ := r; rfl
  | flt _ => obtain ⟨t, rfl⟩ := r; rfl
  | ref _ => cases r; rfl
  | ty _ => cases r; rfl
theorem RelV.inj {x y : V} {u : Value} (r : RelV x u) (q : RelV y u) : x = y := Option.some.inj (r.abs.symm.trans q.abs)
theorem Vals.inj : ∀ {xs ys : List V} {us : List Value}, Vals xs us → Vals ys us → xs = ys
  | _, _, _, .nil, .nil => rfl
  | _, _, _, .cons r t, .cons r' t' => by rw [r.inj r', Vals.inj t t']
section
variable {X : Cx} {pins : List (Addr × Obj)} {σ : St} {H : Hp} {s : Shared} {a : Addr} {xs ys : List V}
theorem SqL.of {K : PySem.W.Frag} (h : H a = some (.lst xs)) : SqL K H a xs := .inl (.inl h)
theorem SqT.of {K : PySem.W.Frag} (h : H a = some (.tup xs)) : SqT K H a xs := .inl (.inl h)
theorem Inv.list (I : Inv X pins σ H s) (h : SqL X.K H a xs) : ∃ its : List Value, Vals xs its ∧ PlainL s.heap a its.toArray ∧ xs.length ≤ sizeLine := by
  rcases h with h | ⟨o, its, n, hk, hc, hd, hs, hz, r⟩
  · obtain ⟨z, its, n, r, e⟩ := h.ok I.hok
    exact ⟨its, r, ⟨_, n, e, rfl, rfl, rfl⟩, z⟩
  · refine ⟨its.toList, r, ⟨o, n, I.kIn a o hk, hc, hd, by simpa using hs⟩, ?_⟩
    have e := r.length
    simp only [Array.length_toList] at e
    omega
theorem Inv.tuple (I : Inv X pins σ H s) (h : SqT X.K H a xs) : ∃ its : List Value, Vals xs its ∧ IsTup s.heap a its.toArray ∧ xs.length ≤ sizeLine := by
  rcases h with h | ⟨o, its, n, hk, hc, hs, hz, r⟩
  · obtain ⟨z, its, r, p⟩ := h.ok I.hok
    exact ⟨its, r, p, z⟩
  · refine ⟨its.toList, r, ⟨o, I.kIn a o hk, hc, n, by simpa using hs⟩, ?_⟩
    have e := r.length
    simp only [Array.length_toList] at e
    omega
theorem Inv.list_inj (I : Inv X pins σ H s) (h : SqL X.K H a xs) (h' : SqL X.K H a ys) : xs = ys := by
  obtain ⟨its, r, ⟨o, n, e, _, _, d⟩, _⟩ := I.list h
  obtain ⟨its', r', ⟨o', n', e', _, _, d'⟩, _⟩ := I.list h'
  rw [e] at e'; cases e'
  rw [d] at d'
  injection d' with d1 _
  have : its = its' := by simpa using congrArg Array.toList d1
  subst this
  exact r.inj r'
end

/-! ### another wish about exceptions -/
abbrev Cx.wish (X : Cx) (E : Value → Shared → Prop) : Cx := { X with xe := E }
/-- no exception leaves -/
abbrev Cx.nox (X : Cx) : Cx := X.wish fun _ _ => False
theorem Cx.Ok.wish {X : Cx} (ok : X.Ok) (E : Value → Shared → Prop) : (X.wish E).Ok :=
  ⟨ok.mod, ok.kind, ok.glob, ok.blt, ok.above, ok.inj, ok.has, ok.cab, ok.hd, ok.frames, ok.stk, ok.exf, ok.bs, ok.bsz, ok.noex, ok.exfs, ok.funs, ok.frf⟩
theorem Cx.Ok.unwish {X : Cx} {E : Value → Shared → Prop} (ok : (X.wish E).Ok) : X.Ok :=
  ⟨ok.mod, ok.kind, ok.glob, ok.blt, ok.above, ok.inj, ok.has, ok.cab, ok.hd, ok.frames, ok.stk, ok.exf, ok.bs, ok.bsz, ok.noex, ok.exfs, ok.funs, ok.frf⟩
section
variable {X : Cx} {pins : List (Addr × Obj)} {σ : St} {H : Hp} {s : Shared} {E : Value → Shared → Prop}
theorem Inv.wish (I : Inv X pins σ H s) (E : Value → Shared → Prop) : Inv (X.wish E) pins σ H s := ⟨I.ok.wish E, I.os, I.bare, I.base, I.loc, I.cell, I.free, I.freeC, I.pin, I.hok, I.len, I.tk⟩
theorem Inv.unwish (I : Inv (X.wish E) pins σ H s) : Inv X pins σ H s := ⟨I.ok.unwish, I.os, I.bare, I.base, I.loc, I.cell, I.free, I.freeC, I.pin, I.hok, I.len, I.tk⟩
theorem SP.unwish {D : Ends} {f : Flow} {s' : Shared} (h : SP (X.wish E) pins D f s') : SP X pins D f s' := by
  cases f with
  | next => obtain ⟨σ', H', I, q⟩ := h; exact ⟨σ', H', I.unwish, q⟩
  | brk => obtain ⟨σ', H', I, q⟩ := h; exact ⟨σ', H', I.unwish, q⟩
  | cont => obtain ⟨σ', H', I, q⟩ := h; exact ⟨σ', H', I.unwish, q⟩
  | ret u => obtain ⟨v, σ', H', I, r, q⟩ := h; exact ⟨v, σ', H', I.unwish, r, q⟩
theorem PE.nox {e : Expr} {t : TE} (h : PE X.nox e t) : PE X e t := fun pins s σ H Q I hw =>
  wpAny_mono (h pins s σ H Q (I.wish _) hw) (fun _ _ ⟨v, H', I', r, q⟩ => ⟨v, H', I'.unwish, r, q⟩) fun _ _ z => False.elim z
theorem PT.nox {e : Expr} {t : TT} (h : PT X.nox e t) : PT X e t := fun pins s σ H Q I hw =>
  wpAny_mono (h pins s σ H Q (I.wish _) hw) (fun _ _ ⟨H', I', q⟩ => ⟨H', I'.unwish, q⟩) fun _ _ z => False.elim z
theorem PSs.nox {st : List Stmt} {t : TS} (h : PSs X.nox st t) : PSs X st t := fun pins s σ H D I hw =>
  wpAny_mono (h pins s σ H D (I.wish _) hw) (fun _ _ q => q.unwish) fun _ _ z => False.elim z
end

/-! ### blocks and small statements -/
section
variable {X : Cx} {st : Stmt} {rest : List Stmt} {t u : TS} {e : Expr} {te : TE} {pos : Pos}
def tNext : TS := fun D σ H => D.nx σ H
def tSeq (t u : TS) : TS := fun D σ H => t { D with nx := u D } σ H
theorem pss_nil : PSs X [] tNext := fun _ _ σ H _ I h => wpAny_execs_nil ⟨σ, H, I, h⟩
theorem pss_cons (h1 : PS X st t) (h2 : PSs X rest u) : PSs X (st :: rest) (tSeq t u) := by
  intro pins s σ H D I h
  refine wpAny_execs_cons (thn (h1 pins s σ H { D with nx := u D } I h) fun f s1 q => ?_)
  cases f with
  | next =>
    obtain ⟨σ', H', I', q⟩ := q
    exact h2 pins s1 σ' H' D I' q
  | ret v => exact q
  | brk => exact q
  | cont => exact q
theorem pss_one (h1 : PS X st t) : PSs X [st] t := by
  intro pins s σ H D I h
  refine wpAny_execs_cons (thn (h1 pins s σ H D I h) fun f s1 q => ?_)
  cases f with
  | next => exact wpAny_execs_nil q
  | ret v => exact q
  | brk => exact q
  | cont => exact q
def tBreak : TS := fun D σ H => D.bk σ H
def tCont : TS := fun D σ H => D.ct σ H
/-- in a def's body nothing is shown -/
theorem Inv.quiet {pins : List (Addr × Obj)} {σ : St} {H : Hp} {s : Shared} (I : Inv X pins σ H s) : interactive X.env = false := by simp [interactive, I.ok.kind]
/-- an expression whose value is dropped -/
def tDrop (te : TE) : TS := fun D σ H => te σ H fun _ H1 => D.nx σ H1
theorem ps_expr (he : PE X e te) (hs : swapsWith e none pos.line X.env = pure false := by rfl) : PS X (.Expr e pos) (tDrop te) := by
  intro pins s σ H D I h
  exact wpAny_Expr_any (thn (he pins s σ H _ I h) fun v s1 ⟨x, H1, I1, r1, q1⟩ => ⟨σ, H1, I1, q1⟩) I.quiet hs
def tRet (te : TE) : TS := fun D σ H => te σ H D.rt
theorem ps_ret (he : PE X e te) : PS X (.Return (some e) pos) (tRet te) := by
  intro pins s σ H D I h
  exact wpAny_Return_some (thn (he pins s σ H _ I h) fun v s1 ⟨x, H1, I1, r1, q1⟩ => ⟨x, σ, H1, I1, r1, q1⟩)
def tRetN : TS := fun D _ H => D.rt .non H
def tIfS (c : TT) (t u : TS) : TS := fun D σ H => c σ H fun b H1 => if b = true then t D σ H1 else u D σ H1
theorem ps_if {c : Expr} {a b : List Stmt} {tc : TT} (hc : PT X c tc) (ha : PSs X a t) (hb : PSs X b u) : PS X (.If c a b pos) (tIfS tc t u) := by
  intro pins s σ H D I h
  refine wpAny_If (thn (hc pins s σ H _ I h) fun d s1 ⟨H1, I1, q1⟩ => ?_)
  cases d with
  | true => exact ha pins s1 σ H1 D I1 q1
  | false => exact hb pins s1 σ H1 D I1 q1
/-- code that the proof never comes to -/
def tNever : TS := fun _ _ _ => False
end

/-! ### targets -/
abbrev TG := V → St → Hp → (St → Hp → Prop) → Prop
abbrev TGs := List V → St → Hp → (St → Hp → Prop) → Prop
def PG (X : Cx) (target : Expr) (t : TG) : Prop :=
  ∀ (pins : List (Addr × Obj)) (s : Shared) (σ : St) (H : Hp) (v : V) (u : Value) (Q : St → Hp → Prop), Inv X pins σ H s → RelV v u → t v σ H Q →
    wpAny (model X.prog X.w) X.A (assign target X.env u) (fun _ s' => ∃ σ' H', Inv X pins σ' H' s' ∧ Q σ' H') X.xe s
/-- several targets, one after another -/
def PGs (X : Cx) (ts : List Expr) (t : TGs) : Prop :=
  ∀ (pins : List (Addr × Obj)) (s : Shared) (σ : St) (H : Hp) (vs : List V) (us : List Value) (Q : St → Hp → Prop), Inv X pins σ H s → Vals vs us → t vs σ H Q →
    wpAny (model X.prog X.w) X.A (assignInOrder ((assignEach ts X.env).map (·.2)) us) (fun _ s' => ∃ σ' H', Inv X pins σ' H' s' ∧ Q σ' H') X.xe s
section
variable {X : Cx} {pos : Pos}
def gName (i : Nat) : TG := fun v σ H Q => Q (σ.set i (some v)) H
theorem pg_name {i : Nat} {x : Str} (hN : X.N.Nodup) (hi : X.N[i]? = some x) (hx : Loc X.env.scope x) (hf : X.fn x = true ∨ X.env.scope.names.lookup x = some .local := by first | exact .inl rfl | exact .inr rfl | assumption) : PG X (.Name x pos) (gName i) := by
  intro pins s σ H v u Q I r h
  exact wpAny_assign_Name (store_ok I hN hi hx r (fun s' I' => ⟨_, H, I', h⟩) hf)
def gNil : TGs := fun vs σ H Q => vs = [] ∧ Q σ H
def gCons (t : TG) (u : TGs) : TGs := fun vs σ H Q => ∃ v r, vs = v :: r ∧ t v σ H fun σ' H' => u r σ' H' Q
theorem pgs_nil : PGs X [] gNil := by
  intro pins s σ H vs us Q I r h
  obtain ⟨e, h⟩ := h
  subst e
  cases r
  exact assignInOrder_nil ⟨σ, H, I, h⟩
theorem pgs_cons {e : Expr} {es : List Expr} {t : TG} {u : TGs} (h1 : PG X e t) (h2 : PGs X es u)
    (hs : (assignEach (e :: es) X.env).map (·.2) = assign e X.env :: (assignEach es X.env).map (·.2) := by rfl) : PGs X (e :: es) (gCons t u) := by
  intro pins s σ H vs us Q I r h
  obtain ⟨v, vr, e1, h⟩ := h
  subst e1
  cases r with
  | cons r rr =>
    rw [hs]
    refine assignInOrder_cons (thn (h1 pins s σ H _ _ _ I r h) fun _ s1 ⟨σ1, H1, I1, q1⟩ => ?_)
    exact h2 pins s1 σ1 H1 _ _ Q I1 rr q1
/-- (a, b, ..) = a tuple of that length -/
def gTup (K : PySem.W.Frag) (n : Nat) (t : TGs) : TG := fun v σ H Q => ∃ a xs, v = .ref a ∧ SqT K H a xs ∧ xs.length = n ∧ t xs σ H Q
theorem pg_tup {es : List Expr} {k : Nat} {t : TGs} {n : Nat} (hc : X.calm = true) (h : PGs X es t)
    (hn : (assignEach es X.env).length = n := by rfl) (hst : (assignEach es X.env).findIdx? (·.1) = none := by rfl) : PG X (.Tuple es k pos) (gTup X.K n t) := by
  intro pins s σ H v u Q I r hw
  obtain ⟨a, xs, e1, hq, hl, hw⟩ := hw
  subst e1
  cases r
  obtain ⟨its, rv, ht, hz⟩ := I.tuple hq
  refine assign_Tuple_tuple (I.ok.hd hc) ht (by simp [hn, ← hl, rv.length]) hst fun h' hx => ?_
  have I1 : Inv X pins σ H { s with heap := h' } := I.kept (t' := s.toks) fun b o e => hx b o (Nat.ne_of_lt (Heap.lt_size e)) e
  exact h pins _ σ H xs _ Q I1 (by simpa using rv) hw
/-- target = value -/
def tAsg (te : TE) (g : TG) : TS := fun D σ H => te σ H fun x H1 => g x σ H1 D.nx
/-- name = value -/
theorem ps_set {i : Nat} {x : Str} {e : Expr} {te : TE} {pos' : Pos} (hN : X.N.Nodup) (hi : X.N[i]? = some x) (hx : Loc X.env.scope x) (he : PE X e te) (hs : swapsWith e (some (.Name x pos')) pos.line X.env = pure false := by rfl) (hf : X.fn x = true ∨ X.env.scope.names.lookup x = some .local := by first | exact .inl rfl | exact .inr rfl | assumption) :
    PS X (.Assign [.Name x pos'] e pos) (tAsg te (gName i)) := by
  intro pins s σ H D I h
  refine wpAny_Assign_Name (thn (he pins s σ H _ I h) fun v s1 ⟨y, H1, I1, r1, q1⟩ => ?_) hs
  exact store_ok I1 hN hi hx r1 (fun s2 I2 => ⟨_, H1, I2, q1⟩) hf
end

/-! ### while -/
section
variable {X : Cx} {pos : Pos}
end

/-! ### what a loop or a comprehension walks -/
/-- at turn i: it yields x (the heap may grow), or it stops -/
structure It where
  go : Nat → Hp → Prop
  yld : Nat → Hp → V → Hp → Prop
  stop : Nat → Hp → Prop
/-- the iterator's own objects may turn: they are not the frame's, not pinned, younger than the entry (or a comprehension's own) -/
def FpOk (X : Cx) (pins : List (Addr × Obj)) (H : Hp) (b : Addr) : Prop :=
  H b = none ∧ b ≠ X.env.locals ∧ b ∉ X.fs ∧ (b ∈ X.ex ∨ X.s₀.heap.objs.size ≤ b) ∧ (∀ x c, X.env.cells.lookup x = some c → c ≠ b) ∧ ∀ p ∈ X.pn ++ pins, p.1 ≠ b
theorem Inv.fpOk {X : Cx} {pins : List (Addr × Obj)} {σ : St} {H H' : Hp} {s : Shared} {b : Addr} (I : Inv X pins σ H s) (hb : s.heap.objs.size ≤ b) (hn : H' b = none) : FpOk X pins H' b := by
  refine ⟨hn, Nat.ne_of_gt (Nat.lt_of_lt_of_le I.lt hb), I.nofs hb, .inr (Nat.le_trans I.sz hb), fun x c e z => ?_, fun p hp z => ?_⟩
  · obtain ⟨v, q⟩ := I.cell x c e
    exact absurd (Nat.lt_of_lt_of_le q.lt (by rw [z]; exact hb)) (Nat.lt_irrefl _)
  · exact absurd (Nat.lt_of_lt_of_le (Heap.lt_size (I.pin p hp).1) (by rw [z]; exact hb)) (Nat.lt_irrefl _)
structure Turn (P : Program) (w : World) (K : PySem.W.Frag) (tg : Expr) (J : It) (fp : List Addr) (it : Addr) (tn : Nat → Heap → Prop) : Prop where
  mem : it ∈ fp
  obj : ∀ i h, tn i h → ∀ b ∈ fp, ∃ o, h.get? b = some o ∧ ∀ v, o.data ≠ .cell v
  keep : ∀ i h h', tn i h → (∀ b ∈ fp, ∀ o, h.get? b = some o → h'.get? b = some o) → tn i h'
  item : ∀ (X : Cx), X.prog = P → X.w = w → X.K = K → X.calm = true → ∀ (i : Nat) (pins : List (Addr × Obj)) (s : Shared) (σ : St) (H : Hp) (E : Value → Shared → Prop), Inv X pins σ H s → (∀ b ∈ fp, FpOk X pins H b) → tn i s.heap → J.go i H →
    wpAny (model P w) X.A (pyNext (.ref it)) (fun r s1 => ∃ u, r = some u ∧
      wpAny (model P w) X.A (letOwnedTupleGo tg (.ref it) u) (fun _ s2 => ∃ x H', Inv X pins σ H' s2 ∧ RelV x u ∧ J.yld i H x H' ∧ tn (i + 1) s2.heap ∧ ∀ b ∈ fp, H' b = none) E s1) E s
  done : ∀ (X : Cx), X.prog = P → X.w = w → X.K = K → X.calm = true → ∀ (i : Nat) (pins : List (Addr × Obj)) (s : Shared) (σ : St) (H : Hp) (E : Value → Shared → Prop), Inv X pins σ H s → (∀ b ∈ fp, FpOk X pins H b) → tn i s.heap → J.stop i H →
    wpAny (model P w) X.A (pyNext (.ref it)) (fun r s1 => r = none ∧ Inv X pins σ H s1) E s
  self : ∀ (A : Around) (i : Nat) (s : Shared) (Q : Value → Shared → Prop) (E : Value → Shared → Prop), tn i s.heap → Q (.ref it) s → wpAny (model P w) A (pyIter (.ref it)) Q E s
abbrev TI := St → Hp → (It → Hp → Prop) → Prop
/-- an iterator has come -/
def PIE (X : Cx) (pins : List (Addr × Obj)) (σ : St) (tg : Expr) (R : It → Hp → Prop) (itv : Value) (s2 : Shared) : Prop :=
  ∃ (it : Addr) (fp : List Addr) (tn : Nat → Heap → Prop) (J : It) (H' : Hp), itv = .ref it ∧ Inv X pins σ H' s2 ∧ Turn X.prog X.w X.K tg J fp it tn ∧ tn 0 s2.heap ∧ (∀ b ∈ fp, FpOk X pins H' b) ∧ R J H'
def PI (X : Cx) (tg iter : Expr) (wi : TI) : Prop :=
  ∀ (pins : List (Addr × Obj)) (s : Shared) (σ : St) (H : Hp) (R : It → Hp → Prop), Inv X pins σ H s → wi σ H R →
    wpAny (model X.prog X.w) X.A (eval iter X.env) (fun v s1 => wpAny (model X.prog X.w) X.A (pyIter v) (PIE X pins σ tg R) X.xe s1) X.xe s

/-- the step ahead of the store is nothing for an iterator that keeps no tuple -/
theorem go_of {M : Model} {A : Around} {E : Value → Shared → Prop} {s : Shared} {tg : Expr} {it : Addr} {u : Value} {o : Obj} {n : String} {vs : Array Value} {Q : Unit → Shared → Prop} (ho : s.heap.get? it = some o) (hc : o.cls = .type n) (hd : o.data = .fields vs)
    (hn : ["enumerate", "zip", "dict_itemiterator", "dict_reverseitemiterator", "odict_iterator", "itertools.zip_longest", "itertools.pairwise"].contains n = false) (hQ : Q () s) : wpAny M A (letOwnedTupleGo tg (.ref it) u) Q E s := by
  unfold letOwnedTupleGo
  cases tg <;> first
    | exact wpAny_pure hQ
    | (cases u <;> first
        | exact wpAny_pure hQ
        | (refine wpAny_bind (wpAny_load ho ?_)
           rw [hc, hd]
           show wpAny M A (if (["enumerate", "zip", "dict_itemiterator", "dict_reverseitemiterator", "odict_iterator", "itertools.zip_longest", "itertools.pairwise"].contains n && vs[0]? == some (rawInt _)) = true then _ else _) Q E s
           rw [if_neg (by intro h; rw [hn, Bool.false_and] at h; cases h)]
           exact wpAny_pure hQ))

/-- the list at a, as it stands at each turn (a loop may append to it) -/
def Itl (K : PySem.W.Frag) (a : Addr) : It :=
  ⟨fun i H => ∃ xs x, SqL K H a xs ∧ xs[i]? = some x, fun i H x H' => H' = H ∧ ∀ xs, SqL K H a xs → xs[i]? = some x, fun i H => ∃ xs, SqL K H a xs ∧ xs.length ≤ i⟩
/-- lo, lo + 1, .. (n of them) -/
def Itr (lo : Int) (n : Nat) : It := ⟨fun i _ => i < n, fun i H x H' => H' = H ∧ x = .int (lo + i), fun i _ => n ≤ i⟩
theorem turn_list {P : Program} {w : World} {K : PySem.W.Frag} {tg : Expr} (a it : Addr) : Turn P w K tg (Itl K a) [it] it (fun i h => h.IsListIter it a i) where
  mem := by simp
  obj := fun i h st b hb => by
    have e : b = it := by simpa using hb
    subst e
    obtain ⟨o, e, c, d⟩ := st
    exact ⟨o, e, fun v z => by rw [d] at z; cases z⟩
  keep := fun i h h' st k => st.at fun o e => k it (by simp) o e
  item := by
    intro X hP hw hK hc i pins s σ H E I hf st hg
    subst hP hw hK
    obtain ⟨xs, x, hq, hx⟩ := hg
    obtain ⟨its, rv, p, hz⟩ := I.list hq
    obtain ⟨u, hu, ru⟩ := rv.get hx
    obtain ⟨f0, f1, f2, f3, f4, f5⟩ := hf it (by simp)
    refine wpAny_pyNext_list_item st p.isList (x := u) (by simpa using hu) fun h' st' sb => ?_
    have I1 : Inv X pins σ H { s with heap := h' } := I.turned (t' := s.toks) (fun b o hb e => (sb.2 b hb).trans e) f0 f1 f3 f4 f5
    obtain ⟨o, e, c, d⟩ := id st'
    exact ⟨u, rfl, go_of (s := { s with heap := h' }) e c d (by decide) ⟨x, H, I1, ru, ⟨rfl, fun ys hy => by rw [I.list_inj hy hq]; exact hx⟩, st', fun b hb => (hf b hb).1⟩⟩
  done := by
    intro X hP hw hK hc i pins s σ H E I hf st hg
    subst hP hw hK
    obtain ⟨xs, hq, hx⟩ := hg
    obtain ⟨its, rv, p, hz⟩ := I.list hq
    obtain ⟨f0, f1, f2, f3, f4, f5⟩ := hf it (by simp)
    have hl := rv.length
    exact wpAny_pyNext_list_end (I.ok.hd hc) st p.isList (by simp; omega) fun h' eb => ⟨rfl, I.turned (t' := s.toks) (fun b o hb e => eb b o hb e) f0 f1 f3 f4 f5⟩
  self := fun _ _ _ _ _ st h => wpAny_pyIter_listiter st h
theorem turn_range {P : Program} {w : World} {K : PySem.W.Frag} {tg : Expr} (it : Addr) (lo : Int) (n : Nat) : Turn P w K tg (Itr lo n) [it] it (fun i h => IsRangeIter h it (lo + (i : Nat) * 1) ((n : Int) - (i : Nat)) 1) where
  mem := by simp
  obj := fun i h st b hb => by
    have e : b = it := by simpa using hb
    subst e
    exact ⟨_, st, fun v z => by
      have z' : Data.fields _ = Data.cell v := z
      cases z'⟩
  keep := fun i h h' st k => k it (by simp) _ st
  item := by
    intro X hP hw hK hc i pins s σ H E I hf st hg
    subst hP hw hK
    obtain ⟨f0, f1, f2, f3, f4, f5⟩ := hf it (by simp)
    have W := Walks.range (prog := X.prog) (w := X.w) (I.ok.hd hc) it lo 1 n
    refine wpAny_toks (W.item i s _ _ hg st fun v h' tk hv st' kk htk => ?_)
    obtain ⟨t, rfl⟩ := hv
    have htk' : s.toks ≤ tk := htk
    have I1 : Inv X pins σ H { s with heap := h', toks := tk } := I.turned (fun b o hb e => kk b o (by simpa using hb) e) f0 f1 f3 f4 f5
    refine ⟨_, rfl, go_of (s := { s with heap := h', toks := tk }) (n := "range_iterator") st' rfl rfl (by decide) ⟨.int (lo + i), H, I1, ⟨t, ?_⟩, ⟨rfl, rfl⟩, st', fun b hb => (hf b hb).1⟩⟩
    rw [Int.mul_one]
  done := by
    intro X hP hw hK hc i pins s σ H E I hf st hg
    subst hP hw hK
    obtain ⟨f0, f1, f2, f3, f4, f5⟩ := hf it (by simp)
    exact wpAny_pyNext_range_end (I.ok.hd hc) st (by have : n ≤ i := hg; omega) fun h' eb => ⟨rfl, I.turned (t' := s.toks) (fun b o hb e => eb b o hb e) f0 f1 f3 f4 f5⟩
  self := fun _ _ _ _ _ st h => wpAny_pyIter_rangeiter st h
end L2

namespace L2
open PySem PySem.Spec PyProof.Rows
section
variable {X : Cx} {tg : Expr}
def iList (K : PySem.W.Frag) (tl : TE) : TI := fun σ H R => tl σ H fun x H1 => ∃ a, x = .ref a ∧ (∃ xs, SqL K H1 a xs) ∧ R (Itl K a) H1
theorem pi_list {l : Expr} {tl : TE} (hl : PE X l tl) : PI X tg l (iList X.K tl) := by
  intro pins s σ H R I h
  refine thn (hl pins s σ H _ I h) fun v s1 ⟨x, H1, I1, r1, q1⟩ => ?_
  obtain ⟨a, e, ⟨xs, hq⟩, q⟩ := q1
  subst e
  cases r1
  obtain ⟨its, rv, p, hz⟩ := I1.list hq
  refine wpAny_pyIter_list p.isList ?_
  refine ⟨s1.heap.objs.size, [s1.heap.objs.size], _, _, H1, rfl, I1.kept (t' := s1.toks) fun b o e => Heap.get?_push_of_some _ e, turn_list a _, ⟨_, Heap.get?_push_size _ rfl, rfl, rfl⟩, fun b hb => ?_, q⟩
  have e : b = s1.heap.objs.size := by simpa using hb
  subst e
  exact I1.fpOk (Nat.le_refl _) (I1.hok.fresh (Nat.le_refl _))
/-- a range object just made, walked -/
theorem range_it {pins : List (Addr × Obj)} {σ : St} {H : Hp} {s : Shared} {R : It → Hp → Prop} {E : Value → Shared → Prop} {lo hi : Int} {t u v : Tok} {tk : Nat} (htk : s.toks ≤ tk) (I : Inv X pins σ H s) (h1 : -(2 ^ 62) ≤ lo) (h2 : lo < 2 ^ 62) (h3 : -(2 ^ 62) ≤ hi) (h4 : hi < 2 ^ 62)
    (q : R (Itr lo (hi - lo).toNat) H) : wpAny (model X.prog X.w) X.A (pyIter (.ref s.heap.objs.size)) (PIE X pins σ tg R) E { s with heap := s.heap.push { cls := .type "range", data := .fields #[.int lo t, .int hi u, .int 1 v] }, toks := tk } := by
  refine wpAny_pyIter_range (IsRange.new ..) (small_one h1 h2 h3 h4) ?_
  have I1 : Inv X pins σ H { s with heap := s.heap.push { cls := .type "range", data := .fields #[.int lo t, .int hi u, .int 1 v] }, toks := tk } := I.kept fun b o e => Heap.get?_push_of_some _ e
  refine ⟨(s.heap.push { cls := .type "range", data := .fields #[.int lo t, .int hi u, .int 1 v] }).objs.size, [(s.heap.push { cls := .type "range", data := .fields #[.int lo t, .int hi u, .int 1 v] }).objs.size], _, _, H, rfl,
    I1.kept (t' := tk) fun b o e => Heap.get?_push_of_some _ e, turn_range _ lo (hi - lo).toNat, ?_, fun b hb => ?_, q⟩
  · have e1 : lo + ((0 : Nat) : Int) * 1 = lo := by simp
    have e2 : (((hi - lo).toNat : Nat) : Int) - ((0 : Nat) : Int) = Builtin.Range.rangeSize lo hi 1 := by rw [rangeSize_one]; split <;> omega
    show IsRangeIter _ _ (lo + ((0 : Nat) : Int) * 1) ((((hi - lo).toNat : Nat) : Int) - ((0 : Nat) : Int)) 1
    rw [e1, e2]
    exact Heap.get?_push_size _ rfl
  · have e : b = (s.heap.push { cls := .type "range", data := .fields #[.int lo t, .int hi u, .int 1 v] }).objs.size := by simpa using hb
    subst e
    exact I1.fpOk (Nat.le_refl _) (I1.hok.fresh (Nat.le_refl _))
def iRng1 (ta : TA) : TI := fun σ H R => ta σ H fun vs H1 => ∃ j : Int, vs = [.int j] ∧ -(2 ^ 62) ≤ j ∧ j < 2 ^ 62 ∧ R (Itr 0 j.toNat) H1
theorem pi_range1 {a : Expr} {ta : TA} {p pos : Pos} (hg : Gl X "range") (hm : X.mg "range" = none) (ha : PA X [a] ta) (hs : starEach [a] X.env = [(false, eval a X.env)] := by rfl) : PI X tg (.Call (.Name "range" p) [a] [] pos) (iRng1 ta) := by
  intro pins s σ H R I h
  refine Call_ (ld_blt I hg hm boot_range (PyProof.Rows.callWith_type1 (thn (ha pos pins s σ H _ I h) fun us s1 ⟨vs, H1, I1, r1, q1⟩ => ?_) hs rfl))
  obtain ⟨j, e, q1, q2, q⟩ := q1
  subst e
  cases r1 with
  | cons r rr =>
    cases rr
    obtain ⟨t, rfl⟩ := r
    exact call_range_1 (range_it (by first | exact Nat.le_refl _ | exact Nat.le_succ _ | omega) I1 (by omega) (by omega) q1 q2 (by simpa using q))
/-! ### for -/
/-- W: the invariant by the turn and a measure; N: what the body is to reach -/
def tFor (wi : TI) (g : TG) (tb : TS) : TS := fun D σ H => wi σ H fun J H1 => ∃ W : Nat → Nat → St → Hp → Prop, (∃ m, W 0 m σ H1) ∧ ∀ i m σ H, W i m σ H →
  (J.stop i H ∧ D.nx σ H) ∨ (J.go i H ∧ ∃ N : St → Hp → Prop, (∀ σ' H', N σ' H' → ∃ m', m' < m ∧ W (i + 1) m' σ' H') ∧ ∀ x H', J.yld i H x H' → g x σ H' fun σ2 H2 => tb { D with nx := N, ct := N, bk := D.nx } σ2 H2)
/-- the records at fp as they stand -/
def pinsAt (fp : List Addr) (h : Heap) : List (Addr × Obj) := fp.filterMap fun b => (h.get? b).map fun o => (b, o)
theorem mem_pinsAt {fp : List Addr} {h : Heap} {b : Addr} {o : Obj} (hb : b ∈ fp) (e : h.get? b = some o) : (b, o) ∈ pinsAt fp h := List.mem_filterMap.mpr ⟨b, hb, by rw [e]; rfl⟩
theorem of_pinsAt {fp : List Addr} {h : Heap} {p : Addr × Obj} (hp : p ∈ pinsAt fp h) : p.1 ∈ fp ∧ h.get? p.1 = some p.2 := by
  obtain ⟨b, hb, e⟩ := List.mem_filterMap.mp hp
  cases q : h.get? b with
  | none => rw [q] at e; cases e
  | some o =>
    rw [q] at e
    have e' : (b, o) = p := Option.some.inj e
    subst e'
    exact ⟨hb, q⟩
theorem Inv.pinned {pins : List (Addr × Obj)} {σ : St} {H : Hp} {s : Shared} {fp : List Addr} (I : Inv X pins σ H s) (hf : ∀ b ∈ fp, FpOk X pins H b) (ho : ∀ b ∈ fp, ∃ o, s.heap.get? b = some o ∧ ∀ v, o.data ≠ .cell v) : Inv X (pins ++ pinsAt fp s.heap) σ H s :=
  I.pins_of fun p hp => (List.mem_append.mp hp).elim (fun z => I.pin p (List.mem_append_right _ z)) fun z => by
    obtain ⟨hb, e⟩ := of_pinsAt z
    obtain ⟨f0, f1, f2, _⟩ := hf p.1 hb
    obtain ⟨o, e', d⟩ := ho p.1 hb
    rw [e] at e'; cases e'
    exact ⟨e, f0, f1, f2, d⟩
theorem Inv.unpinned {pins pl : List (Addr × Obj)} {σ : St} {H : Hp} {s : Shared} (I : Inv X (pins ++ pl) σ H s) : Inv X pins σ H s := I.pins_of fun p hp => I.pin p (List.mem_append_right _ (List.mem_append_left _ hp))
theorem ps_for {iter : Expr} {body : List Stmt} {wi : TI} {g : TG} {tb : TS} {pos : Pos} (hp : PassesOwn (model X.prog X.w) X.A X.env X.xe) (hc : X.calm = true) (hi : PI X tg iter wi) (hg : PG X tg g) (hb : PSs X body tb)
    (hs : ∀ x, foldedSetIterable iter X.env x = pure x := by intro _; rfl) : PS X (.For tg iter body [] pos) (tFor wi g tb) := by
  intro pins s σ H D I h
  refine wpAny_For (thn (hi pins s σ H _ I h) fun v s1 h1 => thn h1 fun itv s2 h2 => ?_) hs
  obtain ⟨it, fp, tn, J, H2, e, I2, T, st2, f2, W, ⟨m0, w0⟩, turn⟩ := h2
  subst e
  -- what stays true of the iterator's objects through the loop
  have stat : ∀ {H' : Hp}, (∀ b ∈ fp, H' b = none) → ∀ b ∈ fp, FpOk X pins H' b := fun hn b hb => ⟨hn b hb, (f2 b hb).2⟩
  refine codeAny_forLoop_any (fun n s' => ∃ i σ' H', Inv X pins σ' H' s' ∧ tn i s'.heap ∧ (∀ b ∈ fp, H' b = none) ∧ W i n σ' H') ?_ m0 ⟨0, σ, H2, I2, st2, fun b hb => (f2 b hb).1, w0⟩
  rintro n s3 ⟨i, σ3, H3, I3, st3, fr3, w3⟩
  rcases turn i n σ3 H3 w3 with ⟨stop, qn⟩ | ⟨go, N, hN, step⟩
  · refine wpAny_passesOwn hp (thn (T.done X rfl rfl rfl hc i pins s3 σ3 H3 X.xe I3 (stat fr3) st3 stop) fun r s4 ⟨hr, I4⟩ => ?_)
    subst hr
    exact wpAny_execs_nil ⟨σ3, H3, I4, qn⟩
  · refine wpAny_passesOwn hp (thn (T.item X rfl rfl rfl hc i pins s3 σ3 H3 X.xe I3 (stat fr3) st3 go) fun r s4 ⟨u, hr, h4⟩ => ?_)
    subst hr
    refine wpAny_passesOwn hp (thn h4 fun _ s5 ⟨x, H5, I5, r5, y5, st5, fr5⟩ => ?_)
    have I5' := I5.pinned (stat fr5) (T.obj _ _ st5)
    refine wpAny_passesOwn hp (thn (hg _ s5 σ3 H5 x u _ I5' r5 (step x H5 y5)) fun _ s6 ⟨σ6, H6, I6, q6⟩ => ?_)
    refine wpAny_passesOwn hp (thn (hb _ s6 σ6 H6 _ I6 q6) fun f s7 q7 => ?_)
    have again : ∀ {σ7 : St} {H7 : Hp}, Inv X (pins ++ pinsAt fp s5.heap) σ7 H7 s7 → N σ7 H7 → ∃ m, m < n ∧ ∃ i σ' H', Inv X pins σ' H' s7 ∧ tn i s7.heap ∧ (∀ b ∈ fp, H' b = none) ∧ W i m σ' H' := fun {σ7 H7} I7 n7 => by
      obtain ⟨m', hm, w7⟩ := hN σ7 H7 n7
      refine ⟨m', hm, i + 1, σ7, H7, I7.unpinned, T.keep _ _ _ st5 fun b hb o e => (I7.pin (b, o) (List.mem_append_right _ (List.mem_append_right _ (mem_pinsAt hb e)))).1, fun b hb => ?_, w7⟩
      obtain ⟨o, e, d⟩ := T.obj _ _ st5 b hb
      exact (I7.pin (b, o) (List.mem_append_right _ (List.mem_append_right _ (mem_pinsAt hb e)))).2.1
    cases f with
    | next => obtain ⟨σ7, H7, I7, n7⟩ := q7; exact again I7 n7
    | cont => obtain ⟨σ7, H7, I7, n7⟩ := q7; exact again I7 n7
    | brk => obtain ⟨σ7, H7, I7, q7⟩ := q7; exact ⟨σ7, H7, I7.unpinned, q7⟩
    | ret v => obtain ⟨x7, σ7, H7, I7, r7, q7⟩ := q7; exact ⟨x7, σ7, H7, I7.unpinned, r7, q7⟩
end

/-! ### the forms one uses -/
/-- over a list that the body leaves as it is -/
theorem for_list {K : PySem.W.Frag} {a : Addr} {xs : List V} {g : TG} {tb : TS} {D : Ends} {σ : St} {H : Hp} (Pv : Nat → St → Hp → Prop) (h0 : Pv 0 σ H) (hl : ∀ i σ H, i ≤ xs.length → Pv i σ H → SqL K H a xs)
    (hs : ∀ i x σ H, xs[i]? = some x → Pv i σ H → g x σ H fun σ2 H2 => tb { D with nx := Pv (i + 1), ct := Pv (i + 1), bk := D.nx } σ2 H2) (hd : ∀ σ H, Pv xs.length σ H → D.nx σ H) :
    ∃ W : Nat → Nat → St → Hp → Prop, (∃ m, W 0 m σ H) ∧ ∀ i m σ H, W i m σ H →
      ((Itl K a).stop i H ∧ D.nx σ H) ∨ ((Itl K a).go i H ∧ ∃ N : St → Hp → Prop, (∀ σ' H', N σ' H' → ∃ m', m' < m ∧ W (i + 1) m' σ' H') ∧ ∀ x H', (Itl K a).yld i H x H' → g x σ H' fun σ2 H2 => tb { D with nx := N, ct := N, bk := D.nx } σ2 H2) := by
  refine ⟨fun i m σ H => m = xs.length - i ∧ i ≤ xs.length ∧ Pv i σ H, ⟨xs.length, by simp, Nat.zero_le _, h0⟩, ?_⟩
  rintro i m σ H ⟨rfl, hi, p⟩
  have q := hl i σ H hi p
  by_cases hlt : i < xs.length
  · refine .inr ⟨⟨xs, xs[i], q, by simp [hlt]⟩, Pv (i + 1), fun σ' H' p' => ⟨xs.length - (i + 1), by omega, rfl, hlt, p'⟩, fun x H' y => ?_⟩
    obtain ⟨e, y⟩ := y
    subst e
    exact hs i x σ _ (y xs q) p
  · have e : i = xs.length := by omega
    subst e
    exact .inl ⟨⟨xs, q, Nat.le_refl _⟩, hd σ H p⟩
theorem for_range {lo : Int} {n : Nat} {g : TG} {tb : TS} {D : Ends} {σ : St} {H : Hp} (Pv : Nat → St → Hp → Prop) (h0 : Pv 0 σ H)
    (hs : ∀ i σ H, i < n → Pv i σ H → g (.int (lo + i)) σ H fun σ2 H2 => tb { D with nx := Pv (i + 1), ct := Pv (i + 1), bk := D.nx } σ2 H2) (hd : ∀ σ H, Pv n σ H → D.nx σ H) :
    ∃ W : Nat → Nat → St → Hp → Prop, (∃ m, W 0 m σ H) ∧ ∀ i m σ H, W i m σ H →
      ((Itr lo n).stop i H ∧ D.nx σ H) ∨ ((Itr lo n).go i H ∧ ∃ N : St → Hp → Prop, (∀ σ' H', N σ' H' → ∃ m', m' < m ∧ W (i + 1) m' σ' H') ∧ ∀ x H', (Itr lo n).yld i H x H' → g x σ H' fun σ2 H2 => tb { D with nx := N, ct := N, bk := D.nx } σ2 H2) := by
  refine ⟨fun i m σ H => m = n - i ∧ i ≤ n ∧ Pv i σ H, ⟨n, by simp, Nat.zero_le _, h0⟩, ?_⟩
  rintro i m σ H ⟨rfl, hi, p⟩
  by_cases hlt : i < n
  · refine .inr ⟨hlt, Pv (i + 1), fun σ' H' p' => ⟨n - (i + 1), by omega, rfl, hlt, p'⟩, fun x H' y => ?_⟩
    obtain ⟨e, y⟩ := y
    subst e y
    exact hs i σ _ hlt p
  · have e : i = n := by omega
    subst e
    exact .inl ⟨Nat.le_refl _, hd σ H p⟩
end L2

namespace L2
open PySem PySem.Spec PyProof.Rows

abbrev R2 := V → V → Hp → VK → Prop
/-- a two-place operation on values: f is binaryOp op, inplaceOp op or compareOp op -/
def OpR (X : Cx) (f : Value → Value → Sem Value) (r : R2) : Prop :=
  ∀ (pins : List (Addr × Obj)) (s : Shared) (σ : St) (H : Hp) (x y : V) (v u : Value) (Q : VK), Inv X pins σ H s → RelV x v → RelV y u → r x y H Q →
    wpAny (model X.prog X.w) X.A (f v u) (EP X pins σ Q) X.xe s
/-- a one-place operation -/
def UnR (X : Cx) (f : Value → Sem Value) (r : V → Hp → VK → Prop) : Prop :=
  ∀ (pins : List (Addr × Obj)) (s : Shared) (σ : St) (H : Hp) (x : V) (v : Value) (Q : VK), Inv X pins σ H s → RelV x v → r x H Q →
    wpAny (model X.prog X.w) X.A (f v) (EP X pins σ Q) X.xe s
/-- a call of a value that is known (a builtin, a type) with values -/
def CallR (X : Cx) (f : Value) (r : List V → Hp → VK → Prop) : Prop :=
  ∀ (pins : List (Addr × Obj)) (s : Shared) (σ : St) (H : Hp) (xs : List V) (us : List Value) (Q : VK), Inv X pins σ H s → Vals xs us → r xs H Q →
    wpAny (model X.prog X.w) X.A (call f us) (EP X pins σ Q) X.xe s
/-- a value's truth -/
def TruR (X : Cx) (r : V → Hp → (Bool → Hp → Prop) → Prop) : Prop :=
  ∀ (pins : List (Addr × Obj)) (s : Shared) (σ : St) (H : Hp) (x : V) (v : Value) (Q : Bool → Hp → Prop), Inv X pins σ H s → RelV x v → r x H Q →
    wpAny (model X.prog X.w) X.A (truthy v) (TP X pins σ Q) X.xe s

def tOp (r : R2) (ta tb : TE) : TE := fun σ H Q => ta σ H fun x H1 => tb σ H1 fun y H2 => r x y H2 Q
def tUn (r : V → Hp → VK → Prop) (ta : TE) : TE := fun σ H Q => ta σ H fun x H1 => r x H1 Q
/-- ints in, under C, and a value out -/
def rI (C : Int → Int → Prop) (g : Int → Int → V) : R2 := fun x y H Q => ∃ i j, x = .int i ∧ y = .int j ∧ C i j ∧ Q (g i j) H
def rI0 (g : Int → Int → V) : R2 := fun x y H Q => ∃ i j, x = .int i ∧ y = .int j ∧ Q (g i j) H
def rU (g : Int → V) : V → Hp → VK → Prop := fun x H Q => ∃ i, x = .int i ∧ Q (g i) H

section
variable {X : Cx} {a b c : Expr} {ta tb tc : TE} {pos : Pos}

theorem binT (ha : PE X a ta) (hb : PE X b tb) {pins : List (Addr × Obj)} {s : Shared} {σ : St} {H : Hp} {R : V → V → Hp → Prop} (I : Inv X pins σ H s)
    (h : ta σ H fun x H1 => tb σ H1 fun y H2 => R x y H2) {Q : Value → Shared → Prop} {f : Value → Value → Sem Value}
    (hf : ∀ v u s2 x y H2, Inv X pins σ H2 s2 → RelV x v → RelV y u → R x y H2 → wpAny (model X.prog X.w) X.A (f v u) Q X.xe s2) :
    wpAny (model X.prog X.w) X.A (eval a X.env) (fun v s₁ => wpAny (model X.prog X.w) X.A (eval b X.env) (fun u s₂ => wpAny (model X.prog X.w) X.A (f v u) Q X.xe s₂) X.xe s₁) X.xe s := by
  refine thn (ha pins s σ H _ I h) fun v s1 ⟨x, H1, I1, r1, q1⟩ => ?_
  refine thn (hb pins s1 σ H1 _ I1 q1) fun u s2 ⟨y, H2, I2, r2, q2⟩ => ?_
  exact hf v u s2 x y H2 I2 r1 r2 q2

theorem pe_op {op : Operator} {r : R2} (ho : OpR X (binaryOp op) r) (ha : PE X a ta) (hb : PE X b tb) : PE X (.BinOp a op b pos) (tOp r ta tb) := by
  intro pins s σ H Q I h
  exact wpAny_BinOp (binT ha hb I h fun v u s2 x y H2 I2 rx ry q => ho pins s2 σ H2 x y v u Q I2 rx ry q)
theorem pe_un {op : UnaryOp} {r : V → Hp → VK → Prop} (ho : UnR X (unaryOp op) r) (ha : PE X a ta) : PE X (.UnaryOp op a pos) (tUn r ta) := by
  intro pins s σ H Q I h
  exact UnaryOp_ (thn (ha pins s σ H _ I h) fun v s1 ⟨x, H1, I1, r1, q1⟩ => ho pins s1 σ H1 x v Q I1 r1 q1)
/-! ### ints -/
theorem opI {f : Value → Value → Sem Value} {C : Int → Int → Prop} {g : Int → Int → Int}
    (rule : ∀ (i j : Int) (t u : Tok) (s : Shared) (Q : Value → Shared → Prop) (E : Value → Shared → Prop), C i j → Q (.int (g i j) s.toks) { s with toks := s.toks + 1 } → wpAny (model X.prog X.w) X.A (f (.int i t) (.int j u)) Q E s) :
    OpR X f (rI C fun i j => .int (g i j)) := by
  intro pins s σ H x y v u Q I rx ry h
  obtain ⟨i, j, rfl, rfl, hc, q⟩ := h
  obtain ⟨t, rfl⟩ := rx
  obtain ⟨t', rfl⟩ := ry
  exact rule i j t t' s _ _ hc ⟨.int (g i j), H, I.tok _, ⟨_, rfl⟩, q⟩
theorem opI0 {f : Value → Value → Sem Value} {g : Int → Int → Int}
    (rule : ∀ (i j : Int) (t u : Tok) (s : Shared) (Q : Value → Shared → Prop) (E : Value → Shared → Prop), Q (.int (g i j) s.toks) { s with toks := s.toks + 1 } → wpAny (model X.prog X.w) X.A (f (.int i t) (.int j u)) Q E s) :
    OpR X f (rI0 fun i j => .int (g i j)) := by
  intro pins s σ H x y v u Q I rx ry h
  obtain ⟨i, j, rfl, rfl, q⟩ := h
  obtain ⟨t, rfl⟩ := rx
  obtain ⟨t', rfl⟩ := ry
  exact rule i j t t' s _ _ ⟨.int (g i j), H, I.tok _, ⟨_, rfl⟩, q⟩
theorem opB0 {f : Value → Value → Sem Value} {g : Int → Int → Bool}
    (rule : ∀ (i j : Int) (t u : Tok) (s : Shared) (Q : Value → Shared → Prop) (E : Value → Shared → Prop), Q (.bool (g i j)) s → wpAny (model X.prog X.w) X.A (f (.int i t) (.int j u)) Q E s) :
    OpR X f (rI0 fun i j => .bl (g i j)) := by
  intro pins s σ H x y v u Q I rx ry h
  obtain ⟨i, j, rfl, rfl, q⟩ := h
  obtain ⟨t, rfl⟩ := rx
  obtain ⟨t', rfl⟩ := ry
  exact rule i j t t' s _ _ ⟨.bl (g i j), H, I, rfl, q⟩

def CDiv (i j : Int) : Prop := 0 < j ∧ j < 1073741824
def CMul (i j : Int) : Prop := (-(2 ^ 64) < i ∧ i < 2 ^ 64) ∨ (-(2 ^ 64) < j ∧ j < 2 ^ 64)
theorem CMul.ok {i j : Int} (h : CMul i j) : IntMulOk i j := by
  rcases h with ⟨h1, h2⟩ | ⟨h1, h2⟩
  · exact .of_left (intBits_le_64 h1 h2)
  · exact .of_right (intBits_le_64 h1 h2)
theorem op_add : OpR X (binaryOp .Add) (rI0 fun i j => .int (i + j)) := opI0 fun _ _ _ _ _ _ _ q => add_int q
theorem op_sub : OpR X (binaryOp .Sub) (rI0 fun i j => .int (i - j)) := opI0 fun _ _ _ _ _ _ _ q => sub_int q
theorem op_mul : OpR X (binaryOp .Mult) (rI CMul fun i j => .int (i * j)) := opI fun _ _ _ _ _ _ _ hc q => mul_int q hc.ok
/-- // by a positive divisor -/
theorem op_fdiv : OpR X (binaryOp .FloorDiv) (rI CDiv fun i j => .int (i / j)) := opI fun i j _ _ _ _ _ hc q => by
  have h1 : (0 : Int) < j := hc.1
  have h2 : j < 1073741824 := hc.2
  exact floordiv_int (by omega) (by rw [Int.fdiv_eq_ediv_of_nonneg i (by omega)]; exact q) (.inl (PyProof.noPylong_small (by omega)))
/-- % by a positive divisor of any size -/
theorem op_mod : OpR X (binaryOp .Mod) (rI (fun _ j => 0 < j) fun i j => .int (i % j)) := opI fun i j _ _ _ _ _ hc q => by
  have h1 : (0 : Int) < j := hc
  exact mod_int' (by omega) (by rw [Int.fmod_eq_emod_of_nonneg i (by omega)]; exact q)
theorem unI {f : Value → Sem Value} {g : Int → Int}
    (rule : ∀ (i : Int) (t : Tok) (s : Shared) (Q : Value → Shared → Prop) (E : Value → Shared → Prop), Q (.int (g i) s.toks) { s with toks := s.toks + 1 } → wpAny (model X.prog X.w) X.A (f (.int i t)) Q E s) :
    UnR X f (rU fun i => .int (g i)) := by
  intro pins s σ H x v Q I rx h
  obtain ⟨i, rfl, q⟩ := h
  obtain ⟨t, rfl⟩ := rx
  exact rule i t s _ _ ⟨.int (g i), H, I.tok _, ⟨_, rfl⟩, q⟩
theorem un_neg : UnR X (unaryOp .USub) (rU fun i => .int (-i)) := unI fun _ _ _ _ _ q => neg_int q
/-! ### bools among ints: n += (a < b) -/
end

/-! ### comparisons -/
/-- the scalars that == tells apart as data does -/
def scal : V → V → Bool
  | .non, .non => true | .non, .int _ => true | .int _, .non => true | .non, .bl _ => true | .bl _, .non => true | .non, .str _ => true | .str _, .non => true
  | .int _, .int _ => true | .bl _, .bl _ => true | .str _, .str _ => true | .byt _, .byt _ => true
  | .int _, .str _ => true | .str _, .int _ => true | .bl _, .str _ => true | .str _, .bl _ => true
  | _, _ => false
def rEq : R2 := fun x y H Q => scal x y = true ∧ Q (.bl (decide (x = y))) H
def rNe : R2 := fun x y H Q => scal x y = true ∧ Q (.bl (!decide (x = y))) H

theorem dec_int {i j : Int} : decide (V.int i = V.int j) = (i == j) := by
  rw [Bool.eq_iff_iff]
  simp
theorem dec_bl {i j : Bool} : decide (V.bl i = V.bl j) = (i == j) := by
  rw [Bool.eq_iff_iff]
  simp
theorem dec_str {i j : Str} : decide (V.str i = V.str j) = (i == j) := by
  rw [Bool.eq_iff_iff]
  simp
theorem dec_byt {i j : Array UInt8} : decide (V.byt i = V.byt j) = (i.toList == j.toList) := by
  rw [Bool.eq_iff_iff]
  cases i
  cases j
  simp

section
variable {X : Cx} {a b c : Expr} {ta tb tc : TE} {pos : Pos}
theorem fin_bl {pins : List (Addr × Obj)} {σ : St} {H : Hp} {s : Shared} {Q : VK} {k k' : Bool} (I : Inv X pins σ H s) (q : Q (.bl k) H) (e : k = k') : EP X pins σ Q (.bool k') s := by
  subst e
  exact ⟨.bl k, H, I, rfl, q⟩
theorem op_eq : OpR X (compareOp .Eq) rEq := by
  intro pins s σ H x y v u Q I rx ry h
  obtain ⟨hs, q⟩ := h
  cases x with
  | non =>
    cases rx
    cases y with
    | non => cases ry; exact PySem.EqNone.eq_none_none (fin_bl I q (by simp))
    | bl j => cases ry; exact PySem.EqNone.eq_none_bool (fin_bl I q (by simp))
    | int j => obtain ⟨t', rfl⟩ := ry; exact PySem.EqNone.eq_none_int (fin_bl I q (by simp))
    | str j => obtain ⟨t', rfl⟩ := ry; exact PySem.EqNone.eq_none_str (fin_bl I q (by simp))
    | _ => exact absurd (show false = true from hs) Bool.false_ne_true
  | bl i =>
    cases rx
    cases y with
    | non => cases ry; exact PySem.EqNone.eq_bool_none (fin_bl I q (by simp))
    | bl j => cases ry; exact eq_bool (fin_bl I q dec_bl)
    | str j => obtain ⟨t', rfl⟩ := ry; exact PySem.EqMixed.eq_bool_str (fin_bl I q (by simp))
    | _ => exact absurd (show false = true from hs) Bool.false_ne_true
  | int i =>
    obtain ⟨t, rfl⟩ := rx
    cases y with
    | non => cases ry; exact PySem.EqNone.eq_int_none (fin_bl I q (by simp))
    | int j => obtain ⟨t', rfl⟩ := ry; exact eq_int (fin_bl I q dec_int)
    | str j => obtain ⟨t', rfl⟩ := ry; exact PySem.EqMixed.eq_int_str (fin_bl I q (by simp))
    | _ => exact absurd (show false = true from hs) Bool.false_ne_true
  | str i =>
    obtain ⟨t, rfl⟩ := rx
    cases y with
    | non => cases ry; exact PySem.EqNone.eq_str_none (fin_bl I q (by simp))
    | bl j => cases ry; exact PySem.EqMixed.eq_str_bool (fin_bl I q (by simp))
    | int j => obtain ⟨t', rfl⟩ := ry; exact PySem.EqMixed.eq_str_int (fin_bl I q (by simp))
    | str j => obtain ⟨t', rfl⟩ := ry; exact eq_str (fin_bl I q dec_str)
    | _ => exact absurd (show false = true from hs) Bool.false_ne_true
  | byt i =>
    obtain ⟨t, rfl⟩ := rx
    cases y with
    | byt j => obtain ⟨t', rfl⟩ := ry; exact PySem.W.eq_bytes (fin_bl I q dec_byt)
    | _ => exact absurd (show false = true from hs) Bool.false_ne_true
  | _ => cases y <;> exact absurd (show false = true from hs) Bool.false_ne_true
theorem op_ne : OpR X (compareOp .NotEq) rNe := by
  intro pins s σ H x y v u Q I rx ry h
  obtain ⟨hs, q⟩ := h
  cases x with
  | non =>
    cases rx
    cases y with
    | non => cases ry; exact PySem.EqNone.ne_none_none (fin_bl I q (by simp))
    | bl j => cases ry; exact PySem.EqNone.ne_none_bool (fin_bl I q (by simp))
    | int j => obtain ⟨t', rfl⟩ := ry; exact PySem.EqNone.ne_none_int (fin_bl I q (by simp))
    | str j => obtain ⟨t', rfl⟩ := ry; exact PySem.EqNone.ne_none_str (fin_bl I q (by simp))
    | _ => exact absurd (show false = true from hs) Bool.false_ne_true
  | bl i =>
    cases rx
    cases y with
    | non => cases ry; exact PySem.EqNone.ne_bool_none (fin_bl I q (by simp))
    | bl j => cases ry; exact ne_bool (fin_bl I q (congrArg not dec_bl))
    | str j => obtain ⟨t', rfl⟩ := ry; exact PySem.EqMixed.ne_bool_str (fin_bl I q (by simp))
    | _ => exact absurd (show false = true from hs) Bool.false_ne_true
  | int i =>
    obtain ⟨t, rfl⟩ := rx
    cases y with
    | non => cases ry; exact PySem.EqNone.ne_int_none (fin_bl I q (by simp))
    | int j => obtain ⟨t', rfl⟩ := ry; exact ne_int (fin_bl I q (congrArg not dec_int))
    | str j => obtain ⟨t', rfl⟩ := ry; exact PySem.EqMixed.ne_int_str (fin_bl I q (by simp))
    | _ => exact absurd (show false = true from hs) Bool.false_ne_true
  | str i =>
    obtain ⟨t, rfl⟩ := rx
    cases y with
    | non => cases ry; exact PySem.EqNone.ne_str_none (fin_bl I q (by simp))
    | bl j => cases ry; exact PySem.EqMixed.ne_str_bool (fin_bl I q (by simp))
    | int j => obtain ⟨t', rfl⟩ := ry; exact PySem.EqMixed.ne_str_int (fin_bl I q (by simp))
    | str j => obtain ⟨t', rfl⟩ := ry; exact ne_str (fin_bl I q (congrArg not dec_str))
    | _ => exact absurd (show false = true from hs) Bool.false_ne_true
  | byt i =>
    obtain ⟨t, rfl⟩ := rx
    cases y with
    | byt j => obtain ⟨t', rfl⟩ := ry; exact PySem.W.ne_bytes (fin_bl I q (congrArg not dec_byt))
    | _ => exact absurd (show false = true from hs) Bool.false_ne_true
  | _ => cases y <;> exact absurd (show false = true from hs) Bool.false_ne_true

theorem op_lt : OpR X (compareOp .Lt) (rI0 fun i j => .bl (decide (i < j))) := opB0 fun _ _ _ _ _ _ _ q => lt_int q
theorem op_gt : OpR X (compareOp .Gt) (rI0 fun i j => .bl (decide (j < i))) := opB0 fun _ _ _ _ _ _ _ q => gt_int q
/-- is None, is not None: the right side a value none -/
theorem op_isN : OpR X (compareOp .Is) (fun x y H Q => y = .non ∧ Q (.bl (decide (x = .non))) H) := by
  intro pins s σ H x y v u Q I rx ry h
  obtain ⟨rfl, q⟩ := h
  cases ry
  refine is_none_gen (fin_bl I q ?_)
  cases x <;> first
    | (cases rx; rfl)
    | (obtain ⟨t, rfl⟩ := rx; rfl)
theorem op_notN : OpR X (compareOp .IsNot) (fun x y H Q => y = .non ∧ Q (.bl (!decide (x = .non))) H) := by
  intro pins s σ H x y v u Q I rx ry h
  obtain ⟨rfl, q⟩ := h
  cases ry
  refine isnot_none_gen (fin_bl I q ?_)
  cases x <;> first
    | (cases rx; rfl)
    | (obtain ⟨t, rfl⟩ := rx; rfl)

theorem op_notin_str : OpR X (compareOp .NotIn) (fun x y H Q => ∃ i j, x = .str i ∧ y = .str j ∧ Q (.bl (!(!(Builtin.Str.occurrences j i 0 j.length 1).isEmpty))) H) := by
  intro pins s σ H x y v u Q I rx ry h
  obtain ⟨i, j, rfl, rfl, q⟩ := h
  obtain ⟨t, rfl⟩ := rx
  obtain ⟨t', rfl⟩ := ry
  exact notIn_str (fin_bl I q rfl)
/-- two rules for one operation: by cases -/
theorem OpR.or {f : Value → Value → Sem Value} {r r' : R2} (h : OpR X f r) (h' : OpR X f r') : OpR X f (fun x y H Q => r x y H Q ∨ r' x y H Q) := by
  intro pins s σ H x y v u Q I rx ry q
  rcases q with q | q
  · exact h pins s σ H x y v u Q I rx ry q
  · exact h' pins s σ H x y v u Q I rx ry q

theorem nomark (b : Expr) {op : CmpOp} (h : op ≠ .In := by decide) (h2 : op ≠ .NotIn := by decide) : behindInMarks op b = false := by
  have e1 : (op == CmpOp.In) = false := by cases op <;> first | rfl | exact absurd rfl h
  have e2 : (op == CmpOp.NotIn) = false := by cases op <;> first | rfl | exact absurd rfl h2
  cases b <;> simp [behindInMarks, e1, e2]
/-- a comparison as a value; hm: nomark b, or (for in, not in) by with_unfolding_all rfl -/
theorem pe_cmpR {op : CmpOp} {r : R2} (ho : OpR X (compareOp op) r) (ha : PE X a ta) (hb : PE X b tb) (hm : behindInMarks op b = false) : PE X (.Compare a [op] [b] pos) (tOp r ta tb) := by
  intro pins s σ H Q I h
  exact wpAny_Compare1 (binT ha hb I h fun v u s2 x y H2 I2 rx ry q => ho pins s2 σ H2 x y v u Q I2 rx ry q) hm
/-- a reading of a value as a test -/
def tTest (t : TE) : TT := fun σ H Q => t σ H fun x H' => ∃ k, x = .bl k ∧ Q k H'
theorem pt_cmpR {op : CmpOp} {r : R2} (ho : OpR X (compareOp op) r) (ha : PE X a ta) (hb : PE X b tb) (hm : behindInMarks op b = false) : PT X (.Compare a [op] [b] pos) (tTest (tOp r ta tb)) := by
  intro pins s σ H Q I h
  refine wpAny_isTrue_Compare1 (thn (ha pins s σ H _ I h) fun v s1 ⟨x, H1, I1, r1, q1⟩ => thn (hb pins s1 σ H1 _ I1 q1) fun u s2 ⟨y, H2, I2, r2, q2⟩ =>
    thn (ho pins s2 σ H2 x y v u _ I2 r1 r2 q2) fun c s3 ⟨z, H3, I3, r3, k, e, q3⟩ => ?_) hm
  subst e
  cases r3
  exact wpAny_truthy_bool ⟨H3, I3, q3⟩
/-- a op1 b op2 c -/
def tChain (r r' : R2) (ta tb tc : TE) : TE := fun σ H Q => ta σ H fun x H1 => tb σ H1 fun y H2 => r x y H2 fun z H3 => ∃ k, z = .bl k ∧
  (if k = true then tc σ H3 fun w' H4 => r' y w' H4 Q else Q (.bl false) H3)
/-! ### truth -/
/-- a value's truth by the abstract heap -/
def TruV (K : PySem.W.Frag) (x : V) (H : Hp) (k : Bool) : Prop :=
  match x with
  | .non => k = false
  | .bl b => k = b
  | .int i => k = (i != 0)
  | .str y => y.length ≤ sizeLine ∧ k = ((y.length : Int) != 0)
  | .byt y => y.size ≤ sizeLine ∧ k = ((y.size : Int) != 0)
  | .ref p => (∃ xs, SqL K H p xs ∧ k = !xs.isEmpty) ∨ (∃ xs, SqT K H p xs ∧ k = !xs.isEmpty) ∨ ∃ kvs, H p = some (.dK kvs) ∧ k = !kvs.isEmpty
  | _ => False
theorem isEmpty_kv {κ : Type} {kvs : List (κ × V)} {vs : List (κ × Value)} (r : KV kvs vs) : (!vs.isEmpty) = !kvs.isEmpty := by
  cases r <;> rfl
theorem isEmpty_of {xs : List V} {its : List Value} (r : Vals xs its) : (!its.toArray.isEmpty) = !xs.isEmpty := by
  cases r <;> simp
theorem line63 : (sizeLine : Nat) < 2 ^ 63 := by rw [sizeLine_eq]; decide
theorem tru_ok : TruR X (fun x H Q => ∃ k, TruV X.K x H k ∧ Q k H) := by
  intro pins s σ H x v Q I rx h
  obtain ⟨k, e, q⟩ := h
  have hl := line63
  have hs : sizeLine = 16777216 := sizeLine_eq
  cases x with
  | non =>
    cases rx
    have e' : k = false := e
    subst e'
    exact truthy_none ⟨H, I, q⟩
  | bl b =>
    cases rx
    have e' : k = b := e
    subst e'
    exact wpAny_truthy_bool ⟨H, I, q⟩
  | int i =>
    obtain ⟨t, rfl⟩ := rx
    have e' : k = (i != 0) := e
    subst e'
    exact PySem.P.truthy_int ⟨H, I, q⟩
  | str y =>
    obtain ⟨t, rfl⟩ := rx
    obtain ⟨hy, e'⟩ : y.length ≤ sizeLine ∧ k = ((y.length : Int) != 0) := e
    subst e'
    exact PySem.P.truthy_str (by omega) ⟨H, I.tok _, q⟩
  | byt y =>
    obtain ⟨t, rfl⟩ := rx
    obtain ⟨hy, e'⟩ : y.size ≤ sizeLine ∧ k = ((y.size : Int) != 0) := e
    subst e'
    exact PySem.W.truthy_bytes (by omega) ⟨H, I.tok _, q⟩
  | ref p =>
    cases rx
    have e' : (∃ xs, SqL X.K H p xs ∧ k = !xs.isEmpty) ∨ (∃ xs, SqT X.K H p xs ∧ k = !xs.isEmpty) ∨ ∃ kvs, H p = some (.dK kvs) ∧ k = !kvs.isEmpty := e
    rcases e' with ⟨xs, hx, e'⟩ | ⟨xs, hx, e'⟩ | ⟨kvs, hx, e'⟩
    · subst e'
      obtain ⟨its, r, pl, hz⟩ := I.list hx
      have hlen := r.length
      exact wpAny_truthy_list pl.isList (by simp only [List.size_toArray]; omega) ⟨H, I.tok _, by rw [isEmpty_of r]; exact q⟩
    · subst e'
      obtain ⟨its, r, pl, hz⟩ := I.tuple hx
      have hlen := r.length
      exact truthy_tuple pl (by simp only [List.size_toArray]; omega) ⟨H, I.tok _, by rw [isEmpty_of r]; exact q⟩
    · subst e'
      obtain ⟨hz, hS, vs, r, m⟩ : kvs.length ≤ sizeLine ∧ (p == sysModules) = false ∧ ∃ vs, KV kvs vs ∧ s.heap.DictOf (mixKind X.prog X.w) p vs := I.hok p _ hx
      have hlen : kvs.length = vs.length := Paired.length r
      exact wpAny_truthy_dict hS m (by omega) ⟨H, I.tok _, by rw [isEmpty_kv r]; exact q⟩
  | _ => exact (show False from e).elim
/-- any expression whose test is its value's truth (a name, a call, a subscript, a field ..: he by fun _ => rfl) -/
theorem pt_truth (ha : PE X a ta) (he : ∀ whole, isTrue a X.env whole = (do let v ← whole; standAt a.pos; holding [v] (truthy v))) :
    PT X a (fun σ H Q => ta σ H fun x H' => ∃ k, TruV X.K x H' k ∧ Q k H') := by
  intro pins s σ H Q I h
  exact isTrue_plain (thn (ha pins s σ H _ I h) fun v s1 ⟨x, H1, I1, r1, q1⟩ => tru_ok pins s1 σ H1 x v Q I1 r1 q1) (he _)

/-! ### strs and bytes -/
theorem op_add_str : OpR X (binaryOp .Add) (fun x y H Q => ∃ i j, x = .str i ∧ y = .str j ∧ i.length + j.length ≤ sizeLine ∧ Q (.str (i ++ j)) H) := by
  intro pins s σ H x y v u Q I rx ry h
  obtain ⟨i, j, rfl, rfl, hz, q⟩ := h
  obtain ⟨t, rfl⟩ := rx
  obtain ⟨t', rfl⟩ := ry
  exact wpAny_toks (add_str (fun t' tk ht => ⟨.str (i ++ j), H, I.tok _ ht, ⟨_, rfl⟩, q⟩) hz)
/-! ### scalar builtins, by CallR -/
theorem vals1 {x : V} {us : List Value} (r : Vals [x] us) : ∃ u, us = [u] ∧ RelV x u := by
  cases r with
  | cons r1 r2 => cases r2; exact ⟨_, rfl, r1⟩
theorem vals2 {x y : V} {us : List Value} (r : Vals [x, y] us) : ∃ u w', us = [u, w'] ∧ RelV x u ∧ RelV y w' := by
  cases r with
  | cons r1 r2 =>
    cases r2 with
    | cons r3 r4 => cases r4; exact ⟨_, _, rfl, r1, r3⟩
theorem call_int1 : CallR X (.type "int") (fun xs H Q => (∃ i, xs = [.int i] ∧ Q (.int i) H) ∨ ∃ k, xs = [.bl k] ∧ Q (.int (if k then 1 else 0)) H) := by
  intro pins s σ H xs us Q I r h
  rcases h with ⟨i, rfl, q⟩ | ⟨k, rfl, q⟩
  · obtain ⟨u, rfl, t, rfl⟩ := vals1 r
    exact call_int_int ⟨.int i, H, I, ⟨_, rfl⟩, q⟩
  · obtain ⟨u, rfl, r1⟩ := vals1 r
    cases r1
    exact call_int_bool ⟨.int (if k then 1 else 0), H, I.tok _, ⟨_, rfl⟩, q⟩
theorem call_str_int : CallR X (.type "str") (fun xs H Q => ∃ i, xs = [.int i] ∧ i.natAbs.log2 < 1920 ∧ Q (.str (toString i)) H) := by
  intro pins s σ H xs us Q I r h
  obtain ⟨i, rfl, hz, q⟩ := h
  obtain ⟨u, rfl, t, rfl⟩ := vals1 r
  exact PySem.P.str_of_int hz ⟨.str _, H, I.tok _, ⟨_, rfl⟩, q⟩
end
end L2

namespace L2
open PySem PySem.Spec PyProof.Rows

/-! ### an instance, its attributes a map -/
structure ObjM (h : Heap) (x dx C : Addr) (mA : Str → Option Value) : Prop where
  obj : h.get? x = some (PySem.W.instObj C dx)
  ns : h.Ns1 dx mA
  ne : dx ≠ x

theorem lookIn_ns {h : Heap} {dx : Addr} {mA : Str → Option Value} (n : h.Ns1 dx mA) : ∃ od, h.get? dx = some od ∧ ∀ name, PySem.W.lookIn name od = some (mA name) := by
  obtain ⟨o, es, ep, ho, hd, hk, _, hm⟩ := n
  refine ⟨o, ho, fun name => ?_⟩
  have e := hm name
  unfold nsFind findBy at e
  rw [← Array.find?_toList] at e
  unfold PySem.W.lookIn
  rw [hd]
  dsimp only
  split
  · rename_i y q
    rw [q] at e
    exact congrArg some e
  · rename_i q
    rw [q] at e
    have a : es.toList.any (·.refKey) = false := by
      rw [List.any_eq_false]
      intro y hy
      obtain ⟨z, t, hkey⟩ := hk y (Array.mem_toList_iff.mp hy)
      simp [DictEntry.refKey, hkey]
    have a' : ¬ es.toList.any (·.refKey) = true := by rw [a]; exact Bool.false_ne_true
    rw [if_neg a']
    exact congrArg some e

theorem ObjM.look {h : Heap} {x dx C : Addr} {mA : Str → Option Value} (I : ObjM h x dx C mA) : ∃ od, PySem.W.InstAt h x (PySem.W.instObj C dx) C (some od) ∧ ∀ name, PySem.W.lookIn name od = some (mA name) :=
  let ⟨od, ho, hl⟩ := lookIn_ns I.ns
  ⟨od, ⟨I.obj, rfl, rfl, ho⟩, hl⟩

section
variable {prog : Program} {w : World} {A : Around} {E : Value → Shared → Prop} {s : Shared} {K : PySem.W.Frag} {x dx C f : Addr} {mA : Str → Option Value} {name : Str} {v : Value}

end

/-! ### the attributes as a list of pairs -/
theorem RelO.none_of {o : Option Value} (r : RelO none o) : o = none := by
  cases o with
  | none => rfl
  | some u => exact (show False from r).elim
section
variable {P : Program} {w : World} {H H' : Hp} {h h' : Heap} {a C dx : Addr} {fs fs' : List (Str × V)}
theorem ins_get (hok : HOk P w H h) (e : H a = some (.ins C dx fs)) : ∃ mA, ObjM h a dx C mA ∧ (∀ f, RelO (fs.lookup f) (mA f)) ∧ PySem.Within mA (fs.map (·.1)) ∧ fs.length ≤ 1000 ∧ H dx = some (.own a) := by
  obtain ⟨d, z, ne, ob, mA, n, r, q⟩ := (show ObjOk P w H h a (.ins C dx fs) from hok a _ e)
  exact ⟨mA, ⟨ob, n, ne⟩, r, q, z, d⟩
end

/-! ### what of the text a class must have -/
structure Cls (K : PySem.W.Frag) (C : Addr) : Prop where
  pg : PySem.W.plainGet K C Str.empty = true
  hd : PySem.W.hasDictIn K C = true
  po : PySem.W.plainOver K C = true
  sa : PySem.W.findIn K (.ref C) "__setattr__" = some (some (.builtin "object.__setattr__"))
theorem Cls.get {K : PySem.W.Frag} {C : Addr} (c : Cls K C) (f : Str) : PySem.W.plainGet K C f = true := c.pg
/-- a constant of the class -/
structure Con (K : PySem.W.Frag) (C : Addr) (f : Str) (v : V) (u : Value) : Prop where
  at_ : PySem.W.findIn K (.ref C) f = some (some u)
  rel : RelV v u
  get : PySem.W.specialIn K u "__get__" = some none
  cp : PySem.W.copiedNames.contains f = false
/-- a method: a plain def of the class or of one above it -/
structure Meth (K : PySem.W.Frag) (C : Addr) (m : Str) (f : Addr) : Prop where
  at_ : PySem.W.findIn K (.ref C) m = some (some (.ref f))
  fn : PySem.W.isFn K (.ref f) = true
  kp : PySem.W.keepIn K (.ref f) = true

section
variable {X : Cx} {pins : List (Addr × Obj)} {σ : St} {H : Hp} {s : Shared} {a C dx : Addr} {fs : List (Str × V)} {f : Str} {v : V} {A : Around} {E : Value → Shared → Prop}

/-- a new instance, tracked, without attributes -/
theorem Inv.made (I : Inv X pins σ H s) : Inv X pins σ (upd (upd H s.heap.objs.size (.own (s.heap.objs.size + 1))) (s.heap.objs.size + 1) (.ins C s.heap.objs.size []))
    { s with heap := (s.heap.push PySem.W.emptyDict).push (PySem.W.instObj C s.heap.objs.size) } := by
  have e1 : (s.heap.push PySem.W.emptyDict).get? s.heap.objs.size = some PySem.W.emptyDict := Heap.get?_push_size s.heap rfl
  have e2 : ((s.heap.push PySem.W.emptyDict).push (PySem.W.instObj C s.heap.objs.size)).get? (s.heap.objs.size + 1) = some (PySem.W.instObj C s.heap.objs.size) := by
    have := Heap.get?_push_size (s.heap.push PySem.W.emptyDict) (o := PySem.W.instObj C s.heap.objs.size) rfl
    rwa [Heap.size_push] at this
  have e3 : (s.heap.push PySem.W.emptyDict).Ns s.heap.objs.size (fun _ => none) := ⟨PySem.W.emptyDict, #[], _, e1, rfl, (fun e he => absurd he (by simp)), fun _ => rfl⟩
  have I1 := I.laid (a := s.heap.objs.size) (o := .own (s.heap.objs.size + 1)) (h' := s.heap.push PySem.W.emptyDict) (t' := s.toks) (fun b u q => Heap.get?_push_of_some _ q) (Nat.le_refl _) ⟨_, e1⟩
  refine I1.laid (a := s.heap.objs.size + 1) (o := .ins C s.heap.objs.size []) (t' := s.toks) (fun b u q => Heap.get?_push_of_some _ q) (Nat.le_of_eq (Heap.size_push _ _)) ?_
  have ne : s.heap.objs.size ≠ s.heap.objs.size + 1 := Nat.ne_of_lt (Nat.lt_succ_self _)
  refine ⟨by rw [upd_ne ne, upd_same], Nat.zero_le _, ne, e2, fun _ => none, (Heap.Ns1.of_empty e3).at fun o q => Heap.get?_push_of_some _ q, fun _ => True.intro, fun y hy => absurd rfl hy⟩

end

/-! ### readings and rules -/
section
variable {X : Cx} {o e value : Expr} {f : Str} {pos pos' tpos : Pos} {ta tv : TE}
end

/-! ### isinstance -/
section
variable {X : Cx} {pins : List (Addr × Obj)} {σ : St} {H : Hp} {s : Shared} {A : Around} {E : Value → Shared → Prop} {Q : Value → Shared → Prop} {c : Value} {b : Bool}
/-- the type of a value, as the fragment's deciders take it; for an instance its class -/
inductive TyOf (K : PySem.W.Frag) (H : Hp) : V → Value → Prop where
  | non : TyOf K H .non (.type "NoneType")
  | bl (x : Bool) : TyOf K H (.bl x) (.type "bool")
  | int (i : Int) : TyOf K H (.int i) (.type "int")
  | str (x : Str) : TyOf K H (.str x) (.type "str")
  | flt (x : UInt64) : TyOf K H (.flt x) (.type "float")
  | lst {a : Addr} {xs : List V} (e : H a = some (.lst xs)) : TyOf K H (.ref a) (.type "list")
  | frz {a : Addr} {o : Obj} {xs : List V} (e : H a = some (.frz o (.lst xs))) : TyOf K H (.ref a) (.type "list")
  | tup {a : Addr} {xs : List V} (e : H a = some (.tup xs)) : TyOf K H (.ref a) (.type "tuple")
  | dK {a : Addr} {kvs : List (Key × V)} (e : H a = some (.dK kvs)) : TyOf K H (.ref a) (.type "dict")
  | dT {a : Addr} {kvs : List (List Key × V)} (e : H a = some (.dT kvs)) : TyOf K H (.ref a) (.type "dict")
  | ins {a C dx : Addr} {fs : List (Str × V)} (e : H a = some (.ins C dx fs)) (cl : Cls K C) (ha : PySem.W.findIn K (.ref C) "__class__" = some (some (.builtin "object.__class__")))
      (hn : PySem.W.specialIn K (.builtin "object.__class__") "__get__" = some (some (.builtin "getset_descriptor.__get__"))) (htk : PySem.W.takesIn K (.builtin "object.__class__") = some true)
      (hm : PySem.W.mroIn K C (.type "object") = some true) : TyOf K H (.ref a) (.ref C)
/-- isinstance(x, c) for one class c, a built-in or an own one: kitOne's answer -/
theorem isinst_ok {x : V} {u t : Value} (I : Inv X pins σ H s) (rx : RelV x u) (ty : TyOf X.K H x t) (e : PySem.W.kitOne X.K t c = some b) (h : ∀ tk, Q (.bool b) { s with toks := tk }) :
    wpAny (model X.prog X.w) A (call (.builtin "isinstance") [u, c]) Q E s := by
  cases ty with
  | non => cases (show u = Value.none from rx); exact PySem.W.kia_one PySem.W.kitx_none I.kIn True.intro e (fun z => nomatch z) h
  | bl y => cases (show u = Value.bool y from rx); exact PySem.W.kia_one PySem.W.kitx_bool I.kIn True.intro e (fun z => nomatch z) h
  | int i => obtain ⟨t, q⟩ := (show ∃ t, u = Value.int i t from rx); cases q; exact PySem.W.kia_one PySem.W.kitx_int I.kIn True.intro e (fun z => nomatch z) h
  | str y => obtain ⟨t, q⟩ := (show ∃ t, u = Value.str y t from rx); cases q; exact PySem.W.kia_one PySem.W.kitx_str I.kIn True.intro e (fun z => nomatch z) h
  | flt y => obtain ⟨t, q⟩ := (show ∃ t, u = Value.float y t from rx); cases q; exact PySem.W.kia_one PySem.W.kitx_float I.kIn True.intro e (fun z => nomatch z) h
  | @lst a xs ea =>
    cases (show u = Value.ref a from rx)
    obtain ⟨_, _, n, _, h1⟩ := (show ObjOk X.prog X.w H s.heap a (.lst xs) from I.hok a _ ea)
    exact PySem.W.kia_one PySem.W.kitx_list I.kIn ⟨_, h1, rfl⟩ e (fun z => nomatch z) h
  | @frz a ob xs ea =>
    cases (show u = Value.ref a from rx)
    obtain ⟨_, _, _, n, _, h1⟩ := (show ObjOk X.prog X.w H s.heap a (.frz ob (.lst xs)) from I.hok a _ ea)
    exact PySem.W.kia_one PySem.W.kitx_list I.kIn ⟨_, h1, rfl⟩ e (fun z => nomatch z) h
  | @tup a xs ea =>
    cases (show u = Value.ref a from rx)
    obtain ⟨_, _, _, p⟩ := (show ObjOk X.prog X.w H s.heap a (.tup xs) from I.hok a _ ea)
    obtain ⟨o, h1, h2, _⟩ := p
    exact PySem.W.kia_one PySem.W.kitx_tuple I.kIn ⟨o, h1, h2⟩ e (fun z => nomatch z) h
  | @dK a kvs ea =>
    cases (show u = Value.ref a from rx)
    obtain ⟨_, _, vs, _, p⟩ := (show ObjOk X.prog X.w H s.heap a (.dK kvs) from I.hok a _ ea)
    obtain ⟨o, es, ep, h1, h2, _⟩ := p
    exact PySem.W.kia_one PySem.W.kitx_dict I.kIn ⟨o, h1, h2.1⟩ e (fun z => nomatch z) h
  | @dT a kvs ea =>
    cases (show u = Value.ref a from rx)
    obtain ⟨_, _, xs, _, o, es, ep, h1, h2, _⟩ := (show ObjOk X.prog X.w H s.heap a (.dT kvs) from I.hok a _ ea)
    exact PySem.W.kia_one PySem.W.kitx_dict I.kIn ⟨o, h1, h2.1⟩ e (fun z => nomatch z) h
  | @ins a C dx fs ea cl ha hn htk hm =>
    cases (show u = Value.ref a from rx)
    obtain ⟨mA, O, _⟩ := ins_get I.hok ea
    obtain ⟨od, J, _⟩ := O.look
    exact PySem.W.kia_one (PySem.W.kitx_own (cl.get _) cl.hd ha hn htk hm) I.kIn J e (fun z => nomatch z) h
end
end L2

namespace L2
open PySem PySem.Spec PyProof.Rows

/-! ### room -/
structure Room (k : Nat) (A : Around) : Prop where
  hd : A.handled = none
  dp : A.depth + 3 * k + 5 < recursionLimit
  un : A.units + 16 * k + 200 < cLine
theorem Room.mono {j k : Nat} {A : Around} (r : Room k A) (h : j ≤ k) : Room j A := ⟨r.hd, by have := r.dp; omega, by have := r.un; omega⟩
theorem Room.deeper {k : Nat} {A : Around} (r : Room (k + 1) A) (env : Env) : Room k (A.deeper env) :=
  ⟨r.hd, by have := r.dp; show A.depth + 1 + 3 * k + 5 < _; omega, by have := r.un; show A.units + 3 + 16 * k + 200 < _; omega⟩
theorem Room.in1 {k : Nat} {A : Around} (r : Room (k + 1) A) : Room k A.in1 :=
  ⟨r.hd, by have := r.dp; show A.depth + 3 * k + 5 < _; omega, by have := r.un; show A.units + 1 + 16 * k + 200 < _; omega⟩
theorem make_depth {A : Around} {C : Addr} {us : List Value} {kw : List (Str × Value)} : (A.under (.builtin "type.__call__" ⟨.ref C :: us, kw⟩)).depth = A.depth + 1 := by
  first | rfl | simp [Around.under, Code.weight, Code.isCreation, Code.isGuard, Code.isCaller, Code.frames, Code.isFrame, guardIds]
theorem make_units {A : Around} {C : Addr} {us : List Value} {kw : List (Str × Value)} : (A.under (.builtin "type.__call__" ⟨.ref C :: us, kw⟩)).units = A.units + 1 := by
  first | rfl | simp [Around.under, Code.cUnits, Code.frames, Code.isFrame]
theorem Room.make {k : Nat} {A : Around} (r : Room (k + 1) A) (C : Addr) (us : List Value) (kw : List (Str × Value)) : Room k (A.under (.builtin "type.__call__" ⟨.ref C :: us, kw⟩)) :=
  ⟨r.hd, by have := r.dp; rw [make_depth]; omega, by have := r.un; rw [make_units]; omega⟩
theorem Room.depth {k : Nat} {A : Around} (r : Room k A) : A.depth < recursionLimit := by have := r.dp; omega
theorem Room.units {k : Nat} {A : Around} (r : Room k A) : A.units + 64 < cLine := by have := r.un; omega
/-! ### argument lists and displays -/
def tNil : TA := fun _ H Q => Q [] H
def tCons (ta : TE) (tr : TA) : TA := fun σ H Q => ta σ H fun x H1 => tr σ H1 fun xs H2 => Q (x :: xs) H2
section
variable {X : Cx} {e : Expr} {es : List Expr} {te : TE} {t : TA} {pos : Pos}
theorem pa_nil : PA X [] tNil := fun _ _ _ _ H Q I h => Calls.spliced_nil ⟨[], H, I, .nil, h⟩
theorem pa_cons (ha : PE X e te) (hr : PA X es t) (hs : starEach (e :: es) X.env = (false, eval e X.env) :: starEach es X.env := by rfl) : PA X (e :: es) (tCons te t) := by
  intro pos pins s σ H Q I h
  rw [hs]
  show wpAny _ _ (spliced ((false, eval e X.env) :: backTo pos (starEach es X.env))) _ _ s
  refine Calls.spliced_cons (thn (ha pins s σ H _ I h) fun u s1 ⟨x, H1, I1, r1, q1⟩ => ?_)
  exact thn (hr pos pins s1 σ H1 _ I1 q1) fun us s2 ⟨xs, H2, I2, r2, q2⟩ => ⟨x :: xs, H2, I2, .cons r1 r2, q2⟩

/-- a tuple, a list of written items -/
def tTup (t : TA) : TE := fun σ H Q => t σ H fun xs H1 => xs.length ≤ sizeLine ∧ ∀ p, H1 p = none → Q (.ref p) (upd H1 p (.tup xs))
def tLst (t : TA) : TE := fun σ H Q => t σ H fun xs H1 => xs.length ≤ sizeLine ∧ ∀ p, H1 p = none → Q (.ref p) (upd H1 p (.lst xs))
theorem pe_tup {x1} (h : PA X es t) : PE X (.Tuple es x1 pos) (tTup t) := by
  intro pins s σ H Q I hq
  refine wpAny_Tuple_spliced (thn (h pos pins s σ H _ I hq) fun us s1 ⟨xs, H1, I1, r, z, q⟩ => ⟨by rw [← r.length]; exact z, ?_⟩)
  have hf : H1 s1.heap.objs.size = none := I1.hok.fresh (Nat.le_refl _)
  refine ⟨.ref s1.heap.objs.size, upd H1 s1.heap.objs.size (.tup xs), I1.laid (t' := s1.toks) (fun b u e => Heap.get?_push_of_some _ e) (Nat.le_refl _) ?_, rfl, q _ hf⟩
  exact ⟨z, us, r, ⟨_, Heap.get?_push_size _ rfl, rfl, _, rfl⟩⟩
theorem pe_lst (h : PA X es t) : PE X (.List es pos) (tLst t) := by
  intro pins s σ H Q I hq
  refine wpAny_List_spliced (thn (h pos pins s σ H _ I hq) fun us s1 ⟨xs, H1, I1, r, z, q⟩ => ⟨by rw [← r.length]; exact z, ?_⟩)
  have hf : H1 s1.heap.objs.size = none := I1.hok.fresh (Nat.le_refl _)
  refine ⟨.ref s1.heap.objs.size, upd H1 s1.heap.objs.size (.lst xs), I1.laid (t' := s1.toks) (fun b u e => Heap.get?_push_of_some _ e) (Nat.le_refl _) ?_, rfl, q _ hf⟩
  exact ⟨z, us, 0, r, Heap.get?_push_size _ rfl⟩
end

/-! ### what a def promises -/
/-- a def's promise: the bound arguments in the parameters' order, the heap, the wanted end, the wanted exception -/
abbrev Sp := List V → Hp → VK → XK → Prop
/-- how an exception lies behind a call (file 08 gives it): the callers' frames, abstract heap and state ahead of the call, the wish, the exception, the state -/
abbrev CXT := List Env → Hp → Shared → XK → Value → Shared → Prop

/-- the state at a call -/
structure Env0 (P : Program) (w : World) (K : PySem.W.Frag) (mg : Str → Option Value) (base : Heap) (A : Around) (outer : List Env) (s : Shared) (H : Hp) : Prop where
  frames : A.frames = some outer
  mod : Mod K mg base
  bs : ∀ b o, base.get? b = some o → s.heap.get? b = some o ∧ H b = none
  bsz : base.objs.size ≤ s.heap.objs.size
  funs : s.heap.FunFrames base outer
  frf : ∀ b ∈ frs outer, H b = none
  hok : HOk P w H s.heap
  bare : AllBare s.gens
  tk : 0 < s.toks
/-- a call's end -/
def CE (outer : List Env) (P : Program) (w : World) (H : Hp) (s : Shared) (Q : VK) (u : Value) (s' : Shared) : Prop :=
  ∃ v H', (s'.os = s.os ∧ s.toks ≤ s'.toks) ∧ AllBare s'.gens ∧ Un (frs outer) [] H H' s.heap s'.heap ∧ HOk P w H' s'.heap ∧ RelV v u ∧ Q v H'
def CR (CX : CXT) (outer : List Env) (P : Program) (w : World) (H : Hp) (s : Shared) (Q : VK) (E : XK) (r : Result) (s' : Shared) : Prop :=
  match r with
  | .ok (.ret u) => CE outer P w H s Q u s'
  | .ok _ => False
  | .error e => CX outer H s E e s'
structure FnOk (P : Program) (w : World) (K : PySem.W.Frag) (mg : Str → Option Value) (base : Heap) (CX : CXT) (k : Nat) (f : Addr) (fd : FuncData) (ps : List Str) (sp : Sp) : Prop where
  len : ∀ vs H Q E, sp vs H Q E → vs.length = ps.length
  run : ∀ (A : Around) (outer : List Env) (s : Shared) (H : Hp) (args : Args) (us : List Value) (vs : List V) (Q : VK) (E : XK), Room k A → Env0 P w K mg base A outer s H → BindsTo s fd args (ps.zip us) → Vals vs us → sp vs H Q E →
    codeAny (model P w) A (.call (.ref f) args) (CR CX outer P w H s Q E) s
theorem FnOk.mono {P : Program} {w : World} {K : PySem.W.Frag} {mg : Str → Option Value} {base : Heap} {CX : CXT} {j k : Nat} {f : Addr} {fd : FuncData} {ps : List Str} {sp : Sp} (F : FnOk P w K mg base CX j f fd ps sp) (h : j ≤ k) :
    FnOk P w K mg base CX k f fd ps sp := ⟨F.len, fun A outer s H args us vs Q E hr => F.run A outer s H args us vs Q E (hr.mono h)⟩
theorem Env0.make {P : Program} {w : World} {K : PySem.W.Frag} {mg : Str → Option Value} {base : Heap} {A : Around} {outer : List Env} {s : Shared} {H : Hp} (e : Env0 P w K mg base A outer s H) (C : Addr) (us : List Value) (kw : List (Str × Value)) :
    Env0 P w K mg base (A.under (.builtin "type.__call__" ⟨.ref C :: us, kw⟩)) outer s H := ⟨by first | exact e.frames | (simpa [Around.under, Code.envs, Code.isFrame, pushEnvs] using e.frames), e.mod, e.bs, e.bsz, e.funs, e.frf, e.hok, e.bare, e.tk⟩
theorem Env0.in1 {P : Program} {w : World} {K : PySem.W.Frag} {mg : Str → Option Value} {base : Heap} {A : Around} {outer : List Env} {s : Shared} {H : Hp} (e : Env0 P w K mg base A outer s H) :
    Env0 P w K mg base A.in1 outer s H := ⟨e.frames, e.mod, e.bs, e.bsz, e.funs, e.frf, e.hok, e.bare, e.tk⟩

section
variable {X : Cx} {pins : List (Addr × Obj)} {σ : St} {H : Hp} {s s' : Shared}
/-- from a body: what a callee wants -/
theorem Inv.env0 (I : Inv X pins σ H s) : Env0 X.prog X.w X.K X.mg X.base X.A X.stack s H :=
  ⟨I.ok.frames, I.ok.mod, I.bs, Nat.le_trans I.ok.bsz I.sz, I.stack, I.stkFree, I.hok, I.bare, Nat.lt_of_lt_of_le I.tk.1 I.tk.2⟩
/-- behind a call -/
theorem Inv.after {Q : VK} {u : Value} (I : Inv X pins σ H s) (h : CE X.stack X.prog X.w H s Q u s') : EP X pins σ Q u s' := by
  obtain ⟨v, H', ⟨os, ht⟩, bare, un, hok, r, q⟩ := h
  obtain ⟨hh, g, d, t, os'⟩ := s'
  obtain rfl : os' = s.os := os
  exact ⟨v, H', I.call (h' := hh) (g' := g) (d' := d) (t' := t) (ch := []) un hok bare (fun b z => absurd z (by simp)) ht, r, q⟩
end

/-! ### calls -/
/-- f(..): the written arguments, then the defaults dvs; E: what is wanted of an exception -/
def tCall (sp : Sp) (dvs : List V) (E : XK) (t : TA) : TE := fun σ H Q => t σ H fun vs H1 => sp (vs ++ dvs) H1 Q E
/-- how the parameters are bound: us the positional arguments, kw the keywords' values by name, ds the defaults that fill up -/
def Binds (K : PySem.W.Frag) (fd : FuncData) (ps : List Str) (ds : List Value) : Prop :=
  ∀ (s : Shared) (us : List Value), K.In s.heap → (us ++ ds).length = ps.length → BindsTo s fd ⟨us, []⟩ (ps.zip (us ++ ds))
/-- every parameter is given -/
theorem Binds.all {K : PySem.W.Frag} {fd : FuncData} {ps : List Str} (h : ∀ us : List Value, us.length = ps.length → bindArgs fd ⟨us, []⟩ = pure (ps.zip us)) : Binds K fd ps [] := fun s us _ hl => by
  rw [List.append_nil] at hl ⊢
  exact .of_eq (h us hl)

/-- an exception of a callee reaches what this body wants of exceptions -/
def Passes (CX : CXT) (X : Cx) (E : XK) : Prop := ∀ (pins : List (Addr × Obj)) (σ : St) (H : Hp) (s : Shared) (e : Value) (s' : Shared), Inv X pins σ H s → CX X.stack H s E e s' → X.xe e s'

section
variable {X : Cx} {CX : CXT} {k : Nat} {f C : Addr} {fd : FuncData} {ps : List Str} {sp : Sp} {dvs : List V} {ds : List Value} {E : XK} {x m : Str} {p pos apos : Pos} {e o : Expr} {es : List Expr} {ta : TE} {t : TA}

/-- the callee runs -/
theorem run_fn {pins : List (Addr × Obj)} {σ : St} {H : Hp} {s : Shared} {Q : VK} {us : List Value} {vs : List V} (F : FnOk X.prog X.w X.K X.mg X.base CX k f fd ps sp) (hr : Room k X.A) (hb : Binds X.K fd ps ds) (hd : Vals dvs ds) (hx : Passes CX X E)
    (I : Inv X pins σ H s) (r : Vals vs us) (h : sp (vs ++ dvs) H Q E) : wpAny (model X.prog X.w) X.A (call (.ref f) us) (EP X pins σ Q) X.xe s := by
  have r2 : Vals (vs ++ dvs) (us ++ ds) := r.append hd
  have hl : (us ++ ds).length = ps.length := by rw [← r2.length]; exact F.len _ _ _ _ h
  refine wpAny_call (codeAny_mono (F.run X.A X.stack s H ⟨us, []⟩ (us ++ ds) (vs ++ dvs) Q E hr I.env0 (hb s us I.kIn hl) r2 h) fun r s' hq => ?_)
  cases r with
  | error e => exact hx pins σ H s e s' I hq
  | ok fl =>
    cases fl with
    | ret u => exact I.after hq
    | next => exact False.elim hq
    | brk => exact False.elim hq
    | cont => exact False.elim hq

theorem pe_call (F : FnOk X.prog X.w X.K X.mg X.base CX k f fd ps sp) (hr : Room k X.A) (hg : Gl X x) (hm : X.mg x = some (.ref f)) (hk : PySem.W.keepIn X.K (.ref f) = true) (hb : Binds X.K fd ps ds) (hd : Vals dvs ds) (hx : Passes CX X E)
    (ha : PA X (e :: es) t) (hdb : (x == ("__debug__" : Str)) = false := by decide) (he : starEach (e :: es) X.env = (false, eval e X.env) :: starEach es X.env := by rfl) (hpl : (backTo pos (starEach es X.env)).any (·.1) = false := by rfl) :
    PE X (.Call (.Name x p) (e :: es) [] pos) (tCall sp dvs E t) := by
  intro pins s σ H Q I h
  refine wpAny_Call_Name_kw (ld_glob I hg hm ?_ hdb)
  refine PySem.W.callWith_K (h₀ := X.base) I.ok.mod.kin hk (thn (ha pos pins s σ H _ I h) fun us s1 ⟨vs, H1, I1, r, q⟩ => ⟨I1.kIn, ?_⟩) he hpl
  exact run_fn F hr hb hd hx I1 r q
/-- what a class must have to be made -/
structure Mk (K : PySem.W.Frag) (C f : Addr) : Prop where
  makes : PySem.W.makesIn K C = true
  init : PySem.W.findIn K (.ref C) "__init__" = some (some (.ref f))
  fn : PySem.W.isFn K (.ref f) = true
  kp : PySem.W.keepIn K (.ref C) = true

end

/-! ### keywords -/
section
variable {X : Cx} {CX : CXT} {k : Nat} {f C : Addr} {fd : FuncData} {ps ks : List Str} {sp : Sp} {E : XK} {x m : Str} {p pos apos kpos : Pos} {e o : Expr} {es : List Expr} {kws : List Keyword} {te ta : TE} {t tk : TA} {nm : Option Str}
/-- how a call with keywords binds: g puts the positional values us and the keywords' values ws (names ks) in the parameters' order, defaults among them -/
structure KBinds (K : PySem.W.Frag) (fd : FuncData) (ps ks : List Str) (g : List Value → List Value → List Value) (gV : List V → List V → List V) : Prop where
  to : ∀ (s : Shared) (us ws : List Value), K.In s.heap → (g us ws).length = ps.length → BindsTo s fd ⟨us, ks.zip ws⟩ (ps.zip (g us ws))
  rel : ∀ {vs : List V} {us : List Value} {zs : List V} {ws : List Value}, Vals vs us → Vals zs ws → Vals (gV vs zs) (g us ws)
variable {g : List Value → List Value → List Value} {gV : List V → List V → List V}
end

/-! ### a def's body keeps its promise -/
/-- names: the parameters first -/
structure FnScope (N P : List Str) (sc : Scope) : Prop where
  kind : sc.kind = .function
  co : sc.isCoroutine = false
  gen : sc.isGenerator = false
  nd : N.Nodup
  pre : N.take P.length = P
  par : ∀ x ∈ P, sc.names.lookup x = some .local ∨ sc.names.lookup x = some .cell
  nofree : ∀ y ∈ sc.names, y.2 ≠ .free

theorem bindL_out {kindOf : Str → Option NameKind} {x : Str} : ∀ {binds : List (Str × Value)} {m : Str → Option Value}, (∀ v, (x, v) ∉ binds) → bindL kindOf binds m x = m x
  | [], _, _ => rfl
  | (n, v) :: r, m, h => by
    unfold bindL
    rw [bindL_out fun w hw => h w (List.mem_cons_of_mem _ hw)]
    split
    · have : x ≠ n := by rintro rfl; exact h v List.mem_cons_self
      simp [this]
    · rfl
theorem bindC_out {kindOf : Str → Option NameKind} {x : Str} : ∀ {binds : List (Str × Value)} {m : Str → Option Value}, (∀ v, (x, v) ∉ binds) → bindC kindOf binds m x = m x
  | [], _, _ => rfl
  | (n, v) :: r, m, h => by
    unfold bindC
    rw [bindC_out fun w hw => h w (List.mem_cons_of_mem _ hw)]
    split
    · rfl
    · have : x ≠ n := by rintro rfl; exact h v List.mem_cons_self
      simp [this]
theorem bindL_get {kindOf : Str → Option NameKind} {x : Str} {v : Value} : ∀ {P : List Str} {vs : List Value} {i : Nat} {m : Str → Option Value}, P.Nodup → P[i]? = some x → vs[i]? = some v → kindOf x = some .local →
    bindL kindOf (P.zip vs) m x = some v
  | [], _, _, _, _, h, _, _ => by simp at h
  | _ :: _, [], _, _, _, _, h, _ => by simp at h
  | p :: P, w :: vs, 0, m, nd, h1, h2, hk => by
    simp at h1 h2; subst h1; subst h2
    show bindL kindOf ((p, w) :: P.zip vs) m p = _
    unfold bindL
    rw [bindL_out fun v hv => (List.nodup_cons.mp nd).1 (List.of_mem_zip hv).1, if_pos hk]
    simp
  | p :: P, w :: vs, i + 1, m, nd, h1, h2, hk => by
    show bindL kindOf ((p, w) :: P.zip vs) m x = _
    unfold bindL
    exact bindL_get (i := i) (List.nodup_cons.mp nd).2 (by simpa using h1) (by simpa using h2) hk
theorem bindC_get {kindOf : Str → Option NameKind} {x : Str} {v : Value} : ∀ {P : List Str} {vs : List Value} {i : Nat} {m : Str → Option Value}, P.Nodup → P[i]? = some x → vs[i]? = some v → kindOf x ≠ some .local →
    bindC kindOf (P.zip vs) m x = some v
  | [], _, _, _, _, h, _, _ => by simp at h
  | _ :: _, [], _, _, _, _, h, _ => by simp at h
  | p :: P, w :: vs, 0, m, nd, h1, h2, hk => by
    simp at h1 h2; subst h1; subst h2
    show bindC kindOf ((p, w) :: P.zip vs) m p = _
    unfold bindC
    rw [bindC_out fun v hv => (List.nodup_cons.mp nd).1 (List.of_mem_zip hv).1, if_neg hk]
    simp
  | p :: P, w :: vs, i + 1, m, nd, h1, h2, hk => by
    show bindC kindOf ((p, w) :: P.zip vs) m x = _
    unfold bindC
    exact bindC_get (i := i) (List.nodup_cons.mp nd).2 (by simpa using h1) (by simpa using h2) hk

/-- the names' values at the entry -/
def start (N : List Str) (vs : List V) : St := vs.map some ++ List.replicate (N.length - vs.length) none

/-- the context of a def's body, at its entry; an exception leaves the frame, then lies as CX says -/
def cxOf (CX : CXT) (P : Program) (w : World) (K : PySem.W.Frag) (mg : Str → Option Value) (base : Heap) (N : List Str) (qual : Str) (scope : Scope) (f : Addr) (cd : Value) (A : Around) (outer : List Env) (s : Shared) (H : Hp) (E : XK) : Cx where
  prog := P
  w := w
  K := K
  mg := mg
  base := base
  A := A.deeper (envOfC qual scope s.heap.objs.size f cd)
  N := N
  s₀ := s
  H₀ := H
  env := envOfC qual scope s.heap.objs.size f cd
  outer := outer
  stack := envOfC qual scope s.heap.objs.size f cd :: outer
  ex := []
  calm := true
  fn := fun _ => true
  pn := []
  xe := fun e s' => wpAny (model P w) (A.deeper (envOfC qual scope s.heap.objs.size f cd)) (leaving (envOfC qual scope s.heap.objs.size f cd) e) (fun _ s'' => CX outer H s E e s'') (fun e' s'' => CX outer H s E e' s'') s'

theorem cell_has {sc : Scope} {n : Nat} {x : Str} (h : sc.names.lookup x = some .cell) : ∃ c, (cellsFrom n sc.names []).lookup x = some c := by
  have q := PySem.W.cellsFrom_some sc.names n [] (.inl h)
  exact Option.isSome_iff_exists.mp q

theorem inv_start {CX : CXT} {P : Program} {w : World} {K : PySem.W.Frag} {mg : Str → Option Value} {base : Heap} {N ps : List Str} {qual : Str} {scope : Scope} {f : Addr} {cd : Value} {A : Around} {outer : List Env} {s s1 : Shared} {H : Hp} {E : XK} {us : List Value} {vs : List V}
    (S : FnScope N ps scope) (hd : A.handled = none) (hst : s.toks ≤ s1.toks) (e0 : Env0 P w K mg base A outer s H) (hl : vs.length = ps.length) (r : Vals vs us)
    (x : InCallC s s.heap.objs.size (bindL (envOfC qual scope s.heap.objs.size f cd).kindOf (ps.zip us) fun _ => none) (cellsFrom (s.heap.objs.size + 1) scope.names []) (bindC (envOfC qual scope s.heap.objs.size f cd).kindOf (ps.zip us) fun _ => none) s1) :
    Inv (cxOf CX P w K mg base N qual scope f cd A outer s H E) [] (start N vs) H s1 := by
  have hpl : ps.length ≤ N.length := by have := congrArg List.length S.pre; rw [List.length_take] at this; omega
  obtain ⟨h1, tk, rfl, hk⟩ := x.done
  have noA : ∀ b : Addr, b ∉ (cxOf CX P w K mg base N qual scope f cd A outer s H E).ex := fun b z => absurd (show b ∈ ([] : List Addr) from z) (by simp)
  refine ⟨⟨e0.mod, S.kind, rfl, rfl, Nat.le_refl _, fun y z c h1 h2 => ?_, fun y hy => ?_, fun y c _ h => ?_, fun _ => hd, Around.frames_deeper e0.frames, .inr ⟨rfl, rfl⟩, fun b z => absurd z (noA b), e0.bs, e0.bsz, fun b _ _ => noA b, fun b z => absurd z (noA b), e0.funs, e0.frf⟩,
    rfl, e0.bare, Un.kept hk, ⟨_, x.toInCall.ns, fun i y v h1 h2 h3 => ?_⟩, fun y c h => ⟨_, x.cell y c h⟩, e0.hok.fresh (Nat.le_refl _), fun y c h => ?_, fun p hp => absurd (show p ∈ ([] : List (Addr × Obj)) from hp) (by simp), e0.hok.kept hk, ?_, ⟨e0.tk, hst⟩⟩
  · exact name_of_addr x.apart (PySem.mem_of_lookup h1) (PySem.mem_of_lookup h2)
  · have hy : scope.names.lookup y = some .cell ∨ scope.names.lookup y = some .free := hy
    rcases hy with hy | hy
    · exact cell_has hy
    · exact absurd rfl (S.nofree _ (PySem.mem_of_lookup hy))
  · exact Nat.le_of_lt (x.above y c (PySem.mem_of_lookup h))
  · have hi : i < vs.length := by
      unfold start at h2
      by_cases hi : i < vs.length
      · exact hi
      · rw [List.getElem?_append_right (by simpa using hi)] at h2
        rw [List.getElem?_replicate] at h2
        split at h2 <;> cases h2
    have ha : vs[i]? = some v := by
      unfold start at h2
      rw [List.getElem?_append_left (by simpa using hi), List.getElem?_map] at h2
      cases e : vs[i]? with
      | none => rw [e] at h2; cases h2
      | some a => rw [e] at h2; cases h2; rfl
    obtain ⟨u, hu, rv⟩ := r.get ha
    have hp : ps[i]? = some y := by
      rw [← S.pre, List.getElem?_take_of_lt (by omega)]; exact h1
    have ndP : ps.Nodup := by rw [← S.pre]; exact S.nd.sublist (List.take_sublist _ _)
    refine ⟨u, rv, ?_⟩
    rcases S.par y (List.mem_of_getElem? hp) with k | k
    · exact .inl ⟨k, bindL_get ndP hp hu k⟩
    · obtain ⟨c, e⟩ := cell_has (n := s.heap.objs.size + 1) k
      refine .inr ⟨.inl k, c, e, ?_⟩
      have q := x.cell y c e
      rw [bindC_get ndP hp hu (by show scope.names.lookup y ≠ _; rw [k]; decide)] at q
      exact q
  · exact e0.hok.fresh (Nat.le_of_lt (x.above y c (PySem.mem_of_lookup h)))
  · unfold start
    show _ = N.length
    rw [List.length_append, List.length_map, List.length_replicate]
    omega

/-- THE RULE: a def (or a method) of the text, by its body. The body's reading t is chosen for each entry; it is run at the parameters' values -/
theorem fn_of {CX : CXT} {P : Program} {w : World} {K : PySem.W.Frag} {mg : Str → Option Value} {base : Heap} {k : Nat} {f : Addr} {name qual : Str} {params : Arguments} {body : List Stmt} {scope : Scope} {dV kV doc pm cdv ct oc : Value} {an od : Option Addr}
    {osl : Array (Option Value)} {N ps : List Str} {sp : Sp} (lk : K.lookup f = some ⟨oc, od, .func (PySem.W.fnOf name qual params body scope dV kV doc pm an cdv ct), osl⟩) (hcd : PySem.W.codeIn K cdv qual = true) (S : FnScope N ps scope)
    (len : ∀ vs H Q E, sp vs H Q E → vs.length = ps.length)
    (hbody : ∀ (A : Around) (outer : List Env) (s : Shared) (H : Hp) (vs : List V) (Q : VK) (E : XK), Room k (A.deeper (envOfC qual scope s.heap.objs.size f cdv)) → sp vs H Q E →
      ∃ t, PSs (cxOf CX P w K mg base N qual scope f cdv A outer s H E) body t ∧ t { nx := fun _ H' => Q .non H', rt := Q } (start N vs) H) :
    FnOk P w K mg base CX (k + 1) f (PySem.W.fnOf name qual params body scope dV kV doc pm an cdv ct) ps sp := by
  refine ⟨len, fun A outer s H args us vs Q E hr e0 hb r hsp => ?_⟩
  have hl := len _ _ _ _ hsp
  have KX : K.In s.heap := e0.mod.kin.keeps fun b o e => (e0.bs b o e).1
  have lim : s.heap.NoLimit := e0.mod.nolimit.keeps fun b o e => (e0.bs b o e).1
  have hkind : ∀ y ∈ ps.zip us, scope.names.lookup y.1 = some .local ∨ (scope.names.lookup y.1 = some .cell ∧ ((cellsFrom (s.heap.objs.size + 1) scope.names []).lookup y.1).isSome = true) := fun ⟨n, v⟩ hy => by
    rcases S.par n (List.of_mem_zip hy).1 with q | q
    · exact .inl q
    · exact .inr ⟨q, PySem.W.cellsFrom_some _ _ _ (.inl q)⟩
  refine codeAny_call_function hr.depth (KX _ _ lk) rfl S.co S.gen rfl (PySem.W.codeRec_of KX hcd) (hb _ _ _ _ ?_)
  refine wpAny_toks (wpAny_newFunctionEnv_cells S.kind hkind fun env he s1 x hst => ?_)
  subst he
  refine ⟨lim.keeps x.toInCall.keep, codeAny_func ?_⟩
  obtain ⟨t, ht, hq⟩ := hbody A outer s H vs Q E (hr.deeper _) hsp
  have I : Inv (cxOf CX P w K mg base N qual scope f cdv A outer s H E) [] (start N vs) H s1 := inv_start S hr.hd hst e0 hl r x
  refine wpAny_mono (ht [] s1 (start N vs) H _ I hq) (fun fl s' hs => ?_) fun e s' hs => hs
  have fin : ∀ {σ' : St} {H' : Hp} {v : V} {u : Value}, Inv (cxOf CX P w K mg base N qual scope f cdv A outer s H E) [] σ' H' s' → RelV v u → Q v H' → CE outer P w H s Q u s' :=
    fun {σ' H' v u} J rv q => ⟨v, H', ⟨J.os, J.tk.2⟩, J.bare, J.base, J.hok, rv, q⟩
  cases fl with
  | ret u =>
    obtain ⟨v, σ', H', J, rv, q⟩ := hs
    exact fin J rv q
  | next =>
    obtain ⟨σ', H', J, q⟩ := hs
    exact fin (v := V.non) (u := Value.none) J rfl q
  | brk =>
    obtain ⟨_, _, _, q⟩ := hs
    exact False.elim q
  | cont =>
    obtain ⟨_, _, _, q⟩ := hs
    exact False.elim q
end L2

namespace L2
open PySem PySem.Spec PyProof.Rows
section
variable {X : Cx} {x : Str} {p pos : Pos} {e : Expr} {es : List Expr} {t : TA} {id T : String} {r : List V → Hp → VK → Prop}

def tCB (r : List V → Hp → VK → Prop) (t : TA) : TE := fun σ H Q => t σ H fun vs H1 => r vs H1 Q
/-- f(e, ..), f a built-in function -/
theorem pe_callB (hc : CallR X (.builtin id) r) (hg : Gl X x) (hm : X.mg x = none) (hv : bootBuiltins x = some (.builtin id)) (ha : PA X (e :: es) t) (hn : x ≠ "__name__" := by decide) (hdb : (x == ("__debug__" : Str)) = false := by decide)
    (he : starEach (e :: es) X.env = (false, eval e X.env) :: starEach es X.env := by rfl) (hpl : (backTo pos (starEach es X.env)).any (·.1) = false := by rfl) : PE X (.Call (.Name x p) (e :: es) [] pos) (tCB r t) := by
  intro pins s σ H Q I h
  refine wpAny_Call_Name_kw (ld_blt I hg hm hv ?_ hn hdb)
  exact PyProof.Rows.callWith_builtin1 (thn (ha pos pins s σ H _ I h) fun us s1 ⟨vs, H1, I1, r1, q1⟩ => hc pins s1 σ H1 vs us Q I1 r1 q1) he hpl
/-- T(e, ..), T a built-in type -/
theorem pe_callTy (hc : CallR X (.type T) r) (hg : Gl X x) (hm : X.mg x = none) (hv : bootBuiltins x = some (.type T)) (ha : PA X (e :: es) t) (hn : x ≠ "__name__" := by decide) (hdb : (x == ("__debug__" : Str)) = false := by decide)
    (he : starEach (e :: es) X.env = (false, eval e X.env) :: starEach es X.env := by rfl) (hpl : (backTo pos (starEach es X.env)).any (·.1) = false := by rfl) : PE X (.Call (.Name x p) (e :: es) [] pos) (tCB r t) := by
  intro pins s σ H Q I h
  refine wpAny_Call_Name_kw (ld_blt I hg hm hv ?_ hn hdb)
  exact PyProof.Rows.callWith_type1 (thn (ha pos pins s σ H _ I h) fun us s1 ⟨vs, H1, I1, r1, q1⟩ => hc pins s1 σ H1 vs us Q I1 r1 q1) he hpl
end
end L2

namespace HT
open PySem PyProof.Rows

section
open PySem.SeqAt
open PySem.AutoSeq1 (wpAny_loadPart')
open PySem.MeetsSeq PySem.MeetsSeq2 PySem.MeetsSeq3

end

section
variable {prog : Program} {w : World} {A : Around} {E : Value → Shared → Prop} {s : Shared}

/-! ### t[a:b], not the whole -/
/-- a slice's bound as a place among n (d where it is left out) -/
def sIx (n d : Nat) : Option Int → Nat
  | none => d
  | some v => if v < 0 then (v + (n : Int)).toNat else min v.toNat n
theorem sIx_none (n d : Nat) : sIx n d none = d := rfl
theorem sIx_nat (n d k : Nat) : sIx n d (some (k : Int)) = min k n := by
  show (if (k : Int) < 0 then ((k : Int) + (n : Int)).toNat else min (k : Int).toNat n) = min k n
  rw [if_neg (by omega), Int.toNat_natCast]
end
end HT

namespace L2
open PySem PySem.Spec PyProof.Rows

/-! ### the parts of a slice -/
abbrev TO := St → Hp → (Option Int → Hp → Prop) → Prop
/-- a slice's part (left out, or an int) -/
def PO (X : Cx) (e : Option Expr) (t : TO) : Prop :=
  ∀ (pins : List (Addr × Obj)) (s : Shared) (σ : St) (H : Hp) (Q : Option Int → Hp → Prop), Inv X pins σ H s → t σ H Q →
    wpAny (model X.prog X.w) X.A (evalPart e X.env) (fun u s' => ∃ o H', Inv X pins σ H' s' ∧ IsPart u o ∧ Q o H') X.xe s
def tNoPart : TO := fun _ H Q => Q none H
def tPart (t : TE) : TO := fun σ H Q => t σ H fun x H1 => ∃ i, x = .int i ∧ Q (some i) H1

theorem intsAre_of {ns : List Int} : ∀ {us : List Value}, Vals (ns.map V.int) us → IntsAre us ns := by
  induction ns with
  | nil => intro us r; rw [List.map_nil] at r; cases r; exact .nil
  | cons n ns ih =>
    intro us r
    rw [List.map_cons] at r
    cases r with
    | cons r1 r2 =>
      obtain ⟨t, e⟩ := r1
      subst e
      exact .cons n t (ih r2)

section
variable {X : Cx} {e : Expr} {te : TE} {lo hi : Option Expr} {tl th : TO} {pos p2 : Pos}

theorem po_none : PO X none tNoPart := by
  intro pins s σ H Q I h
  rw [evalPart_none]
  exact wpAny_pure ⟨none, H, I, .none, h⟩
theorem po_some (h : PE X e te) : PO X (some e) (tPart te) := by
  intro pins s σ H Q I hw
  rw [evalPart_some]
  refine thn (h pins s σ H _ I hw) fun u s1 ⟨x, H1, I1, r1, q1⟩ => ?_
  obtain ⟨i, rfl, q⟩ := q1
  obtain ⟨t, rfl⟩ := r1
  exact ⟨some i, H1, I1, .int i t, q⟩

/-- what a slice of a value is, by values: the slice object stands at sl -/
def SlR (X : Cx) (r : V → Option Int → Option Int → Hp → VK → Prop) : Prop :=
  ∀ (pins : List (Addr × Obj)) (s : Shared) (σ : St) (H : Hp) (x : V) (v vl vu : Value) (lo hi : Option Int) (sl : Addr) (Q : VK), Inv X pins σ H s → RelV x v → s.heap.IsSliceOf sl vl vu .none → IsPart vl lo → IsPart vu hi → r x lo hi H Q →
    ∃ T id, typeLookup (.type T) "__getitem__" = pure (some (.builtin id)) ∧ s.TypeIs v T ∧ wpAny (model X.prog X.w) X.A (getItem v (.ref sl)) (EP X pins σ Q) X.xe s
theorem SlR.or {r r' : V → Option Int → Option Int → Hp → VK → Prop} (h : SlR X r) (h' : SlR X r') : SlR X (fun x lo hi H Q => r x lo hi H Q ∨ r' x lo hi H Q) := by
  intro pins s σ H x v vl vu lo hi sl Q I rx hs pl pu q
  rcases q with q | q
  · exact h pins s σ H x v vl vu lo hi sl Q I rx hs pl pu q
  · exact h' pins s σ H x v vl vu lo hi sl Q I rx hs pl pu q
def tSl (r : V → Option Int → Option Int → Hp → VK → Prop) (te : TE) (tl th : TO) : TE := fun σ H Q => te σ H fun x H1 => tl σ H1 fun l H2 => th σ H2 fun u H3 => r x l u H3 Q
/-- a[lo:hi], any a -/
theorem pe_slice {r : V → Option Int → Option Int → Hp → VK → Prop} (hr : SlR X r) (he : PE X e te) (hl : PO X lo tl) (hu : PO X hi th) : PE X (.Subscript e (.Slice lo hi none p2) pos) (tSl r te tl th) := by
  intro pins s σ H Q I h
  refine Subscript_ (thn (he pins s σ H _ I h) fun v s1 ⟨x, H1, I1, r1, q1⟩ => ?_)
  refine wpAny_Slice (thn (hl pins s1 σ H1 _ I1 q1) fun vl s2 ⟨l, H2, I2, pl, q2⟩ => thn (hu pins s2 σ H2 _ I2 q2) fun vu s3 ⟨u, H3, I3, pu, q3⟩ => ?_)
  rw [evalPart_none]
  refine wpAny_pure ?_
  have I4 : Inv X pins σ H3 { s3 with heap := s3.heap.push { cls := .type "slice", data := .fields #[vl, vu, .none] } } := I3.kept (t' := s3.toks) fun b ob q => Heap.get?_push_of_some _ q
  obtain ⟨T, id, hT, ht, hg⟩ := hr pins { s3 with heap := s3.heap.push { cls := .type "slice", data := .fields #[vl, vu, .none] } } σ H3 x v vl vu l u s3.heap.objs.size Q I4 r1 (Heap.IsSliceOf.new ..) pl pu q3
  show wpAny (model X.prog X.w) X.A (subscriptTail e (.Slice lo hi none p2) v (.ref s3.heap.objs.size)) (EP X pins σ Q) X.xe { s3 with heap := s3.heap.push { cls := .type "slice", data := .fields #[vl, vu, .none] } }
  exact tail_any (ops := [.ref s3.heap.objs.size, v]) ht hT hg (by with_unfolding_all rfl)

/-- the items of xs[lo:hi] -/
def cutV (xs : List V) (lo hi : Option Int) : List V := (xs.drop (HT.sIx xs.length 0 lo)).take (HT.sIx xs.length xs.length hi - HT.sIx xs.length 0 lo)
theorem cutV_length (xs : List V) (lo hi : Option Int) : (cutV xs lo hi).length ≤ xs.length := by
  unfold cutV
  rw [List.length_take, List.length_drop]
  omega
/-! ### t < u, t + u -/
end
end L2

namespace L2
open PySem PySem.Spec PyProof.Rows

/-! ### places -/
/-- the place that an index of any sign means -/
def ixN (n : Nat) (i : Int) : Option Nat := if 0 ≤ i then (if i < n then some i.toNat else none) else if -(n : Int) ≤ i then some (i + n).toNat else none
def atI {α : Type} (xs : List α) (i : Int) : Option α := (ixN xs.length i).bind fun j => xs[j]?
theorem ixN_seq {n : Nat} {i : Int} {j : Nat} (h : ixN n i = some j) : seqIndex? i n = some j ∧ j < n ∧ -(n : Int) ≤ i ∧ i < n := by
  unfold ixN at h
  by_cases h0 : 0 ≤ i
  · rw [if_pos h0] at h
    by_cases h1 : i < n
    · rw [if_pos h1] at h
      have e : i.toNat = j := Option.some.inj h
      exact ⟨by rw [seqIndex_of h0 h1, e], by omega, by omega, h1⟩
    · rw [if_neg h1] at h; cases h
  · rw [if_neg h0] at h
    by_cases h1 : -(n : Int) ≤ i
    · rw [if_pos h1] at h
      have e : (i + n).toNat = j := Option.some.inj h
      exact ⟨by rw [seqIndex_neg (by omega) h1, e], by omega, h1, by omega⟩
    · rw [if_neg h1] at h; cases h
theorem atI_get {α : Type} {xs : List α} {i : Int} {v : α} (h : atI xs i = some v) : ∃ j, seqIndex? i xs.length = some j ∧ xs[j]? = some v ∧ j < xs.length ∧ -(xs.length : Int) ≤ i ∧ i < xs.length := by
  unfold atI at h
  cases e : ixN xs.length i with
  | none => rw [e] at h; cases h
  | some j =>
    rw [e] at h
    obtain ⟨h1, h2, h3, h4⟩ := ixN_seq e
    exact ⟨j, h1, h, h2, h3, h4⟩
theorem atI_nat {α : Type} {xs : List α} {j : Nat} {v : α} (h : xs[j]? = some v) : atI xs (j : Int) = some v := by
  have hj : j < xs.length := (List.getElem?_eq_some_iff.mp h).1
  have e : ixN xs.length (j : Int) = some j := by
    unfold ixN
    rw [if_pos (by omega), if_pos (by omega)]; simp
  unfold atI; rw [e]; exact h
/-! ### what may be subscripted -/
/-- what stands as an index of a plain subscript -/
def PlainIx (b : Expr) : Prop := ∀ o i, subscripted b false o i = operate [o, i] (getItem o i)
/-- a subscript by values -/
def IxR (X : Cx) (r : R2) : Prop :=
  ∀ (value slice : Expr) (pins : List (Addr × Obj)) (s : Shared) (σ : St) (H : Hp) (x y : V) (v u : Value) (Q : VK), Inv X pins σ H s → RelV x v → RelV y u → r x y H Q →
    subscripted slice false v u = operate [v, u] (getItem v u) → wpAny (model X.prog X.w) X.A (subscriptTail value slice v u) (EP X pins σ Q) X.xe s
/-- a call of a builtin's method by values: the receiver, the arguments -/
def MtR (X : Cx) (id : String) (r : V → List V → Hp → VK → Prop) : Prop :=
  ∀ (pins : List (Addr × Obj)) (s : Shared) (σ : St) (H : Hp) (x : V) (xs : List V) (v : Value) (us : List Value) (Q : VK), Inv X pins σ H s → RelV x v → Vals xs us → r x xs H Q →
    wpAny (model X.prog X.w) X.A (call (.builtin id) (v :: us)) (EP X pins σ Q) X.xe s
section
variable {X : Cx} {a b : Expr} {ta tb : TE} {pos : Pos}
theorem IxR.or {r r' : R2} (h : IxR X r) (h' : IxR X r') : IxR X (fun x y H Q => r x y H Q ∨ r' x y H Q) := by
  intro value slice pins s σ H x y v u Q I rx ry q hs
  rcases q with q | q
  · exact h value slice pins s σ H x y v u Q I rx ry q hs
  · exact h' value slice pins s σ H x y v u Q I rx ry q hs
theorem MtR.or {id : String} {r r' : V → List V → Hp → VK → Prop} (h : MtR X id r) (h' : MtR X id r') : MtR X id (fun x xs H Q => r x xs H Q ∨ r' x xs H Q) := by
  intro pins s σ H x xs v us Q I rx rs q
  rcases q with q | q
  · exact h pins s σ H x xs v us Q I rx rs q
  · exact h' pins s σ H x xs v us Q I rx rs q
/-- a[b] -/
theorem pe_ix {r : R2} (hr : IxR X r) (ha : PE X a ta) (hb : PE X b tb) (hs : PlainIx b) : PE X (.Subscript a b pos) (tOp r ta tb) := by
  intro pins s σ H Q I h
  exact Subscript_ (binT ha hb I h fun v u s2 x y H2 I2 rx ry q => hr a b pins s2 σ H2 x y v u Q I2 rx ry q (hs _ _))

def rIxL (K : PySem.W.Frag) : R2 := fun x y H Q => ∃ p xs i v, x = .ref p ∧ y = .int i ∧ SqL K H p xs ∧ atI xs i = some v ∧ Q v H
def rIxT (K : PySem.W.Frag) : R2 := fun x y H Q => ∃ p xs i v, x = .ref p ∧ y = .int i ∧ SqT K H p xs ∧ atI xs i = some v ∧ Q v H
def rIxS : R2 := fun x y H Q => ∃ z i c, x = .str z ∧ y = .int i ∧ z.length ≤ sizeLine ∧ atI z.cps.toList i = some c ∧ Q (.str ⟨#[c]⟩) H
theorem ix_list : IxR X (rIxL X.K) := by
  intro value slice pins s σ H x y v u Q I rx ry h hs
  obtain ⟨p, xs, i, z, rfl, rfl, hq, he, q⟩ := h
  cases rx
  obtain ⟨t, rfl⟩ := ry
  obtain ⟨its, r, pl, hz⟩ := I.list hq
  obtain ⟨j, h1, h2, h3, h4, h5⟩ := atI_get he
  obtain ⟨w, ew, rw'⟩ := r.get h2
  have hl := r.length
  have hn := line63
  have fin : EP X pins σ Q w s := ⟨z, H, I, rw', q⟩
  by_cases h0 : 0 ≤ i
  · have hj : i.toNat = j := by
      rw [seqIndex_of h0 h5] at h1
      exact Option.some.inj h1
    exact item_listR pl.isList h0 (by omega) (by rw [hj]; simpa using ew) fin hs
  · have hj : (i + (its.toArray.size : Int)).toNat = j := by
      rw [seqIndex_neg (by omega) h4] at h1
      rw [List.size_toArray, ← hl]
      exact Option.some.inj h1
    exact subscriptTail_builtinR (x := w) pl.isList.typeIs slot_list_getitem.lookup
      (wpAny_getItem_list_neg (Q := fun r s' => r = w ∧ EP X pins σ Q r s') pl.isList (by omega) (by rw [List.size_toArray] <;> omega) (by omega) (by rw [hj]; simpa using ew) ⟨rfl, fin⟩) hs
theorem ix_tup : IxR X (rIxT X.K) := by
  intro value slice pins s σ H x y v u Q I rx ry h hs
  obtain ⟨p, xs, i, z, rfl, rfl, hq, he, q⟩ := h
  cases rx
  obtain ⟨t, rfl⟩ := ry
  obtain ⟨its, r, pl, hz⟩ := I.tuple hq
  obtain ⟨j, h1, h2, h3, h4, h5⟩ := atI_get he
  obtain ⟨w, ew, rw'⟩ := r.get h2
  have hl := r.length
  have hn := line63
  have fin : EP X pins σ Q w s := ⟨z, H, I, rw', q⟩
  exact subscriptTail_builtinR (x := w) pl.typeIs slot_tuple_getitem.lookup
    (getItem_tuple (j := j) (Q := fun r s' => r = w ∧ EP X pins σ Q r s') pl (by omega) (by omega) (by rw [List.size_toArray, ← hl]; exact h1) (by simpa using ew) ⟨rfl, fin⟩) hs
theorem ix_str : IxR X rIxS := by
  intro value slice pins s σ H x y v u Q I rx ry h hs
  obtain ⟨z, i, c, rfl, rfl, hz, he, q⟩ := h
  obtain ⟨t, rfl⟩ := rx
  obtain ⟨t', rfl⟩ := ry
  obtain ⟨j, h1, h2, h3, h4, h5⟩ := atI_get he
  have hl : z.cps.toList.length = z.length := by simp [Str.length]
  rw [hl] at h1 h4 h5
  have hn := line63
  exact tail_any (typeIs_str s z t) slot_str_getitem.lookup (getItem_str (c := c) (by
    have e1 : decide (i < -(2 ^ 63 : Int)) = false := decide_eq_false (by omega)
    have e2 : decide (i ≥ 2 ^ 63) = false := decide_eq_false (by omega)
    rw [e1, e2, Bool.or_false]) (by rw [h1]; simpa using h2) ⟨.str ⟨#[c]⟩, H, I.tok _, ⟨_, rfl⟩, q⟩) hs
/-! ### xs[i] = v, any sign -/
theorem Inv.lst {pins : List (Addr × Obj)} {σ : St} {H : Hp} {s : Shared} {p : Addr} {xs : List V} (I : Inv X pins σ H s) (h : H p = some (.lst xs)) :
    ∃ (its : List Value) (n : Nat), Vals xs its ∧ s.heap.get? p = some { cls := .type "list", data := .seq its.toArray n } ∧ xs.length ≤ sizeLine := by
  obtain ⟨z, its, n, r, e⟩ := I.hok p _ h
  exact ⟨its, n, r, e, z⟩
/-! ### slices -/
theorem slice_bounds (lo hi : Option Int) (n : Nat) : (sliceBounds lo hi none n).1 = ((HT.sIx n 0 lo : Nat) : Int) ∧ (sliceBounds lo hi none n).2.1 = ((HT.sIx n n hi : Nat) : Int) ∧ (sliceBounds lo hi none n).2.2 = 1 := by
  refine ⟨?_, ?_, rfl⟩
  · cases lo with
    | none => simp [sliceBounds, HT.sIx]
    | some i =>
      simp only [sliceBounds, HT.sIx, Option.getD_none, show (1 : Int) > 0 by decide, if_true]
      by_cases h : i < 0
      · simp only [h, if_true] <;> omega
      · simp only [h, if_false] <;> omega
  · cases hi with
    | none => simp [sliceBounds, HT.sIx]
    | some i =>
      simp only [sliceBounds, HT.sIx, Option.getD_none, show (1 : Int) > 0 by decide, if_true]
      by_cases h : i < 0
      · simp only [h, if_true] <;> omega
      · simp only [h, if_false] <;> omega
theorem slicePick_cut (its : List Value) (lo hi : Option Int) : slicePick its.toArray lo hi none = ((its.drop (HT.sIx its.length 0 lo)).take (HT.sIx its.length its.length hi - HT.sIx its.length 0 lo)).toArray := by
  obtain ⟨h1, h2, h3⟩ := slice_bounds lo hi its.toArray.size
  unfold slicePick
  rw [h1, h2, h3]
  simp only [sliceRange_one, pick_run, List.size_toArray] <;> rfl
/-- xs[lo:hi] of a list: a new list -/
def rSlL (K : PySem.W.Frag) : V → Option Int → Option Int → Hp → VK → Prop := fun x lo hi H Q => ∃ a xs, x = .ref a ∧ SqL K H a xs ∧ ∀ p, H p = none → Q (.ref p) (upd H p (.lst (cutV xs lo hi)))
theorem sl_list : SlR X (rSlL X.K) := by
  intro pins s σ H x v vl vu lo hi sl Q I rx hs pl pu h
  obtain ⟨a, xs, rfl, hx, q⟩ := h
  cases rx
  obtain ⟨its, r, ht, hz⟩ := I.list hx
  have hlen := r.length
  refine ⟨"list", _, slot_list_getitem.lookup, ht.isList.typeIs, ?_⟩
  refine wpAny_getItem_list_slice ht.isList hs pl pu .none (by simp) ?_ (by rw [List.size_toArray] <;> omega)
  rw [slicePick_cut, ← hlen]
  refine ⟨.ref s.heap.objs.size, _, I.laid (t' := s.toks) (o := .lst (cutV xs lo hi)) (fun b ob q => Heap.get?_push_of_some _ q) (Nat.le_refl _) ?_, rfl, q _ (I.hok.fresh (Nat.le_refl _))⟩
  exact ⟨Nat.le_trans (cutV_length xs lo hi) hz, _, 0, (r.drop (HT.sIx xs.length 0 lo)).take (HT.sIx xs.length xs.length hi - HT.sIx xs.length 0 lo), Heap.get?_push_size _ rfl⟩

/-! ### in, not in: flat items -/
def flatV : V → Bool
  | .non => true
  | .bl _ => true
  | .int _ => true
  | .str _ => true
  | _ => false
/-- == of flat values -/
def eqV : V → V → Bool
  | .non, .non => true
  | .bl a, .bl b => a == b
  | .bl a, .int b => (if a then 1 else 0) == b
  | .int a, .bl b => a == (if b then 1 else 0)
  | .int a, .int b => a == b
  | .str a, .str b => a == b
  | _, _ => false
theorem eqAt_V {A : Around} {s : Shared} {y x : V} {u v : Value} (ry : RelV y u) (rx : RelV x v) (fy : flatV y = true) (fx : flatV x = true) : SeqAt.EqAt A s u v (eqV y x) := by
  cases y with
  | non =>
    cases ry
    cases x with
    | non => cases rx; exact SeqAt.EqAt.same _
    | bl b => cases rx; exact SeqAt.EqAt.none_bool b
    | int b => obtain ⟨t, rfl⟩ := rx; exact SeqAt.EqAt.none_int b t
    | str b => obtain ⟨t, rfl⟩ := rx; exact SeqAt.EqAt.none_str b t
    | _ => exact absurd (show false = true from fx) Bool.false_ne_true
  | bl a =>
    cases ry
    cases x with
    | non => cases rx; exact SeqAt.EqAt.bool_none a
    | bl b => cases rx; exact SeqAt.EqAt.bool_bool a b
    | int b => obtain ⟨t, rfl⟩ := rx; exact SeqAt.EqAt.bool_int a b t
    | str b => obtain ⟨t, rfl⟩ := rx; exact SeqAt.EqAt.bool_str a b t
    | _ => exact absurd (show false = true from fx) Bool.false_ne_true
  | int a =>
    obtain ⟨t', rfl⟩ := ry
    cases x with
    | non => cases rx; exact SeqAt.EqAt.int_none a t'
    | bl b => cases rx; exact SeqAt.EqAt.int_bool a t' b
    | int b => obtain ⟨t, rfl⟩ := rx; exact SeqAt.EqAt.int_int a t' b t
    | str b => obtain ⟨t, rfl⟩ := rx; exact SeqAt.EqAt.int_str a t' b t
    | _ => exact absurd (show false = true from fx) Bool.false_ne_true
  | str a =>
    obtain ⟨t', rfl⟩ := ry
    cases x with
    | non => cases rx; exact SeqAt.EqAt.str_none a t'
    | bl b => cases rx; exact SeqAt.EqAt.str_bool a t' b
    | int b => obtain ⟨t, rfl⟩ := rx; exact SeqAt.EqAt.str_int a t' b t
    | str b => obtain ⟨t, rfl⟩ := rx; exact SeqAt.EqAt.str_str a t' b t
    | _ => exact absurd (show false = true from fx) Bool.false_ne_true
  | _ => exact absurd (show false = true from fy) Bool.false_ne_true
/-- the items' answers, read off the values (a value's own answer does not lean on its token) -/
def eqU (x : V) (u : Value) : Bool := match u with
  | .none => eqV .non x
  | .bool b => eqV (.bl b) x
  | .int i _ => eqV (.int i) x
  | .str z _ => eqV (.str z) x
  | _ => false
theorem eqU_of {x y : V} {u : Value} (r : RelV y u) (f : flatV y = true) : eqU x u = eqV y x := by
  cases y with
  | non => cases r; rfl
  | bl b => cases r; rfl
  | int i => obtain ⟨t, rfl⟩ := r; rfl
  | str z => obtain ⟨t, rfl⟩ := r; rfl
  | _ => exact absurd (show false = true from f) Bool.false_ne_true
theorem any_eqU {x : V} : ∀ {xs : List V} {us : List Value}, Vals xs us → xs.all flatV = true → us.any (eqU x) = xs.any fun y => eqV y x
  | _, _, .nil, _ => rfl
  | y :: xs, u :: us, .cons r t, f => by
    rw [List.all_cons, Bool.and_eq_true] at f
    rw [List.any_cons, List.any_cons, eqU_of r f.1, any_eqU t f.2]
theorem mem_eqAt {A : Around} {s : Shared} {x : V} {v : Value} (rx : RelV x v) (fx : flatV x = true) : ∀ {xs : List V} {us : List Value}, Vals xs us → xs.all flatV = true → ∀ u ∈ us, SeqAt.EqAt A s u v (eqU x u)
  | _, _, .nil, _ => fun u hu => by cases hu
  | y :: xs, u :: us, .cons r t, f => fun u' hu => by
    rw [List.all_cons, Bool.and_eq_true] at f
    rcases List.mem_cons.mp hu with rfl | hu
    · rw [eqU_of r f.1]; exact eqAt_V r rx f.1 fx
    · exact mem_eqAt rx fx t f.2 u' hu
def inV (x : V) (xs : List V) : Bool := xs.any fun y => eqV y x
/-- x in a list or tuple of flat items -/
def rIn (K : PySem.W.Frag) (neg : Bool) : R2 := fun x y H Q => ∃ p xs, y = .ref p ∧ (SqL K H p xs ∨ SqT K H p xs) ∧ flatV x = true ∧ xs.all flatV = true ∧ Q (.bl (if neg then !inV x xs else inV x xs)) H
theorem op_in_seq : OpR X (compareOp .In) (rIn X.K false) := by
  intro pins s σ H x y v u Q I rx ry h
  obtain ⟨p, xs, rfl, hq, fx, fs, q⟩ := h
  cases ry
  rcases hq with hq | hq
  · obtain ⟨its, r, pl, hz⟩ := I.list hq
    refine SeqAt.in_listAt (eqU x) pl.isList (fun w hw => mem_eqAt rx fx r fs w (by simpa using hw)) ⟨.bl _, H, I, rfl, ?_⟩
    rw [show its.toArray.any (eqU x) = its.any (eqU x) by simp, any_eqU r fs]
    exact q
  · obtain ⟨its, r, pl, hz⟩ := I.tuple hq
    refine SeqAt.in_tupleAt (eqU x) pl (fun w hw => mem_eqAt rx fx r fs w (by simpa using hw)) ⟨.bl _, H, I, rfl, ?_⟩
    rw [show its.toArray.any (eqU x) = its.any (eqU x) by simp, any_eqU r fs]
    exact q
theorem op_notIn_seq : OpR X (compareOp .NotIn) (rIn X.K true) := by
  intro pins s σ H x y v u Q I rx ry h
  obtain ⟨p, xs, rfl, hq, fx, fs, q⟩ := h
  cases ry
  rcases hq with hq | hq
  · obtain ⟨its, r, pl, hz⟩ := I.list hq
    refine SeqAt.notIn_listAt (eqU x) pl.isList (fun w hw => mem_eqAt rx fx r fs w (by simpa using hw)) ⟨.bl _, H, I, rfl, ?_⟩
    rw [show its.toArray.any (eqU x) = its.any (eqU x) by simp, any_eqU r fs]
    exact q
  · obtain ⟨its, r, pl, hz⟩ := I.tuple hq
    refine SeqAt.notIn_tupleAt (eqU x) pl (fun w hw => mem_eqAt rx fx r fs w (by simpa using hw)) ⟨.bl _, H, I, rfl, ?_⟩
    rw [show its.toArray.any (eqU x) = its.any (eqU x) by simp, any_eqU r fs]
    exact q
/-! ### len, list(x), tuple(x) of any list or tuple that is read -/
theorem call_len_seq : CallR X (.builtin "len") (fun xs H Q => ∃ p ys, xs = [.ref p] ∧ (SqL X.K H p ys ∨ SqT X.K H p ys) ∧ Q (.int ys.length) H) := by
  intro pins s σ H xs us Q I r h
  obtain ⟨p, ys, rfl, hq, q⟩ := h
  obtain ⟨u, rfl, rx⟩ := vals1 r
  cases rx
  have hn := line63
  rcases hq with hq | hq
  · obtain ⟨its, r', pl, hz⟩ := I.list hq
    have hlen := r'.length
    exact Calls.call_len_list pl.isList (by simp only [List.size_toArray] <;> omega) ⟨.int ys.length, H, I.tok _, ⟨s.toks + 1, by rw [List.size_toArray, hlen]⟩, q⟩
  · obtain ⟨its, r', pl, hz⟩ := I.tuple hq
    have hlen := r'.length
    exact len_tuple pl (by simp only [List.size_toArray] <;> omega) ⟨.int ys.length, H, I.tok _, ⟨s.toks + 1, by rw [List.size_toArray, hlen]⟩, q⟩
theorem call_len_str : CallR X (.builtin "len") (fun xs H Q => ∃ z, xs = [.str z] ∧ z.length ≤ sizeLine ∧ Q (.int z.length) H) := by
  intro pins s σ H xs us Q I r h
  obtain ⟨z, rfl, hz, q⟩ := h
  obtain ⟨u, rfl, t, rfl⟩ := vals1 r
  have hn := line63
  exact len_str (by omega) ⟨.int z.length, H, I.tok _, ⟨_, rfl⟩, q⟩
theorem CallR.or {f : Value} {r r' : List V → Hp → VK → Prop} (h : CallR X f r) (h' : CallR X f r') : CallR X f (fun xs H Q => r xs H Q ∨ r' xs H Q) := by
  intro pins s σ H xs us Q I rs q
  rcases q with q | q
  · exact h pins s σ H xs us Q I rs q
  · exact h' pins s σ H xs us Q I rs q
theorem call_list_of : CallR X (.type "list") (fun xs H Q => ∃ p ys, xs = [.ref p] ∧ (SqL X.K H p ys ∨ SqT X.K H p ys) ∧ ∀ l, H l = none → Q (.ref l) (upd H l (.lst ys))) := by
  intro pins s σ H xs us Q I r h
  obtain ⟨p, ys, rfl, hq, q⟩ := h
  obtain ⟨u, rfl, rx⟩ := vals1 r
  cases rx
  have fin : ∀ (its : List Value), Vals ys its → ys.length ≤ sizeLine → ∀ (h' : Heap) (c' : Nat), (∀ b o', s.heap.get? b = some o' → h'.get? b = some o') →
      h'.get? s.heap.objs.size = some { cls := .type "list", dict := none, data := .seq its.toArray c', slots := #[] } → EP X pins σ Q (.ref s.heap.objs.size) { s with heap := h' } := fun its r' hz h' c' kp e =>
    ⟨.ref s.heap.objs.size, _, I.laid (t' := s.toks) kp (Nat.le_refl _) (show ObjOk X.prog X.w _ h' _ (.lst ys) from ⟨hz, its, c', r', e⟩), rfl, q _ (I.hok.fresh (Nat.le_refl _))⟩
  rcases hq with hq | hq
  · obtain ⟨its, r', pl, hz⟩ := I.list hq
    have hlen := r'.length
    obtain ⟨o, ho, hc, n, hd⟩ := pl.isList
    exact call_list_seq p (.inl rfl) ho hc hd (fun h' c' kp e => fin its r' hz h' c' kp e) (by simp only [List.size_toArray] <;> omega)
  · obtain ⟨its, r', pl, hz⟩ := I.tuple hq
    have hlen := r'.length
    obtain ⟨o, ho, hc, n, hd⟩ := pl
    exact call_list_seq p (.inr rfl) ho hc hd (fun h' c' kp e => fin its r' hz h' c' kp e) (by simp only [List.size_toArray] <;> omega)
/-! ### the call of a builtin's method: o.m(..) -/
/-- the value is of that builtin type -/
def tyV (K : PySem.W.Frag) (T : String) (x : V) (H : Hp) : Prop := match x with
  | .str _ => T = "str"
  | .int _ => T = "int"
  | .ref p => (T = "list" ∧ ∃ xs, SqL K H p xs) ∨ (T = "tuple" ∧ ∃ o, K.lookup p = some o ∧ o.cls = .type "tuple" ∧ o.dict = none) ∨
      (T = "dict" ∧ ((∃ kvs, H p = some (.dK kvs)) ∨ ∃ kvs, H p = some (.dT kvs))) ∨ (T = "set" ∧ ∃ S n, H p = some (.set S n))
  | _ => False
theorem tyV_is {pins : List (Addr × Obj)} {σ : St} {H : Hp} {s : Shared} {T : String} {x : V} {v : Value} (I : Inv X pins σ H s) (r : RelV x v) (ty : tyV X.K T x H) :
    s.TypeIs v T ∧ ∀ a, v = .ref a → ∃ ob, s.heap.get? a = some ob ∧ ob.dict = none := by
  cases x with
  | str z =>
    obtain ⟨t, rfl⟩ := r
    cases (show T = "str" from ty)
    exact ⟨typeIs_str s z t, fun _ e => nomatch e⟩
  | int i =>
    obtain ⟨t, rfl⟩ := r
    cases (show T = "int" from ty)
    exact ⟨typeIs_int s i t, fun _ e => nomatch e⟩
  | ref p =>
    cases r
    rcases ty with ⟨rfl, xs, hq⟩ | ⟨rfl, o, hk, hc, hd⟩ | ⟨rfl, hk⟩ | ⟨rfl, S, n, hk⟩
    · obtain ⟨its, _, pl, _⟩ := I.list hq
      refine ⟨pl.isList.typeIs, fun a e => ?_⟩
      cases e
      obtain ⟨o, n, e, c, hd, _⟩ := pl
      exact ⟨o, e, hd⟩
    · refine ⟨⟨o, I.kIn p o hk, hc⟩, fun a e => ?_⟩
      cases e
      exact ⟨o, I.kIn _ o hk, hd⟩
    · have z : ∃ o, s.heap.get? p = some o ∧ o.ExactDict := by
        rcases hk with ⟨kvs, hk⟩ | ⟨kvs, hk⟩
        · obtain ⟨_, _, _, _, o, _, _, e, ex, _⟩ := I.hok p _ hk
          exact ⟨o, e, ex⟩
        · obtain ⟨_, _, _, _, o, _, _, e, ex, _⟩ := I.hok p _ hk
          exact ⟨o, e, ex⟩
      obtain ⟨o, e, ex⟩ := z
      refine ⟨⟨o, e, ex.1⟩, fun a e2 => ?_⟩
      cases e2
      exact ⟨o, e, ex.2.1⟩
    · obtain ⟨o, _, _, _, e, ex, _⟩ := I.hok p _ hk
      refine ⟨⟨o, e, ex.1⟩, fun a e2 => ?_⟩
      cases e2
      exact ⟨o, e, ex.2.1⟩
  | _ => exact False.elim ty
def tBM0 (K : PySem.W.Frag) (T : String) (r : V → List V → Hp → VK → Prop) (to : TE) : TE := fun σ H Q => to σ H fun x H1 => tyV K T x H1 ∧ r x [] H1 Q
def tBM (K : PySem.W.Frag) (T : String) (r : V → List V → Hp → VK → Prop) (to : TE) (t : TA) : TE := fun σ H Q => to σ H fun x H1 => tyV K T x H1 ∧ t σ H1 fun xs H2 => r x xs H2 Q
variable {o e : Expr} {es : List Expr} {to : TE} {t : TA} {name : Str} {apos cpos : Pos} {T id : String} {r : V → List V → Hp → VK → Prop}
theorem pe_bm0 (pa : PlainAttrs T) (slot : Slot T name id) (hty : typeOf (.builtin id) = pure (.type "method_descriptor")) (hm : MtR X id r) (ho : PE X o to)
    (hbase : attributeBase o name X.env (eval o X.env) = eval o X.env := by rfl) (hline : (apos.endLine == cpos.line) = true := by rfl) : PE X (.Call (.Attribute o name apos) [] [] cpos) (tBM0 X.K T r to) := by
  intro pins s σ H Q I h
  refine wpAny_Call_method0_late hbase hline (thn (ho pins s σ H _ I h) fun v s1 ⟨x, H1, I1, r1, ty, q1⟩ => ?_)
  obtain ⟨h1, h2⟩ := tyV_is I1 r1 ty
  exact ⟨T, id, pa, slot, hty, h1, h2, Calls.callWith_builtin rfl (PySem.evalArgs_none (hm pins s1 σ H1 x [] v [] Q I1 r1 .nil q1))⟩
theorem pe_bm (pa : PlainAttrs T) (slot : Slot T name id) (hty : typeOf (.builtin id) = pure (.type "method_descriptor")) (hm : MtR X id r) (ho : PE X o to) (ha : PA X (e :: es) t)
    (hbase : attributeBase o name X.env (eval o X.env) = eval o X.env := by rfl)
    (hfew : ((backTo cpos (starEach (e :: es) X.env)).all (fun x => !x.1) && (backToKw cpos (keywordEach [] X.env)).all (fun x => x.1.isSome)
      && decide ((e :: es).length + ([] : List Keyword).length + (if ([] : List Keyword).isEmpty then 0 else 1) < 30)) = true := by rfl)
    (hline : (apos.endLine == cpos.line) = true := by rfl) (hs : starEach (e :: es) X.env = (false, eval e X.env) :: starEach es X.env := by rfl) (hplain : (backTo cpos (starEach es X.env)).any (·.1) = false := by rfl) :
    PE X (.Call (.Attribute o name apos) (e :: es) [] cpos) (tBM X.K T r to t) := by
  intro pins s σ H Q I h
  refine wpAny_Call_method_late hbase hfew hline rfl (thn (ho pins s σ H _ I h) fun v s1 ⟨x, H1, I1, r1, ty, q1⟩ => ?_)
  obtain ⟨h1, h2⟩ := tyV_is I1 r1 ty
  refine ⟨T, id, pa, slot, hty, h1, h2, ?_⟩
  have hA := ha cpos pins s1 σ H1 _ I1 q1
  rw [hs] at hA ⊢
  refine Calls.callWith_builtin (by show (false || (backTo cpos (starEach es X.env)).any (·.1)) = false; rw [hplain] <;> rfl) (Calls.evalArgs_plain ?_)
  exact thn hA fun us s2 ⟨vs, H2, I2, r2, q2⟩ => hm pins s2 σ H2 x vs v us Q I2 r1 r2 q2
/- xs.append(e), list.index on a module's tuple .. are MtR facts of 06m -/
end
end L2

namespace L2
open PySem PySem.Spec PyProof.Rows

def MtM (X : Cx) (id : String) (r : V → List V → Hp → VK → Prop) : Prop :=
  ∀ (pins : List (Addr × Obj)) (s : Shared) (σ : St) (H : Hp) (x : V) (xs : List V) (v : Value) (us : List Value) (Q : VK), Inv X pins σ H s → RelV x v → Vals xs us → r x xs H Q →
    wpAny (model X.prog X.w) X.A (call (.builtin id) (v :: us)) (EP X pins σ Q) X.xe s

/-! ### lists of values -/
theorem Vals.one : ∀ {x : V} {us : List Value}, Vals [x] us → ∃ u, us = [u] ∧ RelV x u
  | _, _, .cons r .nil => ⟨_, rfl, r⟩
theorem Vals.two : ∀ {x y : V} {us : List Value}, Vals [x, y] us → ∃ u v, us = [u, v] ∧ RelV x u ∧ RelV y v
  | _, _, _, .cons r (.cons q .nil) => ⟨_, _, rfl, r, q⟩
theorem Vals.zero : ∀ {us : List Value}, Vals [] us → us = []
  | _, .nil => rfl
theorem Vals.dropLast {xs : List V} {us : List Value} (h : Vals xs us) : Vals xs.dropLast us.dropLast := by
  induction h with
  | nil => exact .nil
  | cons r t ih =>
    cases t with
    | nil => exact .nil
    | cons q t' => exact .cons r ih
section
variable {X : Cx} {pins : List (Addr × Obj)} {σ : St} {H : Hp} {s : Shared} {l b : Addr} {xs ys zs : List V}

/-! ### the two steps: a tracked list is rewritten, a new list is laid -/
theorem Inv.lset {its its' : List Value} {n : Nat} {f : Array Value → Array Value} {t' : Nat} (I : Inv X pins σ H s) (hH : H l = some (.lst xs))
    (e : s.heap.get? l = some { cls := .type "list", data := .seq its.toArray n }) (hf : f its.toArray = its'.toArray) (hv : Vals ys its') (hz : ys.length ≤ sizeLine) (ht : s.toks ≤ t' := by first | exact Nat.le_refl _ | exact Nat.le_succ _ | assumption | omega) :
    Inv X pins σ (upd H l (.lst ys)) { s with heap := s.heap.update l (Obj.mapSeq f), toks := t' } := by
  have q := PySem.IsL.update e f
  rw [hf] at q
  refine I.write (x := l) (e := l) (by rw [hH]; exact trivial) (.inl rfl) (fun b' u hb hu => (Heap.get?_update_other s.heap (Obj.mapSeq f) (Ne.symm hb)).trans hu) ⟨_, q⟩ ?_
  exact ⟨hz, its', _, hv, q⟩
theorem Inv.lnew {its : List Value} {t' : Nat} (I : Inv X pins σ H s) (hv : Vals ys its) (hz : ys.length ≤ sizeLine) (ht : s.toks ≤ t' := by first | exact Nat.le_refl _ | exact Nat.le_succ _ | assumption | omega) :
    Inv X pins σ (upd H s.heap.objs.size (.lst ys)) { s with heap := s.heap.push { cls := .type "list", data := .seq its.toArray }, toks := t' } :=
  I.laid (fun _ _ q => Heap.get?_push_of_some _ q) (Nat.le_refl _) ⟨hz, its, 0, hv, Heap.get?_push_size _ rfl⟩
theorem Inv.fresh (I : Inv X pins σ H s) : H s.heap.objs.size = none := I.hok.fresh (Nat.le_refl _)
theorem Inv.lstM (I : Inv X pins σ H s) (hH : H l = some (.lst xs)) : xs.length ≤ sizeLine ∧ ∃ (its : List Value) (n : Nat), Vals xs its ∧ xs.length = its.length ∧ s.heap.get? l = some { cls := .type "list", data := .seq its.toArray n } := by
  obtain ⟨z, its, n, r, e⟩ := I.hok l _ hH
  exact ⟨z, its, n, r, r.length, e⟩

end

section
variable {X : Cx}

/-! ### methods -/
def rAppend : V → List V → Hp → VK → Prop := fun x vs H Q => ∃ l xs y, x = .ref l ∧ vs = [y] ∧ H l = some (.lst xs) ∧ xs.length < sizeLine ∧ Q .non (upd H l (.lst (xs ++ [y])))
theorem mt_append : MtM X "list.append" rAppend := by
  intro pins s σ H x vs v us Q I rx rv h
  obtain ⟨l, xs, y, rfl, rfl, hH, hz, q⟩ := h
  cases rx
  obtain ⟨u, rfl, ru⟩ := rv.one
  obtain ⟨z, its, n, r, hl, e⟩ := I.lstM hH
  refine call_meets F.slot_list_append ⟨_, e, rfl⟩ F.entry_list_append (F.args_list_append_2 _ _) (PySem.list_append l its.toArray n u (by rw [List.size_toArray]; omega)) ⟨e, ?_⟩
  refine ⟨.non, _, I.lset (its' := its ++ [u]) hH e (by simp) (r.append (.cons ru .nil)) ?_, rfl, q⟩
  rw [List.length_append, List.length_singleton]
  omega

def rPop : V → List V → Hp → VK → Prop := fun x vs H Q => ∃ l xs y, x = .ref l ∧ vs = [] ∧ H l = some (.lst xs) ∧ xs[xs.length - 1]? = some y ∧ Q y (upd H l (.lst xs.dropLast))
def rClear : V → List V → Hp → VK → Prop := fun x vs H Q => ∃ l xs, x = .ref l ∧ vs = [] ∧ H l = some (.lst xs) ∧ Q .non (upd H l (.lst []))
theorem mt_clear : MtM X "list.clear" rClear := by
  intro pins s σ H x vs v us Q I rx rv h
  obtain ⟨l, xs, rfl, rfl, hH, q⟩ := h
  cases rx
  have hus := rv.zero
  subst hus
  obtain ⟨z, its, n, r, hl, e⟩ := I.lstM hH
  refine call_meets F.slot_list_clear ⟨_, e, rfl⟩ F.entry_list_clear (F.args_list_clear_1 _) (AutoSeq1.list_clear_list_0 l its.toArray n (by rw [List.size_toArray]; omega)) ⟨e, ?_⟩
  exact ⟨.non, _, I.lset (its' := []) (ys := []) hH e rfl .nil (Nat.zero_le _), rfl, q⟩

/-! ### list + list, list += list, list * int -/
def rCat : R2 := fun x y H Q => ∃ l b xs zs, x = .ref l ∧ y = .ref b ∧ H l = some (.lst xs) ∧ H b = some (.lst zs) ∧ xs.length + zs.length ≤ sizeLine ∧ ∀ p, H p = none → Q (.ref p) (upd H p (.lst (xs ++ zs)))
/-! ### del xs[i] -/
end

/-! ### xs[a:b] = ys -/
section
variable {prog : Program} {w : World} {A : Around} {E : Value → Shared → Prop} {s : Shared}
end

section
variable {X : Cx}
end
end L2

namespace Att
open PySem PySem.W PySem.Calls PyProof.Rows

/-! ### the script -/
theorem ints_of_wellAll {P : Params} {h : Heap} : ∀ (ns : List Int) (vs : List Value), WellAll P h vs (ns.map WData.int) → IntsAre vs ns := by
  intro ns
  induction ns with
  | nil =>
    intro vs w
    rw [List.map_nil] at w
    cases w
    exact .nil
  | cons n ns ih =>
    intro vs w
    rw [List.map_cons] at w
    cases w with
    | cons a b =>
      cases a
      exact .cons _ _ (ih _ b)

theorem script_of {l : OpenLaw} {n : Nat} (hn : l.most = some n) {P : Params} {h : Heap} {args : List WData} {vals : List Value}
    (hpre : l.row.toRowW.claim.pre args = true) (hwl : WellAll P h vals args) :
    ∃ a vs ns, vals = [Value.ref a] ∧ args = [WData.list (ns.map WData.int)] ∧ h.get? a = some { cls := .type "list", data := .seq vs.toArray } ∧ IntsAre vs ns ∧ ns.length ≤ n := by
  have hsh : WShape.hasAll [] args [.list .int] = true := (pre_splitW hpre).1
  have hc : l.pre.holds [] { args := args } = true := (pre_splitW hpre).2
  obtain ⟨d, r, rfl, h1, h2⟩ := hasAllW_cons hsh
  obtain rfl := hasAllW_nil h2
  obtain ⟨xs, rfl, h3⟩ := hasW_list h1
  obtain ⟨ns, rfl⟩ := items_int h3
  have hlen : ns.length ≤ n := by
    unfold OpenLaw.pre at hc
    have h4 : (WTm.not (.lt (.lit (.int (n : Int))) (.len (.arg 0)))).holds [] { args := [.list (ns.map .int)] } = true := by
      have h4 := (holds_andW hc).1
      rw [hn] at h4
      exact h4
    have h5 := condW_of h4 (w_not (w_lt w_lit (w_len_list (w_arg rfl))))
    rw [List.length_map] at h5
    refine Nat.le_of_not_lt fun q => ?_
    have q' : (n : Int) < ((ns.length : Nat) : Int) := by omega
    first
      | (rw [decide_eq_true q'] at h5; exact absurd h5 (by decide))
      | (simp at h5; omega)
  cases hwl with
  | cons w1 w2 =>
    cases w2
    cases w1 with
    | list ho hall => exact ⟨_, _, ns, rfl, rfl, ho, ints_of_wellAll ns _ hall, hlen⟩

theorem post_true (l : OpenLaw) (args : List WData) : l.row.toRowW.claim.post args (.bool true) args = true :=
  postW_of (r := l.row.toRowW) (X := (true == true))
    (show WShape.has [] (.bool true) .bool = true by first | rfl | decide | simp [WShape.has, WShape.arms, WShape.armsAll])
    (show (WTm.eq .res (.lit (.bool true))).value [] { args := args, res := some (.bool true), after := args } = some (.bool (true == true)) from w_eq_bool (w_res rfl) w_lit) rfl

/-! ### the attachment: holds_open's last premise (the goal 'hc' behind k_head) from a wpAny of the law's body -/
/-! ### rules over ANY heap (no ledger) from facts about the written part K: the library's own take a ledger (News) for what they write -/
section
variable {prog : Program} {w : World} {A : Around} {E : Value → Shared → Prop} {s : Shared} {K : Frag}

/-! the whole heap as the ledger: makes every rule that writes through a ledger a rule over any heap -/
def ledger (h : Heap) (L d : Addr) : List (Addr × Obj) := (List.range h.objs.size).filterMap fun a => if a = L ∨ a = d then none else (h.get? a).map fun o => (a, o)
end
end Att

namespace L2
open PySem PySem.Spec PyProof.Rows

theorem vals_ints : ∀ {vs : List Value} {ns : List Int}, IntsAre vs ns → Vals (ns.map V.int) vs
  | _, _, .nil => .nil
  | _, _, .cons n t h => .cons ⟨t, rfl⟩ (vals_ints h)

/-- nothing is tracked but the script, known to the object (or it is an object of the module) -/
def Only (H : Hp) : Prop := ∀ b, H b = none ∨ ∃ o xs, H b = some (.frz o (.lst xs))

/-- THE HEAD: the law's promise, at the heap behind the top. F, the promise of the law's def, may use that base is part of the heap (so K.In base, base.Ns mainGlobals mg stand in Mod) -/
theorem law_call {P : Program} {w : World} {K : PySem.W.Frag} {mg mb : Str → Option Value} {CX : CXT} {k : Nat} {fa a : Addr} {fd : FuncData} {x : Str} {sp : Sp} {s₁ : Shared} {vs : List Value} {ns : List Int}
    (KX : K.In s₁.heap) (hns : s₁.heap.Ns mainGlobals mg) (hb : s₁.heap.Ns builtinsNs mb) (hbb : ∀ x : Str, x ≠ "__name__" → mb x = bootBuiltins x) (hlim : s₁.heap.NoLimit) (htk : 0 < s₁.toks) (hg : s₁.gens = #[])
    (ha : s₁.heap.get? a = some { cls := .type "list", data := .seq vs.toArray }) (hi : IntsAre vs ns) (hl : ns.length ≤ sizeLine) (hr : Room k callerA)
    (F : ∀ base : Heap, K.In base → base.Ns mainGlobals mg → FnOk P w K mg base CX k fa fd [x] sp) (hbind : ∀ (s : Shared) (u : Value), BindsTo s fd ⟨[u], []⟩ [(x, u)])
    (hsp : ∀ H : Hp, Only H → SqL K H a (ns.map V.int) → sp [.ref a] H (fun v _ => v = .bl true) fun _ _ _ => False)
    (hCX : ∀ H e s', CX [] H s₁ (fun _ _ _ => False) e s' → False) :
    codeAny (model P w) callerA (.call (.ref fa) ⟨[.ref a], []⟩) (fun r s' => r = .ok (.ret (.bool true)) ∧ OldK s₁.heap s'.heap ∧ s'.os = s₁.os ∧ AllBare s'.gens) s₁ := by
  have rv := vals_ints hi
  have lenV := hi.length
  -- from an abstract heap in which nothing but the script may be tracked
  have core : ∀ H : Hp, Only H → SqL K H a (ns.map V.int) → HOk P w H s₁.heap → (∀ b, H b ≠ none → b = a) → (H a ≠ none → K.lookup a = none) →
      codeAny (model P w) callerA (.call (.ref fa) ⟨[.ref a], []⟩) (fun r s' => r = .ok (.ret (.bool true)) ∧ OldK s₁.heap s'.heap ∧ s'.os = s₁.os ∧ AllBare s'.gens) s₁ := by
    intro H hO hS hok hA hK
    have base_of : ∀ {b : Addr} {o : Obj}, s₁.heap.get? b = some o → H b = none → (hidT s₁.heap H).get? b = some o := fun e n => hidT_get e n
    have noA : ∀ {b : Addr} {o : Obj} {es : Array DictEntry} {ep : Nat}, s₁.heap.get? b = some o → o.data = .dict es ep → H b = none := fun {b o es ep} e d => by
      cases q : H b with
      | none => rfl
      | some u =>
        have e' : b = a := hA b (by rw [q]; simp)
        subst e'
        rw [ha] at e; cases e
        have d' : Data.seq vs.toArray _ = Data.dict es ep := d
        cases d'
    have nsK : ∀ {b : Addr} {m : Str → Option Value}, s₁.heap.Ns b m → (hidT s₁.heap H).Ns b m := fun {b m} ⟨o, es, ep, e, d, r⟩ => ⟨o, es, ep, base_of e (noA e d), d, r⟩
    have hKb : K.In (hidT s₁.heap H) := fun b o e => base_of (KX b o e) (by
      cases q : H b with
      | none => rfl
      | some u =>
        have e' : b = a := hA b (by rw [q]; simp)
        subst e'
        rw [hK (by rw [q]; simp)] at e; cases e)
    have hM : Mod K mg (hidT s₁.heap H) := ⟨hKb, nsK hns, ⟨mb, nsK hb, hbb⟩, let ⟨mc, h1, h2⟩ := hlim; ⟨mc, nsK h1, h2⟩⟩
    have e0 : Env0 P w K mg (hidT s₁.heap H) callerA [] s₁ H := ⟨rfl, hM, fun b o e => of_hidT e, Nat.le_of_eq (hidT_size _ _), trivial, fun b hb => absurd (show b ∈ ([] : List Addr) from hb) (by simp), hok, .of_eq hg, htk⟩
    refine codeAny_mono ((F _ hKb (nsK hns)).run callerA [] s₁ H ⟨[.ref a], []⟩ [.ref a] [.ref a] _ _ hr e0 (hbind s₁ (.ref a)) (.cons rfl .nil) (hsp H hO hS)) fun r s' h => ?_
    cases r with
    | error e => exact (hCX H e s' h).elim
    | ok fl =>
      cases fl with
      | next => exact False.elim h
      | brk => exact False.elim h
      | cont => exact False.elim h
      | ret u =>
        obtain ⟨v, H', ⟨os, _⟩, bare, un, hok', r', q⟩ := h
        have q' : v = .bl true := q
        subst q'
        obtain rfl : u = Value.bool true := r'
        refine ⟨rfl, OldK.of_keep fun b o e => ?_, os, bare⟩
        cases q : H b with
        | none => exact un.keep b o e q (by intro z; exact absurd (show b ∈ ([] : List Addr) from z) (by simp)) (by simp)
        | some u =>
          rcases hO b with z | ⟨ob, xs, z⟩
          · rw [q] at z; cases z
          · have z2 := un.frzs b ob _ z
            obtain ⟨e1, _⟩ := hok b _ z
            obtain ⟨e2, _⟩ := hok' b _ z2
            rw [e] at e1; cases e1
            exact e2
  cases hk : K.lookup a with
  | some o =>
    -- the script is one of the module's own objects
    have e := KX a o hk
    rw [ha] at e
    cases e
    refine core (fun _ => none) (fun _ => .inl rfl) (.inr ⟨_, vs.toArray, _, hk, rfl, rfl, rfl, by rw [List.size_toArray, lenV]; exact hl, by simpa using rv⟩) (fun b u z => by have z' : (none : Option HO) = some u := z; cases z') (fun b z => absurd rfl z) fun z => absurd rfl z
  | none =>
    refine core (fun b => if b = a then some (.frz { cls := .type "list", data := .seq vs.toArray } (.lst (ns.map V.int))) else none) (fun b => ?_) (.inl (.inr ⟨{ cls := .type "list", data := .seq vs.toArray }, if_pos rfl⟩)) (fun b u z => ?_) (fun b z => ?_) fun _ => hk
    · by_cases hb : b = a
      · exact .inr ⟨_, _, if_pos hb⟩
      · exact .inl (if_neg hb)
    · by_cases hb : b = a
      · have z' := (if_pos hb).symm.trans z
        cases z'
        subst hb
        exact ⟨ha, by rw [List.length_map]; exact hl, vs, _, rv, ha⟩
      · have z' := (if_neg hb).symm.trans z
        cases z'
    · by_cases hb : b = a
      · exact hb
      · exact absurd (if_neg hb) z
end L2

namespace L2
open PySem PySem.Spec PyProof.Rows

end L2

/- THE LAST THEOREM (shape; LID, My.* are yours):
   My.Adr: a structure of the addresses that your layer names (classes, functions); My.Txt K t: a structure (Prop) of the equations over K;
   My.txt_mk : {K} {implicit addresses ..} (e1 : nsIn K mainGlobals "law" = some (some (.ref f))) (e2 : K.lookup f = some ⟨oc, od, .func (fnOf "law" "law" params body scope dV kV doc pm an cdv ct), sl⟩) (e3 : codeIn K cdv "law" = true) .. : ∃ t, My.Txt K t

(the tactic k_is has no namespace: write k_is) -/

/-! SHORT WORDS over the layer: a def of the text, its body, what a loop and a test want. -/
namespace L2
open PySem PySem.Spec PyProof.Rows

/-! ### the text by places -/
def defArgs (s : Stmt) : Arguments := match s with
  | .FunctionDef _ a _ _ _ _ _ _ _ _ => a
  | _ => { posonlyargs := [], args := [], vararg := none, kwonlyargs := [], kw_defaults := [], kwarg := none, defaults := [] }
def defBody (s : Stmt) : List Stmt := match s with
  | .FunctionDef _ _ b _ _ _ _ _ _ _ => b
  | _ => []
def defScope (s : Stmt) : Scope := match s with
  | .FunctionDef _ _ _ _ _ _ sc _ _ _ => sc
  | _ => { kind := .function, names := [], isGenerator := false, isCoroutine := false }

/-! ### no exception leaves a def -/
abbrev CX0 : CXT := fun _ _ _ _ _ _ => False
abbrev E0 : XK := fun _ _ _ => False
/-! ### a def (or method) of the text as it stands behind the top -/
structure Fun (K : PySem.W.Frag) (x qual : Str) (st : Stmt) (f : Addr) (fd : FuncData) : Prop where
  ex : ∃ (oc : Value) (od : Option Addr) (kV doc pm : Value) (an : Option Addr) (cdv ct : Value) (osl : Array (Option Value)),
    fd = PySem.W.fnOf x qual (defArgs st) (defBody st) (defScope st) .none kV doc pm an cdv ct ∧ K.lookup f = some ⟨oc, od, .func fd, osl⟩ ∧ PySem.W.codeIn K cdv qual = true
  kp : PySem.W.keepIn K (.ref f) = true
section
variable {P : Program} {w : World} {K : PySem.W.Frag} {mg : Str → Option Value} {base : Heap}
/-- THE RULE for a def: its body as a term of rules, and the reading of that term -/
theorem Fun.ok {x qual : Str} {st : Stmt} {f : Addr} {fd : FuncData} {N ps : List Str} {k : Nat} {sp : Sp} (F : Fun K x qual st f fd) (S : FnScope N ps (defScope st)) (len : ∀ vs H Q E, sp vs H Q E → vs.length = ps.length)
    (hbody : ∀ (cdv : Value) (A : Around) (outer : List Env) (s : Shared) (H : Hp) (vs : List V) (Q : VK) (E : XK), Room k (A.deeper (envOfC qual (defScope st) s.heap.objs.size f cdv)) → sp vs H Q E →
      ∃ t, PSs (cxOf CX0 P w K mg base N qual (defScope st) f cdv A outer s H E).nox (defBody st) t ∧ t { nx := fun _ H' => Q .non H', rt := Q } (start N vs) H) : FnOk P w K mg base CX0 (k + 1) f fd ps sp := by
  obtain ⟨oc, od, kV, doc, pm, an, cdv, ct, osl, rfl, lk, hcd⟩ := F.ex
  refine fn_of lk hcd S len fun A outer s H vs Q E hr hsp => ?_
  obtain ⟨t, h, q⟩ := hbody cdv A outer s H vs Q E hr hsp
  exact ⟨t, h.nox, q⟩
/-- how its arguments bind (no defaults): h is «fun _ _ _ _ _ _ us hl => match us, hl with | [_, _], _ => rfl», one _ a parameter -/
theorem Fun.binds {x qual : Str} {st : Stmt} {f : Addr} {fd : FuncData} {ps : List Str} (F : Fun K x qual st f fd)
    (h : ∀ (kV doc pm : Value) (an : Option Addr) (cdv ct : Value) (us : List Value), us.length = ps.length → bindArgs (PySem.W.fnOf x qual (defArgs st) (defBody st) (defScope st) .none kV doc pm an cdv ct) ⟨us, []⟩ = pure (ps.zip us)) : Binds K fd ps [] := by
  obtain ⟨oc, od, kV, doc, pm, an, cdv, ct, osl, rfl, lk, hcd⟩ := F.ex
  exact .all (h kV doc pm an cdv ct)
theorem fun_mk {x qual : Str} {st : Stmt} {f : Addr} {oc : Value} {od an : Option Addr} {osl : Array (Option Value)} {kV doc pm cdv ct : Value} (l : K.lookup f = some ⟨oc, od, .func (PySem.W.fnOf x qual (defArgs st) (defBody st) (defScope st) .none kV doc pm an cdv ct), osl⟩)
    (c : PySem.W.codeIn K cdv qual = true) (k : PySem.W.keepIn K (.ref f) = true) : Fun K x qual st f (PySem.W.fnOf x qual (defArgs st) (defBody st) (defScope st) .none kV doc pm an cdv ct) := ⟨⟨oc, od, kV, doc, pm, an, cdv, ct, osl, rfl, l, c⟩, k⟩
end
theorem small1000 {n : Nat} (h : n ≤ 1000) : n < sizeLine := Nat.lt_of_le_of_lt h (by decide)

/-! ### expressions in short: the name that stands in the i-th slot -/
section
variable {X : Cx}
theorem pv (i : Nat) {x : Str} {pos : Pos} (hN : X.N[i]? = some x := by rfl) (hv : Vis X.env.scope x := by first | exact Or.inl rfl | exact Or.inr (Or.inl rfl) | exact Or.inr (Or.inr rfl)) (hd : (x == ("__debug__" : Str)) = false := by decide)
    (hcd : (x == ("__classdict__" : Str)) = false := by decide) : PE X (.Name x pos) (tVar i) := pe_var hN hv hd hcd
end

/-! ### tests -/
theorem ite2 {c A B : Prop} [Decidable c] (h1 : c → A) (h2 : ¬ c → B) : if c then A else B := by
  by_cases h : c
  · rw [if_pos h]
    exact h1 h
  · rw [if_neg h]
    exact h2 h
/-! ### heaps -/
/-- all that was tracked is as it was -/
def Same (H H' : Hp) : Prop := ∀ b o, H b = some o → H' b = some o
theorem Same.refl (H : Hp) : Same H H := fun _ _ h => h
theorem Same.trans {H H1 H2 : Hp} (a : Same H H1) (b : Same H1 H2) : Same H H2 := fun c o h => b c o (a c o h)
theorem Same.free {H H' : Hp} (e : Same H H') {l : Addr} (h : H' l = Option.none) : H l = Option.none := by
  cases q : H l with
  | none => rfl
  | some o =>
    rw [e l o q] at h
    cases h
theorem Same.seq {K : PySem.W.Frag} {H H' : Hp} {a : Addr} {xs : List V} (e : Same H H') (h : SqL K H a xs) : SqL K H' a xs := by
  rcases h with (h | ⟨o, h⟩) | h
  · exact .inl (.inl (e _ _ h))
  · exact .inl (.inr ⟨o, e _ _ h⟩)
  · exact .inr h

end L2

/-! EXTENSION A: a list comprehension with one clause, a plain name as its target, at most one test -/
namespace L2
open PySem PySem.Spec PyProof.Rows

section
variable {prog : Program} {w : World} {A : Around} {R : Result → Shared → Prop} {s : Shared}
theorem compLoop_any {elt target iter : Expr} {ifs : List Expr} {scope : Scope} {pos : Pos} {it acc : Value} {env : Env} (I : Nat → Shared → Prop)
    (turn : ∀ n s, I n s → wpAny (model prog w) A (pyNext it) (fun r s₁ => match r with
      | none => R (.ok .next) s₁
      | some v => wpAny (model prog w) A (letOwnedTupleGo target it v) (fun _ s₁' => wpAny (model prog w) A (assign target env v) (fun _ s₂ =>
          wpAny (model prog w) A (forIn ifs true fun c r => if r = true then do let ok ← isTrue c env (eval c env); pure (ForInStep.yield ok) else pure (ForInStep.yield r)) (fun ok s₃ =>
            if ok = true then wpAny (model prog w) A (eval elt env) (fun x s₄ =>
              wpAny (model prog w) A (call (.builtin "list.append") [acc, x]) (fun _ s₅ => ∃ m, m < n ∧ I m s₅) (fun _ _ => False) s₄) (fun _ _ => False) s₃
            else ∃ m, m < n ∧ I m s₃) (fun _ _ => False) s₂) (fun _ _ => False) s₁') (fun _ _ => False) s₁) (fun _ _ => False) s)
    (n : Nat) (h : I n s) :
    codeAny (model prog w) A (.compLoop (.ListComp elt [⟨target, iter, ifs, 0⟩] scope pos) 0 it acc env) R s := by
  refine codeAny_loop rfl I (fun n s hI => ?_) n h
  show wpAny _ A ((compTurn (.ListComp elt [⟨target, iter, ifs, 0⟩] scope pos) 0 it acc env).onRaise (fun x => do noteFrame x env; theTreesLotGoes x)) _ _ s
  refine wpAny_noted ?_
  rw [compTurn_list]
  refine wpAny_bind (wpAny_standAt (wpAny_bind (wpAny_mono (turn n s hI) (fun r s₁ h₁ => ?_) fun _ _ h' => h'.elim)))
  cases r with
  | none => exact wpAny_pure h₁
  | some v =>
    refine wpAny_bind (wpAny_mono h₁ (fun _ s₁' h₁' => ?_) fun _ _ h' => h'.elim)
    refine wpAny_bind (wpAny_mono h₁' (fun _ s₂ h₂ => wpAny_bind (wpAny_mono h₂ (fun ok s₃ h₃ => ?_) fun _ _ h' => h'.elim)) fun _ _ h' => h'.elim)
    cases ok with
    | false => exact wpAny_pure ⟨rfl, h₃⟩
    | true =>
      exact wpAny_bind (wpAny_bind (wpAny_mono h₃ (fun x s₄ h₄ => wpAny_bind (wpAny_mono h₄ (fun _ s₅ h₅ => wpAny_pure (wpAny_pure ⟨rfl, h₅⟩)) fun _ _ h' => h'.elim)) fun _ _ h' => h'.elim))
end

/-- the context of a comprehension's block: entered at s (the accumulator laid), its names at C -/
def Cx.blk (X : Cx) (cs : Scope) (cl : List (Str × Addr)) (N : List Str) (C : Addr) (fp : List Addr) (s : Shared) (H : Hp) : Cx where
  prog := X.prog
  w := X.w
  K := X.K
  mg := X.mg
  base := X.base
  A := X.A
  N := N
  s₀ := s
  H₀ := H
  env := compEnvC cs cl C X.env
  outer := X.stack
  stack := X.stack
  ex := fp
  fn := fun _ => false
  calm := X.calm
  pn := []
  xe := fun _ _ => False

/-- what the block's scope must have; caps: the names read from around, with their slots there -/
structure CompScope (X : Cx) (cs : Scope) (cl : List (Str × Addr)) (x : Str) (caps : List (Str × Nat)) : Prop where
  clos : closureFor cs X.env = pure cl
  sub : ∀ y c, cl.lookup y = some c → X.env.cells.lookup y = some c
  kind : cs.kind = .function
  nocell : ∀ y ∈ cs.names, y.2 ≠ .cell
  names : ∀ y ∈ cs.names, y.2 = .local → cs.names.lookup y.1 = some .local
  has : ∀ y, (relabel cs X.env).names.lookup y = some .cell ∨ (relabel cs X.env).names.lookup y = some .free → ∃ c, cl.lookup y = some c
  var : cs.names.lookup x = some .local
  nd : (x :: caps.map (·.1)).Nodup
  capN : ∀ p ∈ caps, X.N[p.2]? = some p.1
  capK : ∀ p ∈ caps, ((relabel cs X.env).names.lookup p.1 = some .cell ∨ (relabel cs X.env).names.lookup p.1 = some .free) ∧ (X.env.kindOf p.1 = some .cell ∨ X.env.kindOf p.1 = some .free)

/-! ### the scope by computation -/
def closL (cells : List (Str × Addr)) : List (Str × NameKind) → List (Str × Addr) → Option (List (Str × Addr))
  | [], acc => some acc
  | (n, k) :: r, acc => if k = .free then (match cells.lookup n with | some c => closL cells r ((n, c) :: acc) | none => none) else closL cells r acc
theorem closL_for {env : Env} : ∀ (names : List (Str × NameKind)) (acc cl : List (Str × Addr)), closL env.cells names acc = some cl →
    (forIn names acc fun (x : Str × NameKind) (c : List (Str × Addr)) => if (x.2 == NameKind.free) = true then (do let a ← cellOf env x.1; pure (ForInStep.yield ((x.1, a) :: c))) else pure (ForInStep.yield c) : Sem (List (Str × Addr))) = pure cl
  | [], acc, cl, h => by cases h; rfl
  | (n, k) :: r, acc, cl, h => by
    rw [List.forIn_cons]
    unfold closL at h
    by_cases hk : k = .free
    · rw [if_pos hk] at h
      have hb : (k == NameKind.free) = true := by simp [hk]
      simp only [hb, if_true]
      cases q : env.cells.lookup n with
      | none => rw [q] at h; cases h
      | some c =>
        rw [q] at h
        have e : cellOf env n = pure c := by unfold cellOf; rw [q]
        rw [e]
        exact closL_for r _ cl h
    · rw [if_neg hk] at h
      have hb : (k == NameKind.free) = false := by simpa using hk
      simp only [hb, Bool.false_eq_true, if_false]
      exact closL_for r _ cl h
theorem closureFor_of {cs : Scope} {env : Env} {cl : List (Str × Addr)} (h : closL env.cells cs.names [] = some cl) : closureFor cs env = pure cl := by
  have e := closL_for (env := env) cs.names [] cl h
  have e2 : closureFor cs env = ((forIn cs.names ([] : List (Str × Addr)) fun (x : Str × NameKind) (c : List (Str × Addr)) => if (x.2 == NameKind.free) = true then (do let a ← cellOf env x.1; pure (ForInStep.yield ((x.1, a) :: c))) else pure (ForInStep.yield c) : Sem (List (Str × Addr))) >>= pure) := by
    unfold closureFor
    rfl
  rw [e2, e]
  rfl
theorem closL_mem {cells : List (Str × Addr)} : ∀ (names : List (Str × NameKind)) (acc cl : List (Str × Addr)), closL cells names acc = some cl →
    (∀ y c, (y, c) ∈ cl → (y, c) ∈ acc ∨ cells.lookup y = some c) ∧ (∀ p ∈ acc, p ∈ cl) ∧ ∀ y, (y, NameKind.free) ∈ names → ∃ c, (y, c) ∈ cl
  | [], acc, cl, h => by cases h; exact ⟨fun y c h => .inl h, fun p h => h, fun y h => nomatch h⟩
  | (n, k) :: r, acc, cl, h => by
    unfold closL at h
    by_cases hk : k = .free
    · rw [if_pos hk] at h
      cases q : cells.lookup n with
      | none => rw [q] at h; cases h
      | some c =>
        rw [q] at h
        obtain ⟨h1, h2, h3⟩ := closL_mem r _ cl h
        refine ⟨fun y d hd => ?_, fun p hp => h2 p (List.mem_cons_of_mem _ hp), fun y hy => ?_⟩
        · rcases h1 y d hd with z | z
          · rcases List.mem_cons.mp z with z | z
            · cases z; exact .inr q
            · exact .inl z
          · exact .inr z
        · rcases List.mem_cons.mp hy with z | z
          · cases z; exact ⟨c, h2 _ List.mem_cons_self⟩
          · exact h3 y z
    · rw [if_neg hk] at h
      obtain ⟨h1, h2, h3⟩ := closL_mem r _ cl h
      refine ⟨h1, h2, fun y hy => ?_⟩
      rcases List.mem_cons.mp hy with z | z
      · cases z; exact absurd rfl hk
      · exact h3 y z
theorem mem_of_lookup {α : Type} : ∀ {l : List (Str × α)} {y : Str} {c : α}, l.lookup y = some c → (y, c) ∈ l
  | (n, d) :: r, y, c, h => by
    rw [List.lookup_cons] at h
    cases q : y == n with
    | true => rw [q] at h; cases h; rw [beq_iff_eq.mp q]; exact List.mem_cons_self
    | false => rw [q] at h; exact List.mem_cons_of_mem _ (mem_of_lookup h)
theorem lookup_of_mem {α : Type} : ∀ {l : List (Str × α)} {y : Str} {c : α}, (y, c) ∈ l → ∃ d, l.lookup y = some d
  | (n, d) :: r, y, c, h => by
    rw [List.lookup_cons]
    cases q : y == n with
    | true => exact ⟨d, rfl⟩
    | false =>
      rcases List.mem_cons.mp h with z | z
      · cases z; simp at q
      · exact lookup_of_mem z
theorem relabel_back {env : Env} : ∀ {names : List (Str × NameKind)} {y : Str} {k : NameKind}, (names.map fun (n, k) => if (k == NameKind.free && env.scope.kind == .function && env.kindOf n == some .cell) then (n, NameKind.cell) else (n, k)).lookup y = some k →
    ∃ k', names.lookup y = some k' ∧ (k' = k ∨ k' = .free)
  | (n, k') :: r, y, k, h => by
    have ih := @relabel_back env r y k
    rw [List.map_cons] at h
    rw [List.lookup_cons]
    by_cases hc : (k' == NameKind.free && env.scope.kind == .function && env.kindOf n == some .cell) = true
    · dsimp only at h
      rw [if_pos hc, List.lookup_cons] at h
      have hf : k' = .free := by
        simp only [Bool.and_eq_true, beq_iff_eq] at hc
        exact hc.1.1
      cases q : y == n with
      | true => exact ⟨k', rfl, .inr hf⟩
      | false => rw [q] at h; exact ih h
    · dsimp only at h
      rw [if_neg hc, List.lookup_cons] at h
      cases q : y == n with
      | true => rw [q] at h; cases h; exact ⟨k', rfl, .inl rfl⟩
      | false => rw [q] at h; exact ih h
theorem relabel_free {env : Env} : ∀ {names : List (Str × NameKind)} {y : Str}, names.lookup y = some .free → (names.map fun (n, k) => if (k == NameKind.free && env.scope.kind == .function && env.kindOf n == some .cell) then (n, NameKind.cell) else (n, k)).lookup y = some .cell ∨
    (names.map fun (n, k) => if (k == NameKind.free && env.scope.kind == .function && env.kindOf n == some .cell) then (n, NameKind.cell) else (n, k)).lookup y = some .free
  | (n, k') :: r, y, h => by
    have ih := @relabel_free env r y
    rw [List.map_cons]
    rw [List.lookup_cons] at h
    by_cases hc : (k' == NameKind.free && env.scope.kind == .function && env.kindOf n == some .cell) = true
    · dsimp only
      rw [if_pos hc, List.lookup_cons]
      cases q : y == n with
      | true => exact .inl rfl
      | false => rw [q] at h; exact ih h
    · dsimp only
      rw [if_neg hc, List.lookup_cons]
      cases q : y == n with
      | true => rw [q] at h; cases h; exact .inr rfl
      | false => rw [q] at h; exact ih h
def compOk (cs : Scope) (x : Str) : Bool := (cs.kind == .function) && cs.names.all (fun y => y.2 != .cell) && cs.names.all (fun y => y.2 != .local || cs.names.lookup y.1 == some .local) && cs.names.lookup x == some .local
def capsOk (N : List Str) (outer inner : List (Str × NameKind)) (caps : List (Str × Nat)) : Bool := caps.all fun p => N[p.2]? == some p.1 && inner.lookup p.1 == some .free && (outer.lookup p.1 == some .cell || outer.lookup p.1 == some .free)
theorem comp_scope {X : Cx} {cs : Scope} {cl : List (Str × Addr)} {x : Str} {caps : List (Str × Nat)} (clos : closL X.env.cells cs.names [] = some cl) (ok : compOk cs x = true) (nd : (x :: caps.map (·.1)).Nodup)
    (cap : capsOk X.N X.env.scope.names cs.names caps = true) : CompScope X cs cl x caps := by
  simp only [compOk, Bool.and_eq_true, List.all_eq_true, beq_iff_eq, bne_iff_ne, ne_eq, Bool.or_eq_true] at ok
  obtain ⟨⟨⟨k1, k2⟩, k3⟩, k4⟩ := ok
  simp only [capsOk, List.all_eq_true, Bool.and_eq_true, beq_iff_eq, Bool.or_eq_true] at cap
  obtain ⟨m1, m2, m3⟩ := closL_mem cs.names [] cl clos
  exact
    { clos := closureFor_of clos
      sub := fun y c h => by
        rcases m1 y c (mem_of_lookup h) with z | z
        · cases z
        · exact z
      kind := k1
      nocell := fun y hy => k2 y hy
      names := fun y hy hl => (k3 y hy).resolve_left fun z => z hl
      has := fun y h => by
        have key : ∀ k, (relabel cs X.env).names.lookup y = some k → (k = .cell ∨ k = .free) → ∃ c, cl.lookup y = some c := fun k h hk => by
          obtain ⟨k', h1, h2⟩ := relabel_back h
          have mem := mem_of_lookup h1
          have hf : k' = .free := by
            rcases h2 with z | z
            · subst z
              rcases hk with z | z
              · exact absurd z (k2 _ mem)
              · exact z
            · exact z
          subst hf
          obtain ⟨c, hc⟩ := m3 y mem
          exact lookup_of_mem hc
        rcases h with h | h
        · exact key _ h (.inl rfl)
        · exact key _ h (.inr rfl)
      var := k4
      nd := nd
      capN := fun p hp => (cap p hp).1.1
      capK := fun p hp => ⟨relabel_free (cap p hp).1.2, (cap p hp).2⟩ }

/-- the block's slots: the loop's name, then the captured -/
def capSt (σ : St) (caps : List (Str × Nat)) : St := caps.map fun p => (σ[p.2]?).join

/-- W: by the turn and a measure; D: where the new list lies -/
def CompW (caps : List (Str × Nat)) (tt : TT) (te : TE) (σ : St) (Q : VK) (J : It) (H1 : Hp) : Prop := ∀ D, H1 D = none → ∃ W : Nat → Nat → Hp → Prop, (∃ m, W 0 m (upd H1 D (.lst []))) ∧ ∀ i m H, W i m H →
  (J.stop i H ∧ Q (.ref D) H) ∨ (J.go i H ∧ ∀ x H', J.yld i H x H' → tt (some x :: capSt σ caps) H' fun b H2 => if b = true then
      te (some x :: capSt σ caps) H2 fun y H3 => ∃ acc, H3 D = some (.lst acc) ∧ acc.length < sizeLine ∧ ∃ m', m' < m ∧ W (i + 1) m' (upd H3 D (.lst (acc ++ [y])))
    else ∃ m', m' < m ∧ W (i + 1) m' H2)
def tComp (wi : TI) (caps : List (Str × Nat)) (tt : TT) (te : TE) : TE := fun σ H Q => wi σ H (CompW caps tt te σ Q)

/-- the tests of a clause -/
def PTs (X : Cx) (ifs : List Expr) (t : TT) : Prop :=
  ∀ (pins : List (Addr × Obj)) (s : Shared) (σ : St) (H : Hp) (Q : Bool → Hp → Prop), Inv X pins σ H s → t σ H Q →
    wpAny (model X.prog X.w) X.A (forIn ifs true fun c r => if r = true then do let ok ← isTrue c X.env (eval c X.env); pure (ForInStep.yield ok) else pure (ForInStep.yield r)) (TP X pins σ Q) X.xe s
def ttNil : TT := fun _ H Q => Q true H
theorem pts_nil {X : Cx} : PTs X [] ttNil := fun _ _ _ H _ I h => wpAny_tests_nil ⟨H, I, h⟩
theorem pts_one {X : Cx} {c : Expr} {t : TT} (h : PT X c t) : PTs X [c] t := fun pins s σ H Q I q => wpAny_tests_one (h pins s σ H Q I q)

section
variable {X : Cx} {cs : Scope} {cl : List (Str × Addr)} {x : Str} {px pos : Pos} {caps : List (Str × Nat)} {iter elt : Expr} {ifs : List Expr} {wi : TI} {tt : TT} {te : TE}

/-- the block runs, from the accumulator's laying on: behind it the abstract heap and, of the block's names, that they lie at C -/
theorem comp_run {pins : List (Addr × Obj)} {σ : St} {H2 : Hp} {s2 : Shared} {it : Addr} {fp : List Addr} {tn : Nat → Heap → Prop} {J : It} {Q : V → Hp → Prop} {E : Value → Shared → Prop} {RR : Value → Addr → Result → Shared → Prop} (S : CompScope X cs cl x caps)
    (hc : X.calm = true) (ht : ∀ C fp s H, PTs (X.blk cs cl (x :: caps.map (·.1)) C fp s H) ifs tt) (he : ∀ C fp s H, PE (X.blk cs cl (x :: caps.map (·.1)) C fp s H) elt te)
    (I2 : Inv X pins σ H2 s2) (T : Turn X.prog X.w X.K (.Name x px) J fp it tn) (st2 : tn 0 s2.heap) (f2 : ∀ b ∈ fp, FpOk X pins H2 b)
    (hW : ∀ D, H2 D = none → ∃ W : Nat → Nat → Hp → Prop, (∃ m, W 0 m (upd H2 D (.lst []))) ∧ ∀ i m H, W i m H →
      (J.stop i H ∧ Q (.ref D) H) ∨ (J.go i H ∧ ∀ x H', J.yld i H x H' → tt (some x :: capSt σ caps) H' fun b H2 => if b = true then
        te (some x :: capSt σ caps) H2 fun y H3 => ∃ acc, H3 D = some (.lst acc) ∧ acc.length < sizeLine ∧ ∃ m', m' < m ∧ W (i + 1) m' (upd H3 D (.lst (acc ++ [y])))
      else ∃ m', m' < m ∧ W (i + 1) m' H2))
    (hR : ∀ D C H' s' m, Inv X pins σ H' s' → Q (.ref D) H' → s'.heap.Ns C m → H' C = none → C ≠ X.env.locals → X.s₀.heap.objs.size ≤ C → (∀ x c, X.env.cells.lookup x = some c → c ≠ C) → (∀ p ∈ X.pn ++ pins, p.1 ≠ C) → RR (.ref D) C (.ok .next) s') :
    wpAny (model X.prog X.w) X.A (newList []) (fun acc s₃ => wpAny (model X.prog X.w) X.A (newFunctionEnv cs X.env.globals cl [] X.env.qual none .none (some X.env)) (fun cenv s₄ =>
      codeAny (model X.prog X.w) X.A (.compStart (.ListComp elt [⟨.Name x px, iter, ifs, 0⟩] cs pos) 0 (.ref it) acc { cenv with scope := relabel cs X.env }) (RR acc cenv.locals) s₄) E s₃) E s2 := by
  refine wpAny_newObj_type (wpAny_newFunctionEnv S.nocell (by intro y hy; simp at hy) (fun h4 hns4 hsb4 => ?_) S.kind)
  dsimp only at hns4 hsb4 ⊢
  have I3 : Inv X pins σ (upd H2 s2.heap.objs.size (.lst [])) { s2 with heap := s2.heap.push { cls := .type "list", data := .seq ([] : List Value).toArray } } := I2.lnew (t' := s2.toks) (ys := []) (its := []) .nil (Nat.zero_le _)
  obtain ⟨W, ⟨m0, w0⟩, turn⟩ := hW s2.heap.objs.size I2.fresh
  -- the state with the accumulator; C: where the block's names lie
  generalize hs3 : ({ s2 with heap := s2.heap.push { cls := .type "list", data := .seq ([] : List Value).toArray } } : Shared) = s3 at I3
  have eh3 : s3.heap = s2.heap.push { cls := .type "list", data := .seq ([] : List Value).toArray } := by rw [← hs3]
  have eh3' : (s2.heap.push { cls := .type "list", dict := none, data := .seq ([] : List Value).toArray }) = s3.heap := eh3.symm
  simp only [eh3'] at hns4 hsb4 ⊢
  have e4 : ({ s2 with heap := h4, toks := s2.toks + ([] : List (Str × Value)).length } : Shared) = { s3 with heap := h4, toks := s3.toks } := by rw [← hs3]; rfl
  have hD3 : s2.heap.objs.size < s3.heap.objs.size := by rw [eh3, Heap.size_push]; exact Nat.lt_succ_self _
  have kold : ∀ b u, s3.heap.get? b = some u → h4.get? b = some u := fun b u e => hsb4.extBut b u (Nat.ne_of_lt (Heap.lt_size e)) (Heap.get?_push_of_some _ e)
  have k23 : ∀ b u, s2.heap.get? b = some u → s3.heap.get? b = some u := fun b u e => by rw [eh3]; exact Heap.get?_push_of_some _ e
  have fpl : ∀ b ∈ fp, b < s2.heap.objs.size := fun b hb => let ⟨_, e, _⟩ := T.obj _ _ st2 b hb; Heap.lt_size e
  generalize hH3 : upd H2 s2.heap.objs.size (.lst []) = H3 at I3 w0
  have fr3 : ∀ b ∈ fp, H3 b = none := fun b hb => by rw [← hH3, upd_ne (Nat.ne_of_lt (fpl b hb))]; exact (f2 b hb).1
  generalize hD : s2.heap.objs.size = D at *
  generalize hC : s3.heap.objs.size = C at *
  have ok := I3.ok
  have fsX : ∀ b ∈ fp, b ∉ frs X.stack := fun b hb h => by
    rcases List.mem_cons.mp (I3.stkSub b h) with e | e
    · exact (f2 b hb).2.1 e
    · exact (f2 b hb).2.2.1 e
  have ok' : (X.blk cs cl (x :: caps.map (·.1)) C fp s3 H3).Ok :=
    { mod := ok.mod, kind := S.kind, glob := ok.glob, blt := ok.blt, above := Nat.le_of_eq hC
      inj := fun y z c a b => ok.inj y z c (S.sub y c a) (S.sub z c b)
      has := fun y h => S.has y h
      cab := fun y c h => nomatch h
      hd := ok.hd, frames := ok.frames, stk := .inl rfl
      exf := fun b hb => ⟨Nat.ne_of_lt (Nat.lt_trans (fpl b hb) hD3), fun y c e => (f2 b hb).2.2.2.2.1 y c (S.sub y c e)⟩
      bs := fun b o e => I3.bs b o e
      bsz := Nat.le_trans ok.bsz I3.sz
      noex := fun b o e hb => by
        rcases (f2 b hb).2.2.2.1 with q | q
        · exact ok.noex b o e q
        · exact absurd (Heap.lt_size (ok.bs b o e).1) (Nat.not_lt.mpr q)
      exfs := fsX
      funs := I3.stack, frf := I3.stkFree }
  have I4 : Inv (X.blk cs cl (x :: caps.map (·.1)) C fp s3 H3) [] (none :: capSt σ caps) H3 { s3 with heap := h4, toks := s3.toks } :=
    { ok := ok', os := rfl, bare := I3.bare, base := Un.kept kold, tk := ⟨Nat.lt_of_lt_of_le I3.tk.1 I3.tk.2, Nat.le_refl _⟩
      loc := by
        refine ⟨_, hns4, fun i y v hN hσ _ => ?_⟩
        cases i with
        | zero => exact absurd hσ (by simp)
        | succ i =>
          have hN' : (caps.map (·.1))[i]? = some y := hN
          have hσ' : (caps.map fun p => (σ[p.2]?).join)[i]? = some (some v) := hσ
          rw [List.getElem?_map] at hN' hσ'
          obtain ⟨p, hp, rfl⟩ := Option.map_eq_some_iff.mp hN'
          rw [hp, Option.map_some] at hσ'
          have hj : (σ[p.2]?).join = some v := Option.some.inj hσ'
          have hj' : σ[p.2]? = some (some v) := by
            cases q : σ[p.2]? with
            | none => rw [q] at hj; cases hj
            | some o => rw [q] at hj; exact congrArg some hj
          have mem : p ∈ caps := List.mem_of_getElem? hp
          obtain ⟨m, _, hl⟩ := I3.loc
          obtain ⟨k1, k2⟩ := S.capK p mem
          obtain ⟨u, ru, hlk⟩ := hl p.2 p.1 v (S.capN p mem) hj' (k2.elim (fun q => .inr (.inl q)) fun q => .inr (.inr q))
          refine ⟨u, ru, ?_⟩
          rcases hlk with ⟨q, _⟩ | ⟨_, c, hc1, hc2⟩
          · rcases k2 with k | k <;> (rw [q] at k; cases k)
          · obtain ⟨c', hc'⟩ := S.has p.1 k1
            have e : c' = c := Option.some.inj ((S.sub p.1 c' hc').symm.trans hc1)
            subst e
            exact .inr ⟨k1, c', hc', hc2.keeps kold⟩
      cell := fun y c e => let ⟨v, q⟩ := I3.cell y c (S.sub y c e); ⟨v, q.keeps kold⟩
      free := by have q := I3.fresh; rw [hC] at q; exact q
      freeC := fun y c e => I3.freeC y c (S.sub y c e)
      pin := fun p hp => absurd hp (by simp [Cx.blk])
      hok := I3.hok.kept kold
      len := by simp [capSt, Cx.blk] }
  have loop : codeAny (model X.prog X.w) X.A (.compLoop (.ListComp elt [⟨.Name x px, iter, ifs, 0⟩] cs pos) 0 (.ref it) (.ref D) (compEnvC cs cl C X.env)) (RR (.ref D) C) { s3 with heap := h4, toks := s3.toks } := by
    have stat : ∀ {H' : Hp}, (∀ b ∈ fp, H' b = none) → ∀ b ∈ fp, FpOk (X.blk cs cl (x :: caps.map (·.1)) C fp s3 H3) [] H' b := fun hn b hb => ⟨hn b hb, (ok'.exf b hb).1, fsX b hb, .inl hb, (ok'.exf b hb).2, fun p hp => absurd hp (by simp [Cx.blk])⟩
    refine compLoop_any (fun n s' => ∃ i H', Inv (X.blk cs cl (x :: caps.map (·.1)) C fp s3 H3) [] (none :: capSt σ caps) H' s' ∧ tn i s'.heap ∧ (∀ b ∈ fp, H' b = none) ∧ W i n H') ?_ m0
      ⟨0, H3, I4, T.keep _ _ _ st2 (fun b hb o e => kold b o (k23 b o e)), fr3, w0⟩
    rintro n s5 ⟨i, H5, I5, st5, fr5, w5⟩
    rcases turn i n H5 w5 with ⟨stop, qn⟩ | ⟨go, step⟩
    · refine thn (T.done (X.blk cs cl (x :: caps.map (·.1)) C fp s3 H3) rfl rfl rfl hc i [] s5 _ H5 _ I5 (stat fr5) st5 stop) fun r s6 ⟨hr, I6⟩ => ?_
      subst hr
      obtain ⟨m, hn6, _⟩ := I6.loc
      have IX : Inv X pins σ H5 s6 := I3.call' (s' := s6) I6.os I6.base I6.hok I6.bare (fun b hb => ⟨(f2 b hb).2.2.2.1, (f2 b hb).2.1, (f2 b hb).2.2.2.2.1, (f2 b hb).2.2.2.2.2⟩) I6.tk.2
      refine hR D C H5 s6 m IX qn hn6 I6.free ?_ ?_ ?_ ?_
      · rw [← hC]; exact Nat.ne_of_gt I3.lt
      · rw [← hC]; exact I3.sz
      · intro y c e
        obtain ⟨_, o, q, _⟩ := I3.cell y c e
        rw [← hC]; exact Nat.ne_of_lt (Heap.lt_size q)
      · intro p hp
        rw [← hC]; exact Nat.ne_of_lt (Heap.lt_size (I3.pin p hp).1)
    · refine thn (T.item (X.blk cs cl (x :: caps.map (·.1)) C fp s3 H3) rfl rfl rfl hc i [] s5 _ H5 _ I5 (stat fr5) st5 go) fun r s6 ⟨u, hr, h6⟩ => ?_
      subst hr
      refine thn h6 fun _ s7 ⟨v, H7, I7, r7, y7, st7, fr7⟩ => ?_
      have I7' := I7.pinned (stat fr7) (T.obj _ _ st7)
      have lv : (relabel cs X.env).names.lookup x = some .local := lookup_relabel_local S.var
      have pg : PG (X.blk cs cl (x :: caps.map (·.1)) C fp s3 H3) (.Name x px) (gName 0) := pg_name S.nd rfl (.inl lv) (.inr lv)
      refine thn (pg _ s7 _ H7 v u (fun σ' H' => σ' = some v :: capSt σ caps ∧ H' = H7) I7' r7 ⟨rfl, rfl⟩) fun _ s8 ⟨σ8, H8, I8, e8, e8'⟩ => ?_
      subst e8 e8'
      have again : ∀ {H9 : Hp} {s9 : Shared} {m' : Nat}, Inv (X.blk cs cl (x :: caps.map (·.1)) C fp s3 H3) ([] ++ pinsAt fp s7.heap) (some v :: capSt σ caps) H9 s9 → m' < n → W (i + 1) m' H9 →
          ∃ m, m < n ∧ ∃ i H', Inv (X.blk cs cl (x :: caps.map (·.1)) C fp s3 H3) [] (none :: capSt σ caps) H' s9 ∧ tn i s9.heap ∧ (∀ b ∈ fp, H' b = none) ∧ W i m H' := fun {H9 s9 m'} I9 hm w9 => by
        have pin9 : ∀ b ∈ fp, ∀ o, s7.heap.get? b = some o → s9.heap.get? b = some o ∧ H9 b = none := fun b hb o e =>
          let q := I9.pin (b, o) (List.mem_append_right _ (List.mem_append_right _ (mem_pinsAt hb e))); ⟨q.1, q.2.1⟩
        refine ⟨m', hm, i + 1, H9, I9.unpinned.weak rfl (fun j z hz => ?_), T.keep _ _ _ st7 (fun b hb o e => (pin9 b hb o e).1), fun b hb => ?_, w9⟩
        · cases j with
          | zero => exact absurd hz (by simp)
          | succ j => exact hz
        · obtain ⟨o, e, _⟩ := T.obj _ _ st7 b hb
          exact (pin9 b hb o e).2
      refine thn (ht C fp s3 H3 _ s8 _ H8 _ I8 (step v H8 y7)) fun b s9 ⟨H9, I9, q9⟩ => ?_
      cases b with
      | false =>
        rw [if_neg (by simp)] at q9 ⊢
        obtain ⟨m', hm, w9⟩ := q9
        exact again I9 hm w9
      | true =>
        rw [if_pos rfl] at q9 ⊢
        refine thn (he C fp s3 H3 _ s9 _ H9 _ I9 q9) fun y s10 ⟨z, H10, I10, r10, acc, hacc, hlen, m', hm, w10⟩ => ?_
        refine thn (mt_append _ s10 _ H10 (.ref D) [z] (.ref D) [y] (fun _ H' => H' = upd H10 D (.lst (acc ++ [z]))) I10 rfl (.cons r10 .nil) ⟨D, acc, z, rfl, rfl, hacc, hlen, rfl⟩) fun _ s11 ⟨_, H11, I11, _, e11⟩ => ?_
        subst e11
        exact again I11 hm w10
  rw [e4]
  exact codeAny_compStart_list loop (T.self _ 0 _ _ _ (T.keep _ _ _ st2 fun b hb o e => kold b o (k23 b o e)) loop)

theorem pe_comp (S : CompScope X cs cl x caps) (hc : X.calm = true) (hi : PI X (.Name x px) iter wi) (ht : ∀ C fp s H, PTs (X.blk cs cl (x :: caps.map (·.1)) C fp s H) ifs tt) (he : ∀ C fp s H, PE (X.blk cs cl (x :: caps.map (·.1)) C fp s H) elt te)
    (hs : ∀ x, foldedSetIterable iter X.env x = pure x := by intro _; rfl) : PE X (.ListComp elt [⟨.Name x px, iter, ifs, 0⟩] cs pos) (tComp wi caps tt te) := by
  intro pins s σ H Q I h
  rw [eval_ListComp]
  refine wpAny_comprehension_free (use := none) rfl hs S.clos S.kind S.names (thn (hi pins s σ H _ I h) fun v s1 h1 => thn h1 fun itv s2 h2 => ?_)
  obtain ⟨it, fp, tn, J, H2, rfl, I2, T, st2, f2, hW⟩ := h2
  refine comp_run (RR := fun acc C => compPost (model X.prog X.w) X.A X.xe none (EP X pins σ Q) acc C) S hc ht he I2 T st2 f2 hW ?_
  intro D C H' s' m IX q hn hC hL hs0 hcl hp
  exact ⟨m, hn, fun h' hsb => ⟨.ref D, H', IX.turned (t' := s'.toks) (it := C) (fun b o hb e => hsb.extBut b o hb e) hC hL (.inr hs0) hcl hp, rfl, q⟩⟩

/-- name = [comprehension], where the store comes ahead of the block's names' end -/
theorem ps_setC {i : Nat} {y : Str} {py spos : Pos} (S : CompScope X cs cl x caps) (hc : X.calm = true) (hN : X.N.Nodup) (hiN : X.N[i]? = some y) (hy : X.env.scope.names.lookup y = some .local) (hi : PI X (.Name x px) iter wi)
    (ht : ∀ C fp s H, PTs (X.blk cs cl (x :: caps.map (·.1)) C fp s H) ifs tt) (he : ∀ C fp s H, PE (X.blk cs cl (x :: caps.map (·.1)) C fp s H) elt te)
    (hsw : swapsWith (.ListComp elt [⟨.Name x px, iter, ifs, 0⟩] cs pos) (some (.Name y py)) spos.line X.env = pure true := by rfl)
    (hs : ∀ x, foldedSetIterable iter X.env x = pure x := by intro _; rfl) : PS X (.Assign [.Name y py] (.ListComp elt [⟨.Name x px, iter, ifs, 0⟩] cs pos) spos) (tAsg (tComp wi caps tt te) (gName i)) := by
  intro pins s σ H D I h
  rw [exec_Assign_Name_used _ _ _ _ hsw]
  refine wpAny_bind (wpAny_standAt (wpAny_bind ?_))
  show wpAny _ _ (do let _ ← comprehension (.ListComp elt [⟨.Name x px, iter, ifs, 0⟩] cs pos) cs X.env _ (newList []) false (eval iter X.env) (some (assign (.Name y py) X.env))) _ _ s
  refine wpAny_bind (wpAny_mono (wpAny_comprehension_free (use := some (assign (.Name y py) X.env)) (Q := fun _ s' => SP X pins D .next s') rfl hs S.clos S.kind S.names
    (thn (hi pins s σ H _ I h) fun v s1 h1 => thn h1 fun itv s2 h2 => ?_)) (fun _ s' hq => wpAny_pure (wpAny_pure hq)) fun _ _ e => e)
  obtain ⟨it, fp, tn, J, H2, rfl, I2, T, st2, f2, hW⟩ := h2
  refine comp_run (Q := fun v H' => gName i v σ H' D.nx) (RR := fun acc C => compPost (model X.prog X.w) X.A X.xe (some (assign (.Name y py) X.env)) (fun _ s' => SP X pins D .next s') acc C) S hc ht he I2 T st2 f2 hW ?_
  intro Dl C H' s' m IX q hn hC hL hs0 hcl hp
  show wpAny _ _ (assign (.Name y py) X.env (.ref Dl)) _ _ s'
  refine wpAny_assign_Name (store_ok2 IX hN hiN (.inl hy) (v := .ref Dl) rfl (fun s'' I'' hch => ?_) (.inr hy))
  obtain ⟨a, hsa, ha⟩ := hch
  have hCa : C ≠ a := by
    rcases ha with e | e
    · rw [e]; exact hL
    · exact fun z => hcl _ _ e z.symm
  exact ⟨m, hn.sameBut hsa hCa, fun h' hsb => ⟨_, H', I''.turned (t' := s''.toks) (it := C) (fun b o hb e => hsb.extBut b o hb e) hC hL (.inr hs0) hcl hp, q⟩⟩
end

/-! ### the forms one uses -/
/-- the word of a loop of n turns, with its measure -/
def Wn (Pv : Nat → Hp → Prop) (n i m : Nat) (H : Hp) : Prop := Pv i H ∧ i ≤ n ∧ m = n - i
theorem wn_next {Pv : Nat → Hp → Prop} {n i : Nat} {H : Hp} (lt : i < n) (p : Pv (i + 1) H) : ∃ m', m' < n - i ∧ Wn Pv n (i + 1) m' H := ⟨n - (i + 1), by omega, p, lt, rfl⟩
/-- over a range: the turn i (its int lo + i) adds one item; D: the new list -/
theorem comp_range {lo : Int} {n : Nat} {tt : TT} {te : TE} {caps : List (Str × Nat)} {σ : St} {H1 : Hp} {Q : VK} (Pv : Addr → Nat → Hp → Prop) (h0 : ∀ D, H1 D = none → Pv D 0 (upd H1 D (.lst [])))
    (hs : ∀ D i H, H1 D = none → i < n → Pv D i H → tt (some (.int (lo + i)) :: capSt σ caps) H fun b H2 => if b = true then
      te (some (.int (lo + i)) :: capSt σ caps) H2 fun y H3 => ∃ acc, H3 D = some (.lst acc) ∧ acc.length < sizeLine ∧ ∃ m', m' < n - i ∧ Wn (Pv D) n (i + 1) m' (upd H3 D (.lst (acc ++ [y]))) else ∃ m', m' < n - i ∧ Wn (Pv D) n (i + 1) m' H2)
    (hd : ∀ D H, H1 D = none → Pv D n H → Q (.ref D) H) : CompW caps tt te σ Q (Itr lo n) H1 := by
  intro D hD
  refine ⟨Wn (Pv D) n, ⟨n, h0 D hD, Nat.zero_le _, rfl⟩, fun i m H ⟨p, hi, hm⟩ => ?_⟩
  subst hm
  by_cases e : i = n
  · subst e
    exact .inl ⟨Nat.le_refl _, hd D H hD p⟩
  · have lt : i < n := by omega
    refine .inr ⟨lt, fun x H' hy => ?_⟩
    obtain ⟨rfl, rfl⟩ := hy
    exact hs D i H' hD lt p
/-- over a list that stays -/
theorem comp_list {K : PySem.W.Frag} {a : Addr} {xs : List V} {tt : TT} {te : TE} {caps : List (Str × Nat)} {σ : St} {H1 : Hp} {Q : VK} (Pv : Addr → Nat → Hp → Prop) (h0 : ∀ D, H1 D = none → Pv D 0 (upd H1 D (.lst [])))
    (hl : ∀ D i H, H1 D = none → i ≤ xs.length → Pv D i H → SqL K H a xs)
    (hs : ∀ D i x H, H1 D = none → xs[i]? = some x → Pv D i H → tt (some x :: capSt σ caps) H fun b H2 => if b = true then
      te (some x :: capSt σ caps) H2 fun y H3 => ∃ acc, H3 D = some (.lst acc) ∧ acc.length < sizeLine ∧ ∃ m', m' < xs.length - i ∧ Wn (Pv D) xs.length (i + 1) m' (upd H3 D (.lst (acc ++ [y]))) else ∃ m', m' < xs.length - i ∧ Wn (Pv D) xs.length (i + 1) m' H2)
    (hd : ∀ D H, H1 D = none → Pv D xs.length H → Q (.ref D) H) : CompW caps tt te σ Q (Itl K a) H1 := by
  intro D hD
  refine ⟨Wn (Pv D) xs.length, ⟨xs.length, h0 D hD, Nat.zero_le _, rfl⟩, fun i m H ⟨p, hi, hm⟩ => ?_⟩
  subst hm
  by_cases e : i = xs.length
  · subst e
    exact .inl ⟨⟨xs, hl D _ _ hD (Nat.le_refl _) p, Nat.le_refl _⟩, hd D H hD p⟩
  · have lt : i < xs.length := by omega
    have hx : xs[i]? = some xs[i] := List.getElem?_eq_getElem lt
    refine .inr ⟨⟨xs, xs[i], hl D i H hD hi p, hx⟩, fun x H' hy => ?_⟩
    obtain ⟨rfl, hy⟩ := hy
    exact hs D i x H' hD (hy xs (hl D i H' hD hi p)) p
end L2

/-! EXTENSION B: data compared, isinstance, min, max, sum, sorted of few ints, zip -/
namespace L2
open PySem PySem.Spec PyProof.Rows

/-! ### data read off the abstract heap -/
mutual
inductive RdD (K : PySem.W.Frag) (H : Hp) : V → PyData → Prop
  | non : RdD K H .non .none
  | bl (b : Bool) : RdD K H (.bl b) (.bool b)
  | int (i : Int) : RdD K H (.int i) (.int i)
  | str (x : Str) : RdD K H (.str x) (.str x)
  | lst {a : Addr} {xs : List V} {ds : List PyData} : SqL K H a xs → RdAll K H xs ds → RdD K H (.ref a) (.list ds)
  | tup {a : Addr} {xs : List V} {ds : List PyData} : SqT K H a xs → RdAll K H xs ds → RdD K H (.ref a) (.tuple ds)
inductive RdAll (K : PySem.W.Frag) (H : Hp) : List V → List PyData → Prop
  | nil : RdAll K H [] []
  | cons {x : V} {xs : List V} {d : PyData} {ds : List PyData} : RdD K H x d → RdAll K H xs ds → RdAll K H (x :: xs) (d :: ds)
end
theorem rdInts {K : PySem.W.Frag} {H : Hp} : ∀ ns : List Int, RdAll K H (ns.map V.int) (ns.map PyData.int)
  | [] => .nil
  | n :: r => .cons (.int n) (rdInts r)
section
variable {X : Cx} {pins : List (Addr × Obj)} {σ : St} {H : Hp} {s : Shared}
mutual
theorem rd_reads (I : Inv X pins σ H s) : ∀ (d : PyData) {x : V} {u : Value}, RdD X.K H x d → RelV x u → ∃ as, Reads s.heap u d as
  | .none, _, u, h, r => by
    cases h
    cases (show u = Value.none from r); exact ⟨_, .none⟩
  | .bool b, _, u, h, r => by
    cases h
    cases (show u = Value.bool b from r); exact ⟨_, .bool b⟩
  | .int i, _, u, h, r => by
    cases h
    obtain ⟨t, rfl⟩ := (show ∃ t, u = Value.int i t from r); exact ⟨_, .int i t⟩
  | .str x, _, u, h, r => by
    cases h
    obtain ⟨t, rfl⟩ := (show ∃ t, u = Value.str x t from r); exact ⟨_, .str x t⟩
  | .list ds, _, u, h, r => by
    cases h with
    | @lst a xs _ hl hr =>
    cases (show u = Value.ref a from r)
    obtain ⟨its, rv, ⟨o, n, e, h1, _, h2⟩, _⟩ := I.list hl
    obtain ⟨as, h3⟩ := rd_readsAll I ds hr rv
    exact ⟨_, .list e h1 h2 h3⟩
  | .tuple ds, _, u, h, r => by
    cases h with
    | @tup a xs _ hl hr =>
    cases (show u = Value.ref a from r)
    obtain ⟨its, rv, ⟨o, e, h1, n, h2⟩, _⟩ := I.tuple hl
    obtain ⟨as, h3⟩ := rd_readsAll I ds hr rv
    exact ⟨_, .tuple e h1 h2 h3⟩
  | .dict _, _, _, h, _ => by cases h
theorem rd_readsAll (I : Inv X pins σ H s) : ∀ (ds : List PyData) {xs : List V} {us : List Value}, RdAll X.K H xs ds → Vals xs us → ∃ as, ReadsAll s.heap us ds as
  | [], _, _, .nil, .nil => ⟨_, .nil⟩
  | d :: ds, _, _, .cons h hr, .cons r rr => by
    obtain ⟨as, h1⟩ := rd_reads I d h r
    obtain ⟨bs, h2⟩ := rd_readsAll I ds hr rr
    exact ⟨_, .cons h1 h2⟩
end
end
section
variable {X : Cx}
theorem op_neD (hu : X.A.units + 64 < cLine) : OpR X (compareOp .NotEq) (fun x y H Q => ∃ da db, RdD X.K H x da ∧ RdD X.K H y db ∧ da.canLay0 = true ∧ db.canLay0 = true ∧ da.depth ≤ 64 ∧ Q (.bl (!PyData.eqv da db)) H) := by
  intro pins s σ H x y v u Q I rx ry h
  obtain ⟨da, db, hx, hy, c1, c2, hd, q⟩ := h
  obtain ⟨as, r1⟩ := rd_reads I da hx rx
  obtain ⟨bs, r2⟩ := rd_reads I db hy ry
  exact SeqAt.compareNe_reads r1 r2 c1 c2 (by omega) ⟨.bl _, H, I, rfl, q⟩
end
/-- ints; lists of ints -/
def dI (ns : List Int) : PyData := .list (ns.map .int)
def dII (nss : List (List Int)) : PyData := .list (nss.map dI)
theorem lay_ints : ∀ ns : List Int, PyData.canLayAll0 (ns.map PyData.int) = true
  | [] => by simp [PyData.canLayAll0]
  | _ :: r => by simp [PyData.canLayAll0, PyData.canLay0, lay_ints r]
theorem depth_ints : ∀ ns : List Int, PyData.depthAll (ns.map PyData.int) = 0
  | [] => by simp [PyData.depthAll]
  | _ :: r => by simp [PyData.depthAll, PyData.depth, depth_ints r]
theorem dI_lay (ns : List Int) : (dI ns).canLay0 = true := by unfold dI; simp only [PyData.canLay0]; exact lay_ints ns
theorem dI_depth (ns : List Int) : (dI ns).depth = 1 := by unfold dI; simp only [PyData.depth]; rw [depth_ints]
theorem dII_layAll : ∀ nss : List (List Int), PyData.canLayAll0 (nss.map dI) = true
  | [] => by simp [PyData.canLayAll0]
  | n :: r => by simp [PyData.canLayAll0, dI_lay n, dII_layAll r]
theorem dII_depthAll : ∀ nss : List (List Int), PyData.depthAll (nss.map dI) ≤ 1
  | [] => by simp [PyData.depthAll]
  | n :: r => by
    have h := dII_depthAll r
    simp only [List.map_cons, PyData.depthAll, dI_depth]
    omega
theorem dII_lay (nss : List (List Int)) : (dII nss).canLay0 = true := by unfold dII; simp only [PyData.canLay0]; exact dII_layAll nss
theorem dII_depth (nss : List (List Int)) : (dII nss).depth ≤ 2 := by
  have h := dII_depthAll nss
  unfold dII; simp only [PyData.depth]; omega
theorem eqv_dI (ns ms : List Int) : PyData.eqv (dI ns) (dI ms) = decide (ns = ms) := by unfold dI; simp only [PyData.eqv]; exact PySem.W.ked_eqvAll ns ms
theorem eqv_dIIAll : ∀ a b : List (List Int), PyData.eqvAll (a.map dI) (b.map dI) = decide (a = b)
  | [], [] => by simp [PyData.eqvAll]
  | [], _ :: _ => by simp [PyData.eqvAll]
  | _ :: _, [] => by simp [PyData.eqvAll]
  | x :: r, y :: t => by
    simp only [List.map_cons, PyData.eqvAll, eqv_dI, eqv_dIIAll r t]
    by_cases h : x = y <;> by_cases h' : r = t <;> simp [h, h']
theorem eqv_dII (a b : List (List Int)) : PyData.eqv (dII a) (dII b) = decide (a = b) := by unfold dII; simp only [PyData.eqv]; exact eqv_dIIAll a b
/-- the refs of lists of ints -/
def RdI (K : PySem.W.Frag) (H : Hp) : List V → List (List Int) → Prop
  | [], [] => True
  | x :: xs, n :: ns => (∃ a, x = .ref a ∧ SqL K H a (n.map V.int)) ∧ RdI K H xs ns
  | _, _ => False
theorem RdI.all {K : PySem.W.Frag} {H : Hp} : ∀ {xs : List V} {nss : List (List Int)}, RdI K H xs nss → RdAll K H xs (nss.map dI)
  | [], [], _ => .nil
  | [], _ :: _, h => nomatch h
  | _ :: _, [], h => nomatch h
  | _ :: _, n :: _, ⟨⟨a, e, h⟩, hr⟩ => by subst e; exact .cons (.lst h (rdInts n)) (RdI.all hr)
section
variable {X : Cx}
theorem op_neI (hu : X.A.units + 64 < cLine) : OpR X (compareOp .NotEq) (fun x y H Q => ∃ (a b : Addr) (ns ms : List Int), x = .ref a ∧ y = .ref b ∧ SqL X.K H a (ns.map V.int) ∧ SqL X.K H b (ms.map V.int) ∧ Q (.bl (!decide (ns = ms))) H) := by
  intro pins s σ H x y v u Q I rx ry h
  obtain ⟨a, b, ns, ms, rfl, rfl, h1, h2, q⟩ := h
  exact op_neD hu pins s σ H _ _ v u Q I rx ry ⟨dI ns, dI ms, .lst h1 (rdInts ns), .lst h2 (rdInts ms), dI_lay ns, dI_lay ms, by rw [dI_depth]; omega, by rw [eqv_dI]; exact q⟩
theorem op_neII (hu : X.A.units + 64 < cLine) : OpR X (compareOp .NotEq) (fun x y H Q => ∃ (a b : Addr) (xs ys : List V) (nss mss : List (List Int)), x = .ref a ∧ y = .ref b ∧ SqL X.K H a xs ∧ SqL X.K H b ys ∧ RdI X.K H xs nss ∧ RdI X.K H ys mss ∧ Q (.bl (!decide (nss = mss))) H) := by
  intro pins s σ H x y v u Q I rx ry h
  obtain ⟨a, b, xs, ys, ns, ms, rfl, rfl, h1, h2, h3, h4, q⟩ := h
  exact op_neD hu pins s σ H _ _ v u Q I rx ry ⟨dII ns, dII ms, .lst h1 h3.all, .lst h2 h4.all, dII_lay ns, dII_lay ms, by have := dII_depth ns; omega, by rw [eqv_dII]; exact q⟩

/-! ### isinstance -/
def rIsi (K : PySem.W.Frag) : List V → Hp → VK → Prop := fun xs H Q => ∃ x T t b, xs = [x, .ty T] ∧ TyOf K H x t ∧ PySem.W.kitOne K t (.type T) = some b ∧ Q (.bl b) H
theorem call_isi : CallR X (.builtin "isinstance") (rIsi X.K) := by
  intro pins s σ H xs us Q I r h
  obtain ⟨x, T, t, b, rfl, ty, e, q⟩ := h
  obtain ⟨u, w', rfl, ru, rw'⟩ := vals2 r
  cases (show w' = Value.type T from rw')
  exact wpAny_toks (isinst_ok I ru ty e fun tk ht => ⟨.bl b, H, I.tok _ ht, rfl, q⟩)

/-! ### min, max, sum, sorted of a list of ints -/
theorem ints_of_vals : ∀ {ns : List Int} {us : List Value}, Vals (ns.map V.int) us → IntsAre us ns := fun r => intsAre_of r
theorem Inv.intItems {pins : List (Addr × Obj)} {s : Shared} {σ : St} {H : Hp} {p : Addr} {ns : List Int} (I : Inv X pins σ H s) (h : SqL X.K H p (ns.map V.int)) :
    ∃ (vs : List Value), IntsAre vs ns ∧ s.heap.IsList p vs.toArray := by
  obtain ⟨its, r, pl, _⟩ := I.list h
  exact ⟨its, ints_of_vals r, pl.isList⟩
theorem call_maxL (hc : X.calm = true) : CallR X (.builtin "max") (fun xs H Q => ∃ (p : Addr) (ns : List Int), xs = [.ref p] ∧ SqL X.K H p (ns.map V.int) ∧ 0 < ns.length ∧ ∀ M, M ∈ ns → (∀ a ∈ ns, a ≤ M) → Q (.int M) H) := by
  intro pins s σ H xs us Q I r h
  obtain ⟨p, ns, rfl, hl, hne, q⟩ := h
  obtain ⟨u, rfl, ru⟩ := vals1 r
  cases (show u = Value.ref p from ru)
  obtain ⟨vs, hi, hv⟩ := I.intItems hl
  obtain ⟨xs, e⟩ := hi.allInts.items
  have hns : ns = xs.toList.map (·.1) := by rw [← hi.numsOf, ← nums_intItems, ← e]
  have hsz : 0 < xs.size := by
    have h3 := hne; rw [hns, List.length_map, Array.length_toList] at h3; exact h3
  rw [e] at hv
  refine wpAny_toks (max_intList (I.ok.hd hc) hv hsz fun v h' tk hv hk htk => ?_)
  obtain ⟨t, rfl⟩ := intItems_at hv
  obtain ⟨h1, h2⟩ := argBest_gt (numAt xs) (xs.size - 1)
  refine ⟨.int _, H, I.kept hk htk, ⟨t, rfl⟩, q _ ?_ fun a ha => ?_⟩
  · rw [hns, numAt_eq]; exact getD_mem (by rw [List.length_map, Array.length_toList]; omega)
  · rw [hns] at ha
    obtain ⟨j, hj, rfl⟩ := mem_getD ha
    rw [List.length_map, Array.length_toList] at hj
    rw [← numAt_eq]; exact h2 j (by omega)
end

/-! ### records that turn while a new object is laid -/
section
variable {X : Cx} {pins : List (Addr × Obj)} {σ : St} {H : Hp} {s : Shared} {h' : Heap} {a : Addr} {o : HO} {ch : List Addr} {t' : Nat}
theorem Inv.laidCh (I : Inv X pins σ H s) (k : ∀ b u, b ∉ ch → s.heap.get? b = some u → h'.get? b = some u) (hf : ∀ b ∈ ch, FpOk X pins H b) (hp : s.heap.objs.size ≤ a) (new : ObjOk X.prog X.w (upd H a o) h' a o) (ht : s.toks ≤ t' := by first | exact Nat.le_refl _ | exact Nat.le_succ _ | assumption | omega) :
    Inv X pins σ (upd H a o) { s with heap := h', toks := t' } := by
  have hn : H a = none := I.hok.fresh hp
  have trk : ∀ b u, H b = some u → b ∉ ch := fun b u e hb => by rw [(hf b hb).1] at e; cases e
  have old : ∀ b, b ≠ a → upd H a o b = H b := fun b hb => upd_ne hb
  have lt : ∀ {b u}, H b = some u → b ≠ a := fun e z => by rw [z, hn] at e; cases e
  have ltH : ∀ {b u}, s.heap.get? b = some u → b ≠ a := fun e z => Nat.lt_irrefl _ (Nat.lt_of_lt_of_le (z ▸ Heap.lt_size e) hp)
  refine I.call' (ch := ch) (s' := { s with heap := h', toks := t' }) rfl ?_ ?_ I.bare (fun b hb => ⟨(hf b hb).2.2.2.1, (hf b hb).2.1, (hf b hb).2.2.2.2.1, (hf b hb).2.2.2.2.2⟩) ht
  · exact
      { keep := fun b u e _ _ hx => k b u hx e
        slot := fun b u e _ _ hx => ⟨u.slots, k b u hx e⟩
        free := fun b u e q _ => by rw [old b (ltH e)]; exact q
        there := fun b u e hx => ⟨u, k b u hx e⟩
        tups := fun b xs e => by rw [old b (lt e)]; exact e
        frzs := fun b u v e => by rw [old b (lt e)]; exact e
        tbls := fun b ps e => ⟨#[], by rw [old b (lt e)]; simpa using e⟩ }
  · intro b u e
    by_cases hb : b = a
    · subst hb
      rw [upd_same] at e; cases e
      exact new
    · rw [old b hb] at e
      refine (I.hok b u e).stay (fun c v hc q => k c v ?_ q) (fun c hc => by rw [old c (lt hc)]; exact hc) fun c xs hc => by rw [old c (lt hc)]; exact hc
      rcases hc with rfl | hc
      · exact trk _ _ e
      · exact trk _ _ hc
end

/-! ### zip of two lists, walked by a pair of names -/
def Itz (K : PySem.W.Frag) (a b : Addr) : It :=
  ⟨fun i H => ∃ xs ys x y, SqL K H a xs ∧ SqL K H b ys ∧ xs[i]? = some x ∧ ys[i]? = some y,
   fun i H v H' => ∃ t x y, v = .ref t ∧ H t = none ∧ H' = upd H t (.tup [x, y]) ∧ (∀ xs, SqL K H a xs → xs[i]? = some x) ∧ (∀ ys, SqL K H b ys → ys[i]? = some y),
   fun i H => ∃ xs ys, SqL K H a xs ∧ SqL K H b ys ∧ (xs.length ≤ i ∨ ys.length ≤ i)⟩
def ZipSt (z TI TO i1 i2 a b : Addr) (i : Nat) (h : Heap) : Prop := IsZip h z TI TO .none ∧ IsPair h TI (.ref i1) (.ref i2) ∧ (∃ x y, IsPair h TO x y) ∧ h.IsListIter i1 a i ∧ h.IsListIter i2 b i
theorem turn_zip {P : Program} {w : World} {K : PySem.W.Frag} {es : List Expr} {kk : Nat} {pos : Pos} {z TI TO i1 i2 a b : Addr} (D : ZipApart z TI TO i1 i2 a b) :
    Turn P w K (.Tuple es kk pos) (Itz K a b) [z, TI, TO, i1, i2] z (ZipSt z TI TO i1 i2 a b) where
  mem := .head _
  obj := fun i h st c hc => by
    obtain ⟨hz, hTI, ⟨x, y, hTO⟩, ⟨o1, e1, _, d1⟩, ⟨o2, e2, _, d2⟩⟩ := st
    simp only [List.mem_cons, List.mem_nil_iff, or_false] at hc
    rcases hc with rfl | rfl | rfl | rfl | rfl
    · exact ⟨_, hz, fun v q => nomatch q⟩
    · exact ⟨_, hTI, fun v q => nomatch q⟩
    · exact ⟨_, hTO, fun v q => nomatch q⟩
    · exact ⟨_, e1, fun v q => by rw [d1] at q; cases q⟩
    · exact ⟨_, e2, fun v q => by rw [d2] at q; cases q⟩
  keep := fun i h h' st k => by
    obtain ⟨hz, hTI, ⟨x, y, hTO⟩, h1, h2⟩ := st
    exact ⟨k z (by simp) _ hz, k TI (by simp) _ hTI, ⟨x, y, k TO (by simp) _ hTO⟩, h1.at fun o e => k i1 (by simp) o e, h2.at fun o e => k i2 (by simp) o e⟩
  item := fun X eP eW eK hc i pins s σ H E I hf st go => by
    subst eP eW eK
    obtain ⟨hz, hTI, ⟨x0, y0, hTO⟩, h1, h2⟩ := st
    obtain ⟨xs, ys, x, y, hxs, hys, hx, hy⟩ := go
    obtain ⟨its, r1, p1, z1⟩ := I.list hxs
    obtain ⟨jts, r2, p2, z2⟩ := I.list hys
    obtain ⟨u, hu, ru⟩ := r1.get hx
    obtain ⟨v, hv, rv⟩ := r2.get hy
    refine wpAny_pyNext_zip_item D hz hTI hTO h1 h2 p1.isList p2.isList (x := u) (y := v) (by simpa using hu) (by simpa using hv) fun h' a1 a2 a3 a4 a5 a6 hk => ⟨_, rfl, ?_⟩
    refine wpAny_letOwnedTupleGo_zip a1 fun h'' b1 hs => ?_
    have zT : s.heap.objs.size ≠ z := Nat.ne_of_gt (Heap.lt_size hz)
    have kk : ∀ c o, c ∉ [z, TI, TO, i1, i2] → s.heap.get? c = some o → h''.get? c = some o := fun c o hc e => by
      simp only [List.mem_cons, List.mem_nil_iff, or_false, not_or] at hc
      exact hs.extBut c o hc.1 (hk c o hc.1 hc.2.2.1 hc.2.2.2.1 hc.2.2.2.2 e)
    refine ⟨.ref s.heap.objs.size, upd H s.heap.objs.size (.tup [x, y]), I.laidCh (t' := s.toks) (ch := [z, TI, TO, i1, i2]) kk hf (Nat.le_refl _) ?_, rfl, ⟨_, x, y, rfl, I.fresh, rfl, fun zs hzs => ?_, fun zs hzs => ?_⟩, ?_, fun c hc => ?_⟩
    · exact ⟨by show 2 ≤ sizeLine; decide, [u, v], .cons ru (.cons rv .nil), ⟨_, hs.extBut _ _ zT a5, rfl, _, rfl⟩⟩
    · rw [I.list_inj hzs hxs]; exact hx
    · rw [I.list_inj hzs hys]; exact hy
    · exact ⟨b1, hs.extBut _ _ D.TIz (hk _ _ D.TIz D.TITO D.TIi1 D.TIi2 hTI), ⟨_, _, hs.extBut _ _ D.TOz a2⟩, a3.extBut hs.extBut D.i1z, a4.extBut hs.extBut D.i2z⟩
    · rw [upd_ne]
      · exact (hf c hc).1
      · obtain ⟨o, e⟩ : ∃ o, s.heap.get? c = some o := by
          obtain ⟨o1, e1, _⟩ := h1
          obtain ⟨o2, e2, _⟩ := h2
          simp only [List.mem_cons, List.mem_nil_iff, or_false] at hc
          rcases hc with rfl | rfl | rfl | rfl | rfl
          · exact ⟨_, hz⟩
          · exact ⟨_, hTI⟩
          · exact ⟨_, hTO⟩
          · exact ⟨_, e1⟩
          · exact ⟨_, e2⟩
        exact Nat.ne_of_lt (Heap.lt_size e)
  done := fun X eP eW eK hc i pins s σ H E I hf st stop => by
    subst eP eW eK
    obtain ⟨hz, hTI, ⟨x0, y0, hTO⟩, h1, h2⟩ := st
    obtain ⟨xs, ys, hxs, hys, hend⟩ := stop
    obtain ⟨its, r1, p1, z1⟩ := I.list hxs
    obtain ⟨jts, r2, p2, z2⟩ := I.list hys
    have l1 := r1.length
    have l2 := r2.length
    refine wpAny_pyNext_zip_end (I.ok.hd hc) D hz hTI hTO h1 h2 p1.isList p2.isList ?_ fun h' hk => ⟨rfl, ?_⟩
    · rcases hend with e | e
      · exact .inl (Array.getElem?_eq_none (by simp; omega))
      · exact .inr (Array.getElem?_eq_none (by simp; omega))
    · have trk : ∀ b u, H b = some u → b ∉ [z, TI, TO, i1, i2] := fun b u e hb => by rw [(hf b hb).1] at e; cases e
      have kk : ∀ c o, c ∉ [z, TI, TO, i1, i2] → s.heap.get? c = some o → h'.get? c = some o := fun c o hc e => by
        simp only [List.mem_cons, List.mem_nil_iff, or_false, not_or] at hc
        exact hk c o hc.1 hc.2.2.1 hc.2.2.2.1 hc.2.2.2.2 e
      refine I.call' (ch := [z, TI, TO, i1, i2]) (s' := { s with heap := h' }) rfl ?_ ?_ I.bare fun b hb => ⟨(hf b hb).2.2.2.1, (hf b hb).2.1, (hf b hb).2.2.2.2.1, (hf b hb).2.2.2.2.2⟩
      · exact
          { keep := fun b u e _ _ hx => kk b u hx e
            slot := fun b u e _ _ hx => ⟨u.slots, kk b u hx e⟩
            free := fun b u e q _ => q
            there := fun b u e hx => ⟨u, kk b u hx e⟩
            tups := fun b xs e => e
            frzs := fun b u v e => e
            tbls := fun b ps e => ⟨#[], by simpa using e⟩ }
      · intro b u e
        refine (I.hok b u e).stay (fun c v hc q => kk c v ?_ q) (fun c hc => hc) fun c xs hc => hc
        rcases hc with rfl | hc
        · exact trk _ _ e
        · exact trk _ _ hc
  self := fun A i s Q E st h => wpAny_pyIter_zip st.1 h

def iZip (K : PySem.W.Frag) (ta : TA) : TI := fun σ H R => ta σ H fun vs H1 => ∃ a b, vs = [.ref a, .ref b] ∧ (∃ xs, SqL K H1 a xs) ∧ (∃ ys, SqL K H1 b ys) ∧ R (Itz K a b) H1
section
variable {X : Cx}
theorem pi_zip {e1 e2 : Expr} {ta : TA} {p pos pos' : Pos} {es : List Expr} {kk : Nat} (hg : Gl X "zip") (hm : X.mg "zip" = none) (ha : PA X [e1, e2] ta)
    (hs : starEach [e1, e2] X.env = [(false, eval e1 X.env), (false, eval e2 X.env)] := by rfl) (hs2 : starEach [e2] X.env = [(false, eval e2 X.env)] := by rfl) :
    PI X (.Tuple es kk pos') (.Call (.Name "zip" p) [e1, e2] [] pos) (iZip X.K ta) := by
  intro pins s σ H R I h
  refine Call_ (ld_blt I hg hm PyProof.Rows.Boot.«zip» (PyProof.Rows.callWith_type1 (thn (ha pos pins s σ H _ I h) fun us s1 ⟨vs, H1, I1, r1, q1⟩ => ?_) (by rw [hs, hs2]) (by rw [hs2]; rfl)))
  obtain ⟨a, b, e, ⟨xs, hxs⟩, ⟨ys, hys⟩, q⟩ := q1
  subst e
  cases r1 with
  | cons r rr =>
    cases rr with
    | cons r' rr =>
      cases rr
      cases r
      cases r'
      obtain ⟨its, v1, p1, _⟩ := I1.list hxs
      obtain ⟨jts, v2, p2, _⟩ := I1.list hys
      have la : a < s1.heap.objs.size := by obtain ⟨o, n, e, _⟩ := p1; exact Heap.lt_size e
      have lb : b < s1.heap.objs.size := by obtain ⟨o, n, e, _⟩ := p2; exact Heap.lt_size e
      have hn : ∀ i j : Nat, i ≠ j → s1.heap.objs.size + i ≠ s1.heap.objs.size + j := fun i j h e => h (Nat.add_left_cancel e)
      have ha : ∀ k : Nat, a ≠ s1.heap.objs.size + k := fun k => Nat.ne_of_lt (Nat.lt_of_lt_of_le la (Nat.le_add_right _ _))
      have hb : ∀ k : Nat, b ≠ s1.heap.objs.size + k := fun k => Nat.ne_of_lt (Nat.lt_of_lt_of_le lb (Nat.le_add_right _ _))
      refine call_zip_2 p1.isList p2.isList fun h' z1 z2 z3 z4 z5 hsz hk => ?_
      refine wpAny_pyIter_zip z1 ⟨s1.heap.objs.size + 4, [s1.heap.objs.size + 4, s1.heap.objs.size + 2, s1.heap.objs.size + 3, s1.heap.objs.size, s1.heap.objs.size + 1], _, Itz X.K a b, H1, rfl, I1.kept (t' := s1.toks) hk,
        turn_zip (TI := s1.heap.objs.size + 2) (TO := s1.heap.objs.size + 3) (i1 := s1.heap.objs.size) (i2 := s1.heap.objs.size + 1) ⟨hn 2 4 (by decide), hn 3 4 (by decide), hn 0 4 (by decide), hn 1 4 (by decide), hn 2 3 (by decide), hn 2 0 (by decide), hn 2 1 (by decide), hn 3 0 (by decide), hn 3 1 (by decide), hn 0 1 (by decide), ha 4, ha 3, ha 0, ha 1, hb 4, hb 3, hb 0, hb 1⟩,
        ⟨z1, z2, ⟨_, _, z3⟩, z4, z5⟩, fun c hc => ?_, q⟩
      have hcl : s1.heap.objs.size ≤ c := by
        simp only [List.mem_cons, List.mem_nil_iff, or_false] at hc
        rcases hc with rfl | rfl | rfl | rfl | rfl
        · exact Nat.le_add_right _ _
        · exact Nat.le_add_right _ _
        · exact Nat.le_add_right _ _
        · exact Nat.le_refl _
        · exact Nat.le_add_right _ _
      exact I1.fpOk hcl (I1.hok.fresh hcl)
end
end L2

/-! EXTENSION C: how an exception lies behind a call; defs that never raise; the forms of loops -/
namespace L2
open PySem PySem.Spec PyProof.Rows

/-- an exception in flight: its object a (untracked), its class; B: what no frame's passing touches -/
def CXE (P : Program) (w : World) : CXT := fun outer H s E e s' => ∃ (a : Addr) (cls a0 : Value) (B : Heap) (H' : Hp), e = .ref a ∧ (s'.os = s.os ∧ s.toks ≤ s'.toks) ∧ AllBare s'.gens ∧ Un (frs outer) [] H H' s.heap s'.heap ∧ HOk P w H' s'.heap ∧ H' a = none ∧
  (∀ b u, H' b = some u → ∃ o, B.get? b = some o) ∧ (∀ b o, s.heap.get? b = some o → b ∉ frs outer → ∃ o', B.get? b = some o') ∧ Heap.FlyingW B outer a cls a0 s'.heap ∧ E cls none H'
theorem passN {P : Program} {w : World} {X : Cx} : Passes (CXE P w) X E0 := fun _ _ _ _ _ _ _ h => by
  obtain ⟨_, _, _, _, _, _, _, _, _, _, _, _, _, _, z⟩ := h
  exact z.elim

section
variable {P : Program} {w : World} {K : PySem.W.Frag} {mg : Str → Option Value} {base : Heap}
/-- a def that never raises -/
theorem Fun.okN {CX : CXT} {x qual : Str} {st : Stmt} {f : Addr} {fd : FuncData} {N ps : List Str} {k : Nat} {sp : Sp} (F : Fun K x qual st f fd) (S : FnScope N ps (defScope st)) (len : ∀ vs H Q E, sp vs H Q E → vs.length = ps.length)
    (hbody : ∀ (cdv : Value) (A : Around) (outer : List Env) (s : Shared) (H : Hp) (vs : List V) (Q : VK) (E : XK), Room k (A.deeper (envOfC qual (defScope st) s.heap.objs.size f cdv)) → sp vs H Q E →
      ∃ t, PSs (cxOf CX P w K mg base N qual (defScope st) f cdv A outer s H E).nox (defBody st) t ∧ t { nx := fun _ H' => Q .non H', rt := Q } (start N vs) H) : FnOk P w K mg base CX (k + 1) f fd ps sp := by
  obtain ⟨oc, od, kV, doc, pm, an, cdv, ct, osl, rfl, lk, hcd⟩ := F.ex
  refine fn_of lk hcd S len fun A outer s H vs Q E hr hsp => ?_
  obtain ⟨t, h, q⟩ := hbody cdv A outer s H vs Q E hr hsp
  exact ⟨t, h.nox, q⟩
/-- a def that may raise -/
theorem Fun.okX {CX : CXT} {x qual : Str} {st : Stmt} {f : Addr} {fd : FuncData} {N ps : List Str} {k : Nat} {sp : Sp} (F : Fun K x qual st f fd) (S : FnScope N ps (defScope st)) (len : ∀ vs H Q E, sp vs H Q E → vs.length = ps.length)
    (hbody : ∀ (cdv : Value) (A : Around) (outer : List Env) (s : Shared) (H : Hp) (vs : List V) (Q : VK) (E : XK), Room k (A.deeper (envOfC qual (defScope st) s.heap.objs.size f cdv)) → sp vs H Q E →
      ∃ t, PSs (cxOf CX P w K mg base N qual (defScope st) f cdv A outer s H E) (defBody st) t ∧ t { nx := fun _ H' => Q .non H', rt := Q } (start N vs) H) : FnOk P w K mg base CX (k + 1) f fd ps sp := by
  obtain ⟨oc, od, kV, doc, pm, an, cdv, ct, osl, rfl, lk, hcd⟩ := F.ex
  exact fn_of lk hcd S len fun A outer s H vs Q E hr hsp => hbody cdv A outer s H vs Q E hr hsp
end

/-! ### zip's loop -/
theorem for_zip {K : PySem.W.Frag} {a b : Addr} {xs ys : List V} {g : TG} {tb : TS} {D : Ends} {σ : St} {H : Hp} (Pv : Nat → St → Hp → Prop) (h0 : Pv 0 σ H) (hl : ∀ i σ H, i ≤ min xs.length ys.length → Pv i σ H → SqL K H a xs ∧ SqL K H b ys)
    (hs : ∀ i x y t σ H, xs[i]? = some x → ys[i]? = some y → H t = none → Pv i σ H → g (.ref t) σ (upd H t (.tup [x, y])) fun σ2 H2 => tb { D with nx := Pv (i + 1), ct := Pv (i + 1), bk := D.nx } σ2 H2) (hd : ∀ σ H, Pv (min xs.length ys.length) σ H → D.nx σ H) :
    ∃ W : Nat → Nat → St → Hp → Prop, (∃ m, W 0 m σ H) ∧ ∀ i m σ H, W i m σ H → ((Itz K a b).stop i H ∧ D.nx σ H) ∨ ((Itz K a b).go i H ∧ ∃ N : St → Hp → Prop, (∀ σ' H', N σ' H' → ∃ m', m' < m ∧ W (i + 1) m' σ' H') ∧
      ∀ x H', (Itz K a b).yld i H x H' → g x σ H' fun σ2 H2 => tb { D with nx := N, ct := N, bk := D.nx } σ2 H2) := by
  refine ⟨fun i m σ H => Pv i σ H ∧ i ≤ min xs.length ys.length ∧ m = min xs.length ys.length - i, ⟨_, h0, Nat.zero_le _, rfl⟩, fun i m σ H ⟨p, hi, hm⟩ => ?_⟩
  obtain ⟨l1, l2⟩ := hl i σ H hi p
  by_cases e : i = min xs.length ys.length
  · subst e
    exact .inl ⟨⟨xs, ys, l1, l2, by omega⟩, hd σ H p⟩
  · have lx : i < xs.length := by omega
    have ly : i < ys.length := by omega
    have hx : xs[i]? = some xs[i] := List.getElem?_eq_getElem lx
    have hy : ys[i]? = some ys[i] := List.getElem?_eq_getElem ly
    refine .inr ⟨⟨xs, ys, xs[i], ys[i], l1, l2, hx, hy⟩, Pv (i + 1), fun σ' H' q => ⟨min xs.length ys.length - (i + 1), by omega, q, by omega, rfl⟩, fun v H' hv => ?_⟩
    obtain ⟨t, x, y, rfl, ht, rfl, h1, h2⟩ := hv
    exact hs i x y t σ H (h1 xs l1) (h2 ys l2) ht p

/-! ### heaps: what a def may do -/
/-- behind a def that makes one list l: all that was tracked stays, l is new -/
structure NewL (H H' : Hp) (l : Addr) (xs : List V) : Prop where
  same : Same H H'
  new : H l = none
  at_ : H' l = some (.lst xs)
theorem same_new {H : Hp} {p : Addr} (h : H p = none) (o : HO) : Same H (upd H p o) := fun b u q => by rw [upd_ne (ne_of_none q h)]; exact q
theorem same_tup {H H1 : Hp} (h : Same H H1) {p : Addr} (hp : H1 p = none) (o : HO) : Same H (upd H1 p o) := h.trans (same_new hp o)
theorem upd_keep {H : Hp} {a b : Addr} {o u : HO} (h : H a = some o) (hb : H b = none) : upd H b u a = some o := by rw [upd_ne (ne_of_none h hb)]; exact h
theorem same_upd {H H1 : Hp} (h : Same H H1) {p : Addr} (hp : H p = none) (o : HO) : Same H (upd H1 p o) := fun b u q => by rw [upd_ne (ne_of_none q hp)]; exact h b u q
section
variable {X : Cx}
theorem call_lenL : CallR X (.builtin "len") (fun xs H Q => ∃ p ys, xs = [.ref p] ∧ SqL X.K H p ys ∧ Q (.int ys.length) H) := by
  intro pins s σ H xs us Q I r h
  obtain ⟨p, ys, e, hs, q⟩ := h
  exact call_len_seq pins s σ H xs us Q I r ⟨p, ys, e, .inl hs, q⟩
end
theorem hu64_of {A : Around} {k : Nat} (hr : Room k A) : A.units + 64 < cLine := hr.units
theorem getI {ns : List Int} {i : Nat} {x : Int} (h : ns[i]? = some x) : (ns.map V.int)[i]? = some (.int x) := by rw [List.getElem?_map, h]; rfl
theorem ofGetI {ns : List Int} {i : Nat} {x : V} (h : (ns.map V.int)[i]? = some x) : ∃ n, ns[i]? = some n ∧ x = .int n := by
  rw [List.getElem?_map] at h
  obtain ⟨n, h1, h2⟩ := Option.map_eq_some_iff.mp h
  exact ⟨n, h1, h2.symm⟩
end L2
namespace L2
open PySem PySem.Spec PyProof.Rows
theorem cxK {CX : CXT} {P : Program} {w : World} {K : PySem.W.Frag} {mg : Str → Option Value} {base : Heap} {N : List Str} {qual : Str} {scope : Scope} {f : Addr} {cd : Value} {A : Around} {outer : List Env} {s : Shared} {H : Hp} {E : XK} :
    (cxOf CX P w K mg base N qual scope f cd A outer s H E).K = K := rfl
theorem blkK {X : Cx} {cs : Scope} {cl : List (Str × Addr)} {N : List Str} {C : Addr} {fp : List Addr} {s : Shared} {H : Hp} : (X.blk cs cl N C fp s H).K = X.K := rfl
end L2
namespace L2
open PySem PySem.Spec PyProof.Rows
theorem tyL {K : PySem.W.Frag} {H : Hp} {p : Addr} {xs : List V} (h : H p = some (.lst xs)) : tyV K "list" (.ref p) H := .inl ⟨rfl, _, SqL.of h⟩
/-- all that was tracked is as it was, but the list at p -/
def SameB (p : Addr) (H H' : Hp) : Prop := ∀ b o, b ≠ p → H b = some o → H' b = some o
theorem SameB.refl (p : Addr) (H : Hp) : SameB p H H := fun _ _ _ h => h
theorem SameB.upd {p : Addr} {H H' : Hp} (h : SameB p H H') (o : HO) : SameB p H (upd H' p o) := fun b u hb e => by rw [upd_ne hb]; exact h b u hb e
theorem SameB.new {p : Addr} {H H' : Hp} (h : SameB p H H') {q : Addr} (hq : H' q = none) (o : HO) : SameB p H (L2.upd H' q o) := fun b u hb e => by
  have z := h b u hb e
  rw [upd_ne (ne_of_none z hq)]; exact z
theorem SameB.trans {p : Addr} {H H1 H2 : Hp} (h : SameB p H H1) (k : SameB p H1 H2) : SameB p H H2 := fun b o hb e => k b o hb (h b o hb e)
theorem SameB.same {p : Addr} {H H' : Hp} (h : SameB p H H') (hp : H p = none) : Same H H' := fun b o e => h b o (ne_of_none e hp) e
theorem SameB.seq {K : PySem.W.Frag} {p a : Addr} {H H' : Hp} {xs : List V} (h : SameB p H H') (ha : a ≠ p) (hs : SqL K H a xs) : SqL K H' a xs := by
  rcases hs with (e | ⟨o, e⟩) | e
  · exact .inl (.inl (h _ _ ha e))
  · exact .inl (.inr ⟨o, h _ _ ha e⟩)
  · exact .inr e
theorem small12 {n : Nat} (h : n ≤ 900) : n < sizeLine := small1000 (by omega)
end L2
namespace L2
open PySem PySem.Spec PyProof.Rows
/-! ### the rules that name the written part, K told from outside -/
def rLenL (K : PySem.W.Frag) : List V → Hp → VK → Prop := fun xs H Q => ∃ p ys, xs = [.ref p] ∧ SqL K H p ys ∧ Q (.int ys.length) H
def rLenT (K : PySem.W.Frag) : List V → Hp → VK → Prop := fun xs H Q => ∃ p ys, xs = [.ref p] ∧ SqT K H p ys ∧ Q (.int ys.length) H
def rListOf (K : PySem.W.Frag) : List V → Hp → VK → Prop := fun xs H Q => ∃ p ys, xs = [.ref p] ∧ SqL K H p ys ∧ ∀ l, H l = none → Q (.ref l) (upd H l (.lst ys))
def rMaxL (K : PySem.W.Frag) : List V → Hp → VK → Prop := fun xs H Q => ∃ (p : Addr) (ns : List Int), xs = [.ref p] ∧ SqL K H p (ns.map V.int) ∧ 0 < ns.length ∧ ∀ M, M ∈ ns → (∀ a ∈ ns, a ≤ M) → Q (.int M) H
def rMinL (K : PySem.W.Frag) : List V → Hp → VK → Prop := fun xs H Q => ∃ (p : Addr) (ns : List Int), xs = [.ref p] ∧ SqL K H p (ns.map V.int) ∧ 0 < ns.length ∧ ∀ M, M ∈ ns → (∀ a ∈ ns, M ≤ a) → Q (.int M) H
def rSortedL (K : PySem.W.Frag) : List V → Hp → VK → Prop := fun xs H Q => ∃ (p : Addr) (ns : List Int), xs = [.ref p] ∧ SqL K H p (ns.map V.int) ∧ ns.length < 64 ∧ ∀ (l : Addr) (ms : List Int), H l = none → ms.Perm ns → ms.Pairwise (· ≤ ·) → Q (.ref l) (upd H l (.lst (ms.map V.int)))
def rEqI (K : PySem.W.Frag) : R2 := fun x y H Q => ∃ (a b : Addr) (ns ms : List Int), x = .ref a ∧ y = .ref b ∧ SqL K H a (ns.map V.int) ∧ SqL K H b (ms.map V.int) ∧ Q (.bl (decide (ns = ms))) H
def rNeI (K : PySem.W.Frag) : R2 := fun x y H Q => ∃ (a b : Addr) (ns ms : List Int), x = .ref a ∧ y = .ref b ∧ SqL K H a (ns.map V.int) ∧ SqL K H b (ms.map V.int) ∧ Q (.bl (!decide (ns = ms))) H
def rEqII (K : PySem.W.Frag) : R2 := fun x y H Q => ∃ (a b : Addr) (xs ys : List V) (nss mss : List (List Int)), x = .ref a ∧ y = .ref b ∧ SqL K H a xs ∧ SqL K H b ys ∧ RdI K H xs nss ∧ RdI K H ys mss ∧ Q (.bl (decide (nss = mss))) H
def rNeII (K : PySem.W.Frag) : R2 := fun x y H Q => ∃ (a b : Addr) (xs ys : List V) (nss mss : List (List Int)), x = .ref a ∧ y = .ref b ∧ SqL K H a xs ∧ SqL K H b ys ∧ RdI K H xs nss ∧ RdI K H ys mss ∧ Q (.bl (!decide (nss = mss))) H
theorem ix_listK (K : PySem.W.Frag) {X : Cx} (e : X.K = K := by rfl) : IxR X (rIxL K) := e ▸ ix_list
theorem ix_tupK (K : PySem.W.Frag) {X : Cx} (e : X.K = K := by rfl) : IxR X (rIxT K) := e ▸ ix_tup
theorem sl_listK (K : PySem.W.Frag) {X : Cx} (e : X.K = K := by rfl) : SlR X (rSlL K) := e ▸ sl_list
theorem call_lenK (K : PySem.W.Frag) {X : Cx} (e : X.K = K := by rfl) : CallR X (.builtin "len") (rLenL K) := e ▸ call_lenL
theorem call_lenTK (K : PySem.W.Frag) {X : Cx} (e : X.K = K := by rfl) : CallR X (.builtin "len") (rLenT K) := by
  subst e
  intro pins s σ H xs us Q I r h
  obtain ⟨p, ys, e, hs, q⟩ := h
  exact call_len_seq pins s σ H xs us Q I r ⟨p, ys, e, .inr hs, q⟩
theorem call_isiK (K : PySem.W.Frag) {X : Cx} (e : X.K = K := by rfl) : CallR X (.builtin "isinstance") (rIsi K) := e ▸ call_isi
theorem call_listK (K : PySem.W.Frag) {X : Cx} (e : X.K = K := by rfl) : CallR X (.type "list") (rListOf K) := by
  subst e
  intro pins s σ H xs us Q I r h
  obtain ⟨p, ys, e, hs, q⟩ := h
  exact call_list_of pins s σ H xs us Q I r ⟨p, ys, e, .inl hs, q⟩
theorem op_notInK (K : PySem.W.Frag) {X : Cx} (e : X.K = K := by rfl) : OpR X (compareOp .NotIn) (rIn K true) := e ▸ op_notIn_seq
theorem op_inK (K : PySem.W.Frag) {X : Cx} (e : X.K = K := by rfl) : OpR X (compareOp .In) (rIn K false) := e ▸ op_in_seq
theorem call_maxK (K : PySem.W.Frag) {X : Cx} (hc : X.calm = true := by rfl) (e : X.K = K := by rfl) : CallR X (.builtin "max") (rMaxL K) := e ▸ call_maxL hc
theorem op_neIK (K : PySem.W.Frag) {X : Cx} (hu : X.A.units + 64 < cLine) (e : X.K = K := by rfl) : OpR X (compareOp .NotEq) (rNeI K) := e ▸ op_neI hu
theorem op_neIIK (K : PySem.W.Frag) {X : Cx} (hu : X.A.units + 64 < cLine) (e : X.K = K := by rfl) : OpR X (compareOp .NotEq) (rNeII K) := e ▸ op_neII hu
theorem pi_listK (K : PySem.W.Frag) {X : Cx} {tg l : Expr} {tl : TE} (hl : PE X l tl) (e : X.K = K := by rfl) : PI X tg l (iList K tl) := e ▸ pi_list hl
theorem pi_zipK (K : PySem.W.Frag) {X : Cx} {e1 e2 : Expr} {ta : TA} {p pos pos' : Pos} {es : List Expr} {kk : Nat} (hg : Gl X "zip") (hm : X.mg "zip" = none) (ha : PA X [e1, e2] ta) (e : X.K = K := by rfl)
    (hs : starEach [e1, e2] X.env = [(false, eval e1 X.env), (false, eval e2 X.env)] := by rfl) (hs2 : starEach [e2] X.env = [(false, eval e2 X.env)] := by rfl) :
    PI X (.Tuple es kk pos') (.Call (.Name "zip" p) [e1, e2] [] pos) (iZip K ta) := e ▸ pi_zip hg hm ha hs hs2
def tTruth (K : PySem.W.Frag) (ta : TE) : TT := fun σ H Q => ta σ H fun x H' => ∃ k, TruV K x H' k ∧ Q k H'
theorem pt_truthK (K : PySem.W.Frag) {X : Cx} {a : Expr} {ta : TE} (ha : PE X a ta) (he : ∀ whole, isTrue a X.env whole = (do let v ← whole; standAt a.pos; holding [v] (truthy v))) (e : X.K = K := by rfl) : PT X a (tTruth K ta) := e ▸ pt_truth ha he
theorem truBl {K : PySem.W.Frag} {b k : Bool} {H : Hp} : TruV K (.bl b) H k ↔ k = b := Iff.rfl
theorem pe_bmK (K : PySem.W.Frag) {X : Cx} {o e : Expr} {es : List Expr} {to : TE} {t : TA} {name : Str} {apos cpos : Pos} {T id : String} {r : V → List V → Hp → VK → Prop} (pa : PlainAttrs T) (slot : Slot T name id) (hty : typeOf (.builtin id) = pure (.type "method_descriptor")) (hm : MtR X id r) (ho : PE X o to) (ha : PA X (e :: es) t) (hK : X.K = K := by rfl)
    (hbase : attributeBase o name X.env (eval o X.env) = eval o X.env := by rfl) (hfew : ((backTo cpos (starEach (e :: es) X.env)).all (fun x => !x.1) && (backToKw cpos (keywordEach [] X.env)).all (fun x => x.1.isSome) && decide ((e :: es).length + ([] : List Keyword).length + (if ([] : List Keyword).isEmpty then 0 else 1) < 30)) = true := by rfl)
    (hline : (apos.endLine == cpos.line) = true := by rfl) (hs : starEach (e :: es) X.env = (false, eval e X.env) :: starEach es X.env := by rfl) (hplain : (backTo cpos (starEach es X.env)).any (·.1) = false := by rfl) :
    PE X (.Call (.Attribute o name apos) (e :: es) [] cpos) (tBM K T r to t) := hK ▸ pe_bm pa slot hty hm ho ha hbase hfew hline hs hplain
theorem pe_bm0K (K : PySem.W.Frag) {X : Cx} {o : Expr} {to : TE} {name : Str} {apos cpos : Pos} {T id : String} {r : V → List V → Hp → VK → Prop} (pa : PlainAttrs T) (slot : Slot T name id) (hty : typeOf (.builtin id) = pure (.type "method_descriptor")) (hm : MtR X id r) (ho : PE X o to) (hK : X.K = K := by rfl)
    (hbase : attributeBase o name X.env (eval o X.env) = eval o X.env := by rfl) (hline : (apos.endLine == cpos.line) = true := by rfl) : PE X (.Call (.Attribute o name apos) [] [] cpos) (tBM0 K T r to) := hK ▸ pe_bm0 pa slot hty hm ho hbase hline
theorem pg_tupK (K : PySem.W.Frag) (n : Nat) {X : Cx} {es : List Expr} {k : Nat} {t : TGs} {pos : Pos} (hc : X.calm = true) (h : PGs X es t) (e : X.K = K := by rfl) (hn : (assignEach es X.env).length = n := by rfl) (hst : (assignEach es X.env).findIdx? (·.1) = none := by rfl) : PG X (.Tuple es k pos) (gTup K n t) := e ▸ pg_tup hc h hn hst
end L2
namespace L2
theorem scalII (i j : Int) : scal (.int i) (.int j) = true := rfl
theorem scalNI (j : Int) : scal .non (.int j) = true := rfl
theorem scalIN (j : Int) : scal (.int j) .non = true := rfl
theorem scalBB (i j : Bool) : scal (.bl i) (.bl j) = true := rfl
theorem scalSS (i j : PySem.Str) : scal (.str i) (.str j) = true := rfl
theorem scalNN : scal .non .non = true := rfl
end L2

/-! EXTENSION R: a dict walked by its entries, whatever the keys -/
namespace L2
open PySem
/-- the dict's entries as they lie -/
def RawD (h : Heap) (d : Addr) (es : Array DictEntry) (ep : Nat) : Prop := ∃ o, h.get? d = some o ∧ o.ExactDict ∧ o.data = .dict es ep
theorem RawD.ty {s : Shared} {d : Addr} {es : Array DictEntry} {ep : Nat} (x : RawD s.heap d es ep) : s.TypeIs (.ref d) "dict" := let ⟨o, e, c, _⟩ := x; ⟨o, e, c.1⟩
theorem RawD.mono {h h' : Heap} {d : Addr} {es : Array DictEntry} {ep : Nat} (x : RawD h d es ep) (k : ∀ o, h.get? d = some o → h'.get? d = some o) : RawD h' d es ep := let ⟨o, e, r⟩ := x; ⟨o, k o e, r⟩
section
variable {P : Program} {w : World} {A : Around} {E : Value → Shared → Prop} {s : Shared} {d it : Addr} {es : Array DictEntry} {ep i : Nat}

/-! ### keys -/
/-! ### values -/
/-! ### items -/
/-! ### min(.., key=f), f known to keep the heap and to tell an int -/
section
variable {I S : Addr} {fp wr : List Addr} {n : Nat} {PV : Nat → Value → Prop} {St : Nat → Heap → Prop} {f : String} {R : Result → Shared → Prop}
end
end

section
variable {P : Program} {w : World} {A : Around} {E : Value → Shared → Prop} {s : Shared}
end
end L2

namespace L2
open PySem PySem.Spec PyProof.Rows

/-! ### lists of pairs as tables -/
section
variable {κ : Type} [DecidableEq κ]
def valV (kvs : List (κ × V)) (k : κ) : Option V := (kvs.find? fun kv => decide (kv.1 = k)).map (·.2)
/-- in its place, or at the end -/
def putK (kvs : List (κ × V)) (k : κ) (v : V) : List (κ × V) :=
  if (kvs.any fun kv => decide (kv.1 = k)) = true then kvs.map (fun kv => if kv.1 = k then (kv.1, v) else kv) else kvs ++ [(k, v)]
def dropK (kvs : List (κ × V)) (k : κ) : List (κ × V) := kvs.filter fun kv => decide (kv.1 ≠ k)

theorem valV_pos {p : κ × V} {r : List (κ × V)} {k : κ} (e : p.1 = k) : valV (p :: r) k = some p.2 := by simp [valV, List.find?_cons, e]
theorem valV_neg {p : κ × V} {r : List (κ × V)} {k : κ} (e : ¬ p.1 = k) : valV (p :: r) k = valV r k := by simp [valV, List.find?_cons, e]
theorem valV_any (k : κ) : ∀ kvs : List (κ × V), (kvs.any fun kv => decide (kv.1 = k)) = (valV kvs k).isSome
  | [] => rfl
  | p :: r => by
    rw [List.any_cons]
    by_cases e : p.1 = k
    · simp only [valV_pos e, decide_eq_true e, Bool.true_or, Option.isSome_some]
    · rw [valV_neg e, decide_eq_false e, Bool.false_or]; exact valV_any k r
theorem RelO.isSome_eq {o : Option V} {u : Option Value} (r : RelO o u) : o.isSome = u.isSome := by
  cases o with
  | none => cases u with
    | none => rfl
    | some _ => exact (show False from r).elim
  | some _ => cases u with
    | none => exact (show False from r).elim
    | some _ => rfl
theorem RelO.getD {o : Option V} {u : Option Value} {d : V} {d' : Value} (r : RelO o u) (rd : RelV d d') : RelV (o.getD d) (u.getD d') := by
  cases o with
  | none => cases u with
    | none => exact rd
    | some _ => exact (show False from r).elim
  | some _ => cases u with
    | none => exact (show False from r).elim
    | some _ => exact r

/-- raw tables of the same keys -/
theorem KV.val {kvs : List (κ × V)} {vs : List (κ × Value)} (r : KV kvs vs) (k : κ) : RelO (valV kvs k) (valueAt vs k) := by
  unfold KV at r
  induction r with
  | nil => exact True.intro
  | @cons p q ps qs h t ih =>
    obtain ⟨h1, h2⟩ := h
    by_cases e : p.1 = k
    · have e' : q.1 = k := h1.symm.trans e
      have b : valueAt (q :: qs) k = some q.2 := by simp [valueAt, List.find?_cons, e']
      rw [valV_pos e, b]; exact h2
    · have e' : ¬ q.1 = k := fun z => e (h1.trans z)
      have b : valueAt (q :: qs) k = valueAt qs k := by simp [valueAt, List.find?_cons, e']
      rw [valV_neg e, b]; exact ih
theorem KV.any {kvs : List (κ × V)} {vs : List (κ × Value)} (r : KV kvs vs) (k : κ) : (kvs.any fun kv => decide (kv.1 = k)) = vs.any fun kv => decide (kv.1 = k) := by
  unfold KV at r
  induction r with
  | nil => rfl
  | cons h t ih => rw [List.any_cons, List.any_cons, ih, h.1]
theorem KV.repl {kvs : List (κ × V)} {vs : List (κ × Value)} (r : KV kvs vs) (k : κ) {y : V} {u : Value} (ry : RelV y u) :
    KV (kvs.map fun kv => if kv.1 = k then (kv.1, y) else kv) (vs.map fun kv => if kv.1 = k then (kv.1, u) else kv) := by
  unfold KV at r ⊢
  induction r with
  | nil => exact .nil
  | @cons p q ps qs h t ih =>
    rw [List.map_cons, List.map_cons]
    refine .cons ?_ ih
    obtain ⟨h1, h2⟩ := h
    by_cases e : p.1 = k
    · rw [if_pos e, if_pos (h1.symm.trans e)]; exact ⟨h1, ry⟩
    · rw [if_neg e, if_neg (fun z => e (h1.trans z))]; exact ⟨h1, h2⟩
theorem KV.put {kvs : List (κ × V)} {vs : List (κ × Value)} (r : KV kvs vs) (k : κ) {y : V} {u : Value} (ry : RelV y u) : KV (putK kvs k y) (stored vs k u) := by
  unfold putK stored
  rw [r.any k]
  by_cases e : (vs.any fun kv => decide (kv.1 = k)) = true
  · rw [if_pos e, if_pos e]; exact r.repl k ry
  · rw [if_neg e, if_neg e]; exact Paired.snoc r ⟨rfl, ry⟩
theorem KV.drop {kvs : List (κ × V)} {vs : List (κ × Value)} (r : KV kvs vs) (k : κ) : KV (dropK kvs k) (without vs k) := by
  unfold KV at r ⊢
  unfold dropK without
  induction r with
  | nil => exact .nil
  | @cons p q ps qs h t ih =>
    obtain ⟨h1, h2⟩ := h
    rw [List.filter_cons, List.filter_cons]
    by_cases e : p.1 = k
    · have a : ¬ decide (p.1 ≠ k) = true := by simp [e]
      have b : ¬ decide (q.1 ≠ k) = true := by simp [h1.symm.trans e]
      rw [if_neg a, if_neg b]; exact ih
    · have e' : ¬ q.1 = k := fun z => e (h1.trans z)
      have a : decide (p.1 ≠ k) = true := by simp [e]
      have b : decide (q.1 ≠ k) = true := by simp [e']
      rw [if_pos a, if_pos b]; exact .cons ⟨h1, h2⟩ ih
theorem KV.keys {kvs : List (κ × V)} {vs : List (κ × Value)} (r : KV kvs vs) : kvs.map (·.1) = vs.map (·.1) := by
  unfold KV at r
  induction r with
  | nil => rfl
  | cons h t ih => rw [List.map_cons, List.map_cons, ih, h.1]
theorem KV.length {kvs : List (κ × V)} {vs : List (κ × Value)} (r : KV kvs vs) : kvs.length = vs.length := Paired.length r
end

/-! ### a tracked dict, its keys ints and texts or tuples of these -/
/-- raw entries of a dict with tuple keys -/
abbrev KT (H : Hp) : List (List Key × V) → List (List Key × Addr × Value) → Prop := Paired fun p q => p.1 = q.1 ∧ H q.2.1 = some (.tup (p.1.map kV)) ∧ RelV p.2 q.2.2
theorem KT.val {H : Hp} {kvs : List (List Key × V)} {xs : List (List Key × Addr × Value)} (r : KT H kvs xs) (k : List Key) : RelO (valV kvs k) ((atKey xs k).map (·.2)) := by
  induction r with
  | nil => exact True.intro
  | @cons p q ps qs h t ih =>
    obtain ⟨h1, _, h2⟩ := h
    by_cases e : p.1 = k
    · have e' : q.1 = k := h1.symm.trans e
      have b : atKey (q :: qs) k = some q.2 := by simp [atKey, List.find?_cons, e']
      rw [valV_pos e, b]; exact h2
    · have e' : ¬ q.1 = k := fun z => e (h1.trans z)
      have b : atKey (q :: qs) k = atKey qs k := by simp [atKey, List.find?_cons, e']
      rw [valV_neg e, b]; exact ih
theorem KT.repl {H : Hp} {kvs : List (List Key × V)} {xs : List (List Key × Addr × Value)} (r : KT H kvs xs) (k : List Key) {y : V} {u : Value} (ry : RelV y u) :
    KT H (kvs.map fun kv => if kv.1 = k then (kv.1, y) else kv) (xs.map (putAt k u)) := by
  induction r with
  | nil => exact .nil
  | @cons p q ps qs h t ih =>
    rw [List.map_cons, List.map_cons]
    refine .cons ?_ ih
    obtain ⟨h1, h2, h3⟩ := h
    unfold putAt
    by_cases e : p.1 = k
    · rw [if_pos e, if_pos (h1.symm.trans e)]; exact ⟨h1, h2, ry⟩
    · rw [if_neg e, if_neg (fun z => e (h1.trans z))]; exact ⟨h1, h2, h3⟩
theorem KT.put {H : Hp} {kvs : List (List Key × V)} {xs : List (List Key × Addr × Value)} (r : KT H kvs xs) (k : List Key) {b : Addr} {y : V} {u : Value} (hb : H b = some (.tup (k.map kV))) (ry : RelV y u) :
    KT H (putK kvs k y) (storedH xs k b u) := by
  have e : (kvs.any fun kv => decide (kv.1 = k)) = (atKey xs k).isSome := by
    rw [valV_any, (r.val k).isSome_eq, Option.isSome_map]
  unfold putK storedH
  rw [e]
  by_cases q : (atKey xs k).isSome = true
  · rw [if_pos q, if_pos q]; exact r.repl k ry
  · rw [if_neg q, if_neg q]; exact Paired.snoc r ⟨rfl, hb, ry⟩
theorem KT.keeps {H H' : Hp} {kvs : List (List Key × V)} {xs : List (List Key × Addr × Value)} (r : KT H kvs xs) (ht : ∀ b ys, H b = some (.tup ys) → H' b = some (.tup ys)) : KT H' kvs xs :=
  Paired.mapP r fun _ _ z => ⟨z.1, ht _ _ z.2.1, z.2.2⟩

section
variable {P : Program} {w : World} {H : Hp} {h : Heap} {a : Addr}
end

/-- what the dict at a holds at the key y -/
def DGet (H : Hp) (a : Addr) (y : V) (r : Option V) : Prop :=
  (∃ kvs k, Rd H a (.dK kvs) ∧ y = kV k ∧ r = valV kvs k) ∨ ∃ kvs k b, Rd H a (.dT kvs) ∧ y = .ref b ∧ H b = some (.tup (k.map kV)) ∧ r = valV kvs k
/-- the heap behind a[y] = v -/
def DPut (H : Hp) (a : Addr) (y v : V) (H' : Hp) : Prop :=
  (∃ kvs k, H a = some (.dK kvs) ∧ y = kV k ∧ kvs.length < sizeLine ∧ H' = upd H a (.dK (putK kvs k v))) ∨
  ∃ kvs k b, H a = some (.dT kvs) ∧ y = .ref b ∧ H b = some (.tup (k.map kV)) ∧ kvs.length < sizeLine ∧ H' = upd H a (.dT (putK kvs k v))
theorem DGet.k {H : Hp} {a : Addr} {kvs : List (Key × V)} {k : Key} (e : H a = some (.dK kvs)) : DGet H a (kV k) (valV kvs k) := .inl ⟨kvs, k, .inl e, rfl, rfl⟩
theorem DGet.t {H : Hp} {a b : Addr} {kvs : List (List Key × V)} {k : List Key} (e : H a = some (.dT kvs)) (eb : H b = some (.tup (k.map kV))) : DGet H a (.ref b) (valV kvs k) := .inr ⟨kvs, k, b, .inl e, rfl, eb, rfl⟩
theorem DPut.k {H : Hp} {a : Addr} {kvs : List (Key × V)} {k : Key} {v : V} (e : H a = some (.dK kvs)) (hl : kvs.length < sizeLine) : DPut H a (kV k) v (upd H a (.dK (putK kvs k v))) := .inl ⟨kvs, k, e, rfl, hl, rfl⟩
theorem DPut.t {H : Hp} {a b : Addr} {kvs : List (List Key × V)} {k : List Key} {v : V} (e : H a = some (.dT kvs)) (eb : H b = some (.tup (k.map kV))) (hl : kvs.length < sizeLine) :
    DPut H a (.ref b) v (upd H a (.dT (putK kvs k v))) := .inr ⟨kvs, k, b, e, rfl, eb, hl, rfl⟩

section
variable {X : Cx} {pins : List (Addr × Obj)} {σ : St} {H : Hp} {s : Shared} {a : Addr} {y v : V} {u r : Value} {o : Option V} {A : Around} {E : Value → Shared → Prop}

theorem Inv.big (I : Inv X pins σ H s) : sysModules < s.heap.objs.size := by
  have h : mainGlobals < s.heap.objs.size := (I.mod.glob.keeps I.bk).lt
  exact Nat.lt_trans (by decide) h

end

section
variable {X : Cx} {pins : List (Addr × Obj)} {σ : St} {H : Hp} {s : Shared} {a : Addr} {kvs : List (Key × V)} {k : Key} {u : Value} {A : Around} {E : Value → Shared → Prop}
end

/-! ### readings and rules -/
/-- d[y] -/
def tDGet (td ty : TE) : TE := fun σ H Q => td σ H fun x H1 => ty σ H1 fun y H2 => ∃ a v, x = .ref a ∧ DGet H2 a y (some v) ∧ Q v H2
/-- y in d, y not in d -/
def tDIn (ty td : TE) : TE := fun σ H Q => ty σ H fun y H1 => td σ H1 fun x H2 => ∃ a o, x = .ref a ∧ DGet H2 a y o ∧ Q (.bl o.isSome) H2
def tDNotIn (ty td : TE) : TE := fun σ H Q => ty σ H fun y H1 => td σ H1 fun x H2 => ∃ a o, x = .ref a ∧ DGet H2 a y o ∧ Q (.bl (!o.isSome)) H2
/-- d[y] = v -/
def sDPut (td ty tv : TE) : TS := fun D σ H => tv σ H fun v H1 => td σ H1 fun x H2 => ty σ H2 fun y H3 => ∃ a H4, x = .ref a ∧ DPut H3 a y v H4 ∧ D.nx σ H4
section
variable {X : Cx} {o i e value : Expr} {pos pos' tpos : Pos} {td ty tv : TE}
end

/-! ### displays -/
def tDNewT : TE := fun _ H Q => ∀ p, H p = none → Q (.ref p) (upd H p (.dT []))
section
variable {X : Cx} {pos : Pos}
end

/-! ### methods -/
/-- a method call o.m(e) of a built-in, with one argument: what must be seen of the text -/
structure M1 (X : Cx) (o : Expr) (m : Str) (apos : Pos) (e : Expr) (cpos : Pos) : Prop where
  base : attributeBase o m X.env (eval o X.env) = eval o X.env
  few : ((backTo cpos (starEach [e] X.env)).all (fun x => !x.1) && (backToKw cpos (keywordEach [] X.env)).all (fun x => x.1.isSome)
    && decide (([e] : List Expr).length + ([] : List Keyword).length + (if ([] : List Keyword).isEmpty then 0 else 1) < 30)) = true
  line : (apos.endLine == cpos.line) = true
  trees : backTo cpos (starEach [e] X.env) = [(false, eval e X.env)]
structure M2 (X : Cx) (o : Expr) (m : Str) (apos : Pos) (e f : Expr) (cpos : Pos) : Prop where
  base : attributeBase o m X.env (eval o X.env) = eval o X.env
  few : ((backTo cpos (starEach [e, f] X.env)).all (fun x => !x.1) && (backToKw cpos (keywordEach [] X.env)).all (fun x => x.1.isSome)
    && decide (([e, f] : List Expr).length + ([] : List Keyword).length + (if ([] : List Keyword).isEmpty then 0 else 1) < 30)) = true
  line : (apos.endLine == cpos.line) = true
  trees : backTo cpos (starEach [e, f] X.env) = [(false, eval e X.env), (false, eval f X.env)]

/-- a is a dict, whatever its keys -/
def IsD (H : Hp) (a : Addr) : Prop := (∃ kvs, Rd H a (.dK kvs)) ∨ ∃ kvs, Rd H a (.dT kvs)
section
variable {X : Cx} {pins : List (Addr × Obj)} {σ : St} {H : Hp} {s : Shared} {a : Addr} {y d : V} {u r : Value} {o : Option V} {A : Around} {E : Value → Shared → Prop}
end

def tDGet2 (td ty tx : TE) : TE := fun σ H Q => td σ H fun x H1 => ∃ a, x = .ref a ∧ IsD H1 a ∧ ty σ H1 fun y H2 => tx σ H2 fun z H3 => ∃ o, DGet H3 a y o ∧ Q (o.getD z) H3
section
variable {X : Cx} {o e f : Expr} {apos cpos : Pos} {td ty tx : TE}
end

/-! ### dict(d): a copy -/
section
variable {X : Cx} {pins : List (Addr × Obj)} {σ : St} {H : Hp} {s : Shared} {a : Addr} {kvs : List (Key × V)} {A : Around} {E : Value → Shared → Prop}
end

section
variable {X : Cx} {pins : List (Addr × Obj)} {σ : St} {H : Hp} {s : Shared} {a : Addr} {y : V} {u : Value} {A : Around} {E : Value → Shared → Prop}
end
end L2

/-! EXTENSION E: dicts with tuple keys: made, walked, summed, asked for the least -/
namespace L2
open PySem PySem.Spec PyProof.Rows
/-- a key of two ints -/
def keyR (r : Int × Int) : List Key := [.inl r.1, .inl r.2]
section
variable {P : Program} {w : World} {H : Hp} {h : Heap} {a : Addr} {kvs : List (List Key × V)}
end
section
variable {X : Cx} {pins : List (Addr × Obj)} {σ : St} {H : Hp} {s : Shared} {a : Addr} {kvs : List (List Key × V)}
end

/-! ### d.items() in a for -/
/-- d.items(): a view of the dict at a -/
def rItems : V → List V → Hp → VK → Prop := fun x xs H Q => ∃ a kvs, x = .ref a ∧ xs = [] ∧ Rd H a (.dT kvs) ∧ ∀ v, H v = none → Q (.ref v) (upd H v (.ext fun h => h.IsItemsView v a))
def rValues : V → List V → Hp → VK → Prop := fun x xs H Q => ∃ a kvs, x = .ref a ∧ xs = [] ∧ Rd H a (.dT kvs) ∧ ∀ v, H v = none → Q (.ref v) (upd H v (.ext fun h => h.IsValuesView v a))
section
variable {X : Cx}
end
/-! ### sum -/
def rSumT (K : PySem.W.Frag) : List V → Hp → VK → Prop := fun xs H Q => ∃ (p : Addr) (ns : List Int), xs = [.ref p] ∧ SqT K H p (ns.map V.int) ∧ Q (.int ns.sum) H
def rSumV : List V → Hp → VK → Prop := fun xs H Q => ∃ (v a : Addr) (kvs : List (List Key × V)) (ns : List Int), xs = [.ref v] ∧ H v = some (.ext fun h => h.IsValuesView v a) ∧ Rd H a (.dT kvs) ∧ kvs.map (·.2) = ns.map V.int ∧ Q (.int ns.sum) H
/-! ### min(d, key=sum) -/
def tMinS (ta : TA) : TE := fun σ H Q => ta σ H fun vs H1 => ∃ (a : Addr) (kvs : List (List Key × V)) (rs : List (Int × Int)), vs = [.ref a] ∧ Rd H1 a (.dT kvs) ∧ kvs.map (·.1) = rs.map keyR ∧ 0 < rs.length ∧
  ∀ (i : Nat) (r : Int × Int) (kt : Addr), rs[i]? = some r → (∀ (j : Nat) (r' : Int × Int), rs[j]? = some r' → r.1 + r.2 ≤ r'.1 + r'.2 ∧ (j < i → r.1 + r.2 < r'.1 + r'.2)) → H1 kt = some (.tup [.int r.1, .int r.2]) → Q (.ref kt) H1
/-! ### {k: v} with a tuple of two ints for a key -/
def tDisp1 (tk tv : TE) : TE := fun σ H Q => ∀ p, H p = none → tk σ (upd H p (.dT [])) fun x H1 => tv σ H1 fun y H2 => ∃ kt r, x = .ref kt ∧ H2 kt = some (.tup (List.map kV r)) ∧ H2 p = some (.dT []) ∧ Q (.ref p) (upd H2 p (.dT [(r, y)]))
theorem cut_from (xs : List V) (k : Nat) : cutV xs (some (k : Int)) none = xs.drop k := by
  unfold cutV
  rw [HT.sIx_nat, HT.sIx_none, List.take_of_length_le (by rw [List.length_drop]; omega)]
  by_cases h : k ≤ xs.length
  · rw [Nat.min_eq_left h]
  · rw [Nat.min_eq_right (by omega), List.drop_length, List.drop_of_length_le (by omega)]
end L2

/-! ### enumerate of a list, walked by a pair of names -/
namespace L2
open PySem PySem.Spec PyProof.Rows
end L2

/-! EXTENSION X: own exceptions: raised, passed on, caught by a name of their own or of one above -/
namespace L2
open PySem PySem.Spec PyProof.Rows

abbrev bmVE : List Value := [.type "ValueError", .type "Exception", .type "BaseException", .type "object"]
/-- an own error class beneath ValueError -/
def ExcC (K : PySem.W.Frag) (C : Addr) : Prop := PySem.W.excIn K C bmVE "ValueError.__new__" = true
theorem ExcC.obj {K : PySem.W.Frag} {h : Heap} {C : Addr} (q : ExcC K C) (X : K.In h) : ∃ bm N nm q bs hdct sn sub ab col dd k0 k1 k2 k3 k5 mN,
    h.get? C = some (excClassObj nm q C N bs bm hdct sn sub ab col dd k0 k1 k2 k3 k5 "ValueError.__new__") ∧ h.Ns N mN ∧ mN "__init__" = none ∧ OwnTail h bmVE bm := by
  have q' : PySem.W.excIn K C bmVE "ValueError.__new__" = true := q
  unfold PySem.W.excIn at q'
  split at q'
  · rename_i dd cd sl ho
    split at q'
    · rename_i C' bm k0 k1 k2 k3 n k5 hm hs
      simp only [Bool.and_eq_true, beq_iff_eq, Bool.not_eq_true'] at q'
      obtain ⟨⟨⟨⟨⟨e1, e2⟩, hdel⟩, ht⟩, hok⟩, hni⟩ := q'
      subst e1 e2
      obtain ⟨nm, bs, mro, ns, qn, hd, sn, sub, ab, col, del⟩ := cd
      dsimp only at hm hdel hok hni
      subst hm hdel
      have hsl : sl = #[k0, k1, k2, k3, some (.builtin "ValueError.__new__"), k5] := by
        obtain ⟨l⟩ := sl
        simp only at hs
        rw [hs]
      subst hsl
      exact ⟨bm, ns, nm, qn, bs, hd, sn, sub, ab, col, dd, k0, k1, k2, k3, k5, _, X _ _ ho, .of_isNs (PySem.W.isNs_of_in X hok), PySem.W.nsMap_none_of_in X hok hni, PySem.W.tail_of_in X ht⟩
    · cases q'
  · cases q'

/-! ### the heap while an exception flies -/
theorem ObjOk.obj {P : Program} {w : World} {H : Hp} {h : Heap} {a : Addr} {o : HO} (x : ObjOk P w H h a o) : ∃ ob, h.get? a = some ob := by
  cases o with
  | lst xs => obtain ⟨_, _, _, _, e⟩ := x; exact ⟨_, e⟩
  | tup xs => obtain ⟨_, _, _, e⟩ := x; obtain ⟨ob, e, _⟩ := e; exact ⟨_, e⟩
  | dK kvs => obtain ⟨_, _, _, _, e⟩ := x; obtain ⟨ob, _, _, e, _⟩ := e; exact ⟨_, e⟩
  | dT kvs => obtain ⟨_, _, _, _, ob, _, _, e, _⟩ := x; exact ⟨_, e⟩
  | set S n => obtain ⟨o, _, _, _, e, _⟩ := x; exact ⟨_, e⟩
  | ins C dx fs => obtain ⟨_, _, _, e, _⟩ := x; exact ⟨_, e⟩
  | own _ => exact x
  | xd fs => obtain ⟨_, ⟨_, _, _, e, _⟩, _⟩ := x; exact ⟨_, e⟩
  | rng lo hi => obtain ⟨_, _, _, e⟩ := x; exact ⟨_, e⟩
  | frz ob u => obtain ⟨e, _⟩ := x; exact ⟨_, e⟩
  | tbl ps => exact ⟨_, x⟩
  | met f y => exact ⟨_, x⟩
  | ext φ => exact x.2.1

theorem fly_step {P : Program} {w : World} {fs : List Addr} {H H1 : Hp} {h h1 h2 B : Heap} (U : Un fs [] H H1 h h1) (ok : HOk P w H1 h1) (tB : ∀ b u, H1 b = some u → ∃ o, B.get? b = some o)
    (oB : ∀ b o, h.get? b = some o → b ∉ fs → ∃ o', B.get? b = some o') (st1 : ∀ b o, B.get? b = some o → h1.get? b = some o) (st2 : ∀ b o, B.get? b = some o → h2.get? b = some o) (up : h1.UpToSlots h2)
    (ff : ∀ b ∈ fs, ∃ o, h.get? b = some o ∧ H b = none ∧ ∀ vs, o.data ≠ .fields vs) : Un fs [] H H1 h h2 ∧ HOk P w H1 h2 := by
  have inB : ∀ b o, h1.get? b = some o → (∃ o', B.get? b = some o') → h2.get? b = some o := fun b o e ⟨o', q⟩ => by
    have z := st1 b o' q
    rw [e] at z; cases z
    exact st2 b o q
  have nx : ∀ b, b ∉ ([] : List Addr) := fun b hb => nomatch hb
  have slotF : ∀ b ∈ fs, ∀ o, h.get? b = some o → ∃ sl, h2.get? b = some { o with slots := sl } := fun b hb o e => by
    obtain ⟨o', e', hn, hd⟩ := ff b hb
    rw [e] at e'; cases e'
    obtain ⟨sl, q⟩ := U.slot b o e hn hb (nx b)
    obtain ⟨sl2, q2⟩ := up b _ q hd
    exact ⟨sl2, q2⟩
  refine ⟨⟨fun b o e hn hb hx => inB b o (U.keep b o e hn hb hx) (oB b o e hb), fun b o e _ hb _ => slotF b hb o e, U.free, fun b o e hx => ?_, U.tups, U.frzs, U.tbls⟩, fun b u e => ?_⟩
  · by_cases hb : b ∈ fs
    · obtain ⟨sl, q⟩ := slotF b hb o e
      exact ⟨_, q⟩
    · obtain ⟨o', q⟩ := U.there b o e hx
      exact ⟨o', inB b o' q (oB b o e hb)⟩
  · refine (ok b u e).stay (fun c v hc q => inB c v q ?_) (fun c hc => hc) fun c xs hc => hc
    rcases hc with rfl | hc
    · exact tB _ _ e
    · exact tB _ _ hc

section
variable {P : Program} {w : World} {K : PySem.W.Frag} {mg : Str → Option Value} {base : Heap} {N : List Str} {qual : Str} {scope : Scope} {f : Addr} {cd : Value} {A : Around} {outer : List Env} {s0 : Shared} {H0 : Hp} {E : XK}
/-- from a state of the body in which an exception flies: it lies behind the call -/
theorem cxe_of {pins : List (Addr × Obj)} {σ : St} {H1 : Hp} {s1 : Shared} {h2 B : Heap} {e : Addr} {cls a0 : Value} (I : Inv (cxOf (CXE P w) P w K mg base N qual scope f cd A outer s0 H0 E) pins σ H1 s1)
    (tB : ∀ b u, H1 b = some u → ∃ o, B.get? b = some o) (oB : ∀ b o, s0.heap.get? b = some o → b ∉ frs outer → ∃ o', B.get? b = some o') (st1 : ∀ b o, B.get? b = some o → s1.heap.get? b = some o)
    (up : s1.heap.UpToSlots h2) (he : H1 e = none) (fl : Heap.FlyingW B outer e cls a0 h2) (q : E cls none H1) : CXE P w outer H0 s0 E (.ref e) { s1 with heap := h2 } := by
  have ff : ∀ b ∈ frs outer, ∃ o, s0.heap.get? b = some o ∧ H0 b = none ∧ ∀ vs, o.data ≠ .fields vs := fun b hb => by
    have z := Heap.FunFrames.mem I.ok.funs (b := b) hb
    obtain ⟨o, e1, e2⟩ := z.2
    exact ⟨o, e1, I.ok.frf b hb, e2⟩
  obtain ⟨U, ok⟩ := fly_step (h2 := h2) I.base I.hok tB oB st1 fl.1 up ff
  exact ⟨e, cls, a0, B, H1, rfl, ⟨I.os, I.tk.2⟩, I.bare, U, ok, he, tB, oB, fl, q⟩

/-- an exception of a callee goes on to the caller -/
theorem passE {E' : XK} (h : ∀ c d H', E' c d H' → E c d H') : Passes (CXE P w) (cxOf (CXE P w) P w K mg base N qual scope f cd A outer s0 H0 E) E' := by
  intro pins σ H s e s' I hx
  obtain ⟨a, cls, a0, B, H', rfl, ⟨os, htk⟩, bare, U, ok, ha, tB, oB, fl, q⟩ := hx
  have I' : Inv (cxOf (CXE P w) P w K mg base N qual scope f cd A outer s0 H0 E) pins σ H' s' := I.call' (ch := []) os U ok bare (fun b hb => nomatch hb) htk
  show wpAny _ _ (leaving _ (.ref a)) _ _ s'
  refine wpAny_leaves_onW I.ok.frames rfl fl fun h2 fl2 up => ?_
  have nin : ∀ b o, s0.heap.get? b = some o → b ∉ frs outer → b ∉ frs (cxOf (CXE P w) P w K mg base N qual scope f cd A outer s0 H0 E).stack := fun b o e1 e2 e3 => by
    rcases List.mem_cons.mp (I.stkSub b e3) with z | z
    · exact absurd (z ▸ Heap.lt_size e1) (Nat.not_lt.mpr I.ok.above)
    · exact e2 z
  refine cxe_of I' tB (fun b o e1 e2 => ?_) fl.1 up ha fl2 (h _ _ _ q)
  obtain ⟨o', e3⟩ := I.base.there b o e1 (fun z => nomatch z)
  exact oB b o' e3 (nin b o e1 e2)

/-- raise C(e, ..) -/
def tRaise (C : Addr) (E : XK) (ta : TA) : TS := fun _ σ H => ta σ H fun vs H1 => vs.length ≤ sizeLine ∧ E (.ref C) none H1
theorem ps_raise {C : Addr} {x : Str} {np cpos pos : Pos} {e : Expr} {es : List Expr} {ta : TA} (q : ExcC K C) (hg : Gl (cxOf (CXE P w) P w K mg base N qual scope f cd A outer s0 H0 E) x) (hm : mg x = some (.ref C))
    (ha : PA (cxOf (CXE P w) P w K mg base N qual scope f cd A outer s0 H0 E) (e :: es) ta) (hdb : (x == ("__debug__" : Str)) = false := by decide)
    (he : starEach (e :: es) (cxOf (CXE P w) P w K mg base N qual scope f cd A outer s0 H0 E).env = (false, eval e (cxOf (CXE P w) P w K mg base N qual scope f cd A outer s0 H0 E).env) :: starEach es (cxOf (CXE P w) P w K mg base N qual scope f cd A outer s0 H0 E).env := by rfl)
    (hpl : (backTo cpos (starEach es (cxOf (CXE P w) P w K mg base N qual scope f cd A outer s0 H0 E).env)).any (·.1) = false := by rfl) :
    PS (cxOf (CXE P w) P w K mg base N qual scope f cd A outer s0 H0 E) (.Raise (some (.Call (.Name x np) (e :: es) [] cpos)) none pos) (tRaise C E ta) := by
  intro pins s σ H D I h
  obtain ⟨bm, Nn, nm, qq, bs, hdct, sn, sub, ab, col, dd, k0, k1, k2, k3, k5, mN, hC, hN, hni, T⟩ := q.obj I.mod.kin
  refine wpAny_Raise_call_subT (nm := nm) (q := qq) (N := Nn) (bs := bs) (bm := bm) (hdct := hdct) (sn := sn) (sub := sub) (ab := ab) (col := col) (dd := dd) (k0 := k0) (k1 := k1) (k2 := k2) (k3 := k3) (k5 := k5)
    PySem.F.excBase_ValueError (mN := mN) (T.hasType PySem.F.excBase_ValueError.hasBase) (I.ok.hd rfl) ?_ hni (ld_glob I hg hm ⟨rfl, ?_⟩ hdb)
  · rw [he]
    show (false || (backTo cpos (starEach es _)).any (·.1)) = false
    rw [hpl]; rfl
  · have hh := ha cpos pins s σ H _ I h
    rw [he] at hh ⊢
    refine Calls.evalArgs_plain (wpAny_mono hh (fun us s1 h1 => ?_) fun _ _ y => y)
    obtain ⟨vs, H1, I1, r1, hl, qE⟩ := h1
    refine ⟨rfl, by rw [← r1.length]; exact hl, I1.bk _ _ hC, hN.keeps I1.bk, T.keeps I1.bk, fun h' e' hx => ?_⟩
    show wpAny _ _ (leaving _ (.ref e')) _ _ { s1 with heap := h' }
    have hin : ∀ env ∈ (cxOf (CXE P w) P w K mg base N qual scope f cd A outer s0 H0 E).stack, ∀ b, env.frame = some b → b ∈ frs (cxOf (CXE P w) P w K mg base N qual scope f cd A outer s0 H0 E).stack := fun env henv b hb => List.mem_filterMap.mpr ⟨env, henv, hb⟩
    have gB : ∀ b o, s1.heap.get? b = some o → b ∉ frs (cxOf (CXE P w) P w K mg base N qual scope f cd A outer s0 H0 E).stack → (PySem.W.hideAll s1.heap (frs (cxOf (CXE P w) P w K mg base N qual scope f cd A outer s0 H0 E).stack)).get? b = some o := fun b o e1 e2 => PySem.W.hideAll_get _ e1 e2
    refine wpAny_leaves_madeW I1.ok.frames rfl (fun b o e1 => PySem.W.of_hideAll _ e1) (PySem.W.funFrames_hide I1.stack hin) hx fun h2 t fl _ _ up => ?_
    have hn : H1 e' = none := by
      cases z : H1 e' with
      | none => rfl
      | some u =>
        obtain ⟨ob, z2⟩ := (I1.hok e' u z).obj
        rw [hx.new] at z2; cases z2
    have tB : ∀ b u, H1 b = some u → ∃ o, (PySem.W.hideAll s1.heap (frs (cxOf (CXE P w) P w K mg base N qual scope f cd A outer s0 H0 E).stack)).get? b = some o := fun b u z => by
      obtain ⟨ob, z2⟩ := (I1.hok b u z).obj
      exact ⟨ob, gB b ob z2 fun z3 => by rw [I1.stkFree b z3] at z; cases z⟩
    have I2 : Inv (cxOf (CXE P w) P w K mg base N qual scope f cd A outer s0 H0 E) pins σ H1 { s1 with heap := h', toks := s1.toks } := I1.kept hx.keeps
    refine cxe_of I2 tB (fun b o e1 e2 => ?_) (fun b o e1 => hx.keeps b o (PySem.W.of_hideAll _ e1)) up hn fl qE
    obtain ⟨o', e3⟩ := I1.base.there b o e1 (fun z => nomatch z)
    refine ⟨o', gB b o' e3 fun z => ?_⟩
    rcases List.mem_cons.mp (I1.stkSub b z) with z | z
    · exact absurd (z ▸ Heap.lt_size e1) (Nat.not_lt.mpr I1.ok.above)
    · exact e2 z
end
end L2

/-! EXTENSION Y: try with one except .. as -/
namespace L2
open PySem PySem.Spec PyProof.Rows

section
variable {X : Cx} {pins : List (Addr × Obj)} {σ : St} {H : Hp} {s : Shared}
/-- a local name goes -/
theorem Inv.gone {ie : Nat} {n : Str} {m : Str → Option Value} {v : Option Value} {h' : Heap} {t' : Nat} (I : Inv X pins σ H s) (hN : X.N.Nodup) (hi : X.N[ie]? = some n)
    (hl : ∀ (i : Nat) (x : Str) (v : V), X.N[i]? = some x → σ[i]? = some (some v) → Vis X.env.scope x → ∃ u, RelV v u ∧ Look X.env s.heap m x u) (hn : h'.Ns X.env.locals (fun x => if x = n then v else m x)) (hs : Heap.SameBut X.env.locals s.heap h') (ht : s.toks ≤ t' := by first | exact Nat.le_refl _ | exact Nat.le_succ _ | assumption | omega) :
    Inv X pins (σ.set ie none) H { s with heap := h', toks := t' } := by
  have neL : ∀ b o, X.s₀.heap.get? b = some o → b ≠ X.env.locals := fun b o e => Nat.ne_of_lt (Nat.lt_of_lt_of_le (Heap.lt_size e) I.ok.above)
  have k : ∀ b o, b ≠ X.env.locals → s.heap.get? b = some o → h'.get? b = some o := fun b o hb e => hs.extBut b o hb e
  refine { ok := I.ok, os := I.os, bare := I.bare, base := ?_, loc := ⟨_, hn, fun i x w hx hσ hv => ?_⟩, cell := fun x c e => ?_, free := I.free, freeC := I.freeC, pin := fun p hp => ?_, hok := fun b u e => ?_, len := by rw [List.length_set]; exact I.len, tk := ⟨I.tk.1, Nat.le_trans I.tk.2 ht⟩ }
  · exact
      { keep := fun b o e h1 h2 h3 => k b o (neL b o e) (I.base.keep b o e h1 h2 h3)
        slot := fun b o e h1 h2 h3 => let ⟨sl, q⟩ := I.base.slot b o e h1 h2 h3; ⟨sl, k b _ (neL b o e) q⟩
        free := I.base.free
        there := fun b o e h1 => let ⟨o', q⟩ := I.base.there b o e h1; ⟨o', k b o' (neL b o e) q⟩
        tups := I.base.tups, frzs := I.base.frzs, tbls := I.base.tbls }
  · by_cases hii : i = ie
    · subst hii
      have hlt : i < σ.length := by
        have := (List.getElem?_eq_some_iff.mp hx).1
        rw [I.len]; exact this
      rw [List.getElem?_set_self hlt] at hσ
      cases hσ
    · rw [List.getElem?_set_ne (Ne.symm hii)] at hσ
      obtain ⟨u, ru, lk⟩ := hl i x w hx hσ hv
      have hxn : x ≠ n := fun e => hii (nodup_ix hN (e ▸ hx) hi)
      refine ⟨u, ru, ?_⟩
      rcases lk with ⟨a1, a2⟩ | ⟨a1, c, a2, a3⟩
      · exact .inl ⟨a1, by show (if x = n then v else m x) = some u; rw [if_neg hxn]; exact a2⟩
      · obtain ⟨o, e1, e2⟩ := a3
        exact .inr ⟨a1, c, a2, o, k c o (I.cne x c a2) e1, e2⟩
  · obtain ⟨w, o, e1, e2⟩ := I.cell x c e
    exact ⟨w, o, k c o (I.cne x c e) e1, e2⟩
  · obtain ⟨a1, a2, a3, a4, a5⟩ := I.pin p hp
    exact ⟨k _ _ a3 a1, a2, a3, a4, a5⟩
  · refine (I.hok b u e).stay (fun c w hc q => k c w ?_ q) (fun c hc => hc) fun c xs hc => hc
    rcases hc with rfl | hc
    · intro z; rw [z, I.free] at e; cases e
    · intro z; rw [z, I.free] at hc; cases hc
end

/-- the exception's object, known by its class -/
def exO (a C : Addr) : HO := .ext fun h => ∃ o vs, h.get? a = some o ∧ o.cls = .ref C ∧ o.data = .fields vs

def Cx.tr (X : Cx) (pn : List (Addr × Obj)) (E : XK) : Cx := { X with pn := pn, xe := fun e s' => ∃ pins σ H s, Inv { X with pn := pn } pins σ H s ∧ CXE X.prog X.w X.stack H s E e s' }
def Cx.hdl (X : Cx) (pn : List (Addr × Obj)) (a : Addr) : Cx := { X with pn := pn, A := X.A.mark (some (.ref a)), calm := false, xe := fun _ _ => False }
theorem Cx.Ok.pns {X : Cx} (ok : X.Ok) (pn : List (Addr × Obj)) : Cx.Ok { X with pn := pn } := ⟨ok.mod, ok.kind, ok.glob, ok.blt, ok.above, ok.inj, ok.has, ok.cab, ok.hd, ok.frames, ok.stk, ok.exf, ok.bs, ok.bsz, ok.noex, ok.exfs, ok.funs, ok.frf⟩
theorem Cx.Ok.trr {X : Cx} (ok : X.Ok) (pn : List (Addr × Obj)) (E : XK) : (X.tr pn E).Ok := ⟨ok.mod, ok.kind, ok.glob, ok.blt, ok.above, ok.inj, ok.has, ok.cab, ok.hd, ok.frames, ok.stk, ok.exf, ok.bs, ok.bsz, ok.noex, ok.exfs, ok.funs, ok.frf⟩
theorem Cx.Ok.hdl {X : Cx} (ok : X.Ok) (pn : List (Addr × Obj)) (a : Addr) : (X.hdl pn a).Ok := ⟨ok.mod, ok.kind, ok.glob, ok.blt, ok.above, ok.inj, ok.has, ok.cab, (fun z => nomatch z), ok.frames, ok.stk, ok.exf, ok.bs, ok.bsz, ok.noex, ok.exfs, ok.funs, ok.frf⟩
section
variable {X : Cx} {pins pn : List (Addr × Obj)} {σ : St} {H : Hp} {s : Shared} {E : XK} {a : Addr}
theorem Inv.toTr (I : Inv X pins σ H s) : Inv (X.tr (X.pn ++ pins) E) [] σ H s :=
  ⟨I.ok.trr _ _, I.os, I.bare, I.base, I.loc, I.cell, I.free, I.freeC, fun p hp => I.pin p (by simpa [Cx.tr] using hp), I.hok, I.len, I.tk⟩
theorem Inv.ofTr {pins' : List (Addr × Obj)} (ok : X.Ok) (I : Inv (X.tr (X.pn ++ pins) E) pins' σ H s) : Inv X pins σ H s :=
  ⟨ok, I.os, I.bare, I.base, I.loc, I.cell, I.free, I.freeC, fun p hp => I.pin p (List.mem_append_left _ hp), I.hok, I.len, I.tk⟩
theorem Inv.trPn {pins' : List (Addr × Obj)} (I : Inv (X.tr pn E) pins' σ H s) (ok : X.Ok) : Inv { X with pn := pn } pins' σ H s :=
  ⟨ok.pns pn, I.os, I.bare, I.base, I.loc, I.cell, I.free, I.freeC, I.pin, I.hok, I.len, I.tk⟩
theorem Inv.toHdl {pins' : List (Addr × Obj)} (ok : X.Ok) (I : Inv { X with pn := pn } pins' σ H s) : Inv (X.hdl pn a) pins' σ H s :=
  ⟨ok.hdl pn a, I.os, I.bare, I.base, I.loc, I.cell, I.free, I.freeC, I.pin, I.hok, I.len, I.tk⟩
theorem Inv.ofHdl {pins' : List (Addr × Obj)} (ok : X.Ok) (I : Inv (X.hdl (X.pn ++ pins) a) pins' σ H s) : Inv X pins σ H s :=
  ⟨ok, I.os, I.bare, I.base, I.loc, I.cell, I.free, I.freeC, fun p hp => I.pin p (List.mem_append_left _ hp), I.hok, I.len, I.tk⟩
theorem passT {E' : XK} (ok : ∀ {pins : List (Addr × Obj)} {σ : St} {H : Hp} {s : Shared}, Inv (X.tr pn E) pins σ H s → X.Ok) (h : ∀ c d H', E' c d H' → E c d H') : Passes (CXE X.prog X.w) (X.tr pn E) E' := by
  intro pins σ H s e s' I hx
  obtain ⟨a, cls, a0, B, H', rfl, os, bare, U, hok, ha, tB, oB, fl, q⟩ := hx
  exact ⟨pins, σ, H, s, I.trPn (ok I), a, cls, a0, B, H', rfl, os, bare, U, hok, ha, tB, oB, fl, h _ _ _ q⟩
theorem tr_ok {pins : List (Addr × Obj)} (I : Inv (X.tr pn E) pins σ H s) : X.Ok := ⟨I.ok.mod, I.ok.kind, I.ok.glob, I.ok.blt, I.ok.above, I.ok.inj, I.ok.has, I.ok.cab, I.ok.hd, I.ok.frames, I.ok.stk, I.ok.exf, I.ok.bs, I.ok.bsz, I.ok.noex, I.ok.exfs, I.ok.funs, I.ok.frf⟩
end

/-- e's class C' lies beneath C -/
theorem excMatches_own {K : PySem.W.Frag} {M : Model} {A : Around} {E : Value → Shared → Prop} {s : Shared} {e C C' : Addr} {oe : Obj} {Q : Bool → Shared → Prop} (X : K.In s.heap) (qC : ExcC K C) (he : s.heap.get? e = some oe) (hcls : oe.cls = .ref C')
    (m1 : PySem.W.mroIn K C (.type "BaseException") = some true) (m2 : PySem.W.mroIn K C' (.ref C) = some true) (hq : Q true s) : wpAny M A (excMatches (.ref e) (.ref C)) Q E s := by
  obtain ⟨h, g, d, t, os⟩ := s
  obtain ⟨bm, N, nm, qq, bs, hdct, sn, sub, ab, col, dd, k0, k1, k2, k3, k5, mN, hC, hN, hni, T⟩ := qC.obj X
  have L1 := PySem.W.looks_mroIn (M := M) X m1
  have L2 := PySem.W.looks_mroIn (M := M) X m2
  have f := tc_notTuple
  unfold excMatches
  repeat (first | (with_reducible refine wpAny_loadPart_at he ?_; rw [hcls]) | with_reducible refine wpAny_loadPart_at hC ?_ | with_reducible refine L1.at ?_ | with_reducible refine L2.at ?_ | wp_step)
  exact hq

/-- try: body / except x as n: suite. E: what is known of an exception that leaves the body; behind it the names are forgotten -/
def tTry (K : PySem.W.Frag) (C : Addr) (E : XK) (ie : Nat) (tb ts : TS) : TS := fun D σ H => tb D σ H ∧ ∀ cls d H', E cls d H' → ∃ C', cls = .ref C' ∧ PySem.W.mroIn K C' (.ref C) = some true ∧ ∀ a, H' a = none →
  ts { nx := fun σ2 H2 => D.nx (σ2.set ie none) H2, rt := D.rt, bk := fun σ2 H2 => D.bk (σ2.set ie none) H2, ct := fun σ2 H2 => D.ct (σ2.set ie none) H2 } ((List.replicate σ.length none).set ie (some (.ref a))) (upd H' a (exO a C'))
section
variable {X : Cx} {body : List Stmt} {x n : Str} {np hpos pos : Pos} {b0 : Stmt} {suite : List Stmt} {ie : Nat} {tb ts : TS} {E : XK} {C : Addr}
theorem ps_try (hst : X.stack = X.env :: X.outer) (hfr : X.env.frame = some X.env.locals) (hN : X.N.Nodup) (hi : X.N[ie]? = some n) (hn : X.env.scope.names.lookup n = some .local) (hg : Gl X x) (hm : X.mg x = some (.ref C))
    (qC : ExcC X.K C) (m1 : PySem.W.mroIn X.K C (.type "BaseException") = some true) (hb : ∀ pn, PSs (X.tr pn E) body tb) (hs : ∀ pn a, PSs (X.hdl pn a) (b0 :: suite) ts) (hdb : (x == ("__debug__" : Str)) = false := by decide) :
    PS X (.Try body [.ExceptHandler (some (.Name x np)) (some n) (b0 :: suite) hpos] [] [] pos) (tTry X.K C E ie tb ts) := by
  intro pins s σ H D I h
  obtain ⟨hbody, hexc⟩ := h
  have ok := I.ok
  refine wpAny_Try_except (wpAny_mono (hb (X.pn ++ pins) [] s σ H D I.toTr hbody) (fun f s1 q => ?_) fun e s1 q => ?_)
  · cases f with
    | next => obtain ⟨σ', H', I', q⟩ := q; exact wpAny_execs_nil ⟨σ', H', I'.ofTr ok, q⟩
    | brk => obtain ⟨σ', H', I', q⟩ := q; exact ⟨σ', H', I'.ofTr ok, q⟩
    | cont => obtain ⟨σ', H', I', q⟩ := q; exact ⟨σ', H', I'.ofTr ok, q⟩
    | ret v => obtain ⟨u, σ', H', I', r, q⟩ := q; exact ⟨u, σ', H', I'.ofTr ok, r, q⟩
  · obtain ⟨pins', σ', H', sc, Ic, a, cls, a0, B, H1, rfl, ⟨os, htk⟩, bare, U, hok, ha, tB, oB, fl, qE⟩ := q
    obtain ⟨C', rfl, m2, hts⟩ := hexc cls none H1 qE
    have ff : ∀ b ∈ frs X.stack, ∃ o, sc.heap.get? b = some o ∧ H' b = none ∧ ∀ vs, o.data ≠ .fields vs := fun b hb' => by
      have z := Heap.FunFrames.mem Ic.stack (b := b) hb'
      obtain ⟨o, e1, e2⟩ := z.2
      exact ⟨o, e1, Ic.stkFree b hb', e2⟩
    -- the state at any later heap of the flight, the exception tracked
    have mkI : ∀ h2 : Heap, Heap.FlyingW B X.stack a (.ref C') a0 h2 → s1.heap.UpToSlots h2 → Inv (X.hdl (X.pn ++ pins) a) pins' σ' (upd H1 a (exO a C')) { s1 with heap := h2 } := fun h2 fl2 up => by
      obtain ⟨U2, ok2⟩ := fly_step (h2 := h2) U hok tB oB fl.1 fl2.1 up ff
      obtain ⟨oe, vs, e1, e2, e3, _⟩ := fl2.first
      have hnew : ∀ o, sc.heap.get? a ≠ some o := fun o e => by
        by_cases hf : a ∈ frs X.stack
        · obtain ⟨o', e4, hn', hd⟩ := ff a hf
          obtain ⟨sl, e5⟩ := U2.slot a o' e4 hn' hf (fun z => nomatch z)
          rw [e1] at e5; cases e5
          exact hd vs e3
        · obtain ⟨o', e4⟩ := oB a o e hf
          rw [fl2.2.1] at e4; cases e4
      have lt : ∀ {b u}, H1 b = some u → b ≠ a := fun e z => by rw [z, ha] at e; cases e
      have U3 : Un (frs X.stack) [] H' (upd H1 a (exO a C')) sc.heap h2 :=
        { keep := U2.keep, slot := U2.slot
          free := fun b o e q hx => by rw [upd_ne (fun z => hnew o (by rw [← z]; exact e))]; exact U2.free b o e q hx
          there := U2.there
          tups := fun b xs e => by have z := U2.tups b xs e; rw [upd_ne (lt z)]; exact z
          frzs := fun b o u e => by have z := U2.frzs b o u e; rw [upd_ne (lt z)]; exact z
          tbls := fun b ps e => by obtain ⟨more, z⟩ := U2.tbls b ps e; exact ⟨more, by rw [upd_ne (lt z)]; exact z⟩ }
      have ok3 : HOk X.prog X.w (upd H1 a (exO a C')) h2 := fun b u e => by
        by_cases hb' : b = a
        · subst hb'
          rw [upd_same] at e; cases e
          exact ⟨⟨oe, vs, e1, e2, e3⟩, ⟨oe, e1⟩, fun g1 g2 ⟨o, ws, q1, q2, q3⟩ kk => ⟨o, ws, kk o q1, q2, q3⟩⟩
        · rw [upd_ne hb'] at e
          exact (ok2 b u e).stay (fun c v _ q => q) (fun c hc => by rw [upd_ne (lt hc)]; exact hc) fun c xs hc => by rw [upd_ne (lt hc)]; exact hc
      exact (Ic.call' (ch := []) (s' := { s1 with heap := h2 }) os U3 ok3 bare (fun b hb' => nomatch hb') htk).toHdl ok
    have fl' := fl
    rw [hst] at fl'
    refine wpAny_looks_onW (hst ▸ ok.frames) hfr fl' fun h4 held up4 => ?_
    refine wpAny_landsW held fun h5 fl5 up5 => ?_
    rw [← hst] at fl5
    have I5 := mkI h5 fl5 (up4.trans up5)
    obtain ⟨ob, hob, hobc⟩ := fl5.there
    refine wpAny_handleBy_cons (codeAny_handlers_test (ld_glob I5 hg hm ?_ hdb)) (by intro q; cases q)
    refine excMatches_own I5.kIn qC hob hobc m1 m2 (codeAny_handlers_suite_as ?_)
    refine lands_againW fl5 fun h6 fl6 up6 => ?_
    have I6 := mkI h6 fl6 ((up4.trans up5).trans up6)
    have I6' : Inv (X.hdl (X.pn ++ pins) a) pins' (List.replicate σ.length none) (upd H1 a (exO a C')) { s1 with heap := h6 } := I6.weak (by rw [List.length_replicate, I.len, I6.len]; rfl) fun i v e => by
      rcases List.getElem?_eq_some_iff.mp e with ⟨hlt, e⟩
      rw [List.getElem_replicate] at e; cases e
    refine store_ok (X := X.hdl (X.pn ++ pins) a) I6' hN hi (.inl hn) (v := .ref a) rfl (fun s7 I7 => ?_) (.inr hn)
    refine wpAny_mono (hs (X.pn ++ pins) a pins' s7 _ _ _ I7 (hts a ha)) (fun f s8 q8 => ?_) fun _ _ z => z.elim
    have fin : ∀ {σ2 : St} {H2 : Hp} {R : Shared → Prop}, Inv (X.hdl (X.pn ++ pins) a) pins' σ2 H2 s8 → (∀ s9, Inv X pins (σ2.set ie none) H2 s9 → R s9) →
        wpAny (model X.prog X.w) X.A (do bindName X.env n .none; unbindBehindTheSuite X.env n hpos) (fun _ s9 => R s9) X.xe s8 := fun {σ2 H2 R} I8 k => by
      have I9 := I8.ofHdl ok
      obtain ⟨m, hm', hl⟩ := I9.loc
      refine wpAny_nameGoes_keeps hn hm' (by rw [ok.kind]; rfl) fun h9 v hn9 hs9 => k _ (I9.gone hN hi hl hn9 hs9)
    cases f with
    | next => obtain ⟨σ2, H2, I8, q⟩ := q8; exact fin I8 fun s9 I9 => ⟨_, H2, I9, q⟩
    | brk => obtain ⟨σ2, H2, I8, q⟩ := q8; exact fin I8 fun s9 I9 => ⟨_, H2, I9, q⟩
    | cont => obtain ⟨σ2, H2, I8, q⟩ := q8; exact fin I8 fun s9 I9 => ⟨_, H2, I9, q⟩
    | ret v => obtain ⟨u, σ2, H2, I8, r, q⟩ := q8; exact fin I8 fun s9 I9 => ⟨u, _, H2, I9, r, q⟩
end
end L2

/-! EXTENSION Z: isinstance of an own exception; count and index of a list of bools -/
namespace L2
open PySem PySem.Spec PySem.Calls PyProof.Rows PySem.W PySem.Builtin.ObjectAttr PySem.Builtin PySem.Builtin.Getset_descriptor
section
variable {prog : Program} {w : World} {A : Around} {E : Value → Shared → Prop} {s : Shared} {K : Frag} {x D : Addr}
/-- the exception's object, whatever its dict -/
def XO (x D : Addr) (h : Heap) : Prop := ∃ o vs, h.get? x = some o ∧ o.cls = .ref D ∧ o.data = .fields vs
theorem XO.ty {M : Model} {h : Heap} (p : XO x D h) : Looks M h (typeOf (.ref x)) (.ref D) := by
  obtain ⟨o, vs, e1, e2, e3⟩ := p
  exact e2 ▸ (Looks.ld e1).andThen .now
theorem exc_find {M : Model} {h : Heap} {name : Str} {a g : Value} (X : K.In h) (ha : findIn K (.ref D) name = some (some a)) (hg : specialIn K a "__get__" = some (some g)) (ht : takesIn K a = some true) :
    Looks M h (find (.ref x) (.ref D) name) (.bind g a) := by
  have l1 := looks_findIn (M := M) X ha
  have l2 : Looks M h (getOf (some a)) (some g) := looks_specialIn X hg
  have l3 := looks_takesIn (M := M) X ht
  exact l1.andThen (l2.andThen ((show Looks M h (dataDescriptor? (some a) (some g)) (some (g, a)) from l3.andThen .now).andThen (Looks.tag .now)))
theorem exc_get {tp : Value} {R : Result → Shared → Prop} (X : K.In s.heap) (p : XO x D s.heap) (hm : mroIn K D (.type "object") = some true) (h : R (.ok (.ret (.ref D))) s) :
    codeAny (model prog w) A (.call (.builtin "getset_descriptor.__get__") ⟨[.builtin "object.__class__", .ref x, tp], []⟩) R s := by
  obtain ⟨hh, g, dr, t, os⟩ := s
  have L0 := p.ty (M := model prog w)
  have L1 := looks_mroIn (M := model prog w) X hm
  refine codeAny_call_builtin KF.slot_gs.plain KF.entry_gs (KF.slot_gs.check _ _ _ _ _ _ _ _ KF.type_class (KF.args_gs _ _ _) ?_)
  unfold Builtin.«getset_descriptor.__get__» descrGet
  rw [dga_obj]; refine wpAny_bind (wpAny_pure ?_)
  unfold descrGetter descrCheckInstance descrNameAndClass isInstance; simp only [KF.owner_class]
  repeat lk
  refine ⟨Code.quiet_builtin _ (by decide +kernel), codeAny_builtin KF.entry_class ?_⟩
  unfold Builtin.«object.__class__» shownTypeOf
  repeat lk
  exact h
theorem exc_check {nameV : Value} {Q : Unit → Shared → Prop} (X : K.In s.heap) (p : XO x D s.heap) (hmB : mroIn K D (.type "BaseException") = some true) (hq : Q () s) :
    wpAny (model prog w) A (checkBuiltinCall "BaseException.__getattribute__" ⟨[.ref x, nameV], []⟩) Q E s := by
  obtain ⟨hh, g, dr, t, os⟩ := s
  have hk : builtinKind "BaseException.__getattribute__" = some .slot := by decide +kernel
  have hsplit : splitId "BaseException.__getattribute__" = some ("BaseException", "__getattribute__") := by decide +kernel
  have L0 := p.ty (M := model prog w)
  have L1 := looks_mroIn (M := model prog w) X hmB
  have ha := F.args_bexc_ga (.ref x) nameV
  simp only [checkBuiltinCall, hk, hsplit]
  refine wpAny_bind ?_
  unfold isInstance
  repeat (any_goals (first | assumption | lk))
theorem exc_body {tk : Tok} {Q : Fin → Shared → Prop} (X : K.In s.heap) (p : XO x D s.heap) (ha : findIn K (.ref D) "__class__" = some (some (.builtin "object.__class__"))) (hg : specialIn K (.builtin "object.__class__") "__get__" = some (some (.builtin "getset_descriptor.__get__")))
    (ht : takesIn K (.builtin "object.__class__") = some true) (hm : mroIn K D (.type "object") = some true) (hq : Q (.done (.ret (.ref D))) s) :
    wpAny (model prog w) A (Builtin.«object.__getattribute__» ⟨[.ref x, .str "__class__" tk], []⟩) Q E s := by
  obtain ⟨hh, g, dr, t, os⟩ := s
  have L0 := p.ty (M := model prog w)
  have L1 := exc_find (M := model prog w) (x := x) X ha hg ht
  repeat (any_goals (first | assumption | with_reducible refine L0.at ?_ | with_reducible refine L1.at ?_ | wp_step))
  exact exc_get X p hm (wpAny_pure hq)
theorem exc_open {Q : Option Value → Shared → Prop} (X : K.In s.heap) (p : XO x D s.heap) (hga : findIn K (.ref D) "__getattribute__" = some (some (.builtin "BaseException.__getattribute__"))) (hgt : findIn K (.ref D) "__getattr__" = some none)
    (hmB : mroIn K D (.type "BaseException") = some true) (ha : findIn K (.ref D) "__class__" = some (some (.builtin "object.__class__"))) (hg : specialIn K (.builtin "object.__class__") "__get__" = some (some (.builtin "getset_descriptor.__get__")))
    (ht : takesIn K (.builtin "object.__class__") = some true) (hm : mroIn K D (.type "object") = some true) (k : Q (some (.ref D)) { s with toks := s.toks + 1 }) : wpAny (model prog w) A (getAttr? (.ref x) "__class__") Q E s := by
  obtain ⟨hh, g, dr, t, os⟩ := s
  have L0 := p.ty (M := model prog w)
  have L1 := looks_findIn (M := model prog w) X hga
  have L2 := looks_findIn (M := model prog w) X hgt
  have f3 := PySem.F.excAttr_ValueError.ga.bind (.ref x)
  have hx0 : (false && onTheHeap (Value.builtin "BaseException.__getattribute__")) = false := rfl
  have hx2 : (Value.builtin "BaseException.__getattribute__" == Value.builtin "object.__getattribute__") = false := by decide +kernel
  have hx1 : (onTheHeap (Value.ref D) && Value.builtin "BaseException.__getattribute__" == Value.builtin "object.__getattribute__") = false := by rw [hx2]; rfl
  unfold getAttr? getAttrBy?
  repeat (any_goals (first | assumption | with_reducible refine L0.at ?_ | with_reducible refine L1.at ?_ | with_reducible refine L2.at ?_ | wp_step))
  refine codeAny_call_builtin PySem.F.excAttr_ValueError.ga.plain F.entry_bexc_ga (exc_check X p hmB (exc_body X p ha hg ht hm ?_))
  exact handed_on rfl (wpAny_pure k)
/-- an own error class, as isinstance asks it -/
structure ExcI (K : Frag) (D : Addr) : Prop where
  ga : findIn K (.ref D) "__getattribute__" = some (some (.builtin "BaseException.__getattribute__"))
  gt : findIn K (.ref D) "__getattr__" = some none
  mB : mroIn K D (.type "BaseException") = some true
  hd : hasDictIn K D = true
  ha : findIn K (.ref D) "__class__" = some (some (.builtin "object.__class__"))
  hn : specialIn K (.builtin "object.__class__") "__get__" = some (some (.builtin "getset_descriptor.__get__"))
  tk : takesIn K (.builtin "object.__class__") = some true
  hm : mroIn K D (.type "object") = some true
theorem kitx_exc (q : ExcI K D) : KitX K (.ref x) (.ref D) (XO x D) where
  ty := fun _ _ _ p => p.ty
  it := fun _ _ X _ => by
    obtain ⟨cdD, hcD, _⟩ := any_some q.hd
    unfold clsIn at hcD
    split at hcD
    · rename_i c' d' cd' sl' ho
      intro A' Q' E' s' k z
      unfold isType loadHead
      exact wpAny_bind (wpAny_loadPart (k _ _ (X _ _ ho)) (wpAny_pure z))
    · cases hcD
  ne := fun h tp dd its n sl X htp => by
    obtain ⟨cdD, hcD, _⟩ := any_some q.hd
    refine Bool.eq_false_iff.mpr fun z => ?_
    have e : D = tp := Value.ref.inj (beq_iff_eq.mp z)
    subst e
    unfold clsIn at hcD
    split at hcD
    · rename_i c' d' cd' sl' ho
      have z2 := (X _ _ ho).symm.trans htp
      cases z2
    · cases hcD
  ca := fun {prog w A E Q s} X p k => exc_open X p q.ga q.gt q.mB q.ha q.hn q.tk q.hm k
end
def vC : V → Option Value
  | .ref a => some (.ref a)
  | .ty T => some (.type T)
  | _ => none
def rIsiE (K : PySem.W.Frag) : List V → Hp → VK → Prop := fun xs H Q => ∃ a C y c b, xs = [.ref a, y] ∧ vC y = some c ∧ H a = some (exO a C) ∧ ExcI K C ∧ PySem.W.kitOne K (.ref C) c = some b ∧ Q (.bl b) H
theorem call_isiE (K : PySem.W.Frag) {X : Cx} (e : X.K = K := by rfl) : CallR X (.builtin "isinstance") (rIsiE K) := by
  subst e
  intro pins s σ H xs us Q I r h
  obtain ⟨a, C, y, c, b, rfl, ey, ea, q, e, qq⟩ := h
  obtain ⟨u, w', rfl, ru, rw'⟩ := vals2 r
  cases (show u = Value.ref a from ru)
  obtain ⟨p, _⟩ := (show ObjOk X.prog X.w H s.heap a (.ext fun h => ∃ o vs, h.get? a = some o ∧ o.cls = .ref C ∧ o.data = .fields vs) from I.hok a _ ea)
  have ew : w' = c := by
    cases y with
    | ref d => cases ey; exact rw'
    | ty T => cases ey; exact rw'
    | non => cases ey
    | bl _ => cases ey
    | int _ => cases ey
    | str _ => cases ey
    | byt _ => cases ey
    | flt _ => cases ey
  subst ew
  exact wpAny_toks (PySem.W.kia_one (kitx_exc q) I.kIn p e (fun z => nomatch z) fun tk ht => ⟨.bl b, H, I.tok _ ht, rfl, qq⟩)

/-! ### count and index -/
def isBl (k : Bool) : Value → Bool
  | .bool b => b == k
  | _ => false
theorem vals_bools {bs : List Bool} {us : List Value} (r : Vals (bs.map V.bl) us) : us = bs.map Value.bool := by
  induction bs generalizing us with
  | nil => cases r; rfl
  | cons b q ih =>
    cases r with
    | cons h t => rw [ih t, show _ = Value.bool b from h]; rfl
def rCount (K : PySem.W.Frag) : V → List V → Hp → VK → Prop := fun x xs H Q => ∃ (a : Addr) (bs : List Bool) (k : Bool), x = .ref a ∧ xs = [.bl k] ∧ SqL K H a (bs.map V.bl) ∧ Q (.int (bs.countP (· == k) : Nat)) H
def rIndex (K : PySem.W.Frag) : V → List V → Hp → VK → Prop := fun x xs H Q => ∃ (a : Addr) (bs : List Bool) (k : Bool) (j : Nat), x = .ref a ∧ xs = [.bl k] ∧ SqL K H a (bs.map V.bl) ∧ bs[j]? = some k ∧ (∀ m, m < j → bs[m]? ≠ some k) ∧ j < 1000 ∧ Q (.int (j : Nat)) H
theorem eq_bl {A : Around} {s : Shared} (k : Bool) {bs : List Bool} (y : Value) (hy : y ∈ (bs.map Value.bool).toArray) : SeqAt.EqAt A s y (.bool k) (isBl k y) := by
  have hy' : y ∈ bs.map Value.bool := by simpa using hy
  obtain ⟨b, _, rfl⟩ := List.mem_map.mp hy'
  exact SeqAt.EqAt.bool_bool b k
theorem count_bl (k : Bool) : ∀ bs : List Bool, (bs.map Value.bool).countP (isBl k) = bs.countP (· == k)
  | [] => rfl
  | b :: q => by rw [List.map_cons, List.countP_cons, List.countP_cons, count_bl k q]; rfl
section
variable {X : Cx}
theorem mt_count (K : PySem.W.Frag) {X : Cx} (e : X.K = K := by rfl) : MtR X "list.count" (rCount K) := by
  subst e
  intro pins s σ H x xs v us Q I rx rxs h
  obtain ⟨a, bs, k, rfl, rfl, hS, q⟩ := h
  cases (show v = Value.ref a from rx)
  obtain ⟨u, rfl, ru⟩ := vals1 rxs
  cases (show u = Value.bool k from ru)
  obtain ⟨its, r, pl, _⟩ := I.list hS
  have hi := vals_bools r
  subst hi
  obtain ⟨⟨cls, dd, data, sl⟩, ho, hc, n, hd⟩ := pl.isList
  simp only at hc hd
  subst hc hd
  refine call_meets PySem.F.slot_list_count ⟨_, ho, rfl⟩ PySem.F.entry_list_count (PySem.F.args_list_count_2 _ _) (SeqAt.list_countAt a (bs.map Value.bool).toArray n dd sl (.bool k) (isBl k)) ⟨ho, fun y hy => eq_bl k y hy, ?_⟩
  rw [show (bs.map Value.bool).toArray.toList = bs.map Value.bool from rfl, count_bl]
  exact ⟨.int (bs.countP (· == k) : Nat), H, I.tok _, ⟨_, rfl⟩, q⟩
theorem mt_index (K : PySem.W.Frag) {X : Cx} (e : X.K = K := by rfl) : MtR X "list.index" (rIndex K) := by
  subst e
  intro pins s σ H x xs v us Q I rx rxs h
  obtain ⟨a, bs, k, j, rfl, rfl, hS, hj, hno, hsm, q⟩ := h
  cases (show v = Value.ref a from rx)
  obtain ⟨u, rfl, ru⟩ := vals1 rxs
  cases (show u = Value.bool k from ru)
  obtain ⟨its, r, pl, _⟩ := I.list hS
  have hi := vals_bools r
  subst hi
  obtain ⟨⟨cls, dd, data, sl⟩, ho, hc, n, hd⟩ := pl.isList
  simp only at hc hd
  subst hc hd
  obtain ⟨hl, hjv⟩ := List.getElem?_eq_some_iff.mp hj
  have hsz : (bs.map Value.bool).toArray.size = bs.length := by simp
  refine call_meets PySem.F.slot_list_index ⟨_, ho, rfl⟩ PySem.F.entry_list_index (PySem.F.args_list_index_2 _ _) (SeqAt.list_indexAt a (bs.map Value.bool).toArray n dd sl (.bool k) (isBl k) j (by rw [hsz]; exact hl) (by omega) ?_ ?_) ⟨ho, fun y hy => eq_bl k y hy, ?_⟩
  · simp [isBl, hjv]
  · intro m hm hmj
    have hm' : m < bs.length := by rw [hsz] at hm; exact hm
    have := hno m hmj
    simp [isBl]
    intro z
    exact this (by rw [List.getElem?_eq_getElem hm', z])
  · exact ⟨.int (j : Nat), H, I.tok _, ⟨_, rfl⟩, q⟩
end
end L2

/-! EXTENSION Q: the five error classes of the package, as the fragment holds them -/
namespace L2
open PySem PySem.Spec PyProof.Rows PySem.W
def clsA (K : Frag) (x : Str) : Addr := match nsIn K mainGlobals x with
  | some (some (.ref a)) => a
  | _ => 0
def kidN : List Str := ["BadRule", "BadFolding", "NoSuch", "NoText"]
def hasC (K : Frag) (x : Str) : Bool := match nsIn K mainGlobals x with
  | some (some (.ref _)) => true
  | _ => false
def errB (K : Frag) : Bool :=
  ((("RuleError" : Str) :: kidN).all fun x => hasC K x && excIn K (clsA K x) bmVE "ValueError.__new__") && (mroIn K (clsA K "RuleError") (.type "BaseException") == some true) &&
  (kidN.all fun x => (findIn K (.ref (clsA K x)) "__getattribute__" == some (some (.builtin "BaseException.__getattribute__"))) && (findIn K (.ref (clsA K x)) "__getattr__" == some none) && (mroIn K (clsA K x) (.type "BaseException") == some true) && hasDictIn K (clsA K x) && (findIn K (.ref (clsA K x)) "__class__" == some (some (.builtin "object.__class__"))) && (mroIn K (clsA K x) (.type "object") == some true) &&
    (mroIn K (clsA K x) (.ref (clsA K "RuleError")) == some true) && (kitOne K (.ref (clsA K x)) (.ref (clsA K "RuleError")) == some true) && (kitOne K (.ref (clsA K x)) (.type "ValueError") == some true) &&
    kidN.all fun y => kitOne K (.ref (clsA K x)) (.ref (clsA K y)) == some (decide (x = y))) &&
  (specialIn K (.builtin "object.__class__") "__get__" == some (some (.builtin "getset_descriptor.__get__"))) && (takesIn K (.builtin "object.__class__") == some true)
structure Errs (K : Frag) (mg : Str → Option Value) : Prop where
  m : ∀ x ∈ ("RuleError" : Str) :: kidN, mg x = some (.ref (clsA K x))
  q : ∀ x ∈ ("RuleError" : Str) :: kidN, ExcC K (clsA K x)
  b : mroIn K (clsA K "RuleError") (.type "BaseException") = some true
  i : ∀ x ∈ kidN, ExcI K (clsA K x)
  r : ∀ x ∈ kidN, mroIn K (clsA K x) (.ref (clsA K "RuleError")) = some true
  kR : ∀ x ∈ kidN, kitOne K (.ref (clsA K x)) (.ref (clsA K "RuleError")) = some true
  kV : ∀ x ∈ kidN, kitOne K (.ref (clsA K x)) (.type "ValueError") = some true
  k : ∀ x ∈ kidN, ∀ y ∈ kidN, kitOne K (.ref (clsA K x)) (.ref (clsA K y)) = some (decide (x = y))
theorem errs_of {K : Frag} {h : Heap} {mg : Str → Option Value} (X : K.In h) (G : h.Ns mainGlobals mg) (e : errB K = true) : Errs K mg := by
  unfold errB at e
  simp only [Bool.and_eq_true, List.all_eq_true, beq_iff_eq] at e
  obtain ⟨⟨⟨⟨e1, e2⟩, e3⟩, e4⟩, e5⟩ := e
  refine ⟨fun x hx => ?_, fun x hx => (e1 x hx).2, e2, fun x hx => ?_, fun x hx => ?_, fun x hx => ?_, fun x hx => ?_, fun x hx y hy => ?_⟩
  · have h1 := (e1 x hx).1
    unfold hasC at h1
    unfold clsA
    split at h1
    · rename_i a ha
      exact mg_of X G ha
    · cases h1
  · obtain ⟨⟨⟨⟨⟨⟨⟨⟨⟨a1, b1⟩, c1⟩, a2⟩, a3⟩, a4⟩, a5⟩, a6⟩, a7⟩, a8⟩ := e3 x hx
    exact ⟨a1, b1, c1, a2, a3, e4, e5, a4⟩
  · exact (e3 x hx).1.1.1.2
  · exact (e3 x hx).1.1.2
  · exact (e3 x hx).1.2
  · exact (e3 x hx).2 y hy
theorem PS.nox {X : Cx} {st : Stmt} {t : TS} (h : PS X.nox st t) : PS X st t := fun pins s σ H D I hw =>
  wpAny_mono (h pins s σ H D (I.wish _) hw) (fun _ _ q => q.unwish) fun _ _ z => False.elim z
end L2

/-! EXTENSION F: a text with one number in it; a loop in which something may be raised -/
namespace L2
open PySem PySem.Spec PyProof.Rows
def tAnyStr : TE := fun _ H Q => ∀ y, Q (.str y) H
def fstrOk (ps : List Str) (i : Int) : Bool := decide (i.natAbs.log2 < 1920) && ((ps.map Str.length).sum + (toString i : Str).length ≤ 100000 : Bool)
section
variable {X : Cx} {e1 v e3 : Expr} {a b : Str} {i : Int} {p pos : Pos}
/-- a part that is a constant text -/
theorem jp_str {e : Expr} {a out : Str} {rest : List (Sem Value)} {pins : List (Addr × Obj)} {s : Shared} {σ : St} {H : Hp} {Q : Value → Shared → Prop} (h1 : PE X e (tC (.str a))) (I : Inv X pins σ H s) (hl : (out ++ a).length ≤ sizeLine)
    (h : ∀ s1, Inv X pins σ H s1 → wpAny (model X.prog X.w) X.A (joinParts (out ++ a) rest) Q X.xe s1) : wpAny (model X.prog X.w) X.A (joinParts out (eval e X.env :: rest)) Q X.xe s := by
  refine joinParts_cons (thn (h1 pins s σ H (fun y H' => y = .str a ∧ H' = H) I ⟨rfl, rfl⟩) fun u s1 ⟨x, H1, I1, r1, q1, q2⟩ => ?_)
  subst q1 q2
  obtain ⟨t, rfl⟩ := (show ∃ t, u = Value.str a t from r1)
  exact ⟨hl, h s1 I1⟩
theorem jp_int {e : Expr} {i : Int} {out : Str} {rest : List (Sem Value)} {p : Pos} {pins : List (Addr × Obj)} {s : Shared} {σ : St} {H : Hp} {Q : Value → Shared → Prop} (h1 : PE X e (tC (.int i))) (I : Inv X pins σ H s) (hi : i.natAbs.log2 < 1920) (hl : (out ++ (toString i : Str)).length ≤ sizeLine)
    (h : ∀ s1, Inv X pins σ H s1 → wpAny (model X.prog X.w) X.A (joinParts (out ++ (toString i : Str)) rest) Q X.xe s1) : wpAny (model X.prog X.w) X.A (joinParts out (eval (.FormattedValue e (-1) none p) X.env :: rest)) Q X.xe s := by
  refine joinParts_cons (FormattedValue_plain (thn (h1 pins s σ H (fun y H' => y = .int i ∧ H' = H) I ⟨rfl, rfl⟩) fun u s1 ⟨x, H1, I1, r1, q1, q2⟩ => ?_))
  subst q1 q2
  obtain ⟨t, rfl⟩ := (show ∃ t, u = Value.int i t from r1)
  exact formatField_int_small hi ⟨hl, h _ (I1.tok _)⟩
theorem fstr_len {out a : Str} {n m : Nat} (h1 : out.length ≤ n) (h2 : n + a.length ≤ m) : (out ++ a).length ≤ m := by rw [strLen_append]; omega
theorem pe_fstr3 (h1 : PE X e1 (tC (.str a))) (hv : PE X v (tC (.int i))) (h3 : PE X e3 (tC (.str b))) (hok : fstrOk [a, b] i = true := by decide +kernel)
    (he : evalEach [e3] X.env = [eval e3 X.env] := by rfl) : PE X (.JoinedStr [e1, .FormattedValue v (-1) none p, e3] pos) tAnyStr := by
  intro pins s σ H Q I h
  simp only [fstrOk, Bool.and_eq_true, decide_eq_true_eq, List.map_cons, List.map_nil, List.sum_cons, List.sum_nil] at hok
  obtain ⟨hi, hl⟩ := hok
  have big : 100000 ≤ sizeLine := by rw [sizeLine_eq]; decide
  have l0 : (Str.empty ++ a).length ≤ a.length := by rw [strLen_append]; exact Nat.le_of_eq (Nat.zero_add _)
  refine JoinedStr_many ?_
  rw [he]
  refine jp_str h1 I (by omega) fun s1 I1 => jp_int hv I1 hi (fstr_len l0 (by omega)) fun s2 I2 => jp_str h3 I2 (fstr_len (n := a.length + (toString i : Str).length) (fstr_len l0 (Nat.le_refl _)) (by omega)) fun s3 I3 => joinParts_nil ⟨.str _, H, I3.tok _, ⟨_, rfl⟩, h _⟩ (fstr_len (n := a.length + (toString i : Str).length) (fstr_len l0 (Nat.le_refl _)) (by omega))
theorem pe_fstr2 (h1 : PE X e1 (tC (.str a))) (hv : PE X v (tC (.int i))) (hok : fstrOk [a] i = true := by decide +kernel)
    (he : evalEach [] X.env = [] := by rfl) : PE X (.JoinedStr [e1, .FormattedValue v (-1) none p] pos) tAnyStr := by
  intro pins s σ H Q I h
  simp only [fstrOk, Bool.and_eq_true, decide_eq_true_eq, List.map_cons, List.map_nil, List.sum_cons, List.sum_nil] at hok
  obtain ⟨hi, hl⟩ := hok
  have big : 100000 ≤ sizeLine := by rw [sizeLine_eq]; decide
  have l0 : (Str.empty ++ a).length ≤ a.length := by rw [strLen_append]; exact Nat.le_of_eq (Nat.zero_add _)
  refine JoinedStr_many ?_
  rw [he]
  refine jp_str h1 I (by omega) fun s1 I1 => jp_int hv I1 hi (fstr_len l0 (by omega)) fun s2 I2 => joinParts_nil ⟨.str _, H, I2.tok _, ⟨_, rfl⟩, h _⟩ (fstr_len l0 (by omega))
end
end L2

/-! EXTENSION BA: signs of a text one after the other -/
namespace L2
open PySem PySem.Spec PyProof.Rows
/-- plain signs alone -/
def Asc (z : Str) : Prop := z.cps.all (· < 128) = true
def Its (z : Str) : It := ⟨fun i _ => i < z.cps.size, fun i H x H' => H' = H ∧ ∃ c, z.cps[i]? = some c ∧ x = .str ⟨#[c]⟩, fun i _ => z.cps.size ≤ i⟩
theorem turn_str {P : Program} {w : World} {K : PySem.W.Frag} {tg : Expr} (z : Str) (t : Tok) (it : Addr) : Turn P w K tg (Its z) [it] it (fun i h => h.IsStrIter it "str_ascii_iterator" z t i) where
  mem := by simp
  obj := fun i h st b hb => by
    have e : b = it := by simpa using hb
    subst e
    obtain ⟨o, e, c, d⟩ := st
    exact ⟨o, e, fun v z => by rw [d] at z; cases z⟩
  keep := fun i h h' st k => by
    obtain ⟨o, e, r⟩ := st
    exact ⟨o, k it (by simp) o e, r⟩
  item := by
    intro X hP hw hK hc i pins s σ H E I hf st hg
    subst hP hw hK
    obtain ⟨f0, f1, f2, f3, f4, f5⟩ := hf it (by simp)
    have hx : z.cps[i]? = some (z.cps[i]'hg) := Array.getElem?_eq_getElem hg
    refine wpAny_pyNext_ascii_item st hx fun h' st' sb => ?_
    have I1 : Inv X pins σ H { s with heap := h', toks := s.toks + 1 } := I.turned (fun b o hb e => (sb.2 b hb).trans e) f0 f1 f3 f4 f5
    obtain ⟨o, e, c, d⟩ := id st'
    exact ⟨_, rfl, go_of (s := { s with heap := h', toks := s.toks + 1 }) e c d (by decide) ⟨.str ⟨#[z.cps[i]'hg]⟩, H, I1, ⟨_, rfl⟩, ⟨rfl, _, hx, rfl⟩, st', fun b hb => (hf b hb).1⟩⟩
  done := by
    intro X hP hw hK hc i pins s σ H E I hf st hg
    subst hP hw hK
    obtain ⟨f0, f1, f2, f3, f4, f5⟩ := hf it (by simp)
    have hx : z.cps[i]? = none := Array.getElem?_eq_none hg
    exact wpAny_pyNext_ascii_end (I.ok.hd hc) st hx fun h' eb => ⟨rfl, I.turned (t' := s.toks) (fun b o hb e => eb b o hb e) f0 f1 f3 f4 f5⟩
  self := fun _ _ _ _ _ st h => wpAny_pyIter_striter_ascii st h
def iStr (tl : TE) : TI := fun σ H R => tl σ H fun x H1 => ∃ z, x = .str z ∧ Asc z ∧ R (Its z) H1
theorem pi_str {X : Cx} {tg l : Expr} {tl : TE} (hl : PE X l tl) : PI X tg l (iStr tl) := by
  intro pins s σ H R I h
  refine thn (hl pins s σ H _ I h) fun v s1 ⟨x, H1, I1, r1, q1⟩ => ?_
  obtain ⟨z, e, ha, q⟩ := q1
  subst e
  obtain ⟨t, rfl⟩ := r1
  refine wpAny_pyIter_ascii ha ?_
  refine ⟨s1.heap.objs.size, [s1.heap.objs.size], _, _, H1, rfl, I1.kept (t' := s1.toks) fun b o e => Heap.get?_push_of_some _ e, turn_str z t _, ⟨_, Heap.get?_push_size _ rfl, rfl, rfl⟩, fun b hb => ?_, q⟩
  have e : b = s1.heap.objs.size := by simpa using hb
  subst e
  exact I1.fpOk (Nat.le_refl _) (I1.hok.fresh (Nat.le_refl _))
theorem for_str {z : Str} {g : TG} {tb : TS} {D : Ends} {σ : St} {H : Hp} (Pv : Nat → St → Hp → Prop) (h0 : Pv 0 σ H)
    (hs : ∀ i c σ H, z.cps[i]? = some c → Pv i σ H → g (.str ⟨#[c]⟩) σ H fun σ2 H2 => tb { D with nx := Pv (i + 1), ct := Pv (i + 1), bk := D.nx } σ2 H2) (hd : ∀ σ H, Pv z.cps.size σ H → D.nx σ H) :
    ∃ W : Nat → Nat → St → Hp → Prop, (∃ m, W 0 m σ H) ∧ ∀ i m σ H, W i m σ H →
      ((Its z).stop i H ∧ D.nx σ H) ∨ ((Its z).go i H ∧ ∃ N : St → Hp → Prop, (∀ σ' H', N σ' H' → ∃ m', m' < m ∧ W (i + 1) m' σ' H') ∧ ∀ x H', (Its z).yld i H x H' → g x σ H' fun σ2 H2 => tb { D with nx := N, ct := N, bk := D.nx } σ2 H2) := by
  refine ⟨fun i m σ H => m = z.cps.size - i ∧ i ≤ z.cps.size ∧ Pv i σ H, ⟨z.cps.size, by simp, Nat.zero_le _, h0⟩, ?_⟩
  rintro i m σ H ⟨rfl, hi, p⟩
  by_cases hlt : i < z.cps.size
  · refine .inr ⟨hlt, Pv (i + 1), fun σ' H' p' => ⟨z.cps.size - (i + 1), by omega, rfl, hlt, p'⟩, fun x H' y => ?_⟩
    obtain ⟨e, c, hc, y⟩ := y
    subst e y
    exact hs i c σ _ hc p
  · have e : i = z.cps.size := by omega
    subst e
    exact .inl ⟨Nat.le_refl _, hd σ H p⟩
theorem comp_str {z : Str} {tt : TT} {te : TE} {caps : List (Str × Nat)} {σ : St} {H1 : Hp} {Q : VK} (Pv : Addr → Nat → Hp → Prop) (h0 : ∀ D, H1 D = none → Pv D 0 (upd H1 D (.lst [])))
    (hs : ∀ D i c H, H1 D = none → z.cps[i]? = some c → Pv D i H → tt (some (.str ⟨#[c]⟩) :: capSt σ caps) H fun b H2 => if b = true then
      te (some (.str ⟨#[c]⟩) :: capSt σ caps) H2 fun y H3 => ∃ acc, H3 D = some (.lst acc) ∧ acc.length < sizeLine ∧ ∃ m', m' < z.cps.size - i ∧ Wn (Pv D) z.cps.size (i + 1) m' (upd H3 D (.lst (acc ++ [y]))) else ∃ m', m' < z.cps.size - i ∧ Wn (Pv D) z.cps.size (i + 1) m' H2)
    (hd : ∀ D H, H1 D = none → Pv D z.cps.size H → Q (.ref D) H) : CompW caps tt te σ Q (Its z) H1 := by
  intro D hD
  refine ⟨Wn (Pv D) z.cps.size, ⟨z.cps.size, h0 D hD, Nat.zero_le _, rfl⟩, fun i m H ⟨p, hi, hm⟩ => ?_⟩
  subst hm
  by_cases e : i = z.cps.size
  · subst e
    exact .inl ⟨Nat.le_refl _, hd D H hD p⟩
  · have lt : i < z.cps.size := by omega
    refine .inr ⟨lt, fun x H' hy => ?_⟩
    obtain ⟨rfl, c, hc, rfl⟩ := hy
    exact hs D i c H' hD hc p
end L2

/-! EXTENSION BB: a text's signs put in another's place -/
namespace L2
open PySem PySem.Spec PyProof.Rows PySem.Builtin PySem.Builtin.Str
theorem gives_repl (x y z : Str) (t u v : Tok) (hyz : (y == z) = false) (h0 : (u == 0 || v == 0) = false) (huv : (u == v) = false)
    (hl : tooLong (x.length + (occurrences x y 0 x.length (x.length + 1)).length * z.length) = false) :
    Gives («str.replace» ⟨[.str x t, .str y u, .str z v], []⟩) (if ((occurrences x y 0 x.length (x.length + 1)).isEmpty || (y.length == 0 && z.length == 0)) = true then .val (.str x t) else .str (glued z (partsBetween x (occurrences x y 0 x.length (x.length + 1)) y.length))) := by
  show Gives (if ((occurrences x y 0 x.length (x.length + 1)).isEmpty || (y.length == 0 && z.length == 0)) = true then (do
      rule "str.replace.nothing"
      ret (.str x t)) else (do
      let one ← isSame (.str y u) (.str z v)
      if one = true then (do
        rule "str.replace.old-is-new"
        ret (.str x t)) else
      if tooLong (x.length + (occurrences x y 0 x.length (x.length + 1)).length * z.length) = true then unsupported "str.replace:memory" else
      retStr (glued z (partsBetween x (occurrences x y 0 x.length (x.length + 1)) y.length)))) _
  cases hc : ((occurrences x y 0 x.length (x.length + 1)).isEmpty || (y.length == 0 && z.length == 0))
  · rw [isSame_str_other y z u v h0 huv hyz, hl]
    exact .of_eq rfl
  · exact .rule (.of_eq rfl)
end L2
namespace L2
open PySem PySem.Spec PyProof.Rows PySem.Builtin PySem.Builtin.Str
def tRepl (K : PySem.W.Frag) (y z : Str) (to : TE) : TE := fun σ H Q => to σ H fun x H1 => tyV K "str" x H1 ∧ ∃ v, x = .str v ∧ (y == z) = false ∧ v.length + (v.length + 1) * z.length ≤ 16777216 ∧ Q (.str (Txt.replace v y z)) H1
theorem pe_replace (K : PySem.W.Frag) {X : Cx} {o : Expr} {to : TE} {y z : Str} {j1 j2 : Nat} {p1 p2 apos cpos : Pos} (pa : PlainAttrs "str") (hty : typeOf (.builtin "str.replace") = pure (.type "method_descriptor")) (ho : PE X o to) (hK : X.K = K := by rfl)
    (hbase : attributeBase o "replace" X.env (eval o X.env) = eval o X.env := by rfl)
    (hfew : ((backTo cpos (starEach [.Constant (.str y) j1 p1, .Constant (.str z) j2 p2] X.env)).all (fun x => !x.1) && (backToKw cpos (keywordEach [] X.env)).all (fun x => x.1.isSome)
      && decide (2 + ([] : List Keyword).length + (if ([] : List Keyword).isEmpty then 0 else 1) < 30)) = true := by rfl)
    (hline : (apos.endLine == cpos.line) = true := by rfl) :
    PE X (.Call (.Attribute o "replace" apos) [.Constant (.str y) j1 p1, .Constant (.str z) j2 p2] [] cpos) (tRepl K y z to) := by
  subst hK
  intro pins s σ H Q I h
  refine wpAny_Call_method_late hbase hfew hline rfl (thn (ho pins s σ H _ I h) fun v s1 ⟨x, H1, I1, r1, ty, w, e, hyz, hb, q⟩ => ?_)
  obtain ⟨h1, h2⟩ := tyV_is I1 r1 ty
  subst e
  obtain ⟨t, rfl⟩ := r1
  refine ⟨"str", "str.replace", pa, F.slot_str_replace, hty, h1, h2, ?_⟩
  refine Calls.callWith_builtin (by rfl) (Calls.evalArgs_plain ?_)
  show wpAny _ _ (spliced [(false, eval (.Constant (.str y) j1 p1) X.env), (false, eval (.Constant (.str z) j2 p2) X.env)]) _ _ s1
  refine Calls.spliced_cons (Calls.Constant_str (Calls.spliced_cons (Calls.Constant_str (Calls.spliced_nil ?_))))
  have pos : 0 < s1.toks := Nat.lt_of_lt_of_le I1.tk.1 I1.tk.2
  have h0 : (s1.toks == 0 || s1.toks + 1 == 0) = false := by simp; omega
  have huv : (s1.toks == s1.toks + 1) = false := by simp
  have hl : tooLong (w.length + (occurrences w y 0 w.length (w.length + 1)).length * z.length) = false := by
    have a := StrLaws.occ_length_le w y 0 w.length (w.length + 1)
    have b := Nat.mul_le_mul_right z.length a
    unfold tooLong sizeLine
    exact decide_eq_false (by omega)
  refine call_gives F.slot_str_replace (typeIs_str _ _ _) F.entry_str_replace (F.args_str_replace_3 _ _ _) (gives_repl w y z t _ _ hyz h0 huv hl) ?_
  unfold Txt.replace at q
  cases hc : ((occurrences w y 0 w.length (w.length + 1)).isEmpty || (y.length == 0 && z.length == 0))
  · rw [hc] at q
    simp only [Bool.false_eq_true, if_false] at q ⊢
    exact ⟨fits_replaced y hb, ⟨.str _, H1, I1.tok (s1.toks + 1 + 1 + 1) (by omega), ⟨_, rfl⟩, q⟩⟩
  · rw [hc] at q
    simp only [if_true] at q ⊢
    exact ⟨.str _, H1, I1.tok (s1.toks + 1 + 1) (by omega), ⟨_, rfl⟩, q⟩
end L2

/-! EXTENSION BC: an exception in flight of which it is known that nothing was handled when it rose -/
namespace L2
open PySem PySem.Spec PyProof.Rows
section
variable {M : Model} {A : Around} {E : Value → Shared → Prop} {s : Shared} {base : Heap} {env : Env} {outer : List Env} {L e : Addr} {Q : Unit → Shared → Prop}
/-- what an entry's laying does to a heap -/
structure Ent (l : List Addr) (e L T : Addr) (oe : Obj) (h h' : Heap) : Prop where
  new : h.get? T = none
  ne : T ≠ e
  exc : h'.get? e = some (oe.mapFields (·.setIfInBounds 1 (.ref T)))
  ent : ∃ oT ts, h'.get? T = some oT ∧ oT.data = .fields ts ∧ ts[3]? = some (rawInt L)
  keep : ∀ b o, b ≠ e → b ∉ l → h.get? b = some o → h'.get? b = some o
  slot : ∀ b o, b ≠ e → h.get? b = some o → ∃ sl, h'.get? b = some { o with slots := sl }
theorem entry2 {oe : Obj} {vs : Array Value} {head : Value} {hadNext : Bool} (hfr : A.frames = some (env :: outer)) (hl : s.heap.FunFrames base (env :: outer)) (hf : env.frame = some L)
    (he : s.heap.get? e = some oe) (hd : oe.data = .fields vs) (hsz : 1 < vs.size) (h : ∀ h' T, Ent (frs (env :: outer)) e L T oe s.heap h' → Q () { s with heap := h' }) :
    wpAny M A (do let a ← frameOf env; let pl ← entryPlaceOf L hadNext; let b ← EntryCells.newEntry head a .none (rawInt L) .none pl; setField (.ref e) 1 b) Q E s := by
  have hene : e ∉ frs (env :: outer) := fun hm => by
    obtain ⟨_, o, ho, hnf⟩ := hl.mem hm
    rw [he] at ho; cases ho; exact hnf vs hd
  refine wpAny_bind (wpAny_frameOf_fun hfr hl hf fun h1 sl => ?_)
  refine wpAny_bind (wpAny_entryPlaceOf fun pl hpl => ?_)
  unfold EntryCells.newEntry newFields
  refine wpAny_bind (wpAny_newObj_type ?_ (hpl.sizeOk5 _ _ _ _ _))
  have e1 : h1.get? e = some oe := (sl.2.1 e hene).trans he
  generalize hob : ({ cls := .type "traceback", dict := none, data := .fields ([head, .ref L, .none, rawInt L, .none] ++ (if pl.isEmpty then List.replicate 6 Value.none else pl)).toArray } : Obj) = ob
  have hT := Heap.get?_push_size h1 (o := ob) (by rw [← hob]; rfl)
  have e2 : (h1.push ob).get? e = some oe := Heap.get?_push_of_some _ e1
  have hTe : h1.objs.size ≠ e := Nat.ne_of_gt (Heap.lt_size e1)
  have hnew : s.heap.get? h1.objs.size = none := by
    cases q : s.heap.get? h1.objs.size with
    | none => rfl
    | some o =>
      obtain ⟨sl', q'⟩ := sl.2.2 _ o q
      exact absurd (Heap.lt_size q') (Nat.lt_irrefl _)
  have old : ∀ b o, b ≠ e → h1.get? b = some o → ((h1.push ob).update e (Obj.mapFields (·.setIfInBounds 1 (Value.ref h1.objs.size)))).get? b = some o := fun b o hb q => by
    rw [Heap.get?_update_other _ _ (Ne.symm hb)]; exact Heap.get?_push_of_some _ q
  refine wpAny_setField e2 hd hsz (h _ h1.objs.size ⟨hnew, hTe, ?_, ?_, fun b o hb hl' q => old b o hb ((sl.2.1 b hl').trans q), fun b o hb q => ?_⟩)
  · exact Heap.get?_update_self _ e2 (Obj.isFreed_of_fields (Obj.data_mapFields hd _))
  · refine ⟨ob, _, (Heap.get?_update_other _ _ hTe.symm).trans hT, by rw [← hob], ?_⟩
    first | (simp; done) | (rcases hpl with rfl | ⟨_, _, _, _, _, _, _, rfl⟩ <;> simp)
  · obtain ⟨sl', q'⟩ := sl.2.2 b o q
    exact ⟨sl', old b _ hb q'⟩

/-- in flight (fl: where), and field 2 of it bare -/
def Fl2 (B : Heap) (l : List Env) (e : Addr) (cls fl : Value) (h : Heap) : Prop :=
  B.StaysIn h ∧ B.get? e = none ∧ h.FunFrames B l ∧ ∃ oe vs T oT ts a0, h.get? e = some oe ∧ oe.cls = cls ∧ oe.data = .fields vs ∧ vs[0]? = some a0 ∧ vs[1]? = some (.ref T) ∧ vs[2]? = some .none ∧ B.get? T = none ∧ T ≠ e ∧
    h.get? T = some oT ∧ oT.data = .fields ts ∧ ts[3]? = some fl
theorem Fl2.flying {B h : Heap} {l : List Env} {cls : Value} (x : Fl2 B l e cls .none h) : ∃ a0, Heap.FlyingW B l e cls a0 h := by
  obtain ⟨k1, k2, k3, oe, vs, T, oT, ts, a0, q1, q2, q3, q4, q5, q6, q7, q8, q9, q10, q11⟩ := x
  exact ⟨a0, k1, k2, k3, oe, vs, T, oT, ts, q1, ⟨q2, q4⟩, q3, q5, q7, q8, q9, q10, q11⟩
theorem Fl2.tail {B h : Heap} {l : List Env} {cls fl : Value} (x : Fl2 B (env :: l) e cls fl h) : Fl2 B l e cls fl h := by
  obtain ⟨k1, k2, ⟨_, _, k3⟩, k4⟩ := x
  exact ⟨k1, k2, k3, k4⟩
theorem ent_fl2 {oe : Obj} {vs : Array Value} {T : Addr} {a0 : Value} {h h' : Heap} (x : Ent (frs (env :: outer)) e L T oe h h') (hkb : base.StaysIn h) (hen : base.get? e = none) (hl : h.FunFrames base (env :: outer)) (he : h.get? e = some oe) (hd : oe.data = .fields vs)
    (h0 : vs[0]? = some a0) (hsz : 1 < vs.size) (h2 : vs[2]? = some .none) : Fl2 base (env :: outer) e oe.cls (rawInt L) h' ∧ h.UpToSlots h' := by
  have nb : ∀ b o, base.get? b = some o → b ≠ e := fun b o q z => by rw [z, hen] at q; cases q
  have nf : ∀ b o, base.get? b = some o → b ∉ frs (env :: outer) := fun b o q z => by rw [(hl.mem z).1] at q; cases q
  have ne : ∀ b o, h.get? b = some o → (∀ ws, o.data ≠ .fields ws) → b ≠ e := fun b o q hn z => by rw [z, he] at q; cases q; exact hn vs hd
  obtain ⟨oT, ts, q1, q2, q3⟩ := x.ent
  refine ⟨⟨fun b o q => x.keep b o (nb b o q) (nf b o q) (hkb b o q), hen, hl.of_keeps fun b o q hn => ?_, _, _, T, oT, ts, a0, x.exc, Obj.cls_mapFields _ _, Obj.data_mapFields hd _, ?_, ?_, ?_, ?_, x.ne, q1, q2, q3⟩, fun b o q hn => x.slot b o (ne b o q hn) q⟩
  · obtain ⟨sl, z⟩ := x.slot b o (ne b o q hn) q
    exact ⟨_, z, rfl⟩
  · rw [Array.getElem?_setIfInBounds_ne (by decide)]; exact h0
  · simp [hsz]
  · rw [Array.getElem?_setIfInBounds_ne (by decide)]; exact h2
  · cases q : base.get? T with
    | none => rfl
    | some o => have := hkb _ _ q; rw [x.new] at this; cases this
theorem land2 {B : Heap} {l : List Env} {cls fl : Value} (x : Fl2 B l e cls fl s.heap) (h : ∀ h', Fl2 B l e cls .none h' → s.heap.UpToSlots h' → Q () { s with heap := h' }) : wpAny M A (setFlight (.ref e) none) Q E s := by
  obtain ⟨k1, k2, k3, oe, vs, T, oT, ts, a0, q1, q2, q3, q4, q5, q6, q7, q8, q9, q10, q11⟩ := x
  have hsz : 3 < ts.size := (Array.getElem?_eq_some_iff.mp q11).1
  have other : ∀ b, b ≠ T → (s.heap.update T (Obj.mapFields (·.setIfInBounds 3 Value.none))).get? b = s.heap.get? b := fun b hb => Heap.get?_update_other _ _ (Ne.symm hb)
  have nr : ∀ b o, s.heap.get? b = some o → (∀ ws, o.data ≠ .fields ws) → b ≠ T := fun b o q hn z => by rw [z, q9] at q; cases q; exact hn ts q10
  refine wpAny_setFlight_none q1 q3 q5 q9 q10 hsz (h _ ⟨fun b o q => (other b fun z => by rw [z, q7] at q; cases q).trans (k1 b o q), k2, k3.of_keeps fun b o q hn => ⟨o, (other b (nr b o q hn)).trans q, rfl⟩, oe, vs, T, _, _, a0, (other e q8.symm).trans q1, q2, q3, q4, q5, q6, q7, q8,
    Heap.get?_update_self _ q9 (Obj.isFreed_of_fields (Obj.data_mapFields q10 _)), Obj.data_mapFields q10 _, by simp [hsz]⟩ fun b o q hn => ⟨o.slots, (other b (nr b o q hn)).trans q⟩)
/-- a new exception leaves its own frame -/
theorem leave2 {oe : Obj} {vs : Array Value} {a0 : Value} (hfr : A.frames = some (env :: outer)) (hf : env.frame = some L) (hkb : base.StaysIn s.heap) (hl : s.heap.FunFrames base (env :: outer)) (hen : base.get? e = none)
    (he : s.heap.get? e = some oe) (hd : oe.data = .fields vs) (h0 : vs[0]? = some a0) (h1 : vs[1]? = some .none) (h2 : vs[2]? = some .none)
    (h : ∀ h', Fl2 base outer e oe.cls .none h' → s.heap.UpToSlots h' → Q () { s with heap := h' }) : wpAny M A (leaving env (.ref e)) Q E s := by
  have hsz := (Array.getElem?_eq_some_iff.mp h1).1
  unfold leaving noteFrame
  simp only [hf]
  refine wpAny_bind (wpAny_bind (wpAny_field he hd h1 ?_))
  rw [if_neg (by decide)]
  refine entry2 hfr hl hf he hd hsz fun h' T x => ?_
  obtain ⟨y, up⟩ := ent_fl2 x hkb hen hl he hd h0 hsz h2
  exact land2 (s := { s with heap := h' }) y fun h'' z up' => h h'' z.tail (up.trans up')
/-- one in flight is looked at in the next frame -/
theorem look2 {cls : Value} (hfr : A.frames = some (env :: outer)) (hf : env.frame = some L) (x : Fl2 base (env :: outer) e cls .none s.heap)
    (h : ∀ h', Fl2 base (env :: outer) e cls (rawInt L) h' → s.heap.UpToSlots h' → Q () { s with heap := h' }) : wpAny M A (noteFrame (.ref e) env) Q E s := by
  obtain ⟨k1, k2, k3, oe, vs, T, oT, ts, a0, q1, q2, q3, q4, q5, q6, q7, q8, q9, q10, q11⟩ := x
  have hsz : 3 < ts.size := (Array.getElem?_eq_some_iff.mp q11).1
  unfold noteFrame
  simp only [hf]
  refine wpAny_bind (wpAny_field q1 q3 q5 ?_)
  rw [if_pos (show (Value.ref T != Value.none) = true from by simp)]
  refine wpAny_bind (wpAny_field q9 q10 q11 ?_)
  rw [if_neg (show ¬ ((Value.none == rawInt L) = true) from by simp [rawInt])]
  refine wpAny_bind (wpAny_setField q9 q10 hsz ?_)
  have other : ∀ b, b ≠ T → (s.heap.update T (Obj.mapFields (·.setIfInBounds 3 Value.none))).get? b = s.heap.get? b := fun b hb => Heap.get?_update_other _ _ (Ne.symm hb)
  have nr : ∀ b o, s.heap.get? b = some o → (∀ ws, o.data ≠ .fields ws) → b ≠ T := fun b o q hn z => by rw [z, q9] at q; cases q; exact hn ts q10
  have hl2 : (s.heap.update T (Obj.mapFields (·.setIfInBounds 3 Value.none))).FunFrames base (env :: outer) := k3.of_keeps fun b o q hn => ⟨o, (other b (nr b o q hn)).trans q, rfl⟩
  refine entry2 (s := { s with heap := s.heap.update T (Obj.mapFields (·.setIfInBounds 3 Value.none)) }) hfr hl2 hf ((other e q8.symm).trans q1) q3 (Array.getElem?_eq_some_iff.mp q5).1 fun h' T' x => ?_
  obtain ⟨y, up⟩ := ent_fl2 x (fun b o q => (other b fun z => by rw [z, q7] at q; cases q).trans (k1 b o q)) k2 hl2 ((other e q8.symm).trans q1) q3 q4 (Array.getElem?_eq_some_iff.mp q5).1 q6
  rw [q2] at y
  exact h h' y fun b o q hn => up b o ((other b (nr b o q hn)).trans q) hn
end
end L2

/-! EXTENSION BD: raise C(..) from None within an except suite -/
namespace L2
open PySem PySem.Spec PyProof.Rows
theorem entry_unchain : entryFor table "proto.unchain" = some Builtin.«proto.unchain» := entryFor_of_tree (by kernel_rfl)
section
variable {prog : Program} {w : World} {A : Around} {E : Value → Shared → Prop} {s : Shared} {e a : Addr}
theorem raiseNew_chain {α : Type} {oe oa : Obj} {vs va : Array Value} {Q : α → Shared → Prop} (hh : A.handled = some (.ref a)) (hne : a ≠ e) (he : s.heap.get? e = some oe) (hd : oe.data = .fields vs) (hsz : 2 < vs.size)
    (ha : s.heap.get? a = some oa) (hda : oa.data = .fields va) (h2 : va[2]? = some .none) (h : E (.ref e) { s with heap := s.heap.update e (Obj.mapFields (·.setIfInBounds 2 (.ref a))) }) : wpAny (model prog w) A (raiseNew (.ref e) : Sem α) Q E s := by
  unfold raiseNew
  refine wpAny_bind (wpAny_handled ?_)
  rw [hh]
  dsimp only
  rw [if_pos (show (Value.ref a != Value.ref e) = true from by simp [hne])]
  refine wpAny_bind (wpAny_holding (wpAny_runValue (codeAny_builtin entry_unchain ?_)))
  unfold Builtin.«proto.unchain»
  dsimp only
  refine wpAny_bind (wpAny_field ha hda h2 ?_)
  rw [if_pos (show (Value.none == Value.none) = true from rfl)]
  refine wpAny_pure ?_
  show wpAny _ _ (do setField (.ref e) 2 (.ref a); throw (.ref e)) _ _ s
  exact wpAny_bind (wpAny_setField he hd hsz (wpAny_throw h))
end
section
variable {prog : Program} {w : World} {A : Around} {E : Value → Shared → Prop} {s : Shared} {a : Addr} {env : Env}
variable {nm q : Str} {C N : Addr} {bs bm : List Value} {hdct : Bool} {sn : List Str} {sub : List Value} {ab : Bool} {col : Option Bool} {dd : Option Addr} {k0 k1 k2 k3 k5 : Option Value} {newId : String}
theorem raise_from {x c : Sem Value} {Q : Flow → Shared → Prop} (hbase : bm.contains (.type "BaseException") = true) (hh : A.handled = some (.ref a)) (hc : ∀ (s : Shared) (Q : Value → Shared → Prop), Q .none s → wpAny (model prog w) A c Q E s)
    (h : wpAny (model prog w) A x (fun v s1 => ∃ e t oa va, v = .ref e ∧ a ≠ e ∧ s1.heap.get? C = some (excClassObj nm q C N bs bm hdct sn sub ab col dd k0 k1 k2 k3 k5 newId) ∧
      s1.heap.get? e = some { cls := .ref C, data := .fields #[.ref t, .none, .none, .none, .bool false, .none] } ∧ s1.heap.get? a = some oa ∧ oa.data = .fields va ∧ va[2]? = some .none ∧
      ∀ h', h'.get? e = some { cls := .ref C, data := .fields #[.ref t, .none, .ref a, .none, .bool true, .none] } → (∀ b o, b ≠ e → s1.heap.get? b = some o → h'.get? b = some o) → E (.ref e) { s1 with heap := h' }) E s) :
    wpAny (model prog w) A (raiseStmt env (some x) (some c)) Q E s := by
  have hcB : (Value.ref C :: bm).contains (.type "BaseException") = true := by rw [List.contains_cons, hbase, Bool.or_true]
  unfold raiseStmt
  refine wpAny_bind (wpAny_mono h (fun v s1 h1 => ?_) fun _ _ x => x)
  obtain ⟨e, t, oa, va, rfl, hne, hC, he, ha, hda, h2, hE⟩ := h1
  obtain ⟨hp, g, d, tk, os⟩ := s1
  refine wpAny_bind (wpAny_holding (hc _ _ (wpAny_bind (wpAny_pure ?_))))
  dsimp only
  have hCe : C ≠ e := fun z => by rw [z, he] at hC; simp [excClassObj] at hC
  repeat (first | with_reducible refine wpAny_loadPart_at he ?_ | with_reducible refine wpAny_loadPart_at hC ?_ | (with_reducible refine wpAny_isSubtype_exc hC ?_; rw [hcB]) | wp_step)
  have e1 := Heap.get?_update_self (Obj.mapFields (·.setIfInBounds 3 Value.none)) he rfl
  have e2 := Heap.get?_update_self (Obj.mapFields (·.setIfInBounds 4 (Value.bool true))) e1 rfl
  have oth : ∀ b o, b ≠ e → hp.get? b = some o → ((hp.update e (Obj.mapFields (·.setIfInBounds 3 Value.none))).update e (Obj.mapFields (·.setIfInBounds 4 (Value.bool true)))).get? b = some o := fun b o hb z => by
    rw [Heap.get?_update_other _ _ (Ne.symm hb), Heap.get?_update_other _ _ (Ne.symm hb)]; exact z
  refine raiseNew_chain hh hne e2 rfl (by show 2 < 6; decide) (oth a oa hne ha) hda h2 (hE _ (Heap.get?_update_self _ e2 rfl) fun b o hb z => ?_)
  rw [Heap.get?_update_other _ _ (Ne.symm hb)]
  exact oth b o hb z
end
end L2
namespace L2
open PySem PySem.Spec PyProof.Rows
section
variable {prog : Program} {w : World} {A : Around} {E : Value → Shared → Prop} {s : Shared} {env : Env}
variable {nm q : Str} {C N : Addr} {bs bm bmB : List Value} {hdct : Bool} {sn : List Str} {sub : List Value} {ab : Bool} {col : Option Bool} {dd : Option Addr} {k0 k1 k2 k3 k5 : Option Value} {B newId initId : String} {a : Addr}
theorem Raise_from_call (F : ExcBaseFacts B newId initId bmB) {mN : Str → Option Value} {x : Str} {np cpos pos kp : Pos} {kk : Nat} {args : List Expr} {Q : Flow → Shared → Prop}
    (hbase : bm.contains (.type "BaseException") = true) (hh : A.handled = some (.ref a)) (hplain : (backTo cpos (starEach args env)).any (·.1) = false) (hni : mN "__init__" = none)
    (h : wpAny (model prog w) A (eval (.Name x np) env) (fun f s1 => f = .ref C ∧ wpAny (model prog w) A (evalArgs (.ref C) true (backTo cpos (starEach args env)) [])
      (fun av s2 => av.kw = [] ∧ av.pos.length ≤ sizeLine ∧ s2.heap.get? C = some (excClassObj nm q C N bs bm hdct sn sub ab col dd k0 k1 k2 k3 k5 newId) ∧ s2.heap.Ns N mN ∧ OwnTail s2.heap bmB bm ∧
        (∃ oa va, s2.heap.get? a = some oa ∧ oa.data = .fields va ∧ va[2]? = some .none) ∧
        ∀ h' e t, s2.heap.get? e = none → (∀ b o, s2.heap.get? b = some o → h'.get? b = some o) → h'.get? e = some { cls := .ref C, data := .fields #[.ref t, .none, .ref a, .none, .bool true, .none] } → E (.ref e) { s2 with heap := h' }) E s1) E s) :
    wpAny (model prog w) A (exec (.Raise (some (.Call (.Name x np) args [] cpos)) (some (.Constant .none kk kp)) pos) env) Q E s := by
  rw [arm_exec_Raise]
  refine wpAny_bind (wpAny_standAt (raise_from (C := C) (nm := nm) (q := q) (N := N) (bs := bs) (bm := bm) (hdct := hdct) (sn := sn) (sub := sub) (ab := ab) (col := col) (dd := dd) (k0 := k0) (k1 := k1) (k2 := k2) (k3 := k3) (k5 := k5) (newId := newId) (a := a) hbase hh
    (fun s' Q' hq => wpAny_bind (wpAny_Constant_none (wpAny_bind (wpAny_standAt (wpAny_pure hq))))) (wpAny_bind (wpAny_mono (wpAny_Call_ofName (wpAny_mono h (fun f s1 h1 => ?_) fun _ _ x => x)) (fun v s3 h3 => wpAny_bind (wpAny_standAt (wpAny_pure h3))) fun _ _ x => x))))
  obtain ⟨rfl, h1⟩ := h1
  unfold callWith
  refine wpAny_bind (wpAny_holding (wpAny_mono h1 (fun av s2 h2 => wpAny_bind (wpAny_standAt ?_)) fun _ _ x => x))
  obtain ⟨apos, akw⟩ := av
  obtain ⟨hkw, hlen, hC, hn, T, ⟨oa, va, ha, hda, hv2⟩, h2⟩ := h2
  obtain rfl : akw = [] := hkw
  obtain ⟨hp, g, d, tk, os⟩ := s2
  simp only [hplain]
  refine wpAny_bind (wpAny_keeperOf_exc hC ?_)
  refine wpAny_bind (wpAny_call_exc_subT (hrest := hlen) F T hC hn hni fun h' e hm => wpAny_bind (wpAny_holding (wpAny_point (wpAny_pure ?_))))
  obtain ⟨t, ht, _, _⟩ := hm.there
  have hne : a ≠ e := fun z => by have := hm.new; rw [← z, ha] at this; cases this
  refine ⟨e, t, oa, va, rfl, hne, hm.keeps _ _ hC, ht, hm.keeps _ _ ha, hda, hv2, fun h'' x1 x2 => h2 h'' e t hm.new (fun b o z => x2 b o (fun y => ?_) (hm.keeps b o z)) x1⟩
  have := hm.new
  rw [← y, z] at this; cases this
end

/-- as CXE, and the exception's field 2 is bare -/
def CXE2 (P : Program) (w : World) : CXT := fun outer H s E e s' => ∃ (a : Addr) (cls : Value) (B : Heap) (H' : Hp), e = .ref a ∧ (s'.os = s.os ∧ s.toks ≤ s'.toks) ∧ AllBare s'.gens ∧ Un (frs outer) [] H H' s.heap s'.heap ∧ HOk P w H' s'.heap ∧ H' a = none ∧
  (∀ b u, H' b = some u → ∃ o, B.get? b = some o) ∧ (∀ b o, s.heap.get? b = some o → b ∉ frs outer → ∃ o', B.get? b = some o') ∧ Fl2 B outer a cls .none s'.heap ∧ E cls none H'
theorem CXE2.one {P : Program} {w : World} {outer : List Env} {H : Hp} {s s' : Shared} {E : XK} {e : Value} (h : CXE2 P w outer H s E e s') : CXE P w outer H s E e s' := by
  obtain ⟨a, cls, B, H', h1, h2, h3, h4, h5, h6, h7, h8, h9, h10⟩ := h
  obtain ⟨a0, fl⟩ := h9.flying
  exact ⟨a, cls, a0, B, H', h1, h2, h3, h4, h5, h6, h7, h8, fl, h10⟩
theorem FnOk.one {P : Program} {w : World} {K : PySem.W.Frag} {mg : Str → Option Value} {base : Heap} {k : Nat} {f : Addr} {fd : FuncData} {ps : List Str} {sp : Sp} (F : FnOk P w K mg base (CXE2 P w) k f fd ps sp) : FnOk P w K mg base (CXE P w) k f fd ps sp :=
  ⟨F.len, fun A outer s H args us vs Q E hr he hb hv hs => codeAny_mono (F.run A outer s H args us vs Q E hr he hb hv hs) fun r s' hq => by
    cases r with
    | error e => exact CXE2.one hq
    | ok fl => cases fl <;> exact hq⟩
section
variable {P : Program} {w : World} {K : PySem.W.Frag} {mg : Str → Option Value} {base : Heap} {N : List Str} {qual : Str} {scope : Scope} {f : Addr} {cd : Value} {A : Around} {outer : List Env} {s0 : Shared} {H0 : Hp} {E : XK}
theorem cxe2_of {CX : CXT} {pins : List (Addr × Obj)} {σ : St} {H1 : Hp} {s1 : Shared} {h2 B : Heap} {e : Addr} {cls : Value} (I : Inv (cxOf CX P w K mg base N qual scope f cd A outer s0 H0 E) pins σ H1 s1)
    (tB : ∀ b u, H1 b = some u → ∃ o, B.get? b = some o) (oB : ∀ b o, s0.heap.get? b = some o → b ∉ frs outer → ∃ o', B.get? b = some o') (st1 : ∀ b o, B.get? b = some o → s1.heap.get? b = some o)
    (up : s1.heap.UpToSlots h2) (he : H1 e = none) (fl : Fl2 B outer e cls .none h2) (q : E cls none H1) : CXE2 P w outer H0 s0 E (.ref e) { s1 with heap := h2 } := by
  have ff : ∀ b ∈ frs outer, ∃ o, s0.heap.get? b = some o ∧ H0 b = none ∧ ∀ vs, o.data ≠ .fields vs := fun b hb => by
    have z := Heap.FunFrames.mem I.ok.funs (b := b) hb
    obtain ⟨o, e1, e2⟩ := z.2
    exact ⟨o, e1, I.ok.frf b hb, e2⟩
  obtain ⟨U, ok⟩ := fly_step (h2 := h2) I.base I.hok tB oB st1 fl.1 up ff
  exact ⟨e, cls, B, H1, rfl, ⟨I.os, I.tk.2⟩, I.bare, U, ok, he, tB, oB, fl, q⟩
/-- raise C(e, ..), nothing handled -/
theorem ps_raise2 {C : Addr} {x : Str} {np cpos pos : Pos} {e : Expr} {es : List Expr} {ta : TA} (q : ExcC K C) (hg : Gl (cxOf (CXE2 P w) P w K mg base N qual scope f cd A outer s0 H0 E) x) (hm : mg x = some (.ref C))
    (ha : PA (cxOf (CXE2 P w) P w K mg base N qual scope f cd A outer s0 H0 E) (e :: es) ta) (hdb : (x == ("__debug__" : Str)) = false := by decide)
    (he : starEach (e :: es) (cxOf (CXE2 P w) P w K mg base N qual scope f cd A outer s0 H0 E).env = (false, eval e (cxOf (CXE2 P w) P w K mg base N qual scope f cd A outer s0 H0 E).env) :: starEach es (cxOf (CXE2 P w) P w K mg base N qual scope f cd A outer s0 H0 E).env := by rfl)
    (hpl : (backTo cpos (starEach es (cxOf (CXE2 P w) P w K mg base N qual scope f cd A outer s0 H0 E).env)).any (·.1) = false := by rfl) :
    PS (cxOf (CXE2 P w) P w K mg base N qual scope f cd A outer s0 H0 E) (.Raise (some (.Call (.Name x np) (e :: es) [] cpos)) none pos) (tRaise C E ta) := by
  intro pins s σ H D I h
  obtain ⟨bm, Nn, nm, qq, bs, hdct, sn, sub, ab, col, dd, k0, k1, k2, k3, k5, mN, hC, hN, hni, T⟩ := q.obj I.mod.kin
  refine wpAny_Raise_call_subT (nm := nm) (q := qq) (N := Nn) (bs := bs) (bm := bm) (hdct := hdct) (sn := sn) (sub := sub) (ab := ab) (col := col) (dd := dd) (k0 := k0) (k1 := k1) (k2 := k2) (k3 := k3) (k5 := k5)
    PySem.F.excBase_ValueError (mN := mN) (T.hasType PySem.F.excBase_ValueError.hasBase) (I.ok.hd rfl) ?_ hni (ld_glob I hg hm ⟨rfl, ?_⟩ hdb)
  · rw [he]
    show (false || (backTo cpos (starEach es _)).any (·.1)) = false
    rw [hpl]; rfl
  · have hh := ha cpos pins s σ H _ I h
    rw [he] at hh ⊢
    refine Calls.evalArgs_plain (wpAny_mono hh (fun us s1 h1 => ?_) fun _ _ y => y)
    obtain ⟨vs, H1, I1, r1, hl, qE⟩ := h1
    refine ⟨rfl, by rw [← r1.length]; exact hl, I1.bk _ _ hC, hN.keeps I1.bk, T.keeps I1.bk, fun h' e' hx => ?_⟩
    show wpAny _ _ (leaving _ (.ref e')) _ _ { s1 with heap := h' }
    have hin : ∀ env ∈ (cxOf (CXE2 P w) P w K mg base N qual scope f cd A outer s0 H0 E).stack, ∀ b, env.frame = some b → b ∈ frs (cxOf (CXE2 P w) P w K mg base N qual scope f cd A outer s0 H0 E).stack := fun env henv b hb => List.mem_filterMap.mpr ⟨env, henv, hb⟩
    have gB : ∀ b o, s1.heap.get? b = some o → b ∉ frs (cxOf (CXE2 P w) P w K mg base N qual scope f cd A outer s0 H0 E).stack → (PySem.W.hideAll s1.heap (frs (cxOf (CXE2 P w) P w K mg base N qual scope f cd A outer s0 H0 E).stack)).get? b = some o := fun b o e1 e2 => PySem.W.hideAll_get _ e1 e2
    obtain ⟨t, ht, _, _⟩ := hx.there
    have kB : ∀ b o, (PySem.W.hideAll s1.heap (frs (cxOf (CXE2 P w) P w K mg base N qual scope f cd A outer s0 H0 E).stack)).get? b = some o → s1.heap.get? b = some o := fun b o e1 => PySem.W.of_hideAll _ e1
    have hen : (PySem.W.hideAll s1.heap (frs (cxOf (CXE2 P w) P w K mg base N qual scope f cd A outer s0 H0 E).stack)).get? e' = none := by
      cases z : (PySem.W.hideAll s1.heap (frs (cxOf (CXE2 P w) P w K mg base N qual scope f cd A outer s0 H0 E).stack)).get? e' with
      | none => rfl
      | some o => have := kB _ _ z; rw [hx.new] at this; cases this
    have hn : H1 e' = none := by
      cases z : H1 e' with
      | none => rfl
      | some u =>
        obtain ⟨ob, z2⟩ := (I1.hok e' u z).obj
        rw [hx.new] at z2; cases z2
    refine leave2 (s := { s1 with heap := h' }) I1.ok.frames rfl (fun b o e1 => hx.keeps b o (kB b o e1)) ((PySem.W.funFrames_hide I1.stack hin).of_keeps fun b o e1 _ => ⟨o, hx.keeps b o e1, rfl⟩) hen ht rfl rfl rfl rfl fun h2 fl up => ?_
    have tB : ∀ b u, H1 b = some u → ∃ o, (PySem.W.hideAll s1.heap (frs (cxOf (CXE2 P w) P w K mg base N qual scope f cd A outer s0 H0 E).stack)).get? b = some o := fun b u z => by
      obtain ⟨ob, z2⟩ := (I1.hok b u z).obj
      exact ⟨ob, gB b ob z2 fun z3 => by rw [I1.stkFree b z3] at z; cases z⟩
    have I2 : Inv (cxOf (CXE2 P w) P w K mg base N qual scope f cd A outer s0 H0 E) pins σ H1 { s1 with heap := h', toks := s1.toks } := I1.kept hx.keeps
    refine cxe2_of I2 tB (fun b o e1 e2 => ?_) (fun b o e1 => hx.keeps b o (kB b o e1)) up hn fl qE
    obtain ⟨o', e3⟩ := I1.base.there b o e1 (fun z => nomatch z)
    refine ⟨o', gB b o' e3 fun z => ?_⟩
    rcases List.mem_cons.mp (I1.stkSub b z) with z | z
    · exact absurd (z ▸ Heap.lt_size e1) (Nat.not_lt.mpr I1.ok.above)
    · exact e2 z
end
end L2

/-! EXTENSION BE: try / except C: raise D(".."), from None -/
namespace L2
open PySem PySem.Spec PyProof.Rows
/-- within the try's body: what is known of an exception that leaves it -/
def Cx.tr2 (X : Cx) (pn : List (Addr × Obj)) (E : XK) : Cx := (X.tr pn E).wish fun e s' => ∃ pins σ H s, Inv { X with pn := pn } pins σ H s ∧ CXE2 X.prog X.w X.stack H s E e s'
theorem passT2 {X : Cx} {pn : List (Addr × Obj)} {E E' : XK} (h : ∀ c d H', E' c d H' → E c d H') : Passes (CXE2 X.prog X.w) (X.tr2 pn E) E' := by
  intro pins σ H s e s' I hx
  obtain ⟨a, cls, B, H', rfl, os, bare, U, hok, ha, tB, oB, fl, q⟩ := hx
  have I' : Inv (X.tr pn E) pins σ H s := I.unwish
  exact ⟨pins, σ, H, s, I'.trPn (tr_ok I'), a, cls, B, H', rfl, os, bare, U, hok, ha, tB, oB, fl, h _ _ _ q⟩
def tTry0 (K : PySem.W.Frag) (C C2 : Addr) (E' E : XK) (tb : TS) : TS := fun D σ H => tb D σ H ∧ ∀ cls d H', E' cls d H' → ∃ C', cls = .ref C' ∧ PySem.W.mroIn K C' (.ref C) = some true ∧ ∀ a, H' a = none → E (.ref C2) none (upd H' a (exO a C'))
section
variable {P : Program} {w : World} {K : PySem.W.Frag} {mg : Str → Option Value} {base : Heap} {N : List Str} {qual : Str} {scope : Scope} {f : Addr} {cd : Value} {A : Around} {outer : List Env} {s0 : Shared} {H0 : Hp} {E E' : XK}
  {body : List Stmt} {x x2 : Str} {lit : Str} {np hpos pos np2 cpos rpos lp kp : Pos} {jj kk : Nat} {tb : TS} {C C2 : Addr}
theorem ps_try0 (hg : Gl (cxOf (CXE P w) P w K mg base N qual scope f cd A outer s0 H0 E) x) (hm : mg x = some (.ref C)) (qC : ExcC K C) (m1 : PySem.W.mroIn K C (.type "BaseException") = some true)
    (hg2 : Gl (cxOf (CXE P w) P w K mg base N qual scope f cd A outer s0 H0 E) x2) (hm2 : mg x2 = some (.ref C2)) (qC2 : ExcC K C2)
    (hb : ∀ pn, PSs ((cxOf (CXE P w) P w K mg base N qual scope f cd A outer s0 H0 E).tr2 pn E') body tb) (hdb : (x == ("__debug__" : Str)) = false := by decide) (hdb2 : (x2 == ("__debug__" : Str)) = false := by decide) :
    PS (cxOf (CXE P w) P w K mg base N qual scope f cd A outer s0 H0 E)
      (.Try body [.ExceptHandler (some (.Name x np)) none [.Raise (some (.Call (.Name x2 np2) [.Constant (.str lit) jj lp] [] cpos)) (some (.Constant .none kk kp)) rpos] hpos] [] [] pos) (tTry0 K C C2 E' E tb) := by
  generalize hX : cxOf (CXE P w) P w K mg base N qual scope f cd A outer s0 H0 E = X at *
  intro pins s σ H D I h
  obtain ⟨hbody, hexc⟩ := h
  have ok := I.ok
  have hst : X.stack = X.env :: X.outer := by rw [← hX]; rfl
  have hfr : X.env.frame = some X.env.locals := by rw [← hX]; rfl
  have eK : X.K = K := by rw [← hX]; rfl
  have eP : X.prog = P := by rw [← hX]; rfl
  have ew : X.w = w := by rw [← hX]; rfl
  have em : X.mg = mg := by rw [← hX]; rfl
  have eo : X.outer = outer := by rw [← hX]; rfl
  have es : X.s₀ = s0 := by rw [← hX]; rfl
  have hex : X.ex = [] := by rw [← hX]; rfl
  have hp : ∀ hd, PassesOwnAt (model P w) (X.A.mark hd) X.A X.env X.xe := fun hd => by rw [← hX]; exact PassesOwnAt.leaving
  have hxe : ∀ e' s', wpAny (model P w) X.A (leaving X.env e') (fun _ s'' => CXE P w outer H0 s0 E e' s'') (fun e'' s'' => CXE P w outer H0 s0 E e'' s'') s' → X.xe e' s' := fun e' s' z => by rw [← hX] at z ⊢; exact z
  have cx := @cxe_of P w K mg base N qual scope f cd A outer s0 H0 E
  rw [hX] at cx
  clear hX
  subst eK eP ew em eo es
  refine wpAny_Try_except (wpAny_mono (hb (X.pn ++ pins) [] s σ H D (I.toTr.wish _) hbody) (fun fl s1 q => ?_) fun e s1 q => ?_)
  · cases fl with
    | next => obtain ⟨σ', H', I', q⟩ := q; exact wpAny_execs_nil ⟨σ', H', I'.unwish.ofTr ok, q⟩
    | brk => obtain ⟨σ', H', I', q⟩ := q; exact ⟨σ', H', I'.unwish.ofTr ok, q⟩
    | cont => obtain ⟨σ', H', I', q⟩ := q; exact ⟨σ', H', I'.unwish.ofTr ok, q⟩
    | ret v => obtain ⟨u, σ', H', I', r, q⟩ := q; exact ⟨u, σ', H', I'.unwish.ofTr ok, r, q⟩
  · obtain ⟨pins', σ', H', sc, Ic, a, cls, B, H1, rfl, ⟨os, htk⟩, bare, U, hok, ha, tB, oB, fl, qE⟩ := q
    obtain ⟨C', rfl, m2, hts⟩ := hexc cls none H1 qE
    have ff : ∀ b ∈ frs X.stack, ∃ o, sc.heap.get? b = some o ∧ H' b = none ∧ ∀ vs, o.data ≠ .fields vs := fun b hb' => by
      have z := Heap.FunFrames.mem Ic.stack (b := b) hb'
      obtain ⟨o, e1, e2⟩ := z.2
      exact ⟨o, e1, Ic.stkFree b hb', e2⟩
    have mkI : ∀ h2 : Heap, Fl2 B X.stack a (.ref C') .none h2 → s1.heap.UpToSlots h2 → Inv (X.hdl (X.pn ++ pins) a) pins' σ' (upd H1 a (exO a C')) { s1 with heap := h2 } := fun h2 fl2 up => by
      obtain ⟨U2, ok2⟩ := fly_step (h2 := h2) U hok tB oB fl.1 fl2.1 up ff
      obtain ⟨a0, fw⟩ := fl2.flying
      obtain ⟨oe, vs, e1, e2, e3, _⟩ := fw.first
      have hnew : ∀ o, sc.heap.get? a ≠ some o := fun o e => by
        by_cases hf : a ∈ frs X.stack
        · obtain ⟨o', e4, hn', hd⟩ := ff a hf
          obtain ⟨sl, e5⟩ := U2.slot a o' e4 hn' hf (fun z => nomatch z)
          rw [e1] at e5; cases e5
          exact hd vs e3
        · obtain ⟨o', e4⟩ := oB a o e hf
          rw [fl2.2.1] at e4; cases e4
      have lt : ∀ {b u}, H1 b = some u → b ≠ a := fun e z => by rw [z, ha] at e; cases e
      have U3 : Un (frs X.stack) [] H' (upd H1 a (exO a C')) sc.heap h2 :=
        { keep := U2.keep, slot := U2.slot
          free := fun b o e q hx => by rw [upd_ne (fun z => hnew o (by rw [← z]; exact e))]; exact U2.free b o e q hx
          there := U2.there
          tups := fun b xs e => by have z := U2.tups b xs e; rw [upd_ne (lt z)]; exact z
          frzs := fun b o u e => by have z := U2.frzs b o u e; rw [upd_ne (lt z)]; exact z
          tbls := fun b ps e => by obtain ⟨more, z⟩ := U2.tbls b ps e; exact ⟨more, by rw [upd_ne (lt z)]; exact z⟩ }
      have ok3 : HOk X.prog X.w (upd H1 a (exO a C')) h2 := fun b u e => by
        by_cases hb' : b = a
        · subst hb'
          rw [upd_same] at e; cases e
          exact ⟨⟨oe, vs, e1, e2, e3⟩, ⟨oe, e1⟩, fun g1 g2 ⟨o, ws, q1, q2, q3⟩ kk => ⟨o, ws, kk o q1, q2, q3⟩⟩
        · rw [upd_ne hb'] at e
          exact (ok2 b u e).stay (fun c v _ q => q) (fun c hc => by rw [upd_ne (lt hc)]; exact hc) fun c xs hc => by rw [upd_ne (lt hc)]; exact hc
      exact (Ic.call' (ch := []) (s' := { s1 with heap := h2 }) os U3 ok3 bare (fun b hb' => nomatch hb') htk).toHdl ok
    have fl' := fl
    rw [hst] at fl'
    refine look2 (hst ▸ ok.frames) hfr fl' fun h4 held up4 => ?_
    refine land2 (s := { s1 with heap := h4 }) held fun h5 fl5 up5 => ?_
    rw [← hst] at fl5
    have I5 := mkI h5 fl5 (up4.trans up5)
    obtain ⟨ob, hob, hobc⟩ : ∃ ob, h5.get? a = some ob ∧ ob.cls = .ref C' := by
      obtain ⟨a0, fw⟩ := fl5.flying
      exact fw.there
    refine wpAny_handleBy_cons (codeAny_handlers_test (ld_glob I5 hg hm ?_ hdb)) (by intro q; cases q)
    refine excMatches_own I5.kIn qC hob hobc m1 m2 (codeAny_handlers_suite ?_)
    refine land2 (s := { s1 with heap := h5 }) fl5 fun h6 fl6 up6 => ?_
    have I6 := mkI h6 fl6 ((up4.trans up5).trans up6)
    obtain ⟨bm, Nn, nm, qq, bs, hdct, sn, sub, ab, col, dd, k0, k1, k2, k3, k5, mN, hC, hN, hni, T⟩ := qC2.obj I6.mod.kin
    refine wpAny_execs_cons (wpAny_mono (Q := fun _ _ => False) (E := X.xe) ?_ (fun _ _ z => z.elim) (fun e' s' z => hp _ e' s' z))
    refine Raise_from_call (nm := nm) (q := qq) (N := Nn) (bs := bs) (bm := bm) (hdct := hdct) (sn := sn) (sub := sub) (ab := ab) (col := col) (dd := dd) (k0 := k0) (k1 := k1) (k2 := k2) (k3 := k3) (k5 := k5) (a := a)
      PySem.F.excBase_ValueError (mN := mN) (T.hasType PySem.F.excBase_ValueError.hasBase) rfl rfl hni (ld_glob I6 hg2 hm2 ⟨rfl, ?_⟩ hdb2)
    refine Calls.evalArgs_plain ?_
    show wpAny _ _ (spliced [(false, eval (.Constant (.str lit) jj lp) X.env)]) _ _ _
    refine Calls.spliced_cons (Calls.Constant_str (Calls.spliced_nil ?_))
    have I7 : Inv X pins σ' (upd H1 a (exO a C')) { s1 with heap := h6 } := I6.ofHdl ok
    have I8 : Inv X pins σ' (upd H1 a (exO a C')) { s1 with heap := h6, toks := s1.toks + 1 } := I7.tok (s1.toks + 1) (Nat.le_succ _)
    obtain ⟨_, _, _, oe, vs, _, _, _, _, z1, _, z3, _, _, z6, _⟩ := id fl6
    refine ⟨rfl, (by decide : 1 ≤ sizeLine), I8.bk _ _ hC, hN.keeps I8.bk, T.keeps I8.bk, ⟨oe, vs, z1, z3, z6⟩, fun h' e' t hnew hk he' => hxe _ _ ?_⟩
    have hnew : h6.get? e' = none := hnew
    have hk : ∀ b o, h6.get? b = some o → h'.get? b = some o := hk
    have hin : ∀ env ∈ X.stack, ∀ b, env.frame = some b → b ∈ frs X.stack := fun env henv b hb => List.mem_filterMap.mpr ⟨env, henv, hb⟩
    have gB : ∀ b o, h6.get? b = some o → b ∉ frs X.stack → (PySem.W.hideAll h6 (frs X.stack)).get? b = some o := fun b o e1 e2 => PySem.W.hideAll_get _ e1 e2
    have kB : ∀ b o, (PySem.W.hideAll h6 (frs X.stack)).get? b = some o → h6.get? b = some o := fun b o e1 => PySem.W.of_hideAll _ e1
    have hen : (PySem.W.hideAll h6 (frs X.stack)).get? e' = none := by
      cases z : (PySem.W.hideAll h6 (frs X.stack)).get? e' with
      | none => rfl
      | some o => have := kB _ _ z; rw [hnew] at this; cases this
    have hn : upd H1 a (exO a C') e' = none := by
      cases z : upd H1 a (exO a C') e' with
      | none => rfl
      | some u =>
        obtain ⟨ob, z2⟩ := (I8.hok e' u z).obj
        have z2 : h6.get? e' = some ob := z2
        rw [hnew] at z2; cases z2
    have tB' : ∀ b u, upd H1 a (exO a C') b = some u → ∃ o, (PySem.W.hideAll h6 (frs X.stack)).get? b = some o := fun b u z => by
      obtain ⟨ob, z2⟩ := (I8.hok b u z).obj
      exact ⟨ob, gB b ob z2 fun z3 => by rw [I8.stkFree b z3] at z; cases z⟩
    have I9 : Inv X pins σ' (upd H1 a (exO a C')) { s1 with heap := h', toks := s1.toks + 1 } := I8.kept hk
    have hl : h6.FunFrames (PySem.W.hideAll h6 (frs X.stack)) X.stack := PySem.W.funFrames_hide I8.stack hin
    refine wpAny_leaving_firstW (s := { s1 with heap := h', toks := s1.toks + 1 }) (base := PySem.W.hideAll h6 (frs X.stack)) (a0 := .ref t) (hst ▸ ok.frames) (by rw [← hst]; exact hl.of_keeps fun b o e1 _ => ⟨o, hk b o e1, rfl⟩) hfr he' (fun b o e1 => hk b o (kB b o e1)) hen rfl rfl rfl fun h2 hL => ?_
    obtain ⟨y1, ⟨_, _, y2⟩, y3, y4⟩ := hL
    refine cx I9 tB' (fun b o e1 e2 => ?_) (fun b o e1 => hk b o (kB b o e1)) y4 hn ⟨y1, hen, y2, y3⟩ (hts a ha)
    obtain ⟨o', e3⟩ := I8.base.there b o e1 (fun z => by rw [hex] at z; cases z)
    refine ⟨o', gB b o' e3 fun z => ?_⟩
    rcases List.mem_cons.mp (I8.stkSub b z) with z | z
    · exact absurd (z ▸ Heap.lt_size e1) (Nat.not_lt.mpr I8.ok.above)
    · exact e2 z
end
end L2

/-! EXTENSION BF: a call that may raise within a list comprehension -/
namespace L2
open PySem PySem.Spec PyProof.Rows
theorem funFrames_to {h h' B B' : Heap} (hb : ∀ b, B.get? b = none → B'.get? b = none) : ∀ {l : List Env}, h.FunFrames B l → (∀ b ∈ frs l, ∀ o, h.get? b = some o → (∀ vs, o.data ≠ .fields vs) → ∃ o', h'.get? b = some o' ∧ o'.data = o.data) → h'.FunFrames B' l
  | [], _, _ => trivial
  | env :: l, ⟨k1, ⟨L, o, f1, f2, f3, f4⟩, k3⟩, k => by
    have mem : L ∈ frs (env :: l) := List.mem_filterMap.mpr ⟨env, List.mem_cons_self, f1⟩
    obtain ⟨o', q1, q2⟩ := k L mem o f3 f4
    refine ⟨k1, ⟨L, o', f1, hb L f2, q1, by rw [q2]; exact f4⟩, funFrames_to hb k3 fun b hb' => k b ?_⟩
    obtain ⟨env', m1, m2⟩ := List.mem_filterMap.mp hb'
    exact List.mem_filterMap.mpr ⟨env', List.mem_cons_of_mem _ m1, m2⟩
theorem fly_stepF {P : Program} {w : World} {fs : List Addr} {H H1 : Hp} {h h1 h2 B : Heap} (U : Un fs [] H H1 h h1) (ok : HOk P w H1 h1) (tB : ∀ b u, H1 b = some u → ∃ o, B.get? b = some o)
    (oB : ∀ b o, h.get? b = some o → b ∉ fs → ∃ o', B.get? b = some o') (st1 : ∀ b o, B.get? b = some o → h1.get? b = some o) (st2 : ∀ b o, B.get? b = some o → h2.get? b = some o)
    (up : ∀ b ∈ fs, ∀ o, h1.get? b = some o → (∀ vs, o.data ≠ .fields vs) → ∃ sl, h2.get? b = some { o with slots := sl })
    (ff : ∀ b ∈ fs, ∃ o, h.get? b = some o ∧ H b = none ∧ ∀ vs, o.data ≠ .fields vs) : Un fs [] H H1 h h2 ∧ HOk P w H1 h2 := by
  have inB : ∀ b o, h1.get? b = some o → (∃ o', B.get? b = some o') → h2.get? b = some o := fun b o e ⟨o', q⟩ => by
    have z := st1 b o' q
    rw [e] at z; cases z
    exact st2 b o q
  have nx : ∀ b, b ∉ ([] : List Addr) := fun b hb => nomatch hb
  have slotF : ∀ b ∈ fs, ∀ o, h.get? b = some o → ∃ sl, h2.get? b = some { o with slots := sl } := fun b hb o e => by
    obtain ⟨o', e', hn, hd⟩ := ff b hb
    rw [e] at e'; cases e'
    obtain ⟨sl, q⟩ := U.slot b o e hn hb (nx b)
    obtain ⟨sl2, q2⟩ := up b hb _ q hd
    exact ⟨sl2, q2⟩
  refine ⟨⟨fun b o e hn hb hx => inB b o (U.keep b o e hn hb hx) (oB b o e hb), fun b o e _ hb _ => slotF b hb o e, U.free, fun b o e hx => ?_, U.tups, U.frzs, U.tbls⟩, fun b u e => ?_⟩
  · by_cases hb : b ∈ fs
    · obtain ⟨sl, q⟩ := slotF b hb o e
      exact ⟨_, q⟩
    · obtain ⟨o', q⟩ := U.there b o e hx
      exact ⟨o', inB b o' q (oB b o e hb)⟩
  · refine (ok b u e).stay (fun c v hc q => inB c v q ?_) (fun c hc => hc) fun c xs hc => hc
    rcases hc with rfl | hc
    · exact tB _ _ e
    · exact tB _ _ hc
section
variable {P : Program} {w : World} {K : PySem.W.Frag} {mg : Str → Option Value} {base : Heap} {N : List Str} {qual : Str} {scope : Scope} {f : Addr} {cd : Value} {A : Around} {outer : List Env} {s0 : Shared} {H0 : Hp} {E : XK}
theorem cxe_ofF {pins : List (Addr × Obj)} {σ : St} {H1 : Hp} {s1 : Shared} {h2 B : Heap} {e : Addr} {cls a0 : Value} (I : Inv (cxOf (CXE P w) P w K mg base N qual scope f cd A outer s0 H0 E) pins σ H1 s1)
    (tB : ∀ b u, H1 b = some u → ∃ o, B.get? b = some o) (oB : ∀ b o, s0.heap.get? b = some o → b ∉ frs outer → ∃ o', B.get? b = some o') (st1 : ∀ b o, B.get? b = some o → s1.heap.get? b = some o)
    (up : ∀ b ∈ frs outer, ∀ o, s1.heap.get? b = some o → (∀ vs, o.data ≠ .fields vs) → ∃ sl, h2.get? b = some { o with slots := sl }) (he : H1 e = none) (fl : Heap.FlyingW B outer e cls a0 h2) (q : E cls none H1) : CXE P w outer H0 s0 E (.ref e) { s1 with heap := h2 } := by
  have ff : ∀ b ∈ frs outer, ∃ o, s0.heap.get? b = some o ∧ H0 b = none ∧ ∀ vs, o.data ≠ .fields vs := fun b hb => by
    have z := Heap.FunFrames.mem I.ok.funs (b := b) hb
    obtain ⟨o, e1, e2⟩ := z.2
    exact ⟨o, e1, I.ok.frf b hb, e2⟩
  obtain ⟨U, ok⟩ := fly_stepF (h2 := h2) I.base I.hok tB oB st1 fl.1 up ff
  exact ⟨e, cls, a0, B, H1, rfl, ⟨I.os, I.tk.2⟩, I.bare, U, ok, he, tB, oB, fl, q⟩

/-- an exception that the block's names let go: it lies behind the call -/
theorem comp_err {use : Option (Value → Sem Unit)} {Q : Value → Shared → Prop} {acc : Value} {cs : Scope} {cl : List (Str × Addr)} {C a : Addr} {m : Str → Option Value} {cls a0 : Value} {B : Heap} {pins : List (Addr × Obj)} {σ : St} {H1 : Hp} {s1 : Shared}
    (I : Inv (cxOf (CXE P w) P w K mg base N qual scope f cd A outer s0 H0 E) pins σ H1 s1) (hC : s1.heap.Ns C m) (hC0 : H1 C = none) (hCs : s0.heap.objs.size ≤ C) (hCf : C ∉ frs (cxOf (CXE P w) P w K mg base N qual scope f cd A outer s0 H0 E).stack)
    (tB : ∀ b u, H1 b = some u → ∃ o, B.get? b = some o) (oB : ∀ b o, s0.heap.get? b = some o → b ∉ frs outer → ∃ o', B.get? b = some o') (ha : H1 a = none)
    (fl : Heap.FlyingW B (cxOf (CXE P w) P w K mg base N qual scope f cd A outer s0 H0 E).stack a cls a0 s1.heap) (q : E cls none H1) :
    notedBy (model P w) (cxOf (CXE P w) P w K mg base N qual scope f cd A outer s0 H0 E).A (compEnvC cs cl C (cxOf (CXE P w) P w K mg base N qual scope f cd A outer s0 H0 E).env)
      (fun e s'' => compPost (model P w) (cxOf (CXE P w) P w K mg base N qual scope f cd A outer s0 H0 E).A (cxOf (CXE P w) P w K mg base N qual scope f cd A outer s0 H0 E).xe use Q acc C (.error e) s'') (.ref a) s1 := by
  have cx := @cxe_ofF P w K mg base N qual scope f cd A outer s0 H0 E
  have hxe : ∀ e' s', wpAny (model P w) (cxOf (CXE P w) P w K mg base N qual scope f cd A outer s0 H0 E).A (leaving (cxOf (CXE P w) P w K mg base N qual scope f cd A outer s0 H0 E).env e') (fun _ s'' => CXE P w outer H0 s0 E e' s'') (fun e'' s'' => CXE P w outer H0 s0 E e'' s'') s' →
    (cxOf (CXE P w) P w K mg base N qual scope f cd A outer s0 H0 E).xe e' s' := fun e' s' z => z
  have hst : (cxOf (CXE P w) P w K mg base N qual scope f cd A outer s0 H0 E).stack = (cxOf (CXE P w) P w K mg base N qual scope f cd A outer s0 H0 E).env :: outer := rfl
  have hfr : (cxOf (CXE P w) P w K mg base N qual scope f cd A outer s0 H0 E).env.frame = some (cxOf (CXE P w) P w K mg base N qual scope f cd A outer s0 H0 E).env.locals := rfl
  generalize cxOf (CXE P w) P w K mg base N qual scope f cd A outer s0 H0 E = X at *
  have ok := I.ok
  have hfrm : X.A.frames = some (X.env :: outer) := hst ▸ ok.frames
  have fl' := fl
  rw [hst] at fl'
  show wpAny (model P w) X.A (noteFrame (.ref a) X.env) _ _ s1
  refine wpAny_looks_onW hfrm hfr fl' fun h4 held up4 => ?_
  have main : ∃ m, h4.Ns C m ∧ ∀ h5, Heap.SameBut C h4 h5 → ∀ cenv : Env, cenv.locals = C → wpAny (model P w) X.A (PySem.passOn "comprehension.variables-let-go" (.ref a) cenv : Sem Value) (fun _ _ => False) X.xe { s1 with heap := h5 } := by
    refine ⟨m, up4.ns hC, fun h5 sb cenv _ => ?_⟩
    obtain ⟨k1, k2, k3, oe, vs, T, oT, ts, q1, ⟨q2, q2'⟩, q3, q4, q5, q6, q7, q8, q9⟩ := held
    have hC4 := up4.ns hC
    have notC : ∀ b o ws, h4.get? b = some o → o.data = .fields ws → b ≠ C := fun b o ws e1 e2 z => by
      obtain ⟨o', es, ep, e3, e4, _⟩ := hC4
      rw [z, e3] at e1; cases e1
      rw [e4] at e2; cases e2
    have aC := notC a oe vs q1 q3
    have TC := notC T oT ts q7 q8
    have sb' : ∀ b o, b ≠ C → h4.get? b = some o → h5.get? b = some o := fun b o hb e1 => (sb.2 b hb).trans e1
    have q1' := sb' a oe aC q1
    have q7' := sb' T oT TC q7
    have h3 : 3 < ts.size := (Array.getElem?_eq_some_iff.mp q9).1
    unfold PySem.passOn
    refine wpAny_bind (wpAny_field q1' q3 q4 ?_)
    rw [if_neg (show ¬ ((Value.ref T == Value.none) = true) from by simp)]
    unfold setFlight
    refine wpAny_bind (wpAny_bind (wpAny_field q1' q3 q4 ?_))
    rw [if_pos (show (Value.ref T != Value.none) = true from by simp)]
    refine wpAny_setField q7' q8 h3 (wpAny_throw (hxe _ _ ?_))
    generalize (cenv.frame.elim Value.none fun f => rawInt f) = v
    -- the heap with the flight's mark v; B' : B without C
    have oth : ∀ b, b ≠ T → (h5.update T (Obj.mapFields (·.setIfInBounds 3 v))).get? b = h5.get? b := fun b hb => Heap.get?_update_other _ _ (Ne.symm hb)
    have T6 := Heap.get?_update_self (Obj.mapFields (·.setIfInBounds 3 v)) q7' (Obj.isFreed_of_fields (Obj.data_mapFields q8 _))
    have dT6 := Obj.data_mapFields q8 (·.setIfInBounds 3 v)
    generalize hh6 : h5.update T (Obj.mapFields (·.setIfInBounds 3 v)) = h6 at *
    have a6 : h6.get? a = some oe := (oth a q6.symm).trans q1'
    have v6 : (ts.setIfInBounds 3 v)[3]? = some v := by simp [h3]
    have B'sub : ∀ b o, (PySem.W.hideAll B [C]).get? b = some o → B.get? b = some o ∧ b ≠ C := fun b o z => ⟨PySem.W.of_hideAll _ z, fun y => by rw [y, PySem.W.hideAll_none [C] List.mem_cons_self] at z; cases z⟩
    have B'none : ∀ b, B.get? b = none → (PySem.W.hideAll B [C]).get? b = none := fun b z => by
      cases y : (PySem.W.hideAll B [C]).get? b with
      | none => rfl
      | some o => rw [(B'sub b o y).1] at z; cases z
    have B'in : ∀ b o, B.get? b = some o → b ≠ C → (PySem.W.hideAll B [C]).get? b = some o := fun b o z y => PySem.W.hideAll_get _ z (by simpa using y)
    have B's6 : (PySem.W.hideAll B [C]).StaysIn h6 := fun b o z => by
      obtain ⟨z1, z2⟩ := B'sub b o z
      rw [oth b (fun y => by rw [y, q5] at z1; cases z1)]
      exact sb' b o z2 (k1 b o z1)
    have f6 : ∀ b ∈ frs X.stack, ∀ o, h4.get? b = some o → (∀ ws, o.data ≠ .fields ws) → h6.get? b = some o := fun b hb o e1 e2 => by
      rw [oth b (fun y => by rw [y, q7] at e1; cases e1; exact e2 ts q8)]
      exact sb' b o (fun y => hCf (y ▸ hb)) e1
    have F6 : h6.FunFrames (PySem.W.hideAll B [C]) (X.env :: outer) := funFrames_to B'none k3 fun b hb o e1 e2 => ⟨o, f6 b (hst ▸ hb) o e1 e2, rfl⟩
    have fin : ∀ h7, Heap.FlyingW (PySem.W.hideAll B [C]) outer a cls a0 h7 → h6.UpToSlots h7 → CXE P w outer H0 s0 E (.ref a) { s1 with heap := h7 } := fun h7 fl7 up7 => by
      refine cx I (fun b u z => ?_) (fun b o z1 z2 => ?_) (fun b o z => fl.1 b o (B'sub b o z).1) (fun b hb o e1 e2 => ?_) ha fl7 q
      · obtain ⟨o, z'⟩ := tB b u z
        exact ⟨o, B'in b o z' fun y => by rw [y, hC0] at z; cases z⟩
      · obtain ⟨o', z'⟩ := oB b o z1 z2
        exact ⟨o', B'in b o' z' fun y => absurd (y ▸ Heap.lt_size z1) (Nat.not_lt.mpr hCs)⟩
      · obtain ⟨sl, e3⟩ := up4 b o e1 e2
        have hb' : b ∈ frs X.stack := by
          rw [hst]
          obtain ⟨env', m1, m2⟩ := List.mem_filterMap.mp hb
          exact List.mem_filterMap.mpr ⟨env', List.mem_cons_of_mem _ m1, m2⟩
        obtain ⟨sl', e4⟩ := up7 b _ (f6 b hb' _ e3 e2) e2
        exact ⟨sl', e4⟩
    by_cases hv : v = rawInt X.env.locals
    · subst hv
      have hh : Heap.HeldW (PySem.W.hideAll B [C]) (X.env :: outer) a cls a0 X.env.locals h6 := ⟨B's6, B'none a k2, F6, oe, vs, T, _, _, a6, ⟨q2, q2'⟩, q3, q4, B'none T q5, q6, T6, dT6, v6⟩
      unfold leaving
      refine wpAny_bind (wpAny_noteFrame_againW (s := { s1 with heap := h6 }) hfr hh.2.2.2 ?_)
      refine wpAny_landsW (s := { s1 with heap := h6 }) hh fun h7 fl7 up7 => ?_
      obtain ⟨y1, y2, ⟨_, _, y3⟩, y4⟩ := fl7
      exact fin h7 ⟨y1, y2, y3, y4⟩ up7
    · unfold leaving noteFrame
      simp only [hfr]
      refine wpAny_bind (wpAny_bind (wpAny_field (s := { s1 with heap := h6 }) a6 q3 q4 ?_))
      rw [if_pos (show (Value.ref T != Value.none) = true from by simp)]
      refine wpAny_bind (wpAny_field (s := { s1 with heap := h6 }) T6 dT6 v6 ?_)
      rw [if_neg (show ¬ ((v == rawInt X.env.locals) = true) from by simpa using hv)]
      refine wpAny_bind (wpAny_setField (s := { s1 with heap := h6 }) T6 dT6 (by simpa using h3) ?_)
      have oth' : ∀ b, b ≠ T → (h6.update T (Obj.mapFields (·.setIfInBounds 3 Value.none))).get? b = h6.get? b := fun b hb => Heap.get?_update_other _ _ (Ne.symm hb)
      have nr : ∀ b o, h6.get? b = some o → (∀ ws, o.data ≠ .fields ws) → b ≠ T := fun b o z hn y => by rw [y, T6] at z; cases z; exact hn _ dT6
      refine wpAny_newEntryW (s := { s1 with heap := h6.update T (Obj.mapFields (·.setIfInBounds 3 Value.none)) }) (base := PySem.W.hideAll B [C]) hfrm (F6.of_keeps fun b o z hn => ⟨o, (oth' b (nr b o z hn)).trans z, rfl⟩) hfr ((oth' a q6.symm).trans a6)
        (fun b o z => (oth' b fun y => by rw [y, B'none T q5] at z; cases z).trans (B's6 b o z)) (B'none a k2) q3 (Array.getElem?_eq_some_iff.mp q4).1 q2' fun h7 hL => ?_
      obtain ⟨y1, ⟨_, _, y2⟩, y3, y4⟩ := hL
      rw [q2] at y3
      exact fin h7 ⟨y1, B'none a k2, y2, y3⟩ fun b o z hn => y4 b o ((oth' b (nr b o z hn)).trans z) hn
  cases use <;> exact main
end
end L2

/-! EXTENSION BG: name = [.. for .. in ..] whose block may raise -/
namespace L2
open PySem PySem.Spec PyProof.Rows
section
variable {prog : Program} {w : World} {A : Around} {R : Result → Shared → Prop} {s : Shared}
theorem compLoop_anyX {elt target iter : Expr} {ifs : List Expr} {scope : Scope} {pos : Pos} {it acc : Value} {env : Env} (G : Value → Shared → Prop) (hG : ∀ x s', G x s' → notedBy (model prog w) A env (fun e s'' => R (.error e) s'') x s') (I : Nat → Shared → Prop)
    (turn : ∀ n s, I n s → wpAny (model prog w) A (pyNext it) (fun r s₁ => match r with
      | none => R (.ok .next) s₁
      | some v => wpAny (model prog w) A (letOwnedTupleGo target it v) (fun _ s₁' => wpAny (model prog w) A (assign target env v) (fun _ s₂ =>
          wpAny (model prog w) A (forIn ifs true fun c r => if r = true then do let ok ← isTrue c env (eval c env); pure (ForInStep.yield ok) else pure (ForInStep.yield r)) (fun ok s₃ =>
            if ok = true then wpAny (model prog w) A (eval elt env) (fun x s₄ =>
              wpAny (model prog w) A (call (.builtin "list.append") [acc, x]) (fun _ s₅ => ∃ m, m < n ∧ I m s₅) G s₄) G s₃
            else ∃ m, m < n ∧ I m s₃) G s₂) G s₁') G s₁) G s)
    (n : Nat) (h : I n s) :
    codeAny (model prog w) A (.compLoop (.ListComp elt [⟨target, iter, ifs, 0⟩] scope pos) 0 it acc env) R s := by
  refine codeAny_loop rfl I (fun n s hI => ?_) n h
  show wpAny _ A ((compTurn (.ListComp elt [⟨target, iter, ifs, 0⟩] scope pos) 0 it acc env).onRaise (fun x => do noteFrame x env; theTreesLotGoes x)) _ _ s
  refine wpAny_noted ?_
  rw [compTurn_list]
  refine wpAny_bind (wpAny_standAt (wpAny_bind (wpAny_mono (turn n s hI) (fun r s₁ h₁ => ?_) hG)))
  cases r with
  | none => exact wpAny_pure h₁
  | some v =>
    refine wpAny_bind (wpAny_mono h₁ (fun _ s₁' h₁' => ?_) hG)
    refine wpAny_bind (wpAny_mono h₁' (fun _ s₂ h₂ => wpAny_bind (wpAny_mono h₂ (fun ok s₃ h₃ => ?_) hG)) hG)
    cases ok with
    | false => exact wpAny_pure ⟨rfl, h₃⟩
    | true =>
      exact wpAny_bind (wpAny_bind (wpAny_mono h₃ (fun x s₄ h₄ => wpAny_bind (wpAny_mono h₄ (fun _ s₅ h₅ => wpAny_pure (wpAny_pure ⟨rfl, h₅⟩)) hG)) hG))
end
/-- a comprehension's block whose exceptions are of E' -/
def Cx.blkE (X : Cx) (E' : XK) (cs : Scope) (cl : List (Str × Addr)) (N : List Str) (C : Addr) (fp : List Addr) (s : Shared) (H : Hp) : Cx :=
  (X.blk cs cl N C fp s H).wish fun e s' => ∃ pins σ H1 s1, Inv (X.blk cs cl N C fp s H) pins σ H1 s1 ∧ CXE X.prog X.w X.stack H1 s1 E' e s'
theorem passB {X : Cx} {E' E'' : XK} {cs : Scope} {cl : List (Str × Addr)} {N : List Str} {C : Addr} {fp : List Addr} {s : Shared} {H : Hp} (h : ∀ c d H', E'' c d H' → E' c d H') : Passes (CXE X.prog X.w) (X.blkE E' cs cl N C fp s H) E'' := by
  intro pins σ H s e s' I hx
  obtain ⟨a, cls, a0, B, H', rfl, os, bare, U, hok, ha, tB, oB, fl, q⟩ := hx
  exact ⟨pins, σ, H, s, I.unwish, a, cls, a0, B, H', rfl, os, bare, U, hok, ha, tB, oB, fl, h _ _ _ q⟩
section
variable {X : Cx} {cs : Scope} {cl : List (Str × Addr)} {x : Str} {px pos : Pos} {caps : List (Str × Nat)} {iter elt : Expr} {ifs : List Expr} {wi : TI} {tt : TT} {te : TE}
theorem comp_runX {E' : XK} {pins : List (Addr × Obj)} {σ : St} {H2 : Hp} {s2 : Shared} {it : Addr} {fp : List Addr} {tn : Nat → Heap → Prop} {J : It} {Q : V → Hp → Prop} {E : Value → Shared → Prop} {RR : Value → Addr → Result → Shared → Prop} (S : CompScope X cs cl x caps)
    (hc : X.calm = true) (ht : ∀ C fp s H, PTs (X.blkE E' cs cl (x :: caps.map (·.1)) C fp s H) ifs tt) (he : ∀ C fp s H, PE (X.blkE E' cs cl (x :: caps.map (·.1)) C fp s H) elt te)
    (I2 : Inv X pins σ H2 s2) (T : Turn X.prog X.w X.K (.Name x px) J fp it tn) (st2 : tn 0 s2.heap) (f2 : ∀ b ∈ fp, FpOk X pins H2 b)
    (hW : ∀ D, H2 D = none → ∃ W : Nat → Nat → Hp → Prop, (∃ m, W 0 m (upd H2 D (.lst []))) ∧ ∀ i m H, W i m H →
      (J.stop i H ∧ Q (.ref D) H) ∨ (J.go i H ∧ ∀ x H', J.yld i H x H' → tt (some x :: capSt σ caps) H' fun b H2 => if b = true then
        te (some x :: capSt σ caps) H2 fun y H3 => ∃ acc, H3 D = some (.lst acc) ∧ acc.length < sizeLine ∧ ∃ m', m' < m ∧ W (i + 1) m' (upd H3 D (.lst (acc ++ [y])))
      else ∃ m', m' < m ∧ W (i + 1) m' H2))
    (hR : ∀ D C H' s' m, Inv X pins σ H' s' → Q (.ref D) H' → s'.heap.Ns C m → H' C = none → C ≠ X.env.locals → X.s₀.heap.objs.size ≤ C → (∀ x c, X.env.cells.lookup x = some c → c ≠ C) → (∀ p ∈ X.pn ++ pins, p.1 ≠ C) → RR (.ref D) C (.ok .next) s')
    (hex : X.ex = []) (hE : ∀ D C m H' s' a cls a0 B, Inv X pins σ H' s' → s'.heap.Ns C m → H' C = none → X.s₀.heap.objs.size ≤ C → C ∉ frs X.stack → (∀ b u, H' b = some u → ∃ o, B.get? b = some o) → (∀ b o, X.s₀.heap.get? b = some o → b ∉ frs X.outer → ∃ o', B.get? b = some o') →
      H' a = none → Heap.FlyingW B X.stack a cls a0 s'.heap → E' cls none H' → notedBy (model X.prog X.w) X.A (compEnvC cs cl C X.env) (fun e s'' => RR (.ref D) C (.error e) s'') (.ref a) s') :
    wpAny (model X.prog X.w) X.A (newList []) (fun acc s₃ => wpAny (model X.prog X.w) X.A (newFunctionEnv cs X.env.globals cl [] X.env.qual none .none (some X.env)) (fun cenv s₄ =>
      codeAny (model X.prog X.w) X.A (.compStart (.ListComp elt [⟨.Name x px, iter, ifs, 0⟩] cs pos) 0 (.ref it) acc { cenv with scope := relabel cs X.env }) (RR acc cenv.locals) s₄) E s₃) E s2 := by
  refine wpAny_newObj_type (wpAny_newFunctionEnv S.nocell (by intro y hy; simp at hy) (fun h4 hns4 hsb4 => ?_) S.kind)
  dsimp only at hns4 hsb4 ⊢
  have I3 : Inv X pins σ (upd H2 s2.heap.objs.size (.lst [])) { s2 with heap := s2.heap.push { cls := .type "list", data := .seq ([] : List Value).toArray } } := I2.lnew (t' := s2.toks) (ys := []) (its := []) .nil (Nat.zero_le _)
  obtain ⟨W, ⟨m0, w0⟩, turn⟩ := hW s2.heap.objs.size I2.fresh
  -- the state with the accumulator; C: where the block's names lie
  generalize hs3 : ({ s2 with heap := s2.heap.push { cls := .type "list", data := .seq ([] : List Value).toArray } } : Shared) = s3 at I3
  have eh3 : s3.heap = s2.heap.push { cls := .type "list", data := .seq ([] : List Value).toArray } := by rw [← hs3]
  have eh3' : (s2.heap.push { cls := .type "list", dict := none, data := .seq ([] : List Value).toArray }) = s3.heap := eh3.symm
  simp only [eh3'] at hns4 hsb4 ⊢
  have e4 : ({ s2 with heap := h4, toks := s2.toks + ([] : List (Str × Value)).length } : Shared) = { s3 with heap := h4, toks := s3.toks } := by rw [← hs3]; rfl
  have hD3 : s2.heap.objs.size < s3.heap.objs.size := by rw [eh3, Heap.size_push]; exact Nat.lt_succ_self _
  have kold : ∀ b u, s3.heap.get? b = some u → h4.get? b = some u := fun b u e => hsb4.extBut b u (Nat.ne_of_lt (Heap.lt_size e)) (Heap.get?_push_of_some _ e)
  have k23 : ∀ b u, s2.heap.get? b = some u → s3.heap.get? b = some u := fun b u e => by rw [eh3]; exact Heap.get?_push_of_some _ e
  have fpl : ∀ b ∈ fp, b < s2.heap.objs.size := fun b hb => let ⟨_, e, _⟩ := T.obj _ _ st2 b hb; Heap.lt_size e
  generalize hH3 : upd H2 s2.heap.objs.size (.lst []) = H3 at I3 w0
  have fr3 : ∀ b ∈ fp, H3 b = none := fun b hb => by rw [← hH3, upd_ne (Nat.ne_of_lt (fpl b hb))]; exact (f2 b hb).1
  generalize hD : s2.heap.objs.size = D at *
  generalize hC : s3.heap.objs.size = C at *
  have ok := I3.ok
  have fsX : ∀ b ∈ fp, b ∉ frs X.stack := fun b hb h => by
    rcases List.mem_cons.mp (I3.stkSub b h) with e | e
    · exact (f2 b hb).2.1 e
    · exact (f2 b hb).2.2.1 e
  have ok0 : (X.blk cs cl (x :: caps.map (·.1)) C fp s3 H3).Ok :=
    { mod := ok.mod, kind := S.kind, glob := ok.glob, blt := ok.blt, above := Nat.le_of_eq hC
      inj := fun y z c a b => ok.inj y z c (S.sub y c a) (S.sub z c b)
      has := fun y h => S.has y h
      cab := fun y c h => nomatch h
      hd := ok.hd, frames := ok.frames, stk := .inl rfl
      exf := fun b hb => ⟨Nat.ne_of_lt (Nat.lt_trans (fpl b hb) hD3), fun y c e => (f2 b hb).2.2.2.2.1 y c (S.sub y c e)⟩
      bs := fun b o e => I3.bs b o e
      bsz := Nat.le_trans ok.bsz I3.sz
      noex := fun b o e hb => by
        rcases (f2 b hb).2.2.2.1 with q | q
        · exact ok.noex b o e q
        · exact absurd (Heap.lt_size (ok.bs b o e).1) (Nat.not_lt.mpr q)
      exfs := fsX
      funs := I3.stack, frf := I3.stkFree }
  have ok' : (X.blkE E' cs cl (x :: caps.map (·.1)) C fp s3 H3).Ok := ok0.wish _
  have I4 : Inv (X.blkE E' cs cl (x :: caps.map (·.1)) C fp s3 H3) [] (none :: capSt σ caps) H3 { s3 with heap := h4, toks := s3.toks } :=
    { ok := ok', os := rfl, bare := I3.bare, base := Un.kept kold, tk := ⟨Nat.lt_of_lt_of_le I3.tk.1 I3.tk.2, Nat.le_refl _⟩
      loc := by
        refine ⟨_, hns4, fun i y v hN hσ _ => ?_⟩
        cases i with
        | zero => exact absurd hσ (by simp)
        | succ i =>
          have hN' : (caps.map (·.1))[i]? = some y := hN
          have hσ' : (caps.map fun p => (σ[p.2]?).join)[i]? = some (some v) := hσ
          rw [List.getElem?_map] at hN' hσ'
          obtain ⟨p, hp, rfl⟩ := Option.map_eq_some_iff.mp hN'
          rw [hp, Option.map_some] at hσ'
          have hj : (σ[p.2]?).join = some v := Option.some.inj hσ'
          have hj' : σ[p.2]? = some (some v) := by
            cases q : σ[p.2]? with
            | none => rw [q] at hj; cases hj
            | some o => rw [q] at hj; exact congrArg some hj
          have mem : p ∈ caps := List.mem_of_getElem? hp
          obtain ⟨m, _, hl⟩ := I3.loc
          obtain ⟨k1, k2⟩ := S.capK p mem
          obtain ⟨u, ru, hlk⟩ := hl p.2 p.1 v (S.capN p mem) hj' (k2.elim (fun q => .inr (.inl q)) fun q => .inr (.inr q))
          refine ⟨u, ru, ?_⟩
          rcases hlk with ⟨q, _⟩ | ⟨_, c, hc1, hc2⟩
          · rcases k2 with k | k <;> (rw [q] at k; cases k)
          · obtain ⟨c', hc'⟩ := S.has p.1 k1
            have e : c' = c := Option.some.inj ((S.sub p.1 c' hc').symm.trans hc1)
            subst e
            exact .inr ⟨k1, c', hc', hc2.keeps kold⟩
      cell := fun y c e => let ⟨v, q⟩ := I3.cell y c (S.sub y c e); ⟨v, q.keeps kold⟩
      free := by have q := I3.fresh; rw [hC] at q; exact q
      freeC := fun y c e => I3.freeC y c (S.sub y c e)
      pin := fun p hp => absurd hp (by simp [Cx.blkE, Cx.wish, Cx.blk])
      hok := I3.hok.kept kold
      len := by simp [capSt, Cx.blkE, Cx.wish, Cx.blk] }
  have hG : ∀ e s', (X.blkE E' cs cl (x :: caps.map (·.1)) C fp s3 H3).xe e s' → notedBy (model X.prog X.w) X.A (compEnvC cs cl C X.env) (fun e s'' => RR (.ref D) C (.error e) s'') e s' := by
    rintro e s' ⟨pins1, σ1, H1, s1, I1, a, cls, a0, B, H', rfl, ⟨os, htk⟩, bare, U, ok1, ha, tB, oB, fl, q⟩
    have I1' : Inv (X.blk cs cl (x :: caps.map (·.1)) C fp s3 H3) pins1 σ1 H' s' := I1.call' (ch := []) os U ok1 bare (fun b hb => nomatch hb) htk
    have IX : Inv X pins σ H' s' := I3.call' (s' := s') I1'.os I1'.base I1'.hok I1'.bare (fun b hb => ⟨(f2 b hb).2.2.2.1, (f2 b hb).2.1, (f2 b hb).2.2.2.2.1, (f2 b hb).2.2.2.2.2⟩) I1'.tk.2
    obtain ⟨m, hn, _⟩ := I1'.loc
    refine hE D C m H' s' a cls a0 B IX hn I1'.free (by rw [← hC]; exact I3.sz) (fun z => ?_) tB (fun b o e1 e2 => ?_) ha fl q
    · obtain ⟨o, e1, _⟩ := (Heap.FunFrames.mem I3.stack (b := C) z).2
      exact absurd (Heap.lt_size e1) (by rw [hC]; exact Nat.lt_irrefl _)
    · obtain ⟨o3, e3⟩ := I3.base.there b o e1 (fun z => by rw [hex] at z; cases z)
      obtain ⟨o1, e4⟩ := I1.base.there b o3 e3 (fun z => by
        rcases (f2 b z).2.2.2.1 with y | y
        · rw [hex] at y; cases y
        · exact absurd (Heap.lt_size e1) (Nat.not_lt.mpr y))
      refine oB b o1 e4 fun z => ?_
      rcases List.mem_cons.mp (I3.stkSub b z) with z | z
      · exact absurd (z ▸ Heap.lt_size e1) (Nat.not_lt.mpr I3.ok.above)
      · exact e2 z
  have loop : codeAny (model X.prog X.w) X.A (.compLoop (.ListComp elt [⟨.Name x px, iter, ifs, 0⟩] cs pos) 0 (.ref it) (.ref D) (compEnvC cs cl C X.env)) (RR (.ref D) C) { s3 with heap := h4, toks := s3.toks } := by
    have stat : ∀ {H' : Hp}, (∀ b ∈ fp, H' b = none) → ∀ b ∈ fp, FpOk (X.blkE E' cs cl (x :: caps.map (·.1)) C fp s3 H3) [] H' b := fun hn b hb => ⟨hn b hb, (ok'.exf b hb).1, fsX b hb, .inl hb, (ok'.exf b hb).2, fun p hp => absurd hp (by simp [Cx.blkE, Cx.wish, Cx.blk])⟩
    refine compLoop_anyX _ hG (fun n s' => ∃ i H', Inv (X.blkE E' cs cl (x :: caps.map (·.1)) C fp s3 H3) [] (none :: capSt σ caps) H' s' ∧ tn i s'.heap ∧ (∀ b ∈ fp, H' b = none) ∧ W i n H') ?_ m0
      ⟨0, H3, I4, T.keep _ _ _ st2 (fun b hb o e => kold b o (k23 b o e)), fr3, w0⟩
    rintro n s5 ⟨i, H5, I5, st5, fr5, w5⟩
    rcases turn i n H5 w5 with ⟨stop, qn⟩ | ⟨go, step⟩
    · refine thn (T.done (X.blkE E' cs cl (x :: caps.map (·.1)) C fp s3 H3) rfl rfl rfl hc i [] s5 _ H5 _ I5 (stat fr5) st5 stop) fun r s6 ⟨hr, I6⟩ => ?_
      subst hr
      obtain ⟨m, hn6, _⟩ := I6.loc
      have IX : Inv X pins σ H5 s6 := I3.call' (s' := s6) I6.os I6.base I6.hok I6.bare (fun b hb => ⟨(f2 b hb).2.2.2.1, (f2 b hb).2.1, (f2 b hb).2.2.2.2.1, (f2 b hb).2.2.2.2.2⟩) I6.tk.2
      refine hR D C H5 s6 m IX qn hn6 I6.free ?_ ?_ ?_ ?_
      · rw [← hC]; exact Nat.ne_of_gt I3.lt
      · rw [← hC]; exact I3.sz
      · intro y c e
        obtain ⟨_, o, q, _⟩ := I3.cell y c e
        rw [← hC]; exact Nat.ne_of_lt (Heap.lt_size q)
      · intro p hp
        rw [← hC]; exact Nat.ne_of_lt (Heap.lt_size (I3.pin p hp).1)
    · refine thn (T.item (X.blkE E' cs cl (x :: caps.map (·.1)) C fp s3 H3) rfl rfl rfl hc i [] s5 _ H5 _ I5 (stat fr5) st5 go) fun r s6 ⟨u, hr, h6⟩ => ?_
      subst hr
      refine thn h6 fun _ s7 ⟨v, H7, I7, r7, y7, st7, fr7⟩ => ?_
      have I7' := I7.pinned (stat fr7) (T.obj _ _ st7)
      have lv : (relabel cs X.env).names.lookup x = some .local := lookup_relabel_local S.var
      have pg : PG (X.blkE E' cs cl (x :: caps.map (·.1)) C fp s3 H3) (.Name x px) (gName 0) := pg_name S.nd rfl (.inl lv) (.inr lv)
      refine thn (pg _ s7 _ H7 v u (fun σ' H' => σ' = some v :: capSt σ caps ∧ H' = H7) I7' r7 ⟨rfl, rfl⟩) fun _ s8 ⟨σ8, H8, I8, e8, e8'⟩ => ?_
      subst e8 e8'
      have again : ∀ {H9 : Hp} {s9 : Shared} {m' : Nat}, Inv (X.blkE E' cs cl (x :: caps.map (·.1)) C fp s3 H3) ([] ++ pinsAt fp s7.heap) (some v :: capSt σ caps) H9 s9 → m' < n → W (i + 1) m' H9 →
          ∃ m, m < n ∧ ∃ i H', Inv (X.blkE E' cs cl (x :: caps.map (·.1)) C fp s3 H3) [] (none :: capSt σ caps) H' s9 ∧ tn i s9.heap ∧ (∀ b ∈ fp, H' b = none) ∧ W i m H' := fun {H9 s9 m'} I9 hm w9 => by
        have pin9 : ∀ b ∈ fp, ∀ o, s7.heap.get? b = some o → s9.heap.get? b = some o ∧ H9 b = none := fun b hb o e =>
          let q := I9.pin (b, o) (List.mem_append_right _ (List.mem_append_right _ (mem_pinsAt hb e))); ⟨q.1, q.2.1⟩
        refine ⟨m', hm, i + 1, H9, I9.unpinned.weak rfl (fun j z hz => ?_), T.keep _ _ _ st7 (fun b hb o e => (pin9 b hb o e).1), fun b hb => ?_, w9⟩
        · cases j with
          | zero => exact absurd hz (by simp)
          | succ j => exact hz
        · obtain ⟨o, e, _⟩ := T.obj _ _ st7 b hb
          exact (pin9 b hb o e).2
      refine thn (ht C fp s3 H3 _ s8 _ H8 _ I8 (step v H8 y7)) fun b s9 ⟨H9, I9, q9⟩ => ?_
      cases b with
      | false =>
        rw [if_neg (by simp)] at q9 ⊢
        obtain ⟨m', hm, w9⟩ := q9
        exact again I9 hm w9
      | true =>
        rw [if_pos rfl] at q9 ⊢
        refine thn (he C fp s3 H3 _ s9 _ H9 _ I9 q9) fun y s10 ⟨z, H10, I10, r10, acc, hacc, hlen, m', hm, w10⟩ => ?_
        refine thn (mt_append _ s10 _ H10 (.ref D) [z] (.ref D) [y] (fun _ H' => H' = upd H10 D (.lst (acc ++ [z]))) I10 rfl (.cons r10 .nil) ⟨D, acc, z, rfl, rfl, hacc, hlen, rfl⟩) fun _ s11 ⟨_, H11, I11, _, e11⟩ => ?_
        subst e11
        exact again I11 hm w10
  rw [e4]
  exact codeAny_compStart_list loop (T.self _ 0 _ _ _ (T.keep _ _ _ st2 fun b hb o e => kold b o (k23 b o e)) loop)

end
section
variable {P : Program} {w : World} {K : PySem.W.Frag} {mg : Str → Option Value} {base : Heap} {N : List Str} {qual : Str} {scope : Scope} {f : Addr} {cd : Value} {A : Around} {outer : List Env} {s0 : Shared} {H0 : Hp} {E : XK}
  {cs : Scope} {cl : List (Str × Addr)} {x : Str} {px pos : Pos} {caps : List (Str × Nat)} {iter elt : Expr} {ifs : List Expr} {wi : TI} {tt : TT} {te : TE}
theorem ps_setCX {i : Nat} {y : Str} {py spos : Pos} (S : CompScope (cxOf (CXE P w) P w K mg base N qual scope f cd A outer s0 H0 E) cs cl x caps) (hc : (cxOf (CXE P w) P w K mg base N qual scope f cd A outer s0 H0 E).calm = true) (hN : (cxOf (CXE P w) P w K mg base N qual scope f cd A outer s0 H0 E).N.Nodup) (hiN : (cxOf (CXE P w) P w K mg base N qual scope f cd A outer s0 H0 E).N[i]? = some y) (hy : (cxOf (CXE P w) P w K mg base N qual scope f cd A outer s0 H0 E).env.scope.names.lookup y = some .local) (hi : PI (cxOf (CXE P w) P w K mg base N qual scope f cd A outer s0 H0 E) (.Name x px) iter wi)
    (ht : ∀ C fp s H, PTs ((cxOf (CXE P w) P w K mg base N qual scope f cd A outer s0 H0 E).blkE E cs cl (x :: caps.map (·.1)) C fp s H) ifs tt) (he : ∀ C fp s H, PE ((cxOf (CXE P w) P w K mg base N qual scope f cd A outer s0 H0 E).blkE E cs cl (x :: caps.map (·.1)) C fp s H) elt te)
    (hsw : swapsWith (.ListComp elt [⟨.Name x px, iter, ifs, 0⟩] cs pos) (some (.Name y py)) spos.line (cxOf (CXE P w) P w K mg base N qual scope f cd A outer s0 H0 E).env = pure true := by rfl)
    (hs : ∀ x, foldedSetIterable iter (cxOf (CXE P w) P w K mg base N qual scope f cd A outer s0 H0 E).env x = pure x := by intro _; rfl) : PS (cxOf (CXE P w) P w K mg base N qual scope f cd A outer s0 H0 E) (.Assign [.Name y py] (.ListComp elt [⟨.Name x px, iter, ifs, 0⟩] cs pos) spos) (tAsg (tComp wi caps tt te) (gName i)) := by
  have ce := @comp_err P w K mg base N qual scope f cd A outer s0 H0 E (some (assign (.Name y py) (cxOf (CXE P w) P w K mg base N qual scope f cd A outer s0 H0 E).env))
  have hex : (cxOf (CXE P w) P w K mg base N qual scope f cd A outer s0 H0 E).ex = [] := rfl
  have hss : (cxOf (CXE P w) P w K mg base N qual scope f cd A outer s0 H0 E).s₀ = s0 := rfl
  have hoo : (cxOf (CXE P w) P w K mg base N qual scope f cd A outer s0 H0 E).outer = outer := rfl
  have hPP : (cxOf (CXE P w) P w K mg base N qual scope f cd A outer s0 H0 E).prog = P := rfl
  have hww : (cxOf (CXE P w) P w K mg base N qual scope f cd A outer s0 H0 E).w = w := rfl
  generalize (cxOf (CXE P w) P w K mg base N qual scope f cd A outer s0 H0 E) = X at *
  subst hss hoo hPP hww
  intro pins s σ H D I h
  rw [exec_Assign_Name_used _ _ _ _ hsw]
  refine wpAny_bind (wpAny_standAt (wpAny_bind ?_))
  show wpAny _ _ (do let _ ← comprehension (.ListComp elt [⟨.Name x px, iter, ifs, 0⟩] cs pos) cs X.env _ (newList []) false (eval iter X.env) (some (assign (.Name y py) X.env))) _ _ s
  refine wpAny_bind (wpAny_mono (wpAny_comprehension_free (use := some (assign (.Name y py) X.env)) (Q := fun _ s' => SP X pins D .next s') rfl hs S.clos S.kind S.names
    (thn (hi pins s σ H _ I h) fun v s1 h1 => thn h1 fun itv s2 h2 => ?_)) (fun _ s' hq => wpAny_pure (wpAny_pure hq)) fun _ _ e => e)
  obtain ⟨it, fp, tn, J, H2, rfl, I2, T, st2, f2, hW⟩ := h2
  refine comp_runX (E' := E) (Q := fun v H' => gName i v σ H' D.nx) (RR := fun acc C => compPost (model X.prog X.w) X.A X.xe (some (assign (.Name y py) X.env)) (fun _ s' => SP X pins D .next s') acc C) S hc ht he I2 T st2 f2 hW ?_ hex (fun D C m H' s' a cls a0 B J1 J2 J3 J4 J5 J6 J7 J8 J9 J10 => ce J1 J2 J3 J4 J5 J6 J7 J8 J9 J10)
  intro Dl C H' s' m IX q hn hC hL hs0 hcl hp
  show wpAny _ _ (assign (.Name y py) X.env (.ref Dl)) _ _ s'
  refine wpAny_assign_Name (store_ok2 IX hN hiN (.inl hy) (v := .ref Dl) rfl (fun s'' I'' hch => ?_) (.inr hy))
  obtain ⟨a, hsa, ha⟩ := hch
  have hCa : C ≠ a := by
    rcases ha with e | e
    · rw [e]; exact hL
    · exact fun z => hcl _ _ e z.symm
  exact ⟨m, hn.sameBut hsa hCa, fun h' hsb => ⟨_, H', I''.turned (t' := s''.toks) (it := C) (fun b o hb e => hsb.extBut b o hb e) hC hL (.inr hs0) hcl hp, q⟩⟩
end
end L2

/-! EXTENSION BH: split, slices and repetition of a text, a text read as a number -/
namespace L2
open PySem PySem.Spec PyProof.Rows PySem.Builtin PySem.Builtin.Str
theorem vals_strs : ∀ (l : List Str) (k : Nat), Vals (l.map V.str) (strsFrom k l)
  | [], _ => .nil
  | x :: l, k => .cons ⟨k, rfl⟩ (vals_strs l (k + 1))
def tSplit (K : PySem.W.Frag) (y : Str) (to : TE) : TE := fun σ H Q => to σ H fun x H1 => tyV K "str" x H1 ∧ ∃ v, x = .str v ∧ (y.length == 0) = false ∧ v.length ≤ 1000 ∧ ∀ p, H1 p = none → Q (.ref p) (upd H1 p (.lst ((Txt.split v y).map V.str)))
theorem parts_len {x y : Str} (h : x.length ≤ 1000) : (partsBetween x (occurrences x y 0 x.length (x.length + 1)) y.length).length ≤ sizeLine := by
  have a := StrLaws.occ_length_le x y 0 x.length (x.length + 1)
  rw [sizeLine_eq]
  unfold partsBetween
  simp only [List.length_map, List.length_zip, List.length_cons, List.length_append, List.length_nil]
  omega
theorem pe_split (K : PySem.W.Frag) {X : Cx} {o : Expr} {to : TE} {y : Str} {j1 : Nat} {p1 apos cpos : Pos} (pa : PlainAttrs "str") (ho : PE X o to) (hK : X.K = K := by rfl)
    (hbase : attributeBase o "split" X.env (eval o X.env) = eval o X.env := by rfl)
    (hfew : ((backTo cpos (starEach [.Constant (.str y) j1 p1] X.env)).all (fun x => !x.1) && (backToKw cpos (keywordEach [] X.env)).all (fun x => x.1.isSome)
      && decide (1 + ([] : List Keyword).length + (if ([] : List Keyword).isEmpty then 0 else 1) < 30)) = true := by rfl)
    (hline : (apos.endLine == cpos.line) = true := by rfl) :
    PE X (.Call (.Attribute o "split" apos) [.Constant (.str y) j1 p1] [] cpos) (tSplit K y to) := by
  subst hK
  intro pins s σ H Q I h
  refine wpAny_Call_method_late hbase hfew hline rfl (thn (ho pins s σ H _ I h) fun v s1 ⟨x, H1, I1, r1, ty, w, e, hy, hb, q⟩ => ?_)
  obtain ⟨h1, h2⟩ := tyV_is I1 r1 ty
  subst e
  obtain ⟨t, rfl⟩ := r1
  refine ⟨"str", "str.split", pa, F.slot_str_split, F.type_str_split, h1, h2, ?_⟩
  refine Calls.callWith_builtin (by rfl) (Calls.evalArgs_plain ?_)
  show wpAny _ _ (spliced [(false, eval (.Constant (.str y) j1 p1) X.env)]) _ _ s1
  refine Calls.spliced_cons (Calls.Constant_str (Calls.spliced_nil ?_))
  have hsz : w.length ≤ sizeLine := by rw [sizeLine_eq]; omega
  have I2 : Inv X pins σ H1 { s1 with toks := s1.toks + 1 } := I1.tok (s1.toks + 1) (Nat.le_succ _)
  have one : Txt.split w y = [w] → Q (.ref s1.heap.objs.size) (upd H1 s1.heap.objs.size (.lst ([w].map V.str))) := fun e => by
    have := q s1.heap.objs.size (I1.hok.fresh (Nat.le_refl _))
    rw [e] at this; exact this
  have I3 : Inv X pins σ (upd H1 s1.heap.objs.size (.lst ([w].map V.str))) { s1 with heap := s1.heap.push { cls := .type "list", data := .seq [Value.str w t].toArray }, toks := s1.toks + 1 } := I2.lnew (t' := s1.toks + 1) (ys := [w].map V.str) (its := [Value.str w t]) (.cons ⟨t, rfl⟩ .nil) (by show 1 ≤ sizeLine; decide)
  cases hc : (decide (w.length < y.length) || decide (strKind w < strKind y))
  · cases hf : (occurrences w y 0 w.length (w.length + 1)).isEmpty
    · refine call_meets F.slot_str_split (typeIs_str _ _ _) F.entry_str_split (F.args_str_split_2 _ _) (meets_str_split_sep w y t _ hc hy hf hsz (parts_len hb)) ?_
      have e : Txt.split w y = partsBetween w (occurrences w y 0 w.length (w.length + 1)) y.length := (if_neg (ne_true_of_eq_false hc)).trans (if_neg (ne_true_of_eq_false hf))
      have q' := q s1.heap.objs.size (I1.hok.fresh (Nat.le_refl _))
      rw [e] at q'
      have hl := parts_len (x := w) (y := y) hb
      generalize partsBetween w (occurrences w y 0 w.length (w.length + 1)) y.length = ps at *
      exact ⟨.ref s1.heap.objs.size, _, I2.lnew (t' := s1.toks + 1 + ps.length) (ys := ps.map V.str) (its := strsFrom (s1.toks + 1) ps) (vals_strs ps _) (by rw [List.length_map]; exact hl) (Nat.le_add_right _ _), rfl, q'⟩
    · exact call_meets F.slot_str_split (typeIs_str _ _ _) F.entry_str_split (F.args_str_split_2 _ _) (meets_str_split_not_found w y t _ hc hy hf) ⟨.ref s1.heap.objs.size, _, I3, rfl, one ((if_neg (ne_true_of_eq_false hc)).trans (if_pos hf))⟩
  · exact call_meets F.slot_str_split (typeIs_str _ _ _) F.entry_str_split (F.args_str_split_2 _ _) (meets_str_split_cannot_occur w y t _ hc) ⟨.ref s1.heap.objs.size, _, I3, rfl, one (if_pos hc)⟩
end L2
namespace L2
open PySem PySem.Spec PyProof.Rows
section
variable {X : Cx}
def rIntS : List V → Hp → VK → Prop := fun xs H Q => ∃ z n, xs = [.str z] ∧ intText? z = some n ∧ z.length ≤ 640 ∧ Q (.int n) H
theorem call_intS : CallR X (.type "int") rIntS := by
  intro pins s σ H xs us Q I r h
  obtain ⟨z, n, rfl, hn, hl, q⟩ := h
  obtain ⟨u, rfl, ru⟩ := vals1 r
  obtain ⟨t, rfl⟩ := ru
  exact PySem.W.KIN.call_text hn hl ⟨.int n, H, I.tok (s.toks + 1) (Nat.le_succ _), ⟨_, rfl⟩, q⟩
def rMulS : R2 := fun x y H Q => ∃ z n, x = .str z ∧ y = .int n ∧ MulOk z n ∧ Q (.str (Txt.mul z n)) H
theorem op_mulS : OpR X (binaryOp .Mult) rMulS := by
  intro pins s σ H x y v u Q I rx ry h
  obtain ⟨z, n, rfl, rfl, hok, q⟩ := h
  obtain ⟨t, rfl⟩ := rx
  obtain ⟨t', rfl⟩ := ry
  exact wpAny_toks (SB.mul hok fun t2 k hk => ⟨.str (Txt.mul z n), H, I.tok k hk, ⟨_, rfl⟩, q⟩)
def rSlS : V → Option Int → Option Int → Hp → VK → Prop := fun x lo hi H Q => ∃ z, x = .str z ∧ z.length ≤ 1000 ∧ Q (.str (Txt.slice z lo hi)) H
theorem sl_str : SlR X rSlS := by
  intro pins s σ H x v vl vu lo hi sl Q I rx hs pl pu h
  obtain ⟨z, rfl, hl, q⟩ := h
  obtain ⟨t, rfl⟩ := rx
  obtain ⟨l, rfl, rfl⟩ : ∃ l : Option (Int × Tok), vl = partValue l ∧ lo = l.map (·.1) := by
    cases pl with
    | none => exact ⟨none, rfl, rfl⟩
    | int i t => exact ⟨some (i, t), rfl, rfl⟩
  obtain ⟨u, rfl, rfl⟩ : ∃ l : Option (Int × Tok), vu = partValue l ∧ hi = l.map (·.1) := by
    cases pu with
    | none => exact ⟨none, rfl, rfl⟩
    | int i t => exact ⟨some (i, t), rfl, rfl⟩
  refine ⟨"str", _, F.slot_str_getitem.lookup, typeIs_str _ _ _, wpAny_toks ?_⟩
  refine wpAny_getItem_str_slice (l := l) (u := u) (st := none) hs rfl (post_val_or_str ⟨?_, fun t' k hk => ?_⟩)
  · exact Nat.le_trans (Txt.slice_le z _ _) (by rw [sizeLine_eq]; omega)
  · exact ⟨.str (Txt.slice z _ _), H, I.tok k hk, ⟨_, rfl⟩, q⟩
end
end L2

/-! EXTENSION BI: blocks cut -/
namespace L2
open PySem PySem.Spec PyProof.Rows
/-- the rest of a block, hidden until it is reached -/
theorem seq_hide {a b : TS} {D : Ends} {σ : St} {H : Hp} (h : ∀ B : TS, B = b → tSeq a B D σ H) : tSeq a b D σ H := h b rfl
theorem seq_cutS {a b : TS} {D : Ends} {σ : St} {H : Hp} (R : St → Hp → Prop) (hb : ∀ σ' H', R σ' H' → b D σ' H') (ha : ∀ B : TS, (∀ σ' H', R σ' H' → B D σ' H') → tSeq a B D σ H) : tSeq a b D σ H := ha b hb
theorem star_con {c : PySem.Const} {j : Nat} {p : PySem.Pos} {es : List PySem.Expr} {env : PySem.Env} : starEach (.Constant c j p :: es) env = (false, eval (.Constant c j p) env) :: starEach es env := by rfl
/-- a first argument that is an operation: its own parts are not looked at -/
theorem star_bin {a b : PySem.Expr} {o : PySem.Operator} {p : PySem.Pos} {es : List PySem.Expr} {env : PySem.Env} : starEach (.BinOp a o b p :: es) env = (false, eval (.BinOp a o b p) env) :: starEach es env := by rfl
/-- if test: x = [seven texts, the sixth made by an operation][idx] -/
theorem ps_textif {X : Cx} {K : PySem.W.Frag} {test idx B : PySem.Expr} {c1 c2 c3 c4 c5 c7 x : Str} {j1 j2 j3 j4 j5 j7 i : Nat} {p0 p1 p2 p3 p4 p5 p7 pl ps pa pif : Pos} {tt : TT} {tB ti : TE} (ht : PT X test tt) (hB : PE X B tB) (hsB : ∀ es, starEach (B :: es) X.env = (false, eval B X.env) :: starEach es X.env)
    (hi : PE X idx ti) (hpl : PlainIx idx) (hN : X.N.Nodup) (h6 : X.N[i]? = some x) (hx : Loc X.env.scope x) (hK : X.K = K)
    (hs : swapsWith (.Subscript (.List [.Constant (.str c1) j1 p1, .Constant (.str c2) j2 p2, .Constant (.str c3) j3 p3, .Constant (.str c4) j4 p4, .Constant (.str c5) j5 p5, B, .Constant (.str c7) j7 p7] pl) idx ps) (some (.Name x p0)) pa.line X.env = pure false)
    (hf : X.fn x = true ∨ X.env.scope.names.lookup x = some .local) :
    PS X (.If test [.Assign [.Name x p0] (.Subscript (.List [.Constant (.str c1) j1 p1, .Constant (.str c2) j2 p2, .Constant (.str c3) j3 p3, .Constant (.str c4) j4 p4, .Constant (.str c5) j5 p5, B, .Constant (.str c7) j7 p7] pl) idx ps) pa] [] pif)
      (tIfS tt (tAsg (tOp (rIxL K) (tLst (tCons (tC (.str c1)) (tCons (tC (.str c2)) (tCons (tC (.str c3)) (tCons (tC (.str c4)) (tCons (tC (.str c5)) (tCons tB (tCons (tC (.str c7)) tNil)))))))) ti) (gName i)) tNext) :=
  ps_if ht (pss_one (ps_set hN h6 hx (pe_ix (ix_listK K hK) (pe_lst (pa_cons pe_str (pa_cons pe_str (pa_cons pe_str (pa_cons pe_str (pa_cons pe_str (pa_cons hB (pa_cons pe_str pa_nil star_con) (hsB _)) star_con) star_con) star_con) star_con) star_con)) hi hpl) hs hf)) pss_nil
end L2

/-! EXTENSION BJ: the head that knows the tokens -/
namespace L2
open PySem PySem.Spec PyProof.Rows PySem.W
theorem ofPys_ints : ∀ ns : List Int, ofPys (ns.map PyData.int) = ns.map WData.int
  | [] => by simp [ofPys]
  | n :: ns => by
    rw [List.map_cons, List.map_cons, ← ofPys_ints ns]
    simp [ofPys, ofPy]
theorem walk_ofX {l : PySem.W.OpenLaw} {n k : Nat} {q : Program} {loose : List Str} {XP : (Str → Option Value) → Heap → Prop} {α : Type} {Yf : Shared → α} {Ya : World → α} {d : DefRec} {K : Params → PySem.W.Frag} {CX : World → CXT} {sp : World → Sp} {x : Str}
    (hn : l.most = some n) (hn2 : n ≤ sizeLine) (hdf : d.params.defaults = []) (hr : Room k callerA)
    (hY : ∀ (w : World) (s : Shared), Yf s = Ya w → (K w.params).In s.heap ∧ 0 < s.toks)
    (F : ∀ (w : World) (mg : Str → Option Value) (fa : Addr) (h : Heap), (K w.params).In h → h.Ns mainGlobals mg → mg d.name = some (.ref fa) →
      ∃ fd : FuncData, (∀ (s : Shared) (u : Value), BindsTo s fd ⟨[u], []⟩ [(x, u)]) ∧
        ∀ base : Heap, (K w.params).In base → base.Ns mainGlobals mg → FnOk l.prog w (K w.params) mg base (CX w) k fa fd [x] (sp w))
    (hsp : ∀ (w : World) (H : Hp) (a : Addr) (ns : List Int), ns.length ≤ n → Only H → SqL (K w.params) H a (ns.map V.int) → sp w [.ref a] H (fun v _ => v = .bl true) fun _ _ _ => False)
    (hCX : ∀ (w : World) (H : Hp) (s : Shared) (e : Value) (s' : Shared), CX w [] H s (fun _ _ _ => False) e s' → False) :
    PySem.W.WalkX q loose XP Yf Ya l.row.toRowW d [] (fun f vs => PySem.call f vs) := by
  intro w s₀ s₁ mg mb G Y fa o pm cd doc dV kV ho hd hcd hD hmg hg args vals as L hpre hlay hrd hwl hlo
  obtain rfl : dV = .none := Dflts.none hD hdf
  obtain rfl : kV = .none := Dflts.noKw hD
  obtain ⟨a, vs, ns, rfl, rfl, hobj, hints, hlen⟩ := Att.script_of hn hpre hwl
  obtain ⟨Y1, Y2⟩ := hY w s₀ Y
  have KX : (K w.params).In s₁.heap := fun b o e => L.keeps b o (Y1 b o e)
  have L' : Laid l.row.toRowW.records w s₀ s₁ [ofPy (PyData.list (ns.map PyData.int))] [.ref a] as := by
    have e : ofPy (PyData.list (ns.map PyData.int)) = WData.list (ns.map WData.int) := by
      rw [← ofPys_ints]; simp [ofPy]
    rw [e]; exact L
  have htk : 0 < s₁.toks := Nat.lt_of_lt_of_le Y2 (PySem.W.X.script_toks L' rfl)
  obtain ⟨fd, hb, hF⟩ := F w mg fa _ KX G.T.g hmg
  refine enter_call (codeAny_mono (law_call KX G.T.g G.T.b G.T.builtins G.T.nolimit htk hg hobj hints (Nat.le_trans hlen hn2) hr hF hb (fun H hO hS => hsp w H a ns hlen hO hS) fun H e s' => hCX w H s₁ e s') fun r s' hq => ?_)
  obtain ⟨rfl, h2, h3, h4⟩ := hq
  exact ⟨.inl ⟨.bool true, .bool true, [], rfl, fun _ => rfl, .bool true, Att.post_true l _, fun _ => ⟨List.Pairwise.nil, fun _ hm => (nomatch hm)⟩⟩, h2, h3, h4⟩
theorem z_of {K : Params → PySem.W.Frag} {as : List Addr} {n t : Nat} {w : World} {s : Shared} (y : PySem.W.X.obsZ as s = PySem.W.X.valZ K n t w) (e : ∀ P, as = (K P).map (·.1)) (h : 0 < t) : (K w.params).In s.heap ∧ 0 < s.toks := by
  have f := PySem.W.X.z_facts e y
  exact ⟨f.2.1, by rw [f.2.2.2]; exact h⟩
end L2

namespace FR
open PySem
/-! what a text says -/
def repC (c : Nat) : Nat := if c = 45 then 43 else c
def headC (c : Nat) : List (List Nat) → List (List Nat)
  | w :: ws => (c :: w) :: ws
  | [] => [[c]]
def cutL (s : Nat) : List Nat → List (List Nat)
  | [] => [[]]
  | c :: l => if c = s then [] :: cutL s l else headC c (cutL s l)
def joinL (s : Nat) : List (List Nat) → List Nat
  | [] => []
  | [x] => x
  | x :: y :: r => x ++ s :: joinL s (y :: r)
/-- the words between the signs -/
def wordsL (l : List Nat) : List (List Nat) := cutL 43 (l.map repC)
def isFig (c : Nat) : Bool := decide (48 ≤ c) && decide (c ≤ 57)
/-- a word of one or two figures, no nought ahead -/
def numW : List Nat → Option Int
  | [c] => if 49 ≤ c ∧ c ≤ 57 then some ((c : Int) - 48) else none
  | [c, d] => if (49 ≤ c ∧ c ≤ 57) ∧ 48 ≤ d ∧ d ≤ 57 then some (((c : Int) - 48) * 10 + ((d : Int) - 48)) else none
  | _ => none
def readA : List (List Nat) → Option (List Int)
  | [] => some []
  | w :: ws => match numW w with
    | none => none
    | some n => match readA ws with
      | none => none
      | some ns => some (n :: ns)
def readW (l : List Nat) : Option (List Int) := readA (wordsL l)
def signsL : List Nat → List Int
  | [] => []
  | c :: l => if c = 43 then 0 :: signsL l else if c = 45 then 1 :: signsL l else signsL l
theorem cutL_ne (s : Nat) : ∀ l, cutL s l ≠ []
  | [] => by simp [cutL]
  | c :: l => by
    unfold cutL
    split
    · simp
    · cases cutL s l <;> simp [headC]
theorem cutL_free (s : Nat) : ∀ w : List Nat, s ∉ w → cutL s w = [w]
  | [], _ => rfl
  | c :: w, h => by
    have h1 : ¬ c = s := fun z => h (z ▸ List.mem_cons_self)
    rw [cutL, if_neg h1, cutL_free s w fun z => h (List.mem_cons_of_mem _ z)]; rfl
theorem cutL_app (s : Nat) (r : List Nat) : ∀ w : List Nat, s ∉ w → cutL s (w ++ s :: r) = w :: cutL s r
  | [], _ => by simp [cutL]
  | c :: w, h => by
    have h1 : ¬ c = s := fun z => h (z ▸ List.mem_cons_self)
    rw [List.cons_append, cutL, if_neg h1, cutL_app s r w fun z => h (List.mem_cons_of_mem _ z)]; rfl
theorem cutL_join (s : Nat) : ∀ ws : List (List Nat), ws ≠ [] → (∀ w ∈ ws, s ∉ w) → cutL s (joinL s ws) = ws
  | [], h, _ => absurd rfl h
  | [w], _, h => cutL_free s w (h w List.mem_cons_self)
  | w :: x :: r, _, h => by
    rw [joinL, cutL_app s _ w (h w List.mem_cons_self), cutL_join s (x :: r) (by simp) fun a ha => h a (List.mem_cons_of_mem _ ha)]
theorem join_toList (s : Nat) : ∀ ps : List Str, (Str.join ⟨#[s]⟩ ps).cps.toList = joinL s (ps.map fun p => p.cps.toList)
  | [] => rfl
  | [p] => rfl
  | p :: q :: r => by
    have ih := join_toList s (q :: r)
    show (p ++ ⟨#[s]⟩ ++ Str.join ⟨#[s]⟩ (q :: r)).cps.toList = _
    simp only [Str.cps_append, Array.toList_append]
    rw [ih]
    simp [joinL]
theorem split_ne (x y : Str) : Txt.split x y ≠ [] := by
  unfold Txt.split
  split
  · simp
  · split
    · simp
    · intro z
      have := congrArg List.length z
      unfold Builtin.Str.partsBetween at this
      simp [List.length_zip] at this
theorem split_is (x : Str) (s : Nat) : (Txt.split x ⟨#[s]⟩).map (fun p => p.cps.toList) = cutL s x.cps.toList := by
  have h1 := StrLaws.join_split x ⟨#[s]⟩
  have h2 := congrArg (fun z : Str => z.cps.toList) h1
  rw [join_toList] at h2
  rw [← h2, cutL_join]
  · intro z; exact split_ne x ⟨#[s]⟩ (List.map_eq_nil_iff.mp z)
  · intro w hw
    obtain ⟨p, hp, rfl⟩ := List.mem_map.mp hw
    exact StrLaws.split_free x s p hp
theorem rep_join : ∀ ws : List (List Nat), (∀ w ∈ ws, 45 ∉ w) → (joinL 45 ws).map repC = joinL 43 ws
  | [], _ => rfl
  | [w], h => by
    have : 45 ∉ w := h w List.mem_cons_self
    simp only [joinL]
    rw [List.map_congr_left (g := id), List.map_id]
    intro c hc
    unfold repC
    rw [if_neg (by rintro rfl; exact this hc)]; rfl
  | w :: x :: r, h => by
    have h1 : 45 ∉ w := h w List.mem_cons_self
    have e : w.map repC = w := by
      rw [List.map_congr_left (g := id), List.map_id]
      intro c hc
      unfold repC
      rw [if_neg (by rintro rfl; exact h1 hc)]; rfl
    rw [joinL, List.map_append, List.map_cons, rep_join (x :: r) fun a ha => h a (List.mem_cons_of_mem _ ha), e]
    rfl
theorem replace_is (x : Str) : (Txt.replace x ⟨#[45]⟩ ⟨#[43]⟩).cps.toList = x.cps.toList.map repC := by
  rw [StrLaws.replace_one, join_toList, split_is, ← rep_join]
  · congr 1
    have h1 := congrArg (fun z : Str => z.cps.toList) (StrLaws.join_split x ⟨#[45]⟩)
    rw [join_toList, split_is] at h1
    exact h1
  · intro w hw
    rw [← split_is] at hw
    obtain ⟨p, hp, rfl⟩ := List.mem_map.mp hw
    exact StrLaws.split_free x 45 p hp
theorem words_is (x : Str) : (Txt.split (Txt.replace x ⟨#[45]⟩ ⟨#[43]⟩) ⟨#[43]⟩).map (fun p => p.cps.toList) = wordsL x.cps.toList := by
  rw [split_is, replace_is]; rfl
/-! the words, sign by sign -/
def att (w : List Nat) : List (List Nat) → List (List Nat)
  | x :: xs => (w ++ x) :: xs
  | [] => [w]
theorem att_nil {ws : List (List Nat)} (h : ws ≠ []) : att [] ws = ws := by
  cases ws with
  | nil => exact absurd rfl h
  | cons x xs => rfl
theorem att_head (w : List Nat) (c : Nat) (ws : List (List Nat)) (h : ws ≠ []) : att w (headC c ws) = att (w ++ [c]) ws := by
  cases ws with
  | nil => exact absurd rfl h
  | cons x xs => simp [att, headC]
theorem words_ne (l : List Nat) : wordsL l ≠ [] := cutL_ne _ _
theorem words_sign {c : Nat} (l : List Nat) (h : c = 43 ∨ c = 45) : wordsL (c :: l) = [] :: wordsL l := by
  have e : repC c = 43 := by rcases h with rfl | rfl <;> rfl
  unfold wordsL
  rw [List.map_cons, e, cutL, if_pos rfl]
theorem words_other {c : Nat} (l : List Nat) (h : ¬ (c = 43 ∨ c = 45)) : wordsL (c :: l) = headC c (wordsL l) := by
  have e : repC c = c := by unfold repC; rw [if_neg (fun z => h (.inr z))]
  unfold wordsL
  rw [List.map_cons, e, cutL, if_neg (fun z => h (.inl z))]
theorem att_sign {c : Nat} (w l : List Nat) (h : c = 43 ∨ c = 45) : att w (wordsL (c :: l)) = w :: wordsL l := by
  rw [words_sign l h]; simp [att]
theorem att_other {c : Nat} (w l : List Nat) (h : ¬ (c = 43 ∨ c = 45)) : att w (wordsL (c :: l)) = att (w ++ [c]) (wordsL l) := by
  rw [words_other l h, att_head w c _ (words_ne l)]
theorem num_fig {w : List Nat} {n : Int} (h : numW w = some n) : ∀ c ∈ w, isFig c = true := by
  intro c hc
  match w, h, hc with
  | [d], h, hc =>
    simp only [numW] at h
    split at h
    · cases List.mem_singleton.mp hc
      unfold isFig; simp; omega
    · cases h
  | [d, e], h, hc =>
    simp only [numW] at h
    split at h
    · rename_i q
      simp only [List.mem_cons, List.not_mem_nil, or_false] at hc
      unfold isFig
      rcases hc with rfl | rfl <;> (simp; omega)
    · cases h
  | [], h, hc => cases hc
  | _ :: _ :: _ :: _, h, hc => cases h
theorem num_bad {w : List Nat} {c : Nat} (hc : c ∈ w) (h : isFig c = false) : numW w = none := by
  cases e : numW w with
  | none => rfl
  | some n => rw [num_fig e c hc] at h; cases h
theorem num_pos {w : List Nat} {n : Int} (h : numW w = some n) : 1 ≤ n ∧ n ≤ 99 := by
  match w, h with
  | [d], h =>
    simp only [numW] at h
    split at h
    · have := Option.some.inj h; omega
    · cases h
  | [d, e], h =>
    simp only [numW] at h
    split at h
    · have := Option.some.inj h; omega
    · cases h
  | [], h => cases h
  | _ :: _ :: _ :: _, h => cases h
/-- of figures alone: what is no number -/
theorem num_none {w : List Nat} (hf : ∀ c ∈ w, isFig c = true) : numW w = none ↔ (w = [] ∨ 2 < w.length ∨ w[0]? = some 48) := by
  have key : ∀ c, c ∈ w → 48 ≤ c ∧ c ≤ 57 := fun c hc => by have := hf c hc; unfold isFig at this; simpa using this
  match w, key with
  | [], _ => simp [numW]
  | [d], key =>
    have := key d (by simp)
    simp only [numW]
    constructor
    · intro h
      split at h
      · cases h
      · right; right; simp; omega
    · intro h
      simp at h
      rw [if_neg (by omega)]
  | [d, e], key =>
    have h1 := key d (by simp)
    have h2 := key e (by simp)
    simp only [numW]
    constructor
    · intro h
      split at h
      · cases h
      · right; right; simp; omega
    · intro h
      simp at h
      rw [if_neg (by omega)]
  | a :: b :: c :: r, _ => simp [numW]
theorem readA_none {w : List Nat} {ws : List (List Nat)} (h : numW w = none) : readA (w :: ws) = none := by unfold readA; rw [h]
theorem readA_some {w : List Nat} {ws : List (List Nat)} {n : Int} (h : numW w = some n) : readA (w :: ws) = (readA ws).map (n :: ·) := by
  rw [readA, h]
  cases readA ws <;> rfl
theorem readA_len : ∀ {ws : List (List Nat)} {ns : List Int}, readA ws = some ns → ns.length = ws.length ∧ ∀ n ∈ ns, 1 ≤ n ∧ n ≤ 99
  | [], ns, h => by cases h; simp
  | w :: ws, ns, h => by
    cases e : numW w with
    | none => rw [readA_none e] at h; cases h
    | some n =>
      rw [readA_some e] at h
      cases e2 : readA ws with
      | none => rw [e2] at h; cases h
      | some ms =>
        rw [e2] at h
        cases h
        obtain ⟨h1, h2⟩ := readA_len e2
        refine ⟨by simp [h1], fun m hm => ?_⟩
        rcases List.mem_cons.mp hm with rfl | hm
        · exact num_pos e
        · exact h2 m hm
end FR
namespace FR
/-! what the words are made of; words one after the other -/
theorem cutL_mem (s : Nat) : ∀ l : List Nat, ∀ w ∈ cutL s l, w.length ≤ l.length ∧ ∀ c ∈ w, c ∈ l
  | [], w, h => by
    cases List.mem_singleton.mp h
    exact ⟨Nat.le_refl _, fun c hc => nomatch hc⟩
  | d :: l, w, h => by
    have ih := cutL_mem s l
    unfold cutL at h
    split at h
    · rcases List.mem_cons.mp h with rfl | h
      · exact ⟨by simp, fun c hc => nomatch hc⟩
      · exact ⟨by have := (ih w h).1; simp; omega, fun c hc => List.mem_cons_of_mem _ ((ih w h).2 c hc)⟩
    · cases e : cutL s l with
      | nil => exact absurd e (cutL_ne s l)
      | cons x xs =>
        rw [e] at h ih
        rcases List.mem_cons.mp h with rfl | h
        · have := ih x List.mem_cons_self
          refine ⟨by simp; exact this.1, fun c hc => ?_⟩
          rcases List.mem_cons.mp hc with rfl | hc
          · exact List.mem_cons_self
          · exact List.mem_cons_of_mem _ (this.2 c hc)
        · have := ih w (List.mem_cons_of_mem _ h)
          exact ⟨by have := this.1; simp; omega, fun c hc => List.mem_cons_of_mem _ (this.2 c hc)⟩
theorem headC_len (c : Nat) {ws : List (List Nat)} (h : ws ≠ []) : (headC c ws).length = ws.length := by
  cases ws with
  | nil => exact absurd rfl h
  | cons x xs => rfl
theorem cutL_len (s : Nat) : ∀ l : List Nat, (cutL s l).length ≤ l.length + 1
  | [] => Nat.le_refl _
  | d :: l => by
    have ih := cutL_len s l
    unfold cutL
    split
    · simp; exact ih
    · rw [headC_len d (cutL_ne s l)]; simp; omega
theorem words_len (l : List Nat) : (wordsL l).length ≤ l.length + 1 := by
  have := cutL_len 43 (l.map repC)
  rw [List.length_map] at this
  exact this
theorem words_in {l w : List Nat} (h : w ∈ wordsL l) : w.length ≤ l.length ∧ ∀ c ∈ w, c ∈ l ∨ c = 43 := by
  obtain ⟨h1, h2⟩ := cutL_mem 43 _ w h
  rw [List.length_map] at h1
  refine ⟨h1, fun c hc => ?_⟩
  obtain ⟨d, hd, rfl⟩ := List.mem_map.mp (h2 c hc)
  unfold repC
  split
  · exact .inr rfl
  · exact .inl hd
/-- a sign that is no + or - stands in some word -/
theorem words_has {c : Nat} (hs : ¬ (c = 43 ∨ c = 45)) : ∀ l : List Nat, c ∈ l → ∃ w ∈ wordsL l, c ∈ w
  | [], h => nomatch h
  | d :: l, h => by
    rcases List.mem_cons.mp h with rfl | h
    · rw [words_other l hs]
      cases e : wordsL l with
      | nil => exact absurd e (words_ne l)
      | cons x xs => exact ⟨c :: x, List.mem_cons_self, List.mem_cons_self⟩
    · obtain ⟨w, hw, hc⟩ := words_has hs l h
      by_cases hd : d = 43 ∨ d = 45
      · rw [words_sign l hd]
        exact ⟨w, List.mem_cons_of_mem _ hw, hc⟩
      · rw [words_other l hd]
        cases e : wordsL l with
        | nil => exact absurd e (words_ne l)
        | cons x xs =>
          rw [e] at hw
          rcases List.mem_cons.mp hw with rfl | hw
          · exact ⟨d :: w, List.mem_cons_self, List.mem_cons_of_mem _ hc⟩
          · exact ⟨w, List.mem_cons_of_mem _ hw, hc⟩
theorem readA_bad {w : List Nat} (hn : numW w = none) : ∀ {ws : List (List Nat)}, w ∈ ws → readA ws = none
  | [], h => nomatch h
  | x :: ws, h => by
    rcases List.mem_cons.mp h with rfl | h
    · exact readA_none hn
    · have ih := readA_bad hn h
      cases e : numW x with
      | none => exact readA_none e
      | some n => rw [readA_some e, ih]; rfl
/-- a strange sign: no rule -/
theorem readW_bad {l : List Nat} {c : Nat} (hc : c ∈ l) (hs : ¬ (c = 43 ∨ c = 45)) (hf : isFig c = false) : readW l = none := by
  obtain ⟨w, hw, hcw⟩ := words_has hs l hc
  exact readA_bad (num_bad hcw hf) hw
theorem readA_snoc : ∀ {ws : List (List Nat)} {ns : List Int} {w : List Nat} {n : Int}, readA ws = some ns → numW w = some n → readA (ws ++ [w]) = some (ns ++ [n])
  | [], ns, w, n, h, hn => by
    cases h
    rw [List.nil_append, readA_some hn]; rfl
  | x :: ws, ns, w, n, h, hn => by
    cases e : numW x with
    | none => rw [readA_none e] at h; cases h
    | some m =>
      rw [readA_some e] at h
      cases e2 : readA ws with
      | none => rw [e2] at h; cases h
      | some ms =>
        rw [e2] at h
        cases h
        rw [List.cons_append, readA_some e, readA_snoc e2 hn]; rfl
theorem signs_app : ∀ a b : List Nat, signsL (a ++ b) = signsL a ++ signsL b
  | [], _ => rfl
  | c :: a, b => by
    rw [List.cons_append, signsL, signsL, signs_app a b]
    split
    · rfl
    · split <;> rfl
theorem signs_len : ∀ l : List Nat, (signsL l).length ≤ l.length
  | [] => Nat.le_refl _
  | c :: l => by
    have ih := signs_len l
    unfold signsL
    split
    · simp; exact ih
    · split
      · simp; exact ih
      · simp; omega
theorem cutL_snoc (s : Nat) : ∀ l : List Nat, cutL s (l ++ [s]) = cutL s l ++ [[]]
  | [] => by simp [cutL]
  | c :: l => by
    have ih := cutL_snoc s l
    rw [List.cons_append]
    unfold cutL
    split
    · rw [ih]; rfl
    · rw [ih]
      cases e : cutL s l with
      | nil => exact absurd e (cutL_ne s l)
      | cons x xs => rfl
theorem words_snoc (l : List Nat) : (wordsL (l ++ [43])).dropLast = wordsL l := by
  unfold wordsL
  rw [List.map_append]
  show (cutL 43 (l.map repC ++ [43])).dropLast = _
  rw [cutL_snoc, List.dropLast_concat]
/-- what is left, word so far w, signs to come r -/
def readD (w r : List Nat) : Option (List Int) := readA (att w (wordsL r)).dropLast
theorem readD_start (l : List Nat) : readD [] (l ++ [43]) = readW l := by
  unfold readD readW
  rw [att_nil (words_ne _), words_snoc]
theorem readD_end (w : List Nat) : readD w [] = some [] := rfl
theorem readD_sign {w : List Nat} {c : Nat} (r : List Nat) (hc : c = 43 ∨ c = 45) : readD w (c :: r) = readA (w :: (wordsL r).dropLast) := by
  unfold readD
  rw [att_sign w r hc]
  cases e : wordsL r with
  | nil => exact absurd e (words_ne r)
  | cons x xs => rfl
theorem readD_some {w : List Nat} {c : Nat} {n : Int} (r : List Nat) (hc : c = 43 ∨ c = 45) (hn : numW w = some n) : readD w (c :: r) = (readD [] r).map (n :: ·) := by
  rw [readD_sign r hc, readA_some hn]
  unfold readD
  rw [att_nil (words_ne _)]
theorem readD_none {w : List Nat} {c : Nat} (r : List Nat) (hc : c = 43 ∨ c = 45) (hn : numW w = none) : readD w (c :: r) = none := by
  rw [readD_sign r hc, readA_none hn]
theorem readD_other {w : List Nat} {c : Nat} (r : List Nat) (hc : ¬ (c = 43 ∨ c = 45)) : readD w (c :: r) = readD (w ++ [c]) r := by
  unfold readD
  rw [att_other w r hc]
theorem map_app (o : Option (List Int)) (rs : List Int) (n : Int) : (o.map (n :: ·)).map (rs ++ ·) = o.map ((rs ++ [n]) ++ ·) := by
  cases o <;> simp
theorem readW_some {l : List Nat} {rs : List Int} (h : readW l = some rs) : 1 ≤ rs.length ∧ rs.length ≤ l.length + 1 ∧ ∀ n ∈ rs, 1 ≤ n ∧ n ≤ 99 := by
  obtain ⟨h1, h2⟩ := readA_len h
  have := words_len l
  have h3 : 0 < (wordsL l).length := List.length_pos_iff.mpr (words_ne l)
  exact ⟨by omega, by omega, h2⟩
end FR

set_option maxHeartbeats 4000000
local macro_rules | `(tactic| walk_at "rd") => `(tactic| ((try dsimp only [L2.tSeq, L2.tIfS, L2.tOr, L2.tAnd, L2.tNot, L2.tTest, L2.tB, L2.tOp, L2.tUn, L2.tCB, L2.tCons, L2.tNil, L2.tVar, L2.tC, L2.rI0, L2.rI, L2.rU, L2.tNever, L2.tNext, L2.tDrop, L2.tRet, L2.tRetN, L2.tAsg, L2.gName, L2.gTup, L2.gCons, L2.gNil, L2.tCall, L2.tBM, L2.tBM0, L2.rAppend, L2.rClear, L2.rPop, L2.tLst, L2.tTup, L2.rIxL, L2.rIxT, L2.rEq, L2.rNe, L2.rCat, L2.tAndV, L2.tOrV, L2.tNotV, L2.tIf, L2.tBreak, L2.tCont, L2.rIsi, L2.CMul, L2.CDiv, L2.cxK, L2.blkK, L2.capSt, L2.start, List.map_cons, List.map_nil, List.length_cons, List.length_nil, List.replicate_zero, List.replicate_succ, List.nil_append, List.cons_append, List.append_nil, Nat.add_sub_cancel, Nat.reduceAdd, Nat.reduceSub, Nat.sub_self, Nat.zero_add, List.set_cons_zero, List.set_cons_succ, List.getElem?_cons_zero, List.getElem?_cons_succ, Option.join_some, Option.some.injEq, exists_eq_left', exists_eq_left, exists_and_left, exists_eq, exists_eq', List.cons.injEq, L2.V.ref.injEq, L2.V.int.injEq, L2.V.bl.injEq, L2.V.str.injEq, and_true, true_and, if_true, if_false, decide_eq_true_eq, Bool.not_eq_true', Bool.false_eq_true, reduceCtorEq, L2.scalII, L2.scalNI, L2.scalIN, L2.scalBB, L2.scalSS, L2.scalNN, decide_eq_false_iff_not, L2.V.ty.injEq, and_assoc, L2.tTruth, L2.truBl, L2.rLenL, L2.rLenT, L2.rListOf, L2.rMaxL, L2.rMinL, L2.rSortedL, L2.rEqI, L2.rNeI, L2.rEqII, L2.rNeII, L2.tDisp1, L2.tDGet, L2.tDGet2, L2.tDNotIn, L2.tDIn, L2.sDPut, L2.tDNewT, L2.tMinS, L2.rSumT, L2.rSumV, L2.rItems, L2.rValues, L2.tSl, L2.tPart, L2.tNoPart, L2.rSlL, L2.tChain, L2.rIsiE, L2.rCount, L2.rIndex, L2.tRaise, L2.vC, L2.tRepl, L2.tSplit, L2.rIntS, L2.rMulS, L2.rSlS, L2.rIxS, L2.tTry0, L2.iStr]); (try simp only [L2.tSeq, L2.tIfS, L2.tOr, L2.tAnd, L2.tNot, L2.tTest, L2.tB, L2.tOp, L2.tUn, L2.tCB, L2.tCons, L2.tNil, L2.tVar, L2.tC, L2.rI0, L2.rI, L2.rU, L2.tNever, L2.tNext, L2.tDrop, L2.tRet, L2.tRetN, L2.tAsg, L2.gName, L2.gTup, L2.gCons, L2.gNil, L2.tCall, L2.tBM, L2.tBM0, L2.rAppend, L2.rClear, L2.rPop, L2.tLst, L2.tTup, L2.rIxL, L2.rIxT, L2.rEq, L2.rNe, L2.rCat, L2.tAndV, L2.tOrV, L2.tNotV, L2.tIf, L2.tBreak, L2.tCont, L2.rIsi, L2.CMul, L2.CDiv, L2.cxK, L2.blkK, L2.capSt, L2.start, List.map_cons, List.map_nil, List.length_cons, List.length_nil, List.replicate_zero, List.replicate_succ, List.nil_append, List.cons_append, List.append_nil, Nat.add_sub_cancel, Nat.reduceAdd, Nat.reduceSub, Nat.sub_self, Nat.zero_add, List.set_cons_zero, List.set_cons_succ, List.getElem?_cons_zero, List.getElem?_cons_succ, Option.join_some, Option.some.injEq, exists_eq_left', exists_eq_left, exists_and_left, exists_eq, exists_eq', List.cons.injEq, L2.V.ref.injEq, L2.V.int.injEq, L2.V.bl.injEq, L2.V.str.injEq, and_true, true_and, if_true, if_false, decide_eq_true_eq, Bool.not_eq_true', Bool.false_eq_true, reduceCtorEq, L2.scalII, L2.scalNI, L2.scalIN, L2.scalBB, L2.scalSS, L2.scalNN, decide_eq_false_iff_not, L2.V.ty.injEq, and_assoc, L2.tTruth, L2.truBl, L2.rLenL, L2.rLenT, L2.rListOf, L2.rMaxL, L2.rMinL, L2.rSortedL, L2.rEqI, L2.rNeI, L2.rEqII, L2.rNeII, L2.tDisp1, L2.tDGet, L2.tDGet2, L2.tDNotIn, L2.tDIn, L2.sDPut, L2.tDNewT, L2.tMinS, L2.rSumT, L2.rSumV, L2.rItems, L2.rValues, L2.tSl, L2.tPart, L2.tNoPart, L2.rSlL, L2.tChain, L2.rIsiE, L2.rCount, L2.rIndex, L2.tRaise, L2.vC, L2.tRepl, L2.tSplit, L2.rIntS, L2.rMulS, L2.rSlS, L2.rIxS, L2.tTry0, L2.iStr])))
local macro_rules | `(tactic| walk_at "rdT") => `(tactic| ((try dsimp only [L2.ttNil]); (walk_at "rd")))
/-! THE MATHEMATICS A: joints and spans -/
namespace FR

/-- one piece: the turn ahead of it, its length; the place and the way (1 or -1) -/
def stepJ (s : Int × Int) (z : Int × Int) : Int × Int := (s.1 + (if z.1 = 1 then -s.2 else s.2) * z.2, if z.1 = 1 then -s.2 else s.2)
def scanJ (s : Int × Int) : List (Int × Int) → List Int
  | [] => []
  | z :: r => (stepJ s z).1 :: scanJ (stepJ s z) r
/-- the turns with the one that no hinge has -/
def zipJ (rs fs : List Int) : List (Int × Int) := ((0 : Int) :: fs).zip rs
def jointsL (rs fs : List Int) : List Int := 0 :: scanJ (0, 1) (zipJ rs fs)
theorem take_snoc {α : Type} {l : List α} {i : Nat} {x : α} (h : l[i]? = some x) : l.take (i + 1) = l.take i ++ [x] := by
  rw [List.take_add_one, h]; rfl

/-! ### greatest and least -/
def maxZ (ns : List Int) : Int := ns.foldl max 0
def minZ (ns : List Int) : Int := ns.foldl min 0
def spanL (rs fs : List Int) : Int := maxZ (jointsL rs fs) - minZ (jointsL rs fs)
/-- a rule, a folding of it -/
structure IsRule (rs : List Int) : Prop where
  some : 1 ≤ rs.length
  few : rs.length ≤ 12
  lo : ∀ x ∈ rs, 1 ≤ x
  hi : ∀ x ∈ rs, x ≤ 60
structure IsFold (rs fs : List Int) : Prop where
  len : fs.length + 1 = rs.length
  two : ∀ x ∈ fs, x = 0 ∨ x = 1
end FR
/-! THE MATHEMATICS B: rules end to end, told from the other end, greater -/
namespace FR
/-! ### spans -/
/-- c is the shortest case's length -/
structure IsMin (rs : List Int) (c : Int) : Prop where
  has : ∃ fs, IsFold rs fs ∧ spanL rs fs = c
  low : ∀ fs, IsFold rs fs → c ≤ spanL rs fs
end FR
namespace FR
open PySem L2
def top (i : Nat) : Stmt := PySem.Challenge.pw_foldrule_k08_written_and_read.main.body.getD i (.Pass ⟨0, 0, 0, 0⟩)
abbrev s_check_rule : Stmt := top 9
theorem sc_check_rule : FnScope ["rule", "length"] ["rule"] (defScope s_check_rule) := ⟨rfl, rfl, rfl, by decide +kernel, rfl, by decide +kernel, by decide +kernel⟩
abbrev s_check_folding : Stmt := top 10
theorem sc_check_folding : FnScope ["rule", "folding", "turn"] ["rule", "folding"] (defScope s_check_folding) := ⟨rfl, rfl, rfl, by decide +kernel, rfl, by decide +kernel, by decide +kernel⟩
abbrev s_shown : Stmt := top 13
theorem sc_shown : FnScope ["rule", "folding", "text", "turn", "length", "sign"] ["rule", "folding"] (defScope s_shown) := ⟨rfl, rfl, rfl, by decide +kernel, rfl, by decide +kernel, by decide +kernel⟩
abbrev s_is_number : Stmt := top 14
theorem sc_is_number : FnScope ["word", "sign"] ["word"] (defScope s_is_number) := ⟨rfl, rfl, rfl, by decide +kernel, rfl, by decide +kernel, by decide +kernel⟩
abbrev s_read_length : Stmt := top 15
theorem sc_read_length : FnScope ["word"] ["word"] (defScope s_read_length) := ⟨rfl, rfl, rfl, by decide +kernel, rfl, by decide +kernel, by decide +kernel⟩
abbrev s_read : Stmt := top 16
theorem sc_read : FnScope ["text", "words", "rule", "folding"] ["text"] (defScope s_read) := ⟨rfl, rfl, rfl, by decide +kernel, rfl, by decide +kernel, by decide +kernel⟩
abbrev s_law_cell_at : Stmt := top 18
theorem sc_law_cell_at : FnScope ["script", "k"] ["script", "k"] (defScope s_law_cell_at) := ⟨rfl, rfl, rfl, by decide +kernel, rfl, by decide +kernel, by decide +kernel⟩
abbrev s_law_draw : Stmt := top 19
theorem sc_law_draw : FnScope ["script", "k", "stir"] ["script", "k"] (defScope s_law_draw) := ⟨rfl, rfl, rfl, by decide +kernel, rfl, by decide +kernel, by decide +kernel⟩
abbrev s_law_whole : Stmt := top 20
theorem sc_law_whole : FnScope ["found"] ["found"] (defScope s_law_whole) := ⟨rfl, rfl, rfl, by decide +kernel, rfl, by decide +kernel, by decide +kernel⟩
abbrev s_law_rule : Stmt := top 21
theorem sc_law_rule : FnScope ["script", "pieces", "most", "rule"] ["script", "pieces"] (defScope s_law_rule) := ⟨rfl, rfl, rfl, by decide +kernel, rfl, by decide +kernel, by decide +kernel⟩
abbrev s_law_folding : Stmt := top 22
theorem sc_law_folding : FnScope ["script", "start", "pieces"] ["script", "start", "pieces"] (defScope s_law_folding) := ⟨rfl, rfl, rfl, by decide +kernel, rfl, by decide +kernel, by decide +kernel⟩
abbrev s_law_numbers : Stmt := top 23
theorem sc_law_numbers : FnScope ["found", "due"] ["found", "due"] (defScope s_law_numbers) := ⟨rfl, rfl, rfl, by decide +kernel, rfl, by decide +kernel, by decide +kernel⟩
abbrev s_law_alone : Stmt := top 24
theorem sc_law_alone : FnScope ["e", "found"] ["e"] (defScope s_law_alone) := ⟨rfl, rfl, rfl, by decide +kernel, rfl, by decide +kernel, by decide +kernel⟩
abbrev s_law_shown : Stmt := top 25
theorem sc_law_shown : FnScope ["rule", "folding", "text", "k"] ["rule", "folding"] (defScope s_law_shown) := ⟨rfl, rfl, rfl, by decide +kernel, rfl, by decide +kernel, by decide +kernel⟩
abbrev s_law_turned : Stmt := top 26
theorem sc_law_turned : FnScope ["text", "way", "cell", "at", "sign"] ["text", "way", "cell"] (defScope s_law_turned) := ⟨rfl, rfl, rfl, by decide +kernel, rfl, by decide +kernel, by decide +kernel⟩
abbrev s_law_due : Stmt := top 27
theorem sc_law_due : FnScope ["text", "rule", "folding", "word", "sign"] ["text"] (defScope s_law_due) := ⟨rfl, rfl, rfl, by decide +kernel, rfl, by decide +kernel, by decide +kernel⟩
abbrev s_law_told : Stmt := top 28
theorem sc_law_told : FnScope ["text", "found", "e"] ["text"] (defScope s_law_told) := ⟨rfl, rfl, rfl, by decide +kernel, rfl, by decide +kernel, by decide +kernel⟩
abbrev s_law : Stmt := top 29
theorem sc_law : FnScope ["script", "pieces", "rule", "folding", "due", "handed", "text", "turn", "found"] ["script"] (defScope s_law) := ⟨rfl, rfl, rfl, by decide +kernel, rfl, by decide +kernel, by decide +kernel⟩

end FR
namespace FR
open PySem L2
theorem drop_cons {ls : List Int} {i : Nat} {L : Int} (h : ls[i]? = some L) : ls.drop i = L :: ls.drop (i + 1) := by
  obtain ⟨hi, e⟩ := List.getElem?_eq_some_iff.mp h
  rw [List.drop_eq_getElem_cons hi, e]
end FR
namespace FR
open PySem L2
section
variable {P : Program} {w : World} {K : PySem.W.Frag} {mg : Str → Option Value} {base : Heap}
def sp_law_cell_at (K : PySem.W.Frag) : Sp := fun vs H Q _ => ∃ (a : Addr) (ns : List Int) (k : Int), vs = [.ref a, .int k] ∧ SqL K H a (ns.map V.int) ∧ 0 ≤ k ∧ ∀ n, Q (.int n) H
theorem ok_law_cell_at {f : Addr} {fd : FuncData} (F : Fun K "_law_cell_at" "_law_cell_at" s_law_cell_at f fd) (z_len : mg "len" = none) :
    FnOk P w K mg base (CXE P w) 1 f fd ["script", "k"] (sp_law_cell_at K) := by
  refine F.okN sc_law_cell_at (fun vs H Q E h => ?_) (fun cdv A outer s H vs Q E hr h => ?_)
  · obtain ⟨a, ns, k, rfl, _⟩ := h
    rfl
  obtain ⟨a, ns, k, rfl, hS, h0, q⟩ := h
  have ND := sc_law_cell_at.nd
  refine ⟨_, (pss_cons (ps_if (pt_cmpR op_lt (pv 1) (pe_callB (call_lenK K) (by rfl) z_len PySem.boot_len (pa_cons (pv 0) pa_nil)) (nomark _)) (pss_one (ps_ret (pe_ix (ix_listK K) (pv 0) (pv 1) (fun _ _ => rfl)))) pss_nil)
    (pss_one (ps_ret pe_int))), ?_⟩
  walk_at "rd"
  refine ⟨_, hS, ?_⟩
  rw [List.length_map]
  refine ite2 (fun c => ?_) (fun c => q 0)
  obtain ⟨j, rfl⟩ := Int.eq_ofNat_of_zero_le h0
  have hj : j < ns.length := by omega
  exact ⟨_, hS, _, atI_nat (getI (List.getElem?_eq_getElem hj)), q _⟩
/-- a drawn number: only its bounds matter -/
def sp_law_draw (K : PySem.W.Frag) : Sp := fun vs H Q _ => ∃ (a : Addr) (ns : List Int) (k : Int), vs = [.ref a, .int k] ∧ SqL K H a (ns.map V.int) ∧ 0 ≤ k ∧ k ≤ 1000 ∧ ∀ n, 0 ≤ n → n ≤ 268435455 → Q (.int n) H
theorem ok_law_draw {f : Addr} {fd : FuncData} (F : Fun K "_law_draw" "_law_draw" s_law_draw f fd) {f_law_cell_at : Addr} {d_law_cell_at : FuncData} (G_law_cell_at : FnOk P w K mg base (CXE P w) 1 f_law_cell_at d_law_cell_at ["script", "k"] (sp_law_cell_at K)) (m_law_cell_at : mg "_law_cell_at" = some (.ref f_law_cell_at)) (k_law_cell_at : PySem.W.keepIn K (.ref f_law_cell_at) = true) (b_law_cell_at : Binds K d_law_cell_at ["script", "k"] []) :
    FnOk P w K mg base (CXE P w) 2 f fd ["script", "k"] (sp_law_draw K) := by
  refine F.okN sc_law_draw (fun vs H Q E h => ?_) (fun cdv A outer s H vs Q E hr h => ?_)
  · obtain ⟨a, ns, k, rfl, _⟩ := h
    rfl
  obtain ⟨a, ns, k, rfl, hS, h0, h1, q⟩ := h
  have ND := sc_law_draw.nd
  refine ⟨_, (pss_cons (ps_set (i := 2) ND rfl (Or.inl rfl) (pe_op op_mod (pe_op op_mul (pe_op op_add (pe_op op_add (pe_call G_law_cell_at (hr.mono (by omega)) (by rfl) m_law_cell_at k_law_cell_at b_law_cell_at .nil passN (pa_cons (pv 0) (pa_cons (pe_op op_mod (pv 1) pe_int) pa_nil))) (pe_op op_mul pe_int (pv 1))) pe_int) pe_int) pe_int))
    (pss_cons (ps_set (i := 2) ND rfl (Or.inl rfl) (pe_op op_mod (pe_op op_mul (pv 2) (pv 2)) pe_int))
    (pss_one (ps_ret (pe_op op_fdiv (pe_op op_mod (pe_op op_mul (pv 2) pe_int) pe_int) pe_int))))), ?_⟩
  walk_at "rd"
  refine ⟨by decide, a, ns, k % 61, rfl, hS, Int.emod_nonneg _ (by decide), fun n => ?_⟩
  walk_at "rd"
  have l1 : (0 : Int) ≤ (n + 7919 * k + 104729) * 48271 % 2147483647 := Int.emod_nonneg _ (by decide)
  have l2 : (n + 7919 * k + 104729) * 48271 % 2147483647 < 2147483647 := Int.emod_lt_of_pos _ (by decide)
  generalize (n + 7919 * k + 104729) * 48271 % 2147483647 = x at *
  generalize x * x % 2147483647 = y
  have l3 : (0 : Int) ≤ y * 16807 % 2147483647 := Int.emod_nonneg _ (by decide)
  have l4 : y * 16807 % 2147483647 < 2147483647 := Int.emod_lt_of_pos _ (by decide)
  generalize y * 16807 % 2147483647 = z at *
  refine ⟨.inl (by decide), .inr (by decide), by decide, .inl ⟨by omega, by omega⟩, by decide, .inr (by decide), by decide, by decide, by decide, q _ (by omega) (by omega)⟩
def sp_law_whole (K : PySem.W.Frag) : Sp := fun vs H Q _ => ∃ n : Int, vs = [.int n] ∧ Q (.bl true) H
theorem kit_int_int {K : PySem.W.Frag} : PySem.W.kitOne K (.type "int") (.type "int") = some true := by rfl
theorem kit_int_bool {K : PySem.W.Frag} : PySem.W.kitOne K (.type "int") (.type "bool") = some false := by rfl
theorem ok_law_whole {f : Addr} {fd : FuncData} (F : Fun K "_law_whole" "_law_whole" s_law_whole f fd) (z_isinstance : mg "isinstance" = none) (z_bool : mg "bool" = none) (z_int : mg "int" = none) :
    FnOk P w K mg base (CXE P w) 1 f fd ["found"] (sp_law_whole K) := by
  refine F.okN sc_law_whole (fun vs H Q E h => ?_) (fun cdv A outer s H vs Q E hr h => ?_)
  · obtain ⟨n, rfl, _⟩ := h
    rfl
  obtain ⟨n, rfl, q⟩ := h
  refine ⟨_, (pss_one (ps_ret (pe_and (pe_callB (call_isiK K) (by rfl) z_isinstance PyProof.Rows.Boot.«isinstance» (pa_cons (pv 0) (pa_cons (pe_bltn (v := .ty "int") (by rfl) z_int PyProof.Rows.Boot.«int» rfl) pa_nil))) (pe_one (pe_not (pe_callB (call_isiK K) (by rfl) z_isinstance PyProof.Rows.Boot.«isinstance» (pa_cons (pv 0) (pa_cons (pe_bltn (v := .ty "bool") (by rfl) z_bool PyProof.Rows.Boot.«bool» rfl) pa_nil)))))))), ?_⟩
  walk_at "rd"
  refine ⟨_, .int n, _, kit_int_int, ?_⟩
  walk_at "rd"
  exact ⟨_, .int n, _, kit_int_bool, q⟩

/-- a new list: some rule of that many pieces -/
def sp_law_rule (K : PySem.W.Frag) : Sp := fun vs H Q _ => ∃ (a : Addr) (ns : List Int) (k : Int), vs = [.ref a, .int k] ∧ SqL K H a (ns.map V.int) ∧ 1 ≤ k ∧ k ≤ 12 ∧
  ∀ (l : Addr) (H' : Hp) (rs : List Int), NewL H H' l (rs.map V.int) → IsRule rs → (rs.length : Int) = k → Q (.ref l) H'
theorem ok_law_rule {f : Addr} {fd : FuncData} (F : Fun K "_law_rule" "_law_rule" s_law_rule f fd) {f_law_draw : Addr} {d_law_draw : FuncData} (G_law_draw : FnOk P w K mg base (CXE P w) 2 f_law_draw d_law_draw ["script", "k"] (sp_law_draw K)) (m_law_draw : mg "_law_draw" = some (.ref f_law_draw)) (k_law_draw : PySem.W.keepIn K (.ref f_law_draw) = true) (b_law_draw : Binds K d_law_draw ["script", "k"] []) (z_range : mg "range" = none) :
    FnOk P w K mg base (CXE P w) 3 f fd ["script", "pieces"] (sp_law_rule K) := by
  refine F.okN sc_law_rule (fun vs H Q E h => ?_) (fun cdv A outer s H vs Q E hr h => ?_)
  · obtain ⟨a, ns, k, rfl, _⟩ := h
    rfl
  obtain ⟨a, ns, k, rfl, hS, h0, h1, q⟩ := h
  have ND := sc_law_rule.nd
  refine ⟨_, (pss_cons (ps_set (i := 2) ND rfl (Or.inr rfl) (pe_ix (ix_listK K) (pe_lst (pa_cons pe_int (pa_cons pe_int (pa_cons pe_int (pa_cons pe_int pa_nil))))) (pe_op op_mod (pe_call G_law_draw (hr.mono (by omega)) (by rfl) m_law_draw k_law_draw b_law_draw .nil passN (pa_cons (pv 0) (pa_cons pe_int pa_nil))) pe_int) (fun _ _ => rfl)))
    (pss_cons (ps_set (i := 3) ND rfl (Or.inr rfl) (pe_comp (caps := [("most", 2), ("script", 0)]) (comp_scope (by rfl) (by rfl) (by decide) (by rfl)) rfl (pi_range1 (by rfl) z_range (pa_cons (pv 1) pa_nil)) (fun _ _ _ _ => pts_nil) (fun _ _ _ _ => (pe_op op_add pe_int (pe_op op_mod (pe_call G_law_draw (hr.mono (by omega)) (by rfl) m_law_draw k_law_draw b_law_draw .nil passN (pa_cons (pv 2) (pa_cons (pe_op op_add pe_int (pv 0)) pa_nil))) (pv 1))))))
    (pss_cons (ps_if (pt_cmpR op_eq (pe_op op_mod (pe_call G_law_draw (hr.mono (by omega)) (by rfl) m_law_draw k_law_draw b_law_draw .nil passN (pa_cons (pv 0) (pa_cons pe_int pa_nil))) pe_int) pe_int (nomark _)) (pss_one (ps_set (i := 3) ND rfl (Or.inr rfl) (pe_comp (caps := [("rule", 3)]) (comp_scope (by rfl) (by rfl) (by decide) (by rfl)) rfl (pi_range1 (by rfl) z_range (pa_cons (pv 1) pa_nil)) (fun _ _ _ _ => pts_nil) (fun _ _ _ _ => (pe_ix (ix_listK K) (pv 1) (pe_op op_mod (pv 0) pe_int) (fun _ _ => rfl)))))) pss_nil)
    (pss_one (ps_ret (pv 3)))))), ?_⟩
  walk_at "rd"
  refine ⟨by decide, fun p hp => ?_⟩
  have s1 : Same H (upd H p (.lst [.int 4, .int 9, .int 60, .int 20])) := same_new hp _
  have hpp : upd H p (.lst [.int 4, .int 9, .int 60, .int 20]) p = some (.lst [.int 4, .int 9, .int 60, .int 20]) := upd_same
  generalize hH1 : upd H p (.lst [.int 4, .int 9, .int 60, .int 20]) = H1 at *
  refine ⟨a, ns, 2, rfl, s1.seq hS, by decide, by decide, fun d hd0 hd1 => ?_⟩
  have hm : ∃ m : Int, atI ([.int 4, .int 9, .int 60, .int 20] : List V) (d % 4) = some (.int m) ∧ 1 ≤ m ∧ m ≤ 60 := by
    have l1 : 0 ≤ d % 4 := Int.emod_nonneg _ (by decide)
    have l2 : d % 4 < 4 := Int.emod_lt_of_pos _ (by decide)
    have l3 : d % 4 = 0 ∨ d % 4 = 1 ∨ d % 4 = 2 ∨ d % 4 = 3 := by omega
    rcases l3 with e | e | e | e <;> rw [e]
    · exact ⟨4, rfl, by decide, by decide⟩
    · exact ⟨9, rfl, by decide, by decide⟩
    · exact ⟨60, rfl, by decide, by decide⟩
    · exact ⟨20, rfl, by decide, by decide⟩
  obtain ⟨m, hm, m1, m2⟩ := hm
  walk_at "rd"
  refine ⟨by decide, _, SqL.of hpp, _, hm, ?_⟩
  have hS1 : SqL K H1 a (ns.map V.int) := s1.seq hS
  refine ⟨_, rfl, k, rfl, by omega, by omega, comp_range (fun D i H' => SameB D H1 H' ∧ ∃ acc : List Int, H' D = some (.lst (acc.map V.int)) ∧ acc.length = i ∧ ∀ x ∈ acc, 1 ≤ x ∧ x ≤ 60)
    (fun D hD => ⟨(SameB.refl _ _).upd _, [], upd_same, rfl, fun x hx => nomatch hx⟩) (fun D i H' hD hi h => ?_) (fun D H2 hD h => ?_)⟩
  · obtain ⟨h2, acc, h3, h4, h5⟩ := h
    walk_at "rdT"
    refine ⟨a, ns, _, rfl, (h2.same hD).seq hS1, by omega, by omega, fun e he0 he1 => ?_⟩
    walk_at "rd"
    refine ⟨by omega, _, h3, ?_, ?_⟩
    · rw [List.length_map]; exact small12 (by omega)
    · have l1 : 0 ≤ e % m := Int.emod_nonneg _ (by omega)
      have l2 : e % m < m := Int.emod_lt_of_pos _ (by omega)
      refine wn_next hi ⟨h2.upd _, acc ++ [1 + e % m], ?_, by rw [List.length_append, h4]; rfl, fun x hx => ?_⟩
      · rw [upd_same, List.map_append]; rfl
      · rcases List.mem_append.mp hx with hx | hx
        · exact h5 x hx
        · cases List.mem_singleton.mp hx; omega
  · obtain ⟨h2, rs, h3, h4, h5⟩ := h
    have s2 : Same H H2 := s1.trans (h2.same hD)
    have hDn : H D = none := s1.free hD
    refine ⟨a, ns, 3, rfl, s2.seq hS, by decide, by decide, fun d' hd0 hd1 => ?_⟩
    walk_at "rd"
    refine ⟨by decide, ite2 (fun c => ?_) (fun c => q D H2 rs ⟨s2, hDn, h3⟩ ⟨by omega, by omega, fun x hx => (h5 x hx).1, fun x hx => (h5 x hx).2⟩ (by omega))⟩
    refine ⟨_, rfl, k, rfl, by omega, by omega, comp_range (fun D' i H' => SameB D' H2 H' ∧ ∃ acc : List Int, H' D' = some (.lst (acc.map V.int)) ∧ acc.length = i ∧ ∀ x ∈ acc, 1 ≤ x ∧ x ≤ 60)
      (fun D' hD' => ⟨(SameB.refl _ _).upd _, [], upd_same, rfl, fun x hx => nomatch hx⟩) (fun D' i H' hD' hi h => ?_) (fun D' H3 hD' h => ?_)⟩
    · obtain ⟨g2, acc, g3, g4, g5⟩ := h
      walk_at "rdT"
      have li : (0 + (i : Int)) % 2 = ((i % 2 : Nat) : Int) := by omega
      have lt : i % 2 < rs.length := by omega
      refine ⟨by decide, _, SqL.of (g2 D _ (ne_of_none h3 hD') h3), _, by rw [li]; exact atI_nat (getI (List.getElem?_eq_getElem lt)), _, g3, ?_, ?_⟩
      · rw [List.length_map]; exact small12 (by omega)
      · refine wn_next hi ⟨g2.upd _, acc ++ [rs[i % 2]], ?_, by rw [List.length_append, g4]; rfl, fun x hx => ?_⟩
        · rw [upd_same, List.map_append]; rfl
        · rcases List.mem_append.mp hx with hx | hx
          · exact g5 x hx
          · cases List.mem_singleton.mp hx; exact h5 _ (List.getElem_mem lt)
    · obtain ⟨g2, rs', g3, g4, g5⟩ := h
      exact q D' H3 rs' ⟨s2.trans (g2.same hD'), s2.free hD', g3⟩ ⟨by omega, by omega, fun x hx => (g5 x hx).1, fun x hx => (g5 x hx).2⟩ (by omega)
/-- a new list: some folding of a rule of that many pieces -/
def sp_law_folding (K : PySem.W.Frag) : Sp := fun vs H Q _ => ∃ (a : Addr) (ns : List Int) (t k : Int), vs = [.ref a, .int t, .int k] ∧ SqL K H a (ns.map V.int) ∧ 0 ≤ t ∧ t ≤ 100 ∧ 1 ≤ k ∧ k ≤ 12 ∧
  ∀ (l : Addr) (H' : Hp) (fs : List Int), NewL H H' l (fs.map V.int) → (∀ x ∈ fs, x = 0 ∨ x = 1) → (fs.length : Int) + 1 = k → Q (.ref l) H'
theorem ok_law_folding {f : Addr} {fd : FuncData} (F : Fun K "_law_folding" "_law_folding" s_law_folding f fd) {f_law_draw : Addr} {d_law_draw : FuncData} (G_law_draw : FnOk P w K mg base (CXE P w) 2 f_law_draw d_law_draw ["script", "k"] (sp_law_draw K)) (m_law_draw : mg "_law_draw" = some (.ref f_law_draw)) (k_law_draw : PySem.W.keepIn K (.ref f_law_draw) = true) (b_law_draw : Binds K d_law_draw ["script", "k"] []) (z_range : mg "range" = none) :
    FnOk P w K mg base (CXE P w) 3 f fd ["script", "start", "pieces"] (sp_law_folding K) := by
  refine F.okN sc_law_folding (fun vs H Q E h => ?_) (fun cdv A outer s H vs Q E hr h => ?_)
  · obtain ⟨a, ns, t, k, rfl, _⟩ := h
    rfl
  obtain ⟨a, ns, t, k, rfl, hS, t0, t1, h0, h1, q⟩ := h
  have ND := sc_law_folding.nd
  refine ⟨_, (pss_one (ps_ret (pe_comp (caps := [("script", 0), ("start", 1)]) (comp_scope (by rfl) (by rfl) (by decide) (by rfl)) rfl (pi_range1 (by rfl) z_range (pa_cons (pe_op op_sub (pv 2) pe_int) pa_nil)) (fun _ _ _ _ => pts_nil) (fun _ _ _ _ => (pe_op op_mod (pe_call G_law_draw (hr.mono (by omega)) (by rfl) m_law_draw k_law_draw b_law_draw .nil passN (pa_cons (pv 1) (pa_cons (pe_op op_add (pv 2) (pv 0)) pa_nil))) pe_int))))), ?_⟩
  refine ⟨_, rfl, _, _, rfl, rfl, k - 1, rfl, by omega, by omega, comp_range (fun D i H' => SameB D H H' ∧ ∃ acc : List Int, H' D = some (.lst (acc.map V.int)) ∧ acc.length = i ∧ ∀ x ∈ acc, x = 0 ∨ x = 1)
    (fun D hD => ⟨(SameB.refl _ _).upd _, [], upd_same, rfl, fun x hx => nomatch hx⟩) (fun D i H' hD hi h => ?_) (fun D H2 hD h => ?_)⟩
  · obtain ⟨h2, acc, h3, h4, h5⟩ := h
    walk_at "rdT"
    refine ⟨a, ns, _, rfl, (h2.same hD).seq hS, by omega, by omega, fun e he0 he1 => ?_⟩
    walk_at "rd"
    refine ⟨by decide, _, h3, ?_, ?_⟩
    · rw [List.length_map]; exact small12 (by omega)
    · have l1 : 0 ≤ e % 2 := Int.emod_nonneg _ (by decide)
      have l2 : e % 2 < 2 := Int.emod_lt_of_pos _ (by decide)
      refine wn_next hi ⟨h2.upd _, acc ++ [e % 2], ?_, by rw [List.length_append, h4]; rfl, fun x hx => ?_⟩
      · rw [upd_same, List.map_append]; rfl
      · rcases List.mem_append.mp hx with hx | hx
        · exact h5 x hx
        · cases List.mem_singleton.mp hx; omega
  · obtain ⟨h2, fs, h3, h4, h5⟩ := h
    exact q D H2 fs ⟨h2.same hD, hD, h3⟩ h5 (by omega)
/-- two lists of ints: the same ints -/
def sp_law_numbers (K : PySem.W.Frag) : Sp := fun vs H Q _ => ∃ (a b : Addr) (ns ms : List Int), vs = [.ref a, .ref b] ∧ H a = some (.lst (ns.map V.int)) ∧ H b = some (.lst (ms.map V.int)) ∧ ns.length ≤ 850 ∧ ns = ms ∧
  ∀ H' : Hp, Same H H' → Q (.bl true) H'
theorem kit_list {K : PySem.W.Frag} : PySem.W.kitOne K (.type "list") (.type "list") = some true := by rfl
theorem no_false (n : Nat) : inV (.bl false) (List.replicate n (V.bl true)) = false := by
  induction n with
  | zero => rfl
  | succ n ih => rw [List.replicate_succ]; exact ih
theorem ok_law_numbers {f : Addr} {fd : FuncData} (F : Fun K "_law_numbers" "_law_numbers" s_law_numbers f fd) {f_law_whole : Addr} {d_law_whole : FuncData} (G_law_whole : FnOk P w K mg base (CXE P w) 1 f_law_whole d_law_whole ["found"] (sp_law_whole K)) (m_law_whole : mg "_law_whole" = some (.ref f_law_whole)) (k_law_whole : PySem.W.keepIn K (.ref f_law_whole) = true) (b_law_whole : Binds K d_law_whole ["found"] []) (z_isinstance : mg "isinstance" = none) (z_list : mg "list" = none) :
    FnOk P w K mg base (CXE P w) 2 f fd ["found", "due"] (sp_law_numbers K) := by
  refine F.okN sc_law_numbers (fun vs H Q E h => ?_) (fun cdv A outer s H vs Q E hr h => ?_)
  · obtain ⟨a, b, ns, ms, rfl, _⟩ := h
    rfl
  obtain ⟨a, b, ns, ms, rfl, hS, hT, hL, hE, q⟩ := h
  have ND := sc_law_numbers.nd
  have hu64 := hu64_of hr
  refine ⟨_, (pss_cons (ps_if (pw_or (pt_not (pt_truthK K (pe_callB (call_isiK K) (by rfl) z_isinstance PyProof.Rows.Boot.«isinstance» (pa_cons (pv 0) (pa_cons (pe_bltn (v := .ty "list") (by rfl) z_list PyProof.Rows.Boot.«list» rfl) pa_nil))) (fun _ => rfl))) (pw_or1 (pt_cmpR (op_neIK K hu64) (pv 0) (pv 1) (nomark _)))).pt (pss_one (ps_ret pe_bl)) pss_nil)
    (pss_one (ps_ret (pe_cmpR (op_notInK K) pe_bl (pe_comp (caps := []) (comp_scope (by rfl) (by rfl) (by decide) (by rfl)) rfl (pi_listK K (pv 0)) (fun _ _ _ _ => pts_nil) (fun _ _ _ _ => (pe_call G_law_whole (hr.mono (by omega)) (by rfl) m_law_whole k_law_whole b_law_whole .nil passN (pa_cons (pv 0) pa_nil)))) (by with_unfolding_all rfl))))), ?_⟩
  walk_at "rd"
  refine ⟨_, .lst hS, _, kit_list, ?_⟩
  rw [if_neg (by decide)]
  refine ⟨ns, SqL.of hS, ms, SqL.of hT, ?_⟩
  rw [if_neg (fun z => z hE)]
  refine ⟨_, rfl, a, rfl, ⟨_, SqL.of hS⟩, comp_list (xs := ns.map V.int) (fun D i H' => SameB D H H' ∧ H' D = some (.lst (List.replicate i (V.bl true)))) (fun D hD => ⟨(SameB.refl _ _).upd _, upd_same⟩)
    (fun D i H' hD _ h => SqL.of (h.1 a _ (ne_of_none hS hD) hS)) (fun D i x H' hD hx h => ?_) (fun D H2 hD h => ?_)⟩
  · obtain ⟨h1, h2⟩ := h
    obtain ⟨n, hn, rfl⟩ := ofGetI hx
    have li := (List.getElem?_eq_some_iff.mp hn).1
    walk_at "rdT"
    refine ⟨n, rfl, _, h2, ?_, wn_next (by rw [List.length_map]; exact li) ⟨h1.upd _, ?_⟩⟩
    · rw [List.length_replicate]; exact small12 (by omega)
    · rw [upd_same, List.replicate_succ']
  · obtain ⟨h1, h2⟩ := h
    refine ⟨D, _, rfl, .inl (SqL.of h2), rfl, ?_, ?_⟩
    · rw [List.all_eq_true]
      intro x hx
      rw [List.eq_of_mem_replicate hx]; rfl
    · rw [if_pos rfl, no_false]
      exact q H2 (h1.same hD)
end
end FR
namespace FR
open PySem L2
section
variable {P : Program} {w : World} {K : PySem.W.Frag} {mg : Str → Option Value} {base : Heap}
-- ALWAYS
/-- the lists at the addresses -/
structure AtAll (H : Hp) (refs : List Addr) (fs : List (List Int)) : Prop where
  len : refs.length = fs.length
  at_ : ∀ (i : Nat) (r : Addr) (f : List Int), refs[i]? = some r → fs[i]? = some f → H r = some (.lst (f.map V.int))
theorem AtAll.same {H H' : Hp} {refs : List Addr} {fs : List (List Int)} (h : AtAll H refs fs) (g : ∀ r ∈ refs, ∀ o, H r = some o → H' r = some o) : AtAll H' refs fs :=
  ⟨h.len, fun i r f h1 h2 => g r (List.mem_of_getElem? h1) _ (h.at_ i r f h1 h2)⟩
theorem AtAll.snoc {H : Hp} {refs : List Addr} {fs : List (List Int)} (h : AtAll H refs fs) {r : Addr} {f : List Int} (hr : H r = some (.lst (f.map V.int))) : AtAll H (refs ++ [r]) (fs ++ [f]) := by
  refine ⟨by rw [List.length_append, List.length_append, h.len]; rfl, fun i r' f' h1 h2 => ?_⟩
  by_cases hi : i < refs.length
  · rw [List.getElem?_append_left hi] at h1
    rw [List.getElem?_append_left (by rw [← h.len]; exact hi)] at h2
    exact h.at_ i r' f' h1 h2
  · have hl := (List.getElem?_eq_some_iff.mp h1).1
    rw [List.length_append] at hl
    have e : i = refs.length := by simp at hl; omega
    subst e
    rw [List.getElem?_append_right (Nat.le_refl _)] at h1
    rw [List.getElem?_append_right (by rw [h.len]; exact Nat.le_refl _), h.len] at h2
    simp at h1 h2
    subst h1 h2; exact hr
theorem AtAll.mem {H : Hp} {refs : List Addr} {fs : List (List Int)} (h : AtAll H refs fs) {r : Addr} (hr : r ∈ refs) : ∃ f ∈ fs, H r = some (.lst (f.map V.int)) := by
  obtain ⟨i, hi⟩ := List.getElem?_of_mem hr
  have hl := (List.getElem?_eq_some_iff.mp hi).1
  have hf : fs[i]? = some (fs[i]'(by rw [← h.len]; exact hl)) := List.getElem?_eq_getElem _
  exact ⟨_, List.mem_of_getElem? hf, h.at_ i r _ hi hf⟩
structure LA (H : Hp) (l lg : Addr) (refs : List Addr) (A : List (List Int)) (H' : Hp) (refs2 : List Addr) (G : List (List Int)) : Prop where
  same : Same H H'
  hl : H' l = some (.lst (refs.map V.ref))
  hA : AtAll H' refs A
  hlg : H' lg = some (.lst (refs2.map V.ref))
  h2 : AtAll H' refs2 G
  fr : ∀ r ∈ refs2, H r = none ∧ r ≠ lg
theorem LA.step {H : Hp} {l lg : Addr} {refs : List Addr} {A : List (List Int)} {H' : Hp} {refs2 : List Addr} {G : List (List Int)} (h : LA H l lg refs A H' refs2 G) (lgn : H lg = none) (llg : l ≠ lg) (rlg : ∀ r ∈ refs, r ≠ lg) {f : List Int} {t : Int} {p1 c1 : Addr}
    (hp1 : H' p1 = none) (hc1 : upd H' p1 (.lst [.int t]) c1 = none) : LA H l lg refs A (upd (upd (upd H' p1 (.lst [.int t])) c1 (.lst (f.map V.int ++ [.int t]))) lg (.lst (refs2.map V.ref ++ [.ref c1]))) (refs2 ++ [c1]) (G ++ [f ++ [t]]) := by
  have kp : ∀ {b : Addr} {u : HO}, b ≠ lg → H' b = some u → upd (upd (upd H' p1 (.lst [.int t])) c1 (.lst (f.map V.int ++ [.int t]))) lg (.lst (refs2.map V.ref ++ [.ref c1])) b = some u := fun hb e => by
    rw [upd_ne hb]; exact upd_keep (upd_keep e hp1) hc1
  have c1lg : c1 ≠ lg := fun z => by rw [z, upd_keep h.hlg hp1] at hc1; cases hc1
  refine ⟨fun b u e => kp (ne_of_none e lgn) (h.same b u e), kp llg h.hl, h.hA.same fun r hr o e => kp (rlg r hr) e, by rw [upd_same, List.map_append]; rfl, ?_, fun r hr => ?_⟩
  · refine (h.h2.same fun r hr o e => kp (h.fr r hr).2 e).snoc ?_
    rw [upd_ne c1lg, upd_same, List.map_append]; rfl
  · rcases List.mem_append.mp hr with hr | hr
    · exact h.fr r hr
    · cases List.mem_singleton.mp hr
      refine ⟨?_, c1lg⟩
      cases e : H c1 with
      | none => rfl
      | some u => rw [upd_keep (h.same _ _ e) hp1] at hc1; cases hc1
/-- which of the four the exception is -/
def sp_law_alone (K : PySem.W.Frag) : Sp := fun vs H Q _ => ∃ (a : Addr) (nm : Str) (j : Nat), vs = [.ref a] ∧ H a = some (exO a (clsA K nm)) ∧ kidN[j]? = some nm ∧ ∀ H' : Hp, Same H H' → Q (.int (j : Int)) H'
theorem kid_cases {j : Nat} {nm : Str} (h : kidN[j]? = some nm) : (j = 0 ∧ nm = "BadRule") ∨ (j = 1 ∧ nm = "BadFolding") ∨ (j = 2 ∧ nm = "NoSuch") ∨ (j = 3 ∧ nm = "NoText") := by
  match j with
  | 0 => left; exact ⟨rfl, by simpa [kidN] using h.symm⟩
  | 1 => right; left; exact ⟨rfl, by simpa [kidN] using h.symm⟩
  | 2 => right; right; left; exact ⟨rfl, by simpa [kidN] using h.symm⟩
  | 3 => right; right; right; exact ⟨rfl, by simpa [kidN] using h.symm⟩
  | k + 4 => simp [kidN] at h
theorem ok_law_alone {f : Addr} {fd : FuncData} (F : Fun K "_law_alone" "_law_alone" s_law_alone f fd) (Er : Errs K mg) (z_isinstance : mg "isinstance" = none) (z_ValueError : mg "ValueError" = none) :
    FnOk P w K mg base (CXE P w) 1 f fd ["e"] (sp_law_alone K) := by
  refine F.okN sc_law_alone (fun vs H Q E h => ?_) (fun cdv A outer s H vs Q E hr h => ?_)
  · obtain ⟨a, nm, j, rfl, _⟩ := h
    rfl
  obtain ⟨a, nm, j, rfl, ha, hj, q⟩ := h
  have ND := sc_law_alone.nd
  have hm : nm ∈ kidN := List.mem_of_getElem? hj
  refine ⟨_, (pss_cons (ps_set (i := 1) ND rfl (Or.inl rfl) (pe_lst (pa_cons (pe_callB (call_isiE K) (by rfl) z_isinstance PyProof.Rows.Boot.«isinstance» (pa_cons (pv 0) (pa_cons (pe_glob (v := .ref (clsA K "BadRule")) (by rfl) (Er.m "BadRule" (by decide)) rfl) pa_nil))) (pa_cons (pe_callB (call_isiE K) (by rfl) z_isinstance PyProof.Rows.Boot.«isinstance» (pa_cons (pv 0) (pa_cons (pe_glob (v := .ref (clsA K "BadFolding")) (by rfl) (Er.m "BadFolding" (by decide)) rfl) pa_nil))) (pa_cons (pe_callB (call_isiE K) (by rfl) z_isinstance PyProof.Rows.Boot.«isinstance» (pa_cons (pv 0) (pa_cons (pe_glob (v := .ref (clsA K "NoSuch")) (by rfl) (Er.m "NoSuch" (by decide)) rfl) pa_nil))) (pa_cons (pe_callB (call_isiE K) (by rfl) z_isinstance PyProof.Rows.Boot.«isinstance» (pa_cons (pv 0) (pa_cons (pe_glob (v := .ref (clsA K "NoText")) (by rfl) (Er.m "NoText" (by decide)) rfl) pa_nil))) pa_nil))))))
    (pss_cons (ps_if (pw_or (pt_not (pt_truthK K (pe_callB (call_isiE K) (by rfl) z_isinstance PyProof.Rows.Boot.«isinstance» (pa_cons (pv 0) (pa_cons (pe_glob (v := .ref (clsA K "RuleError")) (by rfl) (Er.m "RuleError" (by decide)) rfl) pa_nil))) (fun _ => rfl))) (pw_or (pt_not (pt_truthK K (pe_callB (call_isiE K) (by rfl) z_isinstance PyProof.Rows.Boot.«isinstance» (pa_cons (pv 0) (pa_cons (pe_bltn (v := .ty "ValueError") (by rfl) z_ValueError PyProof.Rows.Boot.«ValueError» rfl) pa_nil))) (fun _ => rfl))) (pw_or1 (pt_cmpR op_ne (pe_bmK K PySem.F.plainAttrs_list PySem.F.slot_list_count PySem.F.type_list_count (mt_count K) (pv 1) (pa_cons pe_bl pa_nil)) pe_int (nomark _))))).pt (pss_one (ps_ret (pe_un un_neg pe_int))) pss_nil)
    (pss_one (ps_ret (pe_bmK K PySem.F.plainAttrs_list PySem.F.slot_list_index PySem.F.type_list_index (mt_index K) (pv 1) (pa_cons pe_bl pa_nil)))))), ?_⟩
  refine seq_hide fun B1 e1 => ?_
  walk_at "rd"
  have hI := Er.i nm hm
  have hK := Er.k nm hm
  refine ⟨_, ha, hI, _, hK "BadRule" (by decide), _, ha, hI, _, hK "BadFolding" (by decide), _, ha, hI, _, hK "NoSuch" (by decide), _, ha, hI, _, hK "NoText" (by decide), (by decide : 4 ≤ sizeLine), fun p hp => ?_⟩
  have s1 := same_new hp (.lst [.bl (decide (nm = "BadRule")), .bl (decide (nm = "BadFolding")), .bl (decide (nm = "NoSuch")), .bl (decide (nm = "NoText"))])
  have hp1 : upd H p (.lst [.bl (decide (nm = "BadRule")), .bl (decide (nm = "BadFolding")), .bl (decide (nm = "NoSuch")), .bl (decide (nm = "NoText"))]) p = some (.lst ([decide (nm = "BadRule"), decide (nm = "BadFolding"), decide (nm = "NoSuch"), decide (nm = "NoText")].map V.bl)) := upd_same
  generalize upd H p (.lst [.bl (decide (nm = "BadRule")), .bl (decide (nm = "BadFolding")), .bl (decide (nm = "NoSuch")), .bl (decide (nm = "NoText"))]) = H1 at *
  have ha' := s1 _ _ ha
  subst e1
  refine seq_hide fun B1 e1 => ?_
  walk_at "rd"
  refine ⟨_, ha', hI, true, Er.kR nm hm, ?_⟩
  rw [if_neg (by decide)]
  refine ⟨_, ha', hI, true, Er.kV nm hm, ?_⟩
  rw [if_neg (by decide)]
  refine ⟨tyL hp1, _, SqL.of hp1, ?_⟩
  have q' := q H1 s1
  split
  · next hc =>
    rcases kid_cases hj with ⟨rfl, rfl⟩ | ⟨rfl, rfl⟩ | ⟨rfl, rfl⟩ | ⟨rfl, rfl⟩ <;> exact absurd (by decide) hc
  subst e1
  walk_at "rd"
  rcases kid_cases hj with ⟨rfl, rfl⟩ | ⟨rfl, rfl⟩ | ⟨rfl, rfl⟩ | ⟨rfl, rfl⟩
  · exact ⟨tyL hp1, _, SqL.of hp1, 0, rfl, fun m hm => by omega, by decide, q'⟩
  · refine ⟨tyL hp1, _, SqL.of hp1, 1, rfl, fun m hm => ?_, by decide, q'⟩
    match m, hm with
    | 0, _ => exact (by decide)
  · refine ⟨tyL hp1, _, SqL.of hp1, 2, rfl, fun m hm => ?_, by decide, q'⟩
    match m, hm with
    | 0, _ => exact (by decide)
    | 1, _ => exact (by decide)
  · refine ⟨tyL hp1, _, SqL.of hp1, 3, rfl, fun m hm => ?_, by decide, q'⟩
    match m, hm with
    | 0, _ => exact (by decide)
    | 1, _ => exact (by decide)
    | 2, _ => exact (by decide)
end
end FR
namespace FR
open PySem L2
-- ALWAYS
/-- refused with this class, all that was there staying -/
def Ref (K : PySem.W.Frag) (H : Hp) (E : XK) (c : Str) : Prop := ∀ H' : Hp, Same H H' → E (.ref (clsA K c)) none H'
theorem Ref.mono {K : PySem.W.Frag} {H H1 : Hp} {E : XK} {c : Str} (h : Ref K H E c) (g : Same H H1) : Ref K H1 E c := fun H' g' => h H' (g.trans g')
theorem Ref.now {K : PySem.W.Frag} {H : Hp} {E : XK} {c : Str} (h : Ref K H E c) : E (.ref (clsA K c)) none H := h H (Same.refl H)
def sp_check_rule (K : PySem.W.Frag) : Sp := fun vs H Q E => ∃ (a : Addr) (rs : List Int), vs = [.ref a] ∧ SqL K H a (rs.map V.int) ∧ (IsRule rs → Q .non H) ∧ (¬ IsRule rs → Ref K H E "BadRule")
section
variable {P : Program} {w : World} {K : PySem.W.Frag} {mg : Str → Option Value} {base : Heap}
theorem ok_check_rule {f : Addr} {fd : FuncData} (F : Fun K "check_rule" "check_rule" s_check_rule f fd) (Er : Errs K mg) (z_len : mg "len" = none) {t_LONGEST_PIECE : Tok} (m_LONGEST_PIECE : mg "LONGEST_PIECE" = some (.int 60 t_LONGEST_PIECE)) {t_MOST_PIECES : Tok} (m_MOST_PIECES : mg "MOST_PIECES" = some (.int 12 t_MOST_PIECES)) :
    FnOk P w K mg base (CXE2 P w) 1 f fd ["rule"] (sp_check_rule K) := by
  refine F.okX sc_check_rule (fun vs H Q E h => ?_) (fun cdv A outer s H vs Q E hr h => ?_)
  · obtain ⟨a, rs, rfl, _⟩ := h
    rfl
  obtain ⟨a, rs, rfl, hS, q, x0⟩ := h
  have ND := sc_check_rule.nd
  refine ⟨_, (pss_cons (ps_if (pw_or (pt_cmpR op_lt (pe_callB (call_lenK K) (by rfl) z_len PySem.boot_len (pa_cons (pv 0) pa_nil)) pe_int (nomark _)) (pw_or1 (pt_cmpR op_gt (pe_callB (call_lenK K) (by rfl) z_len PySem.boot_len (pa_cons (pv 0) pa_nil)) (pe_glob (v := .int 12) (by rfl) m_MOST_PIECES ⟨_, rfl⟩) (nomark _)))).pt (pss_one (ps_raise2 (Er.q "BadRule" (by decide)) (by rfl) (Er.m "BadRule" (by decide)) (pa_cons (pe_fstr3 pe_str (pe_glob (v := .int 12) (by rfl) m_MOST_PIECES ⟨_, rfl⟩) pe_str) pa_nil))) pss_nil)
    (pss_one (ps_for PassesOwn.leaving rfl (pi_listK K (pv 0)) (pg_name (i := 1) ND rfl (Or.inl rfl)) (pss_one (ps_if (pw_or (pt_cmpR op_lt (pv 1) pe_int (nomark _)) (pw_or1 (pt_cmpR op_gt (pv 1) (pe_glob (v := .int 60) (by rfl) m_LONGEST_PIECE ⟨_, rfl⟩) (nomark _)))).pt (pss_one (ps_raise2 (Er.q "BadRule" (by decide)) (by rfl) (Er.m "BadRule" (by decide)) (pa_cons (pe_fstr2 pe_str (pe_glob (v := .int 60) (by rfl) m_LONGEST_PIECE ⟨_, rfl⟩)) pa_nil))) pss_nil))))), ?_⟩
  walk_at "rd"
  refine ⟨_, hS, ?_⟩
  rw [List.length_map]
  refine ite2 (fun hb y => ⟨(by decide : 1 ≤ sizeLine), (x0 fun R => by have := R.some; omega).now⟩) (fun hb => ⟨_, hS, ?_⟩)
  rw [List.length_map]
  refine ite2 (fun hc y => ⟨(by decide : 1 ≤ sizeLine), (x0 fun R => by have := R.few; omega).now⟩) (fun hc => ?_)
  refine ⟨_, rfl, a, rfl, ⟨_, hS⟩, for_list (xs := rs.map V.int) (fun i σ H' => H' = H ∧ (∃ o, σ = [some (.ref a), o]) ∧ ∀ x ∈ rs.take i, 1 ≤ x ∧ x ≤ 60) ⟨rfl, ⟨_, rfl⟩, fun x hx => by simp at hx⟩ (fun i σ H' _ h => h.1 ▸ hS) (fun i x σ H' hx h => ?_) (fun σ H' h => ?_)⟩
  · obtain ⟨rfl, ⟨o, rfl⟩, hall⟩ := h
    obtain ⟨n, hn, rfl⟩ := ofGetI hx
    have hm := List.mem_of_getElem? hn
    walk_at "rd"
    refine ite2 (fun hb y => ⟨(by decide : 1 ≤ sizeLine), (x0 fun R => by have := R.lo n hm; omega).now⟩) (fun hb => ?_)
    refine ite2 (fun hc y => ⟨(by decide : 1 ≤ sizeLine), (x0 fun R => by have := R.hi n hm; omega).now⟩) (fun hc => ?_)
    rw [take_snoc hn]
    intro x hx
    rcases List.mem_append.mp hx with hx | hx
    · exact hall x hx
    · rw [List.mem_singleton] at hx; subst hx; omega
  · obtain ⟨rfl, _, hall⟩ := h
    rw [List.length_map, List.take_length] at hall
    exact q ⟨by omega, by omega, fun x hx => (hall x hx).1, fun x hx => (hall x hx).2⟩

def sp_check_folding (K : PySem.W.Frag) : Sp := fun vs H Q E => ∃ (a b : Addr) (rs fs : List Int), vs = [.ref a, .ref b] ∧ SqL K H a (rs.map V.int) ∧ SqL K H b (fs.map V.int) ∧ (IsRule rs → IsFold rs fs → Q .non H) ∧ (¬ IsRule rs → Ref K H E "BadRule") ∧ (IsRule rs → ¬ IsFold rs fs → Ref K H E "BadFolding")
theorem ok_check_folding {f : Addr} {fd : FuncData} (F : Fun K "check_folding" "check_folding" s_check_folding f fd) {f_check_rule : Addr} {d_check_rule : FuncData} (G_check_rule : FnOk P w K mg base (CXE P w) 1 f_check_rule d_check_rule ["rule"] (sp_check_rule K)) (m_check_rule : mg "check_rule" = some (.ref f_check_rule)) (k_check_rule : PySem.W.keepIn K (.ref f_check_rule) = true) (b_check_rule : Binds K d_check_rule ["rule"] []) (Er : Errs K mg) (z_len : mg "len" = none) :
    FnOk P w K mg base (CXE P w) 2 f fd ["rule", "folding"] (sp_check_folding K) := by
  refine F.okX sc_check_folding (fun vs H Q E h => ?_) (fun cdv A outer s H vs Q E hr h => ?_)
  · obtain ⟨a, b, rs, fs, rfl, _⟩ := h
    rfl
  obtain ⟨a, b, rs, fs, rfl, hS, hT, q, x0, x1⟩ := h
  have ND := sc_check_folding.nd
  refine ⟨_, (pss_cons (ps_expr (pe_call G_check_rule (hr.mono (by omega)) (by rfl) m_check_rule k_check_rule b_check_rule .nil (passE (fun _ _ _ z => z)) (pa_cons (pv 0) pa_nil)))
    (pss_cons (ps_if (pt_cmpR op_ne (pe_callB (call_lenK K) (by rfl) z_len PySem.boot_len (pa_cons (pv 1) pa_nil)) (pe_op op_sub (pe_callB (call_lenK K) (by rfl) z_len PySem.boot_len (pa_cons (pv 0) pa_nil)) pe_int) (nomark _)) (pss_one (ps_raise (Er.q "BadFolding" (by decide)) (by rfl) (Er.m "BadFolding" (by decide)) (pa_cons pe_str pa_nil))) pss_nil)
    (pss_one (ps_for PassesOwn.leaving rfl (pi_listK K (pv 1)) (pg_name (i := 2) ND rfl (Or.inl rfl)) (pss_one (ps_if (pw_and (pt_cmpR op_ne (pv 2) pe_int (nomark _)) (pw_and1 (pt_cmpR op_ne (pv 2) pe_int (nomark _)))).pt (pss_one (ps_raise (Er.q "BadFolding" (by decide)) (by rfl) (Er.m "BadFolding" (by decide)) (pa_cons pe_str pa_nil))) pss_nil)))))), ?_⟩
  walk_at "rd"
  refine ⟨a, rs, rfl, hS, fun hR => ?_, x0⟩
  have h0 := hR.some
  refine ⟨_, hT, _, hS, ?_⟩
  rw [List.length_map, List.length_map]
  refine ite2 (fun hb => ⟨(by decide : 1 ≤ sizeLine), (x1 hR fun R => by have := R.len; omega).now⟩) (fun hb => ?_)
  refine ⟨_, rfl, b, rfl, ⟨_, hT⟩, for_list (xs := fs.map V.int) (fun i σ H' => H' = H ∧ (∃ o, σ = [some (.ref a), some (.ref b), o]) ∧ ∀ x ∈ fs.take i, x = 0 ∨ x = 1) ⟨rfl, ⟨_, rfl⟩, fun x hx => by simp at hx⟩ (fun i σ H' _ h => h.1 ▸ hT) (fun i x σ H' hx h => ?_) (fun σ H' h => ?_)⟩
  · obtain ⟨rfl, ⟨o, rfl⟩, hall⟩ := h
    obtain ⟨n, hn, rfl⟩ := ofGetI hx
    have hm := List.mem_of_getElem? hn
    walk_at "rd"
    refine ite2 (fun hb => ite2 (fun hc => ⟨(by decide : 1 ≤ sizeLine), (x1 hR fun R => by have := R.two n hm; omega).now⟩) (fun hc => ?_)) (fun hb => ?_)
    all_goals
      rw [take_snoc hn]
      intro x hx
      rcases List.mem_append.mp hx with hx | hx
      · exact hall x hx
      · rw [List.mem_singleton] at hx; subst hx; omega
  · obtain ⟨rfl, _, hall⟩ := h
    rw [List.length_map, List.take_length] at hall
    exact q hR ⟨by omega, hall⟩
end
end FR
namespace FR
open PySem L2
-- ALWAYS
def numS (n : Int) : Str := Str.ofString (toString n)
def sgnS (f : Int) : Str := if f = 0 then Str.ofString "+" else Str.ofString "-"
/-- the text of the pieces behind the first, put behind t -/
def tailS : List Int → List Int → Str → Str
  | f :: fs, L :: ls, t => tailS fs ls (t ++ sgnS f ++ numS L)
  | _, _, t => t
def shownS (rs fs : List Int) : Str := tailS fs rs.tail (numS (rs.headD 0))
theorem numS_len {n : Int} (h1 : 1 ≤ n) (h2 : n ≤ 60) : (numS n).length ≤ 2 := by
  obtain ⟨k, rfl⟩ : ∃ k : Nat, n = (k : Int) := ⟨n.toNat, by omega⟩
  have key : ∀ k : Fin 61, (numS ((k : Nat) : Int)).length ≤ 2 := by decide +kernel
  exact key ⟨k, by omega⟩
theorem sgnS_len (f : Int) : (sgnS f).length = 1 := by unfold sgnS; split <;> decide +kernel
theorem log2_small {n : Int} (h1 : 0 ≤ n) (h2 : n ≤ 60) : n.natAbs.log2 < 1920 := by
  obtain ⟨k, rfl⟩ : ∃ k : Nat, n = (k : Int) := ⟨n.toNat, by omega⟩
  have key : ∀ k : Fin 61, (((k : Nat) : Int)).natAbs.log2 < 1920 := by decide +kernel
  exact key ⟨k, by omega⟩
section
variable {P : Program} {w : World} {K : PySem.W.Frag} {mg : Str → Option Value} {base : Heap}
def sp_shown (K : PySem.W.Frag) : Sp := fun vs H Q E => ∃ (a b : Addr) (rs fs : List Int), vs = [.ref a, .ref b] ∧ SqL K H a (rs.map V.int) ∧ SqL K H b (fs.map V.int) ∧ (IsRule rs → IsFold rs fs → ∀ H' : Hp, Same H H' → Q (.str (shownS rs fs)) H') ∧ (¬ IsRule rs → Ref K H E "BadRule") ∧ (IsRule rs → ¬ IsFold rs fs → Ref K H E "BadFolding")
theorem ok_shown {f : Addr} {fd : FuncData} (F : Fun K "shown" "shown" s_shown f fd) {f_check_folding : Addr} {d_check_folding : FuncData} (G_check_folding : FnOk P w K mg base (CXE P w) 2 f_check_folding d_check_folding ["rule", "folding"] (sp_check_folding K)) (m_check_folding : mg "check_folding" = some (.ref f_check_folding)) (k_check_folding : PySem.W.keepIn K (.ref f_check_folding) = true) (b_check_folding : Binds K d_check_folding ["rule", "folding"] []) (z_zip : mg "zip" = none) (z_str : mg "str" = none) :
    FnOk P w K mg base (CXE P w) 3 f fd ["rule", "folding"] (sp_shown K) := by
  refine F.okX sc_shown (fun vs H Q E h => ?_) (fun cdv A outer s H vs Q E hr h => ?_)
  · obtain ⟨a, b, rs, fs, rfl, _⟩ := h
    rfl
  obtain ⟨a, b, rs, fs, rfl, hS, hT, q0, x0, x1⟩ := h
  have ND := sc_shown.nd
  refine ⟨_, (pss_cons (ps_expr (pe_call G_check_folding (hr.mono (by omega)) (by rfl) m_check_folding k_check_folding b_check_folding .nil (passE (fun _ _ _ z => z)) (pa_cons (pv 0) (pa_cons (pv 1) pa_nil))))
    (pss_cons (ps_set (i := 2) ND rfl (Or.inl rfl) (pe_callTy call_str_int (by rfl) z_str PyProof.Rows.Boot.«str» (pa_cons (pe_ix (ix_listK K) (pv 0) pe_int (fun _ _ => rfl)) pa_nil)))
    (pss_cons (PS.nox (ps_for PassesOwn.never rfl (pi_zipK K (by rfl) z_zip (pa_cons (pv 1) (pa_cons (pe_slice (sl_listK K) (pv 0) (po_some pe_int) po_none) pa_nil))) (pg_tupK K 2 rfl (pgs_cons (pg_name (i := 3) ND rfl (Or.inl rfl)) (pgs_cons (pg_name (i := 4) ND rfl (Or.inl rfl)) pgs_nil))) (pss_cons (ps_set (i := 5) ND rfl (Or.inl rfl) (pe_ifExp (pt_cmpR op_eq (pv 3) pe_int (nomark _)) pe_str pe_str))
    (pss_one (ps_set (i := 2) ND rfl (Or.inl rfl) (pe_op op_add_str (pe_op op_add_str (pv 2) (pv 5)) (pe_callTy call_str_int (by rfl) z_str PyProof.Rows.Boot.«str» (pa_cons (pv 4) pa_nil))))))))
    (pss_one (ps_ret (pv 2)))))), ?_⟩
  walk_at "rd"
  refine ⟨a, b, rs, fs, rfl, hS, hT, fun hR hF => ?_, x0, x1⟩
  have q := q0 hR hF
  obtain ⟨r0, ls, rfl⟩ : ∃ r0 ls, rs = r0 :: ls := by
    cases rs with
    | nil => have := hR.some; simp at this
    | cons r0 ls => exact ⟨r0, ls, rfl⟩
  have hfew := hR.few
  rw [List.length_cons] at hfew
  have hlen : fs.length = ls.length := by have := hF.len; simpa using this
  have b0 : 1 ≤ r0 ∧ r0 ≤ 60 := ⟨hR.lo _ List.mem_cons_self, hR.hi _ List.mem_cons_self⟩
  refine ⟨_, hS, _, atI_nat (j := 0) rfl, r0, rfl, log2_small (by omega) (by omega), ?_⟩
  refine ⟨_, rfl, _, rfl, 1, rfl, a, _, rfl, hS, fun l2 hl2 => ?_⟩
  have hcut : cutV ((r0 :: ls).map V.int) (some 1) none = ls.map V.int := (cut_from _ 1).trans rfl
  rw [hcut]
  have s2 := same_new hl2 (.lst (ls.map V.int))
  have e2 : upd H l2 (.lst (ls.map V.int)) l2 = some (.lst (ls.map V.int)) := upd_same
  generalize upd H l2 (.lst (ls.map V.int)) = H2 at *
  refine ⟨b, l2, rfl, ⟨_, s2.seq hT⟩, ⟨_, SqL.of e2⟩, for_zip (xs := fs.map V.int) (ys := ls.map V.int)
    (fun i σ H' => Same H2 H' ∧ ∃ (t : Str) (o3 o4 o5 : Option V), σ = [some (.ref a), some (.ref b), some (.str t), o3, o4, o5] ∧ t.length ≤ 2 + 3 * i ∧ shownS (r0 :: ls) fs = tailS (fs.drop i) (ls.drop i) t)
    ⟨Same.refl _, numS r0, _, _, _, rfl, by have := numS_len b0.1 b0.2; omega, rfl⟩ (fun i σ H' _ h => ⟨(s2.trans h.1).seq hT, SqL.of (h.1 _ _ e2)⟩) (fun i x y t σ H' hx hy ht h => ?_) (fun σ H' h => ?_)⟩
  · obtain ⟨g1, t0, o3, o4, o5, rfl, hl, hsh⟩ := h
    obtain ⟨f, hf, rfl⟩ := ofGetI hx
    obtain ⟨L, hL, rfl⟩ := ofGetI hy
    have li := (List.getElem?_eq_some_iff.mp hL).1
    have hm : L ∈ r0 :: ls := List.mem_cons_of_mem _ (List.mem_of_getElem? hL)
    have l1 := hR.lo L hm
    have l2' := hR.hi L hm
    have nl := numS_len l1 l2'
    have sl := sgnS_len f
    rw [drop_cons hf, drop_cons hL, tailS] at hsh
    have g2 := same_tup g1 ht (.tup [.int f, .int L])
    have len2 : (t0 ++ sgnS f).length ≤ 3 + 3 * i := by rw [strLen_append]; omega
    have len3 : (t0 ++ sgnS f ++ numS L).length ≤ 2 + 3 * (i + 1) := by rw [strLen_append]; omega
    have big : 100 ≤ sizeLine := by rw [sizeLine_eq]; decide
    walk_at "rd"
    refine ⟨[.int f, .int L], SqT.of upd_same, rfl, _, _, rfl, _, _, rfl, rfl, ?_⟩
    walk_at "rd"
    refine ite2 (fun e => ?_) (fun e => ?_)
    · have es : sgnS f = Str.ofString "+" := by unfold sgnS; rw [if_pos e]
      rw [es] at hsh len2 len3 sl
      exact ⟨by omega, log2_small (by omega) l2', by show (t0 ++ Str.ofString "+").length + (numS L).length ≤ sizeLine; omega, g2, len3, hsh⟩
    · have es : sgnS f = Str.ofString "-" := by unfold sgnS; rw [if_neg e]
      rw [es] at hsh len2 len3 sl
      exact ⟨by omega, log2_small (by omega) l2', by show (t0 ++ Str.ofString "-").length + (numS L).length ≤ sizeLine; omega, g2, len3, hsh⟩
  · obtain ⟨g1, t0, o3, o4, o5, rfl, hl, hsh⟩ := h
    have z : tailS (fs.drop (min (fs.map V.int).length (ls.map V.int).length)) (ls.drop (min (fs.map V.int).length (ls.map V.int).length)) t0 = t0 := by
      rw [List.length_map, List.length_map, hlen, Nat.min_self, List.drop_length]
      cases fs.drop ls.length <;> rfl
    rw [z] at hsh
    walk_at "rd"
    rw [← hsh]
    exact q H' (s2.trans g1)
end
end FR
namespace FR
open PySem L2
theorem asc_mem {z : Str} (h : Asc z) : ∀ c ∈ z.cps.toList, c < 128 := by
  intro c hc
  unfold Asc at h
  rw [Array.all_eq_true'] at h
  have := h c (by simpa using hc)
  simpa using this
theorem asc_of {z : Str} (h : ∀ c ∈ z.cps.toList, c < 128) : Asc z := by
  unfold Asc
  rw [Array.all_eq_true']
  intro c hc
  have := h c (by simpa using hc)
  simpa using this
theorem asc_app {x y : Str} (hx : Asc x) (hy : Asc y) : Asc (x ++ y) := asc_of fun c hc => by
  rw [Str.cps_append, Array.toList_append] at hc
  rcases List.mem_append.mp hc with h | h
  · exact asc_mem hx c h
  · exact asc_mem hy c h
theorem notin_fig {c : Nat} (h : c < 128) : (Builtin.Str.occurrences (Str.ofString "0123456789") ⟨#[c]⟩ 0 (Str.ofString "0123456789").length 1).isEmpty = !isFig c := by
  have key : ∀ c : Fin 128, (Builtin.Str.occurrences (Str.ofString "0123456789") ⟨#[(c : Nat)]⟩ 0 (Str.ofString "0123456789").length 1).isEmpty = !isFig c := by decide +kernel
  exact key ⟨c, h⟩
theorem int_one (c : Nat) (h : 49 ≤ c ∧ c ≤ 57) : intText? ⟨#[c]⟩ = some ((c : Int) - 48) := by
  have key : ∀ c : Fin 58, 49 ≤ (c : Nat) → intText? ⟨#[(c : Nat)]⟩ = some (((c : Nat) : Int) - 48) := by decide +kernel
  exact key ⟨c, by omega⟩ h.1
theorem int_two (c d : Nat) (h : (49 ≤ c ∧ c ≤ 57) ∧ 48 ≤ d ∧ d ≤ 57) : intText? ⟨#[c, d]⟩ = some (((c : Int) - 48) * 10 + ((d : Int) - 48)) := by
  have key : ∀ c d : Fin 58, 49 ≤ (c : Nat) → 48 ≤ (d : Nat) → intText? ⟨#[(c : Nat), (d : Nat)]⟩ = some ((((c : Nat) : Int) - 48) * 10 + (((d : Nat) : Int) - 48)) := by decide +kernel
  exact key ⟨c, by omega⟩ ⟨d, by omega⟩ h.1.1 h.2.1
theorem str_of {z : Str} {l : List Nat} (h : z.cps.toList = l) : z = ⟨l.toArray⟩ := by
  obtain ⟨a⟩ := z
  subst h
  simp
theorem int_num {z : Str} {n : Int} (h : numW z.cps.toList = some n) : intText? z = some n ∧ z.length ≤ 2 := by
  have key : ∀ l : List Nat, z.cps.toList = l → intText? z = some n ∧ z.length ≤ 2 := fun l e => by
    rw [e] at h
    have e2 := str_of e
    match l, h, e2 with
    | [c], h, e2 =>
      simp only [numW] at h
      split at h
      · rename_i q
        subst e2
        exact ⟨(int_one c q).trans h, by show 1 ≤ 2; decide⟩
      · cases h
    | [c, d], h, e2 =>
      simp only [numW] at h
      split at h
      · rename_i q
        subst e2
        exact ⟨(int_two c d q).trans h, by show 2 ≤ 2; decide⟩
      · cases h
    | [], h, _ => cases h
    | _ :: _ :: _ :: _, h, _ => cases h
  exact key _ rfl
theorem chr_is (c : Nat) (x : String) (d : Nat) (h : (Str.ofString x).cps.toList = [d]) : (⟨#[c]⟩ : Str) = Str.ofString x ↔ c = d := by
  constructor
  · intro y
    have y2 := congrArg (fun s : Str => s.cps.toList) y
    dsimp only at y2
    rw [h] at y2
    simpa using y2
  · rintro rfl
    exact (str_of h).symm
theorem len_list (z : Str) : z.length = z.cps.toList.length := by
  show z.cps.size = _
  simp
theorem num_long {w : List Nat} (h : 2 < w.length) : numW w = none := by
  match w, h with
  | _ :: _ :: _ :: _, _ => rfl
section
variable {P : Program} {w : World} {K : PySem.W.Frag} {mg : Str → Option Value} {base : Heap}
def sp_is_number (K : PySem.W.Frag) : Sp := fun vs H Q _ => ∃ z : Str, vs = [.str z] ∧ Asc z ∧ z.length ≤ 1000 ∧ ∀ b : Bool, (b = true ↔ ((∀ c ∈ z.cps.toList, isFig c = true) ∧ z.cps.toList ≠ [] ∧ z.cps.toList[0]? ≠ some 48)) → Q (.bl b) H
theorem ok_is_number {f : Addr} {fd : FuncData} (F : Fun K "is_number" "is_number" s_is_number f fd) {t_FIGURES : Tok} (m_FIGURES : mg "FIGURES" = some (.str (Str.ofString "0123456789") t_FIGURES)) :
    FnOk P w K mg base (CXE P w) 1 f fd ["word"] (sp_is_number K) := by
  refine F.okN sc_is_number (fun vs H Q E h => ?_) (fun cdv A outer s H vs Q E hr h => ?_)
  · obtain ⟨z, rfl, _⟩ := h
    rfl
  obtain ⟨z, rfl, ha, hl, q⟩ := h
  have ND := sc_is_number.nd
  refine ⟨_, (pss_cons (ps_for PassesOwn.never rfl (pi_str (pv 0)) (pg_name (i := 1) ND rfl (Or.inl rfl)) (pss_one (ps_if (pt_cmpR op_notin_str (pv 1) (pe_glob (v := .str (Str.ofString "0123456789")) (by rfl) m_FIGURES ⟨_, rfl⟩) (by with_unfolding_all rfl)) (pss_one (ps_ret pe_bl)) pss_nil)))
    (pss_one (ps_ret (pe_and (pe_cmpR op_ne (pv 0) pe_str (nomark _)) (pe_one (pe_cmpR op_ne (pe_ix ix_str (pv 0) pe_int (fun _ _ => rfl)) pe_str (nomark _))))))), ?_⟩
  refine seq_hide fun B1 e1 => ?_
  walk_at "rd"
  refine ⟨_, rfl, z, rfl, ha, for_str (fun i σ H' => H' = H ∧ (∃ o, σ = [some (.str z), o]) ∧ ∀ j c, j < i → z.cps[j]? = some c → isFig c = true) ⟨rfl, ⟨_, rfl⟩, fun j c hj => by omega⟩ (fun i c σ H' hc h => ?_) (fun σ H' h => ?_)⟩
  · obtain ⟨rfl, ⟨o, rfl⟩, hf⟩ := h
    have hm : c ∈ z.cps.toList := List.mem_of_getElem? (by simpa using hc)
    walk_at "rd"
    rw [notin_fig (asc_mem ha c hm)]
    cases hF : isFig c with
    | false =>
      rw [if_pos (by rfl)]
      exact q false ⟨fun y => (by cases y), fun y => by rw [y.1 c hm] at hF; cases hF⟩
    | true =>
      rw [if_neg (by simp)]
      intro j d hj hd
      by_cases e : j = i
      · subst e
        rw [hc] at hd; cases hd; exact hF
      · exact hf j d (by omega) hd
  · obtain ⟨rfl, ⟨o, rfl⟩, hf⟩ := h
    subst e1
    walk_at "rd"
    have all : ∀ c ∈ z.cps.toList, isFig c = true := fun c hc => by
      obtain ⟨j, hj⟩ := List.mem_iff_getElem?.mp hc
      have hj' : z.cps[j]? = some c := by simpa using hj
      exact hf j c (Array.getElem?_eq_some_iff.mp hj').1 hj'
    refine ite2 (fun ne => ?_) (fun e => q false ⟨fun y => (by cases y), fun y => absurd (by rw [Classical.not_not.mp e]; rfl) y.2.1⟩)
    have hne : z.cps.toList ≠ [] := fun y => ne (str_of y)
    obtain ⟨c, r, hcr⟩ : ∃ c r, z.cps.toList = c :: r := by
      cases h : z.cps.toList with
      | nil => exact absurd h hne
      | cons c r => exact ⟨c, r, rfl⟩
    refine ⟨by rw [sizeLine_eq]; omega, c, by rw [hcr]; exact atI_nat (j := 0) rfl, q _ ?_⟩
    have h0 : z.cps.toList[0]? = some c := by rw [hcr]; rfl
    have e0 := chr_is c "0" 48 (by decide +kernel)
    rw [h0]
    simp only [Bool.not_eq_true', decide_eq_false_iff_not, e0, Option.some.injEq, ne_eq]
    exact ⟨fun y => ⟨all, hne, y⟩, fun y => y.2.2⟩
def sp_read_length (K : PySem.W.Frag) : Sp := fun vs H Q E => ∃ z : Str, vs = [.str z] ∧ Asc z ∧ z.length ≤ 1000 ∧ (∀ n, numW z.cps.toList = some n → Q (.int n) H) ∧ (numW z.cps.toList = none → Ref K H E "NoText")
theorem ok_read_length {f : Addr} {fd : FuncData} (F : Fun K "read_length" "read_length" s_read_length f fd) {f_is_number : Addr} {d_is_number : FuncData} (G_is_number : FnOk P w K mg base (CXE P w) 1 f_is_number d_is_number ["word"] (sp_is_number K)) (m_is_number : mg "is_number" = some (.ref f_is_number)) (k_is_number : PySem.W.keepIn K (.ref f_is_number) = true) (b_is_number : Binds K d_is_number ["word"] []) (Er : Errs K mg) (z_int : mg "int" = none) (z_len : mg "len" = none) (z_str : mg "str" = none) {t_LONGEST_PIECE : Tok} (m_LONGEST_PIECE : mg "LONGEST_PIECE" = some (.int 60 t_LONGEST_PIECE)) :
    FnOk P w K mg base (CXE P w) 2 f fd ["word"] (sp_read_length K) := by
  refine F.okX sc_read_length (fun vs H Q E h => ?_) (fun cdv A outer s H vs Q E hr h => ?_)
  · obtain ⟨z, rfl, _⟩ := h
    rfl
  obtain ⟨z, rfl, ha, hl, q, x0⟩ := h
  have ND := sc_read_length.nd
  refine ⟨_, (pss_cons (ps_if (pw_or (pt_cmpR op_gt (pe_callB call_len_str (by rfl) z_len PySem.boot_len (pa_cons (pv 0) pa_nil)) (pe_callB call_len_str (by rfl) z_len PySem.boot_len (pa_cons (pe_callTy call_str_int (by rfl) z_str PyProof.Rows.Boot.«str» (pa_cons (pe_glob (v := .int 60) (by rfl) m_LONGEST_PIECE ⟨_, rfl⟩) pa_nil)) pa_nil)) (nomark _)) (pw_or1 (pt_not (pt_truthK K (pe_call G_is_number (hr.mono (by omega)) (by rfl) m_is_number k_is_number b_is_number .nil passN (pa_cons (pv 0) pa_nil)) (fun _ => rfl))))).pt (pss_one (ps_raise (Er.q "NoText" (by decide)) (by rfl) (Er.m "NoText" (by decide)) (pa_cons pe_str pa_nil))) pss_nil)
    (pss_one (ps_ret (pe_callTy call_intS (by rfl) z_int PyProof.Rows.Boot.«int» (pa_cons (pv 0) pa_nil))))), ?_⟩
  walk_at "rd"
  have l60 : (Str.ofString (toString (60 : Int))).length = 2 := by decide +kernel
  rw [l60]
  have long : 2 < z.length → numW z.cps.toList = none := fun y => num_long (by rw [← len_list]; exact y)
  refine ⟨by rw [sizeLine_eq]; omega, by decide, by rw [sizeLine_eq]; omega, ite2 (fun c => ⟨(by decide : 1 ≤ sizeLine), (x0 (long (by omega))).now⟩) (fun c => ⟨z, rfl, ha, hl, fun b hb => ?_⟩)⟩
  walk_at "rd"
  refine ite2 (fun e => ⟨(by decide : 1 ≤ sizeLine), (x0 ?_).now⟩) (fun e => ?_)
  · cases hn : numW z.cps.toList with
    | none => rfl
    | some n =>
      have f := num_fig hn
      have g := mt (num_none f).mpr (by rw [hn]; simp)
      have : b = true := hb.mpr ⟨f, fun y => g (.inl y), fun y => g (.inr (.inr y))⟩
      rw [this] at e; cases e
  · have e : b = true := by simpa using e
    obtain ⟨f, h1, h2⟩ := hb.mp e
    cases hn : numW z.cps.toList with
    | none =>
      rcases (num_none f).mp hn with y | y | y
      · exact absurd y h1
      · rw [← len_list] at y; omega
      · exact absurd y h2
    | some n =>
      obtain ⟨i1, i2⟩ := int_num hn
      exact ⟨n, i1, by omega, q n hn⟩
end
end FR
namespace FR
open PySem L2
-- ALWAYS
theorem exc_self {K : PySem.W.Frag} {C : Addr} (q : ExcC K C) : PySem.W.mroIn K C (.ref C) = some true := by
  have q' : PySem.W.excIn K C bmVE "ValueError.__new__" = true := q
  unfold PySem.W.excIn at q'
  split at q'
  · rename_i dd cd sl ho
    split at q'
    · rename_i C' bm k0 k1 k2 k3 n k5 hm hs
      simp only [Bool.and_eq_true, beq_iff_eq, Bool.not_eq_true'] at q'
      obtain ⟨⟨⟨⟨⟨e1, e2⟩, hdel⟩, ht⟩, hok⟩, hni⟩ := q'
      subst e1
      unfold PySem.W.mroIn PySem.W.clsIn
      rw [ho]
      simp [hm]
    · cases q'
  · cases q'
/-- a new pair of a new rule and a new folding -/
structure NewP (H H' : Hp) (t l f : Addr) (rs fs : List Int) : Prop where
  same : Same H H'
  nl : H l = none
  nf : H f = none
  nt : H t = none
  ne : l ≠ f
  at_ : H' t = some (.tup [.ref l, .ref f])
  rl : H' l = some (.lst (rs.map V.int))
  fl : H' f = some (.lst (fs.map V.int))
theorem minus_is : Str.ofString "-" = ⟨#[45]⟩ := by decide +kernel
theorem plus_is : Str.ofString "+" = ⟨#[43]⟩ := by decide +kernel
theorem asc_word {z w : Str} (ha : Asc z) (h : w.cps.toList ∈ wordsL z.cps.toList) : Asc w ∧ w.length ≤ z.length := by
  obtain ⟨h1, h2⟩ := words_in h
  refine ⟨asc_of fun c hc => ?_, by rw [len_list, len_list]; exact h1⟩
  rcases h2 c hc with q | q
  · exact asc_mem ha c q
  · subst q; decide
theorem in_signs (c : Nat) : inV (.str ⟨#[c]⟩) [.str (Str.ofString "+"), .str (Str.ofString "-")] = decide (c = 43 ∨ c = 45) := by
  have h1 : ((Str.ofString "+") == (⟨#[c]⟩ : Str)) = decide (c = 43) := by
    rw [Bool.eq_iff_iff, beq_iff_eq, decide_eq_true_eq, ← chr_is c "+" 43 (by decide +kernel)]
    exact ⟨Eq.symm, Eq.symm⟩
  have h2 : ((Str.ofString "-") == (⟨#[c]⟩ : Str)) = decide (c = 45) := by
    rw [Bool.eq_iff_iff, beq_iff_eq, decide_eq_true_eq, ← chr_is c "-" 45 (by decide +kernel)]
    exact ⟨Eq.symm, Eq.symm⟩
  show (((Str.ofString "+") == (⟨#[c]⟩ : Str)) || (((Str.ofString "-") == (⟨#[c]⟩ : Str)) || false)) = _
  rw [h1, h2]
  simp
theorem take_snocN {l : List Nat} {i c : Nat} (h : l[i]? = some c) : l.take (i + 1) = l.take i ++ [c] := by
  rw [List.take_add_one, h]; rfl
theorem isRule_iff {l : List Nat} {rs : List Int} (h : readW l = some rs) : IsRule rs ↔ rs.length ≤ 12 ∧ ∀ x ∈ rs, x ≤ 60 := by
  obtain ⟨h1, _, h2⟩ := readW_some h
  exact ⟨fun z => ⟨z.few, z.hi⟩, fun z => ⟨h1, z.1, fun x hx => (h2 x hx).1, z.2⟩⟩
section
variable {P : Program} {w : World} {K : PySem.W.Frag} {mg : Str → Option Value} {base : Heap}
def sp_read (K : PySem.W.Frag) : Sp := fun vs H Q E => ∃ z : Str, vs = [.str z] ∧ Asc z ∧ z.length ≤ 200 ∧
  (∀ rs, readW z.cps.toList = some rs → IsRule rs → ∀ (t l f : Addr) (H' : Hp), NewP H H' t l f rs (signsL z.cps.toList) → Q (.ref t) H') ∧ ((∀ rs, readW z.cps.toList = some rs → ¬ IsRule rs) → Ref K H E "NoText")
theorem ok_read {f : Addr} {fd : FuncData} (F : Fun K "read" "read" s_read f fd) {f_check_rule : Addr} {d_check_rule : FuncData} (G_check_rule : FnOk P w K mg base (CXE2 P w) 1 f_check_rule d_check_rule ["rule"] (sp_check_rule K)) (m_check_rule : mg "check_rule" = some (.ref f_check_rule)) (k_check_rule : PySem.W.keepIn K (.ref f_check_rule) = true) (b_check_rule : Binds K d_check_rule ["rule"] []) {f_read_length : Addr} {d_read_length : FuncData} (G_read_length : FnOk P w K mg base (CXE P w) 2 f_read_length d_read_length ["word"] (sp_read_length K)) (m_read_length : mg "read_length" = some (.ref f_read_length)) (k_read_length : PySem.W.keepIn K (.ref f_read_length) = true) (b_read_length : Binds K d_read_length ["word"] []) (Er : Errs K mg) :
    FnOk P w K mg base (CXE P w) 3 f fd ["text"] (sp_read K) := by
  refine F.okX sc_read (fun vs H Q E h => ?_) (fun cdv A outer s H vs Q E hr h => ?_)
  · obtain ⟨z, rfl, _⟩ := h
    rfl
  obtain ⟨z, rfl, ha, hl, q, x0⟩ := h
  have ND := sc_read.nd
  let EX : XK := fun cls _ H' => cls = .ref (clsA K "BadRule") ∧ Same H H' ∧ ∀ rs, readW z.cps.toList = some rs → ¬ IsRule rs
  refine ⟨_, (pss_cons (ps_set (i := 1) ND rfl (Or.inl rfl) (pe_split K PySem.F.plainAttrs_str (pe_replace K PySem.F.plainAttrs_str PySem.F.type_str_replace (pv 0))))
    (pss_cons (ps_setCX (i := 2) (caps := []) (comp_scope (by rfl) (by rfl) (by decide) (by rfl)) rfl ND rfl rfl (pi_listK K (pv 1)) (fun _ _ _ _ => pts_nil) (fun _ _ _ _ => (pe_call G_read_length (hr.mono (by omega)) (by rfl) m_read_length k_read_length b_read_length .nil (passB (fun _ _ _ z => z)) (pa_cons (pv 0) pa_nil))))
    (pss_cons (ps_setC (i := 3) (caps := []) (comp_scope (by rfl) (by rfl) (by decide) (by rfl)) rfl ND rfl rfl (pi_str (pv 0)) (fun _ _ _ _ => (pts_one (pt_cmpR (op_inK K) (pv 0) (pe_tup (pa_cons pe_str (pa_cons pe_str pa_nil))) (by with_unfolding_all rfl)))) (fun _ _ _ _ => (pe_ifExp (pt_cmpR op_eq (pv 0) pe_str (nomark _)) pe_int pe_int)))
    (pss_cons (ps_try0 (E' := EX) (by rfl) (Er.m "BadRule" (by decide)) (Er.q "BadRule" (by decide)) (Er.i "BadRule" (by decide)).mB (by rfl) (Er.m "NoText" (by decide)) (Er.q "NoText" (by decide)) (fun _ => (pss_one (ps_expr (pe_call G_check_rule (hr.mono (by omega)) (by rfl) m_check_rule k_check_rule b_check_rule .nil (passT2 (fun _ _ _ z => z)) (pa_cons (pv 2) pa_nil))))))
    (pss_one (ps_ret (pe_tup (pa_cons (pv 2) (pa_cons (pv 3) pa_nil))))))))), ?_⟩
  refine seq_hide fun B1 e1 => ?_
  walk_at "rd"
  have hws := words_is z
  rw [← minus_is, ← plus_is] at hws
  refine ⟨rfl, by decide +kernel, ?_, rfl, by decide +kernel, ?_, fun p hp => ?_⟩
  · have : (Str.ofString "+").length = 1 := by decide +kernel
    rw [this]; omega
  · rw [len_list, minus_is, plus_is, replace_is, List.length_map, ← len_list]; omega
  generalize Txt.split (Txt.replace z (Str.ofString "-") (Str.ofString "+")) (Str.ofString "+") = ws at *
  have s1 := same_new hp (.lst (ws.map V.str))
  have p1 : upd H p (.lst (ws.map V.str)) p = some (.lst (ws.map V.str)) := upd_same
  generalize upd H p (.lst (ws.map V.str)) = H1 at *
  have wl : ws.length ≤ 201 := by
    have h1 := congrArg List.length hws
    have h2 := words_len z.cps.toList
    rw [List.length_map] at h1
    rw [← len_list] at h2
    omega
  subst e1
  refine seq_hide fun B1 e1 => ?_
  refine ⟨_, rfl, p, rfl, ⟨_, SqL.of p1⟩, comp_list (xs := ws.map V.str) (fun D i H' => SameB D H1 H' ∧ ∃ acc : List Int, H' D = some (.lst (acc.map V.int)) ∧ acc.length = i ∧ readA ((wordsL z.cps.toList).take i) = some acc)
    (fun D hD => ⟨(SameB.refl _ _).upd _, [], upd_same, rfl, rfl⟩) (fun D i H' hD _ h => SqL.of (h.1 p _ (ne_of_none p1 hD) p1)) (fun D i x H' hD hx h => ?_) (fun D H2 hD h => ?_)⟩
  · obtain ⟨h2, acc, h3, h4, h5⟩ := h
    rw [List.getElem?_map] at hx
    obtain ⟨v, hv, rfl⟩ := Option.map_eq_some_iff.mp hx
    have hw : (wordsL z.cps.toList)[i]? = some v.cps.toList := by rw [← hws, List.getElem?_map, hv]; rfl
    have hm := List.mem_of_getElem? hw
    obtain ⟨a1, a2⟩ := asc_word ha hm
    have li := (List.getElem?_eq_some_iff.mp hv).1
    walk_at "rdT"
    refine ⟨v, rfl, a1, by omega, fun n hn => ⟨_, h3, by rw [List.length_map]; exact small12 (by omega), wn_next (by rw [List.length_map]; exact li) ⟨h2.upd _, acc ++ [n], by rw [upd_same, List.map_append]; rfl, by rw [List.length_append, h4]; rfl, ?_⟩⟩, fun hn => (x0 fun rs hrs => ?_).mono (s1.trans (h2.same hD))⟩
    · rw [List.take_add_one, hw]
      exact readA_snoc h5 hn
    · unfold readW at hrs
      rw [readA_bad hn hm] at hrs; cases hrs
  obtain ⟨h2, rs, h3, h4, h5⟩ := h
  have hrd : readW z.cps.toList = some rs := by
    rw [List.length_map] at h4
    have h6 := congrArg List.length hws
    rw [List.length_map] at h6
    rw [List.length_map, h6, List.take_length] at h5
    exact h5
  have s2 : Same H H2 := s1.trans (h2.same hD)
  have hDn : H D = none := s1.free hD
  walk_at "rd"
  subst e1
  refine seq_hide fun B1 e1 => ?_
  refine ⟨_, rfl, z, rfl, ha, comp_str (fun D' i H' => SameB D' H2 H' ∧ ∃ acc : List Int, H' D' = some (.lst (acc.map V.int)) ∧ acc = signsL (z.cps.toList.take i)) (fun D' hD' => ⟨(SameB.refl _ _).upd _, [], upd_same, rfl⟩) (fun D' i c H' hD' hc h => ?_) (fun D' H3 hD' h => ?_)⟩
  · obtain ⟨g2, acc, g3, g4⟩ := h
    have hc' : z.cps.toList[i]? = some c := by simpa using hc
    have tk := take_snocN hc'
    have li : i < z.cps.size := (Array.getElem?_eq_some_iff.mp hc).1
    have al : acc.length ≤ 200 := by
      have := signs_len (z.cps.toList.take i)
      rw [← g4, List.length_take] at this
      have e : z.cps.size = z.length := rfl
      omega
    walk_at "rd"
    refine ⟨(by decide : 2 ≤ sizeLine), fun t ht => ⟨t, _, rfl, .inr (SqT.of upd_same), rfl, rfl, ?_⟩⟩
    rw [in_signs]
    have g3' := upd_keep (u := .tup [.str (Str.ofString "+"), .str (Str.ofString "-")]) g3 ht
    have k2 := g2.new ht (.tup [.str (Str.ofString "+"), .str (Str.ofString "-")])
    generalize upd H' t (.tup [.str (Str.ofString "+"), .str (Str.ofString "-")]) = H4 at *
    refine ⟨_, rfl, ?_⟩
    show if (decide (c = 43 ∨ c = 45)) = true then _ else _
    by_cases hs : c = 43 ∨ c = 45
    · rw [if_pos (by simp [hs])]
      try walk_at "rd"
      refine ite2 (fun e => ?_) (fun e => ?_)
      · have e' := (chr_is c "+" 43 (by decide +kernel)).mp e
        subst e'
        refine ⟨_, g3', by rw [List.length_map]; exact small12 (by omega), wn_next li ⟨k2.upd _, acc ++ [0], by rw [upd_same, List.map_append]; rfl, ?_⟩⟩
        rw [tk, signs_app, ← g4]; rfl
      · have e' : c = 45 := by
          rcases hs with y | y
          · exact absurd ((chr_is c "+" 43 (by decide +kernel)).mpr y) e
          · exact y
        subst e'
        refine ⟨_, g3', by rw [List.length_map]; exact small12 (by omega), wn_next li ⟨k2.upd _, acc ++ [1], by rw [upd_same, List.map_append]; rfl, ?_⟩⟩
        rw [tk, signs_app, ← g4]; rfl
    · rw [if_neg (by simp; omega)]
      refine wn_next li ⟨k2, acc, g3', ?_⟩
      rw [tk, signs_app, ← g4]
      have : signsL [c] = [] := by
        unfold signsL
        rw [if_neg (fun y => hs (.inl y)), if_neg (fun y => hs (.inr y))]; rfl
      rw [this, List.append_nil]
  obtain ⟨g2, fs, g3, g4⟩ := h
  have e : z.cps.size = z.cps.toList.length := by simp
  rw [e, List.take_length] at g4
  subst g4
  have s3 := g2.same hD'
  have hDD : D ≠ D' := ne_of_none h3 hD'
  have r3 := s3 _ _ h3
  subst e1
  walk_at "rd"
  refine ⟨⟨D, rs, rfl, SqL.of r3, fun hR => ⟨(by decide : 2 ≤ sizeLine), fun t ht => ?_⟩, fun hn H' g => ⟨rfl, (s2.trans s3).trans g, fun rs' h' => ?_⟩⟩, fun cls dd H' hE => ?_⟩
  · exact q rs hrd hR t D D' _ ⟨same_tup (s2.trans s3) ht _, hDn, s2.free hD', (s2.trans s3).free ht, hDD, upd_same, upd_keep r3 ht, upd_keep g3 ht⟩
  · rw [hrd] at h'; cases h'; exact hn
  · obtain ⟨rfl, g, hn⟩ := hE
    exact ⟨_, rfl, exc_self (Er.q "BadRule" (by decide)), fun a ha' => x0 hn _ (same_tup g ha' _)⟩
end
end FR
namespace FR
open PySem L2
-- ALWAYS
theorem numS_asc {n : Int} (h1 : 1 ≤ n) (h2 : n ≤ 60) : Asc (numS n) := by
  obtain ⟨k, rfl⟩ : ∃ k : Nat, n = (k : Int) := ⟨n.toNat, by omega⟩
  have key : ∀ k : Fin 61, (numS ((k : Nat) : Int)).cps.all (· < 128) = true := by decide +kernel
  exact key ⟨k, by omega⟩
theorem sgnS_asc (f : Int) : Asc (sgnS f) := by
  have h1 : (Str.ofString "+").cps.all (· < 128) = true := by decide +kernel
  have h2 : (Str.ofString "-").cps.all (· < 128) = true := by decide +kernel
  unfold sgnS
  split
  · exact h1
  · exact h2
theorem tail_ok : ∀ (fs ls : List Int) (t : Str), Asc t → (∀ x ∈ ls, 1 ≤ x ∧ x ≤ 60) → Asc (tailS fs ls t) ∧ (tailS fs ls t).length ≤ t.length + 3 * ls.length
  | [], _, t, ha, _ => ⟨ha, Nat.le_add_right _ _⟩
  | _ :: _, [], t, ha, _ => ⟨ha, Nat.le_add_right _ _⟩
  | f :: fs, L :: ls, t, ha, hl => by
    obtain ⟨l1, l2⟩ := hl L List.mem_cons_self
    have ih := tail_ok fs ls (t ++ sgnS f ++ numS L) (asc_app (asc_app ha (sgnS_asc f)) (numS_asc l1 l2)) fun x hx => hl x (List.mem_cons_of_mem _ hx)
    rw [tailS]
    refine ⟨ih.1, ?_⟩
    have h2 := ih.2
    have h3 := numS_len l1 l2
    have h4 := sgnS_len f
    rw [strLen_append, strLen_append] at h2
    rw [List.length_cons]
    omega
theorem shown_ok {rs fs : List Int} (hR : IsRule rs) : Asc (shownS rs fs) ∧ (shownS rs fs).length ≤ 40 := by
  cases rs with
  | nil => have := hR.some; simp at this
  | cons r ls =>
    have b1 := hR.lo r List.mem_cons_self
    have b2 := hR.hi r List.mem_cons_self
    have few := hR.few
    have h := tail_ok fs ls (numS r) (numS_asc b1 b2) fun x hx => ⟨hR.lo x (List.mem_cons_of_mem _ hx), hR.hi x (List.mem_cons_of_mem _ hx)⟩
    have h3 := numS_len b1 b2
    refine ⟨h.1, Nat.le_trans h.2 ?_⟩
    rw [List.length_cons] at few
    show (numS r).length + 3 * ls.length ≤ 40
    omega
theorem slice_asc {z : Str} (h : Asc z) (l u : Option Int) : Asc (Txt.slice z l u) := by
  unfold Txt.slice
  split
  · exact h
  · refine asc_of fun c hc => ?_
    obtain ⟨i, _, hi⟩ := List.mem_filterMap.mp hc
    exact asc_mem h c (by simpa using Array.mem_of_getElem? hi)
theorem cut_last (xs : List V) (x : V) : cutV (xs ++ [x]) none (some (-1)) = xs := by
  unfold cutV HT.sIx
  simp
  rw [show (-1 + ((xs.length : Int) + 1)).toNat = xs.length by omega, List.take_left]
end FR
namespace FR
open PySem L2
section
variable {P : Program} {w : World} {K : PySem.W.Frag} {mg : Str → Option Value} {base : Heap}
def sp_law_shown (K : PySem.W.Frag) : Sp := fun vs H Q _ => ∃ (a b : Addr) (rs fs : List Int), vs = [.ref a, .ref b] ∧ H a = some (.lst (rs.map V.int)) ∧ H b = some (.lst (fs.map V.int)) ∧ IsRule rs ∧ IsFold rs fs ∧ ∀ H' : Hp, Same H H' → Q (.str (shownS rs fs)) H'
theorem ok_law_shown {f : Addr} {fd : FuncData} (F : Fun K "_law_shown" "_law_shown" s_law_shown f fd) (z_range : mg "range" = none) (z_len : mg "len" = none) (z_str : mg "str" = none) :
    FnOk P w K mg base (CXE P w) 1 f fd ["rule", "folding"] (sp_law_shown K) := by
  refine F.okN sc_law_shown (fun vs H Q E h => ?_) (fun cdv A outer s H vs Q E hr h => ?_)
  · obtain ⟨a, b, rs, fs, rfl, _⟩ := h
    rfl
  obtain ⟨a, b, rs, fs, rfl, hS, hT, hR, hF, q⟩ := h
  have ND := sc_law_shown.nd
  obtain ⟨r0, ls, rfl⟩ : ∃ r0 ls, rs = r0 :: ls := by
    cases rs with
    | nil => have := hR.some; simp at this
    | cons r0 ls => exact ⟨r0, ls, rfl⟩
  have hfew := hR.few
  rw [List.length_cons] at hfew
  have hlen : fs.length = ls.length := by have := hF.len; simpa using this
  have b0 : 1 ≤ r0 ∧ r0 ≤ 60 := ⟨hR.lo _ List.mem_cons_self, hR.hi _ List.mem_cons_self⟩
  refine ⟨_, (pss_cons (ps_set (i := 2) ND rfl (Or.inl rfl) (pe_callTy call_str_int (by rfl) z_str PyProof.Rows.Boot.«str» (pa_cons (pe_ix (ix_listK K) (pv 0) pe_int (fun _ _ => rfl)) pa_nil)))
    (pss_cons (ps_for PassesOwn.never rfl (pi_range1 (by rfl) z_range (pa_cons (pe_callB (call_lenK K) (by rfl) z_len PySem.boot_len (pa_cons (pv 1) pa_nil)) pa_nil)) (pg_name (i := 3) ND rfl (Or.inl rfl)) (pss_one (ps_set (i := 2) ND rfl (Or.inl rfl) (pe_op op_add_str (pe_op op_add_str (pv 2) (pe_ix (ix_listK K) (pe_lst (pa_cons pe_str (pa_cons pe_str pa_nil))) (pe_ix (ix_listK K) (pv 1) (pv 3) (fun _ _ => rfl)) (fun _ _ => rfl))) (pe_callTy call_str_int (by rfl) z_str PyProof.Rows.Boot.«str» (pa_cons (pe_ix (ix_listK K) (pv 0) (pe_op op_add (pv 3) pe_int) (fun _ _ => rfl)) pa_nil))))))
    (pss_one (ps_ret (pv 2))))), ?_⟩
  refine seq_hide fun B1 e1 => ?_
  walk_at "rd"
  refine ⟨_, SqL.of hS, _, atI_nat (j := 0) rfl, r0, rfl, log2_small (by omega) (by omega), ?_⟩
  subst e1
  refine seq_hide fun B1 e1 => ?_
  refine ⟨_, rfl, b, _, rfl, SqL.of hT, fs.length, by rw [List.length_map], by omega, by omega, ?_⟩
  rw [Int.toNat_natCast]
  refine for_range (lo := 0) (n := fs.length) (fun i σ H' => Same H H' ∧ ∃ (t : Str) (o : Option V), σ = [some (.ref a), some (.ref b), some (.str t), o] ∧ t.length ≤ 2 + 3 * i ∧ shownS (r0 :: ls) fs = tailS (fs.drop i) (ls.drop i) t)
    ⟨Same.refl _, numS r0, _, rfl, by have := numS_len b0.1 b0.2; omega, rfl⟩ (fun i σ H' hi h => ?_) (fun σ H' h => ?_)
  · obtain ⟨g1, t0, o, rfl, hl, hsh⟩ := h
    have li : i < ls.length := by omega
    have hf : fs[i]? = some fs[i] := List.getElem?_eq_getElem hi
    have hL : ls[i]? = some ls[i] := List.getElem?_eq_getElem li
    generalize fs[i] = f at hf
    generalize ls[i] = L at hL
    have hm : L ∈ r0 :: ls := List.mem_cons_of_mem _ (List.mem_of_getElem? hL)
    have l1 := hR.lo L hm
    have l2' := hR.hi L hm
    have nl := numS_len l1 l2'
    have sl := sgnS_len f
    rw [drop_cons hf, drop_cons hL, tailS] at hsh
    have len2 : (t0 ++ sgnS f).length ≤ 3 + 3 * i := by rw [strLen_append]; omega
    have len3 : (t0 ++ sgnS f ++ numS L).length ≤ 2 + 3 * (i + 1) := by rw [strLen_append]; omega
    have big : 100 ≤ sizeLine := by rw [sizeLine_eq]; decide
    have hat : atI (fs.map V.int) (0 + (i : Int)) = some (.int f) := by rw [Int.zero_add]; exact atI_nat (getI hf)
    have hatL : atI ((r0 :: ls).map V.int) (0 + (i : Int) + 1) = some (.int L) := by
      rw [show (0 : Int) + (i : Int) + 1 = ((i + 1 : Nat) : Int) by omega]
      exact atI_nat (getI (by simpa using hL))
    have hsg : atI ([.str (Str.ofString "+"), .str (Str.ofString "-")] : List V) f = some (.str (sgnS f)) := by
      rcases hF.two f (List.mem_of_getElem? hf) with rfl | rfl
      · rfl
      · rfl
    walk_at "rd"
    refine ⟨(by decide : 2 ≤ sizeLine), fun p hp => ?_⟩
    have g2 := same_tup g1 hp (.lst [.str (Str.ofString "+"), .str (Str.ofString "-")])
    have e2 : upd H' p (.lst [.str (Str.ofString "+"), .str (Str.ofString "-")]) p = some (.lst [.str (Str.ofString "+"), .str (Str.ofString "-")]) := upd_same
    generalize upd H' p (.lst [.str (Str.ofString "+"), .str (Str.ofString "-")]) = H2 at *
    exact ⟨_, SqL.of (g2 _ _ hT), _, hat, _, f, rfl, SqL.of e2, _, hsg, _, rfl, by omega, _, SqL.of (g2 _ _ hS), _, hatL, L, rfl, log2_small (by omega) l2', by show (t0 ++ sgnS f).length + (numS L).length ≤ sizeLine; omega, g2, len3, hsh⟩
  · obtain ⟨g1, t0, o, rfl, hl, hsh⟩ := h
    have z : tailS (fs.drop fs.length) (ls.drop fs.length) t0 = t0 := by
      rw [List.drop_length]; rfl
    rw [z] at hsh
    subst e1
    walk_at "rd"
    rw [← hsh]
    exact q H' g1
-- ALWAYS
theorem lit_at (i : Int) (h0 : 0 ≤ i) (h1 : i < 16) : ∃ c, atI (Str.ofString "0123456789+- _\n\t").cps.toList i = some c ∧ c < 128 := by
  obtain ⟨k, rfl⟩ : ∃ k : Nat, i = (k : Int) := ⟨i.toNat, by omega⟩
  have key : ∀ k : Fin 16, ((Str.ofString "0123456789+- _\n\t").cps.toList[(k : Nat)]?).any (· < 128) = true := by decide +kernel
  have hk := key ⟨k, by omega⟩
  dsimp only at hk
  cases e : (Str.ofString "0123456789+- _\n\t").cps.toList[k]? with
  | none => rw [e] at hk; cases hk
  | some c => rw [e] at hk; exact ⟨c, atI_nat e, by simpa using hk⟩
theorem asc_one {c : Nat} (h : c < 128) : Asc ⟨#[c]⟩ := asc_of fun d hd => by
  have : d = c := by simpa using hd
  omega
def sp_law_turned (K : PySem.W.Frag) : Sp := fun vs H Q _ => ∃ (z : Str) (wy c : Int), vs = [.str z, .int wy, .int c] ∧ Asc z ∧ z.length ≤ 40 ∧ 0 ≤ c ∧ ∀ z' : Str, Asc z' → z'.length ≤ 100 → Q (.str z') H
theorem ok_law_turned {f : Addr} {fd : FuncData} (F : Fun K "_law_turned" "_law_turned" s_law_turned f fd) (z_len : mg "len" = none) :
    FnOk P w K mg base (CXE P w) 1 f fd ["text", "way", "cell"] (sp_law_turned K) := by
  refine F.okN sc_law_turned (fun vs H Q E h => ?_) (fun cdv A outer s H vs Q E hr h => ?_)
  · obtain ⟨z, wy, c, rfl, _⟩ := h
    rfl
  obtain ⟨z, wy, c, rfl, ha, hl, c0, q⟩ := h
  have ND := sc_law_turned.nd
  refine ⟨_, (pss_cons (ps_set (i := 3) ND rfl (Or.inl rfl) (pe_op op_mod (pv 2) (pe_op op_add (pe_callB call_len_str (by rfl) z_len PySem.boot_len (pa_cons (pv 0) pa_nil)) pe_int)))
    (pss_cons (ps_set (i := 4) ND rfl (Or.inl rfl) (pe_ix ix_str pe_str (pe_op op_mod (pe_op op_fdiv (pv 2) pe_int) pe_int) (fun _ _ => rfl)))
    (pss_cons (ps_if (pt_cmpR op_eq (pv 1) pe_int (nomark _)) (pss_one (ps_ret (pe_op op_add_str (pe_op op_add_str (pe_slice sl_str (pv 0) po_none (po_some (pv 3))) (pv 4)) (pe_slice sl_str (pv 0) (po_some (pv 3)) po_none)))) pss_nil)
    (pss_cons (ps_if (pt_cmpR op_eq (pv 1) pe_int (nomark _)) (pss_one (ps_ret (pe_op op_add_str (pe_op op_add_str (pe_slice sl_str (pv 0) po_none (po_some (pv 3))) (pv 4)) (pe_slice sl_str (pv 0) (po_some (pe_op op_add (pv 3) pe_int)) po_none)))) pss_nil)
    (pss_cons (ps_if (pt_cmpR op_eq (pv 1) pe_int (nomark _)) (pss_one (ps_ret (pe_op op_add_str (pe_slice sl_str (pv 0) po_none (po_some (pv 3))) (pe_slice sl_str (pv 0) (po_some (pe_op op_add (pv 3) pe_int)) po_none)))) pss_nil)
    (pss_one (ps_ret (pv 0)))))))), ?_⟩
  have big : 1000 ≤ sizeLine := by rw [sizeLine_eq]; decide
  refine seq_hide fun B1 e1 => ?_
  walk_at "rd"
  refine ⟨by omega, by omega, ?_⟩
  generalize c % ((z.length : Int) + 1) = at_
  subst e1
  refine seq_hide fun B1 e1 => ?_
  walk_at "rd"
  have m0 : 0 ≤ c / 1009 % 16 := Int.emod_nonneg _ (by decide)
  have m1 : c / 1009 % 16 < 16 := Int.emod_lt_of_pos _ (by decide)
  obtain ⟨d, hd, hd'⟩ := lit_at _ m0 m1
  refine ⟨by first | decide | exact .inl (by decide), by decide, by decide, by rw [sizeLine_eq]; decide +kernel, d, hd, ?_⟩
  have ad := asc_one hd'
  have ld : (⟨#[d]⟩ : Str).length = 1 := rfl
  generalize (⟨#[d]⟩ : Str) = sg at *
  have key : ∀ lo hi lo' hi' : Option Int, Asc (Txt.slice z lo hi ++ sg ++ Txt.slice z lo' hi') ∧ Asc (Txt.slice z lo hi ++ Txt.slice z lo' hi') ∧ (Txt.slice z lo hi).length ≤ 40 ∧ (Txt.slice z lo' hi').length ≤ 40 ∧ (Txt.slice z lo hi ++ sg).length ≤ 41 := fun lo hi lo' hi' => by
    have h1 := slice_asc ha lo hi
    have h2 := slice_asc ha lo' hi'
    have l1 := Txt.slice_le z lo hi
    have l2 := Txt.slice_le z lo' hi'
    exact ⟨asc_app (asc_app h1 ad) h2, asc_app h1 h2, by omega, by omega, by rw [strLen_append]; omega⟩
  subst e1
  refine seq_hide fun B1 e1 => ?_
  walk_at "rd"
  refine ite2 (fun e => ?_) (fun e => ?_)
  · obtain ⟨k1, k2, k3, k4, k5⟩ := key none (some at_) (some at_) none
    exact ⟨by omega, by omega, by omega, by omega, q _ k1 (by rw [strLen_append]; omega)⟩
  subst e1
  refine seq_hide fun B1 e1 => ?_
  walk_at "rd"
  refine ite2 (fun e => ?_) (fun e => ?_)
  · obtain ⟨k1, k2, k3, k4, k5⟩ := key none (some at_) (some (at_ + 1)) none
    exact ⟨by omega, by omega, by omega, by omega, q _ k1 (by rw [strLen_append]; omega)⟩
  subst e1
  refine seq_hide fun B1 e1 => ?_
  walk_at "rd"
  refine ite2 (fun e => ?_) (fun e => ?_)
  · obtain ⟨k1, k2, k3, k4, k5⟩ := key none (some at_) (some (at_ + 1)) none
    exact ⟨by omega, by omega, by omega, q _ k2 (by rw [strLen_append]; omega)⟩
  subst e1
  walk_at "rd"
  exact q _ ha (by omega)
def sp_law_told (K : PySem.W.Frag) : Sp := fun vs H Q _ => ∃ z : Str, vs = [.str z] ∧ Asc z ∧ z.length ≤ 200 ∧
  (∀ rs, readW z.cps.toList = some rs → IsRule rs → ∀ (t l f : Addr) (H' : Hp), NewP H H' t l f rs (signsL z.cps.toList) → Q (.ref t) H') ∧
  ((∀ rs, readW z.cps.toList = some rs → ¬ IsRule rs) → ∀ (x : Addr) (H' : Hp), Same H H' → H' x = some (exO x (clsA K "NoText")) → Q (.ref x) H')
theorem ok_law_told {f : Addr} {fd : FuncData} (F : Fun K "_law_told" "_law_told" s_law_told f fd) {f_read : Addr} {d_read : FuncData} (G_read : FnOk P w K mg base (CXE P w) 3 f_read d_read ["text"] (sp_read K)) (m_read : mg "read" = some (.ref f_read)) (k_read : PySem.W.keepIn K (.ref f_read) = true) (b_read : Binds K d_read ["text"] []) (Er : Errs K mg) :
    FnOk P w K mg base (CXE P w) 4 f fd ["text"] (sp_law_told K) := by
  refine F.okN sc_law_told (fun vs H Q E h => ?_) (fun cdv A outer s H vs Q E hr h => ?_)
  · obtain ⟨z, rfl, _⟩ := h
    rfl
  obtain ⟨z, rfl, ha, hl, q, x0⟩ := h
  have ND := sc_law_told.nd
  let EX : XK := fun cls _ H' => cls = .ref (clsA K "NoText") ∧ Same H H' ∧ ∀ rs, readW z.cps.toList = some rs → ¬ IsRule rs
  refine ⟨_, (pss_cons (ps_set (i := 1) ND rfl (Or.inl rfl) pe_non)
    (pss_cons (ps_try (E := EX) (ie := 2) rfl rfl ND rfl rfl (by rfl) (Er.m "RuleError" (by decide)) (Er.q "RuleError" (by decide)) Er.b (fun _ => (pss_one (ps_set (i := 1) ND rfl (Or.inl rfl) (pe_call G_read (hr.mono (by omega)) (by rfl) m_read k_read b_read .nil (passT tr_ok (fun _ _ _ z => z)) (pa_cons (pv 0) pa_nil))))) (fun _ _ => (pss_one (ps_set (i := 1) ND rfl (Or.inl rfl) (pv 2)))))
    (pss_one (ps_ret (pv 1))))), ?_⟩
  walk_at "rd"
  refine ⟨?_, fun cls dd H' hE => ?_⟩
  · walk_at "rd"
    exact ⟨z, rfl, ha, hl, fun rs h1 h2 t l f H' N => q rs h1 h2 t l f H' N, fun hn H' g => ⟨rfl, g, hn⟩⟩
  · obtain ⟨rfl, g, hn⟩ := hE
    refine ⟨_, rfl, Er.r "NoText" (by decide), fun x hx => ?_⟩
    walk_at "rd"
    exact x0 hn x _ (same_tup g hx _) upd_same
end
end FR
namespace FR
open PySem L2
-- ALWAYS
theorem ite_or {p q A B : Prop} [Decidable p] [Decidable q] (h1 : p ∨ q → A) (h2 : ¬ p → ¬ q → B) : if p then A else if q then A else B := by
  by_cases hp : p
  · rw [if_pos hp]; exact h1 (.inl hp)
  · rw [if_neg hp]
    by_cases hq : q
    · rw [if_pos hq]; exact h1 (.inr hq)
    · rw [if_neg hq]; exact h2 hp hq
theorem drop_consN {l : List Nat} {i c : Nat} (h : l[i]? = some c) : l.drop i = c :: l.drop (i + 1) := by
  obtain ⟨hi, e⟩ := List.getElem?_eq_some_iff.mp h
  rw [List.drop_eq_getElem_cons hi, e]
/-- what stands behind so many signs -/
structure DueI (H : Hp) (l : List Nat) (a b : Addr) (i : Nat) (rs fs : List Int) (wd : Str) (H' : Hp) : Prop where
  same : Same H H'
  ra : H' a = some (.lst (rs.map V.int))
  fb : H' b = some (.lst (fs.map V.int))
  fig : ∀ c ∈ wd.cps.toList, isFig c = true
  lw : wd.length ≤ i
  lr : rs.length ≤ i
  lf : fs.length ≤ i
  rd : readW l = (readD wd.cps.toList ((l ++ [43]).drop i)).map (rs ++ ·)
  sg : signsL (l ++ [43]) = fs ++ signsL ((l ++ [43]).drop i)
theorem DueI.sign {H H' : Hp} {l : List Nat} {a b : Addr} {i c : Nat} {rs fs : List Int} {wd : Str} {n v : Int} (I : DueI H l a b i rs fs wd H') (ha : H a = none) (hb : H b = none) (hab : a ≠ b) (hc : (l ++ [43])[i]? = some c) (hs : c = 43 ∨ c = 45) (hn : numW wd.cps.toList = some n)
    (hv : v = if c = 45 then 1 else 0) : DueI H l a b (i + 1) (rs ++ [n]) (fs ++ [v]) (Str.ofString "") (upd (upd H' a (.lst (rs.map V.int ++ [.int n]))) b (.lst (fs.map V.int ++ [.int v]))) := by
  have hd := drop_consN hc
  have e0 : (Str.ofString "").cps.toList = [] := by decide +kernel
  refine ⟨same_upd (same_upd I.same ha _) hb _, ?_, ?_, ?_, ?_, ?_, ?_, ?_, ?_⟩
  · rw [upd_ne hab, upd_same, List.map_append]; rfl
  · rw [upd_same, List.map_append]; rfl
  · rw [e0]; exact fun c hc => nomatch hc
  · rw [len_list, e0]; exact Nat.zero_le _
  · have := I.lr; simp; omega
  · have := I.lf; simp; omega
  · rw [I.rd, hd, readD_some _ hs hn, map_app, e0]
  · rw [I.sg, hd, hv]
    rcases hs with rfl | rfl
    · simp [signsL]
    · simp [signsL]
theorem DueI.none {H H' : Hp} {l : List Nat} {a b : Addr} {i c : Nat} {rs fs : List Int} {wd : Str} (I : DueI H l a b i rs fs wd H') (hc : (l ++ [43])[i]? = some c) (hs : c = 43 ∨ c = 45) (hn : numW wd.cps.toList = none) : readW l = none := by
  rw [I.rd, drop_consN hc, readD_none _ hs hn]; rfl
theorem DueI.other {H H' : Hp} {l : List Nat} {a b : Addr} {i c : Nat} {rs fs : List Int} {wd : Str} (I : DueI H l a b i rs fs wd H') (hc : (l ++ [43])[i]? = some c) (hs : ¬ (c = 43 ∨ c = 45)) (hf : isFig c = true) : DueI H l a b (i + 1) rs fs (wd ++ ⟨#[c]⟩) H' := by
  have hd := drop_consN hc
  have e : (wd ++ ⟨#[c]⟩ : Str).cps.toList = wd.cps.toList ++ [c] := by rw [Str.cps_append, Array.toList_append]
  refine ⟨I.same, I.ra, I.fb, ?_, ?_, ?_, ?_, ?_, ?_⟩
  · rw [e]
    intro d hd'
    rcases List.mem_append.mp hd' with q | q
    · exact I.fig d q
    · cases List.mem_singleton.mp q; exact hf
  · have := I.lw
    rw [len_list, e, List.length_append, ← len_list]; simp; omega
  · have := I.lr; omega
  · have := I.lf; omega
  · rw [I.rd, hd, readD_other _ hs, e]
  · rw [I.sg, hd]
    have : signsL (c :: (l ++ [43]).drop (i + 1)) = signsL ((l ++ [43]).drop (i + 1)) := by
      rw [signsL, if_neg (fun y => hs (.inl y)), if_neg (fun y => hs (.inr y))]
    rw [this]
theorem DueI.end_ {H H' : Hp} {l : List Nat} {a b : Addr} {i : Nat} {rs fs : List Int} {wd : Str} (I : DueI H l a b i rs fs wd H') (hi : (l ++ [43]).length ≤ i) : readW l = some rs ∧ fs = signsL l ++ [0] := by
  have hd : (l ++ [43]).drop i = [] := List.drop_eq_nil_of_le hi
  constructor
  · rw [I.rd, hd, readD_end]; simp
  · have := I.sg
    rw [hd, signs_app] at this
    simpa [signsL] using this.symm
section
variable {P : Program} {w : World} {K : PySem.W.Frag} {mg : Str → Option Value} {base : Heap}
def sp_law_due (K : PySem.W.Frag) : Sp := fun vs H Q _ => ∃ z : Str, vs = [.str z] ∧ Asc z ∧ z.length ≤ 200 ∧
  (∀ rs, readW z.cps.toList = some rs → IsRule rs → ∀ (t l f : Addr) (H' : Hp), NewP H H' t l f rs (signsL z.cps.toList) → Q (.ref t) H') ∧
  ((∀ rs, readW z.cps.toList = some rs → ¬ IsRule rs) → ∀ H' : Hp, Same H H' → Q .non H')
theorem ok_law_due {f : Addr} {fd : FuncData} (F : Fun K "_law_due" "_law_due" s_law_due f fd) (z_max : mg "max" = none) (z_len : mg "len" = none) (z_int : mg "int" = none) :
    FnOk P w K mg base (CXE P w) 1 f fd ["text"] (sp_law_due K) := by
  refine F.okN sc_law_due (fun vs H Q E h => ?_) (fun cdv A outer s H vs Q E hr h => ?_)
  · obtain ⟨z, rfl, _⟩ := h
    rfl
  obtain ⟨z, rfl, ha, hl, q, x0⟩ := h
  have ND := sc_law_due.nd
  refine ⟨_, (pss_cons (ps_set (i := 1) ND rfl (Or.inl rfl) (pe_lst pa_nil))
    (pss_cons (ps_set (i := 2) ND rfl (Or.inl rfl) (pe_lst pa_nil))
    (pss_cons (ps_set (i := 3) ND rfl (Or.inl rfl) pe_str)
    (pss_cons (ps_for PassesOwn.never rfl (pi_str (pe_op op_add_str (pv 0) pe_str)) (pg_name (i := 4) ND rfl (Or.inl rfl)) (pss_one (ps_if (pw_or (pt_cmpR op_eq (pv 4) pe_str (nomark _)) (pw_or1 (pt_cmpR op_eq (pv 4) pe_str (nomark _)))).pt (pss_cons (ps_if (pw_or (pt_cmpR op_eq (pv 3) pe_str (nomark _)) (pw_or (pt_cmpR op_gt (pe_callB call_len_str (by rfl) z_len PySem.boot_len (pa_cons (pv 3) pa_nil)) pe_int (nomark _)) (pw_or1 (pt_cmpR op_eq (pe_ix ix_str (pv 3) pe_int (fun _ _ => rfl)) pe_str (nomark _))))).pt (pss_one (ps_ret pe_non)) pss_nil)
    (pss_cons (ps_expr (pe_bmK K PySem.F.plainAttrs_list PySem.F.slot_list_append PySem.F.type_list_append mt_append (pv 1) (pa_cons (pe_callTy call_intS (by rfl) z_int PyProof.Rows.Boot.«int» (pa_cons (pv 3) pa_nil)) pa_nil)))
    (pss_cons (ps_expr (pe_bmK K PySem.F.plainAttrs_list PySem.F.slot_list_append PySem.F.type_list_append mt_append (pv 2) (pa_cons (pe_callTy call_int1 (by rfl) z_int PyProof.Rows.Boot.«int» (pa_cons (pe_cmpR op_eq (pv 4) pe_str (nomark _)) pa_nil)) pa_nil)))
    (pss_one (ps_set (i := 3) ND rfl (Or.inl rfl) pe_str))))) (pss_one (ps_if (pt_cmpR op_notin_str (pv 4) pe_str (by with_unfolding_all rfl)) (pss_one (ps_ret pe_non)) (pss_one (ps_set (i := 3) ND rfl (Or.inl rfl) (pe_op op_add_str (pv 3) (pv 4)))))))))
    (pss_cons (ps_if (pw_or (pt_cmpR op_gt (pe_callB (call_lenK K) (by rfl) z_len PySem.boot_len (pa_cons (pv 1) pa_nil)) pe_int (nomark _)) (pw_or1 (pt_cmpR op_gt (pe_callB (call_maxK K) (by rfl) z_max PyProof.Rows.Boot.«max» (pa_cons (pv 1) pa_nil)) pe_int (nomark _)))).pt (pss_one (ps_ret pe_non)) pss_nil)
    (pss_one (ps_ret (pe_tup (pa_cons (pv 1) (pa_cons (pe_slice (sl_listK K) (pv 2) po_none (po_some (pe_un un_neg pe_int))) pa_nil)))))))))), ?_⟩
  have big : 1000 ≤ sizeLine := by rw [sizeLine_eq]; decide
  refine seq_hide fun B1 e1 => ?_
  walk_at "rd"
  refine ⟨(by decide : 0 ≤ sizeLine), fun a han => ?_⟩
  subst e1
  refine seq_hide fun B1 e1 => ?_
  walk_at "rd"
  refine ⟨(by decide : 0 ≤ sizeLine), fun b hbn => ?_⟩
  subst e1
  refine seq_hide fun B1 e1 => ?_
  walk_at "rd"
  have s2 := same_tup (same_new han (.lst [])) hbn (.lst [])
  have a2 : upd (upd H a (.lst [])) b (.lst []) a = some (.lst []) := upd_keep upd_same hbn
  have b2 : upd (upd H a (.lst [])) b (.lst []) b = some (.lst []) := upd_same
  have hab : a ≠ b := ne_of_none upd_same hbn
  have hb0 : H b = none := (same_new han (.lst [])).free hbn
  generalize upd (upd H a (.lst [])) b (.lst []) = H2 at *
  have all_ : (z ++ Str.ofString "+").cps.toList = z.cps.toList ++ [43] := by rw [Str.cps_append, Array.toList_append, plus_is]
  have asc2 : Asc (z ++ Str.ofString "+") := asc_app ha (by rw [plus_is]; exact asc_one (by decide))
  have pl1 : (Str.ofString "+").length = 1 := by decide +kernel
  have sz : (z ++ Str.ofString "+").cps.size = z.length + 1 := by
    show (z ++ Str.ofString "+").length = _
    rw [strLen_append, pl1]
  have gi : ∀ {i c : Nat}, (z ++ Str.ofString "+").cps[i]? = some c → (z.cps.toList ++ [43])[i]? = some c := fun {i c} h => by
    rw [← all_]; simpa using h
  subst e1
  refine seq_hide fun B1 e1 => ?_
  refine ⟨_, rfl, _, _, rfl, rfl, by rw [pl1]; omega, _, rfl, asc2, for_str (fun i σ H' => ∃ (rs fs : List Int) (wd : Str) (o : Option V), σ = [some (.str z), some (.ref a), some (.ref b), some (.str wd), o] ∧ DueI H z.cps.toList a b i rs fs wd H')
    ⟨[], [], Str.ofString "", _, rfl, ⟨s2, a2, b2, ?_, ?_, Nat.le_refl _, Nat.le_refl _, ?_, rfl⟩⟩ (fun i c σ H' hc h => ?_) (fun σ H' h => ?_)⟩
  · rw [show (Str.ofString "").cps.toList = [] by decide +kernel]; exact fun c hc => nomatch hc
  · rw [show (Str.ofString "").length = 0 by decide +kernel]; exact Nat.le_refl _
  · rw [show (Str.ofString "").cps.toList = [] by decide +kernel, List.drop_zero, readD_start]
    cases readW z.cps.toList <;> simp
  · obtain ⟨rs, fs, wd, o, rfl, I⟩ := h
    have hc' := gi hc
    have li : i < z.length + 1 := by rw [← sz]; exact (Array.getElem?_eq_some_iff.mp hc).1
    have lw := I.lw
    have lr := I.lr
    have lf := I.lf
    have hcm : c < 128 := asc_mem asc2 c (List.mem_of_getElem? (by simpa using hc))
    have ep := chr_is c "+" 43 (by decide +kernel)
    have em := chr_is c "-" 45 (by decide +kernel)
    walk_at "rd"
    refine ite_or (fun hpm => ?_) (fun h1 h2 => ?_)
    · have hs : c = 43 ∨ c = 45 := hpm.elim (fun y => .inl (ep.mp y)) fun y => .inr (em.mp y)
      have bad : numW wd.cps.toList = none → Q .non H' := fun hn => x0 (fun rs' h' => by rw [I.none hc' hs hn] at h'; cases h') H' I.same
      refine ite2 (fun e => bad ((num_none I.fig).mpr (.inl (by rw [e]; decide +kernel)))) (fun e1' => ⟨by omega, ite2 (fun e => bad ((num_none I.fig).mpr (.inr (.inl (by rw [← len_list]; omega))))) (fun e2 => ⟨by omega, ?_⟩)⟩)
      obtain ⟨c0, r, hcr⟩ : ∃ c r, wd.cps.toList = c :: r := by
        cases h : wd.cps.toList with
        | nil => exact absurd (str_of h) e1'
        | cons c r => exact ⟨c, r, rfl⟩
      refine ⟨c0, by rw [hcr]; exact atI_nat (j := 0) rfl, ite2 (fun e => bad ((num_none I.fig).mpr (.inr (.inr (by rw [hcr, (chr_is c0 "0" 48 (by decide +kernel)).mp e]; rfl))))) (fun e3 => ?_)⟩
      cases hn : numW wd.cps.toList with
      | none =>
        rcases (num_none I.fig).mp hn with y | y | y
        · rw [y] at hcr; cases hcr
        · rw [← len_list] at y; omega
        · rw [hcr] at y
          have y' : c0 = 48 := by simpa using y
          exact absurd ((chr_is c0 "0" 48 (by decide +kernel)).mpr y') e3
      | some n =>
        obtain ⟨i1, i2⟩ := int_num hn
        have fb1 : upd H' a (.lst (rs.map V.int ++ [.int n])) b = some (.lst (fs.map V.int)) := by rw [upd_ne hab.symm]; exact I.fb
        have J := I.sign (v := if (⟨#[c]⟩ : Str) = Str.ofString "-" then 1 else 0) han hb0 hab hc' hs hn (by simp only [em])
        exact ⟨tyL I.ra, n, i1, by omega, _, I.ra, by rw [List.length_map]; exact small12 (by omega), tyL fb1, .inr ⟨_, fb1, by rw [List.length_map]; exact small12 (by omega), _, _, J⟩⟩
    · have hs : ¬ (c = 43 ∨ c = 45) := fun y => y.elim (fun y => h1 (ep.mpr y)) fun y => h2 (em.mpr y)
      rw [notin_fig hcm]
      cases hF : isFig c with
      | false =>
        rw [if_pos (by rfl)]
        have hcl : c ∈ z.cps.toList := by
          rcases List.mem_append.mp (List.mem_of_getElem? hc') with y | y
          · exact y
          · exact absurd (.inl (List.mem_singleton.mp y)) hs
        exact x0 (fun rs' h' => by rw [readW_bad hcl hs hF] at h'; cases h') H' I.same
      | true =>
        rw [if_neg (by simp)]
        exact ⟨by show wd.length + 1 ≤ sizeLine; omega, _, _, I.other hc' hs hF⟩
  · obtain ⟨rs, fs, wd, o, rfl, I⟩ := h
    obtain ⟨h1, h2⟩ := I.end_ (by rw [sz, List.length_append, ← len_list]; simp)
    obtain ⟨k1, k2, k3⟩ := readW_some h1
    have lr := I.lr
    have bad : ¬ IsRule rs → Q .non H' := fun hn => x0 (fun rs' h' => by rw [h1] at h'; cases h'; exact hn) H' I.same
    subst e1
    dsimp only
    refine seq_hide fun B1 e1 => ?_
    walk_at "rd"
    refine ⟨_, SqL.of I.ra, ?_⟩
    rw [List.length_map]
    refine ite2 (fun e => bad fun y => by have := y.few; omega) (fun e => ⟨_, SqL.of I.ra, k1, fun M hM1 hM2 => ite2 (fun e' => bad fun y => by have := y.hi M hM1; omega) (fun e' => ?_)⟩)
    have hR : IsRule rs := (isRule_iff h1).mpr ⟨by omega, fun x hx => by have := hM2 x hx; omega⟩
    subst e1
    walk_at "rd"
    refine ⟨_, SqL.of I.fb, fun p hp => ⟨(by decide : 2 ≤ sizeLine), fun t ht => ?_⟩⟩
    have ec : cutV (fs.map V.int) none (some (-1)) = (signsL z.cps.toList).map V.int := by
      rw [h2, List.map_append]; exact cut_last _ _
    rw [ec] at ht ⊢
    have hp0 : H p = none := I.same.free hp
    have hap : a ≠ p := ne_of_none I.ra hp
    exact q rs h1 hR t a p _ ⟨same_tup (same_tup I.same hp _) ht _, han, hp0, (same_tup I.same hp _).free ht, hap, upd_same, upd_keep (upd_keep I.ra hp) ht, upd_keep upd_same ht⟩
end
end FR
namespace FR
open PySem L2
theorem kit_tuple {K : PySem.W.Frag} : PySem.W.kitOne K (.type "tuple") (.type "tuple") = some true := by rfl
theorem kit_str {K : PySem.W.Frag} : PySem.W.kitOne K (.type "str") (.type "str") = some true := by rfl
theorem mul_ok : MulOk (Str.ofString "1+") 12 := by
  have : (Str.ofString "1+").length = 2 := by decide +kernel
  unfold MulOk
  rw [this]
  exact ⟨by decide +kernel, fun _ _ => by decide +kernel, fun _ _ => by decide +kernel⟩
/-- the seven texts -/
def sevenS : List Str := [Str.ofString "", Str.ofString "+", Str.ofString "1+", Str.ofString "-1", Str.ofString "61", Txt.mul (Str.ofString "1+") 12 ++ Str.ofString "1", Str.ofString "00"]
theorem seven_at (d : Int) (h0 : 0 ≤ d) (h1 : d < 7) : ∃ z : Str, atI (sevenS.map V.str) d = some (.str z) ∧ Asc z ∧ z.length ≤ 100 := by
  obtain ⟨k, rfl⟩ : ∃ k : Nat, d = (k : Int) := ⟨d.toNat, by omega⟩
  have key : ∀ k : Fin 7, (sevenS[(k : Nat)]?).any (fun z => z.cps.all (· < 128) && decide (z.cps.size ≤ 100)) = true := by decide +kernel
  have hk := key ⟨k, by omega⟩
  dsimp only at hk
  cases e : sevenS[k]? with
  | none => rw [e] at hk; cases hk
  | some z =>
    rw [e] at hk
    simp only [Option.any_some, Bool.and_eq_true, decide_eq_true_eq] at hk
    exact ⟨z, atI_nat (by rw [List.getElem?_map, e]; rfl), hk.1, hk.2⟩
section
variable {P : Program} {w : World} {K : PySem.W.Frag} {mg : Str → Option Value} {base : Heap}
def sp_law (K : PySem.W.Frag) : Sp := fun vs H Q _ => ∃ (a : Addr) (ns : List Int), vs = [.ref a] ∧ SqL K H a (ns.map V.int) ∧ ns.length ≤ 63 ∧ ∀ H', Q (.bl true) H'
theorem ok_law {f : Addr} {fd : FuncData} (F : Fun K "law" "law" s_law f fd) {f_law_numbers : Addr} {d_law_numbers : FuncData} (G_law_numbers : FnOk P w K mg base (CXE P w) 2 f_law_numbers d_law_numbers ["found", "due"] (sp_law_numbers K)) (m_law_numbers : mg "_law_numbers" = some (.ref f_law_numbers)) (k_law_numbers : PySem.W.keepIn K (.ref f_law_numbers) = true) (b_law_numbers : Binds K d_law_numbers ["found", "due"] []) {f_law_alone : Addr} {d_law_alone : FuncData} (G_law_alone : FnOk P w K mg base (CXE P w) 1 f_law_alone d_law_alone ["e"] (sp_law_alone K)) (m_law_alone : mg "_law_alone" = some (.ref f_law_alone)) (k_law_alone : PySem.W.keepIn K (.ref f_law_alone) = true) (b_law_alone : Binds K d_law_alone ["e"] []) {f_law_told : Addr} {d_law_told : FuncData} (G_law_told : FnOk P w K mg base (CXE P w) 4 f_law_told d_law_told ["text"] (sp_law_told K)) (m_law_told : mg "_law_told" = some (.ref f_law_told)) (k_law_told : PySem.W.keepIn K (.ref f_law_told) = true) (b_law_told : Binds K d_law_told ["text"] []) {f_law_due : Addr} {d_law_due : FuncData} (G_law_due : FnOk P w K mg base (CXE P w) 1 f_law_due d_law_due ["text"] (sp_law_due K)) (m_law_due : mg "_law_due" = some (.ref f_law_due)) (k_law_due : PySem.W.keepIn K (.ref f_law_due) = true) (b_law_due : Binds K d_law_due ["text"] []) {f_law_draw : Addr} {d_law_draw : FuncData} (G_law_draw : FnOk P w K mg base (CXE P w) 2 f_law_draw d_law_draw ["script", "k"] (sp_law_draw K)) (m_law_draw : mg "_law_draw" = some (.ref f_law_draw)) (k_law_draw : PySem.W.keepIn K (.ref f_law_draw) = true) (b_law_draw : Binds K d_law_draw ["script", "k"] []) {f_law_turned : Addr} {d_law_turned : FuncData} (G_law_turned : FnOk P w K mg base (CXE P w) 1 f_law_turned d_law_turned ["text", "way", "cell"] (sp_law_turned K)) (m_law_turned : mg "_law_turned" = some (.ref f_law_turned)) (k_law_turned : PySem.W.keepIn K (.ref f_law_turned) = true) (b_law_turned : Binds K d_law_turned ["text", "way", "cell"] []) {f_shown : Addr} {d_shown : FuncData} (G_shown : FnOk P w K mg base (CXE P w) 3 f_shown d_shown ["rule", "folding"] (sp_shown K)) (m_shown : mg "shown" = some (.ref f_shown)) (k_shown : PySem.W.keepIn K (.ref f_shown) = true) (b_shown : Binds K d_shown ["rule", "folding"] []) {f_law_shown : Addr} {d_law_shown : FuncData} (G_law_shown : FnOk P w K mg base (CXE P w) 1 f_law_shown d_law_shown ["rule", "folding"] (sp_law_shown K)) (m_law_shown : mg "_law_shown" = some (.ref f_law_shown)) (k_law_shown : PySem.W.keepIn K (.ref f_law_shown) = true) (b_law_shown : Binds K d_law_shown ["rule", "folding"] []) {f_law_folding : Addr} {d_law_folding : FuncData} (G_law_folding : FnOk P w K mg base (CXE P w) 3 f_law_folding d_law_folding ["script", "start", "pieces"] (sp_law_folding K)) (m_law_folding : mg "_law_folding" = some (.ref f_law_folding)) (k_law_folding : PySem.W.keepIn K (.ref f_law_folding) = true) (b_law_folding : Binds K d_law_folding ["script", "start", "pieces"] []) {f_law_rule : Addr} {d_law_rule : FuncData} (G_law_rule : FnOk P w K mg base (CXE P w) 3 f_law_rule d_law_rule ["script", "pieces"] (sp_law_rule K)) (m_law_rule : mg "_law_rule" = some (.ref f_law_rule)) (k_law_rule : PySem.W.keepIn K (.ref f_law_rule) = true) (b_law_rule : Binds K d_law_rule ["script", "pieces"] []) (z_range : mg "range" = none) (z_len : mg "len" = none) (z_isinstance : mg "isinstance" = none) (z_tuple : mg "tuple" = none) (z_str : mg "str" = none) (z_list : mg "list" = none) :
    FnOk P w K mg base (CXE P w) 5 f fd ["script"] (sp_law K) := by
  refine F.okN sc_law (fun vs H Q E h => ?_) (fun cdv A outer s H vs Q E hr h => ?_)
  · obtain ⟨a, ns, rfl, _⟩ := h
    rfl
  obtain ⟨a, ns, rfl, hS, h63, q⟩ := h
  have ND := sc_law.nd
  have hu64 := hu64_of hr
  have big : 1000 ≤ sizeLine := by rw [sizeLine_eq]; decide
  refine ⟨_, (pss_cons (ps_set (i := 1) ND rfl (Or.inl rfl) (pe_op op_add pe_int (pe_op op_mod (pe_call G_law_draw (hr.mono (by omega)) (by rfl) m_law_draw k_law_draw b_law_draw .nil passN (pa_cons (pv 0) (pa_cons pe_int pa_nil))) pe_int)))
    (pss_cons (ps_set (i := 2) ND rfl (Or.inl rfl) (pe_call G_law_rule (hr.mono (by omega)) (by rfl) m_law_rule k_law_rule b_law_rule .nil passN (pa_cons (pv 0) (pa_cons (pv 1) pa_nil))))
    (pss_cons (ps_set (i := 3) ND rfl (Or.inl rfl) (pe_call G_law_folding (hr.mono (by omega)) (by rfl) m_law_folding k_law_folding b_law_folding .nil passN (pa_cons (pv 0) (pa_cons pe_int (pa_cons (pv 1) pa_nil)))))
    (pss_cons (ps_set (i := 4) ND rfl (Or.inl rfl) (pe_call G_law_shown (hr.mono (by omega)) (by rfl) m_law_shown k_law_shown b_law_shown .nil passN (pa_cons (pv 2) (pa_cons (pv 3) pa_nil))))
    (pss_cons (ps_set (i := 5) ND rfl (Or.inl rfl) (pe_lst (pa_cons (pe_callTy (call_listK K) (by rfl) z_list PyProof.Rows.Boot.«list» (pa_cons (pv 2) pa_nil)) (pa_cons (pe_callTy (call_listK K) (by rfl) z_list PyProof.Rows.Boot.«list» (pa_cons (pv 3) pa_nil)) pa_nil))))
    (pss_cons (ps_set (i := 6) ND rfl (Or.inl rfl) (pe_call G_shown (hr.mono (by omega)) (by rfl) m_shown k_shown b_shown .nil passN (pa_cons (pe_ix (ix_listK K) (pv 5) pe_int (fun _ _ => rfl)) (pa_cons (pe_ix (ix_listK K) (pv 5) pe_int (fun _ _ => rfl)) pa_nil))))
    (pss_cons (ps_if (pw_or (pt_not (pt_truthK K (pe_callB (call_isiK K) (by rfl) z_isinstance PyProof.Rows.Boot.«isinstance» (pa_cons (pv 6) (pa_cons (pe_bltn (v := .ty "str") (by rfl) z_str PyProof.Rows.Boot.«str» rfl) pa_nil))) (fun _ => rfl))) (pw_or (pt_cmpR op_ne (pv 6) (pv 4) (nomark _)) (pw_or1 (pt_cmpR (op_neIIK K hu64) (pv 5) (pe_lst (pa_cons (pv 2) (pa_cons (pv 3) pa_nil))) (nomark _))))).pt (pss_one (ps_ret pe_bl)) pss_nil)
    (pss_cons (ps_set (i := 6) ND rfl (Or.inl rfl) (pe_call G_law_turned (hr.mono (by omega)) (by rfl) m_law_turned k_law_turned b_law_turned .nil passN (pa_cons (pv 4) (pa_cons (pe_op op_mod (pe_call G_law_draw (hr.mono (by omega)) (by rfl) m_law_draw k_law_draw b_law_draw .nil passN (pa_cons (pv 0) (pa_cons pe_int pa_nil))) pe_int) (pa_cons (pe_call G_law_draw (hr.mono (by omega)) (by rfl) m_law_draw k_law_draw b_law_draw .nil passN (pa_cons (pv 0) (pa_cons pe_int pa_nil))) pa_nil)))))
    (pss_cons (ps_textif (i := 6) (pt_cmpR op_eq (pe_op op_mod (pe_call G_law_draw (hr.mono (by omega)) (by rfl) m_law_draw k_law_draw b_law_draw .nil passN (pa_cons (pv 0) (pa_cons pe_int pa_nil))) pe_int) pe_int (nomark _)) (pe_op op_add_str (pe_op op_mulS pe_str pe_int) pe_str) (fun _ => star_bin) (pe_op op_mod (pe_call G_law_draw (hr.mono (by omega)) (by rfl) m_law_draw k_law_draw b_law_draw .nil passN (pa_cons (pv 0) (pa_cons pe_int pa_nil))) pe_int) (fun _ _ => rfl) ND rfl (Or.inl rfl) rfl rfl (Or.inl rfl))
    (pss_cons (ps_set (i := 4) ND rfl (Or.inl rfl) (pe_call G_law_due (hr.mono (by omega)) (by rfl) m_law_due k_law_due b_law_due .nil passN (pa_cons (pv 6) pa_nil)))
    (pss_cons (ps_for PassesOwn.never rfl (pi_range1 (by rfl) z_range (pa_cons pe_int pa_nil)) (pg_name (i := 7) ND rfl (Or.inl rfl)) (pss_cons (ps_set (i := 8) ND rfl (Or.inl rfl) (pe_call G_law_told (hr.mono (by omega)) (by rfl) m_law_told k_law_told b_law_told .nil passN (pa_cons (pv 6) pa_nil)))
    (pss_cons (ps_if (pw_and (pt_cmpR op_isN (pv 4) pe_non (nomark _)) (pw_and1 (pt_cmpR op_ne (pe_call G_law_alone (hr.mono (by omega)) (by rfl) m_law_alone k_law_alone b_law_alone .nil passN (pa_cons (pv 8) pa_nil)) pe_int (nomark _)))).pt (pss_one (ps_ret pe_bl)) pss_nil)
    (pss_one (ps_if (pt_cmpR op_notN (pv 4) pe_non (nomark _)) (pss_cons (ps_if (pw_or (pt_not (pt_truthK K (pe_callB (call_isiK K) (by rfl) z_isinstance PyProof.Rows.Boot.«isinstance» (pa_cons (pv 8) (pa_cons (pe_bltn (v := .ty "tuple") (by rfl) z_tuple PyProof.Rows.Boot.«tuple» rfl) pa_nil))) (fun _ => rfl))) (pw_or (pt_cmpR op_ne (pe_callB (call_lenTK K) (by rfl) z_len PySem.boot_len (pa_cons (pv 8) pa_nil)) pe_int (nomark _)) (pw_or1 (pt_not (pt_truthK K (pe_call G_law_numbers (hr.mono (by omega)) (by rfl) m_law_numbers k_law_numbers b_law_numbers .nil passN (pa_cons (pe_ix (ix_tupK K) (pv 8) pe_int (fun _ _ => rfl)) (pa_cons (pe_ix (ix_tupK K) (pv 4) pe_int (fun _ _ => rfl)) pa_nil))) (fun _ => rfl)))))).pt (pss_one (ps_ret pe_bl)) pss_nil)
    (pss_cons (ps_if (pt_not (pt_truthK K (pe_call G_law_numbers (hr.mono (by omega)) (by rfl) m_law_numbers k_law_numbers b_law_numbers .nil passN (pa_cons (pe_ix (ix_tupK K) (pv 8) pe_int (fun _ _ => rfl)) (pa_cons (pe_ix (ix_tupK K) (pv 4) pe_int (fun _ _ => rfl)) pa_nil))) (fun _ => rfl))) (pss_one (ps_ret pe_bl)) pss_nil)
    (pss_one (ps_expr (pe_bm0K K PySem.F.plainAttrs_list PySem.F.slot_list_clear PySem.F.type_list_clear mt_clear (pe_ix (ix_tupK K) (pv 8) pe_int (fun _ _ => rfl))))))) pss_nil)))))
    (pss_one (ps_ret pe_bl))))))))))))), ?_⟩
  refine seq_hide fun B1 e1 => ?_
  walk_at "rd"
  refine ⟨a, ns, 1, rfl, hS, by decide, by decide, fun d d0 d1 => ?_⟩
  walk_at "rd"
  refine ⟨by decide, ?_⟩
  subst e1
  refine seq_hide fun B1 e1 => ?_
  walk_at "rd"
  refine ⟨a, ns, 1 + d % 12, rfl, hS, by omega, by omega, fun lr H1 rs N1 hR hk => ?_⟩
  try walk_at "rd"
  subst e1
  refine seq_hide fun B1 e1 => ?_
  walk_at "rd"
  refine ⟨a, ns, 30, 1 + d % 12, rfl, N1.same.seq hS, by decide, by decide, by omega, by omega, fun lf H2 fs N2 hF2 hfl => ?_⟩
  try walk_at "rd"
  have hF : IsFold rs fs := ⟨by omega, hF2⟩
  have S2 : Same H H2 := N1.same.trans N2.same
  have r2 := N2.same _ _ N1.at_
  have f2 := N2.at_
  clear N1 N2
  obtain ⟨as1, as2⟩ := shown_ok (fs := fs) hR
  subst e1
  refine seq_hide fun B1 e1 => ?_
  walk_at "rd"
  refine ⟨lr, lf, rs, fs, rfl, r2, f2, hR, hF, fun H3 g3 => ?_⟩
  try walk_at "rd"
  have S3 : Same H H3 := S2.trans g3
  have r3 := g3 _ _ r2
  have f3 := g3 _ _ f2
  clear g3 r2 f2 S2
  subst e1
  refine seq_hide fun B1 e1 => ?_
  walk_at "rd"
  refine ⟨_, SqL.of r3, fun h1 hh1 => ⟨_, SqL.of (upd_keep f3 hh1), fun h2 hh2 => ⟨(by decide : 2 ≤ sizeLine), fun hd hhd => ?_⟩⟩⟩
  have S4' := same_tup (same_tup (same_new hh1 (.lst (rs.map V.int))) hh2 (.lst (fs.map V.int))) hhd (.lst [.ref h1, .ref h2])
  have a4 : upd (upd (upd H3 h1 (.lst (rs.map V.int))) h2 (.lst (fs.map V.int))) hd (.lst [.ref h1, .ref h2]) h1 = some (.lst (rs.map V.int)) := upd_keep (upd_keep upd_same hh2) hhd
  have b4 : upd (upd (upd H3 h1 (.lst (rs.map V.int))) h2 (.lst (fs.map V.int))) hd (.lst [.ref h1, .ref h2]) h2 = some (.lst (fs.map V.int)) := upd_keep upd_same hhd
  have d4 : upd (upd (upd H3 h1 (.lst (rs.map V.int))) h2 (.lst (fs.map V.int))) hd (.lst [.ref h1, .ref h2]) hd = some (.lst [.ref h1, .ref h2]) := upd_same
  generalize upd (upd (upd H3 h1 (.lst (rs.map V.int))) h2 (.lst (fs.map V.int))) hd (.lst [.ref h1, .ref h2]) = H4 at *
  have S4 := S3.trans S4'
  have r4 := S4' _ _ r3
  have f4 := S4' _ _ f3
  clear S4' r3 f3 S3
  subst e1
  refine seq_hide fun B1 e1 => ?_
  walk_at "rd"
  refine ⟨_, SqL.of d4, _, atI_nat (j := 0) rfl, _, SqL.of d4, _, atI_nat (j := 1) rfl, h1, h2, rs, fs, rfl, SqL.of a4, SqL.of b4, fun _ _ H5 g5 => ?_, fun n => absurd hR n, fun _ n => absurd hF n⟩
  try walk_at "rd"
  have S5 := S4.trans g5
  subst e1
  refine seq_hide fun B1 e1 => ?_
  walk_at "rd"
  refine ⟨_, .str _, _, kit_str, ?_⟩
  rw [if_neg (by decide)]
  rw [if_neg (fun z => z trivial)]
  refine ⟨(by decide : 2 ≤ sizeLine), fun p hp => ?_⟩
  have g6 := same_tup g5 hp (.lst [.ref lr, .ref lf])
  refine ⟨_, SqL.of (g6 _ _ d4), _, SqL.of upd_same, [rs, fs], ⟨⟨_, rfl, SqL.of (g6 _ _ a4)⟩, ⟨_, rfl, SqL.of (g6 _ _ b4)⟩, trivial⟩, [rs, fs], ⟨⟨_, rfl, SqL.of (g6 _ _ r4)⟩, ⟨_, rfl, SqL.of (g6 _ _ f4)⟩, trivial⟩, ?_⟩
  rw [if_neg (fun z => z rfl)]
  have S6 := S4.trans g6
  clear g6 g5 a4 b4 d4 r4 f4 S4 S5
  generalize upd H5 p (.lst [.ref lr, .ref lf]) = H6 at *
  generalize shownS rs fs = z0 at *
  subst e1
  refine seq_hide fun B1 e1 => ?_
  walk_at "rd"
  refine ⟨a, ns, 91, rfl, S6.seq hS, by decide, by decide, fun c c0 c1 => ?_⟩
  try walk_at "rd"
  refine ⟨by decide, a, ns, 92, rfl, S6.seq hS, by decide, by decide, fun c' c0' c1' => ?_⟩
  try walk_at "rd"
  refine ⟨z0, c % 4, c', rfl, as1, as2, c0', fun z1 hz1 hl1 => ?_⟩
  try walk_at "rd"
  subst e1
  refine seq_cutS (fun σ' H' => Same H H' ∧ ∃ z : Str, Asc z ∧ z.length ≤ 100 ∧ σ' = [some (.ref a), some (.int (1 + d % 12)), some (.ref lr), some (.ref lf), some (.str z0), some (.ref hd), some (.str z), none, none]) (fun σ' H7 h => ?_) (fun B hB => ?_)
  rotate_left
  · walk_at "rd"
    refine ⟨a, ns, 93, rfl, S6.seq hS, by decide, by decide, fun e e0 e1 => ?_⟩
    try walk_at "rd"
    refine ⟨by decide, ite2 (fun _ => ?_) (fun _ => hB _ _ ⟨S6, z1, hz1, hl1, rfl⟩)⟩
    refine ⟨mul_ok, ?_, (by decide : 7 ≤ sizeLine), fun p2 hp2 => ?_⟩
    · rw [sizeLine_eq]; decide +kernel
    have S7 := same_tup S6 hp2 (.lst (sevenS.map V.str))
    refine ⟨a, ns, 92, rfl, S7.seq hS, by decide, by decide, fun e' e0' e1' => ?_⟩
    try walk_at "rd"
    obtain ⟨z, hz, ha', hl'⟩ := seven_at (e' % 7) (Int.emod_nonneg _ (by decide)) (Int.emod_lt_of_pos _ (by decide))
    refine ⟨by decide, _, SqL.of upd_same, .str z, hz, ?_⟩
    exact hB _ _ ⟨S7, z, ha', hl', rfl⟩
  obtain ⟨S7, z, hz, hl, rfl⟩ := h
  clear S6 hz1 hl1 as1 as2
  refine seq_hide fun B1 e1 => ?_
  walk_at "rd"
  by_cases hG : ∃ rs', readW z.cps.toList = some rs' ∧ IsRule rs'
  · obtain ⟨rs', hr', hR'⟩ := hG
    refine ⟨z, rfl, hz, by omega, fun rs1 h1' h2' t8 l8 f8 H8 N8 => ?_, fun hn => absurd hR' (hn rs' hr')⟩
    obtain rfl : rs1 = rs' := by rw [hr'] at h1'; exact (Option.some.inj h1').symm
    have few := hR'.few
    have sl := signs_len z.cps.toList
    rw [← len_list] at sl
    subst e1
    refine seq_hide fun B1 e1 => ?_
    refine ⟨2, rfl, by decide, by decide, ?_⟩
    refine for_range (lo := 0) (n := 2) (fun i σ H' => Same H8 H' ∧ ∃ (o7 o8 : Option V), σ = [some (.ref a), some (.int (1 + d % 12)), some (.ref lr), some (.ref lf), some (.ref t8), some (.ref hd), some (.str z), o7, o8])
      ⟨Same.refl _, _, _, rfl⟩ (fun i σ H9 hi h => ?_) (fun σ H9 h => ?_)
    · obtain ⟨g9, o7, o8, rfl⟩ := h
      refine seq_hide fun B2 e2 => ?_
      walk_at "rd"
      refine ⟨z, rfl, hz, by omega, fun rs2 h1'' h2'' t9 l9 f9 H10 N10 => ?_, fun hn => absurd hR' (hn _ hr')⟩
      obtain rfl : rs2 = rs1 := by rw [hr'] at h1''; exact (Option.some.inj h1'').symm
      have g10 := g9.trans N10.same
      try walk_at "rd"
      subst e2
      refine seq_hide fun B2 e2 => ?_
      walk_at "rd"
      subst e2
      walk_at "rd"
      refine ⟨_, .tup N10.at_, _, kit_tuple, ?_⟩
      rw [if_neg (by decide)]
      refine ⟨_, SqT.of N10.at_, ?_⟩
      rw [if_neg (by simp)]
      refine ⟨_, SqT.of N10.at_, _, atI_nat (j := 0) rfl, _, SqT.of (g10 _ _ N8.at_), _, atI_nat (j := 0) rfl, l9, l8, rs2, rs2, rfl, N10.rl, g10 _ _ N8.rl, by omega, rfl, fun H11 s11 => ?_⟩
      try walk_at "rd"
      have g11 := g10.trans s11
      refine ⟨_, SqT.of (s11 _ _ N10.at_), _, atI_nat (j := 1) rfl, _, SqT.of (g11 _ _ N8.at_), _, atI_nat (j := 1) rfl, f9, f8, _, _, rfl, s11 _ _ N10.fl, g11 _ _ N8.fl, by omega, rfl, fun H12 s12 => ?_⟩
      try walk_at "rd"
      have g12 := g11.trans s12
      have l12 := s12 _ _ (s11 _ _ N10.rl)
      refine ⟨_, SqT.of (s12 _ _ (s11 _ _ N10.at_)), _, atI_nat (j := 0) rfl, tyL l12, _, rfl, _, l12, ?_⟩
      exact same_upd g12 (g9.free N10.nl) _
    · subst e1
      exact q _
  · have hn : ∀ rs', readW z.cps.toList = some rs' → ¬ IsRule rs' := fun rs' h1' h2' => hG ⟨rs', h1', h2'⟩
    refine ⟨z, rfl, hz, by omega, fun rs1 h1' h2' => absurd h2' (hn rs1 h1'), fun _ H8 s8 => ?_⟩
    subst e1
    refine seq_hide fun B1 e1 => ?_
    refine ⟨2, rfl, by decide, by decide, ?_⟩
    refine for_range (lo := 0) (n := 2) (fun i σ H' => ∃ (o7 o8 : Option V), σ = [some (.ref a), some (.int (1 + d % 12)), some (.ref lr), some (.ref lf), some .non, some (.ref hd), some (.str z), o7, o8])
      ⟨_, _, rfl⟩ (fun i σ H9 hi h => ?_) (fun σ H9 h => ?_)
    · obtain ⟨o7, o8, rfl⟩ := h
      refine seq_hide fun B2 e2 => ?_
      walk_at "rd"
      refine ⟨z, rfl, hz, by omega, fun rs1 h1' h2' => absurd h2' (hn rs1 h1'), fun _ x H10 g10 hx => ?_⟩
      try walk_at "rd"
      subst e2
      refine seq_hide fun B2 e2 => ?_
      walk_at "rd"
      refine ⟨x, "NoText", 3, rfl, hx, rfl, fun H11 g11 => ?_⟩
      try walk_at "rd"
      subst e2
      try walk_at "rd"
      rw [if_neg (by decide)]
      rw [if_neg (fun z => z trivial)]
      trivial
    · subst e1
      exact q _
end
theorem len1 {α : Type} {P : List α → Prop} (h : ∀ x0 : α, P [x0]) : ∀ us : List α, us.length = 1 → P us
  | [x0], _ => h x0
theorem len2 {α : Type} {P : List α → Prop} (h : ∀ x0 x1 : α, P [x0, x1]) : ∀ us : List α, us.length = 2 → P us
  | [x0, x1], _ => h x0 x1
theorem len3 {α : Type} {P : List α → Prop} (h : ∀ x0 x1 x2 : α, P [x0, x1, x2]) : ∀ us : List α, us.length = 3 → P us
  | [x0, x1, x2], _ => h x0 x1 x2
theorem all_mk {l : PySem.W.OpenLaw} {w : World} {K : PySem.W.Frag} {h : Heap} {mg : Str → Option Value} {fa : Addr} (X : K.In h) (G : h.Ns mainGlobals mg) (hfa : mg "law" = some (.ref fa))
    {f_law_whole : Addr} {od_law_whole an_law_whole : Option Addr} {sl_law_whole : Array (Option Value)} {oc_law_whole kV_law_whole dc_law_whole pm_law_whole cd_law_whole ct_law_whole : Value}
    {f_law_numbers : Addr} {od_law_numbers an_law_numbers : Option Addr} {sl_law_numbers : Array (Option Value)} {oc_law_numbers kV_law_numbers dc_law_numbers pm_law_numbers cd_law_numbers ct_law_numbers : Value}
    {f_law_alone : Addr} {od_law_alone an_law_alone : Option Addr} {sl_law_alone : Array (Option Value)} {oc_law_alone kV_law_alone dc_law_alone pm_law_alone cd_law_alone ct_law_alone : Value}
    {f_check_rule : Addr} {od_check_rule an_check_rule : Option Addr} {sl_check_rule : Array (Option Value)} {oc_check_rule kV_check_rule dc_check_rule pm_check_rule cd_check_rule ct_check_rule : Value}
    {f_is_number : Addr} {od_is_number an_is_number : Option Addr} {sl_is_number : Array (Option Value)} {oc_is_number kV_is_number dc_is_number pm_is_number cd_is_number ct_is_number : Value}
    {f_read_length : Addr} {od_read_length an_read_length : Option Addr} {sl_read_length : Array (Option Value)} {oc_read_length kV_read_length dc_read_length pm_read_length cd_read_length ct_read_length : Value}
    {f_read : Addr} {od_read an_read : Option Addr} {sl_read : Array (Option Value)} {oc_read kV_read dc_read pm_read cd_read ct_read : Value}
    {f_law_told : Addr} {od_law_told an_law_told : Option Addr} {sl_law_told : Array (Option Value)} {oc_law_told kV_law_told dc_law_told pm_law_told cd_law_told ct_law_told : Value}
    {f_law_due : Addr} {od_law_due an_law_due : Option Addr} {sl_law_due : Array (Option Value)} {oc_law_due kV_law_due dc_law_due pm_law_due cd_law_due ct_law_due : Value}
    {f_law_cell_at : Addr} {od_law_cell_at an_law_cell_at : Option Addr} {sl_law_cell_at : Array (Option Value)} {oc_law_cell_at kV_law_cell_at dc_law_cell_at pm_law_cell_at cd_law_cell_at ct_law_cell_at : Value}
    {f_law_draw : Addr} {od_law_draw an_law_draw : Option Addr} {sl_law_draw : Array (Option Value)} {oc_law_draw kV_law_draw dc_law_draw pm_law_draw cd_law_draw ct_law_draw : Value}
    {f_law_turned : Addr} {od_law_turned an_law_turned : Option Addr} {sl_law_turned : Array (Option Value)} {oc_law_turned kV_law_turned dc_law_turned pm_law_turned cd_law_turned ct_law_turned : Value}
    {f_check_folding : Addr} {od_check_folding an_check_folding : Option Addr} {sl_check_folding : Array (Option Value)} {oc_check_folding kV_check_folding dc_check_folding pm_check_folding cd_check_folding ct_check_folding : Value}
    {f_shown : Addr} {od_shown an_shown : Option Addr} {sl_shown : Array (Option Value)} {oc_shown kV_shown dc_shown pm_shown cd_shown ct_shown : Value}
    {f_law_shown : Addr} {od_law_shown an_law_shown : Option Addr} {sl_law_shown : Array (Option Value)} {oc_law_shown kV_law_shown dc_law_shown pm_law_shown cd_law_shown ct_law_shown : Value}
    {f_law_folding : Addr} {od_law_folding an_law_folding : Option Addr} {sl_law_folding : Array (Option Value)} {oc_law_folding kV_law_folding dc_law_folding pm_law_folding cd_law_folding ct_law_folding : Value}
    {f_law_rule : Addr} {od_law_rule an_law_rule : Option Addr} {sl_law_rule : Array (Option Value)} {oc_law_rule kV_law_rule dc_law_rule pm_law_rule cd_law_rule ct_law_rule : Value}
    {f_law : Addr} {od_law an_law : Option Addr} {sl_law : Array (Option Value)} {oc_law kV_law dc_law pm_law cd_law ct_law : Value}
    {t_LONGEST_PIECE : Tok}
    {t_MOST_PIECES : Tok}
    {t_FIGURES : Tok}
    (a_law_whole : PySem.W.nsIn K mainGlobals "_law_whole" = some (some (.ref f_law_whole)))
    (l_law_whole : K.lookup f_law_whole = some ⟨oc_law_whole, od_law_whole, .func (PySem.W.fnOf "_law_whole" "_law_whole" (defArgs s_law_whole) (defBody s_law_whole) (defScope s_law_whole) .none kV_law_whole dc_law_whole pm_law_whole an_law_whole cd_law_whole ct_law_whole), sl_law_whole⟩)
    (c_law_whole : PySem.W.codeIn K cd_law_whole "_law_whole" = true)
    (k_law_whole : PySem.W.keepIn K (.ref f_law_whole) = true)
    (a_law_numbers : PySem.W.nsIn K mainGlobals "_law_numbers" = some (some (.ref f_law_numbers)))
    (l_law_numbers : K.lookup f_law_numbers = some ⟨oc_law_numbers, od_law_numbers, .func (PySem.W.fnOf "_law_numbers" "_law_numbers" (defArgs s_law_numbers) (defBody s_law_numbers) (defScope s_law_numbers) .none kV_law_numbers dc_law_numbers pm_law_numbers an_law_numbers cd_law_numbers ct_law_numbers), sl_law_numbers⟩)
    (c_law_numbers : PySem.W.codeIn K cd_law_numbers "_law_numbers" = true)
    (k_law_numbers : PySem.W.keepIn K (.ref f_law_numbers) = true)
    (a_law_alone : PySem.W.nsIn K mainGlobals "_law_alone" = some (some (.ref f_law_alone)))
    (l_law_alone : K.lookup f_law_alone = some ⟨oc_law_alone, od_law_alone, .func (PySem.W.fnOf "_law_alone" "_law_alone" (defArgs s_law_alone) (defBody s_law_alone) (defScope s_law_alone) .none kV_law_alone dc_law_alone pm_law_alone an_law_alone cd_law_alone ct_law_alone), sl_law_alone⟩)
    (c_law_alone : PySem.W.codeIn K cd_law_alone "_law_alone" = true)
    (k_law_alone : PySem.W.keepIn K (.ref f_law_alone) = true)
    (a_check_rule : PySem.W.nsIn K mainGlobals "check_rule" = some (some (.ref f_check_rule)))
    (l_check_rule : K.lookup f_check_rule = some ⟨oc_check_rule, od_check_rule, .func (PySem.W.fnOf "check_rule" "check_rule" (defArgs s_check_rule) (defBody s_check_rule) (defScope s_check_rule) .none kV_check_rule dc_check_rule pm_check_rule an_check_rule cd_check_rule ct_check_rule), sl_check_rule⟩)
    (c_check_rule : PySem.W.codeIn K cd_check_rule "check_rule" = true)
    (k_check_rule : PySem.W.keepIn K (.ref f_check_rule) = true)
    (a_is_number : PySem.W.nsIn K mainGlobals "is_number" = some (some (.ref f_is_number)))
    (l_is_number : K.lookup f_is_number = some ⟨oc_is_number, od_is_number, .func (PySem.W.fnOf "is_number" "is_number" (defArgs s_is_number) (defBody s_is_number) (defScope s_is_number) .none kV_is_number dc_is_number pm_is_number an_is_number cd_is_number ct_is_number), sl_is_number⟩)
    (c_is_number : PySem.W.codeIn K cd_is_number "is_number" = true)
    (k_is_number : PySem.W.keepIn K (.ref f_is_number) = true)
    (a_read_length : PySem.W.nsIn K mainGlobals "read_length" = some (some (.ref f_read_length)))
    (l_read_length : K.lookup f_read_length = some ⟨oc_read_length, od_read_length, .func (PySem.W.fnOf "read_length" "read_length" (defArgs s_read_length) (defBody s_read_length) (defScope s_read_length) .none kV_read_length dc_read_length pm_read_length an_read_length cd_read_length ct_read_length), sl_read_length⟩)
    (c_read_length : PySem.W.codeIn K cd_read_length "read_length" = true)
    (k_read_length : PySem.W.keepIn K (.ref f_read_length) = true)
    (a_read : PySem.W.nsIn K mainGlobals "read" = some (some (.ref f_read)))
    (l_read : K.lookup f_read = some ⟨oc_read, od_read, .func (PySem.W.fnOf "read" "read" (defArgs s_read) (defBody s_read) (defScope s_read) .none kV_read dc_read pm_read an_read cd_read ct_read), sl_read⟩)
    (c_read : PySem.W.codeIn K cd_read "read" = true)
    (k_read : PySem.W.keepIn K (.ref f_read) = true)
    (a_law_told : PySem.W.nsIn K mainGlobals "_law_told" = some (some (.ref f_law_told)))
    (l_law_told : K.lookup f_law_told = some ⟨oc_law_told, od_law_told, .func (PySem.W.fnOf "_law_told" "_law_told" (defArgs s_law_told) (defBody s_law_told) (defScope s_law_told) .none kV_law_told dc_law_told pm_law_told an_law_told cd_law_told ct_law_told), sl_law_told⟩)
    (c_law_told : PySem.W.codeIn K cd_law_told "_law_told" = true)
    (k_law_told : PySem.W.keepIn K (.ref f_law_told) = true)
    (a_law_due : PySem.W.nsIn K mainGlobals "_law_due" = some (some (.ref f_law_due)))
    (l_law_due : K.lookup f_law_due = some ⟨oc_law_due, od_law_due, .func (PySem.W.fnOf "_law_due" "_law_due" (defArgs s_law_due) (defBody s_law_due) (defScope s_law_due) .none kV_law_due dc_law_due pm_law_due an_law_due cd_law_due ct_law_due), sl_law_due⟩)
    (c_law_due : PySem.W.codeIn K cd_law_due "_law_due" = true)
    (k_law_due : PySem.W.keepIn K (.ref f_law_due) = true)
    (a_law_cell_at : PySem.W.nsIn K mainGlobals "_law_cell_at" = some (some (.ref f_law_cell_at)))
    (l_law_cell_at : K.lookup f_law_cell_at = some ⟨oc_law_cell_at, od_law_cell_at, .func (PySem.W.fnOf "_law_cell_at" "_law_cell_at" (defArgs s_law_cell_at) (defBody s_law_cell_at) (defScope s_law_cell_at) .none kV_law_cell_at dc_law_cell_at pm_law_cell_at an_law_cell_at cd_law_cell_at ct_law_cell_at), sl_law_cell_at⟩)
    (c_law_cell_at : PySem.W.codeIn K cd_law_cell_at "_law_cell_at" = true)
    (k_law_cell_at : PySem.W.keepIn K (.ref f_law_cell_at) = true)
    (a_law_draw : PySem.W.nsIn K mainGlobals "_law_draw" = some (some (.ref f_law_draw)))
    (l_law_draw : K.lookup f_law_draw = some ⟨oc_law_draw, od_law_draw, .func (PySem.W.fnOf "_law_draw" "_law_draw" (defArgs s_law_draw) (defBody s_law_draw) (defScope s_law_draw) .none kV_law_draw dc_law_draw pm_law_draw an_law_draw cd_law_draw ct_law_draw), sl_law_draw⟩)
    (c_law_draw : PySem.W.codeIn K cd_law_draw "_law_draw" = true)
    (k_law_draw : PySem.W.keepIn K (.ref f_law_draw) = true)
    (a_law_turned : PySem.W.nsIn K mainGlobals "_law_turned" = some (some (.ref f_law_turned)))
    (l_law_turned : K.lookup f_law_turned = some ⟨oc_law_turned, od_law_turned, .func (PySem.W.fnOf "_law_turned" "_law_turned" (defArgs s_law_turned) (defBody s_law_turned) (defScope s_law_turned) .none kV_law_turned dc_law_turned pm_law_turned an_law_turned cd_law_turned ct_law_turned), sl_law_turned⟩)
    (c_law_turned : PySem.W.codeIn K cd_law_turned "_law_turned" = true)
    (k_law_turned : PySem.W.keepIn K (.ref f_law_turned) = true)
    (a_check_folding : PySem.W.nsIn K mainGlobals "check_folding" = some (some (.ref f_check_folding)))
    (l_check_folding : K.lookup f_check_folding = some ⟨oc_check_folding, od_check_folding, .func (PySem.W.fnOf "check_folding" "check_folding" (defArgs s_check_folding) (defBody s_check_folding) (defScope s_check_folding) .none kV_check_folding dc_check_folding pm_check_folding an_check_folding cd_check_folding ct_check_folding), sl_check_folding⟩)
    (c_check_folding : PySem.W.codeIn K cd_check_folding "check_folding" = true)
    (k_check_folding : PySem.W.keepIn K (.ref f_check_folding) = true)
    (a_shown : PySem.W.nsIn K mainGlobals "shown" = some (some (.ref f_shown)))
    (l_shown : K.lookup f_shown = some ⟨oc_shown, od_shown, .func (PySem.W.fnOf "shown" "shown" (defArgs s_shown) (defBody s_shown) (defScope s_shown) .none kV_shown dc_shown pm_shown an_shown cd_shown ct_shown), sl_shown⟩)
    (c_shown : PySem.W.codeIn K cd_shown "shown" = true)
    (k_shown : PySem.W.keepIn K (.ref f_shown) = true)
    (a_law_shown : PySem.W.nsIn K mainGlobals "_law_shown" = some (some (.ref f_law_shown)))
    (l_law_shown : K.lookup f_law_shown = some ⟨oc_law_shown, od_law_shown, .func (PySem.W.fnOf "_law_shown" "_law_shown" (defArgs s_law_shown) (defBody s_law_shown) (defScope s_law_shown) .none kV_law_shown dc_law_shown pm_law_shown an_law_shown cd_law_shown ct_law_shown), sl_law_shown⟩)
    (c_law_shown : PySem.W.codeIn K cd_law_shown "_law_shown" = true)
    (k_law_shown : PySem.W.keepIn K (.ref f_law_shown) = true)
    (a_law_folding : PySem.W.nsIn K mainGlobals "_law_folding" = some (some (.ref f_law_folding)))
    (l_law_folding : K.lookup f_law_folding = some ⟨oc_law_folding, od_law_folding, .func (PySem.W.fnOf "_law_folding" "_law_folding" (defArgs s_law_folding) (defBody s_law_folding) (defScope s_law_folding) .none kV_law_folding dc_law_folding pm_law_folding an_law_folding cd_law_folding ct_law_folding), sl_law_folding⟩)
    (c_law_folding : PySem.W.codeIn K cd_law_folding "_law_folding" = true)
    (k_law_folding : PySem.W.keepIn K (.ref f_law_folding) = true)
    (a_law_rule : PySem.W.nsIn K mainGlobals "_law_rule" = some (some (.ref f_law_rule)))
    (l_law_rule : K.lookup f_law_rule = some ⟨oc_law_rule, od_law_rule, .func (PySem.W.fnOf "_law_rule" "_law_rule" (defArgs s_law_rule) (defBody s_law_rule) (defScope s_law_rule) .none kV_law_rule dc_law_rule pm_law_rule an_law_rule cd_law_rule ct_law_rule), sl_law_rule⟩)
    (c_law_rule : PySem.W.codeIn K cd_law_rule "_law_rule" = true)
    (k_law_rule : PySem.W.keepIn K (.ref f_law_rule) = true)
    (a_law : PySem.W.nsIn K mainGlobals "law" = some (some (.ref f_law)))
    (l_law : K.lookup f_law = some ⟨oc_law, od_law, .func (PySem.W.fnOf "law" "law" (defArgs s_law) (defBody s_law) (defScope s_law) .none kV_law dc_law pm_law an_law cd_law ct_law), sl_law⟩)
    (c_law : PySem.W.codeIn K cd_law "law" = true)
    (k_law : PySem.W.keepIn K (.ref f_law) = true)
    (z_isinstance : PySem.W.nsIn K mainGlobals "isinstance" = some none)
    (z_bool : PySem.W.nsIn K mainGlobals "bool" = some none)
    (z_int : PySem.W.nsIn K mainGlobals "int" = some none)
    (z_list : PySem.W.nsIn K mainGlobals "list" = some none)
    (z_ValueError : PySem.W.nsIn K mainGlobals "ValueError" = some none)
    (z_len : PySem.W.nsIn K mainGlobals "len" = some none)
    (z_str : PySem.W.nsIn K mainGlobals "str" = some none)
    (z_max : PySem.W.nsIn K mainGlobals "max" = some none)
    (z_zip : PySem.W.nsIn K mainGlobals "zip" = some none)
    (z_range : PySem.W.nsIn K mainGlobals "range" = some none)
    (z_tuple : PySem.W.nsIn K mainGlobals "tuple" = some none)
    (e_rr : errB K = true)
    (g_LONGEST_PIECE : PySem.W.nsIn K mainGlobals "LONGEST_PIECE" = some (some (.int 60 t_LONGEST_PIECE)))
    (g_MOST_PIECES : PySem.W.nsIn K mainGlobals "MOST_PIECES" = some (some (.int 12 t_MOST_PIECES)))
    (g_FIGURES : PySem.W.nsIn K mainGlobals "FIGURES" = some (some (.str (Str.ofString "0123456789") t_FIGURES))) :
    ∃ fd : FuncData, (∀ (s : Shared) (v : Value), BindsTo s fd ⟨[v], []⟩ [("script", v)]) ∧ ∀ base : Heap, K.In base → base.Ns mainGlobals mg → FnOk l.prog w K mg base (CXE l.prog w) 5 fa fd ["script"] (sp_law K) := by
  have e := hfa.symm.trans (PySem.W.mg_of X G a_law)
  cases e
  have F_law_whole := fun_mk (st := s_law_whole) l_law_whole c_law_whole k_law_whole
  have m_law_whole := PySem.W.mg_of X G a_law_whole
  have b_law_whole := F_law_whole.binds (ps := ["found"]) fun _ _ _ _ _ _ us hl => len1 (P := fun us => bindArgs _ { pos := us } = pure (List.zip _ us)) (fun _ => rfl) us hl
  have F_law_numbers := fun_mk (st := s_law_numbers) l_law_numbers c_law_numbers k_law_numbers
  have m_law_numbers := PySem.W.mg_of X G a_law_numbers
  have b_law_numbers := F_law_numbers.binds (ps := ["found", "due"]) fun _ _ _ _ _ _ us hl => len2 (P := fun us => bindArgs _ { pos := us } = pure (List.zip _ us)) (fun _ _ => rfl) us hl
  have F_law_alone := fun_mk (st := s_law_alone) l_law_alone c_law_alone k_law_alone
  have m_law_alone := PySem.W.mg_of X G a_law_alone
  have b_law_alone := F_law_alone.binds (ps := ["e"]) fun _ _ _ _ _ _ us hl => len1 (P := fun us => bindArgs _ { pos := us } = pure (List.zip _ us)) (fun _ => rfl) us hl
  have F_check_rule := fun_mk (st := s_check_rule) l_check_rule c_check_rule k_check_rule
  have m_check_rule := PySem.W.mg_of X G a_check_rule
  have b_check_rule := F_check_rule.binds (ps := ["rule"]) fun _ _ _ _ _ _ us hl => len1 (P := fun us => bindArgs _ { pos := us } = pure (List.zip _ us)) (fun _ => rfl) us hl
  have F_is_number := fun_mk (st := s_is_number) l_is_number c_is_number k_is_number
  have m_is_number := PySem.W.mg_of X G a_is_number
  have b_is_number := F_is_number.binds (ps := ["word"]) fun _ _ _ _ _ _ us hl => len1 (P := fun us => bindArgs _ { pos := us } = pure (List.zip _ us)) (fun _ => rfl) us hl
  have F_read_length := fun_mk (st := s_read_length) l_read_length c_read_length k_read_length
  have m_read_length := PySem.W.mg_of X G a_read_length
  have b_read_length := F_read_length.binds (ps := ["word"]) fun _ _ _ _ _ _ us hl => len1 (P := fun us => bindArgs _ { pos := us } = pure (List.zip _ us)) (fun _ => rfl) us hl
  have F_read := fun_mk (st := s_read) l_read c_read k_read
  have m_read := PySem.W.mg_of X G a_read
  have b_read := F_read.binds (ps := ["text"]) fun _ _ _ _ _ _ us hl => len1 (P := fun us => bindArgs _ { pos := us } = pure (List.zip _ us)) (fun _ => rfl) us hl
  have F_law_told := fun_mk (st := s_law_told) l_law_told c_law_told k_law_told
  have m_law_told := PySem.W.mg_of X G a_law_told
  have b_law_told := F_law_told.binds (ps := ["text"]) fun _ _ _ _ _ _ us hl => len1 (P := fun us => bindArgs _ { pos := us } = pure (List.zip _ us)) (fun _ => rfl) us hl
  have F_law_due := fun_mk (st := s_law_due) l_law_due c_law_due k_law_due
  have m_law_due := PySem.W.mg_of X G a_law_due
  have b_law_due := F_law_due.binds (ps := ["text"]) fun _ _ _ _ _ _ us hl => len1 (P := fun us => bindArgs _ { pos := us } = pure (List.zip _ us)) (fun _ => rfl) us hl
  have F_law_cell_at := fun_mk (st := s_law_cell_at) l_law_cell_at c_law_cell_at k_law_cell_at
  have m_law_cell_at := PySem.W.mg_of X G a_law_cell_at
  have b_law_cell_at := F_law_cell_at.binds (ps := ["script", "k"]) fun _ _ _ _ _ _ us hl => len2 (P := fun us => bindArgs _ { pos := us } = pure (List.zip _ us)) (fun _ _ => rfl) us hl
  have F_law_draw := fun_mk (st := s_law_draw) l_law_draw c_law_draw k_law_draw
  have m_law_draw := PySem.W.mg_of X G a_law_draw
  have b_law_draw := F_law_draw.binds (ps := ["script", "k"]) fun _ _ _ _ _ _ us hl => len2 (P := fun us => bindArgs _ { pos := us } = pure (List.zip _ us)) (fun _ _ => rfl) us hl
  have F_law_turned := fun_mk (st := s_law_turned) l_law_turned c_law_turned k_law_turned
  have m_law_turned := PySem.W.mg_of X G a_law_turned
  have b_law_turned := F_law_turned.binds (ps := ["text", "way", "cell"]) fun _ _ _ _ _ _ us hl => len3 (P := fun us => bindArgs _ { pos := us } = pure (List.zip _ us)) (fun _ _ _ => rfl) us hl
  have F_check_folding := fun_mk (st := s_check_folding) l_check_folding c_check_folding k_check_folding
  have m_check_folding := PySem.W.mg_of X G a_check_folding
  have b_check_folding := F_check_folding.binds (ps := ["rule", "folding"]) fun _ _ _ _ _ _ us hl => len2 (P := fun us => bindArgs _ { pos := us } = pure (List.zip _ us)) (fun _ _ => rfl) us hl
  have F_shown := fun_mk (st := s_shown) l_shown c_shown k_shown
  have m_shown := PySem.W.mg_of X G a_shown
  have b_shown := F_shown.binds (ps := ["rule", "folding"]) fun _ _ _ _ _ _ us hl => len2 (P := fun us => bindArgs _ { pos := us } = pure (List.zip _ us)) (fun _ _ => rfl) us hl
  have F_law_shown := fun_mk (st := s_law_shown) l_law_shown c_law_shown k_law_shown
  have m_law_shown := PySem.W.mg_of X G a_law_shown
  have b_law_shown := F_law_shown.binds (ps := ["rule", "folding"]) fun _ _ _ _ _ _ us hl => len2 (P := fun us => bindArgs _ { pos := us } = pure (List.zip _ us)) (fun _ _ => rfl) us hl
  have F_law_folding := fun_mk (st := s_law_folding) l_law_folding c_law_folding k_law_folding
  have m_law_folding := PySem.W.mg_of X G a_law_folding
  have b_law_folding := F_law_folding.binds (ps := ["script", "start", "pieces"]) fun _ _ _ _ _ _ us hl => len3 (P := fun us => bindArgs _ { pos := us } = pure (List.zip _ us)) (fun _ _ _ => rfl) us hl
  have F_law_rule := fun_mk (st := s_law_rule) l_law_rule c_law_rule k_law_rule
  have m_law_rule := PySem.W.mg_of X G a_law_rule
  have b_law_rule := F_law_rule.binds (ps := ["script", "pieces"]) fun _ _ _ _ _ _ us hl => len2 (P := fun us => bindArgs _ { pos := us } = pure (List.zip _ us)) (fun _ _ => rfl) us hl
  have F_law := fun_mk (st := s_law) l_law c_law k_law
  have m_law := PySem.W.mg_of X G a_law
  have y_isinstance := PySem.W.mg_none_of X G z_isinstance
  have y_bool := PySem.W.mg_none_of X G z_bool
  have y_int := PySem.W.mg_none_of X G z_int
  have y_list := PySem.W.mg_none_of X G z_list
  have y_ValueError := PySem.W.mg_none_of X G z_ValueError
  have y_len := PySem.W.mg_none_of X G z_len
  have y_str := PySem.W.mg_none_of X G z_str
  have y_max := PySem.W.mg_none_of X G z_max
  have y_zip := PySem.W.mg_none_of X G z_zip
  have y_range := PySem.W.mg_none_of X G z_range
  have y_tuple := PySem.W.mg_none_of X G z_tuple
  have m_LONGEST_PIECE := PySem.W.mg_of X G g_LONGEST_PIECE
  have m_MOST_PIECES := PySem.W.mg_of X G g_MOST_PIECES
  have m_FIGURES := PySem.W.mg_of X G g_FIGURES
  have Er := errs_of X G e_rr
  refine ⟨PySem.W.fnOf "law" "law" (defArgs s_law) (defBody s_law) (defScope s_law) .none kV_law dc_law pm_law an_law cd_law ct_law, fun s v => .of_eq rfl, fun base _ _ => ?_⟩
  have G_law_whole := ok_law_whole (P := l.prog) (w := w) (mg := mg) (base := base) F_law_whole y_isinstance y_bool y_int
  have G_law_numbers := ok_law_numbers (P := l.prog) (w := w) (mg := mg) (base := base) F_law_numbers G_law_whole m_law_whole k_law_whole b_law_whole y_isinstance y_list
  have G_law_alone := ok_law_alone (P := l.prog) (w := w) (mg := mg) (base := base) F_law_alone Er y_isinstance y_ValueError
  have G_check_rule := ok_check_rule (P := l.prog) (w := w) (mg := mg) (base := base) F_check_rule Er y_len m_LONGEST_PIECE m_MOST_PIECES
  have G_is_number := ok_is_number (P := l.prog) (w := w) (mg := mg) (base := base) F_is_number m_FIGURES
  have G_read_length := ok_read_length (P := l.prog) (w := w) (mg := mg) (base := base) F_read_length G_is_number m_is_number k_is_number b_is_number Er y_int y_len y_str m_LONGEST_PIECE
  have G_read := ok_read (P := l.prog) (w := w) (mg := mg) (base := base) F_read G_check_rule m_check_rule k_check_rule b_check_rule G_read_length m_read_length k_read_length b_read_length Er
  have G_law_told := ok_law_told (P := l.prog) (w := w) (mg := mg) (base := base) F_law_told G_read m_read k_read b_read Er
  have G_law_due := ok_law_due (P := l.prog) (w := w) (mg := mg) (base := base) F_law_due y_max y_len y_int
  have G_law_cell_at := ok_law_cell_at (P := l.prog) (w := w) (mg := mg) (base := base) F_law_cell_at y_len
  have G_law_draw := ok_law_draw (P := l.prog) (w := w) (mg := mg) (base := base) F_law_draw G_law_cell_at m_law_cell_at k_law_cell_at b_law_cell_at
  have G_law_turned := ok_law_turned (P := l.prog) (w := w) (mg := mg) (base := base) F_law_turned y_len
  have G_check_folding := ok_check_folding (P := l.prog) (w := w) (mg := mg) (base := base) F_check_folding G_check_rule.one m_check_rule k_check_rule b_check_rule Er y_len
  have G_shown := ok_shown (P := l.prog) (w := w) (mg := mg) (base := base) F_shown G_check_folding m_check_folding k_check_folding b_check_folding y_zip y_str
  have G_law_shown := ok_law_shown (P := l.prog) (w := w) (mg := mg) (base := base) F_law_shown y_range y_len y_str
  have G_law_folding := ok_law_folding (P := l.prog) (w := w) (mg := mg) (base := base) F_law_folding G_law_draw m_law_draw k_law_draw b_law_draw y_range
  have G_law_rule := ok_law_rule (P := l.prog) (w := w) (mg := mg) (base := base) F_law_rule G_law_draw m_law_draw k_law_draw b_law_draw y_range
  exact ok_law (P := l.prog) (w := w) (mg := mg) (base := base) F_law G_law_numbers m_law_numbers k_law_numbers b_law_numbers G_law_alone m_law_alone k_law_alone b_law_alone G_law_told m_law_told k_law_told b_law_told G_law_due m_law_due k_law_due b_law_due G_law_draw m_law_draw k_law_draw b_law_draw G_law_turned m_law_turned k_law_turned b_law_turned G_shown m_shown k_shown b_shown G_law_shown m_law_shown k_law_shown b_law_shown G_law_folding m_law_folding k_law_folding b_law_folding G_law_rule m_law_rule k_law_rule b_law_rule y_range y_len y_isinstance y_tuple y_str y_list
theorem walk {l : PySem.W.OpenLaw} {q : Program} {loose : List Str} {XP : (Str → Option Value) → Heap → Prop} {α : Type} {Yf : Shared → α} {Ya : World → α} {d : DefRec} {K : Params → PySem.W.Frag} (hn : l.most = some 63) (hdf : d.params.defaults = [])
    (hY : ∀ (w : World) (s : Shared), Yf s = Ya w → (K w.params).In s.heap ∧ 0 < s.toks)
    (F : ∀ (w : World) (mg : Str → Option Value) (fa : Addr) (h : Heap), (K w.params).In h → h.Ns mainGlobals mg → mg d.name = some (.ref fa) →
      ∃ fd : FuncData, (∀ (s : Shared) (u : Value), BindsTo s fd ⟨[u], []⟩ [("script", u)]) ∧ ∀ base : Heap, (K w.params).In base → base.Ns mainGlobals mg → FnOk l.prog w (K w.params) mg base (CXE l.prog w) 5 fa fd ["script"] (sp_law (K w.params))) :
    PySem.W.WalkX q loose XP Yf Ya l.row.toRowW d [] (fun f vs => PySem.call f vs) :=
  L2.walk_ofX (n := 63) (k := 5) (x := "script") (CX := fun w => CXE l.prog w) (sp := fun w => sp_law (K w.params)) hn (by decide) hdf ⟨rfl, by decide, by decide⟩ hY F (fun _ _ a ns hl _ hS => ⟨a, ns, rfl, hS, hl, fun _ => rfl⟩) fun _ _ _ _ _ z => by
    obtain ⟨_, _, _, _, _, _, _, _, _, _, _, _, _, _, z⟩ := z
    exact z
end FR
open PySem PySem.W PyProof.Rows PySem.W.X PySem.W.ZRun
set_option maxRecDepth 100000 in
set_option maxHeartbeats 0 in
theorem PySem.Challenge.cw_foldrule_k08_written_and_read_holds : PySem.Challenge.rw_foldrule_k08_written_and_read.Holds := by
  w_on; o_law; z_head; (case hw => w_witness2)
  k_fill
  refine FR.walk (l := PySem.Challenge.rw_foldrule_k08_written_and_read) rfl rfl (fun w s Y => L2.z_of Y (fun P => rfl) (by decide)) ?F
  case F =>
    intro w mg fa h KX G hmg
    refine' FR.all_mk KX G hmg ?a_law_whole ?l_law_whole ?c_law_whole ?k_law_whole ?a_law_numbers ?l_law_numbers ?c_law_numbers ?k_law_numbers ?a_law_alone ?l_law_alone ?c_law_alone ?k_law_alone ?a_check_rule ?l_check_rule ?c_check_rule ?k_check_rule ?a_is_number ?l_is_number ?c_is_number ?k_is_number ?a_read_length ?l_read_length ?c_read_length ?k_read_length ?a_read ?l_read ?c_read ?k_read ?a_law_told ?l_law_told ?c_law_told ?k_law_told ?a_law_due ?l_law_due ?c_law_due ?k_law_due ?a_law_cell_at ?l_law_cell_at ?c_law_cell_at ?k_law_cell_at ?a_law_draw ?l_law_draw ?c_law_draw ?k_law_draw ?a_law_turned ?l_law_turned ?c_law_turned ?k_law_turned ?a_check_folding ?l_check_folding ?c_check_folding ?k_check_folding ?a_shown ?l_shown ?c_shown ?k_shown ?a_law_shown ?l_law_shown ?c_law_shown ?k_law_shown ?a_law_folding ?l_law_folding ?c_law_folding ?k_law_folding ?a_law_rule ?l_law_rule ?c_law_rule ?k_law_rule ?a_law ?l_law ?c_law ?k_law ?z_isinstance ?z_bool ?z_int ?z_list ?z_ValueError ?z_len ?z_str ?z_max ?z_zip ?z_range ?z_tuple ?e_rr ?g_LONGEST_PIECE ?g_MOST_PIECES ?g_FIGURES
    (case a_law_whole => k_is)
    (case l_law_whole => k_is)
    (case c_law_whole => k_is)
    (case k_law_whole => k_is)
    (case a_law_numbers => k_is)
    (case l_law_numbers => k_is)
    (case c_law_numbers => k_is)
    (case k_law_numbers => k_is)
    (case a_law_alone => k_is)
    (case l_law_alone => k_is)
    (case c_law_alone => k_is)
    (case k_law_alone => k_is)
    (case a_check_rule => k_is)
    (case l_check_rule => k_is)
    (case c_check_rule => k_is)
    (case k_check_rule => k_is)
    (case a_is_number => k_is)
    (case l_is_number => k_is)
    (case c_is_number => k_is)
    (case k_is_number => k_is)
    (case a_read_length => k_is)
    (case l_read_length => k_is)
    (case c_read_length => k_is)
    (case k_read_length => k_is)
    (case a_read => k_is)
    (case l_read => k_is)
    (case c_read => k_is)
    (case k_read => k_is)
    (case a_law_told => k_is)
    (case l_law_told => k_is)
    (case c_law_told => k_is)
    (case k_law_told => k_is)
    (case a_law_due => k_is)
    (case l_law_due => k_is)
    (case c_law_due => k_is)
    (case k_law_due => k_is)
    (case a_law_cell_at => k_is)
    (case l_law_cell_at => k_is)
    (case c_law_cell_at => k_is)
    (case k_law_cell_at => k_is)
    (case a_law_draw => k_is)
    (case l_law_draw => k_is)
    (case c_law_draw => k_is)
    (case k_law_draw => k_is)
    (case a_law_turned => k_is)
    (case l_law_turned => k_is)
    (case c_law_turned => k_is)
    (case k_law_turned => k_is)
    (case a_check_folding => k_is)
    (case l_check_folding => k_is)
    (case c_check_folding => k_is)
    (case k_check_folding => k_is)
    (case a_shown => k_is)
    (case l_shown => k_is)
    (case c_shown => k_is)
    (case k_shown => k_is)
    (case a_law_shown => k_is)
    (case l_law_shown => k_is)
    (case c_law_shown => k_is)
    (case k_law_shown => k_is)
    (case a_law_folding => k_is)
    (case l_law_folding => k_is)
    (case c_law_folding => k_is)
    (case k_law_folding => k_is)
    (case a_law_rule => k_is)
    (case l_law_rule => k_is)
    (case c_law_rule => k_is)
    (case k_law_rule => k_is)
    (case a_law => k_is)
    (case l_law => k_is)
    (case c_law => k_is)
    (case k_law => k_is)
    (case z_isinstance => k_is)
    (case z_bool => k_is)
    (case z_int => k_is)
    (case z_list => k_is)
    (case z_ValueError => k_is)
    (case z_len => k_is)
    (case z_str => k_is)
    (case z_max => k_is)
    (case z_zip => k_is)
    (case z_range => k_is)
    (case z_tuple => k_is)
    (case e_rr => kernel_rfl)
    (case g_LONGEST_PIECE => k_is)
    (case g_MOST_PIECES => k_is)
    (case g_FIGURES => k_is)

