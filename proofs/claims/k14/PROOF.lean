import PyProof.Rows.All
import Wide.All
import OpenK.AllK
import Wide.FinOn
import Lean
import PyProof.EqAt
import PyProof.EqKinds
import PyProof.TupleCall
import PySem.Challenge.RW_retryhall_k14_log_layers
set_option Elab.async false
set_option linter.all false
set_option maxRecDepth 100000
set_option maxHeartbeats 4000000
/-! THE HAND LAYER, for ints, bools, texts, own classes, LISTS and tuples (index, slices, in, append, pop ..), calls, loops. Paste it whole ahead of your own text; what your proof does not reach may be deleted. -/
namespace L2
open PySem PySem.Spec PyProof.Rows

/-- a key: an int or a str -/
abbrev Key := Sum Int Str
def keyIs : Key → Value → Bool
  | .inl k, v => Value.isInt k v
  | .inr x, v => Value.isStrOf x v
def keyH (w : World) : Key → Int
  | .inl k => hashInt k
  | .inr x => hashStr w x
theorem keyIs_shape : ∀ {k : Key} {v : Value}, keyIs k v = true → (∃ i t, k = Sum.inl i ∧ v = Value.int i t) ∨ (∃ x t, k = Sum.inr x ∧ v = Value.str x t)
  | .inl i, v, h => by
    obtain ⟨t, e⟩ := Value.isInt_shape (k := i) (v := v) h
    exact .inl ⟨i, t, rfl, e⟩
  | .inr x, v, h => by
    obtain ⟨t, e⟩ := Value.isStrOf_shape (x := x) (v := v) h
    exact .inr ⟨x, t, rfl, e⟩
theorem keyIs_int (i : Int) (t : Tok) : keyIs (.inl i) (.int i t) = true := by simp [keyIs, Value.isInt]
theorem keyIs_str (x : Str) (t : Tok) : keyIs (.inr x) (.str x t) = true := by simp [keyIs, Value.isStrOf]
theorem key_ll (a b : Int) : decide ((Sum.inl a : Key) = Sum.inl b) = (a == b) := by
  by_cases e : a = b
  · subst e; simp
  · have h : ¬ (Sum.inl a : Key) = Sum.inl b := fun q => e (Sum.inl.inj q)
    rw [decide_eq_false h]
    exact (beq_eq_false_iff_ne.mpr e).symm
theorem key_rr (a b : Str) : decide ((Sum.inr a : Key) = Sum.inr b) = decide (a = b) := by
  by_cases e : a = b
  · subst e; simp
  · have h : ¬ (Sum.inr a : Key) = Sum.inr b := fun q => e (Sum.inr.inj q)
    rw [decide_eq_false h, decide_eq_false e]
theorem key_lr (a : Int) (b : Str) : decide ((Sum.inl a : Key) = Sum.inr b) = false := decide_eq_false (fun q => nomatch q)
theorem key_rl (a : Str) (b : Int) : decide ((Sum.inr a : Key) = Sum.inl b) = false := decide_eq_false (fun q => nomatch q)

def mixKind (prog : Program) (w : World) : PySem.KeyKind prog w Key where
  is := keyIs
  hash := keyH w
  inj := fun v a b ha hb => by
    rcases keyIs_shape ha with ⟨i, t, rfl, rfl⟩ | ⟨x, t, rfl, rfl⟩
    · rcases keyIs_shape hb with ⟨j, u, rfl, e⟩ | ⟨y, u, rfl, e⟩
      · injection e with e1 _; rw [e1]
      · exact nomatch e
    · rcases keyIs_shape hb with ⟨j, u, rfl, e⟩ | ⟨y, u, rfl, e⟩
      · exact nomatch e
      · injection e with e1 _; rw [e1]
  byValue := fun k v h => by
    rcases keyIs_shape h with ⟨i, t, rfl, rfl⟩ | ⟨x, t, rfl, rfl⟩ <;> rfl
  pyHash := fun hv h => by
    rcases keyIs_shape hv with ⟨i, t, rfl, rfl⟩ | ⟨x, t, rfl, rfl⟩
    · exact wpAny_pyHash_int h
    · exact wpAny_pyHash_str h
  eqBool := fun hu hv h => by
    rcases keyIs_shape hu with ⟨i, t, rfl, rfl⟩ | ⟨x, t, rfl, rfl⟩
    · rcases keyIs_shape hv with ⟨j, u, rfl, rfl⟩ | ⟨y, u, rfl, rfl⟩
      · rw [key_ll] at h; exact wpAny_eqBool_int h
      · rw [key_lr] at h; exact SeqAt.EqAt.int_str i t y u _ _ _ _ h
    · rcases keyIs_shape hv with ⟨j, u, rfl, rfl⟩ | ⟨y, u, rfl, rfl⟩
      · rw [key_rl] at h; exact SeqAt.EqAt.str_int x t j u _ _ _ _ h
      · rw [key_rr] at h; exact wpAny_eqBool_str h
  «strs» := fun k x t v h => by
    rcases keyIs_shape h with ⟨i, u, rfl, e⟩ | ⟨y, u, rfl, e⟩
    · exact nomatch e
    · injection e with e1 _
      subst e1
      cases v <;> rfl

theorem mixKind_int (prog : Program) (w : World) (i : Int) (t : Tok) : (mixKind prog w).is (.inl i) (.int i t) = true := keyIs_int i t
theorem mixKind_str (prog : Program) (w : World) (x : Str) (t : Tok) : (mixKind prog w).is (.inr x) (.str x t) = true := keyIs_str x t
end L2

namespace L2
open PySem PySem.Spec PyProof.Rows

/-- a value, without the heap -/
inductive V where
  | non | bl (b : Bool) | int (i : Int) | str (x : Str) | byt (b : Array UInt8) | flt (b : UInt64) | ref (a : Addr) | ty (n : String)
  deriving DecidableEq

def RelV : V → Value → Prop
  | .non, u => u = Value.none
  | .bl b, u => u = Value.bool b
  | .int i, u => ∃ t, u = Value.int i t
  | .str x, u => ∃ t, u = Value.str x t
  | .byt b, u => ∃ t, u = Value.bytes b t
  | .flt b, u => ∃ t, u = Value.float b t
  | .ref a, u => u = Value.ref a
  | .ty n, u => u = Value.type n

abbrev Vals : List V → List Value → Prop := Paired RelV
theorem Vals.length {xs : List V} {us : List Value} (r : Vals xs us) : xs.length = us.length := Paired.length r
theorem Vals.get : ∀ {xs : List V} {us : List Value} {i : Nat} {x : V}, Vals xs us → xs[i]? = some x → ∃ u, us[i]? = some u ∧ RelV x u
  | _, _, _, _, .nil, e => by simp at e
  | _, _, 0, _, .cons r _, e => by simp at e; subst e; exact ⟨_, rfl, r⟩
  | _, _, i + 1, x, .cons _ t, e => by
    obtain ⟨u, h1, h2⟩ := Vals.get (i := i) (x := x) t (by simpa using e)
    exact ⟨u, by simpa using h1, h2⟩
theorem Vals.set {x : V} {u : Value} (r : RelV x u) : ∀ {xs : List V} {us : List Value} (i : Nat), Vals xs us → Vals (xs.set i x) (us.set i u)
  | _, _, _, .nil => .nil
  | _, _, 0, .cons _ t => .cons r t
  | _, _, i + 1, .cons q t => .cons q (Vals.set r i t)
theorem Vals.append : ∀ {xs ys : List V} {us ws : List Value}, Vals xs us → Vals ys ws → Vals (xs ++ ys) (us ++ ws)
  | _, _, _, _, .nil, s => s
  | _, _, _, _, .cons r t, s => .cons r (Vals.append t s)
theorem Vals.take : ∀ {xs : List V} {us : List Value} (n : Nat), Vals xs us → Vals (xs.take n) (us.take n)
  | _, _, 0, _ => .nil
  | _, _, _ + 1, .nil => .nil
  | _, _, n + 1, .cons r t => .cons r (Vals.take n t)
theorem Vals.drop : ∀ {xs : List V} {us : List Value} (n : Nat), Vals xs us → Vals (xs.drop n) (us.drop n)
  | _, _, 0, r => r
  | _, _, _ + 1, .nil => .nil
  | _, _, n + 1, .cons _ t => Vals.drop n t
theorem Vals.none_of : ∀ {xs : List V} {us : List Value} {i : Nat}, Vals xs us → xs[i]? = none → us[i]? = none := fun {xs us i} r e => by
  have h1 := r.length
  have h2 : xs.length ≤ i := List.getElem?_eq_none_iff.mp e
  exact List.getElem?_eq_none_iff.mpr (by omega)

def RelO : Option V → Option Value → Prop
  | some v, some u => RelV v u
  | none, none => True
  | _, _ => False
def KV {κ : Type} : List (κ × V) → List (κ × Value) → Prop := Paired fun (p : κ × V) (q : κ × Value) => p.1 = q.1 ∧ RelV p.2 q.2

/-- a key of a dict (00_mix): an int or a text -/
def kV : Key → V
  | .inl i => .int i
  | .inr x => .str x

/-- what stands at a tracked address -/
inductive HO where
  /-- a list -/
  | lst (xs : List V)
  /-- a tuple (never changes) -/
  | tup (xs : List V)
  /-- a dict whose keys are ints and texts; one whose keys are tuples of ints and texts (the empty one is both) -/
  | dK (kvs : List (Key × V)) | dT (kvs : List (List Key × V))
  /-- a set of ints: its members, its size -/
  | set (S : Int → Bool) (n : Nat)
  /-- an instance of the class at C, its dict at dx, its attributes -/
  | ins (C dx : Addr) (fs : List (Str × V))
  /-- the dict of the instance at x -/
  | own (x : Addr)
  /-- the dict of an exception -/
  | xd (fs : List (Str × V))
  /-- a bound method, f of x -/
  | met (f x : Addr)
  /-- a range object lo, lo + 1, .. below hi -/
  | rng (lo hi : Int)
  /-- a thing that is known to the object (the script; a dict while a loop walks it): read, never written while it is so -/
  | frz (o : Obj) (u : HO)
  /-- a code object's table -/
  | tbl (ps : Array Value)
  /-- any other thing, by what is true of its one object (a def of one's own: SetO a S n := HO.ext fun h => ..) -/
  | ext (φ : Heap → Prop)

abbrev Hp := Addr → Option HO
def upd (H : Hp) (a : Addr) (o : HO) : Hp := fun b => if b = a then some o else H b
theorem upd_same {H : Hp} {a : Addr} {o : HO} : upd H a o a = some o := by unfold upd; rw [if_pos rfl]
theorem upd_ne {H : Hp} {a b : Addr} {o : HO} (h : b ≠ a) : upd H a o b = H b := by unfold upd; rw [if_neg h]
/-- two objects of different content stand apart -/
theorem ne_of {H : Hp} {a b : Addr} {o u : HO} (h : H a = some o) (h' : H b = some u) (d : o ≠ u) : a ≠ b := by
  intro e; subst e; rw [h] at h'; exact d (Option.some.inj h')
theorem ne_of_none {H : Hp} {a b : Addr} {o : HO} (h : H a = some o) (h' : H b = none) : a ≠ b := by
  intro e; subst e; rw [h] at h'; cases h'

section
variable (P : Program) (w : World)
def ObjOk (H : Hp) (h : Heap) (a : Addr) : HO → Prop
  | .lst xs => xs.length ≤ sizeLine ∧ ∃ (its : List Value) (n : Nat), Vals xs its ∧ h.get? a = some { cls := .type "list", data := .seq its.toArray n }
  | .tup xs => xs.length ≤ sizeLine ∧ ∃ its : List Value, Vals xs its ∧ IsTup h a its.toArray
  | .dK kvs => kvs.length ≤ sizeLine ∧ (a == sysModules) = false ∧ ∃ vs, KV kvs vs ∧ h.DictOf (mixKind P w) a vs
  | .dT kvs => kvs.length ≤ sizeLine ∧ (a == sysModules) = false ∧ ∃ xs : List (List Key × Addr × Value),
      Paired (fun (p : List Key × V) (q : List Key × Addr × Value) => p.1 = q.1 ∧ H q.2.1 = some (.tup (p.1.map kV)) ∧ RelV p.2 q.2.2) kvs xs ∧
      ∃ o es ep, h.get? a = some o ∧ o.ExactDict ∧ o.data = .dict es ep ∧ es.toList = xs.map (entryOfKey (tupleKind (mixKind P w))) ∧ (xs.map (·.1)).Nodup
  | .set S n => h.SetOf (intKind P w) a S n
  | .ins C dx fs => H dx = some (.own a) ∧ fs.length ≤ 1000 ∧ dx ≠ a ∧ h.get? a = some (PySem.W.instObj C dx) ∧
      ∃ mA, h.Ns1 dx mA ∧ (∀ f, RelO (fs.lookup f) (mA f)) ∧ PySem.Within mA (fs.map (·.1))
  | .own _ => ∃ o, h.get? a = some o
  | .xd fs => ∃ mA, h.Ns1 a mA ∧ ∀ f, RelO (fs.lookup f) (mA f)
  | .rng lo hi => ∃ t u v, h.get? a = some { cls := .type "range", data := .fields #[.int lo t, .int hi u, .int 1 v] }
  | .frz o u => h.get? a = some o ∧ ObjOk H h a u
  | .tbl ps => h.get? a = some { cls := .none, data := .fields ps }
  | .met f x => h.get? a = some (PySem.W.methodObj (.ref f) (.ref x))
  | .ext φ => φ h ∧ (∃ o, h.get? a = some o) ∧ ∀ h1 h2 : Heap, φ h1 → (∀ o, h1.get? a = some o → h2.get? a = some o) → φ h2
/-- the abstract heap is held -/
def HOk (H : Hp) (h : Heap) : Prop := ∀ a o, H a = some o → ObjOk P w H h a o
end

section
variable {P : Program} {w : World} {H H' : Hp} {h h' : Heap} {a : Addr} {o : HO}
theorem ObjOk.lt (x : ObjOk P w H h a o) : a < h.objs.size := by
  cases o with
  | lst xs => obtain ⟨_, _, _, _, e⟩ := x; exact Heap.lt_size e
  | tup xs => obtain ⟨_, _, _, p⟩ := x; exact p.lt
  | dK kvs => obtain ⟨_, _, _, _, o, _, _, e, _⟩ := x; exact Heap.lt_size e
  | dT kvs => obtain ⟨_, _, _, _, o, _, _, e, _⟩ := x; exact Heap.lt_size e
  | set S n => obtain ⟨o, _, _, _, e, _⟩ := x; exact Heap.lt_size e
  | ins C dx fs => obtain ⟨_, _, _, e, _⟩ := x; exact Heap.lt_size e
  | own y => obtain ⟨_, e⟩ := x; exact Heap.lt_size e
  | xd fs => obtain ⟨_, ⟨_, _, _, e, _⟩, _⟩ := x; exact Heap.lt_size e
  | rng lo hi => obtain ⟨_, _, _, e⟩ := x; exact Heap.lt_size e
  | frz ob u => obtain ⟨e, _⟩ := x; exact Heap.lt_size e
  | tbl ps => exact Heap.lt_size (show h.get? a = some _ from x)
  | met f y => exact Heap.lt_size (show h.get? a = some _ from x)
  | ext φ => obtain ⟨_, ⟨_, e⟩, _⟩ := x; exact Heap.lt_size e
theorem Paired.mapP {α β : Type} {F G : α → β → Prop} : ∀ {l₁ : List α} {l₂ : List β}, Paired F l₁ l₂ → (∀ a b, F a b → G a b) → Paired G l₁ l₂
  | _, _, .nil, _ => .nil
  | _, _, .cons r t, f => .cons (f _ _ r) (Paired.mapP t f)
/-- what an object's description leans on: its own object, its own dict, the tuples -/
theorem ObjOk.stay (x : ObjOk P w H h a o) (k : ∀ b u, (b = a ∨ H b = some (.own a)) → h.get? b = some u → h'.get? b = some u)
    (ho : ∀ b, H b = some (.own a) → H' b = some (.own a)) (ht : ∀ b xs, H b = some (.tup xs) → H' b = some (.tup xs)) : ObjOk P w H' h' a o := by
  induction o with
  | lst xs => obtain ⟨z, its, n, r, e⟩ := x; exact ⟨z, its, n, r, k _ _ (.inl rfl) e⟩
  | tup xs => obtain ⟨z, its, r, ob, e, c⟩ := x; exact ⟨z, its, r, ob, k _ _ (.inl rfl) e, c⟩
  | dK kvs => obtain ⟨z, y, vs, r, ob, es, ep, e, c⟩ := x; exact ⟨z, y, vs, r, ob, es, ep, k _ _ (.inl rfl) e, c⟩
  | dT kvs =>
    obtain ⟨z, y, xs, r, ob, es, ep, e, c⟩ := x
    exact ⟨z, y, xs, Paired.mapP r fun p q z => ⟨z.1, ht _ _ z.2.1, z.2.2⟩, ob, es, ep, k _ _ (.inl rfl) e, c⟩
  | set S n => obtain ⟨ob, es, ep, t, e, c⟩ := x; exact ⟨ob, es, ep, t, k _ _ (.inl rfl) e, c⟩
  | ins C dx fs =>
    obtain ⟨d, z, ne, e, mA, ⟨od, es, ep, e2, c⟩, r⟩ := x
    exact ⟨ho _ d, z, ne, k _ _ (.inl rfl) e, mA, ⟨od, es, ep, k _ _ (.inr d) e2, c⟩, r⟩
  | own y => obtain ⟨ob, e⟩ := x; exact ⟨ob, k _ _ (.inl rfl) e⟩
  | xd fs => obtain ⟨mA, ⟨od, es, ep, e, c⟩, r⟩ := x; exact ⟨mA, ⟨od, es, ep, k _ _ (.inl rfl) e, c⟩, r⟩
  | rng lo hi => obtain ⟨t, u, v, e⟩ := x; exact ⟨t, u, v, k _ _ (.inl rfl) e⟩
  | frz ob u ih => obtain ⟨e, q⟩ := x; exact ⟨k _ _ (.inl rfl) e, ih q⟩
  | tbl ps =>
    have e : h.get? a = some { cls := .none, data := .fields ps } := x
    show h'.get? a = some { cls := .none, data := .fields ps }
    exact k a _ (.inl rfl) e
  | met f y =>
    have e : h.get? a = some (PySem.W.methodObj (.ref f) (.ref y)) := x
    show h'.get? a = some (PySem.W.methodObj (.ref f) (.ref y))
    exact k a _ (.inl rfl) e
  | ext φ => obtain ⟨p, ⟨o, e⟩, st⟩ := x; exact ⟨st _ _ p fun o q => k _ _ (.inl rfl) q, ⟨o, k _ _ (.inl rfl) e⟩, st⟩
theorem HOk.lt (x : HOk P w H h) (e : H a = some o) : a < h.objs.size := (x a o e).lt
theorem HOk.fresh (x : HOk P w H h) (e : h.objs.size ≤ a) : H a = none := by
  cases q : H a with
  | none => rfl
  | some u => exact absurd (Nat.lt_of_lt_of_le (x.lt q) e) (Nat.lt_irrefl _)
/-- every object of the heap is kept -/
theorem HOk.kept (x : HOk P w H h) (k : ∀ b u, h.get? b = some u → h'.get? b = some u) : HOk P w H h' := fun a o e =>
  (x a o e).stay (fun b u _ q => k b u q) (fun _ q => q) fun _ _ q => q
/-- a new object is laid and tracked -/
theorem HOk.laid (x : HOk P w H h) (k : ∀ b u, h.get? b = some u → h'.get? b = some u) (hp : h.objs.size ≤ a) (new : ObjOk P w (upd H a o) h' a o) : HOk P w (upd H a o) h' := fun b u e => by
  have hn := x.fresh hp
  by_cases hb : b = a
  · subst hb; rw [upd_same] at e; cases e; exact new
  · rw [upd_ne hb] at e
    exact (x b u e).stay (fun c v _ q => k c v q) (fun c q => by rw [upd_ne (ne_of_none q hn)]; exact q) fun c xs q => by rw [upd_ne (ne_of_none q hn)]; exact q
end

/-- what may be read as u: it is u, or a known u -/
def Rd (H : Hp) (a : Addr) (u : HO) : Prop := H a = some u ∨ ∃ o, H a = some (.frz o u)
theorem Rd.of {H : Hp} {a : Addr} {u : HO} (h : H a = some u) : Rd H a u := .inl h
theorem Rd.ok {P : Program} {w : World} {H : Hp} {h : Heap} {a : Addr} {u : HO} (r : Rd H a u) (x : HOk P w H h) : ObjOk P w H h a u := by
  rcases r with r | ⟨o, r⟩
  · exact x a u r
  · obtain ⟨_, q⟩ := x a _ r
    exact q
/-- what may be written -/
def Mut : Option HO → Prop
  | some (.lst _) => True
  | some (.dK _) => True
  | some (.dT _) => True
  | some (.set _ _) => True
  | some (.ins _ _ _) => True
  | some (.ext _) => True
  | _ => False
section
variable {P : Program} {w : World} {H : Hp} {h h' : Heap} {x e : Addr} {o' : HO}
/-- the object at e is changed: x itself, or the dict of the instance x -/
theorem HOk.write (ok : HOk P w H h) (mu : Mut (H x)) (he : e = x ∨ H e = some (.own x)) (k : ∀ b u, b ≠ e → h.get? b = some u → h'.get? b = some u) (heo : ∃ u, h'.get? e = some u)
    (new : ObjOk P w (upd H x o') h' x o') : HOk P w (upd H x o') h' := fun b u q => by
  have nown : ∀ c y, H c = some (.own y) → c ≠ x := fun c y r z => by subst z; rw [r] at mu; exact mu
  have ntup : ∀ c xs, H c = some (.tup xs) → c ≠ x := fun c xs r z => by subst z; rw [r] at mu; exact mu
  by_cases hb : b = x
  · subst hb; rw [upd_same] at q; cases q; exact new
  · rw [upd_ne hb] at q
    by_cases hbe : b = e
    · have q' : H b = some (.own x) := by
        rcases he with z | z
        · exact absurd (hbe.trans z) hb
        · rw [hbe]; exact z
      rw [q] at q'; cases q'
      obtain ⟨v, hv⟩ := heo
      exact ⟨v, by rw [hbe]; exact hv⟩
    · refine (ok b u q).stay (fun c v hc r => k c v ?_ r) (fun c r => by rw [upd_ne (nown c b r)]; exact r) fun c xs r => by rw [upd_ne (ntup c xs r)]; exact r
      rcases hc with rfl | hc
      · exact hbe
      · rintro rfl
        rcases he with z | z
        · exact nown c b hc z
        · rw [hc] at z; cases z; exact hb rfl
end

/-! ### kept unless tracked; of the frames at fs (the callers') the slots may change (an exception that passes writes there); of the records at ex (iterators) nothing is said -/
structure Un (fs ex : List Addr) (H H' : Hp) (h h' : Heap) : Prop where
  keep : ∀ b o, h.get? b = some o → H b = none → b ∉ fs → b ∉ ex → h'.get? b = some o
  slot : ∀ b o, h.get? b = some o → H b = none → b ∈ fs → b ∉ ex → ∃ sl, h'.get? b = some { o with slots := sl }
  free : ∀ b o, h.get? b = some o → H b = none → b ∉ ex → H' b = none
  there : ∀ b o, h.get? b = some o → b ∉ ex → ∃ o', h'.get? b = some o'
  tups : ∀ b xs, H b = some (.tup xs) → H' b = some (.tup xs)
  frzs : ∀ b o u, H b = some (.frz o u) → H' b = some (.frz o u)
  tbls : ∀ b ps, H b = some (.tbl ps) → ∃ more, H' b = some (.tbl (ps ++ more))
section
variable {fs fs' ex ex' : List Addr} {H H1 H2 : Hp} {h h1 h2 h' : Heap} {a x e : Addr} {o : HO}
theorem Un.any (u : Un fs ex H H1 h h1) {b : Addr} {ob : Obj} (q : h.get? b = some ob) (n : H b = none) (hx : b ∉ ex) : ∃ sl, h1.get? b = some { ob with slots := sl } := by
  by_cases hb : b ∈ fs
  · exact u.slot b ob q n hb hx
  · exact ⟨ob.slots, u.keep b ob q n hb hx⟩
theorem Un.trans (a : Un fs ex H H1 h h1) (b : Un fs ex H1 H2 h1 h2) : Un fs ex H H2 h h2 where
  keep := fun c ob q n hc hx => b.keep c ob (a.keep c ob q n hc hx) (a.free c ob q n hx) hc hx
  slot := fun c ob q n hc hx => by
    obtain ⟨sl, e1⟩ := a.slot c ob q n hc hx
    obtain ⟨sl', e2⟩ := b.slot c _ e1 (a.free c ob q n hx) hc hx
    exact ⟨sl', e2⟩
  free := fun c ob q n hx => by
    obtain ⟨o', e1⟩ := a.there c ob q hx
    exact b.free c o' e1 (a.free c ob q n hx) hx
  there := fun c ob q hx => by
    obtain ⟨o', e1⟩ := a.there c ob q hx
    exact b.there c o' e1 hx
  tups := fun c xs q => b.tups c xs (a.tups c xs q)
  frzs := fun c ob xs q => b.frzs c ob xs (a.frzs c ob xs q)
  tbls := fun c ps q => by
    obtain ⟨m1, e1⟩ := a.tbls c ps q
    obtain ⟨m2, e2⟩ := b.tbls c _ e1
    exact ⟨m1 ++ m2, by rw [e2, Array.append_assoc]⟩
theorem Un.kept (k : ∀ b u, h.get? b = some u → h'.get? b = some u) : Un fs ex H H h h' :=
  ⟨fun b ob q _ _ _ => k b ob q, fun b ob q _ _ _ => ⟨ob.slots, k b ob q⟩, fun _ _ _ n _ => n, fun b ob q _ => ⟨ob, k b ob q⟩, fun _ _ q => q, fun _ _ _ q => q, fun _ ps q => ⟨#[], by rw [q]; simp⟩⟩
theorem Un.refl : Un fs ex H H h h := Un.kept fun _ _ q => q
theorem Un.laid (k : ∀ b u, h.get? b = some u → h'.get? b = some u) (hp : h.objs.size ≤ a) (hn : H a = none) : Un fs ex H (upd H a o) h h' where
  keep := fun b u q _ _ _ => k b u q
  slot := fun b u q _ _ _ => ⟨u.slots, k b u q⟩
  free := fun b u q n _ => by rw [upd_ne (Nat.ne_of_lt (Nat.lt_of_lt_of_le (Heap.lt_size q) hp))]; exact n
  there := fun b u q _ => ⟨u, k b u q⟩
  tups := fun b xs q => by rw [upd_ne (ne_of_none q hn)]; exact q
  frzs := fun b u xs q => by rw [upd_ne (ne_of_none q hn)]; exact q
  tbls := fun b ps q => ⟨#[], by rw [upd_ne (ne_of_none q hn), q]; simp⟩
theorem Un.write (mu : Mut (H x)) (he : e = x ∨ H e = some (.own x)) (k : ∀ b u, b ≠ e → h.get? b = some u → h'.get? b = some u) (heo : ∃ u, h'.get? e = some u) : Un fs ex H (upd H x o) h h' := by
  have hx : ∀ b, H b = none → b ≠ x := fun b n z => by subst z; rw [n] at mu; exact mu
  have hb : ∀ b, H b = none → b ≠ e := fun b n z => by
    subst z
    rcases he with r | r
    · exact hx b n r
    · rw [n] at r; cases r
  have hm : ∀ b u, H b = some u → ¬ Mut (some u) → b ≠ x := fun b u q nm z => by subst z; rw [q] at mu; exact nm mu
  refine ⟨fun b u q n _ _ => k b u (hb b n) q, fun b u q n _ _ => ⟨u.slots, k b u (hb b n) q⟩, fun b u q n _ => by rw [upd_ne (hx b n)]; exact n, fun b u q _ => ?_,
    fun b xs q => by rw [upd_ne (hm b _ q fun z => z)]; exact q, fun b u xs q => by rw [upd_ne (hm b _ q fun z => z)]; exact q, fun b ps q => ⟨#[], by rw [upd_ne (hm b _ q fun z => z), q]; simp⟩⟩
  by_cases hbe : b = e
  · subst hbe; exact heo
  · exact ⟨u, k b u hbe q⟩
theorem Un.mono (u : Un fs ex H H1 h h1) (hs : ∀ b ∈ fs, b ∈ fs') (hx : ∀ b ∈ ex, b ∈ ex') : Un fs' ex' H H1 h h1 :=
  ⟨fun b ob q n hb he => u.keep b ob q n (fun z => hb (hs b z)) fun z => he (hx b z), fun _ _ q n _ he => u.any q n fun z => he (hx _ z), fun b ob q n he => u.free b ob q n fun z => he (hx b z), fun b ob q he => u.there b ob q fun z => he (hx b z), u.tups, u.frzs, u.tbls⟩
end

/-! ### the heap without what is tracked -/
def trk (h : Heap) (H : Hp) : List Addr := (List.range h.objs.size).filter fun a => (H a).isSome
def hidT (h : Heap) (H : Hp) : Heap := PySem.W.hideAll h (trk h H)
theorem hidT_size (h : Heap) (H : Hp) : (hidT h H).objs.size = h.objs.size := PySem.W.hideAll_size _ _
theorem hidT_get {h : Heap} {H : Hp} {b : Addr} {o : Obj} (e : h.get? b = some o) (n : H b = none) : (hidT h H).get? b = some o :=
  PySem.W.hideAll_get _ e fun hm => by
    have q : (H b).isSome = true := (List.mem_filter.mp hm).2
    rw [n] at q; simp at q
theorem of_hidT {h : Heap} {H : Hp} {b : Addr} {o : Obj} (e : (hidT h H).get? b = some o) : h.get? b = some o ∧ H b = none := by
  have e' : h.get? b = some o := PySem.W.of_hideAll (trk h H) e
  refine ⟨e', ?_⟩
  cases q : H b with
  | none => rfl
  | some x =>
    have hm : b ∈ trk h H := List.mem_filter.mpr ⟨List.mem_range.mpr (Heap.lt_size e'), by simp [q]⟩
    have z : (hidT h H).get? b = none := PySem.W.hideAll_none (trk h H) hm
    rw [z] at e; cases e

/-! ### OpenK's ledger, filled with every new object but one -/
def allNews (g h : Heap) (L : Addr) : List (Addr × Obj) := (List.range h.objs.size).filterMap fun a => if a = L ∨ (g.get? a).isSome = true then none else (h.get? a).map fun o => (a, o)
def rest (g h : Heap) (L d : Addr) : List (Addr × Obj) := (allNews g h L).filter fun p => decide (p.1 ≠ d)
end L2

namespace L2
open PySem PySem.Spec PyProof.Rows

/-- the module's facts, over the base: the heap at the law's entry without what is tracked there -/
structure Mod (K : PySem.W.Frag) (mg : Str → Option Value) (base : Heap) : Prop where
  kin : K.In base
  glob : base.Ns mainGlobals mg
  blt : ∃ mb, base.Ns builtinsNs mb ∧ ∀ x : Str, x ≠ "__name__" → mb x = bootBuiltins x
  nolimit : base.NoLimit

/-- the context: a def's body (or a comprehension's block) running. base: fixed through the whole law; s₀, H₀: the entry; outer: the frames whose slots others may change (a def's callers); stack: all frames that run;
   ex: iterators that were made ahead of the entry and are walked here (a comprehension's); fn: the names whose cells were made at the entry (a def: all; a comprehension's block: its own); calm: not within an except suite; pn: pins that every state bears; xe: what is wanted of an exception that leaves the code -/
structure Cx where
  prog : Program
  w : World
  K : PySem.W.Frag
  mg : Str → Option Value
  base : Heap
  A : Around
  N : List Str
  s₀ : Shared
  H₀ : Hp
  env : Env
  outer : List Env
  stack : List Env
  ex : List Addr
  fn : Str → Bool
  calm : Bool
  pn : List (Addr × Obj)
  xe : Value → Shared → Prop
/-- the callers' frames -/
def frs (l : List Env) : List Addr := l.filterMap (·.frame)
abbrev Cx.fs (X : Cx) : List Addr := frs X.outer

def Vis (sc : Scope) (x : Str) : Prop := sc.names.lookup x = some .local ∨ sc.names.lookup x = some .cell ∨ sc.names.lookup x = some .free
def Loc (sc : Scope) (x : Str) : Prop := sc.names.lookup x = some .local ∨ sc.names.lookup x = some .cell
def Look (env : Env) (h : Heap) (m : Str → Option Value) (x : Str) (u : Value) : Prop :=
  (env.kindOf x = some .local ∧ m x = some u) ∨ ((env.kindOf x = some .cell ∨ env.kindOf x = some .free) ∧ ∃ c, env.cells.lookup x = some c ∧ h.IsCell c (some u))

structure Cx.Ok (X : Cx) : Prop where
  mod : Mod X.K X.mg X.base
  kind : X.env.scope.kind = .function
  glob : X.env.globals = mainGlobals
  blt : X.env.builtins = builtinsNs
  above : X.s₀.heap.objs.size ≤ X.env.locals
  inj : ∀ x y c, X.env.cells.lookup x = some c → X.env.cells.lookup y = some c → x = y
  has : ∀ x, (X.env.kindOf x = some .cell ∨ X.env.kindOf x = some .free) → ∃ c, X.env.cells.lookup x = some c
  cab : ∀ x c, X.fn x = true → X.env.cells.lookup x = some c → X.s₀.heap.objs.size ≤ c
  hd : X.calm = true → X.A.handled = none
  frames : X.A.frames = some X.stack
  stk : X.stack = X.outer ∨ (X.stack = X.env :: X.outer ∧ X.env.frame = some X.env.locals)
  exf : ∀ b ∈ X.ex, b ≠ X.env.locals ∧ ∀ x c, X.env.cells.lookup x = some c → c ≠ b
  bs : ∀ b o, X.base.get? b = some o → X.s₀.heap.get? b = some o ∧ X.H₀ b = none
  bsz : X.base.objs.size ≤ X.s₀.heap.objs.size
  noex : ∀ b o, X.base.get? b = some o → b ∉ X.ex
  exfs : ∀ b ∈ X.ex, b ∉ X.fs
  funs : X.s₀.heap.FunFrames X.base X.outer
  frf : ∀ b ∈ X.fs, X.H₀ b = none

structure Inv (X : Cx) (pins : List (Addr × Obj)) (σ : List (Option V)) (H : Hp) (s : Shared) : Prop where
  ok : X.Ok
  os : s.os = X.s₀.os
  bare : AllBare s.gens
  base : Un X.fs X.ex X.H₀ H X.s₀.heap s.heap
  loc : ∃ m, s.heap.Ns X.env.locals m ∧ ∀ (i : Nat) (x : Str) (v : V), X.N[i]? = some x → σ[i]? = some (some v) → Vis X.env.scope x → ∃ u, RelV v u ∧ Look X.env s.heap m x u
  cell : ∀ x c, X.env.cells.lookup x = some c → ∃ v, s.heap.IsCell c v
  free : H X.env.locals = none
  freeC : ∀ x c, X.env.cells.lookup x = some c → H c = none
  pin : ∀ p ∈ X.pn ++ pins, s.heap.get? p.1 = some p.2 ∧ H p.1 = none ∧ p.1 ≠ X.env.locals ∧ p.1 ∉ X.fs ∧ ∀ v, p.2.data ≠ .cell v
  hok : HOk X.prog X.w H s.heap
  len : σ.length = X.N.length

section
variable {X : Cx} {pins : List (Addr × Obj)} {σ : List (Option V)} {H H' : Hp} {s : Shared} {h' : Heap}

theorem Cx.Ok.nofr (ok : X.Ok) {b : Addr} {o : Obj} (e : X.base.get? b = some o) : b ∉ X.fs := fun hb => by
  have := (ok.funs.mem hb).1
  rw [e] at this; cases this
theorem Inv.bs (I : Inv X pins σ H s) : ∀ b o, X.base.get? b = some o → s.heap.get? b = some o ∧ H b = none := fun b o e =>
  ⟨I.base.keep b o (I.ok.bs b o e).1 (I.ok.bs b o e).2 (I.ok.nofr e) (I.ok.noex b o e), I.base.free b o (I.ok.bs b o e).1 (I.ok.bs b o e).2 (I.ok.noex b o e)⟩
theorem Inv.bk (I : Inv X pins σ H s) : ∀ b o, X.base.get? b = some o → s.heap.get? b = some o := fun b o e => (I.bs b o e).1
theorem Inv.mod (I : Inv X pins σ H s) : Mod X.K X.mg X.base := I.ok.mod
theorem Inv.kIn (I : Inv X pins σ H s) : X.K.In s.heap := I.ok.mod.kin.keeps I.bk
theorem Inv.nolimit (I : Inv X pins σ H s) : s.heap.NoLimit := I.ok.mod.nolimit.keeps I.bk
/-- the frame over the base: for OpenK's rules (K.In X.base is I.mod.kin) -/
theorem Inv.fr (I : Inv X pins σ H s) : ∃ m, Fr X.base X.env.locals s.heap m :=
  let ⟨m, hn, _⟩ := I.loc
  ⟨m, hn, I.bk, Nat.le_trans I.ok.bsz I.ok.above⟩
theorem Inv.lt (I : Inv X pins σ H s) : X.env.locals < s.heap.objs.size := let ⟨_, hn, _⟩ := I.loc; hn.lt
theorem Inv.sz (I : Inv X pins σ H s) : X.s₀.heap.objs.size ≤ s.heap.objs.size := Nat.le_trans I.ok.above (Nat.le_of_lt I.lt)
theorem Inv.nofs (I : Inv X pins σ H s) {a : Addr} (h : s.heap.objs.size ≤ a) : a ∉ X.fs := fun hb => by
  obtain ⟨_, o, ho, _⟩ := I.ok.funs.mem hb
  exact absurd (Nat.lt_of_lt_of_le (Heap.lt_size ho) (Nat.le_trans I.sz h)) (Nat.lt_irrefl _)
theorem Inv.cne (I : Inv X pins σ H s) : ∀ x c, X.env.cells.lookup x = some c → c ≠ X.env.locals := fun x c e z => by
  obtain ⟨v, o, ho, hd⟩ := I.cell x c e
  obtain ⟨m, ⟨o', es, ep, ho', hd', _⟩, _⟩ := I.loc
  rw [z, ho'] at ho; cases ho; rw [hd'] at hd; cases hd
theorem Inv.funs (I : Inv X pins σ H s) : s.heap.FunFrames X.base X.outer := by
  have all : ∀ (l : List Env), (∀ b ∈ frs l, b ∈ X.fs) → X.s₀.heap.FunFrames X.base l → s.heap.FunFrames X.base l := by
    intro l
    induction l with
    | nil => intro _ _; trivial
    | cons env r ih =>
      intro hs hl
      obtain ⟨hk, ⟨L, o, hf, hn, ho, hd⟩, hr⟩ := hl
      have hL : L ∈ X.fs := hs L (by unfold frs; rw [List.filterMap_cons, hf]; exact List.mem_cons_self)
      obtain ⟨sl, e⟩ := I.base.slot L o ho (I.ok.frf L hL) hL fun z => I.ok.exfs L z hL
      exact ⟨hk, ⟨L, _, hf, hn, e, hd⟩, ih (fun b hb => hs b (by unfold frs; rw [List.filterMap_cons, hf]; exact List.mem_cons_of_mem _ hb)) hr⟩
  exact all X.outer (fun _ hb => hb) I.ok.funs

/-- the frames that run, for a call -/
theorem Inv.stack (I : Inv X pins σ H s) : s.heap.FunFrames X.base X.stack := by
  rcases I.ok.stk with e | ⟨e, hf⟩
  · rw [e]; exact I.funs
  · rw [e]
    obtain ⟨m, hn, _⟩ := I.loc
    refine .cons (by rw [I.ok.kind]; decide) hf hn ?_ I.funs
    exact Heap.get?_none_of_le (Nat.le_trans I.ok.bsz I.ok.above)
theorem Inv.stkSub (I : Inv X pins σ H s) : ∀ b ∈ frs X.stack, b ∈ X.env.locals :: X.fs := fun b hb => by
  rcases I.ok.stk with e | ⟨e, hf⟩
  · rw [e] at hb; exact List.mem_cons_of_mem _ hb
  · rw [e] at hb
    unfold frs at hb
    rw [List.filterMap_cons, hf] at hb
    exact hb
theorem Inv.stkFree (I : Inv X pins σ H s) : ∀ b ∈ frs X.stack, H b = none := fun b hb => by
  rcases List.mem_cons.mp (I.stkSub b hb) with e | hb
  · rw [e]; exact I.free
  · obtain ⟨_, o, ho, _⟩ := I.ok.funs.mem hb
    exact I.base.free b o ho (I.ok.frf b hb) fun z => I.ok.exfs b z hb

/-- THE STEP: the untracked objects but the frame and the records at ch are kept (the callers' frames up to slots), the frame's map is kept, the new abstract heap is held -/
theorem Inv.step {g' : Array GenState} {t' : Nat} {d' : Drawn} {ch : List Addr} (I : Inv X pins σ H s)
    (hch : ∀ b ∈ ch, (b ∈ X.ex ∨ X.s₀.heap.objs.size ≤ b) ∧ b ≠ X.env.locals ∧ (∀ x c, X.env.cells.lookup x = some c → c ≠ b) ∧ ∀ p ∈ X.pn ++ pins, p.1 ≠ b)
    (keep : ∀ b o, b ≠ X.env.locals → b ∉ X.fs → b ∉ ch → s.heap.get? b = some o → H b = none → h'.get? b = some o)
    (slot : ∀ b o, b ≠ X.env.locals → b ∈ X.fs → b ∉ ch → s.heap.get? b = some o → H b = none → ∃ sl, h'.get? b = some { o with slots := sl }) (free : ∀ b o, b ∉ ch → s.heap.get? b = some o → H b = none → H' b = none)
    (there : ∀ b o, b ∉ ch → s.heap.get? b = some o → ∃ o', h'.get? b = some o')
    (tups : ∀ b xs, H b = some (.tup xs) → H' b = some (.tup xs)) (frzs : ∀ b o u, H b = some (.frz o u) → H' b = some (.frz o u)) (tbls : ∀ b ps, H b = some (.tbl ps) → ∃ more, H' b = some (.tbl (ps ++ more)))
    (ns : ∀ m, s.heap.Ns X.env.locals m → h'.Ns X.env.locals m) (hok : HOk X.prog X.w H' h') (hg : AllBare g') :
    Inv X pins σ H' { s with heap := h', gens := g', drawn := d', toks := t' } := by
  have neL : ∀ b o, X.s₀.heap.get? b = some o → b ≠ X.env.locals := fun b o e => Nat.ne_of_lt (Nat.lt_of_lt_of_le (Heap.lt_size e) I.ok.above)
  have neC : ∀ b o, X.s₀.heap.get? b = some o → b ∉ X.ex → b ∉ ch := fun b o e hx hb => by
    rcases (hch b hb).1 with z | z
    · exact hx z
    · exact absurd (Nat.lt_of_lt_of_le (Heap.lt_size e) z) (Nat.lt_irrefl _)
  have cellK : ∀ x c, X.env.cells.lookup x = some c → ∀ v, s.heap.IsCell c v → h'.IsCell c v := fun x c e v ⟨o, ho, hd⟩ => by
    have nch : c ∉ ch := fun z => (hch c z).2.2.1 x c e rfl
    by_cases hc : c ∈ X.fs
    · obtain ⟨sl, q⟩ := slot c o (I.cne x c e) hc nch ho (I.freeC x c e)
      exact ⟨_, q, hd⟩
    · exact ⟨o, keep c o (I.cne x c e) hc nch ho (I.freeC x c e), hd⟩
  refine ⟨I.ok, I.os, hg, ⟨fun b o e n hb hx => ?_, fun b o e n hb hx => ?_, fun b o e n hx => ?_, fun b o e hx => ?_, fun b xs e => tups b xs (I.base.tups b xs e), fun b o xs e => frzs b o xs (I.base.frzs b o xs e), fun b ps e => ?_⟩, ?_, fun x c e => ?_, ?_, fun x c e => ?_, fun p hp => ?_, hok, I.len⟩
  · exact keep b o (neL b o e) hb (neC b o e hx) (I.base.keep b o e n hb hx) (I.base.free b o e n hx)
  · obtain ⟨sl, e1⟩ := I.base.slot b o e n hb hx
    obtain ⟨sl', e2⟩ := slot b _ (neL b o e) hb (neC b o e hx) e1 (I.base.free b o e n hx)
    exact ⟨sl', e2⟩
  · obtain ⟨o', e1⟩ := I.base.there b o e hx
    exact free b o' (neC b o e hx) e1 (I.base.free b o e n hx)
  · obtain ⟨o', e1⟩ := I.base.there b o e hx
    exact there b o' (neC b o e hx) e1
  · obtain ⟨m1, e1⟩ := I.base.tbls b ps e
    obtain ⟨m2, e2⟩ := tbls b _ e1
    exact ⟨m1 ++ m2, by rw [e2, Array.append_assoc]⟩
  · obtain ⟨m, hn, hl⟩ := I.loc
    refine ⟨m, ns m hn, fun i x v e1 e2 e3 => ?_⟩
    obtain ⟨u, r, l⟩ := hl i x v e1 e2 e3
    refine ⟨u, r, ?_⟩
    rcases l with l | ⟨k, c, e, z⟩
    · exact .inl l
    · exact .inr ⟨k, c, e, cellK x c e _ z⟩
  · obtain ⟨v, z⟩ := I.cell x c e
    exact ⟨v, cellK x c e v z⟩
  · obtain ⟨m, ⟨o, _, _, ho, _⟩, _⟩ := I.loc
    exact free _ o (fun z => (hch _ z).2.1 rfl) ho I.free
  · obtain ⟨v, o, ho, hd⟩ := I.cell x c e
    exact free c o (fun z => (hch c z).2.2.1 x c e rfl) ho (I.freeC x c e)
  · obtain ⟨e, n, ne, nf, d⟩ := I.pin p hp
    have nch : p.1 ∉ ch := fun z => (hch p.1 z).2.2.2 p hp rfl
    exact ⟨keep p.1 p.2 ne nf nch e n, free p.1 p.2 nch e n, ne, nf, d⟩
/-- .. where the frame's own object is kept too -/
theorem Inv.un {t' : Nat} (I : Inv X pins σ H s) (u : Un X.fs [] H H' s.heap h') (hok : HOk X.prog X.w H' h') : Inv X pins σ H' { s with heap := h', toks := t' } := by
  obtain ⟨m, ⟨o, es, ep, ho, r⟩, _⟩ := id I.loc
  obtain ⟨sl, hL⟩ := u.any ho I.free (by simp)
  exact I.step (g' := s.gens) (d' := s.drawn) (ch := []) (fun _ z => nomatch z) (fun b o _ hb _ e n => u.keep b o e n hb (by simp)) (fun b o _ hb _ e n => u.slot b o e n hb (by simp)) (fun b o _ e n => u.free b o e n (by simp)) (fun b o _ e => u.there b o e (by simp)) u.tups u.frzs u.tbls (fun m' hm => by
    obtain ⟨o', es', ep', ho', r'⟩ := hm
    rw [ho] at ho'; cases ho'
    exact ⟨_, es', ep', hL, r'⟩) hok I.bare
/-- behind a call (or a comprehension's block): the slots of this frame may have changed too, the records at ch may have turned -/
theorem Inv.call {g' : Array GenState} {t' : Nat} {d' : Drawn} {ch : List Addr} (I : Inv X pins σ H s) (u : Un (frs X.stack) ch H H' s.heap h') (hok : HOk X.prog X.w H' h') (hg : AllBare g')
    (hch : ∀ b ∈ ch, (b ∈ X.ex ∨ X.s₀.heap.objs.size ≤ b) ∧ b ≠ X.env.locals ∧ (∀ x c, X.env.cells.lookup x = some c → c ≠ b) ∧ ∀ p ∈ X.pn ++ pins, p.1 ≠ b) :
    Inv X pins σ H' { s with heap := h', gens := g', drawn := d', toks := t' } := by
  obtain ⟨m, ⟨o, es, ep, ho, r⟩, _⟩ := id I.loc
  obtain ⟨sl, hL⟩ := u.any ho I.free fun z => (hch _ z).2.1 rfl
  exact I.step (ch := ch) hch (fun b o hL hb hc e n => u.keep b o e n (fun z => (List.mem_cons.mp (I.stkSub b z)).elim hL hb) hc) (fun b o _ _ hc e n => u.any e n hc) (fun b o hc e n => u.free b o e n hc) (fun b o hc e => u.there b o e hc) u.tups u.frzs u.tbls (fun m' hm => by
    obtain ⟨o', es', ep', ho', r'⟩ := hm
    rw [ho] at ho'; cases ho'
    exact ⟨_, es', ep', hL, r'⟩) hok hg
/-- an untracked record of ours (an iterator) has turned -/
theorem Inv.turned {t' : Nat} {it : Addr} (I : Inv X pins σ H s) (k : ∀ b o, b ≠ it → s.heap.get? b = some o → h'.get? b = some o) (hn : H it = none) (hL : it ≠ X.env.locals)
    (h1 : it ∈ X.ex ∨ X.s₀.heap.objs.size ≤ it) (h2 : ∀ x c, X.env.cells.lookup x = some c → c ≠ it) (h3 : ∀ p ∈ X.pn ++ pins, p.1 ≠ it) : Inv X pins σ H { s with heap := h', toks := t' } := by
  have nit : ∀ b u, H b = some u → b ≠ it := fun b u e z => by rw [z, hn] at e; cases e
  refine I.step (g' := s.gens) (d' := s.drawn) (ch := [it]) (fun b hb => ?_) (fun b o _ _ hc e _ => k b o (fun z => hc (by simp [z])) e) (fun b o _ _ hc e _ => ⟨o.slots, k b o (fun z => hc (by simp [z])) e⟩) (fun _ _ _ _ n => n)
    (fun b o hc e => ⟨o, k b o (fun z => hc (by simp [z])) e⟩) (fun _ _ e => e) (fun _ _ _ e => e) (fun b ps e => ⟨#[], by rw [e]; simp⟩) (fun m hm => ?_) (fun b u e => ?_) I.bare
  · have e : b = it := by simpa using hb
    subst e
    exact ⟨h1, hL, h2, h3⟩
  · obtain ⟨o, es, ep, ho, r⟩ := hm
    exact ⟨o, es, ep, k _ o (Ne.symm hL) ho, r⟩
  · refine (I.hok b u e).stay (fun c v hc q => k c v ?_ q) (fun _ q => q) fun _ _ q => q
    rcases hc with z | z
    · rw [z]; exact nit b u e
    · exact nit c _ z
theorem Inv.tok (I : Inv X pins σ H s) (t : Nat) : Inv X pins σ H { s with toks := t } := I.un (h' := s.heap) (t' := t) Un.refl I.hok
/-- all objects kept -/
theorem Inv.kept {t' : Nat} (I : Inv X pins σ H s) (k : ∀ b u, s.heap.get? b = some u → h'.get? b = some u) : Inv X pins σ H { s with heap := h', toks := t' } := I.un (Un.kept k) (I.hok.kept k)
/-- a new object laid and tracked -/
theorem Inv.laid {a : Addr} {o : HO} {t' : Nat} (I : Inv X pins σ H s) (k : ∀ b u, s.heap.get? b = some u → h'.get? b = some u) (hp : s.heap.objs.size ≤ a) (new : ObjOk X.prog X.w (upd H a o) h' a o) :
    Inv X pins σ (upd H a o) { s with heap := h', toks := t' } := I.un (Un.laid k hp (I.hok.fresh hp)) (I.hok.laid k hp new)
/-- an object written -/
theorem Inv.write {x e : Addr} {o : HO} {t' : Nat} (I : Inv X pins σ H s) (mu : Mut (H x)) (he : e = x ∨ H e = some (.own x)) (k : ∀ b u, b ≠ e → s.heap.get? b = some u → h'.get? b = some u) (heo : ∃ u, h'.get? e = some u)
    (new : ObjOk X.prog X.w (upd H x o) h' x o) : Inv X pins σ (upd H x o) { s with heap := h', toks := t' } := I.un (Un.write mu he k heo) (I.hok.write mu he k heo new)
theorem Inv.pins_of {pins' : List (Addr × Obj)} (I : Inv X pins σ H s) (h : ∀ p ∈ pins', s.heap.get? p.1 = some p.2 ∧ H p.1 = none ∧ p.1 ≠ X.env.locals ∧ p.1 ∉ X.fs ∧ ∀ v, p.2.data ≠ .cell v) : Inv X pins' σ H s :=
  ⟨I.ok, I.os, I.bare, I.base, I.loc, I.cell, I.free, I.freeC, fun p hp => (List.mem_append.mp hp).elim (fun z => I.pin p (List.mem_append_left _ z)) (h p), I.hok, I.len⟩

theorem nodup_ix {N : List Str} (hN : N.Nodup) {i j : Nat} {x : Str} (a : N[i]? = some x) (b : N[j]? = some x) : i = j := by
  obtain ⟨h1, e1⟩ := List.getElem?_eq_some_iff.mp a
  obtain ⟨h2, e2⟩ := List.getElem?_eq_some_iff.mp b
  exact (List.getElem_inj hN).mp (e1.trans e2.symm)

/-- a name is stored; what changed -/
theorem store_ok2 {M : Model} {A : Around} {E : Value → Shared → Prop} {i : Nat} {x : Str} {v : V} {u : Value} {Q : Unit → Shared → Prop} (I : Inv X pins σ H s) (hN : X.N.Nodup) (hi : X.N[i]? = some x) (hx : Loc X.env.scope x) (r : RelV v u)
    (h : ∀ s', Inv X pins (σ.set i (some v)) H s' → (∃ a, Heap.SameBut a s.heap s'.heap ∧ (a = X.env.locals ∨ X.env.cells.lookup x = some a)) → Q () s') (hf : X.fn x = true ∨ X.env.scope.names.lookup x = some .local := by first | exact .inl rfl | exact .inr rfl | assumption) : wpAny M A (storeName X.env x u) Q E s := by
  obtain ⟨m, hn, hl⟩ := id I.loc
  have hcls : (X.env.scope.kind == .class || (X.env.scope.kind == .module && X.env.locals != X.env.globals)) = false := by rw [I.ok.kind]; rfl
  have hiσ : i < σ.length := by rw [I.len]; exact (List.getElem?_eq_some_iff.mp hi).1
  have cne := I.cne
  have tracked : ∀ {a : Addr} {h' : Heap}, (∃ o, s.heap.get? a = some o ∧ H a = none) → Heap.SameBut a s.heap h' → HOk X.prog X.w H h' := fun {a h'} ha hs b ob e => by
    obtain ⟨_, _, hfree⟩ := ha
    refine (I.hok b ob e).stay (fun c w' hc q => (hs.2 c ?_).trans q) (fun _ q => q) fun _ _ q => q
    rintro rfl
    rcases hc with rfl | hc
    · rw [hfree] at e; cases e
    · rw [hfree] at hc; cases hc
  rcases hx with hk | hk
  · refine wpAny_storeName_local hk hn (fun h' hn' hs => ?_) hcls
    obtain ⟨oL, _, _, hoL, _⟩ := id hn
    refine h _ ⟨I.ok, I.os, I.bare, ⟨fun b o e n hb hx => ?_, fun b o e n hb hx => ?_, I.base.free, fun b o e hx => ?_, I.base.tups, I.base.frzs, I.base.tbls⟩, ⟨_, hn', fun j y v' e1 e2 e3 => ?_⟩, fun y c e => ?_, I.free, I.freeC, fun p hp => ?_, tracked ⟨oL, hoL, I.free⟩ hs, by simpa using I.len⟩ ⟨_, hs, .inl rfl⟩
    · exact (hs.2 b (Nat.ne_of_lt (Nat.lt_of_lt_of_le (Heap.lt_size e) I.ok.above))).trans (I.base.keep b o e n hb hx)
    · obtain ⟨sl, e1⟩ := I.base.slot b o e n hb hx
      exact ⟨sl, (hs.2 b (Nat.ne_of_lt (Nat.lt_of_lt_of_le (Heap.lt_size e) I.ok.above))).trans e1⟩
    · obtain ⟨o', e1⟩ := I.base.there b o e hx
      exact ⟨o', (hs.2 b (Nat.ne_of_lt (Nat.lt_of_lt_of_le (Heap.lt_size e) I.ok.above))).trans e1⟩
    · by_cases hj : j = i
      · subst hj
        rw [hi] at e1; cases e1
        rw [List.getElem?_set_self hiσ] at e2
        cases e2
        exact ⟨u, r, .inl ⟨hk, by simp⟩⟩
      · rw [List.getElem?_set_ne (Ne.symm hj)] at e2
        obtain ⟨u', r', q⟩ := hl j y v' e1 e2 e3
        refine ⟨u', r', ?_⟩
        rcases q with ⟨k, e⟩ | ⟨k, c, e, z⟩
        · refine .inl ⟨k, ?_⟩
          have : y ≠ x := fun e => hj (nodup_ix hN e1 (e ▸ hi))
          simp [this, e]
        · exact .inr ⟨k, c, e, z.sameBut hs (cne y c e)⟩
    · obtain ⟨w', z⟩ := I.cell y c e
      exact ⟨w', z.sameBut hs (cne y c e)⟩
    · obtain ⟨e, n, ne, nf, d⟩ := I.pin p hp
      exact ⟨(hs.2 p.1 ne).trans e, n, ne, nf, d⟩
  · have hfn : X.fn x = true := by
      rcases hf with z | z
      · exact z
      · rw [z] at hk; cases hk
    obtain ⟨c, hc⟩ := I.ok.has x (.inl hk)
    obtain ⟨w', z⟩ := I.cell x c hc
    refine wpAny_storeName_cell I.ok.kind hk hc z (fun h' hc' hs => ?_)
    obtain ⟨oc, hoc, hocd⟩ := id z
    refine h { s with heap := h' } ⟨I.ok, I.os, I.bare, ⟨fun b o e n hb hx => ?_, fun b o e n hb hx => ?_, I.base.free, fun b o e hx => ?_, I.base.tups, I.base.frzs, I.base.tbls⟩, ⟨m, hn.sameBut hs (Ne.symm (cne x c hc)), fun j y v' e1 e2 e3 => ?_⟩, fun y c' e => ?_, I.free, I.freeC, fun p hp => ?_, tracked ⟨oc, hoc, I.freeC x c hc⟩ hs, by simpa using I.len⟩ ⟨c, hs, .inr hc⟩
    · exact (hs.2 b (Nat.ne_of_lt (Nat.lt_of_lt_of_le (Heap.lt_size e) (I.ok.cab x c hfn hc)))).trans (I.base.keep b o e n hb hx)
    · obtain ⟨sl, e1⟩ := I.base.slot b o e n hb hx
      exact ⟨sl, (hs.2 b (Nat.ne_of_lt (Nat.lt_of_lt_of_le (Heap.lt_size e) (I.ok.cab x c hfn hc)))).trans e1⟩
    · obtain ⟨o', e1⟩ := I.base.there b o e hx
      exact ⟨o', (hs.2 b (Nat.ne_of_lt (Nat.lt_of_lt_of_le (Heap.lt_size e) (I.ok.cab x c hfn hc)))).trans e1⟩
    · by_cases hj : j = i
      · subst hj
        rw [hi] at e1; cases e1
        rw [List.getElem?_set_self hiσ] at e2
        cases e2
        exact ⟨u, r, .inr ⟨.inl hk, c, hc, hc'⟩⟩
      · rw [List.getElem?_set_ne (Ne.symm hj)] at e2
        obtain ⟨u', r', q⟩ := hl j y v' e1 e2 e3
        refine ⟨u', r', ?_⟩
        rcases q with q | ⟨k, c', e, z'⟩
        · exact .inl q
        · refine .inr ⟨k, c', e, z'.sameBut hs ?_⟩
          rintro rfl
          exact hj (nodup_ix hN e1 (I.ok.inj _ _ _ e hc ▸ hi))
    · by_cases hcc : c' = c
      · subst hcc; exact ⟨_, hc'⟩
      · obtain ⟨w2, z2⟩ := I.cell y c' e
        exact ⟨w2, z2.sameBut hs hcc⟩
    · obtain ⟨e, n, ne, nf, d⟩ := I.pin p hp
      refine ⟨(hs.2 p.1 ?_).trans e, n, ne, nf, d⟩
      intro q
      rw [q, hoc] at e
      have q' : oc = p.2 := Option.some.inj e
      exact d w' (by rw [← q']; exact hocd)
theorem store_ok {M : Model} {A : Around} {E : Value → Shared → Prop} {i : Nat} {x : Str} {v : V} {u : Value} {Q : Unit → Shared → Prop} (I : Inv X pins σ H s) (hN : X.N.Nodup) (hi : X.N[i]? = some x) (hx : Loc X.env.scope x) (r : RelV v u)
    (h : ∀ s', Inv X pins (σ.set i (some v)) H s' → Q () s') (hf : X.fn x = true ∨ X.env.scope.names.lookup x = some .local := by first | exact .inl rfl | exact .inr rfl | assumption) : wpAny M A (storeName X.env x u) Q E s :=
  store_ok2 I hN hi hx r (fun s' I' _ => h s' I') hf
/-- behind a call or a block, the state as it is -/
theorem Inv.call' {s' : Shared} {ch : List Addr} (I : Inv X pins σ H s) (ho : s'.os = s.os) (u : Un (frs X.stack) ch H H' s.heap s'.heap) (hok : HOk X.prog X.w H' s'.heap) (hg : AllBare s'.gens)
    (hch : ∀ b ∈ ch, (b ∈ X.ex ∨ X.s₀.heap.objs.size ≤ b) ∧ b ≠ X.env.locals ∧ (∀ x c, X.env.cells.lookup x = some c → c ≠ b) ∧ ∀ p ∈ X.pn ++ pins, p.1 ≠ b) : Inv X pins σ H' s' := by
  obtain ⟨h', g', d', t', o'⟩ := s'
  have e : o' = s.os := ho
  subst e
  exact I.call (g' := g') (t' := t') (d' := d') u hok hg hch
end

/-! ### the judgements -/
/-- an exception: its class, its own dict's address (where it has one), the abstract heap behind it -/
abbrev XK := Value → Option Addr → Hp → Prop
abbrev St := List (Option V)
abbrev VK := V → Hp → Prop
/-- an expression's reading; a test's; an argument list's -/
abbrev TE := St → Hp → VK → Prop
abbrev TT := St → Hp → (Bool → Hp → Prop) → Prop
abbrev TA := St → Hp → (List V → Hp → Prop) → Prop
/-- what is wanted behind a statement -/
structure Ends where
  nx : St → Hp → Prop
  rt : VK
  bk : St → Hp → Prop := fun _ _ => False
  ct : St → Hp → Prop := fun _ _ => False
abbrev TS := Ends → St → Hp → Prop

def EP (X : Cx) (pins : List (Addr × Obj)) (σ : St) (Q : VK) (u : Value) (s' : Shared) : Prop := ∃ v H', Inv X pins σ H' s' ∧ RelV v u ∧ Q v H'
def TP (X : Cx) (pins : List (Addr × Obj)) (σ : St) (Q : Bool → Hp → Prop) (b : Bool) (s' : Shared) : Prop := ∃ H', Inv X pins σ H' s' ∧ Q b H'
def AP (X : Cx) (pins : List (Addr × Obj)) (σ : St) (Q : List V → Hp → Prop) (us : List Value) (s' : Shared) : Prop := ∃ vs H', Inv X pins σ H' s' ∧ Vals vs us ∧ Q vs H'
def SP (X : Cx) (pins : List (Addr × Obj)) (D : Ends) (f : Flow) (s' : Shared) : Prop :=
  match f with
  | .next => ∃ σ' H', Inv X pins σ' H' s' ∧ D.nx σ' H'
  | .brk => ∃ σ' H', Inv X pins σ' H' s' ∧ D.bk σ' H'
  | .cont => ∃ σ' H', Inv X pins σ' H' s' ∧ D.ct σ' H'
  | .ret u => ∃ v σ' H', Inv X pins σ' H' s' ∧ RelV v u ∧ D.rt v H'

def PE (X : Cx) (e : Expr) (t : TE) : Prop :=
  ∀ (pins : List (Addr × Obj)) (s : Shared) (σ : St) (H : Hp) (Q : VK), Inv X pins σ H s → t σ H Q → wpAny (model X.prog X.w) X.A (eval e X.env) (EP X pins σ Q) X.xe s
def PT (X : Cx) (e : Expr) (t : TT) : Prop :=
  ∀ (pins : List (Addr × Obj)) (s : Shared) (σ : St) (H : Hp) (Q : Bool → Hp → Prop), Inv X pins σ H s → t σ H Q → wpAny (model X.prog X.w) X.A (isTrue e X.env (eval e X.env)) (TP X pins σ Q) X.xe s
/-- a test whatever its 'whole' is (and, or) -/
def PW (X : Cx) (e : Expr) (t : TT) : Prop :=
  ∀ (whole : Sem Value) (pins : List (Addr × Obj)) (s : Shared) (σ : St) (H : Hp) (Q : Bool → Hp → Prop), Inv X pins σ H s → t σ H Q → wpAny (model X.prog X.w) X.A (isTrue e X.env whole) (TP X pins σ Q) X.xe s
theorem PW.pt {X : Cx} {e : Expr} {t : TT} (h : PW X e t) : PT X e t := h _
/-- an argument list (no star), from the left -/
def PA (X : Cx) (es : List Expr) (t : TA) : Prop :=
  ∀ (pos : Pos) (pins : List (Addr × Obj)) (s : Shared) (σ : St) (H : Hp) (Q : List V → Hp → Prop), Inv X pins σ H s → t σ H Q → wpAny (model X.prog X.w) X.A (spliced (backTo pos (starEach es X.env))) (AP X pins σ Q) X.xe s
def PS (X : Cx) (st : Stmt) (t : TS) : Prop :=
  ∀ (pins : List (Addr × Obj)) (s : Shared) (σ : St) (H : Hp) (D : Ends), Inv X pins σ H s → t D σ H → wpAny (model X.prog X.w) X.A (exec st X.env) (SP X pins D) X.xe s
def PSs (X : Cx) (st : List Stmt) (t : TS) : Prop :=
  ∀ (pins : List (Addr × Obj)) (s : Shared) (σ : St) (H : Hp) (D : Ends), Inv X pins σ H s → t D σ H → wpAny (model X.prog X.w) X.A (execs st X.env) (SP X pins D) X.xe s
/-- weaken the end -/
theorem thn {α : Type} {t : Sem α} {Q Q' : α → Shared → Prop} {M : Model} {A : Around} {E : Value → Shared → Prop} {s : Shared} (h : wpAny M A t Q E s) (hQ : ∀ a s, Q a s → Q' a s) : wpAny M A t Q' E s := wpAny_mono h hQ fun _ _ x => x
end L2

namespace L2
open PySem PySem.Spec PyProof.Rows
section
variable {X : Cx}

/-! ### names and constants -/
def tVar (i : Nat) : TE := fun σ H Q => ∃ v, σ[i]? = some (some v) ∧ Q v H
def tC (v : V) : TE := fun _ H Q => Q v H
theorem pe_var {i : Nat} {x : Str} {pos : Pos} (hN : X.N[i]? = some x) (hv : Vis X.env.scope x) (hd : (x == ("__debug__" : Str)) = false := by decide) (hcd : (x == ("__classdict__" : Str)) = false := by decide) : PE X (.Name x pos) (tVar i) := by
  intro pins s σ H Q I h
  obtain ⟨v, e, h⟩ := h
  obtain ⟨m, hn, hl⟩ := I.loc
  obtain ⟨u, r, l⟩ := hl i x v hN e hv
  have fin : EP X pins σ Q u s := ⟨v, H, I, r, h⟩
  rcases l with ⟨hk, hm⟩ | ⟨hk, c, hc, hcell⟩
  · exact wpAny_Name (wpAny_loadName_local I.ok.kind hk hn hm fin) hd
  · rcases hk with hk | hk
    · exact wpAny_Name (wpAny_loadName_cell I.ok.kind hk hc hcell fin) hd
    · exact wpAny_Name (wpAny_loadName_free I.ok.kind hk hc hcell fin hcd) hd
theorem pe_int {i j pos} : PE X (.Constant (.int i) j pos) (tC (.int i)) := fun _ _ _ H _ I h => wpAny_Constant_int ⟨.int i, H, I.tok _, ⟨_, rfl⟩, h⟩
theorem pe_bl {b j pos} : PE X (.Constant (.bool b) j pos) (tC (.bl b)) := fun _ _ _ H _ I h => Constant_bool ⟨.bl b, H, I, rfl, h⟩
theorem pe_non {j pos} : PE X (.Constant .none j pos) (tC .non) := fun _ _ _ H _ I h => Constant_none ⟨.non, H, I, rfl, h⟩
theorem pe_str {x j pos} : PE X (.Constant (.str x) j pos) (tC (.str x)) := fun _ _ _ H _ I h => Calls.Constant_str ⟨.str x, H, I.tok _, ⟨_, rfl⟩, h⟩

/-- a global name of the def -/
def Gl (X : Cx) (x : Str) : Prop := X.env.kindOf x = some .globalImplicit
theorem ld_glob {E : Value → Shared → Prop} {pins : List (Addr × Obj)} {s : Shared} {σ : St} {H : Hp} {x : Str} {u : Value} {pos : Pos} {Q : Value → Shared → Prop} (I : Inv X pins σ H s) (hg : Gl X x) (hm : X.mg x = some u) (h : Q u s)
    (hd : (x == ("__debug__" : Str)) = false := by decide) : wpAny (model X.prog X.w) X.A (eval (.Name x pos) X.env) Q E s :=
  Calls.Name_function_global I.ok.kind hg (Calls.loadGlobal_global (by rw [I.ok.glob]; exact I.mod.glob.keeps I.bk) hm h) hd
theorem ld_blt {E : Value → Shared → Prop} {pins : List (Addr × Obj)} {s : Shared} {σ : St} {H : Hp} {x : Str} {u : Value} {pos : Pos} {Q : Value → Shared → Prop} (I : Inv X pins σ H s) (hg : Gl X x) (hm : X.mg x = none) (hv : bootBuiltins x = some u) (h : Q u s)
    (hn : x ≠ "__name__" := by decide) (hd : (x == ("__debug__" : Str)) = false := by decide) : wpAny (model X.prog X.w) X.A (eval (.Name x pos) X.env) Q E s := by
  obtain ⟨mb, h1, h2⟩ := I.mod.blt
  exact Calls.Name_function_global I.ok.kind hg (Calls.loadGlobal_builtin (by rw [I.ok.glob]; exact I.mod.glob.keeps I.bk) hm (by rw [I.ok.blt]; exact h1.keeps I.bk) ((h2 x hn).trans hv) h) hd
theorem pe_bltn {x : Str} {v : V} {u : Value} {pos : Pos} (hg : Gl X x) (hm : X.mg x = none) (hv : bootBuiltins x = some u) (r : RelV v u) (hn : x ≠ "__name__" := by decide) (hd : (x == ("__debug__" : Str)) = false := by decide) : PE X (.Name x pos) (tC v) :=
  fun _ _ _ H _ I h => ld_blt I hg hm hv ⟨v, H, I, r, h⟩ hn hd

/-! ### arithmetic -/
variable {a b : Expr} {ta tb : TE} {pos : Pos}
/-! ### comparisons -/
def PC (X : Cx) (op : CmpOp) (a b : Expr) (t : TE) : Prop :=
  ∀ (pins : List (Addr × Obj)) (s : Shared) (σ : St) (H : Hp) (Q : VK), Inv X pins σ H s → t σ H Q →
    wpAny (model X.prog X.w) X.A (eval a X.env) (fun v s₁ => wpAny (model X.prog X.w) X.A (eval b X.env) (fun u s₂ => wpAny (model X.prog X.w) X.A (compareOp op v u) (EP X pins σ Q) X.xe s₂) X.xe s₁) X.xe s
theorem nobehind (b : Expr) {op : CmpOp} (h : op ≠ .In) (h2 : op ≠ .NotIn) : behindInMarks op b = false := by
  have e1 : (op == CmpOp.In) = false := by cases op <;> first | rfl | exact absurd rfl h
  have e2 : (op == CmpOp.NotIn) = false := by cases op <;> first | rfl | exact absurd rfl h2
  cases b <;> simp [behindInMarks, e1, e2]
/-- a comparison as a value, as a test -/
def tB (t : TE) : TT := fun σ H Q => t σ H fun x H1 => ∃ c, x = .bl c ∧ Q c H1
theorem pt_cmp {op : CmpOp} {t : TE} (h : PC X op a b t) (h1 : behindInMarks op b = false := by first | exact nobehind _ (by decide) (by decide) | rfl) : PT X (.Compare a [op] [b] pos) (tB t) := by
  intro pins s σ H Q I hw
  refine wpAny_isTrue_Compare1 (thn (h pins s σ H _ I hw) fun v s1 h1 => thn h1 fun u s2 h2 => thn h2 fun c s3 ⟨x, H1, I1, r1, q1⟩ => ?_) h1
  obtain ⟨d, rfl, q⟩ := q1
  cases r1
  exact wpAny_truthy_bool ⟨H1, I1, q⟩
/-- an expression whose value is a bool, as a test -/
theorem pt_val {e : Expr} {t : TE} (h : PE X e t) (he : ∀ whole, isTrue e X.env whole = (do let v ← whole; standAt e.pos; holding [v] (truthy v)) := by intro _; rfl) : PT X e (tB t) := by
  intro pins s σ H Q I hw
  refine isTrue_plain (thn (h pins s σ H _ I hw) fun v s1 ⟨x, H1, I1, r1, q1⟩ => ?_) (he _)
  obtain ⟨d, rfl, q⟩ := q1
  cases r1
  exact wpAny_truthy_bool ⟨H1, I1, q⟩

/-! ### and, or, not -/
variable {tA tB' : TT} {rest : List Expr}
def tAnd (t u : TT) : TT := fun σ H Q => t σ H fun c H1 => if c = true then u σ H1 Q else Q false H1
def tNot (t : TT) : TT := fun σ H Q => t σ H fun c H1 => Q (!c) H1
theorem pw_and1 (ha : PT X a tA) : PW X (.BoolOp .And [a] pos) tA := by
  intro wh pins s σ H Q I h
  refine isTrue_and (thn (ha pins s σ H Q I h) fun c s1 e => ?_)
  cases c with
  | true => exact isTrue_and_nil e
  | false => exact e
theorem pw_and (ha : PT X a tA) (hb : PW X (.BoolOp .And (b :: rest) pos) tB') : PW X (.BoolOp .And (a :: b :: rest) pos) (tAnd tA tB') := by
  intro wh pins s σ H Q I h
  refine isTrue_and (thn (ha pins s σ H _ I h) fun c s1 ⟨H1, I1, q1⟩ => ?_)
  cases c with
  | true => exact hb wh pins s1 σ H1 Q I1 q1
  | false => exact ⟨H1, I1, q1⟩
theorem pt_not (ha : PT X a tA) : PT X (.UnaryOp .Not a pos) (tNot tA) := by
  intro pins s σ H Q I h
  exact isTrue_not (ha pins s σ H (fun c H1 => Q (!c) H1) I h)
/-- .. as values (bools) -/
def tAndV (ta tb : TE) : TE := fun σ H Q => ta σ H fun x H1 => ∃ c, x = .bl c ∧ if c = true then tb σ H1 Q else Q (.bl false) H1
def tNotV (ta : TE) : TE := fun σ H Q => ta σ H fun x H1 => ∃ c, x = .bl c ∧ Q (.bl (!c)) H1
theorem pe_one {op} {t : TE} (h : PE X a t) : PE X (.BoolOp op [a] pos) t := fun pins s σ H Q I hw => BoolOp_one (h pins s σ H Q I hw)
theorem pe_and (ha : PE X a ta) (hb : PE X (.BoolOp .And (b :: rest) pos) tb) : PE X (.BoolOp .And (a :: b :: rest) pos) (tAndV ta tb) := by
  intro pins s σ H Q I h
  refine BoolOp_and (thn (ha pins s σ H _ I h) fun v s1 ⟨x, H1, I1, r1, q1⟩ => ?_)
  obtain ⟨c, rfl, q1⟩ := q1
  cases r1
  refine wpAny_truthy_bool ?_
  cases c with
  | true => exact hb pins s1 σ H1 Q I1 q1
  | false => exact ⟨.bl false, H1, I1, rfl, q1⟩
theorem pe_not (ha : PE X a ta) : PE X (.UnaryOp .Not a pos) (tNotV ta) := by
  intro pins s σ H Q I h
  refine UnaryOp_ (thn (ha pins s σ H _ I h) fun v s1 ⟨x, H1, I1, r1, q1⟩ => ?_)
  obtain ⟨c, rfl, q1⟩ := q1
  cases r1
  exact not_of (wpAny_truthy_bool ⟨.bl (!c), H1, I1, rfl, q1⟩)
end
end L2

namespace L2
open PySem PySem.Spec PyProof.Rows

/-! ### a list, a tuple that is read: tracked, frozen, or an object of the module -/
def SqL (K : PySem.W.Frag) (H : Hp) (a : Addr) (xs : List V) : Prop :=
  Rd H a (.lst xs) ∨
    ∃ (o : Obj) (its : Array Value) (n : Nat), K.lookup a = some o ∧ o.cls = .type "list" ∧ o.dict = none ∧ o.data = .seq its n ∧ its.size ≤ sizeLine ∧ Vals xs its.toList
def SqT (K : PySem.W.Frag) (H : Hp) (a : Addr) (xs : List V) : Prop :=
  Rd H a (.tup xs) ∨
    ∃ (o : Obj) (its : Array Value) (n : Nat), K.lookup a = some o ∧ o.cls = .type "tuple" ∧ o.data = .seq its n ∧ its.size ≤ sizeLine ∧ Vals xs its.toList
def absV : Value → Option V
  | .none => some .non
  | .bool b => some (.bl b)
  | .int i _ => some (.int i)
  | .str x _ => some (.str x)
  | .bytes b _ => some (.byt b)
  | .float b _ => some (.flt b)
  | .ref a => some (.ref a)
  | .type n => some (.ty n)
  | _ => none
theorem RelV.abs {x : V} {u : Value} (r : RelV x u) : absV u = some x := by
  cases x with
  | non => cases r; rfl
  | bl _ => cases r; rfl
  | int _ => obtain ⟨t, rfl⟩ := r; rfl
  | str _ => obtain ⟨t, rfl⟩ := r; rfl
  | byt _ => obtain ⟨t, rfl⟩ := r; rfl
  | flt _ => obtain ⟨t, rfl⟩ := r; rfl
  | ref _ => cases r; rfl
  | ty _ => cases r; rfl
theorem RelV.inj {x y : V} {u : Value} (r : RelV x u) (q : RelV y u) : x = y := Option.some.inj (r.abs.symm.trans q.abs)
theorem Vals.inj : ∀ {xs ys : List V} {us : List Value}, Vals xs us → Vals ys us → xs = ys
  | _, _, _, .nil, .nil => rfl
  | _, _, _, .cons r t, .cons r' t' => by rw [r.inj r', Vals.inj t t']
section
variable {X : Cx} {pins : List (Addr × Obj)} {σ : St} {H : Hp} {s : Shared} {a : Addr} {xs ys : List V}
theorem SqL.of {K : PySem.W.Frag} (h : H a = some (.lst xs)) : SqL K H a xs := .inl (.inl h)
theorem SqT.of {K : PySem.W.Frag} (h : H a = some (.tup xs)) : SqT K H a xs := .inl (.inl h)
theorem Inv.list (I : Inv X pins σ H s) (h : SqL X.K H a xs) : ∃ its : List Value, Vals xs its ∧ PlainL s.heap a its.toArray ∧ xs.length ≤ sizeLine := by
  rcases h with h | ⟨o, its, n, hk, hc, hd, hs, hz, r⟩
  · obtain ⟨z, its, n, r, e⟩ := h.ok I.hok
    exact ⟨its, r, ⟨_, n, e, rfl, rfl, rfl⟩, z⟩
  · refine ⟨its.toList, r, ⟨o, n, I.kIn a o hk, hc, hd, by simpa using hs⟩, ?_⟩
    have e := r.length
    simp only [Array.length_toList] at e
    omega
theorem Inv.tuple (I : Inv X pins σ H s) (h : SqT X.K H a xs) : ∃ its : List Value, Vals xs its ∧ IsTup s.heap a its.toArray ∧ xs.length ≤ sizeLine := by
  rcases h with h | ⟨o, its, n, hk, hc, hs, hz, r⟩
  · obtain ⟨z, its, r, p⟩ := h.ok I.hok
    exact ⟨its, r, p, z⟩
  · refine ⟨its.toList, r, ⟨o, I.kIn a o hk, hc, n, by simpa using hs⟩, ?_⟩
    have e := r.length
    simp only [Array.length_toList] at e
    omega
theorem Inv.list_inj (I : Inv X pins σ H s) (h : SqL X.K H a xs) (h' : SqL X.K H a ys) : xs = ys := by
  obtain ⟨its, r, ⟨o, n, e, _, _, d⟩, _⟩ := I.list h
  obtain ⟨its', r', ⟨o', n', e', _, _, d'⟩, _⟩ := I.list h'
  rw [e] at e'; cases e'
  rw [d] at d'
  injection d' with d1 _
  have : its = its' := by simpa using congrArg Array.toList d1
  subst this
  exact r.inj r'
end

/-! ### another wish about exceptions -/
abbrev Cx.wish (X : Cx) (E : Value → Shared → Prop) : Cx := { X with xe := E }
/-- no exception leaves -/
abbrev Cx.nox (X : Cx) : Cx := X.wish fun _ _ => False
theorem Cx.Ok.wish {X : Cx} (ok : X.Ok) (E : Value → Shared → Prop) : (X.wish E).Ok :=
  ⟨ok.mod, ok.kind, ok.glob, ok.blt, ok.above, ok.inj, ok.has, ok.cab, ok.hd, ok.frames, ok.stk, ok.exf, ok.bs, ok.bsz, ok.noex, ok.exfs, ok.funs, ok.frf⟩
theorem Cx.Ok.unwish {X : Cx} {E : Value → Shared → Prop} (ok : (X.wish E).Ok) : X.Ok :=
  ⟨ok.mod, ok.kind, ok.glob, ok.blt, ok.above, ok.inj, ok.has, ok.cab, ok.hd, ok.frames, ok.stk, ok.exf, ok.bs, ok.bsz, ok.noex, ok.exfs, ok.funs, ok.frf⟩
section
variable {X : Cx} {pins : List (Addr × Obj)} {σ : St} {H : Hp} {s : Shared} {E : Value → Shared → Prop}
theorem Inv.wish (I : Inv X pins σ H s) (E : Value → Shared → Prop) : Inv (X.wish E) pins σ H s := ⟨I.ok.wish E, I.os, I.bare, I.base, I.loc, I.cell, I.free, I.freeC, I.pin, I.hok, I.len⟩
theorem Inv.unwish (I : Inv (X.wish E) pins σ H s) : Inv X pins σ H s := ⟨I.ok.unwish, I.os, I.bare, I.base, I.loc, I.cell, I.free, I.freeC, I.pin, I.hok, I.len⟩
theorem SP.unwish {D : Ends} {f : Flow} {s' : Shared} (h : SP (X.wish E) pins D f s') : SP X pins D f s' := by
  cases f with
  | next => obtain ⟨σ', H', I, q⟩ := h; exact ⟨σ', H', I.unwish, q⟩
  | brk => obtain ⟨σ', H', I, q⟩ := h; exact ⟨σ', H', I.unwish, q⟩
  | cont => obtain ⟨σ', H', I, q⟩ := h; exact ⟨σ', H', I.unwish, q⟩
  | ret u => obtain ⟨v, σ', H', I, r, q⟩ := h; exact ⟨v, σ', H', I.unwish, r, q⟩
theorem PE.nox {e : Expr} {t : TE} (h : PE X.nox e t) : PE X e t := fun pins s σ H Q I hw =>
  wpAny_mono (h pins s σ H Q (I.wish _) hw) (fun _ _ ⟨v, H', I', r, q⟩ => ⟨v, H', I'.unwish, r, q⟩) fun _ _ z => False.elim z
theorem PT.nox {e : Expr} {t : TT} (h : PT X.nox e t) : PT X e t := fun pins s σ H Q I hw =>
  wpAny_mono (h pins s σ H Q (I.wish _) hw) (fun _ _ ⟨H', I', q⟩ => ⟨H', I'.unwish, q⟩) fun _ _ z => False.elim z
theorem PSs.nox {st : List Stmt} {t : TS} (h : PSs X.nox st t) : PSs X st t := fun pins s σ H D I hw =>
  wpAny_mono (h pins s σ H D (I.wish _) hw) (fun _ _ q => q.unwish) fun _ _ z => False.elim z
end

/-! ### blocks and small statements -/
section
variable {X : Cx} {st : Stmt} {rest : List Stmt} {t u : TS} {e : Expr} {te : TE} {pos : Pos}
def tNext : TS := fun D σ H => D.nx σ H
def tSeq (t u : TS) : TS := fun D σ H => t { D with nx := u D } σ H
theorem pss_nil : PSs X [] tNext := fun _ _ σ H _ I h => wpAny_execs_nil ⟨σ, H, I, h⟩
theorem pss_cons (h1 : PS X st t) (h2 : PSs X rest u) : PSs X (st :: rest) (tSeq t u) := by
  intro pins s σ H D I h
  refine wpAny_execs_cons (thn (h1 pins s σ H { D with nx := u D } I h) fun f s1 q => ?_)
  cases f with
  | next =>
    obtain ⟨σ', H', I', q⟩ := q
    exact h2 pins s1 σ' H' D I' q
  | ret v => exact q
  | brk => exact q
  | cont => exact q
theorem pss_one (h1 : PS X st t) : PSs X [st] t := by
  intro pins s σ H D I h
  refine wpAny_execs_cons (thn (h1 pins s σ H D I h) fun f s1 q => ?_)
  cases f with
  | next => exact wpAny_execs_nil q
  | ret v => exact q
  | brk => exact q
  | cont => exact q
/-- in a def's body nothing is shown -/
theorem Inv.quiet {pins : List (Addr × Obj)} {σ : St} {H : Hp} {s : Shared} (I : Inv X pins σ H s) : interactive X.env = false := by simp [interactive, I.ok.kind]
/-- an expression whose value is dropped -/
def tDrop (te : TE) : TS := fun D σ H => te σ H fun _ H1 => D.nx σ H1
theorem ps_expr (he : PE X e te) (hs : swapsWith e none pos.line X.env = pure false := by rfl) : PS X (.Expr e pos) (tDrop te) := by
  intro pins s σ H D I h
  exact wpAny_Expr_any (thn (he pins s σ H _ I h) fun v s1 ⟨x, H1, I1, r1, q1⟩ => ⟨σ, H1, I1, q1⟩) I.quiet hs
def tRet (te : TE) : TS := fun D σ H => te σ H D.rt
theorem ps_ret (he : PE X e te) : PS X (.Return (some e) pos) (tRet te) := by
  intro pins s σ H D I h
  exact wpAny_Return_some (thn (he pins s σ H _ I h) fun v s1 ⟨x, H1, I1, r1, q1⟩ => ⟨x, σ, H1, I1, r1, q1⟩)
def tIfS (c : TT) (t u : TS) : TS := fun D σ H => c σ H fun b H1 => if b = true then t D σ H1 else u D σ H1
theorem ps_if {c : Expr} {a b : List Stmt} {tc : TT} (hc : PT X c tc) (ha : PSs X a t) (hb : PSs X b u) : PS X (.If c a b pos) (tIfS tc t u) := by
  intro pins s σ H D I h
  refine wpAny_If (thn (hc pins s σ H _ I h) fun d s1 ⟨H1, I1, q1⟩ => ?_)
  cases d with
  | true => exact ha pins s1 σ H1 D I1 q1
  | false => exact hb pins s1 σ H1 D I1 q1
end

/-! ### targets -/
abbrev TG := V → St → Hp → (St → Hp → Prop) → Prop
abbrev TGs := List V → St → Hp → (St → Hp → Prop) → Prop
def PG (X : Cx) (target : Expr) (t : TG) : Prop :=
  ∀ (pins : List (Addr × Obj)) (s : Shared) (σ : St) (H : Hp) (v : V) (u : Value) (Q : St → Hp → Prop), Inv X pins σ H s → RelV v u → t v σ H Q →
    wpAny (model X.prog X.w) X.A (assign target X.env u) (fun _ s' => ∃ σ' H', Inv X pins σ' H' s' ∧ Q σ' H') X.xe s
/-- several targets, one after another -/
def PGs (X : Cx) (ts : List Expr) (t : TGs) : Prop :=
  ∀ (pins : List (Addr × Obj)) (s : Shared) (σ : St) (H : Hp) (vs : List V) (us : List Value) (Q : St → Hp → Prop), Inv X pins σ H s → Vals vs us → t vs σ H Q →
    wpAny (model X.prog X.w) X.A (assignInOrder ((assignEach ts X.env).map (·.2)) us) (fun _ s' => ∃ σ' H', Inv X pins σ' H' s' ∧ Q σ' H') X.xe s
section
variable {X : Cx} {pos : Pos}
def gName (i : Nat) : TG := fun v σ H Q => Q (σ.set i (some v)) H
theorem pg_name {i : Nat} {x : Str} (hN : X.N.Nodup) (hi : X.N[i]? = some x) (hx : Loc X.env.scope x) (hf : X.fn x = true ∨ X.env.scope.names.lookup x = some .local := by first | exact .inl rfl | exact .inr rfl | assumption) : PG X (.Name x pos) (gName i) := by
  intro pins s σ H v u Q I r h
  exact wpAny_assign_Name (store_ok I hN hi hx r (fun s' I' => ⟨_, H, I', h⟩) hf)
def gNil : TGs := fun vs σ H Q => vs = [] ∧ Q σ H
def gCons (t : TG) (u : TGs) : TGs := fun vs σ H Q => ∃ v r, vs = v :: r ∧ t v σ H fun σ' H' => u r σ' H' Q
theorem pgs_nil : PGs X [] gNil := by
  intro pins s σ H vs us Q I r h
  obtain ⟨e, h⟩ := h
  subst e
  cases r
  exact assignInOrder_nil ⟨σ, H, I, h⟩
theorem pgs_cons {e : Expr} {es : List Expr} {t : TG} {u : TGs} (h1 : PG X e t) (h2 : PGs X es u)
    (hs : (assignEach (e :: es) X.env).map (·.2) = assign e X.env :: (assignEach es X.env).map (·.2) := by rfl) : PGs X (e :: es) (gCons t u) := by
  intro pins s σ H vs us Q I r h
  obtain ⟨v, vr, e1, h⟩ := h
  subst e1
  cases r with
  | cons r rr =>
    rw [hs]
    refine assignInOrder_cons (thn (h1 pins s σ H _ _ _ I r h) fun _ s1 ⟨σ1, H1, I1, q1⟩ => ?_)
    exact h2 pins s1 σ1 H1 _ _ Q I1 rr q1
/-- (a, b, ..) = a tuple of that length -/
def gTup (K : PySem.W.Frag) (n : Nat) (t : TGs) : TG := fun v σ H Q => ∃ a xs, v = .ref a ∧ SqT K H a xs ∧ xs.length = n ∧ t xs σ H Q
theorem pg_tup {es : List Expr} {k : Nat} {t : TGs} {n : Nat} (hc : X.calm = true) (h : PGs X es t)
    (hn : (assignEach es X.env).length = n := by rfl) (hst : (assignEach es X.env).findIdx? (·.1) = none := by rfl) : PG X (.Tuple es k pos) (gTup X.K n t) := by
  intro pins s σ H v u Q I r hw
  obtain ⟨a, xs, e1, hq, hl, hw⟩ := hw
  subst e1
  cases r
  obtain ⟨its, rv, ht, hz⟩ := I.tuple hq
  refine assign_Tuple_tuple (I.ok.hd hc) ht (by simp [hn, ← hl, rv.length]) hst fun h' hx => ?_
  have I1 : Inv X pins σ H { s with heap := h' } := I.kept (t' := s.toks) fun b o e => hx b o (Nat.ne_of_lt (Heap.lt_size e)) e
  exact h pins _ σ H xs _ Q I1 (by simpa using rv) hw
/-- target = value -/
def tAsg (te : TE) (g : TG) : TS := fun D σ H => te σ H fun x H1 => g x σ H1 D.nx
/-- name = value -/
theorem ps_set {i : Nat} {x : Str} {e : Expr} {te : TE} {pos' : Pos} (hN : X.N.Nodup) (hi : X.N[i]? = some x) (hx : Loc X.env.scope x) (he : PE X e te) (hs : swapsWith e (some (.Name x pos')) pos.line X.env = pure false := by rfl) (hf : X.fn x = true ∨ X.env.scope.names.lookup x = some .local := by first | exact .inl rfl | exact .inr rfl | assumption) :
    PS X (.Assign [.Name x pos'] e pos) (tAsg te (gName i)) := by
  intro pins s σ H D I h
  refine wpAny_Assign_Name (thn (he pins s σ H _ I h) fun v s1 ⟨y, H1, I1, r1, q1⟩ => ?_) hs
  exact store_ok I1 hN hi hx r1 (fun s2 I2 => ⟨_, H1, I2, q1⟩) hf
end

/-! ### while -/
section
variable {X : Cx} {pos : Pos}
end

/-! ### what a loop or a comprehension walks -/
/-- at turn i: it yields x (the heap may grow), or it stops -/
structure It where
  go : Nat → Hp → Prop
  yld : Nat → Hp → V → Hp → Prop
  stop : Nat → Hp → Prop
/-- the iterator's own objects may turn: they are not the frame's, not pinned, younger than the entry (or a comprehension's own) -/
def FpOk (X : Cx) (pins : List (Addr × Obj)) (H : Hp) (b : Addr) : Prop :=
  H b = none ∧ b ≠ X.env.locals ∧ b ∉ X.fs ∧ (b ∈ X.ex ∨ X.s₀.heap.objs.size ≤ b) ∧ (∀ x c, X.env.cells.lookup x = some c → c ≠ b) ∧ ∀ p ∈ X.pn ++ pins, p.1 ≠ b
theorem Inv.fpOk {X : Cx} {pins : List (Addr × Obj)} {σ : St} {H H' : Hp} {s : Shared} {b : Addr} (I : Inv X pins σ H s) (hb : s.heap.objs.size ≤ b) (hn : H' b = none) : FpOk X pins H' b := by
  refine ⟨hn, Nat.ne_of_gt (Nat.lt_of_lt_of_le I.lt hb), I.nofs hb, .inr (Nat.le_trans I.sz hb), fun x c e z => ?_, fun p hp z => ?_⟩
  · obtain ⟨v, q⟩ := I.cell x c e
    exact absurd (Nat.lt_of_lt_of_le q.lt (by rw [z]; exact hb)) (Nat.lt_irrefl _)
  · exact absurd (Nat.lt_of_lt_of_le (Heap.lt_size (I.pin p hp).1) (by rw [z]; exact hb)) (Nat.lt_irrefl _)
structure Turn (P : Program) (w : World) (K : PySem.W.Frag) (tg : Expr) (J : It) (fp : List Addr) (it : Addr) (tn : Nat → Heap → Prop) : Prop where
  mem : it ∈ fp
  obj : ∀ i h, tn i h → ∀ b ∈ fp, ∃ o, h.get? b = some o ∧ ∀ v, o.data ≠ .cell v
  keep : ∀ i h h', tn i h → (∀ b ∈ fp, ∀ o, h.get? b = some o → h'.get? b = some o) → tn i h'
  item : ∀ (X : Cx), X.prog = P → X.w = w → X.K = K → X.calm = true → ∀ (i : Nat) (pins : List (Addr × Obj)) (s : Shared) (σ : St) (H : Hp) (E : Value → Shared → Prop), Inv X pins σ H s → (∀ b ∈ fp, FpOk X pins H b) → tn i s.heap → J.go i H →
    wpAny (model P w) X.A (pyNext (.ref it)) (fun r s1 => ∃ u, r = some u ∧
      wpAny (model P w) X.A (letOwnedTupleGo tg (.ref it) u) (fun _ s2 => ∃ x H', Inv X pins σ H' s2 ∧ RelV x u ∧ J.yld i H x H' ∧ tn (i + 1) s2.heap ∧ ∀ b ∈ fp, H' b = none) E s1) E s
  done : ∀ (X : Cx), X.prog = P → X.w = w → X.K = K → X.calm = true → ∀ (i : Nat) (pins : List (Addr × Obj)) (s : Shared) (σ : St) (H : Hp) (E : Value → Shared → Prop), Inv X pins σ H s → (∀ b ∈ fp, FpOk X pins H b) → tn i s.heap → J.stop i H →
    wpAny (model P w) X.A (pyNext (.ref it)) (fun r s1 => r = none ∧ Inv X pins σ H s1) E s
  self : ∀ (A : Around) (i : Nat) (s : Shared) (Q : Value → Shared → Prop) (E : Value → Shared → Prop), tn i s.heap → Q (.ref it) s → wpAny (model P w) A (pyIter (.ref it)) Q E s
abbrev TI := St → Hp → (It → Hp → Prop) → Prop
/-- an iterator has come -/
def PIE (X : Cx) (pins : List (Addr × Obj)) (σ : St) (tg : Expr) (R : It → Hp → Prop) (itv : Value) (s2 : Shared) : Prop :=
  ∃ (it : Addr) (fp : List Addr) (tn : Nat → Heap → Prop) (J : It) (H' : Hp), itv = .ref it ∧ Inv X pins σ H' s2 ∧ Turn X.prog X.w X.K tg J fp it tn ∧ tn 0 s2.heap ∧ (∀ b ∈ fp, FpOk X pins H' b) ∧ R J H'
def PI (X : Cx) (tg iter : Expr) (wi : TI) : Prop :=
  ∀ (pins : List (Addr × Obj)) (s : Shared) (σ : St) (H : Hp) (R : It → Hp → Prop), Inv X pins σ H s → wi σ H R →
    wpAny (model X.prog X.w) X.A (eval iter X.env) (fun v s1 => wpAny (model X.prog X.w) X.A (pyIter v) (PIE X pins σ tg R) X.xe s1) X.xe s

/-- the step ahead of the store is nothing for an iterator that keeps no tuple -/
theorem go_of {M : Model} {A : Around} {E : Value → Shared → Prop} {s : Shared} {tg : Expr} {it : Addr} {u : Value} {o : Obj} {n : String} {vs : Array Value} {Q : Unit → Shared → Prop} (ho : s.heap.get? it = some o) (hc : o.cls = .type n) (hd : o.data = .fields vs)
    (hn : ["enumerate", "zip", "dict_itemiterator", "dict_reverseitemiterator", "odict_iterator", "itertools.zip_longest", "itertools.pairwise"].contains n = false) (hQ : Q () s) : wpAny M A (letOwnedTupleGo tg (.ref it) u) Q E s := by
  unfold letOwnedTupleGo
  cases tg <;> first
    | exact wpAny_pure hQ
    | (cases u <;> first
        | exact wpAny_pure hQ
        | (refine wpAny_bind (wpAny_load ho ?_)
           rw [hc, hd]
           show wpAny M A (if (["enumerate", "zip", "dict_itemiterator", "dict_reverseitemiterator", "odict_iterator", "itertools.zip_longest", "itertools.pairwise"].contains n && vs[0]? == some (rawInt _)) = true then _ else _) Q E s
           rw [if_neg (by intro h; rw [hn, Bool.false_and] at h; cases h)]
           exact wpAny_pure hQ))

/-- the list at a, as it stands at each turn (a loop may append to it) -/
def Itl (K : PySem.W.Frag) (a : Addr) : It :=
  ⟨fun i H => ∃ xs x, SqL K H a xs ∧ xs[i]? = some x, fun i H x H' => H' = H ∧ ∀ xs, SqL K H a xs → xs[i]? = some x, fun i H => ∃ xs, SqL K H a xs ∧ xs.length ≤ i⟩
/-- lo, lo + 1, .. (n of them) -/
def Itr (lo : Int) (n : Nat) : It := ⟨fun i _ => i < n, fun i H x H' => H' = H ∧ x = .int (lo + i), fun i _ => n ≤ i⟩
theorem turn_list {P : Program} {w : World} {K : PySem.W.Frag} {tg : Expr} (a it : Addr) : Turn P w K tg (Itl K a) [it] it (fun i h => h.IsListIter it a i) where
  mem := by simp
  obj := fun i h st b hb => by
    have e : b = it := by simpa using hb
    subst e
    obtain ⟨o, e, c, d⟩ := st
    exact ⟨o, e, fun v z => by rw [d] at z; cases z⟩
  keep := fun i h h' st k => st.at fun o e => k it (by simp) o e
  item := by
    intro X hP hw hK hc i pins s σ H E I hf st hg
    subst hP hw hK
    obtain ⟨xs, x, hq, hx⟩ := hg
    obtain ⟨its, rv, p, hz⟩ := I.list hq
    obtain ⟨u, hu, ru⟩ := rv.get hx
    obtain ⟨f0, f1, f2, f3, f4, f5⟩ := hf it (by simp)
    refine wpAny_pyNext_list_item st p.isList (x := u) (by simpa using hu) fun h' st' sb => ?_
    have I1 : Inv X pins σ H { s with heap := h' } := I.turned (t' := s.toks) (fun b o hb e => (sb.2 b hb).trans e) f0 f1 f3 f4 f5
    obtain ⟨o, e, c, d⟩ := id st'
    exact ⟨u, rfl, go_of (s := { s with heap := h' }) e c d (by decide) ⟨x, H, I1, ru, ⟨rfl, fun ys hy => by rw [I.list_inj hy hq]; exact hx⟩, st', fun b hb => (hf b hb).1⟩⟩
  done := by
    intro X hP hw hK hc i pins s σ H E I hf st hg
    subst hP hw hK
    obtain ⟨xs, hq, hx⟩ := hg
    obtain ⟨its, rv, p, hz⟩ := I.list hq
    obtain ⟨f0, f1, f2, f3, f4, f5⟩ := hf it (by simp)
    have hl := rv.length
    exact wpAny_pyNext_list_end (I.ok.hd hc) st p.isList (by simp; omega) fun h' eb => ⟨rfl, I.turned (t' := s.toks) (fun b o hb e => eb b o hb e) f0 f1 f3 f4 f5⟩
  self := fun _ _ _ _ _ st h => wpAny_pyIter_listiter st h
theorem turn_range {P : Program} {w : World} {K : PySem.W.Frag} {tg : Expr} (it : Addr) (lo : Int) (n : Nat) : Turn P w K tg (Itr lo n) [it] it (fun i h => IsRangeIter h it (lo + (i : Nat) * 1) ((n : Int) - (i : Nat)) 1) where
  mem := by simp
  obj := fun i h st b hb => by
    have e : b = it := by simpa using hb
    subst e
    exact ⟨_, st, fun v z => by
      have z' : Data.fields _ = Data.cell v := z
      cases z'⟩
  keep := fun i h h' st k => k it (by simp) _ st
  item := by
    intro X hP hw hK hc i pins s σ H E I hf st hg
    subst hP hw hK
    obtain ⟨f0, f1, f2, f3, f4, f5⟩ := hf it (by simp)
    have W := Walks.range (prog := X.prog) (w := X.w) (I.ok.hd hc) it lo 1 n
    refine W.item i s _ _ hg st fun v h' tk hv st' kk => ?_
    obtain ⟨t, rfl⟩ := hv
    have I1 : Inv X pins σ H { s with heap := h', toks := tk } := I.turned (fun b o hb e => kk b o (by simpa using hb) e) f0 f1 f3 f4 f5
    refine ⟨_, rfl, go_of (s := { s with heap := h', toks := tk }) (n := "range_iterator") st' rfl rfl (by decide) ⟨.int (lo + i), H, I1, ⟨t, ?_⟩, ⟨rfl, rfl⟩, st', fun b hb => (hf b hb).1⟩⟩
    rw [Int.mul_one]
  done := by
    intro X hP hw hK hc i pins s σ H E I hf st hg
    subst hP hw hK
    obtain ⟨f0, f1, f2, f3, f4, f5⟩ := hf it (by simp)
    exact wpAny_pyNext_range_end (I.ok.hd hc) st (by have : n ≤ i := hg; omega) fun h' eb => ⟨rfl, I.turned (t' := s.toks) (fun b o hb e => eb b o hb e) f0 f1 f3 f4 f5⟩
  self := fun _ _ _ _ _ st h => wpAny_pyIter_rangeiter st h
end L2

namespace L2
open PySem PySem.Spec PyProof.Rows
section
variable {X : Cx} {tg : Expr}
def iList (K : PySem.W.Frag) (tl : TE) : TI := fun σ H R => tl σ H fun x H1 => ∃ a, x = .ref a ∧ (∃ xs, SqL K H1 a xs) ∧ R (Itl K a) H1
theorem pi_list {l : Expr} {tl : TE} (hl : PE X l tl) : PI X tg l (iList X.K tl) := by
  intro pins s σ H R I h
  refine thn (hl pins s σ H _ I h) fun v s1 ⟨x, H1, I1, r1, q1⟩ => ?_
  obtain ⟨a, e, ⟨xs, hq⟩, q⟩ := q1
  subst e
  cases r1
  obtain ⟨its, rv, p, hz⟩ := I1.list hq
  refine wpAny_pyIter_list p.isList ?_
  refine ⟨s1.heap.objs.size, [s1.heap.objs.size], _, _, H1, rfl, I1.kept (t' := s1.toks) fun b o e => Heap.get?_push_of_some _ e, turn_list a _, ⟨_, Heap.get?_push_size _ rfl, rfl, rfl⟩, fun b hb => ?_, q⟩
  have e : b = s1.heap.objs.size := by simpa using hb
  subst e
  exact I1.fpOk (Nat.le_refl _) (I1.hok.fresh (Nat.le_refl _))
/-- a range object just made, walked -/
theorem range_it {pins : List (Addr × Obj)} {σ : St} {H : Hp} {s : Shared} {R : It → Hp → Prop} {E : Value → Shared → Prop} {lo hi : Int} {t u v : Tok} {tk : Nat} (I : Inv X pins σ H s) (h1 : -(2 ^ 62) ≤ lo) (h2 : lo < 2 ^ 62) (h3 : -(2 ^ 62) ≤ hi) (h4 : hi < 2 ^ 62)
    (q : R (Itr lo (hi - lo).toNat) H) : wpAny (model X.prog X.w) X.A (pyIter (.ref s.heap.objs.size)) (PIE X pins σ tg R) E { s with heap := s.heap.push { cls := .type "range", data := .fields #[.int lo t, .int hi u, .int 1 v] }, toks := tk } := by
  refine wpAny_pyIter_range (IsRange.new ..) (small_one h1 h2 h3 h4) ?_
  have I1 : Inv X pins σ H { s with heap := s.heap.push { cls := .type "range", data := .fields #[.int lo t, .int hi u, .int 1 v] }, toks := tk } := I.kept fun b o e => Heap.get?_push_of_some _ e
  refine ⟨(s.heap.push { cls := .type "range", data := .fields #[.int lo t, .int hi u, .int 1 v] }).objs.size, [(s.heap.push { cls := .type "range", data := .fields #[.int lo t, .int hi u, .int 1 v] }).objs.size], _, _, H, rfl,
    I1.kept (t' := tk) fun b o e => Heap.get?_push_of_some _ e, turn_range _ lo (hi - lo).toNat, ?_, fun b hb => ?_, q⟩
  · have e1 : lo + ((0 : Nat) : Int) * 1 = lo := by simp
    have e2 : (((hi - lo).toNat : Nat) : Int) - ((0 : Nat) : Int) = Builtin.Range.rangeSize lo hi 1 := by rw [rangeSize_one]; split <;> omega
    show IsRangeIter _ _ (lo + ((0 : Nat) : Int) * 1) ((((hi - lo).toNat : Nat) : Int) - ((0 : Nat) : Int)) 1
    rw [e1, e2]
    exact Heap.get?_push_size _ rfl
  · have e : b = (s.heap.push { cls := .type "range", data := .fields #[.int lo t, .int hi u, .int 1 v] }).objs.size := by simpa using hb
    subst e
    exact I1.fpOk (Nat.le_refl _) (I1.hok.fresh (Nat.le_refl _))
def iRng1 (ta : TA) : TI := fun σ H R => ta σ H fun vs H1 => ∃ j : Int, vs = [.int j] ∧ -(2 ^ 62) ≤ j ∧ j < 2 ^ 62 ∧ R (Itr 0 j.toNat) H1
theorem pi_range1 {a : Expr} {ta : TA} {p pos : Pos} (hg : Gl X "range") (hm : X.mg "range" = none) (ha : PA X [a] ta) (hs : starEach [a] X.env = [(false, eval a X.env)] := by rfl) : PI X tg (.Call (.Name "range" p) [a] [] pos) (iRng1 ta) := by
  intro pins s σ H R I h
  refine Call_ (ld_blt I hg hm boot_range (PyProof.Rows.callWith_type1 (thn (ha pos pins s σ H _ I h) fun us s1 ⟨vs, H1, I1, r1, q1⟩ => ?_) hs rfl))
  obtain ⟨j, e, q1, q2, q⟩ := q1
  subst e
  cases r1 with
  | cons r rr =>
    cases rr
    obtain ⟨t, rfl⟩ := r
    exact call_range_1 (range_it I1 (by omega) (by omega) q1 q2 (by simpa using q))
/-! ### for -/
/-- W: the invariant by the turn and a measure; N: what the body is to reach -/
def tFor (wi : TI) (g : TG) (tb : TS) : TS := fun D σ H => wi σ H fun J H1 => ∃ W : Nat → Nat → St → Hp → Prop, (∃ m, W 0 m σ H1) ∧ ∀ i m σ H, W i m σ H →
  (J.stop i H ∧ D.nx σ H) ∨ (J.go i H ∧ ∃ N : St → Hp → Prop, (∀ σ' H', N σ' H' → ∃ m', m' < m ∧ W (i + 1) m' σ' H') ∧ ∀ x H', J.yld i H x H' → g x σ H' fun σ2 H2 => tb { D with nx := N, ct := N, bk := D.nx } σ2 H2)
/-- the records at fp as they stand -/
def pinsAt (fp : List Addr) (h : Heap) : List (Addr × Obj) := fp.filterMap fun b => (h.get? b).map fun o => (b, o)
theorem mem_pinsAt {fp : List Addr} {h : Heap} {b : Addr} {o : Obj} (hb : b ∈ fp) (e : h.get? b = some o) : (b, o) ∈ pinsAt fp h := List.mem_filterMap.mpr ⟨b, hb, by rw [e]; rfl⟩
theorem of_pinsAt {fp : List Addr} {h : Heap} {p : Addr × Obj} (hp : p ∈ pinsAt fp h) : p.1 ∈ fp ∧ h.get? p.1 = some p.2 := by
  obtain ⟨b, hb, e⟩ := List.mem_filterMap.mp hp
  cases q : h.get? b with
  | none => rw [q] at e; cases e
  | some o =>
    rw [q] at e
    have e' : (b, o) = p := Option.some.inj e
    subst e'
    exact ⟨hb, q⟩
theorem Inv.pinned {pins : List (Addr × Obj)} {σ : St} {H : Hp} {s : Shared} {fp : List Addr} (I : Inv X pins σ H s) (hf : ∀ b ∈ fp, FpOk X pins H b) (ho : ∀ b ∈ fp, ∃ o, s.heap.get? b = some o ∧ ∀ v, o.data ≠ .cell v) : Inv X (pins ++ pinsAt fp s.heap) σ H s :=
  I.pins_of fun p hp => (List.mem_append.mp hp).elim (fun z => I.pin p (List.mem_append_right _ z)) fun z => by
    obtain ⟨hb, e⟩ := of_pinsAt z
    obtain ⟨f0, f1, f2, _⟩ := hf p.1 hb
    obtain ⟨o, e', d⟩ := ho p.1 hb
    rw [e] at e'; cases e'
    exact ⟨e, f0, f1, f2, d⟩
theorem Inv.unpinned {pins pl : List (Addr × Obj)} {σ : St} {H : Hp} {s : Shared} (I : Inv X (pins ++ pl) σ H s) : Inv X pins σ H s := I.pins_of fun p hp => I.pin p (List.mem_append_right _ (List.mem_append_left _ hp))
theorem ps_for {iter : Expr} {body : List Stmt} {wi : TI} {g : TG} {tb : TS} {pos : Pos} (hp : PassesOwn (model X.prog X.w) X.A X.env X.xe) (hc : X.calm = true) (hi : PI X tg iter wi) (hg : PG X tg g) (hb : PSs X body tb)
    (hs : ∀ x, foldedSetIterable iter X.env x = pure x := by intro _; rfl) : PS X (.For tg iter body [] pos) (tFor wi g tb) := by
  intro pins s σ H D I h
  refine wpAny_For (thn (hi pins s σ H _ I h) fun v s1 h1 => thn h1 fun itv s2 h2 => ?_) hs
  obtain ⟨it, fp, tn, J, H2, e, I2, T, st2, f2, W, ⟨m0, w0⟩, turn⟩ := h2
  subst e
  -- what stays true of the iterator's objects through the loop
  have stat : ∀ {H' : Hp}, (∀ b ∈ fp, H' b = none) → ∀ b ∈ fp, FpOk X pins H' b := fun hn b hb => ⟨hn b hb, (f2 b hb).2⟩
  refine codeAny_forLoop_any (fun n s' => ∃ i σ' H', Inv X pins σ' H' s' ∧ tn i s'.heap ∧ (∀ b ∈ fp, H' b = none) ∧ W i n σ' H') ?_ m0 ⟨0, σ, H2, I2, st2, fun b hb => (f2 b hb).1, w0⟩
  rintro n s3 ⟨i, σ3, H3, I3, st3, fr3, w3⟩
  rcases turn i n σ3 H3 w3 with ⟨stop, qn⟩ | ⟨go, N, hN, step⟩
  · refine wpAny_passesOwn hp (thn (T.done X rfl rfl rfl hc i pins s3 σ3 H3 X.xe I3 (stat fr3) st3 stop) fun r s4 ⟨hr, I4⟩ => ?_)
    subst hr
    exact wpAny_execs_nil ⟨σ3, H3, I4, qn⟩
  · refine wpAny_passesOwn hp (thn (T.item X rfl rfl rfl hc i pins s3 σ3 H3 X.xe I3 (stat fr3) st3 go) fun r s4 ⟨u, hr, h4⟩ => ?_)
    subst hr
    refine wpAny_passesOwn hp (thn h4 fun _ s5 ⟨x, H5, I5, r5, y5, st5, fr5⟩ => ?_)
    have I5' := I5.pinned (stat fr5) (T.obj _ _ st5)
    refine wpAny_passesOwn hp (thn (hg _ s5 σ3 H5 x u _ I5' r5 (step x H5 y5)) fun _ s6 ⟨σ6, H6, I6, q6⟩ => ?_)
    refine wpAny_passesOwn hp (thn (hb _ s6 σ6 H6 _ I6 q6) fun f s7 q7 => ?_)
    have again : ∀ {σ7 : St} {H7 : Hp}, Inv X (pins ++ pinsAt fp s5.heap) σ7 H7 s7 → N σ7 H7 → ∃ m, m < n ∧ ∃ i σ' H', Inv X pins σ' H' s7 ∧ tn i s7.heap ∧ (∀ b ∈ fp, H' b = none) ∧ W i m σ' H' := fun {σ7 H7} I7 n7 => by
      obtain ⟨m', hm, w7⟩ := hN σ7 H7 n7
      refine ⟨m', hm, i + 1, σ7, H7, I7.unpinned, T.keep _ _ _ st5 fun b hb o e => (I7.pin (b, o) (List.mem_append_right _ (List.mem_append_right _ (mem_pinsAt hb e)))).1, fun b hb => ?_, w7⟩
      obtain ⟨o, e, d⟩ := T.obj _ _ st5 b hb
      exact (I7.pin (b, o) (List.mem_append_right _ (List.mem_append_right _ (mem_pinsAt hb e)))).2.1
    cases f with
    | next => obtain ⟨σ7, H7, I7, n7⟩ := q7; exact again I7 n7
    | cont => obtain ⟨σ7, H7, I7, n7⟩ := q7; exact again I7 n7
    | brk => obtain ⟨σ7, H7, I7, q7⟩ := q7; exact ⟨σ7, H7, I7.unpinned, q7⟩
    | ret v => obtain ⟨x7, σ7, H7, I7, r7, q7⟩ := q7; exact ⟨x7, σ7, H7, I7.unpinned, r7, q7⟩
end

/-! ### the forms one uses -/
end L2

namespace L2
open PySem PySem.Spec PyProof.Rows

abbrev R2 := V → V → Hp → VK → Prop
/-- a two-place operation on values: f is binaryOp op, inplaceOp op or compareOp op -/
def OpR (X : Cx) (f : Value → Value → Sem Value) (r : R2) : Prop :=
  ∀ (pins : List (Addr × Obj)) (s : Shared) (σ : St) (H : Hp) (x y : V) (v u : Value) (Q : VK), Inv X pins σ H s → RelV x v → RelV y u → r x y H Q →
    wpAny (model X.prog X.w) X.A (f v u) (EP X pins σ Q) X.xe s
/-- a one-place operation -/
def UnR (X : Cx) (f : Value → Sem Value) (r : V → Hp → VK → Prop) : Prop :=
  ∀ (pins : List (Addr × Obj)) (s : Shared) (σ : St) (H : Hp) (x : V) (v : Value) (Q : VK), Inv X pins σ H s → RelV x v → r x H Q →
    wpAny (model X.prog X.w) X.A (f v) (EP X pins σ Q) X.xe s
/-- a call of a value that is known (a builtin, a type) with values -/
def CallR (X : Cx) (f : Value) (r : List V → Hp → VK → Prop) : Prop :=
  ∀ (pins : List (Addr × Obj)) (s : Shared) (σ : St) (H : Hp) (xs : List V) (us : List Value) (Q : VK), Inv X pins σ H s → Vals xs us → r xs H Q →
    wpAny (model X.prog X.w) X.A (call f us) (EP X pins σ Q) X.xe s
def tOp (r : R2) (ta tb : TE) : TE := fun σ H Q => ta σ H fun x H1 => tb σ H1 fun y H2 => r x y H2 Q
def tUn (r : V → Hp → VK → Prop) (ta : TE) : TE := fun σ H Q => ta σ H fun x H1 => r x H1 Q
/-- ints in, under C, and a value out -/
def rI (C : Int → Int → Prop) (g : Int → Int → V) : R2 := fun x y H Q => ∃ i j, x = .int i ∧ y = .int j ∧ C i j ∧ Q (g i j) H
def rI0 (g : Int → Int → V) : R2 := fun x y H Q => ∃ i j, x = .int i ∧ y = .int j ∧ Q (g i j) H
def rU (g : Int → V) : V → Hp → VK → Prop := fun x H Q => ∃ i, x = .int i ∧ Q (g i) H

section
variable {X : Cx} {a b c : Expr} {ta tb tc : TE} {pos : Pos}

theorem binT (ha : PE X a ta) (hb : PE X b tb) {pins : List (Addr × Obj)} {s : Shared} {σ : St} {H : Hp} {R : V → V → Hp → Prop} (I : Inv X pins σ H s)
    (h : ta σ H fun x H1 => tb σ H1 fun y H2 => R x y H2) {Q : Value → Shared → Prop} {f : Value → Value → Sem Value}
    (hf : ∀ v u s2 x y H2, Inv X pins σ H2 s2 → RelV x v → RelV y u → R x y H2 → wpAny (model X.prog X.w) X.A (f v u) Q X.xe s2) :
    wpAny (model X.prog X.w) X.A (eval a X.env) (fun v s₁ => wpAny (model X.prog X.w) X.A (eval b X.env) (fun u s₂ => wpAny (model X.prog X.w) X.A (f v u) Q X.xe s₂) X.xe s₁) X.xe s := by
  refine thn (ha pins s σ H _ I h) fun v s1 ⟨x, H1, I1, r1, q1⟩ => ?_
  refine thn (hb pins s1 σ H1 _ I1 q1) fun u s2 ⟨y, H2, I2, r2, q2⟩ => ?_
  exact hf v u s2 x y H2 I2 r1 r2 q2

theorem pe_op {op : Operator} {r : R2} (ho : OpR X (binaryOp op) r) (ha : PE X a ta) (hb : PE X b tb) : PE X (.BinOp a op b pos) (tOp r ta tb) := by
  intro pins s σ H Q I h
  exact wpAny_BinOp (binT ha hb I h fun v u s2 x y H2 I2 rx ry q => ho pins s2 σ H2 x y v u Q I2 rx ry q)
theorem pe_un {op : UnaryOp} {r : V → Hp → VK → Prop} (ho : UnR X (unaryOp op) r) (ha : PE X a ta) : PE X (.UnaryOp op a pos) (tUn r ta) := by
  intro pins s σ H Q I h
  exact UnaryOp_ (thn (ha pins s σ H _ I h) fun v s1 ⟨x, H1, I1, r1, q1⟩ => ho pins s1 σ H1 x v Q I1 r1 q1)
/-! ### ints -/
theorem opI {f : Value → Value → Sem Value} {C : Int → Int → Prop} {g : Int → Int → Int}
    (rule : ∀ (i j : Int) (t u : Tok) (s : Shared) (Q : Value → Shared → Prop) (E : Value → Shared → Prop), C i j → Q (.int (g i j) s.toks) { s with toks := s.toks + 1 } → wpAny (model X.prog X.w) X.A (f (.int i t) (.int j u)) Q E s) :
    OpR X f (rI C fun i j => .int (g i j)) := by
  intro pins s σ H x y v u Q I rx ry h
  obtain ⟨i, j, rfl, rfl, hc, q⟩ := h
  obtain ⟨t, rfl⟩ := rx
  obtain ⟨t', rfl⟩ := ry
  exact rule i j t t' s _ _ hc ⟨.int (g i j), H, I.tok _, ⟨_, rfl⟩, q⟩
theorem opI0 {f : Value → Value → Sem Value} {g : Int → Int → Int}
    (rule : ∀ (i j : Int) (t u : Tok) (s : Shared) (Q : Value → Shared → Prop) (E : Value → Shared → Prop), Q (.int (g i j) s.toks) { s with toks := s.toks + 1 } → wpAny (model X.prog X.w) X.A (f (.int i t) (.int j u)) Q E s) :
    OpR X f (rI0 fun i j => .int (g i j)) := by
  intro pins s σ H x y v u Q I rx ry h
  obtain ⟨i, j, rfl, rfl, q⟩ := h
  obtain ⟨t, rfl⟩ := rx
  obtain ⟨t', rfl⟩ := ry
  exact rule i j t t' s _ _ ⟨.int (g i j), H, I.tok _, ⟨_, rfl⟩, q⟩
theorem opB0 {f : Value → Value → Sem Value} {g : Int → Int → Bool}
    (rule : ∀ (i j : Int) (t u : Tok) (s : Shared) (Q : Value → Shared → Prop) (E : Value → Shared → Prop), Q (.bool (g i j)) s → wpAny (model X.prog X.w) X.A (f (.int i t) (.int j u)) Q E s) :
    OpR X f (rI0 fun i j => .bl (g i j)) := by
  intro pins s σ H x y v u Q I rx ry h
  obtain ⟨i, j, rfl, rfl, q⟩ := h
  obtain ⟨t, rfl⟩ := rx
  obtain ⟨t', rfl⟩ := ry
  exact rule i j t t' s _ _ ⟨.bl (g i j), H, I, rfl, q⟩

def CDiv (i j : Int) : Prop := 0 < j ∧ j < 1073741824
def CPow (i j : Int) : Prop := 0 ≤ j ∧ j ≤ 1000000 ∧ i.natAbs < 2 ^ 64
def CMul (i j : Int) : Prop := (-(2 ^ 64) < i ∧ i < 2 ^ 64) ∨ (-(2 ^ 64) < j ∧ j < 2 ^ 64)
theorem CMul.ok {i j : Int} (h : CMul i j) : IntMulOk i j := by
  rcases h with ⟨h1, h2⟩ | ⟨h1, h2⟩
  · exact .of_left (intBits_le_64 h1 h2)
  · exact .of_right (intBits_le_64 h1 h2)
theorem op_add : OpR X (binaryOp .Add) (rI0 fun i j => .int (i + j)) := opI0 fun _ _ _ _ _ _ _ q => add_int q
theorem op_sub : OpR X (binaryOp .Sub) (rI0 fun i j => .int (i - j)) := opI0 fun _ _ _ _ _ _ _ q => sub_int q
theorem op_mul : OpR X (binaryOp .Mult) (rI CMul fun i j => .int (i * j)) := opI fun _ _ _ _ _ _ _ hc q => mul_int q hc.ok
/-- // by a positive divisor -/
theorem op_fdiv : OpR X (binaryOp .FloorDiv) (rI CDiv fun i j => .int (i / j)) := opI fun i j _ _ _ _ _ hc q => by
  have h1 : (0 : Int) < j := hc.1
  have h2 : j < 1073741824 := hc.2
  exact floordiv_int (by omega) (by rw [Int.fdiv_eq_ediv_of_nonneg i (by omega)]; exact q) (.inl (PyProof.noPylong_small (by omega)))
/-- % by a positive divisor of any size -/
theorem op_mod : OpR X (binaryOp .Mod) (rI (fun _ j => 0 < j) fun i j => .int (i % j)) := opI fun i j _ _ _ _ _ hc q => by
  have h1 : (0 : Int) < j := hc
  exact mod_int' (by omega) (by rw [Int.fmod_eq_emod_of_nonneg i (by omega)]; exact q)
theorem op_pow : OpR X (binaryOp .Pow) (rI CPow fun i j => .int (i ^ j.toNat)) := opI fun _ _ _ _ _ _ _ hc q => pow_int_small hc.1 hc.2.1 hc.2.2 q
theorem unI {f : Value → Sem Value} {g : Int → Int}
    (rule : ∀ (i : Int) (t : Tok) (s : Shared) (Q : Value → Shared → Prop) (E : Value → Shared → Prop), Q (.int (g i) s.toks) { s with toks := s.toks + 1 } → wpAny (model X.prog X.w) X.A (f (.int i t)) Q E s) :
    UnR X f (rU fun i => .int (g i)) := by
  intro pins s σ H x v Q I rx h
  obtain ⟨i, rfl, q⟩ := h
  obtain ⟨t, rfl⟩ := rx
  exact rule i t s _ _ ⟨.int (g i), H, I.tok _, ⟨_, rfl⟩, q⟩
theorem un_neg : UnR X (unaryOp .USub) (rU fun i => .int (-i)) := unI fun _ _ _ _ _ q => neg_int q
/-! ### bools among ints: n += (a < b) -/
end

/-! ### comparisons -/
/-- the scalars that == tells apart as data does -/
def scal : V → V → Bool
  | .non, .non => true | .non, .int _ => true | .int _, .non => true | .non, .bl _ => true | .bl _, .non => true | .non, .str _ => true | .str _, .non => true
  | .int _, .int _ => true | .bl _, .bl _ => true | .str _, .str _ => true | .byt _, .byt _ => true
  | .int _, .str _ => true | .str _, .int _ => true | .bl _, .str _ => true | .str _, .bl _ => true
  | _, _ => false
def rEq : R2 := fun x y H Q => scal x y = true ∧ Q (.bl (decide (x = y))) H
def rNe : R2 := fun x y H Q => scal x y = true ∧ Q (.bl (!decide (x = y))) H

theorem dec_int {i j : Int} : decide (V.int i = V.int j) = (i == j) := by
  rw [Bool.eq_iff_iff]
  simp
theorem dec_bl {i j : Bool} : decide (V.bl i = V.bl j) = (i == j) := by
  rw [Bool.eq_iff_iff]
  simp
theorem dec_str {i j : Str} : decide (V.str i = V.str j) = (i == j) := by
  rw [Bool.eq_iff_iff]
  simp
theorem dec_byt {i j : Array UInt8} : decide (V.byt i = V.byt j) = (i.toList == j.toList) := by
  rw [Bool.eq_iff_iff]
  cases i
  cases j
  simp

section
variable {X : Cx} {a b c : Expr} {ta tb tc : TE} {pos : Pos}
theorem fin_bl {pins : List (Addr × Obj)} {σ : St} {H : Hp} {s : Shared} {Q : VK} {k k' : Bool} (I : Inv X pins σ H s) (q : Q (.bl k) H) (e : k = k') : EP X pins σ Q (.bool k') s := by
  subst e
  exact ⟨.bl k, H, I, rfl, q⟩
theorem op_eq : OpR X (compareOp .Eq) rEq := by
  intro pins s σ H x y v u Q I rx ry h
  obtain ⟨hs, q⟩ := h
  cases x with
  | non =>
    cases rx
    cases y with
    | non => cases ry; exact PySem.EqNone.eq_none_none (fin_bl I q (by simp))
    | bl j => cases ry; exact PySem.EqNone.eq_none_bool (fin_bl I q (by simp))
    | int j => obtain ⟨t', rfl⟩ := ry; exact PySem.EqNone.eq_none_int (fin_bl I q (by simp))
    | str j => obtain ⟨t', rfl⟩ := ry; exact PySem.EqNone.eq_none_str (fin_bl I q (by simp))
    | _ => exact absurd (show false = true from hs) Bool.false_ne_true
  | bl i =>
    cases rx
    cases y with
    | non => cases ry; exact PySem.EqNone.eq_bool_none (fin_bl I q (by simp))
    | bl j => cases ry; exact eq_bool (fin_bl I q dec_bl)
    | str j => obtain ⟨t', rfl⟩ := ry; exact PySem.EqMixed.eq_bool_str (fin_bl I q (by simp))
    | _ => exact absurd (show false = true from hs) Bool.false_ne_true
  | int i =>
    obtain ⟨t, rfl⟩ := rx
    cases y with
    | non => cases ry; exact PySem.EqNone.eq_int_none (fin_bl I q (by simp))
    | int j => obtain ⟨t', rfl⟩ := ry; exact eq_int (fin_bl I q dec_int)
    | str j => obtain ⟨t', rfl⟩ := ry; exact PySem.EqMixed.eq_int_str (fin_bl I q (by simp))
    | _ => exact absurd (show false = true from hs) Bool.false_ne_true
  | str i =>
    obtain ⟨t, rfl⟩ := rx
    cases y with
    | non => cases ry; exact PySem.EqNone.eq_str_none (fin_bl I q (by simp))
    | bl j => cases ry; exact PySem.EqMixed.eq_str_bool (fin_bl I q (by simp))
    | int j => obtain ⟨t', rfl⟩ := ry; exact PySem.EqMixed.eq_str_int (fin_bl I q (by simp))
    | str j => obtain ⟨t', rfl⟩ := ry; exact eq_str (fin_bl I q dec_str)
    | _ => exact absurd (show false = true from hs) Bool.false_ne_true
  | byt i =>
    obtain ⟨t, rfl⟩ := rx
    cases y with
    | byt j => obtain ⟨t', rfl⟩ := ry; exact PySem.W.eq_bytes (fin_bl I q dec_byt)
    | _ => exact absurd (show false = true from hs) Bool.false_ne_true
  | _ => cases y <;> exact absurd (show false = true from hs) Bool.false_ne_true
theorem op_ne : OpR X (compareOp .NotEq) rNe := by
  intro pins s σ H x y v u Q I rx ry h
  obtain ⟨hs, q⟩ := h
  cases x with
  | non =>
    cases rx
    cases y with
    | non => cases ry; exact PySem.EqNone.ne_none_none (fin_bl I q (by simp))
    | bl j => cases ry; exact PySem.EqNone.ne_none_bool (fin_bl I q (by simp))
    | int j => obtain ⟨t', rfl⟩ := ry; exact PySem.EqNone.ne_none_int (fin_bl I q (by simp))
    | str j => obtain ⟨t', rfl⟩ := ry; exact PySem.EqNone.ne_none_str (fin_bl I q (by simp))
    | _ => exact absurd (show false = true from hs) Bool.false_ne_true
  | bl i =>
    cases rx
    cases y with
    | non => cases ry; exact PySem.EqNone.ne_bool_none (fin_bl I q (by simp))
    | bl j => cases ry; exact ne_bool (fin_bl I q (congrArg not dec_bl))
    | str j => obtain ⟨t', rfl⟩ := ry; exact PySem.EqMixed.ne_bool_str (fin_bl I q (by simp))
    | _ => exact absurd (show false = true from hs) Bool.false_ne_true
  | int i =>
    obtain ⟨t, rfl⟩ := rx
    cases y with
    | non => cases ry; exact PySem.EqNone.ne_int_none (fin_bl I q (by simp))
    | int j => obtain ⟨t', rfl⟩ := ry; exact ne_int (fin_bl I q (congrArg not dec_int))
    | str j => obtain ⟨t', rfl⟩ := ry; exact PySem.EqMixed.ne_int_str (fin_bl I q (by simp))
    | _ => exact absurd (show false = true from hs) Bool.false_ne_true
  | str i =>
    obtain ⟨t, rfl⟩ := rx
    cases y with
    | non => cases ry; exact PySem.EqNone.ne_str_none (fin_bl I q (by simp))
    | bl j => cases ry; exact PySem.EqMixed.ne_str_bool (fin_bl I q (by simp))
    | int j => obtain ⟨t', rfl⟩ := ry; exact PySem.EqMixed.ne_str_int (fin_bl I q (by simp))
    | str j => obtain ⟨t', rfl⟩ := ry; exact ne_str (fin_bl I q (congrArg not dec_str))
    | _ => exact absurd (show false = true from hs) Bool.false_ne_true
  | byt i =>
    obtain ⟨t, rfl⟩ := rx
    cases y with
    | byt j => obtain ⟨t', rfl⟩ := ry; exact PySem.W.ne_bytes (fin_bl I q (congrArg not dec_byt))
    | _ => exact absurd (show false = true from hs) Bool.false_ne_true
  | _ => cases y <;> exact absurd (show false = true from hs) Bool.false_ne_true

theorem op_lt : OpR X (compareOp .Lt) (rI0 fun i j => .bl (decide (i < j))) := opB0 fun _ _ _ _ _ _ _ q => lt_int q
theorem op_gt : OpR X (compareOp .Gt) (rI0 fun i j => .bl (decide (j < i))) := opB0 fun _ _ _ _ _ _ _ q => gt_int q
/-- is None, is not None: the right side a value none -/
theorem op_isN : OpR X (compareOp .Is) (fun x y H Q => y = .non ∧ Q (.bl (decide (x = .non))) H) := by
  intro pins s σ H x y v u Q I rx ry h
  obtain ⟨rfl, q⟩ := h
  cases ry
  refine is_none_gen (fin_bl I q ?_)
  cases x <;> first
    | (cases rx; rfl)
    | (obtain ⟨t, rfl⟩ := rx; rfl)
theorem op_notN : OpR X (compareOp .IsNot) (fun x y H Q => y = .non ∧ Q (.bl (!decide (x = .non))) H) := by
  intro pins s σ H x y v u Q I rx ry h
  obtain ⟨rfl, q⟩ := h
  cases ry
  refine isnot_none_gen (fin_bl I q ?_)
  cases x <;> first
    | (cases rx; rfl)
    | (obtain ⟨t, rfl⟩ := rx; rfl)

/-- two rules for one operation: by cases -/
theorem OpR.or {f : Value → Value → Sem Value} {r r' : R2} (h : OpR X f r) (h' : OpR X f r') : OpR X f (fun x y H Q => r x y H Q ∨ r' x y H Q) := by
  intro pins s σ H x y v u Q I rx ry q
  rcases q with q | q
  · exact h pins s σ H x y v u Q I rx ry q
  · exact h' pins s σ H x y v u Q I rx ry q

theorem nomark (b : Expr) {op : CmpOp} (h : op ≠ .In := by decide) (h2 : op ≠ .NotIn := by decide) : behindInMarks op b = false := by
  have e1 : (op == CmpOp.In) = false := by cases op <;> first | rfl | exact absurd rfl h
  have e2 : (op == CmpOp.NotIn) = false := by cases op <;> first | rfl | exact absurd rfl h2
  cases b <;> simp [behindInMarks, e1, e2]
/-- a comparison as a value; hm: nomark b, or (for in, not in) by with_unfolding_all rfl -/
theorem pe_cmpR {op : CmpOp} {r : R2} (ho : OpR X (compareOp op) r) (ha : PE X a ta) (hb : PE X b tb) (hm : behindInMarks op b = false) : PE X (.Compare a [op] [b] pos) (tOp r ta tb) := by
  intro pins s σ H Q I h
  exact wpAny_Compare1 (binT ha hb I h fun v u s2 x y H2 I2 rx ry q => ho pins s2 σ H2 x y v u Q I2 rx ry q) hm
/-- a reading of a value as a test -/
def tTest (t : TE) : TT := fun σ H Q => t σ H fun x H' => ∃ k, x = .bl k ∧ Q k H'
theorem pt_cmpR {op : CmpOp} {r : R2} (ho : OpR X (compareOp op) r) (ha : PE X a ta) (hb : PE X b tb) (hm : behindInMarks op b = false) : PT X (.Compare a [op] [b] pos) (tTest (tOp r ta tb)) := by
  intro pins s σ H Q I h
  refine wpAny_isTrue_Compare1 (thn (ha pins s σ H _ I h) fun v s1 ⟨x, H1, I1, r1, q1⟩ => thn (hb pins s1 σ H1 _ I1 q1) fun u s2 ⟨y, H2, I2, r2, q2⟩ =>
    thn (ho pins s2 σ H2 x y v u _ I2 r1 r2 q2) fun c s3 ⟨z, H3, I3, r3, k, e, q3⟩ => ?_) hm
  subst e
  cases r3
  exact wpAny_truthy_bool ⟨H3, I3, q3⟩
/-! ### truth -/
theorem line63 : (sizeLine : Nat) < 2 ^ 63 := by rw [sizeLine_eq]; decide
/-! ### strs and bytes -/
/-! ### scalar builtins, by CallR -/
theorem vals1 {x : V} {us : List Value} (r : Vals [x] us) : ∃ u, us = [u] ∧ RelV x u := by
  cases r with
  | cons r1 r2 => cases r2; exact ⟨_, rfl, r1⟩
theorem vals2 {x y : V} {us : List Value} (r : Vals [x, y] us) : ∃ u w', us = [u, w'] ∧ RelV x u ∧ RelV y w' := by
  cases r with
  | cons r1 r2 =>
    cases r2 with
    | cons r3 r4 => cases r4; exact ⟨_, _, rfl, r1, r3⟩
end
end L2

namespace L2
open PySem PySem.Spec PyProof.Rows

/-! ### an instance, its attributes a map -/
structure ObjM (h : Heap) (x dx C : Addr) (mA : Str → Option Value) : Prop where
  obj : h.get? x = some (PySem.W.instObj C dx)
  ns : h.Ns1 dx mA
  ne : dx ≠ x

theorem lookIn_ns {h : Heap} {dx : Addr} {mA : Str → Option Value} (n : h.Ns1 dx mA) : ∃ od, h.get? dx = some od ∧ ∀ name, PySem.W.lookIn name od = some (mA name) := by
  obtain ⟨o, es, ep, ho, hd, hk, _, hm⟩ := n
  refine ⟨o, ho, fun name => ?_⟩
  have e := hm name
  unfold nsFind findBy at e
  rw [← Array.find?_toList] at e
  unfold PySem.W.lookIn
  rw [hd]
  dsimp only
  split
  · rename_i y q
    rw [q] at e
    exact congrArg some e
  · rename_i q
    rw [q] at e
    have a : es.toList.any (·.refKey) = false := by
      rw [List.any_eq_false]
      intro y hy
      obtain ⟨z, t, hkey⟩ := hk y (Array.mem_toList_iff.mp hy)
      simp [DictEntry.refKey, hkey]
    have a' : ¬ es.toList.any (·.refKey) = true := by rw [a]; exact Bool.false_ne_true
    rw [if_neg a']
    exact congrArg some e

theorem ObjM.look {h : Heap} {x dx C : Addr} {mA : Str → Option Value} (I : ObjM h x dx C mA) : ∃ od, PySem.W.InstAt h x (PySem.W.instObj C dx) C (some od) ∧ ∀ name, PySem.W.lookIn name od = some (mA name) :=
  let ⟨od, ho, hl⟩ := lookIn_ns I.ns
  ⟨od, ⟨I.obj, rfl, rfl, ho⟩, hl⟩

section
variable {prog : Program} {w : World} {A : Around} {E : Value → Shared → Prop} {s : Shared} {K : PySem.W.Frag} {x dx C f : Addr} {mA : Str → Option Value} {name : Str} {v : Value}

theorem get_map {expr : Bool} {Q : Value → Shared → Prop} (X : K.In s.heap) (I : ObjM s.heap x dx C mA) (hg : PySem.W.plainGet K C name = true) (hh : PySem.W.hasDictIn K C = true)
    (ha : PySem.W.findIn K (.ref C) name = some none) (hv : mA name = some v) (hv' : PySem.W.handedIn v = true) (h : Q v { s with toks := s.toks + 1 }) :
    wpAny (model prog w) A (getAttr (.ref x) name expr) Q E s := by
  obtain ⟨od, J, hl⟩ := I.look
  exact PySem.W.get_value X J (PySem.W.plainGet_of hg).1 (PySem.W.findObj_own hh ha rfl (by rw [hl, hv])) hv' h

theorem get_meth {pl : Sem Bool} {Q : Value × List Value → Shared → Prop} (X : K.In s.heap) (I : ObjM s.heap x dx C mA) (hg : PySem.W.plainGet K C name = true)
    (hf : PySem.W.findIn K (.ref C) name = some (some (.ref f))) (ht : PySem.W.isFn K (.ref f) = true) (hv : mA name = none) (h : Q (.ref f, [.ref x]) s) :
    wpAny (model prog w) A (getMethod (.ref x) name pl) Q E s := by
  obtain ⟨od, J, hl⟩ := I.look
  exact PySem.W.method_fn X J (PySem.W.plainGet_of hg).1 (PySem.W.plainGet_of hg).2 hf (beq_iff_eq.mp ht) (by show (PySem.W.lookIn name od).map (·.isSome) = some false; rw [hl, hv]; rfl) h

theorem set_map {ns : List Str} {Q : Unit → Shared → Prop} (X : K.In s.heap) (I : ObjM s.heap x dx C mA)
    (hs : PySem.W.findIn K (.ref C) "__setattr__" = some (some (.builtin "object.__setattr__"))) (hp : PySem.W.plainOver K C = true) (ht : PySem.W.takerIn K C name = some none) (hh : PySem.W.hasDictIn K C = true)
    (hw : PySem.Within mA ns) (hsz : ns.length ≤ sizeLine)
    (h : ∀ h', ObjM h' x dx C (fun y => if y = name then some v else mA y) → Heap.SameBut dx s.heap h' → Q () { s with heap := h', toks := s.toks + 2 }) :
    wpAny (model prog w) A (setAttr (.ref x) name v) Q E s := by
  obtain ⟨od, J, hl⟩ := I.look
  refine PySem.W.set_plain X J hs (PySem.W.osa_open (s := { s with toks := s.toks + 1 }) (r := none) X J hp ht fun b => ?_)
  obtain ⟨cd, hc, hd'⟩ := PySem.W.any_some hh
  have hx : s.heap.get? x = some ⟨.ref C, some dx, .plain, #[]⟩ := I.obj
  refine wpAny_bind (wpAny_pure (wpAny_bind (wpAny_bind (wpAny_loadPart hx (wpAny_bind (PySem.W.Looks.here (s := { s with toks := s.toks + 1 }) (PySem.W.looks_clsIn X hc) ?_))))))
  rw [hd']
  refine wpAny_pure (a := some dx) (wpAny_bind (wpAny_pure (wpAny_bind ?_)))
  refine wpAny_nsSet1 (s := { s with toks := s.toks + 1 }) I.ns fun h' hn2 hs2 => ?_
  obtain ⟨oD, esD, epD, hoD, hdD, hcD⟩ := hn2.count (PySem.Within.cons name v hw)
  refine wpAny_bind (wpAny_lookBehind hoD (by rw [hdD]; exact pastItsLine_dict (Nat.le_trans hcD (by rw [List.length_cons]; omega))) ?_)
  exact wpAny_pure (h _ ⟨(hs2.2 _ (Ne.symm I.ne)).trans I.obj, hn2, I.ne⟩ hs2)

/-- C(..): the dict at the heap's end, the instance behind it; then its __init__ -/
theorem make_map {R : Result → Shared → Prop} {vs : List Value} {kw : List (Str × Value)} (X : K.In s.heap) (hm : PySem.W.makesIn K C = true)
    (hi : PySem.W.findIn K (.ref C) "__init__" = some (some (.ref f))) (hf : PySem.W.typeIn K (.ref f) = some (.type "function"))
    (h : codeAny (model prog w) (A.under (.builtin "type.__call__" ⟨.ref C :: vs, kw⟩)) (.call (.ref f) ⟨.ref (s.heap.objs.size + 1) :: vs, kw⟩) (PySem.W.InitBack (s.heap.objs.size + 1) R)
      { s with heap := (s.heap.push PySem.W.emptyDict).push (PySem.W.instObj C s.heap.objs.size) }) :
    codeAny (model prog w) A (.call (.ref C) ⟨vs, kw⟩) R s := by
  obtain ⟨hh, g, d, t, os⟩ := s
  exact PySem.W.make_core (PySem.W.makes_of X hm) (PySem.W.looks_findIn X hi) (fun self => PySem.W.bind_fn X self hf) (.inl rfl) h
end

/-! ### the attributes as a list of pairs -/
def putF (f : Str) (v : V) : List (Str × V) → List (Str × V)
  | [] => [(f, v)]
  | (g, x) :: r => if g = f then (g, v) :: r else (g, x) :: putF f v r
theorem lookup_putF (f g : Str) (v : V) : ∀ fs : List (Str × V), (putF f v fs).lookup g = if g = f then some v else fs.lookup g
  | [] => by
    show List.lookup g [(f, v)] = _
    by_cases h : g = f
    · have hb : (g == f) = true := beq_iff_eq.mpr h
      simp only [List.lookup, hb, if_pos h]
    · have hb : (g == f) = false := beq_eq_false_iff_ne.mpr h
      simp only [List.lookup, hb, if_neg h]
  | (k, x) :: r => by
    have ih := lookup_putF f g v r
    rw [show putF f v ((k, x) :: r) = (if k = f then (k, v) :: r else (k, x) :: putF f v r) from rfl]
    by_cases hk : k = f
    · rw [if_pos hk]
      by_cases h : g = k
      · have hb : (g == k) = true := beq_iff_eq.mpr h
        simp only [List.lookup, hb, if_pos (h.trans hk)]
      · have hb : (g == k) = false := beq_eq_false_iff_ne.mpr h
        simp only [List.lookup, hb, if_neg (fun e : g = f => h (e.trans hk.symm))]
    · rw [if_neg hk]
      by_cases h : g = k
      · have hb : (g == k) = true := beq_iff_eq.mpr h
        simp only [List.lookup, hb, if_neg (fun e : g = f => hk (h.symm.trans e))]
      · have hb : (g == k) = false := beq_eq_false_iff_ne.mpr h
        simp only [List.lookup, hb]
        exact ih
theorem keys_putF (f : Str) (v : V) : ∀ fs : List (Str × V), f ∈ (putF f v fs).map (·.1) ∧ ∀ g, g ∈ fs.map (·.1) → g ∈ (putF f v fs).map (·.1)
  | [] => ⟨by simp [putF], fun g h => by simp at h⟩
  | (k, x) :: r => by
    obtain ⟨i1, i2⟩ := keys_putF f v r
    rw [show putF f v ((k, x) :: r) = (if k = f then (k, v) :: r else (k, x) :: putF f v r) from rfl]
    by_cases hk : k = f
    · rw [if_pos hk]
      subst hk
      exact ⟨by simp, fun g h => by simpa using h⟩
    · rw [if_neg hk]
      refine ⟨?_, fun g h => ?_⟩
      · rw [List.map_cons]
        exact List.mem_cons_of_mem _ i1
      · rw [List.map_cons] at h ⊢
        rcases List.mem_cons.mp h with e | e
        · exact List.mem_cons.mpr (.inl e)
        · exact List.mem_cons_of_mem _ (i2 g e)
theorem length_putF (f : Str) (v : V) : ∀ fs : List (Str × V), (putF f v fs).length ≤ fs.length + 1
  | [] => by simp [putF]
  | (k, x) :: r => by
    have ih := length_putF f v r
    rw [show putF f v ((k, x) :: r) = (if k = f then (k, v) :: r else (k, x) :: putF f v r) from rfl]
    by_cases hk : k = f
    · rw [if_pos hk, List.length_cons, List.length_cons]; omega
    · rw [if_neg hk, List.length_cons, List.length_cons]; omega

theorem RelO.some_of {v : V} {o : Option Value} (r : RelO (some v) o) : ∃ u, o = some u ∧ RelV v u := by
  cases o with
  | none => exact (show False from r).elim
  | some u => exact ⟨u, rfl, r⟩
theorem RelO.none_of {o : Option Value} (r : RelO none o) : o = none := by
  cases o with
  | none => rfl
  | some u => exact (show False from r).elim
theorem handed_of {v : V} {u : Value} (r : RelV v u) : PySem.W.handedIn u = true := by
  cases v with
  | non => cases (show u = Value.none from r); rfl
  | bl b => cases (show u = Value.bool b from r); rfl
  | int i => obtain ⟨t, e⟩ := (show ∃ t, u = Value.int i t from r); cases e; rfl
  | str x => obtain ⟨t, e⟩ := (show ∃ t, u = Value.str x t from r); cases e; rfl
  | byt b => obtain ⟨t, e⟩ := (show ∃ t, u = Value.bytes b t from r); cases e; rfl
  | flt b => obtain ⟨t, e⟩ := (show ∃ t, u = Value.float b t from r); cases e; rfl
  | ref a => cases (show u = Value.ref a from r); rfl
  | ty n => cases (show u = Value.type n from r); rfl

section
variable {P : Program} {w : World} {H H' : Hp} {h h' : Heap} {a C dx : Addr} {fs fs' : List (Str × V)}
theorem ins_get (hok : HOk P w H h) (e : H a = some (.ins C dx fs)) : ∃ mA, ObjM h a dx C mA ∧ (∀ f, RelO (fs.lookup f) (mA f)) ∧ PySem.Within mA (fs.map (·.1)) ∧ fs.length ≤ 1000 ∧ H dx = some (.own a) := by
  obtain ⟨d, z, ne, ob, mA, n, r, q⟩ := (show ObjOk P w H h a (.ins C dx fs) from hok a _ e)
  exact ⟨mA, ⟨ob, n, ne⟩, r, q, z, d⟩
end

/-! ### what of the text a class must have -/
structure Cls (K : PySem.W.Frag) (C : Addr) : Prop where
  pg : PySem.W.plainGet K C Str.empty = true
  hd : PySem.W.hasDictIn K C = true
  po : PySem.W.plainOver K C = true
  sa : PySem.W.findIn K (.ref C) "__setattr__" = some (some (.builtin "object.__setattr__"))
theorem Cls.get {K : PySem.W.Frag} {C : Addr} (c : Cls K C) (f : Str) : PySem.W.plainGet K C f = true := c.pg
/-- no class of it has the name -/
def NoAttr (K : PySem.W.Frag) (C : Addr) (f : Str) : Prop := PySem.W.findIn K (.ref C) f = some none
theorem NoAttr.taker {K : PySem.W.Frag} {C : Addr} {f : Str} (n : NoAttr K C f) : PySem.W.takerIn K C f = some none := by
  unfold PySem.W.takerIn
  rw [show PySem.W.findIn K (.ref C) f = some none from n]
  rfl
/-- a method: a plain def of the class or of one above it -/
structure Meth (K : PySem.W.Frag) (C : Addr) (m : Str) (f : Addr) : Prop where
  at_ : PySem.W.findIn K (.ref C) m = some (some (.ref f))
  fn : PySem.W.isFn K (.ref f) = true
  kp : PySem.W.keepIn K (.ref f) = true

section
variable {X : Cx} {pins : List (Addr × Obj)} {σ : St} {H : Hp} {s : Shared} {a C dx : Addr} {fs : List (Str × V)} {f : Str} {v : V} {A : Around} {E : Value → Shared → Prop}

theorem getattr_ok {b : Bool} {Q : Value → Shared → Prop} (I : Inv X pins σ H s) (e : H a = some (.ins C dx fs)) (c : Cls X.K C) (n : NoAttr X.K C f) (l : fs.lookup f = some v)
    (h : ∀ u s', Inv X pins σ H s' → RelV v u → Q u s') : wpAny (model X.prog X.w) A (getAttr (.ref a) f b) Q E s := by
  obtain ⟨mA, O, r, _, _, _⟩ := ins_get I.hok e
  obtain ⟨u, hu, ru⟩ := RelO.some_of (v := v) (o := mA f) (by rw [← l]; exact r f)
  exact get_map I.kIn O (c.get f) c.hd n hu (handed_of ru) (h u _ (I.tok _) ru)

theorem getmeth_ok {m : Str} {g : Addr} {pl : Sem Bool} {Q : Value × List Value → Shared → Prop} (I : Inv X pins σ H s) (e : H a = some (.ins C dx fs)) (c : Cls X.K C) (k : Meth X.K C m g) (l : fs.lookup m = none)
    (h : Q (.ref g, [.ref a]) s) : wpAny (model X.prog X.w) A (getMethod (.ref a) m pl) Q E s := by
  obtain ⟨mA, O, r, _, _, _⟩ := ins_get I.hok e
  have hn : mA m = none := RelO.none_of (by rw [← l]; exact r m)
  exact get_meth I.kIn O (c.get m) k.at_ k.fn hn h

theorem setattr_ok {y : V} {u : Value} {Q : Unit → Shared → Prop} (I : Inv X pins σ H s) (e : H a = some (.ins C dx fs)) (c : Cls X.K C) (n : NoAttr X.K C f) (hl : fs.length < 1000) (ry : RelV y u)
    (h : ∀ s', Inv X pins σ (upd H a (.ins C dx (putF f y fs))) s' → Q () s') : wpAny (model X.prog X.w) A (setAttr (.ref a) f u) Q E s := by
  obtain ⟨mA, O, r, wi, _, ho⟩ := ins_get I.hok e
  have hz : (fs.map (·.1)).length ≤ sizeLine := by rw [List.length_map, sizeLine_eq]; omega
  refine set_map I.kIn O c.sa c.po n.taker c.hd wi hz fun h' O' sb => h _ ?_
  have hd : ∃ o, h'.get? dx = some o := let ⟨o, _, _, e', _⟩ := O'.ns; ⟨o, e'⟩
  refine I.write (x := a) (e := dx) (by rw [e]; exact True.intro) (.inr ho) (fun b q hb z => (sb.2 b hb).trans z) hd ?_
  refine ⟨by rw [upd_ne O.ne]; exact ho, ?_, O.ne, O'.obj, _, O'.ns, fun g => ?_, fun g hg => ?_⟩
  · have := length_putF f y fs; omega
  · show RelO ((putF f y fs).lookup g) (if g = f then some u else mA g)
    rw [lookup_putF]
    by_cases q : g = f
    · rw [if_pos q, if_pos q]; exact ry
    · rw [if_neg q, if_neg q]; exact r g
  · by_cases q : g = f
    · rw [q]; exact (keys_putF f y fs).1
    · refine (keys_putF f y fs).2 g (wi g fun z => hg ?_)
      show (if g = f then some u else mA g) = none
      rw [if_neg q]; exact z

/-- a new instance, tracked, without attributes -/
theorem Inv.made (I : Inv X pins σ H s) : Inv X pins σ (upd (upd H s.heap.objs.size (.own (s.heap.objs.size + 1))) (s.heap.objs.size + 1) (.ins C s.heap.objs.size []))
    { s with heap := (s.heap.push PySem.W.emptyDict).push (PySem.W.instObj C s.heap.objs.size) } := by
  have e1 : (s.heap.push PySem.W.emptyDict).get? s.heap.objs.size = some PySem.W.emptyDict := Heap.get?_push_size s.heap rfl
  have e2 : ((s.heap.push PySem.W.emptyDict).push (PySem.W.instObj C s.heap.objs.size)).get? (s.heap.objs.size + 1) = some (PySem.W.instObj C s.heap.objs.size) := by
    have := Heap.get?_push_size (s.heap.push PySem.W.emptyDict) (o := PySem.W.instObj C s.heap.objs.size) rfl
    rwa [Heap.size_push] at this
  have e3 : (s.heap.push PySem.W.emptyDict).Ns s.heap.objs.size (fun _ => none) := ⟨PySem.W.emptyDict, #[], _, e1, rfl, (fun e he => absurd he (by simp)), fun _ => rfl⟩
  have I1 := I.laid (a := s.heap.objs.size) (o := .own (s.heap.objs.size + 1)) (h' := s.heap.push PySem.W.emptyDict) (t' := s.toks) (fun b u q => Heap.get?_push_of_some _ q) (Nat.le_refl _) ⟨_, e1⟩
  refine I1.laid (a := s.heap.objs.size + 1) (o := .ins C s.heap.objs.size []) (t' := s.toks) (fun b u q => Heap.get?_push_of_some _ q) (Nat.le_of_eq (Heap.size_push _ _)) ?_
  have ne : s.heap.objs.size ≠ s.heap.objs.size + 1 := Nat.ne_of_lt (Nat.lt_succ_self _)
  refine ⟨by rw [upd_ne ne, upd_same], Nat.zero_le _, ne, e2, fun _ => none, (Heap.Ns1.of_empty e3).at fun o q => Heap.get?_push_of_some _ q, fun _ => True.intro, fun y hy => absurd rfl hy⟩

/-- e.f where nothing but the object is asked: through attributeBase (super) and the last hold -/
theorem attr_of {prog : Program} {w : World} {env : Env} {e : Expr} {f : Str} {pos : Pos} {s : Shared} {Q : Value → Shared → Prop} (hb : attributeBase e f env (eval e env) = eval e env)
    (h : wpAny (model prog w) A (eval e env) (fun o s₁ => wpAny (model prog w) A (getAttr o f true) Q E s₁) E s) : wpAny (model prog w) A (eval (.Attribute e f pos) env) Q E s :=
  Attribute_any_ h (by rw [arm_eval_Attribute, hb])
end

/-! ### readings and rules -/
/-- e.f, an attribute of the instance -/
def tFld (K : PySem.W.Frag) (ta : TE) (f : Str) : TE := fun σ H Q => ta σ H fun x H1 => ∃ a C dx fs v, x = .ref a ∧ H1 a = some (.ins C dx fs) ∧ Cls K C ∧ NoAttr K C f ∧ fs.lookup f = some v ∧ Q v H1
/-- e.f = value -/
def sFld (K : PySem.W.Frag) (ta tv : TE) (f : Str) : TS := fun D σ H => tv σ H fun y H1 => ta σ H1 fun x H2 => ∃ a C dx fs, x = .ref a ∧ H2 a = some (.ins C dx fs) ∧ Cls K C ∧ NoAttr K C f ∧ fs.length < 1000 ∧
  D.nx σ (upd H2 a (.ins C dx (putF f y fs)))
section
variable {X : Cx} {o e value : Expr} {f : Str} {pos pos' tpos : Pos} {ta tv : TE}
theorem pe_fld (he : PE X e ta) (hb : attributeBase e f X.env (eval e X.env) = eval e X.env) : PE X (.Attribute e f pos) (tFld X.K ta f) := by
  intro pins s σ H Q I h
  refine attr_of hb (thn (he pins s σ H _ I h) fun u s1 ⟨x, H1, I1, rx, a, C, dx, fs, v, ex, ea, c, n, l, q⟩ => ?_)
  subst ex
  obtain rfl : u = Value.ref a := rx
  exact getattr_ok I1 ea c n l fun u' s2 I2 ru => ⟨v, H1, I2, ru, q⟩
theorem ps_fld (ha : PE X o ta) (hv : PE X value tv) (hs : swapsWith value (some (.Attribute o f pos')) pos.line X.env = pure false) : PS X (.Assign [.Attribute o f pos'] value pos) (sFld X.K ta tv f) := by
  intro pins s σ H D I h
  refine plainObj_wpAny_Assign_Attribute (thn (hv pins s σ H _ I h) fun u s1 ⟨y, H1, I1, ry, q⟩ => thn (ha pins s1 σ H1 _ I1 q) fun ov s2 ⟨x, H2, I2, rx, a, C, dx, fs, ex, ea, c, n, l, q2⟩ => ?_) hs
  subst ex
  obtain rfl : ov = Value.ref a := rx
  exact setattr_ok I2 ea c n l ry fun s3 I3 => ⟨σ, _, I3, q2⟩
end

/-! ### isinstance -/
section
variable {X : Cx} {pins : List (Addr × Obj)} {σ : St} {H : Hp} {s : Shared} {A : Around} {E : Value → Shared → Prop} {Q : Value → Shared → Prop} {c : Value} {b : Bool}
/-- the type of a value, as the fragment's deciders take it; for an instance its class -/
inductive TyOf (K : PySem.W.Frag) (H : Hp) : V → Value → Prop where
  | non : TyOf K H .non (.type "NoneType")
  | bl (x : Bool) : TyOf K H (.bl x) (.type "bool")
  | int (i : Int) : TyOf K H (.int i) (.type "int")
  | str (x : Str) : TyOf K H (.str x) (.type "str")
  | flt (x : UInt64) : TyOf K H (.flt x) (.type "float")
  | lst {a : Addr} {xs : List V} (e : H a = some (.lst xs)) : TyOf K H (.ref a) (.type "list")
  | frz {a : Addr} {o : Obj} {xs : List V} (e : H a = some (.frz o (.lst xs))) : TyOf K H (.ref a) (.type "list")
  | tup {a : Addr} {xs : List V} (e : H a = some (.tup xs)) : TyOf K H (.ref a) (.type "tuple")
  | kt {a : Addr} {o : Obj} (e : K.lookup a = some o) (c : o.cls = .type "tuple") : TyOf K H (.ref a) (.type "tuple")
  | dK {a : Addr} {kvs : List (Key × V)} (e : H a = some (.dK kvs)) : TyOf K H (.ref a) (.type "dict")
  | dT {a : Addr} {kvs : List (List Key × V)} (e : H a = some (.dT kvs)) : TyOf K H (.ref a) (.type "dict")
  | ins {a C dx : Addr} {fs : List (Str × V)} (e : H a = some (.ins C dx fs)) (cl : Cls K C) (ha : PySem.W.findIn K (.ref C) "__class__" = some (some (.builtin "object.__class__")))
      (hn : PySem.W.specialIn K (.builtin "object.__class__") "__get__" = some (some (.builtin "getset_descriptor.__get__"))) (htk : PySem.W.takesIn K (.builtin "object.__class__") = some true)
      (hm : PySem.W.mroIn K C (.type "object") = some true) : TyOf K H (.ref a) (.ref C)
/-- isinstance(x, c) for one class c, a built-in or an own one: kitOne's answer -/
theorem isinst_ok {x : V} {u t : Value} (I : Inv X pins σ H s) (rx : RelV x u) (ty : TyOf X.K H x t) (e : PySem.W.kitOne X.K t c = some b) (h : ∀ tk, Q (.bool b) { s with toks := tk }) :
    wpAny (model X.prog X.w) A (call (.builtin "isinstance") [u, c]) Q E s := by
  cases ty with
  | non => cases (show u = Value.none from rx); exact PySem.W.kia_one PySem.W.kitx_none I.kIn True.intro e (fun z => nomatch z) h
  | bl y => cases (show u = Value.bool y from rx); exact PySem.W.kia_one PySem.W.kitx_bool I.kIn True.intro e (fun z => nomatch z) h
  | int i => obtain ⟨t, q⟩ := (show ∃ t, u = Value.int i t from rx); cases q; exact PySem.W.kia_one PySem.W.kitx_int I.kIn True.intro e (fun z => nomatch z) h
  | str y => obtain ⟨t, q⟩ := (show ∃ t, u = Value.str y t from rx); cases q; exact PySem.W.kia_one PySem.W.kitx_str I.kIn True.intro e (fun z => nomatch z) h
  | flt y => obtain ⟨t, q⟩ := (show ∃ t, u = Value.float y t from rx); cases q; exact PySem.W.kia_one PySem.W.kitx_float I.kIn True.intro e (fun z => nomatch z) h
  | @lst a xs ea =>
    cases (show u = Value.ref a from rx)
    obtain ⟨_, _, n, _, h1⟩ := (show ObjOk X.prog X.w H s.heap a (.lst xs) from I.hok a _ ea)
    exact PySem.W.kia_one PySem.W.kitx_list I.kIn ⟨_, h1, rfl⟩ e (fun z => nomatch z) h
  | @frz a ob xs ea =>
    cases (show u = Value.ref a from rx)
    obtain ⟨_, _, _, n, _, h1⟩ := (show ObjOk X.prog X.w H s.heap a (.frz ob (.lst xs)) from I.hok a _ ea)
    exact PySem.W.kia_one PySem.W.kitx_list I.kIn ⟨_, h1, rfl⟩ e (fun z => nomatch z) h
  | @tup a xs ea =>
    cases (show u = Value.ref a from rx)
    obtain ⟨_, _, _, p⟩ := (show ObjOk X.prog X.w H s.heap a (.tup xs) from I.hok a _ ea)
    obtain ⟨o, h1, h2, _⟩ := p
    exact PySem.W.kia_one PySem.W.kitx_tuple I.kIn ⟨o, h1, h2⟩ e (fun z => nomatch z) h
  | @kt a ob ek ck =>
    cases (show u = Value.ref a from rx)
    exact PySem.W.kia_one PySem.W.kitx_tuple I.kIn ⟨ob, I.kIn a ob ek, ck⟩ e (fun z => nomatch z) h
  | @dK a kvs ea =>
    cases (show u = Value.ref a from rx)
    obtain ⟨_, _, vs, _, p⟩ := (show ObjOk X.prog X.w H s.heap a (.dK kvs) from I.hok a _ ea)
    obtain ⟨o, es, ep, h1, h2, _⟩ := p
    exact PySem.W.kia_one PySem.W.kitx_dict I.kIn ⟨o, h1, h2.1⟩ e (fun z => nomatch z) h
  | @dT a kvs ea =>
    cases (show u = Value.ref a from rx)
    obtain ⟨_, _, xs, _, o, es, ep, h1, h2, _⟩ := (show ObjOk X.prog X.w H s.heap a (.dT kvs) from I.hok a _ ea)
    exact PySem.W.kia_one PySem.W.kitx_dict I.kIn ⟨o, h1, h2.1⟩ e (fun z => nomatch z) h
  | @ins a C dx fs ea cl ha hn htk hm =>
    cases (show u = Value.ref a from rx)
    obtain ⟨mA, O, _⟩ := ins_get I.hok ea
    obtain ⟨od, J, _⟩ := O.look
    exact PySem.W.kia_one (PySem.W.kitx_own (cl.get _) cl.hd ha hn htk hm) I.kIn J e (fun z => nomatch z) h
end
end L2

namespace L2
open PySem PySem.Spec PyProof.Rows

/-! ### room -/
structure Room (k : Nat) (A : Around) : Prop where
  hd : A.handled = none
  dp : A.depth + 3 * k + 5 < recursionLimit
  un : A.units + 16 * k + 200 < cLine
theorem Room.mono {j k : Nat} {A : Around} (r : Room k A) (h : j ≤ k) : Room j A := ⟨r.hd, by have := r.dp; omega, by have := r.un; omega⟩
theorem Room.deeper {k : Nat} {A : Around} (r : Room (k + 1) A) (env : Env) : Room k (A.deeper env) :=
  ⟨r.hd, by have := r.dp; show A.depth + 1 + 3 * k + 5 < _; omega, by have := r.un; show A.units + 3 + 16 * k + 200 < _; omega⟩
theorem Room.in1 {k : Nat} {A : Around} (r : Room (k + 1) A) : Room k A.in1 :=
  ⟨r.hd, by have := r.dp; show A.depth + 3 * k + 5 < _; omega, by have := r.un; show A.units + 1 + 16 * k + 200 < _; omega⟩
theorem make_depth {A : Around} {C : Addr} {us : List Value} {kw : List (Str × Value)} : (A.under (.builtin "type.__call__" ⟨.ref C :: us, kw⟩)).depth = A.depth + 1 := by
  first | rfl | simp [Around.under, Code.weight, Code.isCreation, Code.isGuard, Code.isCaller, Code.frames, Code.isFrame, guardIds]
theorem make_units {A : Around} {C : Addr} {us : List Value} {kw : List (Str × Value)} : (A.under (.builtin "type.__call__" ⟨.ref C :: us, kw⟩)).units = A.units + 1 := by
  first | rfl | simp [Around.under, Code.cUnits, Code.frames, Code.isFrame]
theorem Room.make {k : Nat} {A : Around} (r : Room (k + 1) A) (C : Addr) (us : List Value) (kw : List (Str × Value)) : Room k (A.under (.builtin "type.__call__" ⟨.ref C :: us, kw⟩)) :=
  ⟨r.hd, by have := r.dp; rw [make_depth]; omega, by have := r.un; rw [make_units]; omega⟩
theorem Room.depth {k : Nat} {A : Around} (r : Room k A) : A.depth < recursionLimit := by have := r.dp; omega
theorem Room.units {k : Nat} {A : Around} (r : Room k A) : A.units + 64 < cLine := by have := r.un; omega
/-! ### argument lists and displays -/
def tNil : TA := fun _ H Q => Q [] H
def tCons (ta : TE) (tr : TA) : TA := fun σ H Q => ta σ H fun x H1 => tr σ H1 fun xs H2 => Q (x :: xs) H2
section
variable {X : Cx} {e : Expr} {es : List Expr} {te : TE} {t : TA} {pos : Pos}
theorem pa_nil : PA X [] tNil := fun _ _ _ _ H Q I h => Calls.spliced_nil ⟨[], H, I, .nil, h⟩
theorem pa_cons (ha : PE X e te) (hr : PA X es t) (hs : starEach (e :: es) X.env = (false, eval e X.env) :: starEach es X.env := by rfl) : PA X (e :: es) (tCons te t) := by
  intro pos pins s σ H Q I h
  rw [hs]
  show wpAny _ _ (spliced ((false, eval e X.env) :: backTo pos (starEach es X.env))) _ _ s
  refine Calls.spliced_cons (thn (ha pins s σ H _ I h) fun u s1 ⟨x, H1, I1, r1, q1⟩ => ?_)
  exact thn (hr pos pins s1 σ H1 _ I1 q1) fun us s2 ⟨xs, H2, I2, r2, q2⟩ => ⟨x :: xs, H2, I2, .cons r1 r2, q2⟩

/-- a tuple, a list of written items -/
def tTup (t : TA) : TE := fun σ H Q => t σ H fun xs H1 => xs.length ≤ sizeLine ∧ ∀ p, H1 p = none → Q (.ref p) (upd H1 p (.tup xs))
def tLst (t : TA) : TE := fun σ H Q => t σ H fun xs H1 => xs.length ≤ sizeLine ∧ ∀ p, H1 p = none → Q (.ref p) (upd H1 p (.lst xs))
theorem pe_tup {x1} (h : PA X es t) : PE X (.Tuple es x1 pos) (tTup t) := by
  intro pins s σ H Q I hq
  refine wpAny_Tuple_spliced (thn (h pos pins s σ H _ I hq) fun us s1 ⟨xs, H1, I1, r, z, q⟩ => ⟨by rw [← r.length]; exact z, ?_⟩)
  have hf : H1 s1.heap.objs.size = none := I1.hok.fresh (Nat.le_refl _)
  refine ⟨.ref s1.heap.objs.size, upd H1 s1.heap.objs.size (.tup xs), I1.laid (t' := s1.toks) (fun b u e => Heap.get?_push_of_some _ e) (Nat.le_refl _) ?_, rfl, q _ hf⟩
  exact ⟨z, us, r, ⟨_, Heap.get?_push_size _ rfl, rfl, _, rfl⟩⟩
theorem pe_lst (h : PA X es t) : PE X (.List es pos) (tLst t) := by
  intro pins s σ H Q I hq
  refine wpAny_List_spliced (thn (h pos pins s σ H _ I hq) fun us s1 ⟨xs, H1, I1, r, z, q⟩ => ⟨by rw [← r.length]; exact z, ?_⟩)
  have hf : H1 s1.heap.objs.size = none := I1.hok.fresh (Nat.le_refl _)
  refine ⟨.ref s1.heap.objs.size, upd H1 s1.heap.objs.size (.lst xs), I1.laid (t' := s1.toks) (fun b u e => Heap.get?_push_of_some _ e) (Nat.le_refl _) ?_, rfl, q _ hf⟩
  exact ⟨z, us, 0, r, Heap.get?_push_size _ rfl⟩
end

/-! ### what a def promises -/
/-- a def's promise: the bound arguments in the parameters' order, the heap, the wanted end, the wanted exception -/
abbrev Sp := List V → Hp → VK → XK → Prop
/-- how an exception lies behind a call (file 08 gives it): the callers' frames, abstract heap and state ahead of the call, the wish, the exception, the state -/
abbrev CXT := List Env → Hp → Shared → XK → Value → Shared → Prop

/-- the state at a call -/
structure Env0 (P : Program) (w : World) (K : PySem.W.Frag) (mg : Str → Option Value) (base : Heap) (A : Around) (outer : List Env) (s : Shared) (H : Hp) : Prop where
  frames : A.frames = some outer
  mod : Mod K mg base
  bs : ∀ b o, base.get? b = some o → s.heap.get? b = some o ∧ H b = none
  bsz : base.objs.size ≤ s.heap.objs.size
  funs : s.heap.FunFrames base outer
  frf : ∀ b ∈ frs outer, H b = none
  hok : HOk P w H s.heap
  bare : AllBare s.gens
/-- a call's end -/
def CE (outer : List Env) (P : Program) (w : World) (H : Hp) (s : Shared) (Q : VK) (u : Value) (s' : Shared) : Prop :=
  ∃ v H', s'.os = s.os ∧ AllBare s'.gens ∧ Un (frs outer) [] H H' s.heap s'.heap ∧ HOk P w H' s'.heap ∧ RelV v u ∧ Q v H'
def CR (CX : CXT) (outer : List Env) (P : Program) (w : World) (H : Hp) (s : Shared) (Q : VK) (E : XK) (r : Result) (s' : Shared) : Prop :=
  match r with
  | .ok (.ret u) => CE outer P w H s Q u s'
  | .ok _ => False
  | .error e => CX outer H s E e s'
structure FnOk (P : Program) (w : World) (K : PySem.W.Frag) (mg : Str → Option Value) (base : Heap) (CX : CXT) (k : Nat) (f : Addr) (fd : FuncData) (ps : List Str) (sp : Sp) : Prop where
  len : ∀ vs H Q E, sp vs H Q E → vs.length = ps.length
  run : ∀ (A : Around) (outer : List Env) (s : Shared) (H : Hp) (args : Args) (us : List Value) (vs : List V) (Q : VK) (E : XK), Room k A → Env0 P w K mg base A outer s H → BindsTo s fd args (ps.zip us) → Vals vs us → sp vs H Q E →
    codeAny (model P w) A (.call (.ref f) args) (CR CX outer P w H s Q E) s
theorem FnOk.mono {P : Program} {w : World} {K : PySem.W.Frag} {mg : Str → Option Value} {base : Heap} {CX : CXT} {j k : Nat} {f : Addr} {fd : FuncData} {ps : List Str} {sp : Sp} (F : FnOk P w K mg base CX j f fd ps sp) (h : j ≤ k) :
    FnOk P w K mg base CX k f fd ps sp := ⟨F.len, fun A outer s H args us vs Q E hr => F.run A outer s H args us vs Q E (hr.mono h)⟩
/-- a weaker promise -/
theorem FnOk.imp {P : Program} {w : World} {K : PySem.W.Frag} {mg : Str → Option Value} {base : Heap} {CX : CXT} {k : Nat} {f : Addr} {fd : FuncData} {ps : List Str} {sp sp' : Sp} (F : FnOk P w K mg base CX k f fd ps sp)
    (h : ∀ vs H Q E, sp' vs H Q E → sp vs H Q E) : FnOk P w K mg base CX k f fd ps sp' :=
  ⟨fun vs H Q E q => F.len vs H Q E (h _ _ _ _ q), fun A outer s H args us vs Q E hr he hb hv hs => F.run A outer s H args us vs Q E hr he hb hv (h _ _ _ _ hs)⟩

theorem Env0.make {P : Program} {w : World} {K : PySem.W.Frag} {mg : Str → Option Value} {base : Heap} {A : Around} {outer : List Env} {s : Shared} {H : Hp} (e : Env0 P w K mg base A outer s H) (C : Addr) (us : List Value) (kw : List (Str × Value)) :
    Env0 P w K mg base (A.under (.builtin "type.__call__" ⟨.ref C :: us, kw⟩)) outer s H := ⟨by first | exact e.frames | (simpa [Around.under, Code.envs, Code.isFrame, pushEnvs] using e.frames), e.mod, e.bs, e.bsz, e.funs, e.frf, e.hok, e.bare⟩
theorem Env0.in1 {P : Program} {w : World} {K : PySem.W.Frag} {mg : Str → Option Value} {base : Heap} {A : Around} {outer : List Env} {s : Shared} {H : Hp} (e : Env0 P w K mg base A outer s H) :
    Env0 P w K mg base A.in1 outer s H := ⟨e.frames, e.mod, e.bs, e.bsz, e.funs, e.frf, e.hok, e.bare⟩

section
variable {X : Cx} {pins : List (Addr × Obj)} {σ : St} {H : Hp} {s s' : Shared}
/-- from a body: what a callee wants -/
theorem Inv.env0 (I : Inv X pins σ H s) : Env0 X.prog X.w X.K X.mg X.base X.A X.stack s H :=
  ⟨I.ok.frames, I.ok.mod, I.bs, Nat.le_trans I.ok.bsz I.sz, I.stack, I.stkFree, I.hok, I.bare⟩
/-- behind a call -/
theorem Inv.after {Q : VK} {u : Value} (I : Inv X pins σ H s) (h : CE X.stack X.prog X.w H s Q u s') : EP X pins σ Q u s' := by
  obtain ⟨v, H', os, bare, un, hok, r, q⟩ := h
  obtain ⟨hh, g, d, t, os'⟩ := s'
  obtain rfl : os' = s.os := os
  exact ⟨v, H', I.call (h' := hh) (g' := g) (d' := d) (t' := t) (ch := []) un hok bare (fun b z => absurd z (by simp)), r, q⟩
end

/-! ### calls -/
/-- f(..): the written arguments, then the defaults dvs; E: what is wanted of an exception -/
def tCall (sp : Sp) (dvs : List V) (E : XK) (t : TA) : TE := fun σ H Q => t σ H fun vs H1 => sp (vs ++ dvs) H1 Q E
/-- o.m(..) of an instance of the class at C -/
def tMeth (C : Addr) (m : Str) (sp : Sp) (dvs : List V) (E : XK) (ta : TE) (t : TA) : TE := fun σ H Q => ta σ H fun x H1 => ∃ a dx fs, x = .ref a ∧ H1 a = some (.ins C dx fs) ∧ fs.lookup m = none ∧
  t σ H1 fun vs H2 => sp (x :: (vs ++ dvs)) H2 Q E
/-- C(..): a new instance and its dict, then __init__ -/
def tMake (C : Addr) (sp : Sp) (dvs : List V) (E : XK) (t : TA) : TE := fun σ H Q => t σ H fun vs H1 => ∀ x dx, H1 x = none → H1 dx = none → dx ≠ x →
  sp (.ref x :: (vs ++ dvs)) (upd (upd H1 dx (.own x)) x (.ins C dx [])) (fun v H2 => v = .non ∧ Q (.ref x) H2) E

/-- how the parameters are bound: us the positional arguments, kw the keywords' values by name, ds the defaults that fill up -/
def Binds (K : PySem.W.Frag) (fd : FuncData) (ps : List Str) (ds : List Value) : Prop :=
  ∀ (s : Shared) (us : List Value), K.In s.heap → (us ++ ds).length = ps.length → BindsTo s fd ⟨us, []⟩ (ps.zip (us ++ ds))
/-- every parameter is given -/
theorem Binds.all {K : PySem.W.Frag} {fd : FuncData} {ps : List Str} (h : ∀ us : List Value, us.length = ps.length → bindArgs fd ⟨us, []⟩ = pure (ps.zip us)) : Binds K fd ps [] := fun s us _ hl => by
  rw [List.append_nil] at hl ⊢
  exact .of_eq (h us hl)

/-- an exception of a callee reaches what this body wants of exceptions -/
def Passes (CX : CXT) (X : Cx) (E : XK) : Prop := ∀ (pins : List (Addr × Obj)) (σ : St) (H : Hp) (s : Shared) (e : Value) (s' : Shared), Inv X pins σ H s → CX X.stack H s E e s' → X.xe e s'

section
variable {X : Cx} {CX : CXT} {k : Nat} {f C : Addr} {fd : FuncData} {ps : List Str} {sp : Sp} {dvs : List V} {ds : List Value} {E : XK} {x m : Str} {p pos apos : Pos} {e o : Expr} {es : List Expr} {ta : TE} {t : TA}

/-- the callee runs -/
theorem run_fn {pins : List (Addr × Obj)} {σ : St} {H : Hp} {s : Shared} {Q : VK} {us : List Value} {vs : List V} (F : FnOk X.prog X.w X.K X.mg X.base CX k f fd ps sp) (hr : Room k X.A) (hb : Binds X.K fd ps ds) (hd : Vals dvs ds) (hx : Passes CX X E)
    (I : Inv X pins σ H s) (r : Vals vs us) (h : sp (vs ++ dvs) H Q E) : wpAny (model X.prog X.w) X.A (call (.ref f) us) (EP X pins σ Q) X.xe s := by
  have r2 : Vals (vs ++ dvs) (us ++ ds) := r.append hd
  have hl : (us ++ ds).length = ps.length := by rw [← r2.length]; exact F.len _ _ _ _ h
  refine wpAny_call (codeAny_mono (F.run X.A X.stack s H ⟨us, []⟩ (us ++ ds) (vs ++ dvs) Q E hr I.env0 (hb s us I.kIn hl) r2 h) fun r s' hq => ?_)
  cases r with
  | error e => exact hx pins σ H s e s' I hq
  | ok fl =>
    cases fl with
    | ret u => exact I.after hq
    | next => exact False.elim hq
    | brk => exact False.elim hq
    | cont => exact False.elim hq

theorem pe_call (F : FnOk X.prog X.w X.K X.mg X.base CX k f fd ps sp) (hr : Room k X.A) (hg : Gl X x) (hm : X.mg x = some (.ref f)) (hk : PySem.W.keepIn X.K (.ref f) = true) (hb : Binds X.K fd ps ds) (hd : Vals dvs ds) (hx : Passes CX X E)
    (ha : PA X (e :: es) t) (hdb : (x == ("__debug__" : Str)) = false := by decide) (he : starEach (e :: es) X.env = (false, eval e X.env) :: starEach es X.env := by rfl) (hpl : (backTo pos (starEach es X.env)).any (·.1) = false := by rfl) :
    PE X (.Call (.Name x p) (e :: es) [] pos) (tCall sp dvs E t) := by
  intro pins s σ H Q I h
  refine wpAny_Call_Name_kw (ld_glob I hg hm ?_ hdb)
  refine PySem.W.callWith_K (h₀ := X.base) I.ok.mod.kin hk (thn (ha pos pins s σ H _ I h) fun us s1 ⟨vs, H1, I1, r, q⟩ => ⟨I1.kIn, ?_⟩) he hpl
  exact run_fn F hr hb hd hx I1 r q
/-- o.m(e, ..) -/
theorem pe_meth {pl : Sem Bool} (he : PE X o ta) (c : Cls X.K C) (hm : Meth X.K C m f) (F : FnOk X.prog X.w X.K X.mg X.base CX k f fd ps sp) (hr : Room k X.A) (hb : Binds X.K fd ps ds) (hd : Vals dvs ds) (hx : Passes CX X E) (ha : PA X (e :: es) t)
    (hst : starEach (e :: es) X.env = (false, eval e X.env) :: starEach es X.env := by rfl) (hpl : (backTo pos (starEach es X.env)).any (·.1) = false := by rfl)
    (ht : eval (.Call (.Attribute o m apos) (e :: es) [] pos) X.env = (do
      let ov ← eval o X.env
      standAt apos.atName
      let (f, first) ← holding [ov] (getMethod ov m pl)
      callWith pos f first (backTo pos (starEach (e :: es) X.env)) (backToKw pos (keywordEach [] X.env))) := by rfl) :
    PE X (.Call (.Attribute o m apos) (e :: es) [] pos) (tMeth C m sp dvs E ta t) := by
  intro pins s σ H Q I h
  refine PySem.W.methodCall_KW (pl := pl) (thn (he pins s σ H _ I h) fun u s1 ⟨x, H1, I1, rx, a, dx, fs, ex, ea, l, q⟩ => ?_) ht
  subst ex
  obtain rfl : u = Value.ref a := rx
  refine getmeth_ok I1 ea c hm l ?_
  refine PySem.W.callWith_K (first := [.ref a]) (h₀ := X.base) I.ok.mod.kin hm.kp (thn (ha pos pins s1 σ H1 _ I1 q) fun us s2 ⟨vs, H2, I2, r, q2⟩ => ⟨I2.kIn, ?_⟩) hst hpl
  exact run_fn (us := .ref a :: us) (vs := .ref a :: vs) F hr hb hd hx I2 (.cons rfl r) q2
/-- o.m() -/
theorem pe_meth0 {pl : Sem Bool} (he : PE X o ta) (c : Cls X.K C) (hm : Meth X.K C m f) (F : FnOk X.prog X.w X.K X.mg X.base CX k f fd ps sp) (hr : Room k X.A) (hb : Binds X.K fd ps ds) (hd : Vals dvs ds) (hx : Passes CX X E)
    (ht : eval (.Call (.Attribute o m apos) [] [] pos) X.env = (do
      let ov ← eval o X.env
      standAt apos.atName
      let (f, first) ← holding [ov] (getMethod ov m pl)
      callWith pos f first (backTo pos (starEach [] X.env)) (backToKw pos (keywordEach [] X.env))) := by rfl) :
    PE X (.Call (.Attribute o m apos) [] [] pos) (tMeth C m sp dvs E ta tNil) := by
  intro pins s σ H Q I h
  refine PySem.W.methodCall_KW (pl := pl) (thn (he pins s σ H _ I h) fun u s1 ⟨x, H1, I1, rx, a, dx, fs, ex, ea, l, q⟩ => ?_) ht
  subst ex
  obtain rfl : u = Value.ref a := rx
  refine getmeth_ok I1 ea c hm l ?_
  exact PySem.W.callWith_K0 (first := [.ref a]) I1.kIn hm.kp (run_fn (us := [.ref a]) (vs := [.ref a]) F hr hb hd hx I1 (.cons rfl .nil) q)

/-- what a class must have to be made -/
structure Mk (K : PySem.W.Frag) (C f : Addr) : Prop where
  makes : PySem.W.makesIn K C = true
  init : PySem.W.findIn K (.ref C) "__init__" = some (some (.ref f))
  fn : PySem.W.isFn K (.ref f) = true
  kp : PySem.W.keepIn K (.ref C) = true

theorem run_make {pins : List (Addr × Obj)} {σ : St} {H : Hp} {s : Shared} {Q : VK} {us : List Value} {vs : List V} (M : Mk X.K C f) (F : FnOk X.prog X.w X.K X.mg X.base CX k f fd ps sp) (hr : Room (k + 1) X.A) (hb : Binds X.K fd ps ds) (hd : Vals dvs ds)
    (hx : Passes CX X E) (I : Inv X pins σ H s) (r : Vals vs us)
    (h : ∀ x dx, H x = none → H dx = none → dx ≠ x → sp (.ref x :: (vs ++ dvs)) (upd (upd H dx (.own x)) x (.ins C dx [])) (fun v H2 => v = .non ∧ Q (.ref x) H2) E) :
    wpAny (model X.prog X.w) X.A (call (.ref C) us) (EP X pins σ Q) X.xe s := by
  have hq := h (s.heap.objs.size + 1) s.heap.objs.size (I.hok.fresh (Nat.le_succ _)) (I.hok.fresh (Nat.le_refl _)) (Nat.ne_of_lt (Nat.lt_succ_self _))
  have I2 := Inv.made (C := C) I
  have r2 : Vals (V.ref (s.heap.objs.size + 1) :: (vs ++ dvs)) (Value.ref (s.heap.objs.size + 1) :: (us ++ ds)) := .cons rfl (r.append hd)
  have hl : (Value.ref (s.heap.objs.size + 1) :: us ++ ds).length = ps.length := by
    have e := r2.length
    rw [F.len _ _ _ _ hq] at e
    exact e.symm
  refine wpAny_call (make_map (f := f) I.kIn M.makes M.init (beq_iff_eq.mp M.fn) (codeAny_mono (F.run _ X.stack _ _ ⟨Value.ref (s.heap.objs.size + 1) :: us, []⟩ (Value.ref (s.heap.objs.size + 1) :: (us ++ ds)) _ _ E (hr.make C us [])
    (I2.env0.make C us []) (hb _ (Value.ref (s.heap.objs.size + 1) :: us) I2.kIn hl) r2 hq) fun r s' hq' => ?_))
  cases r with
  | error e => exact hx pins σ _ _ e s' I2 hq'
  | ok fl =>
    cases fl with
    | ret u =>
      obtain ⟨v, H', I3, rv, ev, q3⟩ := I2.after hq'
      subst ev
      exact ⟨rv, ⟨V.ref (s.heap.objs.size + 1), H', I3, rfl, q3⟩⟩
    | next => exact False.elim hq'
    | brk => exact False.elim hq'
    | cont => exact False.elim hq'
theorem pe_make0 (M : Mk X.K C f) (F : FnOk X.prog X.w X.K X.mg X.base CX k f fd ps sp) (hr : Room (k + 1) X.A) (hg : Gl X x) (hm : X.mg x = some (.ref C)) (hb : Binds X.K fd ps ds) (hd : Vals dvs ds) (hx : Passes CX X E)
    (hdb : (x == ("__debug__" : Str)) = false := by decide) : PE X (.Call (.Name x p) [] [] pos) (tMake C sp dvs E tNil) := by
  intro pins s σ H Q I h
  refine wpAny_Call_Name_kw (ld_glob I hg hm ?_ hdb)
  exact PySem.W.callWith_K0 I.kIn M.kp (run_make (us := []) M F hr hb hd hx I .nil h)
end

/-! ### keywords -/
section
variable {X : Cx} {CX : CXT} {k : Nat} {f C : Addr} {fd : FuncData} {ps ks : List Str} {sp : Sp} {E : XK} {x m : Str} {p pos apos kpos : Pos} {e o : Expr} {es : List Expr} {kws : List Keyword} {te ta : TE} {t tk : TA} {nm : Option Str}
variable {g : List Value → List Value → List Value} {gV : List V → List V → List V}
end

/-! ### a def's body keeps its promise -/
/-- names: the parameters first -/
structure FnScope (N P : List Str) (sc : Scope) : Prop where
  kind : sc.kind = .function
  co : sc.isCoroutine = false
  gen : sc.isGenerator = false
  nd : N.Nodup
  pre : N.take P.length = P
  par : ∀ x ∈ P, sc.names.lookup x = some .local ∨ sc.names.lookup x = some .cell
  nofree : ∀ y ∈ sc.names, y.2 ≠ .free

theorem bindL_out {kindOf : Str → Option NameKind} {x : Str} : ∀ {binds : List (Str × Value)} {m : Str → Option Value}, (∀ v, (x, v) ∉ binds) → bindL kindOf binds m x = m x
  | [], _, _ => rfl
  | (n, v) :: r, m, h => by
    unfold bindL
    rw [bindL_out fun w hw => h w (List.mem_cons_of_mem _ hw)]
    split
    · have : x ≠ n := by rintro rfl; exact h v List.mem_cons_self
      simp [this]
    · rfl
theorem bindC_out {kindOf : Str → Option NameKind} {x : Str} : ∀ {binds : List (Str × Value)} {m : Str → Option Value}, (∀ v, (x, v) ∉ binds) → bindC kindOf binds m x = m x
  | [], _, _ => rfl
  | (n, v) :: r, m, h => by
    unfold bindC
    rw [bindC_out fun w hw => h w (List.mem_cons_of_mem _ hw)]
    split
    · rfl
    · have : x ≠ n := by rintro rfl; exact h v List.mem_cons_self
      simp [this]
theorem bindL_get {kindOf : Str → Option NameKind} {x : Str} {v : Value} : ∀ {P : List Str} {vs : List Value} {i : Nat} {m : Str → Option Value}, P.Nodup → P[i]? = some x → vs[i]? = some v → kindOf x = some .local →
    bindL kindOf (P.zip vs) m x = some v
  | [], _, _, _, _, h, _, _ => by simp at h
  | _ :: _, [], _, _, _, _, h, _ => by simp at h
  | p :: P, w :: vs, 0, m, nd, h1, h2, hk => by
    simp at h1 h2; subst h1; subst h2
    show bindL kindOf ((p, w) :: P.zip vs) m p = _
    unfold bindL
    rw [bindL_out fun v hv => (List.nodup_cons.mp nd).1 (List.of_mem_zip hv).1, if_pos hk]
    simp
  | p :: P, w :: vs, i + 1, m, nd, h1, h2, hk => by
    show bindL kindOf ((p, w) :: P.zip vs) m x = _
    unfold bindL
    exact bindL_get (i := i) (List.nodup_cons.mp nd).2 (by simpa using h1) (by simpa using h2) hk
theorem bindC_get {kindOf : Str → Option NameKind} {x : Str} {v : Value} : ∀ {P : List Str} {vs : List Value} {i : Nat} {m : Str → Option Value}, P.Nodup → P[i]? = some x → vs[i]? = some v → kindOf x ≠ some .local →
    bindC kindOf (P.zip vs) m x = some v
  | [], _, _, _, _, h, _, _ => by simp at h
  | _ :: _, [], _, _, _, _, h, _ => by simp at h
  | p :: P, w :: vs, 0, m, nd, h1, h2, hk => by
    simp at h1 h2; subst h1; subst h2
    show bindC kindOf ((p, w) :: P.zip vs) m p = _
    unfold bindC
    rw [bindC_out fun v hv => (List.nodup_cons.mp nd).1 (List.of_mem_zip hv).1, if_neg hk]
    simp
  | p :: P, w :: vs, i + 1, m, nd, h1, h2, hk => by
    show bindC kindOf ((p, w) :: P.zip vs) m x = _
    unfold bindC
    exact bindC_get (i := i) (List.nodup_cons.mp nd).2 (by simpa using h1) (by simpa using h2) hk

/-- the names' values at the entry -/
def start (N : List Str) (vs : List V) : St := vs.map some ++ List.replicate (N.length - vs.length) none

/-- the context of a def's body, at its entry; an exception leaves the frame, then lies as CX says -/
def cxOf (CX : CXT) (P : Program) (w : World) (K : PySem.W.Frag) (mg : Str → Option Value) (base : Heap) (N : List Str) (qual : Str) (scope : Scope) (f : Addr) (cd : Value) (A : Around) (outer : List Env) (s : Shared) (H : Hp) (E : XK) : Cx where
  prog := P
  w := w
  K := K
  mg := mg
  base := base
  A := A.deeper (envOfC qual scope s.heap.objs.size f cd)
  N := N
  s₀ := s
  H₀ := H
  env := envOfC qual scope s.heap.objs.size f cd
  outer := outer
  stack := envOfC qual scope s.heap.objs.size f cd :: outer
  ex := []
  calm := true
  fn := fun _ => true
  pn := []
  xe := fun e s' => wpAny (model P w) (A.deeper (envOfC qual scope s.heap.objs.size f cd)) (leaving (envOfC qual scope s.heap.objs.size f cd) e) (fun _ s'' => CX outer H s E e s'') (fun e' s'' => CX outer H s E e' s'') s'

theorem cell_has {sc : Scope} {n : Nat} {x : Str} (h : sc.names.lookup x = some .cell) : ∃ c, (cellsFrom n sc.names []).lookup x = some c := by
  have q := PySem.W.cellsFrom_some sc.names n [] (.inl h)
  exact Option.isSome_iff_exists.mp q

theorem inv_start {CX : CXT} {P : Program} {w : World} {K : PySem.W.Frag} {mg : Str → Option Value} {base : Heap} {N ps : List Str} {qual : Str} {scope : Scope} {f : Addr} {cd : Value} {A : Around} {outer : List Env} {s s1 : Shared} {H : Hp} {E : XK} {us : List Value} {vs : List V}
    (S : FnScope N ps scope) (hd : A.handled = none) (e0 : Env0 P w K mg base A outer s H) (hl : vs.length = ps.length) (r : Vals vs us)
    (x : InCallC s s.heap.objs.size (bindL (envOfC qual scope s.heap.objs.size f cd).kindOf (ps.zip us) fun _ => none) (cellsFrom (s.heap.objs.size + 1) scope.names []) (bindC (envOfC qual scope s.heap.objs.size f cd).kindOf (ps.zip us) fun _ => none) s1) :
    Inv (cxOf CX P w K mg base N qual scope f cd A outer s H E) [] (start N vs) H s1 := by
  have hpl : ps.length ≤ N.length := by have := congrArg List.length S.pre; rw [List.length_take] at this; omega
  obtain ⟨h1, tk, rfl, hk⟩ := x.done
  have noA : ∀ b : Addr, b ∉ (cxOf CX P w K mg base N qual scope f cd A outer s H E).ex := fun b z => absurd (show b ∈ ([] : List Addr) from z) (by simp)
  refine ⟨⟨e0.mod, S.kind, rfl, rfl, Nat.le_refl _, fun y z c h1 h2 => ?_, fun y hy => ?_, fun y c _ h => ?_, fun _ => hd, Around.frames_deeper e0.frames, .inr ⟨rfl, rfl⟩, fun b z => absurd z (noA b), e0.bs, e0.bsz, fun b _ _ => noA b, fun b z => absurd z (noA b), e0.funs, e0.frf⟩,
    rfl, e0.bare, Un.kept hk, ⟨_, x.toInCall.ns, fun i y v h1 h2 h3 => ?_⟩, fun y c h => ⟨_, x.cell y c h⟩, e0.hok.fresh (Nat.le_refl _), fun y c h => ?_, fun p hp => absurd (show p ∈ ([] : List (Addr × Obj)) from hp) (by simp), e0.hok.kept hk, ?_⟩
  · exact name_of_addr x.apart (PySem.mem_of_lookup h1) (PySem.mem_of_lookup h2)
  · have hy : scope.names.lookup y = some .cell ∨ scope.names.lookup y = some .free := hy
    rcases hy with hy | hy
    · exact cell_has hy
    · exact absurd rfl (S.nofree _ (PySem.mem_of_lookup hy))
  · exact Nat.le_of_lt (x.above y c (PySem.mem_of_lookup h))
  · have hi : i < vs.length := by
      unfold start at h2
      by_cases hi : i < vs.length
      · exact hi
      · rw [List.getElem?_append_right (by simpa using hi)] at h2
        rw [List.getElem?_replicate] at h2
        split at h2 <;> cases h2
    have ha : vs[i]? = some v := by
      unfold start at h2
      rw [List.getElem?_append_left (by simpa using hi), List.getElem?_map] at h2
      cases e : vs[i]? with
      | none => rw [e] at h2; cases h2
      | some a => rw [e] at h2; cases h2; rfl
    obtain ⟨u, hu, rv⟩ := r.get ha
    have hp : ps[i]? = some y := by
      rw [← S.pre, List.getElem?_take_of_lt (by omega)]; exact h1
    have ndP : ps.Nodup := by rw [← S.pre]; exact S.nd.sublist (List.take_sublist _ _)
    refine ⟨u, rv, ?_⟩
    rcases S.par y (List.mem_of_getElem? hp) with k | k
    · exact .inl ⟨k, bindL_get ndP hp hu k⟩
    · obtain ⟨c, e⟩ := cell_has (n := s.heap.objs.size + 1) k
      refine .inr ⟨.inl k, c, e, ?_⟩
      have q := x.cell y c e
      rw [bindC_get ndP hp hu (by show scope.names.lookup y ≠ _; rw [k]; decide)] at q
      exact q
  · exact e0.hok.fresh (Nat.le_of_lt (x.above y c (PySem.mem_of_lookup h)))
  · unfold start
    show _ = N.length
    rw [List.length_append, List.length_map, List.length_replicate]
    omega

/-- THE RULE: a def (or a method) of the text, by its body. The body's reading t is chosen for each entry; it is run at the parameters' values -/
theorem fn_of {CX : CXT} {P : Program} {w : World} {K : PySem.W.Frag} {mg : Str → Option Value} {base : Heap} {k : Nat} {f : Addr} {name qual : Str} {params : Arguments} {body : List Stmt} {scope : Scope} {dV kV doc pm cdv ct oc : Value} {an od : Option Addr}
    {osl : Array (Option Value)} {N ps : List Str} {sp : Sp} (lk : K.lookup f = some ⟨oc, od, .func (PySem.W.fnOf name qual params body scope dV kV doc pm an cdv ct), osl⟩) (hcd : PySem.W.codeIn K cdv qual = true) (S : FnScope N ps scope)
    (len : ∀ vs H Q E, sp vs H Q E → vs.length = ps.length)
    (hbody : ∀ (A : Around) (outer : List Env) (s : Shared) (H : Hp) (vs : List V) (Q : VK) (E : XK), Room k (A.deeper (envOfC qual scope s.heap.objs.size f cdv)) → sp vs H Q E →
      ∃ t, PSs (cxOf CX P w K mg base N qual scope f cdv A outer s H E) body t ∧ t { nx := fun _ H' => Q .non H', rt := Q } (start N vs) H) :
    FnOk P w K mg base CX (k + 1) f (PySem.W.fnOf name qual params body scope dV kV doc pm an cdv ct) ps sp := by
  refine ⟨len, fun A outer s H args us vs Q E hr e0 hb r hsp => ?_⟩
  have hl := len _ _ _ _ hsp
  have KX : K.In s.heap := e0.mod.kin.keeps fun b o e => (e0.bs b o e).1
  have lim : s.heap.NoLimit := e0.mod.nolimit.keeps fun b o e => (e0.bs b o e).1
  have hkind : ∀ y ∈ ps.zip us, scope.names.lookup y.1 = some .local ∨ (scope.names.lookup y.1 = some .cell ∧ ((cellsFrom (s.heap.objs.size + 1) scope.names []).lookup y.1).isSome = true) := fun ⟨n, v⟩ hy => by
    rcases S.par n (List.of_mem_zip hy).1 with q | q
    · exact .inl q
    · exact .inr ⟨q, PySem.W.cellsFrom_some _ _ _ (.inl q)⟩
  refine codeAny_call_function hr.depth (KX _ _ lk) rfl S.co S.gen rfl (PySem.W.codeRec_of KX hcd) (hb _ _ _ _ ?_)
  refine wpAny_newFunctionEnv_cells S.kind hkind fun env he s1 x => ?_
  subst he
  refine ⟨lim.keeps x.toInCall.keep, codeAny_func ?_⟩
  obtain ⟨t, ht, hq⟩ := hbody A outer s H vs Q E (hr.deeper _) hsp
  have I : Inv (cxOf CX P w K mg base N qual scope f cdv A outer s H E) [] (start N vs) H s1 := inv_start S hr.hd e0 hl r x
  refine wpAny_mono (ht [] s1 (start N vs) H _ I hq) (fun fl s' hs => ?_) fun e s' hs => hs
  have fin : ∀ {σ' : St} {H' : Hp} {v : V} {u : Value}, Inv (cxOf CX P w K mg base N qual scope f cdv A outer s H E) [] σ' H' s' → RelV v u → Q v H' → CE outer P w H s Q u s' :=
    fun {σ' H' v u} J rv q => ⟨v, H', J.os, J.bare, J.base, J.hok, rv, q⟩
  cases fl with
  | ret u =>
    obtain ⟨v, σ', H', J, rv, q⟩ := hs
    exact fin J rv q
  | next =>
    obtain ⟨σ', H', J, q⟩ := hs
    exact fin (v := V.non) (u := Value.none) J rfl q
  | brk =>
    obtain ⟨_, _, _, q⟩ := hs
    exact False.elim q
  | cont =>
    obtain ⟨_, _, _, q⟩ := hs
    exact False.elim q
end L2

namespace L2
open PySem PySem.Spec PyProof.Rows
section
variable {X : Cx} {x : Str} {p pos : Pos} {e : Expr} {es : List Expr} {t : TA} {id T : String} {r : List V → Hp → VK → Prop}

def tCB (r : List V → Hp → VK → Prop) (t : TA) : TE := fun σ H Q => t σ H fun vs H1 => r vs H1 Q
/-- f(e, ..), f a built-in function -/
theorem pe_callB (hc : CallR X (.builtin id) r) (hg : Gl X x) (hm : X.mg x = none) (hv : bootBuiltins x = some (.builtin id)) (ha : PA X (e :: es) t) (hn : x ≠ "__name__" := by decide) (hdb : (x == ("__debug__" : Str)) = false := by decide)
    (he : starEach (e :: es) X.env = (false, eval e X.env) :: starEach es X.env := by rfl) (hpl : (backTo pos (starEach es X.env)).any (·.1) = false := by rfl) : PE X (.Call (.Name x p) (e :: es) [] pos) (tCB r t) := by
  intro pins s σ H Q I h
  refine wpAny_Call_Name_kw (ld_blt I hg hm hv ?_ hn hdb)
  exact PyProof.Rows.callWith_builtin1 (thn (ha pos pins s σ H _ I h) fun us s1 ⟨vs, H1, I1, r1, q1⟩ => hc pins s1 σ H1 vs us Q I1 r1 q1) he hpl
/-- T(e, ..), T a built-in type -/
theorem pe_callTy (hc : CallR X (.type T) r) (hg : Gl X x) (hm : X.mg x = none) (hv : bootBuiltins x = some (.type T)) (ha : PA X (e :: es) t) (hn : x ≠ "__name__" := by decide) (hdb : (x == ("__debug__" : Str)) = false := by decide)
    (he : starEach (e :: es) X.env = (false, eval e X.env) :: starEach es X.env := by rfl) (hpl : (backTo pos (starEach es X.env)).any (·.1) = false := by rfl) : PE X (.Call (.Name x p) (e :: es) [] pos) (tCB r t) := by
  intro pins s σ H Q I h
  refine wpAny_Call_Name_kw (ld_blt I hg hm hv ?_ hn hdb)
  exact PyProof.Rows.callWith_type1 (thn (ha pos pins s σ H _ I h) fun us s1 ⟨vs, H1, I1, r1, q1⟩ => hc pins s1 σ H1 vs us Q I1 r1 q1) he hpl
end
end L2

namespace HT
open PySem PyProof.Rows

section
open PySem.SeqAt
open PySem.AutoSeq1 (wpAny_loadPart')
open PySem.MeetsSeq PySem.MeetsSeq2 PySem.MeetsSeq3

end

section
variable {prog : Program} {w : World} {A : Around} {E : Value → Shared → Prop} {s : Shared}

/-! ### t[a:b], not the whole -/
/-- a slice's bound as a place among n (d where it is left out) -/
def sIx (n d : Nat) : Option Int → Nat
  | none => d
  | some v => if v < 0 then (v + (n : Int)).toNat else min v.toNat n
theorem sIx_none (n d : Nat) : sIx n d none = d := rfl
theorem sIx_nat (n d k : Nat) : sIx n d (some (k : Int)) = min k n := by
  show (if (k : Int) < 0 then ((k : Int) + (n : Int)).toNat else min (k : Int).toNat n) = min k n
  rw [if_neg (by omega), Int.toNat_natCast]
end
end HT

namespace L2
open PySem PySem.Spec PyProof.Rows

/-! ### the parts of a slice -/
abbrev TO := St → Hp → (Option Int → Hp → Prop) → Prop
/-- a slice's part (left out, or an int) -/
def PO (X : Cx) (e : Option Expr) (t : TO) : Prop :=
  ∀ (pins : List (Addr × Obj)) (s : Shared) (σ : St) (H : Hp) (Q : Option Int → Hp → Prop), Inv X pins σ H s → t σ H Q →
    wpAny (model X.prog X.w) X.A (evalPart e X.env) (fun u s' => ∃ o H', Inv X pins σ H' s' ∧ IsPart u o ∧ Q o H') X.xe s
def tNoPart : TO := fun _ H Q => Q none H
def tPart (t : TE) : TO := fun σ H Q => t σ H fun x H1 => ∃ i, x = .int i ∧ Q (some i) H1

section
variable {X : Cx} {e : Expr} {te : TE} {lo hi : Option Expr} {tl th : TO} {pos p2 : Pos}

theorem po_none : PO X none tNoPart := by
  intro pins s σ H Q I h
  rw [evalPart_none]
  exact wpAny_pure ⟨none, H, I, .none, h⟩
theorem po_some (h : PE X e te) : PO X (some e) (tPart te) := by
  intro pins s σ H Q I hw
  rw [evalPart_some]
  refine thn (h pins s σ H _ I hw) fun u s1 ⟨x, H1, I1, r1, q1⟩ => ?_
  obtain ⟨i, rfl, q⟩ := q1
  obtain ⟨t, rfl⟩ := r1
  exact ⟨some i, H1, I1, .int i t, q⟩

/-- what a slice of a value is, by values: the slice object stands at sl -/
def SlR (X : Cx) (r : V → Option Int → Option Int → Hp → VK → Prop) : Prop :=
  ∀ (pins : List (Addr × Obj)) (s : Shared) (σ : St) (H : Hp) (x : V) (v vl vu : Value) (lo hi : Option Int) (sl : Addr) (Q : VK), Inv X pins σ H s → RelV x v → s.heap.IsSliceOf sl vl vu .none → IsPart vl lo → IsPart vu hi → r x lo hi H Q →
    ∃ T id, typeLookup (.type T) "__getitem__" = pure (some (.builtin id)) ∧ s.TypeIs v T ∧ wpAny (model X.prog X.w) X.A (getItem v (.ref sl)) (EP X pins σ Q) X.xe s
theorem SlR.or {r r' : V → Option Int → Option Int → Hp → VK → Prop} (h : SlR X r) (h' : SlR X r') : SlR X (fun x lo hi H Q => r x lo hi H Q ∨ r' x lo hi H Q) := by
  intro pins s σ H x v vl vu lo hi sl Q I rx hs pl pu q
  rcases q with q | q
  · exact h pins s σ H x v vl vu lo hi sl Q I rx hs pl pu q
  · exact h' pins s σ H x v vl vu lo hi sl Q I rx hs pl pu q
def tSl (r : V → Option Int → Option Int → Hp → VK → Prop) (te : TE) (tl th : TO) : TE := fun σ H Q => te σ H fun x H1 => tl σ H1 fun l H2 => th σ H2 fun u H3 => r x l u H3 Q
/-- a[lo:hi], any a -/
theorem pe_slice {r : V → Option Int → Option Int → Hp → VK → Prop} (hr : SlR X r) (he : PE X e te) (hl : PO X lo tl) (hu : PO X hi th) : PE X (.Subscript e (.Slice lo hi none p2) pos) (tSl r te tl th) := by
  intro pins s σ H Q I h
  refine Subscript_ (thn (he pins s σ H _ I h) fun v s1 ⟨x, H1, I1, r1, q1⟩ => ?_)
  refine wpAny_Slice (thn (hl pins s1 σ H1 _ I1 q1) fun vl s2 ⟨l, H2, I2, pl, q2⟩ => thn (hu pins s2 σ H2 _ I2 q2) fun vu s3 ⟨u, H3, I3, pu, q3⟩ => ?_)
  rw [evalPart_none]
  refine wpAny_pure ?_
  have I4 : Inv X pins σ H3 { s3 with heap := s3.heap.push { cls := .type "slice", data := .fields #[vl, vu, .none] } } := I3.kept (t' := s3.toks) fun b ob q => Heap.get?_push_of_some _ q
  obtain ⟨T, id, hT, ht, hg⟩ := hr pins { s3 with heap := s3.heap.push { cls := .type "slice", data := .fields #[vl, vu, .none] } } σ H3 x v vl vu l u s3.heap.objs.size Q I4 r1 (Heap.IsSliceOf.new ..) pl pu q3
  show wpAny (model X.prog X.w) X.A (subscriptTail e (.Slice lo hi none p2) v (.ref s3.heap.objs.size)) (EP X pins σ Q) X.xe { s3 with heap := s3.heap.push { cls := .type "slice", data := .fields #[vl, vu, .none] } }
  exact tail_any (ops := [.ref s3.heap.objs.size, v]) ht hT hg (by with_unfolding_all rfl)

/-- the items of xs[lo:hi] -/
def cutV (xs : List V) (lo hi : Option Int) : List V := (xs.drop (HT.sIx xs.length 0 lo)).take (HT.sIx xs.length xs.length hi - HT.sIx xs.length 0 lo)
theorem cutV_length (xs : List V) (lo hi : Option Int) : (cutV xs lo hi).length ≤ xs.length := by
  unfold cutV
  rw [List.length_take, List.length_drop]
  omega
/-! ### t < u, t + u -/
end
end L2

namespace L2
open PySem PySem.Spec PyProof.Rows

/-! ### places -/
/-- the place that an index of any sign means -/
def ixN (n : Nat) (i : Int) : Option Nat := if 0 ≤ i then (if i < n then some i.toNat else none) else if -(n : Int) ≤ i then some (i + n).toNat else none
def atI {α : Type} (xs : List α) (i : Int) : Option α := (ixN xs.length i).bind fun j => xs[j]?
theorem ixN_seq {n : Nat} {i : Int} {j : Nat} (h : ixN n i = some j) : seqIndex? i n = some j ∧ j < n ∧ -(n : Int) ≤ i ∧ i < n := by
  unfold ixN at h
  by_cases h0 : 0 ≤ i
  · rw [if_pos h0] at h
    by_cases h1 : i < n
    · rw [if_pos h1] at h
      have e : i.toNat = j := Option.some.inj h
      exact ⟨by rw [seqIndex_of h0 h1, e], by omega, by omega, h1⟩
    · rw [if_neg h1] at h; cases h
  · rw [if_neg h0] at h
    by_cases h1 : -(n : Int) ≤ i
    · rw [if_pos h1] at h
      have e : (i + n).toNat = j := Option.some.inj h
      exact ⟨by rw [seqIndex_neg (by omega) h1, e], by omega, h1, by omega⟩
    · rw [if_neg h1] at h; cases h
theorem atI_get {α : Type} {xs : List α} {i : Int} {v : α} (h : atI xs i = some v) : ∃ j, seqIndex? i xs.length = some j ∧ xs[j]? = some v ∧ j < xs.length ∧ -(xs.length : Int) ≤ i ∧ i < xs.length := by
  unfold atI at h
  cases e : ixN xs.length i with
  | none => rw [e] at h; cases h
  | some j =>
    rw [e] at h
    obtain ⟨h1, h2, h3, h4⟩ := ixN_seq e
    exact ⟨j, h1, h, h2, h3, h4⟩
theorem atI_nat {α : Type} {xs : List α} {j : Nat} {v : α} (h : xs[j]? = some v) : atI xs (j : Int) = some v := by
  have hj : j < xs.length := (List.getElem?_eq_some_iff.mp h).1
  have e : ixN xs.length (j : Int) = some j := by
    unfold ixN
    rw [if_pos (by omega), if_pos (by omega)]; simp
  unfold atI; rw [e]; exact h
/-! ### what may be subscripted -/
/-- what stands as an index of a plain subscript -/
def PlainIx (b : Expr) : Prop := ∀ o i, subscripted b false o i = operate [o, i] (getItem o i)
/-- a subscript by values -/
def IxR (X : Cx) (r : R2) : Prop :=
  ∀ (value slice : Expr) (pins : List (Addr × Obj)) (s : Shared) (σ : St) (H : Hp) (x y : V) (v u : Value) (Q : VK), Inv X pins σ H s → RelV x v → RelV y u → r x y H Q →
    subscripted slice false v u = operate [v, u] (getItem v u) → wpAny (model X.prog X.w) X.A (subscriptTail value slice v u) (EP X pins σ Q) X.xe s
/-- a call of a builtin's method by values: the receiver, the arguments -/
def MtR (X : Cx) (id : String) (r : V → List V → Hp → VK → Prop) : Prop :=
  ∀ (pins : List (Addr × Obj)) (s : Shared) (σ : St) (H : Hp) (x : V) (xs : List V) (v : Value) (us : List Value) (Q : VK), Inv X pins σ H s → RelV x v → Vals xs us → r x xs H Q →
    wpAny (model X.prog X.w) X.A (call (.builtin id) (v :: us)) (EP X pins σ Q) X.xe s
section
variable {X : Cx} {a b : Expr} {ta tb : TE} {pos : Pos}
theorem IxR.or {r r' : R2} (h : IxR X r) (h' : IxR X r') : IxR X (fun x y H Q => r x y H Q ∨ r' x y H Q) := by
  intro value slice pins s σ H x y v u Q I rx ry q hs
  rcases q with q | q
  · exact h value slice pins s σ H x y v u Q I rx ry q hs
  · exact h' value slice pins s σ H x y v u Q I rx ry q hs
theorem MtR.or {id : String} {r r' : V → List V → Hp → VK → Prop} (h : MtR X id r) (h' : MtR X id r') : MtR X id (fun x xs H Q => r x xs H Q ∨ r' x xs H Q) := by
  intro pins s σ H x xs v us Q I rx rs q
  rcases q with q | q
  · exact h pins s σ H x xs v us Q I rx rs q
  · exact h' pins s σ H x xs v us Q I rx rs q
/-- a[b] -/
theorem pe_ix {r : R2} (hr : IxR X r) (ha : PE X a ta) (hb : PE X b tb) (hs : PlainIx b) : PE X (.Subscript a b pos) (tOp r ta tb) := by
  intro pins s σ H Q I h
  exact Subscript_ (binT ha hb I h fun v u s2 x y H2 I2 rx ry q => hr a b pins s2 σ H2 x y v u Q I2 rx ry q (hs _ _))

def rIxL (K : PySem.W.Frag) : R2 := fun x y H Q => ∃ p xs i v, x = .ref p ∧ y = .int i ∧ SqL K H p xs ∧ atI xs i = some v ∧ Q v H
def rIxT (K : PySem.W.Frag) : R2 := fun x y H Q => ∃ p xs i v, x = .ref p ∧ y = .int i ∧ SqT K H p xs ∧ atI xs i = some v ∧ Q v H
def rIxS : R2 := fun x y H Q => ∃ z i c, x = .str z ∧ y = .int i ∧ z.length ≤ sizeLine ∧ atI z.cps.toList i = some c ∧ Q (.str ⟨#[c]⟩) H
theorem ix_list : IxR X (rIxL X.K) := by
  intro value slice pins s σ H x y v u Q I rx ry h hs
  obtain ⟨p, xs, i, z, rfl, rfl, hq, he, q⟩ := h
  cases rx
  obtain ⟨t, rfl⟩ := ry
  obtain ⟨its, r, pl, hz⟩ := I.list hq
  obtain ⟨j, h1, h2, h3, h4, h5⟩ := atI_get he
  obtain ⟨w, ew, rw'⟩ := r.get h2
  have hl := r.length
  have hn := line63
  have fin : EP X pins σ Q w s := ⟨z, H, I, rw', q⟩
  by_cases h0 : 0 ≤ i
  · have hj : i.toNat = j := by
      rw [seqIndex_of h0 h5] at h1
      exact Option.some.inj h1
    exact item_listR pl.isList h0 (by omega) (by rw [hj]; simpa using ew) fin hs
  · have hj : (i + (its.toArray.size : Int)).toNat = j := by
      rw [seqIndex_neg (by omega) h4] at h1
      rw [List.size_toArray, ← hl]
      exact Option.some.inj h1
    exact subscriptTail_builtinR (x := w) pl.isList.typeIs slot_list_getitem.lookup
      (wpAny_getItem_list_neg (Q := fun r s' => r = w ∧ EP X pins σ Q r s') pl.isList (by omega) (by rw [List.size_toArray] <;> omega) (by omega) (by rw [hj]; simpa using ew) ⟨rfl, fin⟩) hs
theorem ix_tup : IxR X (rIxT X.K) := by
  intro value slice pins s σ H x y v u Q I rx ry h hs
  obtain ⟨p, xs, i, z, rfl, rfl, hq, he, q⟩ := h
  cases rx
  obtain ⟨t, rfl⟩ := ry
  obtain ⟨its, r, pl, hz⟩ := I.tuple hq
  obtain ⟨j, h1, h2, h3, h4, h5⟩ := atI_get he
  obtain ⟨w, ew, rw'⟩ := r.get h2
  have hl := r.length
  have hn := line63
  have fin : EP X pins σ Q w s := ⟨z, H, I, rw', q⟩
  exact subscriptTail_builtinR (x := w) pl.typeIs slot_tuple_getitem.lookup
    (getItem_tuple (j := j) (Q := fun r s' => r = w ∧ EP X pins σ Q r s') pl (by omega) (by omega) (by rw [List.size_toArray, ← hl]; exact h1) (by simpa using ew) ⟨rfl, fin⟩) hs
theorem ix_str : IxR X rIxS := by
  intro value slice pins s σ H x y v u Q I rx ry h hs
  obtain ⟨z, i, c, rfl, rfl, hz, he, q⟩ := h
  obtain ⟨t, rfl⟩ := rx
  obtain ⟨t', rfl⟩ := ry
  obtain ⟨j, h1, h2, h3, h4, h5⟩ := atI_get he
  have hl : z.cps.toList.length = z.length := by simp [Str.length]
  rw [hl] at h1 h4 h5
  have hn := line63
  exact tail_any (typeIs_str s z t) slot_str_getitem.lookup (getItem_str (c := c) (by
    have e1 : decide (i < -(2 ^ 63 : Int)) = false := decide_eq_false (by omega)
    have e2 : decide (i ≥ 2 ^ 63) = false := decide_eq_false (by omega)
    rw [e1, e2, Bool.or_false]) (by rw [h1]; simpa using h2) ⟨.str ⟨#[c]⟩, H, I.tok _, ⟨_, rfl⟩, q⟩) hs
/-- list, tuple or str -/
def rIx (K : PySem.W.Frag) : R2 := fun x y H Q => rIxL K x y H Q ∨ rIxT K x y H Q ∨ rIxS x y H Q
theorem ix_seq : IxR X (rIx X.K) := ix_list.or (ix_tup.or ix_str)

/-! ### xs[i] = v, any sign -/
theorem Inv.lst {pins : List (Addr × Obj)} {σ : St} {H : Hp} {s : Shared} {p : Addr} {xs : List V} (I : Inv X pins σ H s) (h : H p = some (.lst xs)) :
    ∃ (its : List Value) (n : Nat), Vals xs its ∧ s.heap.get? p = some { cls := .type "list", data := .seq its.toArray n } ∧ xs.length ≤ sizeLine := by
  obtain ⟨z, its, n, r, e⟩ := I.hok p _ h
  exact ⟨its, n, r, e, z⟩
/-! ### slices -/
theorem slice_bounds (lo hi : Option Int) (n : Nat) : (sliceBounds lo hi none n).1 = ((HT.sIx n 0 lo : Nat) : Int) ∧ (sliceBounds lo hi none n).2.1 = ((HT.sIx n n hi : Nat) : Int) ∧ (sliceBounds lo hi none n).2.2 = 1 := by
  refine ⟨?_, ?_, rfl⟩
  · cases lo with
    | none => simp [sliceBounds, HT.sIx]
    | some i =>
      simp only [sliceBounds, HT.sIx, Option.getD_none, show (1 : Int) > 0 by decide, if_true]
      by_cases h : i < 0
      · simp only [h, if_true] <;> omega
      · simp only [h, if_false] <;> omega
  · cases hi with
    | none => simp [sliceBounds, HT.sIx]
    | some i =>
      simp only [sliceBounds, HT.sIx, Option.getD_none, show (1 : Int) > 0 by decide, if_true]
      by_cases h : i < 0
      · simp only [h, if_true] <;> omega
      · simp only [h, if_false] <;> omega
theorem slicePick_cut (its : List Value) (lo hi : Option Int) : slicePick its.toArray lo hi none = ((its.drop (HT.sIx its.length 0 lo)).take (HT.sIx its.length its.length hi - HT.sIx its.length 0 lo)).toArray := by
  obtain ⟨h1, h2, h3⟩ := slice_bounds lo hi its.toArray.size
  unfold slicePick
  rw [h1, h2, h3]
  simp only [sliceRange_one, pick_run, List.size_toArray] <;> rfl
/-- xs[lo:hi] of a list: a new list -/
def rSlL (K : PySem.W.Frag) : V → Option Int → Option Int → Hp → VK → Prop := fun x lo hi H Q => ∃ a xs, x = .ref a ∧ SqL K H a xs ∧ ∀ p, H p = none → Q (.ref p) (upd H p (.lst (cutV xs lo hi)))
theorem sl_list : SlR X (rSlL X.K) := by
  intro pins s σ H x v vl vu lo hi sl Q I rx hs pl pu h
  obtain ⟨a, xs, rfl, hx, q⟩ := h
  cases rx
  obtain ⟨its, r, ht, hz⟩ := I.list hx
  have hlen := r.length
  refine ⟨"list", _, slot_list_getitem.lookup, ht.isList.typeIs, ?_⟩
  refine wpAny_getItem_list_slice ht.isList hs pl pu .none (by simp) ?_ (by rw [List.size_toArray] <;> omega)
  rw [slicePick_cut, ← hlen]
  refine ⟨.ref s.heap.objs.size, _, I.laid (t' := s.toks) (o := .lst (cutV xs lo hi)) (fun b ob q => Heap.get?_push_of_some _ q) (Nat.le_refl _) ?_, rfl, q _ (I.hok.fresh (Nat.le_refl _))⟩
  exact ⟨Nat.le_trans (cutV_length xs lo hi) hz, _, 0, (r.drop (HT.sIx xs.length 0 lo)).take (HT.sIx xs.length xs.length hi - HT.sIx xs.length 0 lo), Heap.get?_push_size _ rfl⟩

/-! ### in, not in: flat items -/
def flatV : V → Bool
  | .non => true
  | .bl _ => true
  | .int _ => true
  | .str _ => true
  | _ => false
/-- == of flat values -/
def eqV : V → V → Bool
  | .non, .non => true
  | .bl a, .bl b => a == b
  | .bl a, .int b => (if a then 1 else 0) == b
  | .int a, .bl b => a == (if b then 1 else 0)
  | .int a, .int b => a == b
  | .str a, .str b => a == b
  | _, _ => false
theorem eqAt_V {A : Around} {s : Shared} {y x : V} {u v : Value} (ry : RelV y u) (rx : RelV x v) (fy : flatV y = true) (fx : flatV x = true) : SeqAt.EqAt A s u v (eqV y x) := by
  cases y with
  | non =>
    cases ry
    cases x with
    | non => cases rx; exact SeqAt.EqAt.same _
    | bl b => cases rx; exact SeqAt.EqAt.none_bool b
    | int b => obtain ⟨t, rfl⟩ := rx; exact SeqAt.EqAt.none_int b t
    | str b => obtain ⟨t, rfl⟩ := rx; exact SeqAt.EqAt.none_str b t
    | _ => exact absurd (show false = true from fx) Bool.false_ne_true
  | bl a =>
    cases ry
    cases x with
    | non => cases rx; exact SeqAt.EqAt.bool_none a
    | bl b => cases rx; exact SeqAt.EqAt.bool_bool a b
    | int b => obtain ⟨t, rfl⟩ := rx; exact SeqAt.EqAt.bool_int a b t
    | str b => obtain ⟨t, rfl⟩ := rx; exact SeqAt.EqAt.bool_str a b t
    | _ => exact absurd (show false = true from fx) Bool.false_ne_true
  | int a =>
    obtain ⟨t', rfl⟩ := ry
    cases x with
    | non => cases rx; exact SeqAt.EqAt.int_none a t'
    | bl b => cases rx; exact SeqAt.EqAt.int_bool a t' b
    | int b => obtain ⟨t, rfl⟩ := rx; exact SeqAt.EqAt.int_int a t' b t
    | str b => obtain ⟨t, rfl⟩ := rx; exact SeqAt.EqAt.int_str a t' b t
    | _ => exact absurd (show false = true from fx) Bool.false_ne_true
  | str a =>
    obtain ⟨t', rfl⟩ := ry
    cases x with
    | non => cases rx; exact SeqAt.EqAt.str_none a t'
    | bl b => cases rx; exact SeqAt.EqAt.str_bool a t' b
    | int b => obtain ⟨t, rfl⟩ := rx; exact SeqAt.EqAt.str_int a t' b t
    | str b => obtain ⟨t, rfl⟩ := rx; exact SeqAt.EqAt.str_str a t' b t
    | _ => exact absurd (show false = true from fx) Bool.false_ne_true
  | _ => exact absurd (show false = true from fy) Bool.false_ne_true
/-! ### len, list(x), tuple(x) of any list or tuple that is read -/
theorem call_len_seq : CallR X (.builtin "len") (fun xs H Q => ∃ p ys, xs = [.ref p] ∧ (SqL X.K H p ys ∨ SqT X.K H p ys) ∧ Q (.int ys.length) H) := by
  intro pins s σ H xs us Q I r h
  obtain ⟨p, ys, rfl, hq, q⟩ := h
  obtain ⟨u, rfl, rx⟩ := vals1 r
  cases rx
  have hn := line63
  rcases hq with hq | hq
  · obtain ⟨its, r', pl, hz⟩ := I.list hq
    have hlen := r'.length
    exact Calls.call_len_list pl.isList (by simp only [List.size_toArray] <;> omega) ⟨.int ys.length, H, I.tok _, ⟨s.toks + 1, by rw [List.size_toArray, hlen]⟩, q⟩
  · obtain ⟨its, r', pl, hz⟩ := I.tuple hq
    have hlen := r'.length
    exact len_tuple pl (by simp only [List.size_toArray] <;> omega) ⟨.int ys.length, H, I.tok _, ⟨s.toks + 1, by rw [List.size_toArray, hlen]⟩, q⟩
theorem CallR.or {f : Value} {r r' : List V → Hp → VK → Prop} (h : CallR X f r) (h' : CallR X f r') : CallR X f (fun xs H Q => r xs H Q ∨ r' xs H Q) := by
  intro pins s σ H xs us Q I rs q
  rcases q with q | q
  · exact h pins s σ H xs us Q I rs q
  · exact h' pins s σ H xs us Q I rs q
theorem call_list_of : CallR X (.type "list") (fun xs H Q => ∃ p ys, xs = [.ref p] ∧ (SqL X.K H p ys ∨ SqT X.K H p ys) ∧ ∀ l, H l = none → Q (.ref l) (upd H l (.lst ys))) := by
  intro pins s σ H xs us Q I r h
  obtain ⟨p, ys, rfl, hq, q⟩ := h
  obtain ⟨u, rfl, rx⟩ := vals1 r
  cases rx
  have fin : ∀ (its : List Value), Vals ys its → ys.length ≤ sizeLine → ∀ (h' : Heap) (c' : Nat), (∀ b o', s.heap.get? b = some o' → h'.get? b = some o') →
      h'.get? s.heap.objs.size = some { cls := .type "list", dict := none, data := .seq its.toArray c', slots := #[] } → EP X pins σ Q (.ref s.heap.objs.size) { s with heap := h' } := fun its r' hz h' c' kp e =>
    ⟨.ref s.heap.objs.size, _, I.laid (t' := s.toks) kp (Nat.le_refl _) (show ObjOk X.prog X.w _ h' _ (.lst ys) from ⟨hz, its, c', r', e⟩), rfl, q _ (I.hok.fresh (Nat.le_refl _))⟩
  rcases hq with hq | hq
  · obtain ⟨its, r', pl, hz⟩ := I.list hq
    have hlen := r'.length
    obtain ⟨o, ho, hc, n, hd⟩ := pl.isList
    exact call_list_seq p (.inl rfl) ho hc hd (fun h' c' kp e => fin its r' hz h' c' kp e) (by simp only [List.size_toArray] <;> omega)
  · obtain ⟨its, r', pl, hz⟩ := I.tuple hq
    have hlen := r'.length
    obtain ⟨o, ho, hc, n, hd⟩ := pl
    exact call_list_seq p (.inr rfl) ho hc hd (fun h' c' kp e => fin its r' hz h' c' kp e) (by simp only [List.size_toArray] <;> omega)
/-! ### the call of a builtin's method: o.m(..) -/
/-- the value is of that builtin type -/
def tyV (K : PySem.W.Frag) (T : String) (x : V) (H : Hp) : Prop := match x with
  | .str _ => T = "str"
  | .int _ => T = "int"
  | .ref p => (T = "list" ∧ ∃ xs, SqL K H p xs) ∨ (T = "tuple" ∧ ∃ o, K.lookup p = some o ∧ o.cls = .type "tuple" ∧ o.dict = none) ∨
      (T = "dict" ∧ ((∃ kvs, H p = some (.dK kvs)) ∨ ∃ kvs, H p = some (.dT kvs))) ∨ (T = "set" ∧ ∃ S n, H p = some (.set S n))
  | _ => False
theorem tyV_is {pins : List (Addr × Obj)} {σ : St} {H : Hp} {s : Shared} {T : String} {x : V} {v : Value} (I : Inv X pins σ H s) (r : RelV x v) (ty : tyV X.K T x H) :
    s.TypeIs v T ∧ ∀ a, v = .ref a → ∃ ob, s.heap.get? a = some ob ∧ ob.dict = none := by
  cases x with
  | str z =>
    obtain ⟨t, rfl⟩ := r
    cases (show T = "str" from ty)
    exact ⟨typeIs_str s z t, fun _ e => nomatch e⟩
  | int i =>
    obtain ⟨t, rfl⟩ := r
    cases (show T = "int" from ty)
    exact ⟨typeIs_int s i t, fun _ e => nomatch e⟩
  | ref p =>
    cases r
    rcases ty with ⟨rfl, xs, hq⟩ | ⟨rfl, o, hk, hc, hd⟩ | ⟨rfl, hk⟩ | ⟨rfl, S, n, hk⟩
    · obtain ⟨its, _, pl, _⟩ := I.list hq
      refine ⟨pl.isList.typeIs, fun a e => ?_⟩
      cases e
      obtain ⟨o, n, e, c, hd, _⟩ := pl
      exact ⟨o, e, hd⟩
    · refine ⟨⟨o, I.kIn p o hk, hc⟩, fun a e => ?_⟩
      cases e
      exact ⟨o, I.kIn _ o hk, hd⟩
    · have z : ∃ o, s.heap.get? p = some o ∧ o.ExactDict := by
        rcases hk with ⟨kvs, hk⟩ | ⟨kvs, hk⟩
        · obtain ⟨_, _, _, _, o, _, _, e, ex, _⟩ := I.hok p _ hk
          exact ⟨o, e, ex⟩
        · obtain ⟨_, _, _, _, o, _, _, e, ex, _⟩ := I.hok p _ hk
          exact ⟨o, e, ex⟩
      obtain ⟨o, e, ex⟩ := z
      refine ⟨⟨o, e, ex.1⟩, fun a e2 => ?_⟩
      cases e2
      exact ⟨o, e, ex.2.1⟩
    · obtain ⟨o, _, _, _, e, ex, _⟩ := I.hok p _ hk
      refine ⟨⟨o, e, ex.1⟩, fun a e2 => ?_⟩
      cases e2
      exact ⟨o, e, ex.2.1⟩
  | _ => exact False.elim ty
def tBM0 (K : PySem.W.Frag) (T : String) (r : V → List V → Hp → VK → Prop) (to : TE) : TE := fun σ H Q => to σ H fun x H1 => tyV K T x H1 ∧ r x [] H1 Q
def tBM (K : PySem.W.Frag) (T : String) (r : V → List V → Hp → VK → Prop) (to : TE) (t : TA) : TE := fun σ H Q => to σ H fun x H1 => tyV K T x H1 ∧ t σ H1 fun xs H2 => r x xs H2 Q
variable {o e : Expr} {es : List Expr} {to : TE} {t : TA} {name : Str} {apos cpos : Pos} {T id : String} {r : V → List V → Hp → VK → Prop}
theorem pe_bm0 (pa : PlainAttrs T) (slot : Slot T name id) (hty : typeOf (.builtin id) = pure (.type "method_descriptor")) (hm : MtR X id r) (ho : PE X o to)
    (hbase : attributeBase o name X.env (eval o X.env) = eval o X.env := by rfl) (hline : (apos.endLine == cpos.line) = true := by rfl) : PE X (.Call (.Attribute o name apos) [] [] cpos) (tBM0 X.K T r to) := by
  intro pins s σ H Q I h
  refine wpAny_Call_method0_late hbase hline (thn (ho pins s σ H _ I h) fun v s1 ⟨x, H1, I1, r1, ty, q1⟩ => ?_)
  obtain ⟨h1, h2⟩ := tyV_is I1 r1 ty
  exact ⟨T, id, pa, slot, hty, h1, h2, Calls.callWith_builtin rfl (PySem.evalArgs_none (hm pins s1 σ H1 x [] v [] Q I1 r1 .nil q1))⟩
theorem pe_bm (pa : PlainAttrs T) (slot : Slot T name id) (hty : typeOf (.builtin id) = pure (.type "method_descriptor")) (hm : MtR X id r) (ho : PE X o to) (ha : PA X (e :: es) t)
    (hbase : attributeBase o name X.env (eval o X.env) = eval o X.env := by rfl)
    (hfew : ((backTo cpos (starEach (e :: es) X.env)).all (fun x => !x.1) && (backToKw cpos (keywordEach [] X.env)).all (fun x => x.1.isSome)
      && decide ((e :: es).length + ([] : List Keyword).length + (if ([] : List Keyword).isEmpty then 0 else 1) < 30)) = true := by rfl)
    (hline : (apos.endLine == cpos.line) = true := by rfl) (hs : starEach (e :: es) X.env = (false, eval e X.env) :: starEach es X.env := by rfl) (hplain : (backTo cpos (starEach es X.env)).any (·.1) = false := by rfl) :
    PE X (.Call (.Attribute o name apos) (e :: es) [] cpos) (tBM X.K T r to t) := by
  intro pins s σ H Q I h
  refine wpAny_Call_method_late hbase hfew hline rfl (thn (ho pins s σ H _ I h) fun v s1 ⟨x, H1, I1, r1, ty, q1⟩ => ?_)
  obtain ⟨h1, h2⟩ := tyV_is I1 r1 ty
  refine ⟨T, id, pa, slot, hty, h1, h2, ?_⟩
  have hA := ha cpos pins s1 σ H1 _ I1 q1
  rw [hs] at hA ⊢
  refine Calls.callWith_builtin (by show (false || (backTo cpos (starEach es X.env)).any (·.1)) = false; rw [hplain] <;> rfl) (Calls.evalArgs_plain ?_)
  exact thn hA fun us s2 ⟨vs, H2, I2, r2, q2⟩ => hm pins s2 σ H2 x vs v us Q I2 r1 r2 q2
/- xs.append(e), list.index on a module's tuple .. are MtR facts of 06m -/
end
end L2

namespace L2
open PySem PySem.Spec PyProof.Rows

def MtM (X : Cx) (id : String) (r : V → List V → Hp → VK → Prop) : Prop :=
  ∀ (pins : List (Addr × Obj)) (s : Shared) (σ : St) (H : Hp) (x : V) (xs : List V) (v : Value) (us : List Value) (Q : VK), Inv X pins σ H s → RelV x v → Vals xs us → r x xs H Q →
    wpAny (model X.prog X.w) X.A (call (.builtin id) (v :: us)) (EP X pins σ Q) X.xe s

/-! ### lists of values -/
theorem Vals.one : ∀ {x : V} {us : List Value}, Vals [x] us → ∃ u, us = [u] ∧ RelV x u
  | _, _, .cons r .nil => ⟨_, rfl, r⟩
theorem Vals.two : ∀ {x y : V} {us : List Value}, Vals [x, y] us → ∃ u v, us = [u, v] ∧ RelV x u ∧ RelV y v
  | _, _, _, .cons r (.cons q .nil) => ⟨_, _, rfl, r, q⟩
theorem Vals.zero : ∀ {us : List Value}, Vals [] us → us = []
  | _, .nil => rfl
theorem Vals.dropLast {xs : List V} {us : List Value} (h : Vals xs us) : Vals xs.dropLast us.dropLast := by
  induction h with
  | nil => exact .nil
  | cons r t ih =>
    cases t with
    | nil => exact .nil
    | cons q t' => exact .cons r ih
theorem Vals.eraseIdx : ∀ {xs : List V} {us : List Value} (i : Nat), Vals xs us → Vals (xs.eraseIdx i) (us.eraseIdx i)
  | _, _, _, .nil => .nil
  | _, _, 0, .cons _ t => t
  | _, _, i + 1, .cons r t => .cons r (Vals.eraseIdx i t)
theorem Vals.reverse {xs : List V} {us : List Value} (h : Vals xs us) : Vals xs.reverse us.reverse := by
  induction h with
  | nil => exact .nil
  | cons r t ih => rw [List.reverse_cons, List.reverse_cons]; exact Vals.append ih (.cons r .nil)
theorem Vals.rep {xs : List V} {us : List Value} (h : Vals xs us) : ∀ k : Nat, Vals (List.replicate k xs).flatten (List.replicate k us).flatten
  | 0 => .nil
  | k + 1 => by
    rw [List.replicate_succ, List.replicate_succ, List.flatten_cons, List.flatten_cons]
    exact Vals.append h (Vals.rep h k)
theorem erase_last {α : Type} (l : List α) : l.eraseIdx (l.length - 1) = l.dropLast := by
  induction l with
  | nil => rfl
  | cons a r ih =>
    cases r with
    | nil => rfl
    | cons b r =>
      have e : (a :: b :: r).length - 1 = ((b :: r).length - 1) + 1 := by
        have h1 : (a :: b :: r).length = r.length + 2 := rfl
        have h2 : (b :: r).length = r.length + 1 := rfl
        omega
      rw [e, List.eraseIdx_cons_succ, ih]
      all_goals rfl
section
variable {X : Cx} {pins : List (Addr × Obj)} {σ : St} {H : Hp} {s : Shared} {l b : Addr} {xs ys zs : List V}

/-! ### the two steps: a tracked list is rewritten, a new list is laid -/
theorem Inv.lset {its its' : List Value} {n : Nat} {f : Array Value → Array Value} {t' : Nat} (I : Inv X pins σ H s) (hH : H l = some (.lst xs))
    (e : s.heap.get? l = some { cls := .type "list", data := .seq its.toArray n }) (hf : f its.toArray = its'.toArray) (hv : Vals ys its') (hz : ys.length ≤ sizeLine) :
    Inv X pins σ (upd H l (.lst ys)) { s with heap := s.heap.update l (Obj.mapSeq f), toks := t' } := by
  have q := PySem.IsL.update e f
  rw [hf] at q
  refine I.write (x := l) (e := l) (by rw [hH]; exact trivial) (.inl rfl) (fun b' u hb hu => (Heap.get?_update_other s.heap (Obj.mapSeq f) (Ne.symm hb)).trans hu) ⟨_, q⟩ ?_
  exact ⟨hz, its', _, hv, q⟩
theorem Inv.lnew {its : List Value} {t' : Nat} (I : Inv X pins σ H s) (hv : Vals ys its) (hz : ys.length ≤ sizeLine) :
    Inv X pins σ (upd H s.heap.objs.size (.lst ys)) { s with heap := s.heap.push { cls := .type "list", data := .seq its.toArray }, toks := t' } :=
  I.laid (fun _ _ q => Heap.get?_push_of_some _ q) (Nat.le_refl _) ⟨hz, its, 0, hv, Heap.get?_push_size _ rfl⟩
theorem Inv.fresh (I : Inv X pins σ H s) : H s.heap.objs.size = none := I.hok.fresh (Nat.le_refl _)
theorem Inv.lstM (I : Inv X pins σ H s) (hH : H l = some (.lst xs)) : xs.length ≤ sizeLine ∧ ∃ (its : List Value) (n : Nat), Vals xs its ∧ xs.length = its.length ∧ s.heap.get? l = some { cls := .type "list", data := .seq its.toArray n } := by
  obtain ⟨z, its, n, r, e⟩ := I.hok l _ hH
  exact ⟨z, its, n, r, r.length, e⟩

end

section
variable {X : Cx}

/-! ### methods -/
def rAppend : V → List V → Hp → VK → Prop := fun x vs H Q => ∃ l xs y, x = .ref l ∧ vs = [y] ∧ H l = some (.lst xs) ∧ xs.length < sizeLine ∧ Q .non (upd H l (.lst (xs ++ [y])))
theorem mt_append : MtM X "list.append" rAppend := by
  intro pins s σ H x vs v us Q I rx rv h
  obtain ⟨l, xs, y, rfl, rfl, hH, hz, q⟩ := h
  cases rx
  obtain ⟨u, rfl, ru⟩ := rv.one
  obtain ⟨z, its, n, r, hl, e⟩ := I.lstM hH
  refine call_meets F.slot_list_append ⟨_, e, rfl⟩ F.entry_list_append (F.args_list_append_2 _ _) (PySem.list_append l its.toArray n u (by rw [List.size_toArray]; omega)) ⟨e, ?_⟩
  refine ⟨.non, _, I.lset (its' := its ++ [u]) hH e (by simp) (r.append (.cons ru .nil)) ?_, rfl, q⟩
  rw [List.length_append, List.length_singleton]
  omega

def rPop : V → List V → Hp → VK → Prop := fun x vs H Q => ∃ l xs y, x = .ref l ∧ vs = [] ∧ H l = some (.lst xs) ∧ xs[xs.length - 1]? = some y ∧ Q y (upd H l (.lst xs.dropLast))
theorem mt_pop : MtM X "list.pop" rPop := by
  intro pins s σ H x vs v us Q I rx rv h
  obtain ⟨l, xs, y, rfl, rfl, hH, hy, q⟩ := h
  cases rx
  have hus := rv.zero
  subst hus
  obtain ⟨z, its, n, r, hl, e⟩ := I.lstM hH
  obtain ⟨u, hu, ru⟩ := r.get hy
  have hy' : its.toArray[its.toArray.size - 1]? = some u := by
    show its.toArray[its.length - 1]? = some u
    rw [← Array.getElem?_toList, ← hl]
    exact hu
  refine call_meets F.slot_list_pop ⟨_, e, rfl⟩ F.entry_list_pop (F.args_list_pop_1 _) (MeetsSeq.list_pop_last l its.toArray n u hy' (by rw [List.size_toArray]; omega)) ⟨e, ?_⟩
  refine ⟨y, _, I.lset (its' := its.dropLast) hH e ?_ r.dropLast ?_, ru, q⟩
  · show its.toArray.eraseIdxIfInBounds (its.toArray.size - 1) = its.dropLast.toArray
    rw [List.size_toArray, List.eraseIdxIfInBounds_toArray, erase_last]
  · rw [List.length_dropLast]
    omega

/-! ### list + list, list += list, list * int -/
/-! ### del xs[i] -/
end

/-! ### xs[a:b] = ys -/
section
variable {prog : Program} {w : World} {A : Around} {E : Value → Shared → Prop} {s : Shared}
end

section
variable {X : Cx}
end
end L2

namespace Att
open PySem PySem.W PySem.Calls PyProof.Rows

/-! ### the script -/
theorem ints_of_wellAll {P : Params} {h : Heap} : ∀ (ns : List Int) (vs : List Value), WellAll P h vs (ns.map WData.int) → IntsAre vs ns := by
  intro ns
  induction ns with
  | nil =>
    intro vs w
    rw [List.map_nil] at w
    cases w
    exact .nil
  | cons n ns ih =>
    intro vs w
    rw [List.map_cons] at w
    cases w with
    | cons a b =>
      cases a
      exact .cons _ _ (ih _ b)

theorem script_of {l : OpenLaw} {n : Nat} (hn : l.most = some n) {P : Params} {h : Heap} {args : List WData} {vals : List Value}
    (hpre : l.row.toRowW.claim.pre args = true) (hwl : WellAll P h vals args) :
    ∃ a vs ns, vals = [Value.ref a] ∧ args = [WData.list (ns.map WData.int)] ∧ h.get? a = some { cls := .type "list", data := .seq vs.toArray } ∧ IntsAre vs ns ∧ ns.length ≤ n := by
  have hsh : WShape.hasAll [] args [.list .int] = true := (pre_splitW hpre).1
  have hc : l.pre.holds [] { args := args } = true := (pre_splitW hpre).2
  obtain ⟨d, r, rfl, h1, h2⟩ := hasAllW_cons hsh
  obtain rfl := hasAllW_nil h2
  obtain ⟨xs, rfl, h3⟩ := hasW_list h1
  obtain ⟨ns, rfl⟩ := items_int h3
  have hlen : ns.length ≤ n := by
    unfold OpenLaw.pre at hc
    have h4 : (WTm.not (.lt (.lit (.int (n : Int))) (.len (.arg 0)))).holds [] { args := [.list (ns.map .int)] } = true := by
      have h4 := (holds_andW hc).1
      rw [hn] at h4
      exact h4
    have h5 := condW_of h4 (w_not (w_lt w_lit (w_len_list (w_arg rfl))))
    rw [List.length_map] at h5
    refine Nat.le_of_not_lt fun q => ?_
    have q' : (n : Int) < ((ns.length : Nat) : Int) := by omega
    first
      | (rw [decide_eq_true q'] at h5; exact absurd h5 (by decide))
      | (simp at h5; omega)
  cases hwl with
  | cons w1 w2 =>
    cases w2
    cases w1 with
    | list ho hall => exact ⟨_, _, ns, rfl, rfl, ho, ints_of_wellAll ns _ hall, hlen⟩

theorem post_true (l : OpenLaw) (args : List WData) : l.row.toRowW.claim.post args (.bool true) args = true :=
  postW_of (r := l.row.toRowW) (X := (true == true))
    (show WShape.has [] (.bool true) .bool = true by first | rfl | decide | simp [WShape.has, WShape.arms, WShape.armsAll])
    (show (WTm.eq .res (.lit (.bool true))).value [] { args := args, res := some (.bool true), after := args } = some (.bool (true == true)) from w_eq_bool (w_res rfl) w_lit) rfl

/-! ### the attachment: holds_open's last premise (the goal 'hc' behind k_head) from a wpAny of the law's body -/
/-- the same from a codeAny of the CALL (for a layer whose function contracts speak of calls) -/
theorem attach_call {l : OpenLaw} {n : Nat} {q : Program} {loose : List Str} {XP : (Str → Option Value) → Heap → Prop} {YP : World → Heap → Prop} {d : DefRec}
    (hn : l.most = some n) (hdf : d.params.defaults = [])
    (call : ∀ (w : World) (s₀ s₁ : Shared) (mg mb : Str → Option Value) (fa : Addr) (o : Obj) (pm cd doc : Value) (a : Addr) (vs : List Value) (ns : List Int),
      Ground q loose [] XP w s₀ mg mb s₁.heap → YP w s₁.heap →
      s₁.heap.get? fa = some o → o.data = .func (docDef d.name d.params d.body d.scope pm cd doc) → s₁.heap.CodeRec cd d.name → mg d.name = some (.ref fa) →
      s₁.heap.get? a = some { cls := .type "list", data := .seq vs.toArray } → IntsAre vs ns → ns.length ≤ n → s₁.gens = #[] →
      codeAny (model l.prog w) callerA (.call (.ref fa) ⟨[.ref a], []⟩) (fun r s' => r = .ok (.ret (.bool true)) ∧ OldK s₁.heap s'.heap ∧ s'.os = s₁.os ∧ AllBare s'.gens) s₁) :
    WalkO q loose XP YP l.row.toRowW d [] (fun f vs => PySem.call f vs) := by
  intro w s₀ s₁ mg mb G Y fa o pm cd doc dV kV ho hd hcd hD hmg hg args vals as hpre hlay hrd hwl hlo
  obtain rfl : dV = .none := Dflts.none hD hdf
  obtain rfl : kV = .none := Dflts.noKw hD
  obtain ⟨a, vs, ns, rfl, rfl, hobj, hints, hlen⟩ := script_of hn hpre hwl
  refine enter_call (codeAny_mono (call w s₀ s₁ mg mb fa o pm cd doc a vs ns G Y ho (fd_plain hd) hcd hmg hobj hints hlen hg) fun r s' hq => ?_)
  obtain ⟨rfl, h2, h3, h4⟩ := hq
  exact ⟨.inl ⟨.bool true, .bool true, [], rfl, fun _ => rfl, .bool true, post_true l _, fun _ => ⟨List.Pairwise.nil, fun _ hm => (nomatch hm)⟩⟩, h2, h3, h4⟩

/-! ### rules over ANY heap (no ledger) from facts about the written part K: the library's own take a ledger (News) for what they write -/
section
variable {prog : Program} {w : World} {A : Around} {E : Value → Shared → Prop} {s : Shared} {K : Frag}

/-! the whole heap as the ledger: makes every rule that writes through a ledger a rule over any heap -/
def ledger (h : Heap) (L d : Addr) : List (Addr × Obj) := (List.range h.objs.size).filterMap fun a => if a = L ∨ a = d then none else (h.get? a).map fun o => (a, o)
end
end Att

namespace L2
open PySem PySem.Spec PyProof.Rows

theorem vals_ints : ∀ {vs : List Value} {ns : List Int}, IntsAre vs ns → Vals (ns.map V.int) vs
  | _, _, .nil => .nil
  | _, _, .cons n t h => .cons ⟨t, rfl⟩ (vals_ints h)

/-- nothing is tracked but the script, known to the object (or it is an object of the module) -/
def Only (H : Hp) : Prop := ∀ b, H b = none ∨ ∃ o xs, H b = some (.frz o (.lst xs))

/-- THE HEAD: the law's promise, at the heap behind the top. F, the promise of the law's def, may use that base is part of the heap (so K.In base, base.Ns mainGlobals mg stand in Mod) -/
theorem law_call {P : Program} {w : World} {K : PySem.W.Frag} {mg mb : Str → Option Value} {CX : CXT} {k : Nat} {fa a : Addr} {fd : FuncData} {x : Str} {sp : Sp} {s₁ : Shared} {vs : List Value} {ns : List Int}
    (KX : K.In s₁.heap) (hns : s₁.heap.Ns mainGlobals mg) (hb : s₁.heap.Ns builtinsNs mb) (hbb : ∀ x : Str, x ≠ "__name__" → mb x = bootBuiltins x) (hlim : s₁.heap.NoLimit) (hg : s₁.gens = #[])
    (ha : s₁.heap.get? a = some { cls := .type "list", data := .seq vs.toArray }) (hi : IntsAre vs ns) (hl : ns.length ≤ sizeLine) (hr : Room k callerA)
    (F : ∀ base : Heap, K.In base → base.Ns mainGlobals mg → FnOk P w K mg base CX k fa fd [x] sp) (hbind : ∀ (s : Shared) (u : Value), BindsTo s fd ⟨[u], []⟩ [(x, u)])
    (hsp : ∀ H : Hp, Only H → SqL K H a (ns.map V.int) → sp [.ref a] H (fun v _ => v = .bl true) fun _ _ _ => False)
    (hCX : ∀ H e s', CX [] H s₁ (fun _ _ _ => False) e s' → False) :
    codeAny (model P w) callerA (.call (.ref fa) ⟨[.ref a], []⟩) (fun r s' => r = .ok (.ret (.bool true)) ∧ OldK s₁.heap s'.heap ∧ s'.os = s₁.os ∧ AllBare s'.gens) s₁ := by
  have rv := vals_ints hi
  have lenV := hi.length
  -- from an abstract heap in which nothing but the script may be tracked
  have core : ∀ H : Hp, Only H → SqL K H a (ns.map V.int) → HOk P w H s₁.heap → (∀ b, H b ≠ none → b = a) → (H a ≠ none → K.lookup a = none) →
      codeAny (model P w) callerA (.call (.ref fa) ⟨[.ref a], []⟩) (fun r s' => r = .ok (.ret (.bool true)) ∧ OldK s₁.heap s'.heap ∧ s'.os = s₁.os ∧ AllBare s'.gens) s₁ := by
    intro H hO hS hok hA hK
    have base_of : ∀ {b : Addr} {o : Obj}, s₁.heap.get? b = some o → H b = none → (hidT s₁.heap H).get? b = some o := fun e n => hidT_get e n
    have noA : ∀ {b : Addr} {o : Obj} {es : Array DictEntry} {ep : Nat}, s₁.heap.get? b = some o → o.data = .dict es ep → H b = none := fun {b o es ep} e d => by
      cases q : H b with
      | none => rfl
      | some u =>
        have e' : b = a := hA b (by rw [q]; simp)
        subst e'
        rw [ha] at e; cases e
        have d' : Data.seq vs.toArray _ = Data.dict es ep := d
        cases d'
    have nsK : ∀ {b : Addr} {m : Str → Option Value}, s₁.heap.Ns b m → (hidT s₁.heap H).Ns b m := fun {b m} ⟨o, es, ep, e, d, r⟩ => ⟨o, es, ep, base_of e (noA e d), d, r⟩
    have hKb : K.In (hidT s₁.heap H) := fun b o e => base_of (KX b o e) (by
      cases q : H b with
      | none => rfl
      | some u =>
        have e' : b = a := hA b (by rw [q]; simp)
        subst e'
        rw [hK (by rw [q]; simp)] at e; cases e)
    have hM : Mod K mg (hidT s₁.heap H) := ⟨hKb, nsK hns, ⟨mb, nsK hb, hbb⟩, let ⟨mc, h1, h2⟩ := hlim; ⟨mc, nsK h1, h2⟩⟩
    have e0 : Env0 P w K mg (hidT s₁.heap H) callerA [] s₁ H := ⟨rfl, hM, fun b o e => of_hidT e, Nat.le_of_eq (hidT_size _ _), trivial, fun b hb => absurd (show b ∈ ([] : List Addr) from hb) (by simp), hok, .of_eq hg⟩
    refine codeAny_mono ((F _ hKb (nsK hns)).run callerA [] s₁ H ⟨[.ref a], []⟩ [.ref a] [.ref a] _ _ hr e0 (hbind s₁ (.ref a)) (.cons rfl .nil) (hsp H hO hS)) fun r s' h => ?_
    cases r with
    | error e => exact (hCX H e s' h).elim
    | ok fl =>
      cases fl with
      | next => exact False.elim h
      | brk => exact False.elim h
      | cont => exact False.elim h
      | ret u =>
        obtain ⟨v, H', os, bare, un, hok', r', q⟩ := h
        have q' : v = .bl true := q
        subst q'
        obtain rfl : u = Value.bool true := r'
        refine ⟨rfl, OldK.of_keep fun b o e => ?_, os, bare⟩
        cases q : H b with
        | none => exact un.keep b o e q (by intro z; exact absurd (show b ∈ ([] : List Addr) from z) (by simp)) (by simp)
        | some u =>
          rcases hO b with z | ⟨ob, xs, z⟩
          · rw [q] at z; cases z
          · have z2 := un.frzs b ob _ z
            obtain ⟨e1, _⟩ := hok b _ z
            obtain ⟨e2, _⟩ := hok' b _ z2
            rw [e] at e1; cases e1
            exact e2
  cases hk : K.lookup a with
  | some o =>
    -- the script is one of the module's own objects
    have e := KX a o hk
    rw [ha] at e
    cases e
    refine core (fun _ => none) (fun _ => .inl rfl) (.inr ⟨_, vs.toArray, _, hk, rfl, rfl, rfl, by rw [List.size_toArray, lenV]; exact hl, by simpa using rv⟩) (fun b u z => by have z' : (none : Option HO) = some u := z; cases z') (fun b z => absurd rfl z) fun z => absurd rfl z
  | none =>
    refine core (fun b => if b = a then some (.frz { cls := .type "list", data := .seq vs.toArray } (.lst (ns.map V.int))) else none) (fun b => ?_) (.inl (.inr ⟨{ cls := .type "list", data := .seq vs.toArray }, if_pos rfl⟩)) (fun b u z => ?_) (fun b z => ?_) fun _ => hk
    · by_cases hb : b = a
      · exact .inr ⟨_, _, if_pos hb⟩
      · exact .inl (if_neg hb)
    · by_cases hb : b = a
      · have z' := (if_pos hb).symm.trans z
        cases z'
        subst hb
        exact ⟨ha, by rw [List.length_map]; exact hl, vs, _, rv, ha⟩
      · have z' := (if_neg hb).symm.trans z
        cases z'
    · by_cases hb : b = a
      · exact hb
      · exact absurd (if_neg hb) z
end L2

namespace L2
open PySem PySem.Spec PyProof.Rows

abbrev KOf {K : PySem.W.Frag} {h : Heap} (_ : K.In h) : PySem.W.Frag := K

/-- the goal that k_head leaves (case hc), from the law's promise. F gives the function object fd (K's own) once, then the promise over every base -/
theorem walk_of {l : PySem.W.OpenLaw} {n k : Nat} {q : Program} {loose : List Str} {XP : (Str → Option Value) → Heap → Prop} {YP : World → Heap → Prop} {d : DefRec} {K : Params → PySem.W.Frag} {CX : World → CXT} {sp : World → Sp} {x : Str}
    (hn : l.most = some n) (hn2 : n ≤ sizeLine) (hdf : d.params.defaults = []) (hr : Room k callerA)
    (hY : ∀ (w : World) (h : Heap), YP w h → (K w.params).In h)
    (F : ∀ (w : World) (mg : Str → Option Value) (fa : Addr) (h : Heap), (K w.params).In h → h.Ns mainGlobals mg → mg d.name = some (.ref fa) →
      ∃ fd : FuncData, (∀ (s : Shared) (u : Value), BindsTo s fd ⟨[u], []⟩ [(x, u)]) ∧
        ∀ base : Heap, (K w.params).In base → base.Ns mainGlobals mg → FnOk l.prog w (K w.params) mg base (CX w) k fa fd [x] (sp w))
    (hsp : ∀ (w : World) (H : Hp) (a : Addr) (ns : List Int), ns.length ≤ n → Only H → SqL (K w.params) H a (ns.map V.int) → sp w [.ref a] H (fun v _ => v = .bl true) fun _ _ _ => False)
    (hCX : ∀ (w : World) (H : Hp) (s : Shared) (e : Value) (s' : Shared), CX w [] H s (fun _ _ _ => False) e s' → False) :
    PySem.W.WalkO q loose XP YP l.row.toRowW d [] (fun f vs => PySem.call f vs) := by
  refine Att.attach_call hn hdf fun w s₀ s₁ mg mb fa o pm cd doc a vs ns G Y ho hd hcd hmg hobj hints hlen hg => ?_
  have KX := hY w _ Y
  obtain ⟨fd, hb, hF⟩ := F w mg fa _ KX G.T.g hmg
  exact law_call KX G.T.g G.T.b G.T.builtins G.T.nolimit hg hobj hints (Nat.le_trans hlen hn2) hr hF hb (fun H hO hS => hsp w H a ns hlen hO hS) fun H e s' => hCX w H s₁ e s'
end L2

/- THE LAST THEOREM (shape; LID, My.* are yours):
   My.Adr: a structure of the addresses that your layer names (classes, functions); My.Txt K t: a structure (Prop) of the equations over K;
   My.txt_mk : {K} {implicit addresses ..} (e1 : nsIn K mainGlobals "law" = some (some (.ref f))) (e2 : K.lookup f = some ⟨oc, od, .func (fnOf "law" "law" params body scope dV kV doc pm an cdv ct), sl⟩) (e3 : codeIn K cdv "law" = true) .. : ∃ t, My.Txt K t

theorem PySem.Challenge.cw_LID_holds : PySem.Challenge.rw_LID.Holds := by
  w_on; o_law; k_head; (case hw => w_witness2)
  k_fill
  refine L2.walk_of (l := PySem.Challenge.rw_LID) (n := 63) (k := 40) (x := "script") (CX := fun w => ..) (sp := fun _ => My.sp_law) rfl (by decide) rfl ⟨rfl, by decide, by decide⟩ (fun w h Y => PySem.W.kIn_of Y) ?F ?S ?C
  case F =>
    intro w mg fa h KX G hmg
    have T : ∃ t, My.Txt (L2.KOf KX) t := by
      dsimp only [L2.KOf]                          -- K must stand as «<heap const> w.params» for k_is
      refine' My.txt_mk ?e1 ?e2 ?e3 ..
      (case e1 => PySem.W.k_is)                    -- in the order: a name -> its address -> its object -> its parts
      (case e2 => PySem.W.k_is)
      ..
    obtain ⟨t, T⟩ := T
    have e0 := hmg.symm.trans (PySem.W.mg_of KX G T.law)
    cases e0                                       -- fa is the law's own address
    exact ⟨_, fun s u => .of_eq rfl, fun base kb nb => My.law_fn T kb nb⟩     -- if «.of_eq rfl» comes too early: refine' ⟨_, ?b, fun base kb nb => My.law_fn T kb nb⟩; exact fun s u => .of_eq rfl
  case S => exact fun w H a ns hl hO hS => ..
  case C => exact ..
(the tactic k_is has no namespace: write k_is) -/

/-! SHORT WORDS over the layer: a def of the text, its body, what a loop and a test want. -/
namespace L2
open PySem PySem.Spec PyProof.Rows

/-! ### the text by places -/
/-- the j-th statement of a class's body -/
def inClass (s : Stmt) (j : Nat) : Stmt := match s with
  | .ClassDef _ _ _ body _ _ _ _ _ _ _ => body.getD j (.Pass ⟨0, 0, 0, 0⟩)
  | _ => .Pass ⟨0, 0, 0, 0⟩
def defArgs (s : Stmt) : Arguments := match s with
  | .FunctionDef _ a _ _ _ _ _ _ _ _ => a
  | _ => { posonlyargs := [], args := [], vararg := none, kwonlyargs := [], kw_defaults := [], kwarg := none, defaults := [] }
def defBody (s : Stmt) : List Stmt := match s with
  | .FunctionDef _ _ b _ _ _ _ _ _ _ => b
  | _ => []
def defScope (s : Stmt) : Scope := match s with
  | .FunctionDef _ _ _ _ _ _ sc _ _ _ => sc
  | _ => { kind := .function, names := [], isGenerator := false, isCoroutine := false }

/-! ### no exception leaves a def -/
abbrev CX0 : CXT := fun _ _ _ _ _ _ => False
abbrev E0 : XK := fun _ _ _ => False
theorem pass0 {X : Cx} : Passes CX0 X E0 := fun _ _ _ _ _ _ _ h => h.elim

/-! ### a def (or method) of the text as it stands behind the top -/
structure Fun (K : PySem.W.Frag) (x qual : Str) (st : Stmt) (f : Addr) (fd : FuncData) : Prop where
  ex : ∃ (oc : Value) (od : Option Addr) (kV doc pm : Value) (an : Option Addr) (cdv ct : Value) (osl : Array (Option Value)),
    fd = PySem.W.fnOf x qual (defArgs st) (defBody st) (defScope st) .none kV doc pm an cdv ct ∧ K.lookup f = some ⟨oc, od, .func fd, osl⟩ ∧ PySem.W.codeIn K cdv qual = true
  kp : PySem.W.keepIn K (.ref f) = true
section
variable {P : Program} {w : World} {K : PySem.W.Frag} {mg : Str → Option Value} {base : Heap}
/-- THE RULE for a def: its body as a term of rules, and the reading of that term -/
theorem Fun.ok {x qual : Str} {st : Stmt} {f : Addr} {fd : FuncData} {N ps : List Str} {k : Nat} {sp : Sp} (F : Fun K x qual st f fd) (S : FnScope N ps (defScope st)) (len : ∀ vs H Q E, sp vs H Q E → vs.length = ps.length)
    (hbody : ∀ (cdv : Value) (A : Around) (outer : List Env) (s : Shared) (H : Hp) (vs : List V) (Q : VK) (E : XK), Room k (A.deeper (envOfC qual (defScope st) s.heap.objs.size f cdv)) → sp vs H Q E →
      ∃ t, PSs (cxOf CX0 P w K mg base N qual (defScope st) f cdv A outer s H E).nox (defBody st) t ∧ t { nx := fun _ H' => Q .non H', rt := Q } (start N vs) H) : FnOk P w K mg base CX0 (k + 1) f fd ps sp := by
  obtain ⟨oc, od, kV, doc, pm, an, cdv, ct, osl, rfl, lk, hcd⟩ := F.ex
  refine fn_of lk hcd S len fun A outer s H vs Q E hr hsp => ?_
  obtain ⟨t, h, q⟩ := hbody cdv A outer s H vs Q E hr hsp
  exact ⟨t, h.nox, q⟩
/-- how its arguments bind (no defaults): h is «fun _ _ _ _ _ _ us hl => match us, hl with | [_, _], _ => rfl», one _ a parameter -/
theorem Fun.binds {x qual : Str} {st : Stmt} {f : Addr} {fd : FuncData} {ps : List Str} (F : Fun K x qual st f fd)
    (h : ∀ (kV doc pm : Value) (an : Option Addr) (cdv ct : Value) (us : List Value), us.length = ps.length → bindArgs (PySem.W.fnOf x qual (defArgs st) (defBody st) (defScope st) .none kV doc pm an cdv ct) ⟨us, []⟩ = pure (ps.zip us)) : Binds K fd ps [] := by
  obtain ⟨oc, od, kV, doc, pm, an, cdv, ct, osl, rfl, lk, hcd⟩ := F.ex
  exact .all (h kV doc pm an cdv ct)
theorem fun_mk {x qual : Str} {st : Stmt} {f : Addr} {oc : Value} {od an : Option Addr} {osl : Array (Option Value)} {kV doc pm cdv ct : Value} (l : K.lookup f = some ⟨oc, od, .func (PySem.W.fnOf x qual (defArgs st) (defBody st) (defScope st) .none kV doc pm an cdv ct), osl⟩)
    (c : PySem.W.codeIn K cdv qual = true) (k : PySem.W.keepIn K (.ref f) = true) : Fun K x qual st f (PySem.W.fnOf x qual (defArgs st) (defBody st) (defScope st) .none kV doc pm an cdv ct) := ⟨⟨oc, od, kV, doc, pm, an, cdv, ct, osl, rfl, l, c⟩, k⟩
end
theorem hu_of {A : Around} {k : Nat} (hr : Room k A) : A.units + 1 < cLine := Nat.lt_of_le_of_lt (Nat.add_le_add_left (by decide : 1 ≤ 64) _) hr.units
theorem small1000 {n : Nat} (h : n ≤ 1000) : n < sizeLine := Nat.lt_of_le_of_lt h (by decide)

/-! ### expressions in short: the name that stands in the i-th slot -/
section
variable {X : Cx}
end

/-! ### tests -/
/-! ### heaps -/
/-- all that was tracked is as it was -/
def Same (H H' : Hp) : Prop := ∀ b o, H b = some o → H' b = some o
theorem Same.refl (H : Hp) : Same H H := fun _ _ h => h
theorem Same.trans {H H1 H2 : Hp} (a : Same H H1) (b : Same H1 H2) : Same H H2 := fun c o h => b c o (a c o h)
theorem Same.free {H H' : Hp} (e : Same H H') {l : Addr} (h : H' l = Option.none) : H l = Option.none := by
  cases q : H l with
  | none => rfl
  | some o =>
    rw [e l o q] at h
    cases h
theorem Same.seq {K : PySem.W.Frag} {H H' : Hp} {a : Addr} {xs : List V} (e : Same H H') (h : SqL K H a xs) : SqL K H' a xs := by
  rcases h with (h | ⟨o, h⟩) | h
  · exact .inl (.inl (e _ _ h))
  · exact .inl (.inr ⟨o, e _ _ h⟩)
  · exact .inr h

end L2
namespace L2
open PySem PySem.Spec PyProof.Rows
/-! ### isinstance -/
def cV : V → Option Value
  | .ty n => some (.type n)
  | .ref a => some (.ref a)
  | _ => none
def IsI (K : PySem.W.Frag) (H : Hp) (x c : V) (b : Bool) : Prop := ∃ t u, TyOf K H x t ∧ cV c = some u ∧ PySem.W.kitOne K t u = some b
theorem isI_int_int {K : PySem.W.Frag} {H : Hp} {i : Int} : IsI K H (.int i) (.ty "int") true := ⟨_, _, .int i, rfl, by with_unfolding_all rfl⟩
theorem isI_int_bool {K : PySem.W.Frag} {H : Hp} {i : Int} : IsI K H (.int i) (.ty "bool") false := ⟨_, _, .int i, rfl, by with_unfolding_all rfl⟩
theorem isI_non_int {K : PySem.W.Frag} {H : Hp} : IsI K H .non (.ty "int") false := ⟨_, _, .non, rfl, by with_unfolding_all rfl⟩
theorem isI_bl_bool {K : PySem.W.Frag} {H : Hp} {i : Bool} : IsI K H (.bl i) (.ty "bool") true := ⟨_, _, .bl i, rfl, by with_unfolding_all rfl⟩
theorem isI_str_str {K : PySem.W.Frag} {H : Hp} {i : Str} : IsI K H (.str i) (.ty "str") true := ⟨_, _, .str i, rfl, by with_unfolding_all rfl⟩
theorem isI_lst_list {K : PySem.W.Frag} {H : Hp} {a : Addr} {xs : List V} (e : H a = some (.lst xs)) : IsI K H (.ref a) (.ty "list") true := ⟨_, _, .lst e, rfl, by with_unfolding_all rfl⟩
end L2
namespace L2
open PySem
abbrev rAddI : R2 := rI0 fun i j => .int (i + j)
abbrev rSubI : R2 := rI0 fun i j => .int (i - j)
abbrev rMulI : R2 := rI CMul fun i j => .int (i * j)
abbrev rDivI : R2 := rI CDiv fun i j => .int (i / j)
abbrev rModI : R2 := rI (fun _ j => 0 < j) fun i j => .int (i % j)
abbrev rPowI : R2 := rI CPow fun i j => .int (i ^ j.toNat)
abbrev rLtI : R2 := rI0 fun i j => .bl (decide (i < j))
abbrev rGtI : R2 := rI0 fun i j => .bl (decide (j < i))
abbrev rNegI : V → Hp → VK → Prop := rU fun i => .int (-i)
def rIsN : R2 := fun x y H Q => y = .non ∧ Q (.bl (decide (x = .non))) H
def rNotN : R2 := fun x y H Q => y = .non ∧ Q (.bl (!decide (x = .non))) H
def rLenL (K : PySem.W.Frag) : List V → Hp → VK → Prop := fun xs H Q => ∃ p ys, xs = [.ref p] ∧ (SqL K H p ys ∨ SqT K H p ys) ∧ Q (.int ys.length) H
def rIsi (K : PySem.W.Frag) : List V → Hp → VK → Prop := fun xs H Q => ∃ x c b, xs = [x, c] ∧ IsI K H x c b ∧ Q (.bl b) H
theorem same_new {H : Hp} {p : Addr} (h : H p = none) (o : HO) : Same H (upd H p o) := fun b u q => by rw [upd_ne (ne_of_none q h)]; exact q
/-! ### the readings, for simp -/
section
variable {K : PySem.W.Frag} {σ : St} {H : Hp} {Q : VK} {ta tb tc : TE} {tA tB' : TT} {t u : TS} {D : Ends}
theorem w_not {Q : Bool → Hp → Prop} : tNot tA σ H Q = tA σ H fun c H1 => Q (!c) H1 := rfl
end
end L2
namespace L2
open PySem
/-! ### texts -/
def rListOf (K : PySem.W.Frag) : List V → Hp → VK → Prop := fun xs H Q => ∃ p ys, xs = [.ref p] ∧ (SqL K H p ys ∨ SqT K H p ys) ∧ ∀ l, H l = none → Q (.ref l) (upd H l (.lst ys))
/-! ### a comprehension: the list at D grows -/
def CLoop (J : It) (te : TE) (inn : V → St) (D : Addr) (Q : VK) (H : Hp) : Prop := ∃ W : Nat → Nat → Hp → Prop, (∃ m, W 0 m H) ∧ ∀ i m H, W i m H →
  (J.stop i H ∧ Q (.ref D) H) ∨ (J.go i H ∧ ∀ x H', J.yld i H x H' → te (inn x) H' fun y H2 => ∃ acc, H2 D = some (.lst acc) ∧ acc.length < sizeLine ∧ ∃ m', m' < m ∧ W (i + 1) m' (upd H2 D (.lst (acc ++ [y]))))
def inner (ix : List Nat) (σ : St) (x : V) : St := some x :: ix.map fun i => (σ[i]?).getD none
def tComp (wi : TI) (ix : List Nat) (te : TE) : TE := fun σ H Q => wi σ H fun J H1 => ∀ D, H1 D = none → CLoop J te (inner ix σ) D Q (upd H1 D (.lst []))
section
variable {K : PySem.W.Frag} {σ : St} {H : Hp} {Q : VK} {ta tb tc : TE} {tA tB' : TT} {t u : TS} {D : Ends}
end
end L2
namespace L2
open PySem
/-! ### objects of the text: classes by kinds -/
theorem lk_hd {k : Str} {v : V} {r : List (Str × V)} : List.lookup k ((k, v) :: r) = some v := by simp [List.lookup]
theorem lk_tl {k k' : Str} {v : V} {r : List (Str × V)} (h : ¬ k = k') : List.lookup k ((k', v) :: r) = List.lookup k r := by
  have : (k == k') = false := by simpa using h
  simp [List.lookup, this]
section
variable {K : PySem.W.Frag} {σ : St} {H : Hp} {Q : VK} {ta tb tc : TE} {t u : TS} {D : Ends}
end
/-! ### heaps that keep lists, tuples and instances: what a new object leaves -/
end L2
namespace L2
open PySem PySem.Builtin PySem.Builtin.Str
end L2
/-! ### a comprehension [elt for x in iter], its names captured -/
namespace L2
open PySem PySem.Spec PyProof.Rows
theorem lookup_relabel {env : Env} (y : Str) : ∀ names : List (Str × NameKind),
    (names.map fun (n, k) => if (k == NameKind.free && env.scope.kind == .function && env.kindOf n == some .cell) then (n, NameKind.cell) else (n, k)).lookup y
      = (names.lookup y).map fun k => if (k == NameKind.free && env.scope.kind == .function && env.kindOf y == some .cell) then NameKind.cell else k
  | [] => rfl
  | (n, k) :: r => by
    have ih := lookup_relabel (env := env) y r
    show List.lookup y ((if (k == NameKind.free && env.scope.kind == .function && env.kindOf n == some .cell) = true then (n, NameKind.cell) else (n, k)) :: _) = _
    cases hx : y == n with
    | true =>
      have e : y = n := eq_of_beq hx
      subst e
      by_cases hc : (k == NameKind.free && env.scope.kind == .function && env.kindOf y == some .cell) = true
      · rw [if_pos hc]
        simp only [List.lookup_cons, hx, Option.map_some, if_pos hc]
      · rw [if_neg hc]
        simp only [List.lookup_cons, hx, Option.map_some, if_neg hc]
    | false =>
      by_cases hc : (k == NameKind.free && env.scope.kind == .function && env.kindOf n == some .cell) = true
      · rw [if_pos hc]; simp only [List.lookup_cons, hx]; exact ih
      · rw [if_neg hc]; simp only [List.lookup_cons, hx]; exact ih
/-- the cells of the free names -/
theorem closure_some {env : Env} : ∀ (names : List (Str × NameKind)) (cs : List (Str × Addr)), (∀ n, (n, NameKind.free) ∈ names → ∃ c, env.cells.lookup n = some c) →
    ∃ cl, (forIn names cs (fun (x : Str × NameKind) (r : List (Str × Addr)) => if (x.2 == NameKind.free) = true then do let c ← cellOf env x.1; pure (ForInStep.yield ((x.1, c) :: r)) else pure (ForInStep.yield r)) : Sem (List (Str × Addr))) = pure cl ∧
      (∀ y, (y, NameKind.free) ∈ names → cl.lookup y = env.cells.lookup y) ∧ (∀ y, (y, NameKind.free) ∉ names → cl.lookup y = cs.lookup y)
  | [], cs, _ => ⟨cs, rfl, fun y h => by simp at h, fun y _ => rfl⟩
  | (n, k) :: r, cs, h => by
    by_cases hk : k = .free
    · subst hk
      obtain ⟨c, hc⟩ := h n List.mem_cons_self
      obtain ⟨cl, e, h1, h2⟩ := closure_some r ((n, c) :: cs) fun y hy => h y (List.mem_cons_of_mem _ hy)
      refine ⟨cl, ?_, fun y hy => ?_, fun y hy => ?_⟩
      · rw [List.forIn_cons]
        have e0 : cellOf env n = pure c := by unfold cellOf; rw [hc]
        simp only [beq_self_eq_true, if_true, e0, pure_bind]
        exact e
      · by_cases hr : (y, NameKind.free) ∈ r
        · exact h1 y hr
        · rw [h2 y hr]
          rcases List.mem_cons.mp hy with z | z
          · cases z
            rw [hc]; simp [List.lookup]
          · exact absurd z hr
      · have hr : (y, NameKind.free) ∉ r := fun z => hy (List.mem_cons_of_mem _ z)
        rw [h2 y hr]
        have hn : (y == n) = false := by
          cases e : y == n with
          | false => rfl
          | true => exact absurd (by rw [eq_of_beq e]; exact List.mem_cons_self) hy
        simp [List.lookup, hn]
    · obtain ⟨cl, e, h1, h2⟩ := closure_some r cs fun y hy => h y (List.mem_cons_of_mem _ hy)
      have hb : (k == NameKind.free) = false := by simpa using hk
      refine ⟨cl, ?_, fun y hy => ?_, fun y hy => ?_⟩
      · rw [List.forIn_cons]
        simp only [hb, Bool.false_eq_true, if_false, pure_bind]
        exact e
      · rcases List.mem_cons.mp hy with z | z
        · cases z; exact absurd rfl hk
        · exact h1 y z
      · exact h2 y fun z => hy (List.mem_cons_of_mem _ z)
/-- the context of a comprehension's block -/
def cxC (X : Cx) (scope : Scope) (cl : List (Str × Addr)) (C : Addr) (N : List Str) (s₃ : Shared) (H₃ : Hp) (fp : List Addr) (pins : List (Addr × Obj)) : Cx :=
  { prog := X.prog, w := X.w, K := X.K, mg := X.mg, base := X.base, A := X.A, N := N, s₀ := s₃, H₀ := H₃, env := compEnvC scope cl C X.env, outer := X.stack, stack := X.stack, ex := fp, fn := fun _ => false, calm := X.calm, pn := X.pn ++ pins, xe := fun _ _ => False }
/-- the captured names -/
def FrOk (X : Cx) (scope : Scope) : List Nat → List Str → Prop
  | [], [] => True
  | i :: is, y :: ys => X.N[i]? = some y ∧ scope.names.lookup y = some .free ∧ X.env.kindOf y = some .cell ∧ FrOk X scope is ys
  | _, _ => False
theorem FrOk.len {X : Cx} {scope : Scope} : ∀ {is : List Nat} {ys : List Str}, FrOk X scope is ys → is.length = ys.length
  | [], [], _ => rfl
  | _ :: is, _ :: ys, h => by rw [List.length_cons, List.length_cons, FrOk.len h.2.2.2]
theorem FrOk.get {X : Cx} {scope : Scope} : ∀ {is : List Nat} {ys : List Str} {j : Nat} {y : Str}, FrOk X scope is ys → ys[j]? = some y → ∃ i, is[j]? = some i ∧ X.N[i]? = some y ∧ scope.names.lookup y = some .free ∧ X.env.kindOf y = some .cell
  | [], [], _, _, _, e => by simp at e
  | [], _ :: _, _, _, h, _ => h.elim
  | _ :: _, [], _, _, h, _ => h.elim
  | i :: is, z :: ys, 0, y, h, e => by
    simp at e
    subst e
    exact ⟨i, rfl, h.1, h.2.1, h.2.2.1⟩
  | i :: is, z :: ys, j + 1, y, h, e => by
    obtain ⟨k, h1, h2⟩ := FrOk.get (j := j) h.2.2.2 (by simpa using e)
    exact ⟨k, by simpa using h1, h2⟩
end L2
/-! ### more rules -/
namespace L2
open PySem PySem.Spec PyProof.Rows
section
variable {X : Cx} {tg : Expr}
/-! ### all, sum -/
/-! ### texts -/
/-! ### == of two lists of plain items -/
/-! ### an object without __init__; a method by the object's class -/
end
end L2
namespace L2
open PySem PySem.Spec PyProof.Rows
section
variable {X : Cx}
theorem call_isinst : CallR X (.builtin "isinstance") (rIsi X.K) := by
  intro pins s σ H xs us Q I r h
  obtain ⟨x, c, b, rfl, ⟨t, u', ty, hc, hk⟩, q⟩ := h
  obtain ⟨u, w', rfl, ru, rc⟩ := vals2 r
  have e : w' = u' := by
    cases c <;> first | (cases hc; exact rc) | cases hc
  subst e
  exact isinst_ok I ru ty hk fun tk => ⟨.bl b, H, I.tok tk, rfl, q⟩
end
end L2
namespace L2
open PySem PySem.Spec PyProof.Rows
theorem bt_len : bootBuiltins "len" = some (.builtin "len") := by decide +kernel
theorem bt_isinstance : bootBuiltins "isinstance" = some (.builtin "isinstance") := by decide +kernel
theorem bt_int : bootBuiltins "int" = some (.type "int") := by decide +kernel
theorem bt_str : bootBuiltins "str" = some (.type "str") := by decide +kernel
theorem bt_bool : bootBuiltins "bool" = some (.type "bool") := by decide +kernel
theorem bt_list : bootBuiltins "list" = some (.type "list") := by decide +kernel
theorem bt_tuple : bootBuiltins "tuple" = some (.type "tuple") := by decide +kernel
section
variable {X : Cx}
theorem pe_gty {x : Str} {n : String} {pos : Pos} (hg : Gl X x) (hm : X.mg x = none) (hv : bootBuiltins x = some (.type n)) (hn : x ≠ "__name__" := by decide) (hd : (x == ("__debug__" : Str)) = false := by decide) : PE X (.Name x pos) (tC (.ty n)) := pe_bltn hg hm hv rfl hn hd
end
end L2
namespace L2
open PySem PySem.Spec PyProof.Rows
theorem isI_int_str {K : PySem.W.Frag} {H : Hp} {i : Int} : IsI K H (.int i) (.ty "str") false := ⟨_, _, .int i, rfl, by with_unfolding_all rfl⟩
theorem isI_int_list {K : PySem.W.Frag} {H : Hp} {i : Int} : IsI K H (.int i) (.ty "list") false := ⟨_, _, .int i, rfl, by with_unfolding_all rfl⟩
theorem isI_int_tuple {K : PySem.W.Frag} {H : Hp} {i : Int} : IsI K H (.int i) (.ty "tuple") false := ⟨_, _, .int i, rfl, by with_unfolding_all rfl⟩
theorem isI_int_dict {K : PySem.W.Frag} {H : Hp} {i : Int} : IsI K H (.int i) (.ty "dict") false := ⟨_, _, .int i, rfl, by with_unfolding_all rfl⟩
theorem isI_bl_int {K : PySem.W.Frag} {H : Hp} {i : Bool} : IsI K H (.bl i) (.ty "int") true := ⟨_, _, .bl i, rfl, by with_unfolding_all rfl⟩
theorem isI_bl_str {K : PySem.W.Frag} {H : Hp} {i : Bool} : IsI K H (.bl i) (.ty "str") false := ⟨_, _, .bl i, rfl, by with_unfolding_all rfl⟩
theorem isI_bl_list {K : PySem.W.Frag} {H : Hp} {i : Bool} : IsI K H (.bl i) (.ty "list") false := ⟨_, _, .bl i, rfl, by with_unfolding_all rfl⟩
theorem isI_bl_tuple {K : PySem.W.Frag} {H : Hp} {i : Bool} : IsI K H (.bl i) (.ty "tuple") false := ⟨_, _, .bl i, rfl, by with_unfolding_all rfl⟩
theorem isI_bl_dict {K : PySem.W.Frag} {H : Hp} {i : Bool} : IsI K H (.bl i) (.ty "dict") false := ⟨_, _, .bl i, rfl, by with_unfolding_all rfl⟩
theorem isI_str_int {K : PySem.W.Frag} {H : Hp} {i : Str} : IsI K H (.str i) (.ty "int") false := ⟨_, _, .str i, rfl, by with_unfolding_all rfl⟩
theorem isI_str_bool {K : PySem.W.Frag} {H : Hp} {i : Str} : IsI K H (.str i) (.ty "bool") false := ⟨_, _, .str i, rfl, by with_unfolding_all rfl⟩
theorem isI_str_list {K : PySem.W.Frag} {H : Hp} {i : Str} : IsI K H (.str i) (.ty "list") false := ⟨_, _, .str i, rfl, by with_unfolding_all rfl⟩
theorem isI_str_tuple {K : PySem.W.Frag} {H : Hp} {i : Str} : IsI K H (.str i) (.ty "tuple") false := ⟨_, _, .str i, rfl, by with_unfolding_all rfl⟩
theorem isI_str_dict {K : PySem.W.Frag} {H : Hp} {i : Str} : IsI K H (.str i) (.ty "dict") false := ⟨_, _, .str i, rfl, by with_unfolding_all rfl⟩
theorem isI_non_bool {K : PySem.W.Frag} {H : Hp} : IsI K H (.non) (.ty "bool") false := ⟨_, _, .non, rfl, by with_unfolding_all rfl⟩
theorem isI_non_str {K : PySem.W.Frag} {H : Hp} : IsI K H (.non) (.ty "str") false := ⟨_, _, .non, rfl, by with_unfolding_all rfl⟩
theorem isI_non_list {K : PySem.W.Frag} {H : Hp} : IsI K H (.non) (.ty "list") false := ⟨_, _, .non, rfl, by with_unfolding_all rfl⟩
theorem isI_non_tuple {K : PySem.W.Frag} {H : Hp} : IsI K H (.non) (.ty "tuple") false := ⟨_, _, .non, rfl, by with_unfolding_all rfl⟩
theorem isI_non_dict {K : PySem.W.Frag} {H : Hp} : IsI K H (.non) (.ty "dict") false := ⟨_, _, .non, rfl, by with_unfolding_all rfl⟩
theorem isI_lst_int {K : PySem.W.Frag} {H : Hp} {a : Addr} {xs : List V} (e : H a = some (.lst xs)) : IsI K H (.ref a) (.ty "int") false := ⟨_, _, .lst e, rfl, by with_unfolding_all rfl⟩
theorem isI_lst_bool {K : PySem.W.Frag} {H : Hp} {a : Addr} {xs : List V} (e : H a = some (.lst xs)) : IsI K H (.ref a) (.ty "bool") false := ⟨_, _, .lst e, rfl, by with_unfolding_all rfl⟩
theorem isI_lst_str {K : PySem.W.Frag} {H : Hp} {a : Addr} {xs : List V} (e : H a = some (.lst xs)) : IsI K H (.ref a) (.ty "str") false := ⟨_, _, .lst e, rfl, by with_unfolding_all rfl⟩
theorem isI_lst_tuple {K : PySem.W.Frag} {H : Hp} {a : Addr} {xs : List V} (e : H a = some (.lst xs)) : IsI K H (.ref a) (.ty "tuple") false := ⟨_, _, .lst e, rfl, by with_unfolding_all rfl⟩
theorem isI_lst_dict {K : PySem.W.Frag} {H : Hp} {a : Addr} {xs : List V} (e : H a = some (.lst xs)) : IsI K H (.ref a) (.ty "dict") false := ⟨_, _, .lst e, rfl, by with_unfolding_all rfl⟩
theorem isI_tup_tuple {K : PySem.W.Frag} {H : Hp} {a : Addr} (e : (∃ xs, H a = some (.tup xs)) ∨ ∃ o, K.lookup a = some o ∧ o.cls = .type "tuple") : IsI K H (.ref a) (.ty "tuple") true := e.elim (fun ⟨_, e⟩ => ⟨_, _, .tup e, rfl, by with_unfolding_all rfl⟩) fun ⟨_, e, c⟩ => ⟨_, _, .kt e c, rfl, by with_unfolding_all rfl⟩
theorem isI_tup_int {K : PySem.W.Frag} {H : Hp} {a : Addr} (e : (∃ xs, H a = some (.tup xs)) ∨ ∃ o, K.lookup a = some o ∧ o.cls = .type "tuple") : IsI K H (.ref a) (.ty "int") false := e.elim (fun ⟨_, e⟩ => ⟨_, _, .tup e, rfl, by with_unfolding_all rfl⟩) fun ⟨_, e, c⟩ => ⟨_, _, .kt e c, rfl, by with_unfolding_all rfl⟩
theorem isI_tup_bool {K : PySem.W.Frag} {H : Hp} {a : Addr} (e : (∃ xs, H a = some (.tup xs)) ∨ ∃ o, K.lookup a = some o ∧ o.cls = .type "tuple") : IsI K H (.ref a) (.ty "bool") false := e.elim (fun ⟨_, e⟩ => ⟨_, _, .tup e, rfl, by with_unfolding_all rfl⟩) fun ⟨_, e, c⟩ => ⟨_, _, .kt e c, rfl, by with_unfolding_all rfl⟩
theorem isI_tup_str {K : PySem.W.Frag} {H : Hp} {a : Addr} (e : (∃ xs, H a = some (.tup xs)) ∨ ∃ o, K.lookup a = some o ∧ o.cls = .type "tuple") : IsI K H (.ref a) (.ty "str") false := e.elim (fun ⟨_, e⟩ => ⟨_, _, .tup e, rfl, by with_unfolding_all rfl⟩) fun ⟨_, e, c⟩ => ⟨_, _, .kt e c, rfl, by with_unfolding_all rfl⟩
theorem isI_tup_list {K : PySem.W.Frag} {H : Hp} {a : Addr} (e : (∃ xs, H a = some (.tup xs)) ∨ ∃ o, K.lookup a = some o ∧ o.cls = .type "tuple") : IsI K H (.ref a) (.ty "list") false := e.elim (fun ⟨_, e⟩ => ⟨_, _, .tup e, rfl, by with_unfolding_all rfl⟩) fun ⟨_, e, c⟩ => ⟨_, _, .kt e c, rfl, by with_unfolding_all rfl⟩
theorem isI_tup_dict {K : PySem.W.Frag} {H : Hp} {a : Addr} (e : (∃ xs, H a = some (.tup xs)) ∨ ∃ o, K.lookup a = some o ∧ o.cls = .type "tuple") : IsI K H (.ref a) (.ty "dict") false := e.elim (fun ⟨_, e⟩ => ⟨_, _, .tup e, rfl, by with_unfolding_all rfl⟩) fun ⟨_, e, c⟩ => ⟨_, _, .kt e c, rfl, by with_unfolding_all rfl⟩
end L2
namespace L2
open PySem PySem.Spec PyProof.Rows
theorem all_cons {α : Type} {p : α → Prop} {a : α} {l : List α} (h : p a) (t : ∀ x ∈ l, p x) : ∀ x ∈ a :: l, p x := fun x hx => by
  rcases List.mem_cons.mp hx with e | e
  · rw [e]; exact h
  · exact t x e
end L2
namespace PX
open PySem L2
/-! ## values without addresses -/
/-- the text's part of the heap; the classes by numbers -/
structure Ck where
  K : PySem.W.Frag
  A : Nat → Addr
inductive PV where
  | non | bl (b : Bool) | int (i : Int) | str (s : Str) | ty (n : String) | cls (k : Nat)
  | scr (ns : List Int)
  | lst (xs : List PV) | tup (xs : List PV)
  | ins (k : Nat) (ns : List Str) (xs : List PV)
  | loc (n : Nat)
inductive Nd where
  | lst (xs : List PV) | dct (ks : List Key) (xs : List PV) | fz (ks : List Key) (xs : List PV) | ins (k : Nat) (ns : List Str) (xs : List PV) | dead
abbrev AH := List Nd
inductive PVar where | no | val (x : PV) | own (d : Nd)
abbrev PSt := List PVar
inductive Out where | nx (ρ : PSt) | rt (x : PV) | bk (ρ : PSt) | ct (ρ : PSt)
abbrev XE := PSt → AH → Option (PV × AH)
abbrev XT := PSt → AH → Option (Bool × AH)
abbrev XA := PSt → AH → Option (List PV × AH)
abbrev XO := PSt → AH → Option (Nd × AH)
abbrev XS := PSt → AH → Option (Out × AH)
abbrev Fn := List PV → AH → Option (PV × AH)
/-- a tuple that is the text's own -/
def KTp (K : PySem.W.Frag) (a : Addr) (xs : List V) : Prop := ∃ (o : Obj) (its : Array Value) (n : Nat), K.lookup a = some o ∧ o.cls = .type "tuple" ∧ o.data = .seq its n ∧ its.size ≤ sizeLine ∧ Vals xs its.toList
def TpAt (K : PySem.W.Frag) (F : Hp) (a : Addr) (xs : List V) : Prop := F a = some (.tup xs) ∨ KTp K a xs
theorem TpAt.mono {K : PySem.W.Frag} {F F' : Hp} {a : Addr} {xs : List V} (s : Same F F') (h : TpAt K F a xs) : TpAt K F' a xs := h.elim (fun h => .inl (s _ _ h)) .inr
mutual
def Rep (K : Ck) (F : Hp) (m : List Addr) : PV → V → Prop
  | .non, v => v = .non
  | .bl b, v => v = .bl b
  | .int i, v => v = .int i
  | .str s, v => v = .str s
  | .ty n, v => v = .ty n
  | .cls k, v => v = .ref (K.A k)
  | .scr ns, v => ∃ a, v = .ref a ∧ SqL K.K F a (ns.map V.int)
  | .lst xs, v => ∃ a vs, v = .ref a ∧ F a = some (.lst vs) ∧ RepL K F m xs vs
  | .tup xs, v => ∃ a vs, v = .ref a ∧ TpAt K.K F a vs ∧ RepL K F m xs vs
  | .ins k ns xs, v => ∃ a dx vs, v = .ref a ∧ F a = some (.ins (K.A k) dx (ns.zip vs)) ∧ vs.length = ns.length ∧ RepL K F m xs vs
  | .loc n, v => ∃ a, v = .ref a ∧ m[n]? = some a
def RepL (K : Ck) (F : Hp) (m : List Addr) : List PV → List V → Prop
  | [], vs => vs = []
  | x :: xs, vs => ∃ v r, vs = v :: r ∧ Rep K F m x v ∧ RepL K F m xs r
end
section
variable {K : Ck} {F F' H H' : Hp} {m m' : List Addr}
theorem pre_get {n : Nat} {a : Addr} (p : m <+: m') (h : m[n]? = some a) : m'[n]? = some a := by
  obtain ⟨r, rfl⟩ := p
  rw [List.getElem?_append_left (List.getElem?_eq_some_iff.mp h).1]; exact h
mutual
theorem Rep.mono (s : Same F F') (p : m <+: m') : ∀ (x : PV) (v : V), Rep K F m x v → Rep K F' m' x v
  | .non, _, h => h
  | .bl _, _, h => h
  | .int _, _, h => h
  | .str _, _, h => h
  | .ty _, _, h => h
  | .cls _, _, h => h
  | .scr _, _, ⟨a, e, h⟩ => ⟨a, e, s.seq h⟩
  | .lst xs, _, ⟨a, vs, e, h, r⟩ => ⟨a, vs, e, s _ _ h, RepL.mono s p xs vs r⟩
  | .tup xs, _, ⟨a, vs, e, h, r⟩ => ⟨a, vs, e, h.mono s, RepL.mono s p xs vs r⟩
  | .ins _ _ xs, _, ⟨a, dx, vs, e, h, l, r⟩ => ⟨a, dx, vs, e, s _ _ h, l, RepL.mono s p xs vs r⟩
  | .loc _, _, ⟨a, e, h⟩ => ⟨a, e, pre_get p h⟩
theorem RepL.mono (s : Same F F') (p : m <+: m') : ∀ (xs : List PV) (vs : List V), RepL K F m xs vs → RepL K F' m' xs vs
  | [], _, h => h
  | x :: xs, _, ⟨v, r, e, h, l⟩ => ⟨v, r, e, Rep.mono s p x v h, RepL.mono s p xs r l⟩
end
theorem RepL.len : ∀ {xs : List PV} {vs : List V}, RepL K F m xs vs → vs.length = xs.length
  | [], _, h => by rw [show _ = [] from h]; rfl
  | x :: xs, _, ⟨v, r, e, h, l⟩ => by rw [e, List.length_cons, List.length_cons, RepL.len l]
theorem RepL.get : ∀ {xs : List PV} {vs : List V} {i : Nat} {x : PV}, RepL K F m xs vs → xs[i]? = some x → ∃ v, vs[i]? = some v ∧ Rep K F m x v
  | x :: xs, _, 0, y, ⟨v, r, e, h, l⟩, q => by
    simp at q; subst q; subst e; exact ⟨v, rfl, h⟩
  | x :: xs, _, i + 1, y, ⟨v, r, e, h, l⟩, q => by
    subst e
    obtain ⟨w, h1, h2⟩ := RepL.get (i := i) l (by simpa using q)
    exact ⟨w, by simpa using h1, h2⟩
theorem RepL.get' {xs : List PV} {vs : List V} {i : Nat} {v : V} (h : RepL K F m xs vs) (e : vs[i]? = some v) : ∃ x, xs[i]? = some x ∧ Rep K F m x v := by
  have hl := h.len
  have hi : i < vs.length := (List.getElem?_eq_some_iff.mp e).1
  have hx : xs[i]? = some xs[i] := List.getElem?_eq_getElem (by omega)
  obtain ⟨w, h1, h2⟩ := h.get hx
  rw [e] at h1; cases h1
  exact ⟨_, hx, h2⟩
theorem RepL.app : ∀ {xs ys : List PV} {vs us : List V}, RepL K F m xs vs → RepL K F m ys us → RepL K F m (xs ++ ys) (vs ++ us)
  | [], _, _, _, h, k => by rw [show _ = [] from h]; exact k
  | x :: xs, ys, _, us, ⟨v, r, e, h, l⟩, k => by subst e; exact ⟨v, r ++ us, rfl, h, RepL.app l k⟩
theorem RepL.snoc {xs : List PV} {vs : List V} {x : PV} {v : V} (h : RepL K F m xs vs) (k : Rep K F m x v) : RepL K F m (xs ++ [x]) (vs ++ [v]) := h.app ⟨v, [], rfl, k, rfl⟩
theorem RepL.drop : ∀ {xs : List PV} {vs : List V} (n : Nat), RepL K F m xs vs → RepL K F m (xs.drop n) (vs.drop n)
  | _, _, 0, h => by simpa using h
  | [], _, n + 1, h => by rw [show _ = [] from h]; rfl
  | x :: xs, _, n + 1, ⟨v, r, e, h, l⟩ => by subst e; simpa using RepL.drop n l
theorem RepL.take : ∀ {xs : List PV} {vs : List V} (n : Nat), RepL K F m xs vs → RepL K F m (xs.take n) (vs.take n)
  | _, _, 0, h => by simp; rfl
  | [], _, n + 1, h => by rw [show _ = [] from h]; rfl
  | x :: xs, _, n + 1, ⟨v, r, e, h, l⟩ => by subst e; exact ⟨v, r.take n, rfl, h, RepL.take n l⟩
theorem RepL.set : ∀ {xs : List PV} {vs : List V} {x : PV} {v : V} (i : Nat), RepL K F m xs vs → Rep K F m x v → RepL K F m (xs.set i x) (vs.set i v)
  | [], _, _, _, _, h, _ => by rw [show _ = [] from h]; rfl
  | y :: xs, _, x, v, 0, ⟨w, r, e, h, l⟩, k => by subst e; exact ⟨v, r, rfl, k, l⟩
  | y :: xs, _, x, v, i + 1, ⟨w, r, e, h, l⟩, k => by subst e; exact ⟨w, r.set i v, rfl, h, RepL.set i l k⟩
theorem RepL.ints : ∀ {ns : List Int} {vs : List V}, RepL K F m (ns.map PV.int) vs → vs = ns.map V.int
  | [], _, h => h
  | n :: ns, _, ⟨v, r, e, h, l⟩ => by rw [e, show v = .int n from h, RepL.ints l]; rfl
theorem RepL.of_ints : ∀ (ns : List Int), RepL K F m (ns.map PV.int) (ns.map V.int)
  | [] => rfl
  | n :: ns => ⟨_, _, rfl, rfl, RepL.of_ints ns⟩
theorem RepL.strs : ∀ {ns : List Str} {vs : List V}, RepL K F m (ns.map PV.str) vs → vs = ns.map V.str
  | [], _, h => h
  | n :: ns, _, ⟨v, r, e, h, l⟩ => by rw [e, show v = .str n from h, RepL.strs l]; rfl
end
/-! ## worlds -/
def NdAt (K : Ck) (F H : Hp) (m : List Addr) : Nd → Addr → Prop
  | .dead, a => ∃ o, H a = some o
  | .lst xs, a => F a = none ∧ ∃ vs, H a = some (.lst vs) ∧ RepL K F m xs vs
  | .dct ks xs, a => F a = none ∧ ∃ vs, H a = some (.dK (ks.zip vs)) ∧ vs.length = ks.length ∧ RepL K F m xs vs
  | .fz ks xs, a => F a = none ∧ ∃ o vs, H a = some (.frz o (.dK (ks.zip vs))) ∧ vs.length = ks.length ∧ RepL K F m xs vs
  | .ins k ns xs, a => F a = none ∧ ∃ dx vs, H a = some (.ins (K.A k) dx (ns.zip vs)) ∧ vs.length = ns.length ∧ RepL K F m xs vs
structure Wd where
  F : Hp
  H : Hp
  m : List Addr
  h : AH
structure WOk (K : Ck) (W : Wd) : Prop where
  le : Same W.F W.H
  len : W.m.length = W.h.length
  nd : W.m.Nodup
  at_ : ∀ (n : Nat) (d : Nd) (a : Addr), W.h[n]? = some d → W.m[n]? = some a → NdAt K W.F W.H W.m d a
structure Le (K : Ck) (W W' : Wd) : Prop where
  ok : WOk K W'
  fs : Same W.F W'.F
  pre : W.m <+: W'.m
  keep : ∀ b o, W.H b = some o → b ∉ W.m → W'.H b = some o
  new : ∀ b o, W.H b = some o → b ∉ W.m → W.F b = none → W'.F b = none
  mn : ∀ b ∈ W'.m, b ∉ W.m → W.H b = none
  fz : ∀ (n : Nat) (ks : List Key) (xs : List PV), W.h[n]? = some (.fz ks xs) → W'.h[n]? = some (.fz ks xs) ∧ ∀ a, W.m[n]? = some a → W'.H a = W.H a
theorem Le.refl {K : Ck} {W : Wd} (h : WOk K W) : Le K W W := ⟨h, Same.refl _, List.prefix_refl _, fun _ _ e _ => e, fun _ _ _ _ e => e, fun _ h h' => absurd h h', fun _ _ _ e => ⟨e, fun _ _ => rfl⟩⟩
theorem Le.trans {K : Ck} {W W1 W2 : Wd} (a : Le K W W1) (b : Le K W1 W2) : Le K W W2 where
  ok := b.ok
  fs := a.fs.trans b.fs
  pre := a.pre.trans b.pre
  keep := fun c o e n => b.keep c o (a.keep c o e n) fun z => by rw [a.mn c z n] at e; cases e
  new := fun c o e n f => b.new c o (a.keep c o e n) (fun z => by rw [a.mn c z n] at e; cases e) (a.new c o e n f)
  mn := fun c z n => by
    by_cases hc : c ∈ W1.m
    · exact a.mn c hc n
    · have := b.mn c z hc
      cases e : W.H c with
      | none => rfl
      | some o => rw [a.keep c o e n] at this; cases this
  fz := fun n ks xs e => by
    obtain ⟨e1, q1⟩ := a.fz n ks xs e
    obtain ⟨e2, q2⟩ := b.fz n ks xs e1
    exact ⟨e2, fun c em => (q2 c (pre_get a.pre em)).trans (q1 c em)⟩
abbrev RepW (K : Ck) (W : Wd) (x : PV) (v : V) : Prop := Rep K W.F W.m x v
abbrev RepLW (K : Ck) (W : Wd) (x : List PV) (v : List V) : Prop := RepL K W.F W.m x v
theorem Le.rep {K : Ck} {W W' : Wd} (l : Le K W W') {x : PV} {v : V} (h : RepW K W x v) : RepW K W' x v := Rep.mono l.fs l.pre x v h
theorem Le.repL {K : Ck} {W W' : Wd} (l : Le K W W') {x : List PV} {v : List V} (h : RepLW K W x v) : RepLW K W' x v := RepL.mono l.fs l.pre x v h
theorem NdAt.mono {K : Ck} {F F' H H' : Hp} {m m' : List Addr} (s : Same F F') (p : m <+: m') {d : Nd} {a : Addr} (hH : ∀ o, H a = some o → H' a = some o) (hF : F a = none → F' a = none) (h : NdAt K F H m d a) : NdAt K F' H' m' d a := by
  cases d with
  | dead => obtain ⟨o, e⟩ := h; exact ⟨o, hH _ e⟩
  | lst xs => obtain ⟨f, vs, e, r⟩ := h; exact ⟨hF f, vs, hH _ e, RepL.mono s p _ _ r⟩
  | dct ks xs => obtain ⟨f, vs, e, l, r⟩ := h; exact ⟨hF f, vs, hH _ e, l, RepL.mono s p _ _ r⟩
  | fz ks xs => obtain ⟨f, o, vs, e, l, r⟩ := h; exact ⟨hF f, o, vs, hH _ e, l, RepL.mono s p _ _ r⟩
  | ins C ns xs => obtain ⟨f, dx, vs, e, l, r⟩ := h; exact ⟨hF f, dx, vs, hH _ e, l, RepL.mono s p _ _ r⟩
theorem NdAt.some {K : Ck} {F H : Hp} {m : List Addr} {d : Nd} {a : Addr} (h : NdAt K F H m d a) : ∃ o, H a = some o := by
  cases d with
  | dead => exact h
  | lst xs => obtain ⟨f, vs, e, r⟩ := h; exact ⟨_, e⟩
  | dct ks xs => obtain ⟨f, vs, e, r⟩ := h; exact ⟨_, e⟩
  | fz ks xs => obtain ⟨f, o, vs, e, r⟩ := h; exact ⟨_, e⟩
  | ins C ns xs => obtain ⟨f, dx, vs, e, r⟩ := h; exact ⟨_, e⟩
theorem NdAt.free {K : Ck} {F H : Hp} {m : List Addr} {d : Nd} {a : Addr} (h : NdAt K F H m d a) (hd : d ≠ .dead) : F a = none := by
  cases d with
  | dead => exact absurd rfl hd
  | lst xs => exact h.1
  | dct ks xs => exact h.1
  | fz ks xs => exact h.1
  | ins C ns xs => exact h.1
/-- W: now; W0: where the def began -/
structure Good (K : Ck) (W0 W : Wd) (ρ : PSt) (σ : St) : Prop where
  le : Le K W0 W
  len : σ.length = ρ.length
  val : ∀ (i : Nat) (x : PV), ρ[i]? = some (.val x) → ∃ v, σ[i]? = some (some v) ∧ RepW K W x v
  own : ∀ (i : Nat) (d : Nd), ρ[i]? = some (.own d) → ∃ p, σ[i]? = some (some (.ref p)) ∧ p ∉ W.m ∧ W0.H p = none ∧ d ≠ .dead ∧ NdAt K W.F W.H W.m d p
  ne : ∀ (i j : Nat) (d d' : Nd), i ≠ j → ρ[i]? = some (.own d) → ρ[j]? = some (.own d') → σ[i]? ≠ σ[j]?
theorem Good.ok {K : Ck} {W0 W : Wd} {ρ : PSt} {σ : St} (g : Good K W0 W ρ σ) : WOk K W := g.le.ok
theorem Good.step {K : Ck} {W0 W W' : Wd} {ρ : PSt} {σ : St} (g : Good K W0 W ρ σ) (l : Le K W W') : Good K W0 W' ρ σ where
  le := g.le.trans l
  len := g.len
  val := fun i x e => let ⟨v, h1, h2⟩ := g.val i x e; ⟨v, h1, l.rep h2⟩
  own := fun i d e => by
    obtain ⟨p, h1, h2, h3, h4, h5⟩ := g.own i d e
    obtain ⟨o, ho⟩ := h5.some
    have n' : p ∉ W'.m := fun z => by rw [l.mn p z h2] at ho; cases ho
    refine ⟨p, h1, n', h3, h4, h5.mono l.fs l.pre (fun o e => l.keep p o e h2) fun f => l.new p o ho h2 f⟩
  ne := g.ne
theorem WOk.some {K : Ck} {W : Wd} (w : WOk K W) {a : Addr} (h : a ∈ W.m) : ∃ o, W.H a = some o := by
  obtain ⟨n, hn, e⟩ := List.getElem_of_mem h
  have hl : n < W.h.length := by rw [← w.len]; exact hn
  exact (w.at_ n W.h[n] a (List.getElem?_eq_getElem hl) (by rw [List.getElem?_eq_getElem hn, e])).some
theorem Le.fresh {K : Ck} {W W' : Wd} (l : Le K W W') {p : Addr} (h : W'.H p = none) : W.H p = none := by
  cases e : W.H p with
  | none => rfl
  | some o =>
    by_cases hm : p ∈ W.m
    · obtain ⟨o, q⟩ := l.ok.some (l.pre.subset hm)
      rw [h] at q; cases q
    · rw [l.keep p o e hm] at h; cases h
theorem WOk.out {K : Ck} {W : Wd} (w : WOk K W) {p : Addr} (h : W.H p = none) : p ∉ W.m := fun z => by
  obtain ⟨o, q⟩ := w.some z
  rw [h] at q; cases q
theorem WOk.ff {K : Ck} {W : Wd} (w : WOk K W) {p : Addr} (h : W.H p = none) : W.F p = none := Same.free w.le h
/-- a later world: what is frozen stays -/
structure Lf (K : Ck) (W W' : Wd) : Prop where
  fs : Same W.F W'.F
  pre : W.m <+: W'.m
  fz : ∀ (n : Nat) (ks : List Key) (xs : List PV), W.h[n]? = some (.fz ks xs) → W'.h[n]? = some (.fz ks xs) ∧ ∀ a, W.m[n]? = some a → W'.H a = W.H a
theorem Le.lf {K : Ck} {W W' : Wd} (l : Le K W W') : Lf K W W' := ⟨l.fs, l.pre, l.fz⟩
theorem Lf.refl {K : Ck} {W : Wd} : Lf K W W := ⟨Same.refl _, List.prefix_refl _, fun _ _ _ e => ⟨e, fun _ _ => rfl⟩⟩
theorem Lf.trans {K : Ck} {W W1 W2 : Wd} (a : Lf K W W1) (b : Lf K W1 W2) : Lf K W W2 := ⟨a.fs.trans b.fs, a.pre.trans b.pre, fun n ks xs e => by
    obtain ⟨e1, q1⟩ := a.fz n ks xs e
    obtain ⟨e2, q2⟩ := b.fz n ks xs e1
    exact ⟨e2, fun c em => (q2 c (pre_get a.pre em)).trans (q1 c em)⟩⟩
theorem Lf.rep {K : Ck} {W W' : Wd} (l : Lf K W W') {x : PV} {v : V} (h : RepW K W x v) : RepW K W' x v := Rep.mono l.fs l.pre x v h
theorem Lf.repL {K : Ck} {W W' : Wd} (l : Lf K W W') {x : List PV} {v : List V} (h : RepLW K W x v) : RepLW K W' x v := RepL.mono l.fs l.pre x v h
/-! ## judgements -/
def SndE (K : Ck) (t : TE) (e : XE) : Prop := ∀ (W0 W : Wd) (ρ : PSt) (σ : St) (Q : VK) (x : PV) (h' : AH), Good K W0 W ρ σ → e ρ W.h = some (x, h') →
  (∀ v W', W'.h = h' → Le K W W' → RepW K W' x v → Q v W'.H) → t σ W.H Q
def SndT (K : Ck) (t : TT) (e : XT) : Prop := ∀ (W0 W : Wd) (ρ : PSt) (σ : St) (Q : Bool → Hp → Prop) (x : Bool) (h' : AH), Good K W0 W ρ σ → e ρ W.h = some (x, h') →
  (∀ W', W'.h = h' → Le K W W' → Q x W'.H) → t σ W.H Q
def SndA (K : Ck) (t : TA) (e : XA) : Prop := ∀ (W0 W : Wd) (ρ : PSt) (σ : St) (Q : List V → Hp → Prop) (x : List PV) (h' : AH), Good K W0 W ρ σ → e ρ W.h = some (x, h') →
  (∀ v W', W'.h = h' → Le K W W' → RepLW K W' x v → Q v W'.H) → t σ W.H Q
/-- a new thing, nobody else's -/
def SndO (K : Ck) (t : TE) (e : XO) : Prop := ∀ (W0 W : Wd) (ρ : PSt) (σ : St) (Q : VK) (d : Nd) (h' : AH), Good K W0 W ρ σ → e ρ W.h = some (d, h') →
  (∀ p W', W'.h = h' → Le K W W' → p ∉ W'.m → W.H p = none → d ≠ .dead → NdAt K W'.F W'.H W'.m d p → Q (.ref p) W'.H) → t σ W.H Q
def Ends.Ok (K : Ck) (W0 W : Wd) (D : Ends) (h' : AH) : Out → Prop
  | .nx ρ' => ∀ W' σ', W'.h = h' → Lf K W W' → Good K W0 W' ρ' σ' → D.nx σ' W'.H
  | .bk ρ' => ∀ W' σ', W'.h = h' → Lf K W W' → Good K W0 W' ρ' σ' → D.bk σ' W'.H
  | .ct ρ' => ∀ W' σ', W'.h = h' → Lf K W W' → Good K W0 W' ρ' σ' → D.ct σ' W'.H
  | .rt x => ∀ W' v, W'.h = h' → Le K W0 W' → RepW K W' x v → D.rt v W'.H
def SndS (K : Ck) (t : TS) (s : XS) : Prop := ∀ (W0 W : Wd) (ρ : PSt) (σ : St) (D : Ends) (o : Out) (h' : AH), Good K W0 W ρ σ → s ρ W.h = some (o, h') → Ends.Ok K W0 W D h' o → t D σ W.H
def ob {α β : Type} (o : Option (α × AH)) (f : α → AH → Option β) : Option β := o.bind fun q => f q.1 q.2
theorem ob_some {α β : Type} {o : Option (α × AH)} {f : α → AH → Option β} {b : β} (h : ob o f = some b) : ∃ x h', o = some (x, h') ∧ f x h' = some b := by
  obtain ⟨⟨x, h'⟩, e, k⟩ := Option.bind_eq_some_iff.mp h
  exact ⟨x, h', e, k⟩
end PX
namespace PX
open PySem L2
variable {K : Ck}
/-! ## expressions -/
def xVar (i : Nat) : XE := fun ρ h => match ρ[i]? with | some (.val x) => some (x, h) | _ => none
def xC (x : PV) : XE := fun _ h => some (x, h)
abbrev P2 := PV → PV → AH → Option (PV × AH)
abbrev P2O := PV → PV → AH → Option (Nd × AH)
def xOp (p : P2) (a b : XE) : XE := fun ρ h => ob (a ρ h) fun x h1 => ob (b ρ h1) fun y h2 => p x y h2
def xOpO (p : P2O) (a b : XE) : XO := fun ρ h => ob (a ρ h) fun x h1 => ob (b ρ h1) fun y h2 => p x y h2
def xUn (p : PV → AH → Option (PV × AH)) (a : XE) : XE := fun ρ h => ob (a ρ h) fun x h1 => p x h1
def oB (x : PV) (h : AH) : Option (Bool × AH) := match x with | .bl b => some (b, h) | _ => none
def xChain (p p' : P2) (a b c : XE) : XE := fun ρ h => ob (a ρ h) fun x h1 => ob (b ρ h1) fun y h2 => ob (p x y h2) fun z h3 => ob (oB z h3) fun k h3 => if k = true then ob (c ρ h3) fun w h4 => p' y w h4 else some (.bl false, h3)
def xTest (a : XE) : XT := fun ρ h => ob (a ρ h) oB
def xAndV (a b : XE) : XE := fun ρ h => ob (a ρ h) fun x h1 => ob (oB x h1) fun k h1 => if k = true then b ρ h1 else some (.bl false, h1)
def xOrV (a b : XE) : XE := fun ρ h => ob (a ρ h) fun x h1 => ob (oB x h1) fun k h1 => if k = true then some (.bl true, h1) else b ρ h1
def xNotV (a : XE) : XE := fun ρ h => ob (a ρ h) fun x h1 => ob (oB x h1) fun k h1 => some (.bl (!k), h1)
def xAnd (a b : XT) : XT := fun ρ h => ob (a ρ h) fun k h1 => if k = true then b ρ h1 else some (false, h1)
def xOr (a b : XT) : XT := fun ρ h => ob (a ρ h) fun k h1 => if k = true then some (true, h1) else b ρ h1
def xNot (a : XT) : XT := fun ρ h => ob (a ρ h) fun k h1 => some (!k, h1)
def xIf (c : XT) (a b : XE) : XE := fun ρ h => ob (c ρ h) fun k h1 => if k = true then a ρ h1 else b ρ h1
def xNil : XA := fun _ h => some ([], h)
def xCons (a : XE) (r : XA) : XA := fun ρ h => ob (a ρ h) fun x h1 => ob (r ρ h1) fun xs h2 => some (x :: xs, h2)
def xTup (a : XA) : XE := fun ρ h => ob (a ρ h) fun xs h1 => if xs.length ≤ 1000 then some (.tup xs, h1) else none
def xLst (a : XA) : XO := fun ρ h => ob (a ρ h) fun xs h1 => if xs.length ≤ 1000 then some (.lst xs, h1) else none
/-- a new list that nobody changes any more -/
def xFz (e : XO) : XE := fun ρ h => ob (e ρ h) fun d h1 => match d with | .lst xs => some (.lst xs, h1) | .ins k ns xs => some (.ins k ns xs, h1) | _ => none
/-- a new thing that is changed by several -/
def xLoc (e : XO) : XE := fun ρ h => ob (e ρ h) fun d h1 => some (.loc h1.length, h1 ++ [d])
def xCall (f : Fn) (a : XA) : XE := fun ρ h => ob (a ρ h) f
def xCB (p : List PV → AH → Option (PV × AH)) (a : XA) : XE := fun ρ h => ob (a ρ h) p
def xCBO (p : List PV → AH → Option (Nd × AH)) (a : XA) : XO := fun ρ h => ob (a ρ h) p
abbrev PM := PV → List PV → AH → Option (PV × AH)
def xBM (c : PV → AH → Bool) (p : PM) (o : XE) (a : XA) : XE := fun ρ h => ob (o ρ h) fun x h1 => if c x h1 = true then ob (a ρ h1) fun xs h2 => p x xs h2 else none
def xPart (e : XE) : PSt → AH → Option (Option Int × AH) := fun ρ h => ob (e ρ h) fun x h1 => match x with | .int i => some (some i, h1) | _ => none
def xNoPart : PSt → AH → Option (Option Int × AH) := fun _ h => some (none, h)
def xSl (p : PV → Option Int → Option Int → AH → Option (PV × AH)) (e : XE) (lo hi : PSt → AH → Option (Option Int × AH)) : XE := fun ρ h => ob (e ρ h) fun x h1 => ob (lo ρ h1) fun l h2 => ob (hi ρ h2) fun u h3 => p x l u h3
def xSlO (p : PV → Option Int → Option Int → AH → Option (Nd × AH)) (e : XE) (lo hi : PSt → AH → Option (Option Int × AH)) : XO := fun ρ h => ob (e ρ h) fun x h1 => ob (lo ρ h1) fun l h2 => ob (hi ρ h2) fun u h3 => p x l u h3
/-! ### sound -/
def OpSnd (K : Ck) (r : R2) (p : P2) : Prop := ∀ (W : Wd) (x y : PV) (v u : V) (Q : VK) (z : PV) (h' : AH), WOk K W → RepW K W x v → RepW K W y u → p x y W.h = some (z, h') → (∀ w W', W'.h = h' → Le K W W' → RepW K W' z w → Q w W'.H) → r v u W.H Q
def NewAt (K : Ck) (W : Wd) (d : Nd) (h' : AH) (Q : VK) : Prop := ∀ p W', W'.h = h' → Le K W W' → p ∉ W'.m → W.H p = none → d ≠ .dead → NdAt K W'.F W'.H W'.m d p → Q (.ref p) W'.H
def UnSnd (K : Ck) (r : V → Hp → VK → Prop) (p : PV → AH → Option (PV × AH)) : Prop := ∀ (W : Wd) (x : PV) (v : V) (Q : VK) (z : PV) (h' : AH), WOk K W → RepW K W x v → p x W.h = some (z, h') → (∀ w W', W'.h = h' → Le K W W' → RepW K W' z w → Q w W'.H) → r v W.H Q
def CbSnd (K : Ck) (r : List V → Hp → VK → Prop) (p : List PV → AH → Option (PV × AH)) : Prop := ∀ (W : Wd) (xs : List PV) (vs : List V) (Q : VK) (z : PV) (h' : AH), WOk K W → RepLW K W xs vs → p xs W.h = some (z, h') → (∀ w W', W'.h = h' → Le K W W' → RepW K W' z w → Q w W'.H) → r vs W.H Q
def CbSndO (K : Ck) (r : List V → Hp → VK → Prop) (p : List PV → AH → Option (Nd × AH)) : Prop := ∀ (W : Wd) (xs : List PV) (vs : List V) (Q : VK) (d : Nd) (h' : AH), WOk K W → RepLW K W xs vs → p xs W.h = some (d, h') → NewAt K W d h' Q → r vs W.H Q
def BmSnd (K : Ck) (T : String) (c : PV → AH → Bool) (r : V → List V → Hp → VK → Prop) (p : PM) : Prop :=
  (∀ (W : Wd) (x : PV) (v : V), WOk K W → RepW K W x v → c x W.h = true → tyV K.K T v W.H) ∧
  ∀ (W : Wd) (x : PV) (v : V) (xs : List PV) (vs : List V) (Q : VK) (z : PV) (h' : AH), WOk K W → RepW K W x v → RepLW K W xs vs → p x xs W.h = some (z, h') → (∀ w W', W'.h = h' → Le K W W' → RepW K W' z w → Q w W'.H) → r v vs W.H Q
theorem snd_var (i : Nat) : SndE K (tVar i) (xVar i) := by
  intro W0 W ρ σ Q x h' g e q
  unfold xVar at e
  split at e
  · rename_i y hy
    cases e
    obtain ⟨v, h1, h2⟩ := g.val i _ hy
    exact ⟨v, h1, q v W rfl (.refl g.ok) h2⟩
  · cases e
theorem snd_c {v : V} {x : PV} (h : ∀ W : Wd, RepW K W x v) : SndE K (tC v) (xC x) := by
  intro W0 W ρ σ Q y h' g e q
  cases e
  exact q v W rfl (.refl g.ok) (h W)
theorem snd_int {i : Int} : SndE K (tC (.int i)) (xC (.int i)) := snd_c fun _ => rfl
theorem snd_str {i : Str} : SndE K (tC (.str i)) (xC (.str i)) := snd_c fun _ => rfl
theorem snd_bl {i : Bool} : SndE K (tC (.bl i)) (xC (.bl i)) := snd_c fun _ => rfl
theorem snd_non : SndE K (tC .non) (xC .non) := snd_c fun _ => rfl
theorem snd_ty {n : String} : SndE K (tC (.ty n)) (xC (.ty n)) := snd_c fun _ => rfl
section
variable {ta tb tc : TE} {ea eb ec : XE} {t : TA} {e : XA}
theorem snd_op {r : R2} {p : P2} (o : OpSnd K r p) (a : SndE K ta ea) (b : SndE K tb eb) : SndE K (tOp r ta tb) (xOp p ea eb) := by
  intro W0 W ρ σ Q z h' g e q
  obtain ⟨x, h1, e1, f1⟩ := ob_some e
  obtain ⟨y, h2, e2, f2⟩ := ob_some f1
  refine a W0 W ρ σ _ x h1 g e1 fun v W1 w1 l1 r1 => ?_
  subst w1
  refine b W0 W1 ρ σ _ y h2 (g.step l1) e2 fun u W2 w2 l2 r2 => ?_
  subst w2
  exact o W2 x y v u Q z h' l2.ok (l2.rep r1) r2 f2 fun w W3 w3 l3 r3 => q w W3 w3 (l1.trans (l2.trans l3)) r3
theorem newAt_mono {W W1 : Wd} {d : Nd} {h' : AH} {Q : VK} (l : Le K W W1) (q : NewAt K W d h' Q) : NewAt K W1 d h' Q := fun p W' e l' n f => q p W' e (l.trans l') n (l.fresh f)
theorem snd_un {r} {p} (o : UnSnd K r p) (a : SndE K ta ea) : SndE K (tUn r ta) (xUn p ea) := by
  intro W0 W ρ σ Q z h' g e q
  obtain ⟨x, h1, e1, f1⟩ := ob_some e
  refine a W0 W ρ σ _ x h1 g e1 fun v W1 w1 l1 r1 => ?_
  subst w1
  exact o W1 x v Q z h' l1.ok r1 f1 fun w W3 w3 l3 r3 => q w W3 w3 (l1.trans l3) r3
theorem oB_some {x : PV} {h : AH} {k : Bool} {h' : AH} (e : oB x h = some (k, h')) : x = .bl k ∧ h' = h := by
  unfold oB at e
  split at e
  · cases e; exact ⟨rfl, rfl⟩
  · cases e
theorem snd_test (a : SndE K ta ea) : SndT K (tTest ta) (xTest ea) := by
  intro W0 W ρ σ Q k h' g e q
  obtain ⟨x, h1, e1, f1⟩ := ob_some e
  obtain ⟨rfl, rfl⟩ := oB_some f1
  exact a W0 W ρ σ _ _ _ g e1 fun v W1 w1 l1 r1 => ⟨k, r1, q W1 w1 l1⟩
theorem snd_tB (a : SndE K ta ea) : SndT K (tB ta) (xTest ea) := snd_test a
theorem snd_andV (a : SndE K ta ea) (b : SndE K tb eb) : SndE K (tAndV ta tb) (xAndV ea eb) := by
  intro W0 W ρ σ Q z h' g e q
  obtain ⟨x, h1, e1, f1⟩ := ob_some e
  obtain ⟨k, h1', e1', f2⟩ := ob_some f1
  obtain ⟨rfl, rfl⟩ := oB_some e1'
  refine a W0 W ρ σ _ _ _ g e1 fun v W1 w1 l1 r1 => ⟨k, r1, ?_⟩
  subst w1
  cases k with
  | false =>
    rw [if_neg (by decide)] at f2 ⊢
    cases f2
    exact q _ W1 rfl l1 rfl
  | true =>
    rw [if_pos rfl] at f2 ⊢
    exact b W0 W1 ρ σ _ z h' (g.step l1) f2 fun v W2 w2 l2 r2 => q v W2 w2 (l1.trans l2) r2
theorem snd_notV (a : SndE K ta ea) : SndE K (tNotV ta) (xNotV ea) := by
  intro W0 W ρ σ Q z h' g e q
  obtain ⟨x, h1, e1, f1⟩ := ob_some e
  obtain ⟨k, h1', e1', f2⟩ := ob_some f1
  obtain ⟨rfl, rfl⟩ := oB_some e1'
  cases f2
  exact a W0 W ρ σ _ _ _ g e1 fun v W1 w1 l1 r1 => ⟨k, r1, q _ W1 w1 l1 rfl⟩
section
variable {tA tB' : TT} {eA eB : XT}
theorem snd_and (a : SndT K tA eA) (b : SndT K tB' eB) : SndT K (tAnd tA tB') (xAnd eA eB) := by
  intro W0 W ρ σ Q z h' g e q
  obtain ⟨k, h1, e1, f1⟩ := ob_some e
  refine a W0 W ρ σ _ _ _ g e1 fun W1 w1 l1 => ?_
  subst w1
  cases k with
  | false =>
    rw [if_neg (by decide)] at f1 ⊢
    cases f1
    exact q W1 rfl l1
  | true =>
    rw [if_pos rfl] at f1 ⊢
    exact b W0 W1 ρ σ _ z h' (g.step l1) f1 fun W2 w2 l2 => q W2 w2 (l1.trans l2)
theorem snd_not (a : SndT K tA eA) : SndT K (tNot tA) (xNot eA) := by
  intro W0 W ρ σ Q z h' g e q
  obtain ⟨k, h1, e1, f1⟩ := ob_some e
  cases f1
  exact a W0 W ρ σ _ _ _ g e1 fun W1 w1 l1 => q W1 w1 l1
end
theorem snd_nil : SndA K tNil xNil := by
  intro W0 W ρ σ Q z h' g e q
  cases e
  exact q [] W rfl (.refl g.ok) rfl
theorem snd_cons (a : SndE K ta ea) (r : SndA K t e) : SndA K (tCons ta t) (xCons ea e) := by
  intro W0 W ρ σ Q z h' g e q
  obtain ⟨x, h1, e1, f1⟩ := ob_some e
  obtain ⟨xs, h2, e2, f2⟩ := ob_some f1
  cases f2
  refine a W0 W ρ σ _ x h1 g e1 fun v W1 w1 l1 r1 => ?_
  subst w1
  exact r W0 W1 ρ σ _ xs _ (g.step l1) e2 fun vs W2 w2 l2 r2 => q (v :: vs) W2 w2 (l1.trans l2) ⟨v, vs, rfl, l2.rep r1, r2⟩
/-- a new frozen thing -/
def wput (W : Wd) (p : Addr) (o : HO) : Wd := ⟨upd W.F p o, upd W.H p o, W.m, W.h⟩
theorem wput_le {W : Wd} {p : Addr} {o : HO} (w : WOk K W) (h : W.H p = none) : Le K W (wput W p o) := by
  have hm := w.out h
  have hf := w.ff h
  have sF : Same W.F (upd W.F p o) := same_new hf o
  refine ⟨⟨?_, w.len, w.nd, fun n d a e1 e2 => ?_⟩, sF, List.prefix_refl _, fun b u e _ => same_new h o b u e, fun b u e _ f => ?_, fun b z n => absurd z n, fun n ks xs e1 => ⟨e1, fun a e2 => upd_ne fun z => hm (z ▸ List.mem_of_getElem? e2)⟩⟩
  · intro b u e
    show upd W.H p o b = some u
    by_cases hb : b = p
    · subst hb; rw [show (wput W b o).F b = upd W.F b o b from rfl, upd_same] at e; rw [upd_same]; exact e
    · rw [show (wput W p o).F b = upd W.F p o b from rfl, upd_ne hb] at e; rw [upd_ne hb]; exact w.le _ _ e
  · have ha : a ≠ p := fun z => hm (z ▸ List.mem_of_getElem? e2)
    exact (w.at_ n d a e1 e2).mono sF (List.prefix_refl _) (fun u e => by rw [show (wput W p o).H a = upd W.H p o a from rfl, upd_ne ha]; exact e) fun f => (upd_ne ha).trans f
  · have : b ≠ p := ne_of_none e h
    rw [show (wput W p o).F b = upd W.F p o b from rfl, upd_ne this]; exact f
/-- a new thing of one's own -/
def wlay (W : Wd) (p : Addr) (o : HO) : Wd := ⟨W.F, upd W.H p o, W.m, W.h⟩
theorem wlay_le {W : Wd} {p : Addr} {o : HO} (w : WOk K W) (h : W.H p = none) : Le K W (wlay W p o) := by
  have hm := w.out h
  refine ⟨⟨?_, w.len, w.nd, fun n d a e1 e2 => ?_⟩, Same.refl _, List.prefix_refl _, fun b u e _ => same_new h o b u e, fun b u e _ f => f, fun b z n => absurd z n, fun n ks xs e1 => ⟨e1, fun a e2 => upd_ne fun z => hm (z ▸ List.mem_of_getElem? e2)⟩⟩
  · exact fun b u e => same_new h o b u (w.le _ _ e)
  · exact (w.at_ n d a e1 e2).mono (Same.refl _) (List.prefix_refl _) (fun u e => same_new h o _ _ e) id
theorem small {n : Nat} (h : n ≤ 1000) : n ≤ sizeLine := Nat.le_of_lt (small1000 h)
theorem snd_tup (a : SndA K t e) : SndE K (tTup t) (xTup e) := by
  intro W0 W ρ σ Q z h' g e q
  obtain ⟨xs, h1, e1, f1⟩ := ob_some e
  split at f1
  · rename_i hl
    cases f1
    refine a W0 W ρ σ _ xs _ g e1 fun vs W1 w1 l1 r1 => ⟨small (by rw [r1.len]; exact hl), fun p hp => ?_⟩
    have l2 := wput_le (o := .tup vs) l1.ok hp
    exact q (.ref p) (wput W1 p (.tup vs)) w1 (l1.trans l2) ⟨p, vs, rfl, .inl upd_same, l2.repL r1⟩
  · cases f1
theorem snd_lst (a : SndA K t e) : SndO K (tLst t) (xLst e) := by
  intro W0 W ρ σ Q z h' g e q
  obtain ⟨xs, h1, e1, f1⟩ := ob_some e
  split at f1
  · rename_i hl
    cases f1
    refine a W0 W ρ σ _ xs _ g e1 fun vs W1 w1 l1 r1 => ⟨small (by rw [r1.len]; exact hl), fun p hp => ?_⟩
    have l2 := wlay_le (o := .lst vs) l1.ok hp
    exact q p (wlay W1 p (.lst vs)) w1 (l1.trans l2) (l1.ok.out hp) (l1.fresh hp) (fun z => by cases z) ⟨l1.ok.ff hp, vs, upd_same, r1⟩
  · cases f1
/-- what is one's own is frozen -/
def wfrz (W : Wd) (p : Addr) (o : HO) : Wd := ⟨upd W.F p o, W.H, W.m, W.h⟩
theorem wfrz_ok {W : Wd} {p : Addr} {o : HO} (w : WOk K W) (h : W.H p = some o) (hm : p ∉ W.m) (hf : W.F p = none) : WOk K (wfrz W p o) ∧ Same W.F (upd W.F p o) := by
  have sF : Same W.F (upd W.F p o) := same_new hf o
  refine ⟨⟨?_, w.len, w.nd, fun n d a e1 e2 => ?_⟩, sF⟩
  · intro b u e
    by_cases hb : b = p
    · subst hb; rw [show (wfrz W b o).F b = upd W.F b o b from rfl, upd_same] at e; cases e; exact h
    · rw [show (wfrz W p o).F b = upd W.F p o b from rfl, upd_ne hb] at e; exact w.le _ _ e
  · have ha : a ≠ p := fun z => hm (z ▸ List.mem_of_getElem? e2)
    exact (w.at_ n d a e1 e2).mono sF (List.prefix_refl _) (fun u e => e) fun f => (upd_ne ha).trans f
theorem wfrz_le {W W1 : Wd} {p : Addr} {o : HO} (l : Le K W W1) (h : W1.H p = some o) (hm : p ∉ W1.m) (hf : W1.F p = none) (hn : W.H p = none) : Le K W (wfrz W1 p o) := by
  obtain ⟨k, sF⟩ := wfrz_ok l.ok h hm hf
  refine ⟨k, l.fs.trans sF, l.pre, l.keep, fun b u e n f => ?_, l.mn, l.fz⟩
  have : b ≠ p := ne_of_none e hn
  rw [show (wfrz W1 p o).F b = upd W1.F p o b from rfl, upd_ne this]; exact l.new b u e n f
theorem snd_fz {o : XO} (a : SndO K ta o) : SndE K ta (xFz o) := by
  intro W0 W ρ σ Q z h' g e q
  obtain ⟨d, h1, e1, f1⟩ := ob_some e
  refine a W0 W ρ σ _ d h1 g e1 fun p W1 w1 l1 hm hn hd at_ => ?_
  split at f1
  · rename_i xs
    cases f1
    obtain ⟨hf, vs, hp, r⟩ := at_
    have l2 := wfrz_le l1 hp hm hf hn
    exact q (.ref p) (wfrz W1 p (.lst vs)) w1 l2 ⟨p, vs, rfl, upd_same, RepL.mono (same_new hf _) (List.prefix_refl _) _ _ r⟩
  · rename_i k ns xs
    cases f1
    obtain ⟨hf, dx, vs, hp, hl, r⟩ := at_
    have l2 := wfrz_le l1 hp hm hf hn
    exact q (.ref p) (wfrz W1 p _) w1 l2 ⟨p, dx, vs, rfl, upd_same, hl, RepL.mono (same_new hf _) (List.prefix_refl _) _ _ r⟩
  · cases f1
theorem snd_loc {o : XO} (a : SndO K ta o) : SndE K ta (xLoc o) := by
  intro W0 W ρ σ Q z h' g e q
  obtain ⟨d, h1, e1, f1⟩ := ob_some e
  cases f1
  refine a W0 W ρ σ _ d h1 g e1 fun p W1 w1 l1 hm hn hd at_ => ?_
  subst w1
  have pre : W1.m <+: W1.m ++ [p] := List.prefix_append _ _
  refine q (.ref p) ⟨W1.F, W1.H, W1.m ++ [p], W1.h ++ [d]⟩ rfl ⟨⟨l1.ok.le, ?_, ?_, fun n d' a e1 e2 => ?_⟩, l1.fs, l1.pre.trans pre, l1.keep, l1.new, fun b z n => ?_, fun n ks xs e1 => ⟨by
    have := (l1.fz n ks xs e1).1
    show (W1.h ++ [d])[n]? = _
    rw [List.getElem?_append_left (List.getElem?_eq_some_iff.mp this).1]; exact this, (l1.fz n ks xs e1).2⟩⟩ ⟨p, rfl, ?_⟩
  · show (W1.m ++ [p]).length = (W1.h ++ [d]).length
    rw [List.length_append, List.length_append, l1.ok.len]; rfl
  · show (W1.m ++ [p]).Nodup
    rw [List.nodup_append]
    refine ⟨l1.ok.nd, by simp, ?_⟩
    intro a ha b hb
    simp at hb
    subst hb
    exact fun z => hm (z ▸ ha)
  · have e1 : (W1.h ++ [d])[n]? = some d' := e1
    have e2 : (W1.m ++ [p])[n]? = some a := e2
    by_cases hlt : n < W1.h.length
    · rw [List.getElem?_append_left hlt] at e1
      rw [List.getElem?_append_left (by rw [l1.ok.len]; exact hlt)] at e2
      exact (l1.ok.at_ n d' a e1 e2).mono (Same.refl _) pre (fun _ f1 => f1) id
    · rw [List.getElem?_append_right (by omega)] at e1
      rw [List.getElem?_append_right (by rw [l1.ok.len]; omega)] at e2
      rw [l1.ok.len] at e2
      cases hk : n - W1.h.length with
      | zero =>
        rw [hk] at e1 e2
        simp at e1 e2
        subst e1 e2
        exact at_.mono (Same.refl _) pre (fun _ f1 => f1) id
      | succ k => rw [hk] at e1; simp at e1
  · have z : b ∈ W1.m ++ [p] := z
    rcases List.mem_append.mp z with z | z
    · exact l1.mn b z n
    · simp at z; subst z; exact hn
  · show (W1.m ++ [p])[W1.h.length]? = some p
    rw [← l1.ok.len]; simp
/-! ### calls -/
def spE (K : Ck) (n : Nat) (f : Fn) : Sp := fun vs H Q _ => ∃ (W : Wd) (xs : List PV) (x : PV) (h' : AH), W.H = H ∧ WOk K W ∧ RepLW K W xs vs ∧ xs.length = n ∧ f xs W.h = some (x, h') ∧ ∀ v W', W'.h = h' → Le K W W' → RepW K W' x v → Q v W'.H
theorem snd_call {n : Nat} {f : Fn} {ex : XK} (a : SndA K t e) (hn : ∀ ρ h xs h', e ρ h = some (xs, h') → xs.length = n) : SndE K (tCall (spE K n f) [] ex t) (xCall f e) := by
  intro W0 W ρ σ Q z h' g e' q
  obtain ⟨xs, h1, e1, e2⟩ := ob_some e'
  refine a W0 W ρ σ _ xs h1 g e1 fun vs W1 w1 l1 r1 => ?_
  subst w1
  rw [List.append_nil]
  exact ⟨W1, xs, z, h', rfl, l1.ok, r1, hn _ _ _ _ e1, e2, fun v W2 w2 l2 r2 => q v W2 w2 (l1.trans l2) r2⟩
theorem len_nil : ∀ ρ h xs h', xNil ρ h = some (xs, h') → xs.length = 0 := fun ρ h xs h' e => by cases e; rfl
theorem len_cons {n : Nat} (l : ∀ ρ h xs h', e ρ h = some (xs, h') → xs.length = n) : ∀ ρ h xs h', xCons ea e ρ h = some (xs, h') → xs.length = n + 1 := fun ρ h xs h' q => by
  obtain ⟨x, h1, e1, q⟩ := ob_some q
  obtain ⟨ys, h2, e2, q⟩ := ob_some q
  cases q
  rw [List.length_cons, l _ _ _ _ e2]
theorem snd_cb {r} {p} (o : CbSnd K r p) (a : SndA K t e) : SndE K (tCB r t) (xCB p e) := by
  intro W0 W ρ σ Q z h' g e' q
  obtain ⟨xs, h1, e1, e2⟩ := ob_some e'
  refine a W0 W ρ σ _ xs h1 g e1 fun vs W1 w1 l1 r1 => ?_
  subst w1
  exact o W1 xs vs Q z h' l1.ok r1 e2 fun v W2 w2 l2 r2 => q v W2 w2 (l1.trans l2) r2
theorem snd_cbO {r} {p} (o : CbSndO K r p) (a : SndA K t e) : SndO K (tCB r t) (xCBO p e) := by
  intro W0 W ρ σ Q z h' g e' q
  obtain ⟨xs, h1, e1, e2⟩ := ob_some e'
  refine a W0 W ρ σ _ xs h1 g e1 fun vs W1 w1 l1 r1 => ?_
  subst w1
  exact o W1 xs vs Q z h' l1.ok r1 e2 (newAt_mono l1 q)
theorem snd_bm {T : String} {c} {r} {p} (o : BmSnd K T c r p) (b : SndE K ta ea) (a : SndA K t e) : SndE K (tBM K.K T r ta t) (xBM c p ea e) := by
  intro W0 W ρ σ Q z h' g e' q
  obtain ⟨x, h1, e1, f1⟩ := ob_some e'
  split at f1
  · rename_i hc
    obtain ⟨xs, h2, e2, f2⟩ := ob_some f1
    refine b W0 W ρ σ _ x h1 g e1 fun v W1 w1 l1 r1 => ⟨o.1 W1 x v l1.ok r1 (by rw [w1]; exact hc), ?_⟩
    subst w1
    refine a W0 W1 ρ σ _ xs h2 (g.step l1) e2 fun vs W2 w2 l2 r2 => ?_
    subst w2
    exact o.2 W2 x v xs vs Q z h' l2.ok (l2.rep r1) r2 f2 fun w W3 w3 l3 r3 => q w W3 w3 (l1.trans (l2.trans l3)) r3
  · cases f1
theorem snd_bm0 {T : String} {c} {r} {p} (o : BmSnd K T c r p) (b : SndE K ta ea) : SndE K (tBM0 K.K T r ta) (xBM c p ea xNil) := snd_bm (t := tNil) o b snd_nil
end
def SndP (K : Ck) (t : TO) (e : PSt → AH → Option (Option Int × AH)) : Prop := ∀ (W0 W : Wd) (ρ : PSt) (σ : St) (Q : Option Int → Hp → Prop) (x : Option Int) (h' : AH), Good K W0 W ρ σ → e ρ W.h = some (x, h') →
  (∀ W', W'.h = h' → Le K W W' → Q x W'.H) → t σ W.H Q
theorem snd_nopart : SndP K tNoPart xNoPart := by
  intro W0 W ρ σ Q z h' g e q
  cases e
  exact q W rfl (.refl g.ok)
theorem snd_part {ta : TE} {ea : XE} (a : SndE K ta ea) : SndP K (tPart ta) (xPart ea) := by
  intro W0 W ρ σ Q z h' g e q
  obtain ⟨x, h1, e1, f1⟩ := ob_some e
  split at f1
  · rename_i i
    cases f1
    exact a W0 W ρ σ _ _ _ g e1 fun v W1 w1 l1 r1 => ⟨i, r1, q W1 w1 l1⟩
  · cases f1
def SlSndO (K : Ck) (r : V → Option Int → Option Int → Hp → VK → Prop) (p : PV → Option Int → Option Int → AH → Option (Nd × AH)) : Prop := ∀ (W : Wd) (x : PV) (v : V) (lo hi : Option Int) (Q : VK) (d : Nd) (h' : AH), WOk K W → RepW K W x v → p x lo hi W.h = some (d, h') → NewAt K W d h' Q → r v lo hi W.H Q
theorem snd_slO {r} {p} {ta : TE} {ea : XE} {tl th : TO} {el eh} (o : SlSndO K r p) (a : SndE K ta ea) (b : SndP K tl el) (c : SndP K th eh) : SndO K (tSl r ta tl th) (xSlO p ea el eh) := by
  intro W0 W ρ σ Q z h' g e q
  obtain ⟨x, h1, e1, f1⟩ := ob_some e
  obtain ⟨l, h2, e2, f2⟩ := ob_some f1
  obtain ⟨u, h3, e3, f3⟩ := ob_some f2
  refine a W0 W ρ σ _ x h1 g e1 fun v W1 w1 l1 r1 => ?_
  subst w1
  refine b W0 W1 ρ σ _ l h2 (g.step l1) e2 fun W2 w2 l2 => ?_
  subst w2
  refine c W0 W2 ρ σ _ u h3 (g.step (l1.trans l2)) e3 fun W3 w3 l3 => ?_
  subst w3
  exact o W3 x v l u Q z h' l3.ok ((l2.trans l3).rep r1) f3 (newAt_mono (l1.trans (l2.trans l3)) q)
end PX
namespace PX
open PySem L2
variable {K : Ck}
/-! ## statements -/
def xNext : XS := fun ρ h => some (.nx ρ, h)
def xSeq (s u : XS) : XS := fun ρ h => ob (s ρ h) fun o h1 => match o with | .nx ρ' => u ρ' h1 | .rt x => some (.rt x, h1) | .bk ρ' => some (.bk ρ', h1) | .ct ρ' => some (.ct ρ', h1)
def xBreak : XS := fun ρ h => some (.bk ρ, h)
def xCont : XS := fun ρ h => some (.ct ρ, h)
def xDrop (e : XE) : XS := fun ρ h => ob (e ρ h) fun _ h1 => some (.nx ρ, h1)
def xRet (e : XE) : XS := fun ρ h => ob (e ρ h) fun x h1 => some (.rt x, h1)
def xRetN : XS := fun _ h => some (.rt .non, h)
def xIfS (c : XT) (s u : XS) : XS := fun ρ h => ob (c ρ h) fun k h1 => if k = true then s ρ h1 else u ρ h1
/-- targets -/
abbrev XG := PV → PSt → Option PSt
abbrev XGs := List PV → PSt → Option PSt
def yName (i : Nat) : XG := fun x ρ => some (ρ.set i (.val x))
def yNil : XGs := fun xs ρ => match xs with | [] => some ρ | _ => none
def yCons (g : XG) (r : XGs) : XGs := fun xs ρ => match xs with | [] => none | x :: xs => (g x ρ).bind fun ρ' => r xs ρ'
def yTup (n : Nat) (g : XGs) : XG := fun x ρ => match x with | .tup xs => if xs.length = n then g xs ρ else none | _ => none
def xAsg (e : XE) (g : XG) : XS := fun ρ h => ob (e ρ h) fun x h1 => (g x ρ).bind fun ρ' => some (.nx ρ', h1)
def xAsgO (e : XO) (i : Nat) : XS := fun ρ h => ob (e ρ h) fun d h1 => some (.nx (ρ.set i (.own d)), h1)
/-- a list of one's own is told, or kept unchanged from here on -/
def frzV : PVar → PVar
  | .own (.lst xs) => .val (.lst xs)
  | .own (.ins k ns xs) => .val (.ins k ns xs)
  | v => v
def frzAt (i : Nat) (ρ : PSt) : PSt := ρ.modify i frzV
def xFrz (i : Nat) (s : XS) : XS := fun ρ h => s (frzAt i ρ) h
def xAppO (i : Nat) (e : XE) : XS := fun ρ h => match ρ[i]? with
  | some (.own (.lst xs)) => ob (e ρ h) fun x h1 => if xs.length < 100000 then some (.nx (ρ.set i (.own (.lst (xs ++ [x])))), h1) else none
  | _ => none
/-- loops -/
def forL (g : XG) (s : XS) : List PV → PSt → AH → Option (Out × AH)
  | [], ρ, h => some (.nx ρ, h)
  | x :: xs, ρ, h => (g x ρ).bind fun ρ1 => ob (s ρ1 h) fun o h1 => match o with | .nx ρ' => forL g s xs ρ' h1 | .ct ρ' => forL g s xs ρ' h1 | .bk ρ' => some (.nx ρ', h1) | .rt y => some (.rt y, h1)
def xFor (it : XA) (g : XG) (s : XS) : XS := fun ρ h => ob (it ρ h) fun xs h1 => forL g s xs ρ h1
def runF (N : Nat) (s : XS) : Fn := fun xs h => ob (s (xs.map .val ++ List.replicate (N - xs.length) .no) h) fun o h1 => match o with | .rt x => some (x, h1) | .nx _ => some (.non, h1) | _ => none
/-- comprehension -/
def capt (ρ : PSt) (i : Nat) : PVar := match ρ[i]? with | some (.val y) => .val y | _ => .no
def innP (ix : List Nat) (ρ : PSt) (x : PV) : PSt := .val x :: ix.map (capt ρ)
def cmpL (e : XE) (inn : PV → PSt) : List PV → AH → Option (List PV × AH)
  | [], h => some ([], h)
  | x :: xs, h => ob (e (inn x) h) fun y h1 => ob (cmpL e inn xs h1) fun ys h2 => some (y :: ys, h2)
def xComp (it : XA) (ix : List Nat) (e : XE) : XO := fun ρ h => ob (it ρ h) fun xs h1 => if xs.length ≤ 100000 then ob (cmpL e (innP ix ρ) xs h1) fun ys h2 => some (.lst ys, h2) else none
/-! ### sound -/
theorem Ends.Ok.from_ {W0 W W1 : Wd} {D : Ends} {h' : AH} {o : Out} (l : Lf K W W1) (k : Ends.Ok K W0 W D h' o) : Ends.Ok K W0 W1 D h' o := by
  cases o with
  | nx ρ => exact fun W' σ' e l' g => k W' σ' e (l.trans l') g
  | bk ρ => exact fun W' σ' e l' g => k W' σ' e (l.trans l') g
  | ct ρ => exact fun W' σ' e l' g => k W' σ' e (l.trans l') g
  | rt x => exact k
section
variable {ta tb : TE} {ea eb : XE} {t u : TS} {s s' : XS} {tA : TT} {eA : XT}
theorem snd_next : SndS K tNext xNext := by
  intro W0 W ρ σ D o h' g e q
  cases e
  exact q W σ rfl .refl g
theorem snd_seq (a : SndS K t s) (b : SndS K u s') : SndS K (tSeq t u) (xSeq s s') := by
  intro W0 W ρ σ D o h' g e q
  obtain ⟨o1, h1, e1, f1⟩ := ob_some e
  refine a W0 W ρ σ _ o1 h1 g e1 ?_
  cases o1 with
  | nx ρ' => exact fun W' σ' w l g' => b W0 W' ρ' σ' D o h' g' (by rw [w]; exact f1) (q.from_ l)
  | rt x => cases f1; exact q
  | bk ρ' => cases f1; exact q
  | ct ρ' => cases f1; exact q
theorem snd_drop (a : SndE K ta ea) : SndS K (tDrop ta) (xDrop ea) := by
  intro W0 W ρ σ D o h' g e q
  obtain ⟨x, h1, e1, f1⟩ := ob_some e
  cases f1
  exact a W0 W ρ σ _ x _ g e1 fun v W1 w1 l1 r1 => q W1 σ w1 l1.lf (g.step l1)
theorem snd_ret (a : SndE K ta ea) : SndS K (tRet ta) (xRet ea) := by
  intro W0 W ρ σ D o h' g e q
  obtain ⟨x, h1, e1, f1⟩ := ob_some e
  cases f1
  exact a W0 W ρ σ _ x _ g e1 fun v W1 w1 l1 r1 => q W1 v w1 (g.le.trans l1) r1
theorem snd_ifS (c : SndT K tA eA) (a : SndS K t s) (b : SndS K u s') : SndS K (tIfS tA t u) (xIfS eA s s') := by
  intro W0 W ρ σ D o h' g e q
  obtain ⟨k, h1, e1, f1⟩ := ob_some e
  refine c W0 W ρ σ _ k h1 g e1 fun W1 w1 l1 => ?_
  subst w1
  cases k with
  | true =>
    rw [if_pos rfl] at f1 ⊢
    exact a W0 W1 ρ σ D o h' (g.step l1) f1 (q.from_ l1.lf)
  | false =>
    rw [if_neg (by decide)] at f1 ⊢
    exact b W0 W1 ρ σ D o h' (g.step l1) f1 (q.from_ l1.lf)
theorem Good.set {W0 W : Wd} {ρ : PSt} {σ : St} (g : Good K W0 W ρ σ) (i : Nat) {x : PV} {v : V} (r : RepW K W x v) : Good K W0 W (ρ.set i (.val x)) (σ.set i (some v)) where
  le := g.le
  len := by simp [g.len]
  val := fun j y e => by
    by_cases hj : i = j
    · subst hj
      by_cases hl : i < ρ.length
      · rw [List.getElem?_set_self hl] at e
        cases e
        exact ⟨v, List.getElem?_set_self (by rw [g.len]; exact hl), r⟩
      · rw [List.getElem?_eq_none (by simp; omega)] at e; cases e
    · rw [List.getElem?_set_ne hj] at e
      obtain ⟨w, h1, h2⟩ := g.val j y e
      exact ⟨w, by rw [List.getElem?_set_ne hj]; exact h1, h2⟩
  own := fun j d e => by
    by_cases hj : i = j
    · subst hj
      by_cases hl : i < ρ.length
      · rw [List.getElem?_set_self hl] at e; cases e
      · rw [List.getElem?_eq_none (by simp; omega)] at e; cases e
    · rw [List.getElem?_set_ne hj] at e
      obtain ⟨p, h1, h2⟩ := g.own j d e
      exact ⟨p, by rw [List.getElem?_set_ne hj]; exact h1, h2⟩
  ne := fun j k d d' hjk e1 e2 => by
    have f : ∀ {j : Nat} {d : Nd}, (ρ.set i (.val x))[j]? = some (.own d) → i ≠ j ∧ ρ[j]? = some (.own d) := fun {j d} e => by
      by_cases hj : i = j
      · subst hj
        by_cases hl : i < ρ.length
        · rw [List.getElem?_set_self hl] at e; cases e
        · rw [List.getElem?_eq_none (by simp; omega)] at e; cases e
      · rw [List.getElem?_set_ne hj] at e; exact ⟨hj, e⟩
    obtain ⟨a1, a2⟩ := f e1
    obtain ⟨b1, b2⟩ := f e2
    rw [List.getElem?_set_ne a1, List.getElem?_set_ne b1]
    exact g.ne j k d d' hjk a2 b2
/-- one variable gets a thing of its own -/
theorem Good.setO {W0 W : Wd} {ρ : PSt} {σ : St} (g : Good K W0 W ρ σ) (i : Nat) {d : Nd} {p : Addr} (hm : p ∉ W.m) (h0 : W0.H p = none) (hd : d ≠ .dead) (at_ : NdAt K W.F W.H W.m d p)
    (ne : ∀ j d', i ≠ j → ρ[j]? = some (.own d') → σ[j]? ≠ some (some (.ref p))) : Good K W0 W (ρ.set i (.own d)) (σ.set i (some (.ref p))) where
  le := g.le
  len := by simp [g.len]
  val := fun j y e => by
    by_cases hj : i = j
    · subst hj
      by_cases hl : i < ρ.length
      · rw [List.getElem?_set_self hl] at e; cases e
      · rw [List.getElem?_eq_none (by simp; omega)] at e; cases e
    · rw [List.getElem?_set_ne hj] at e
      obtain ⟨w, h1, h2⟩ := g.val j y e
      exact ⟨w, by rw [List.getElem?_set_ne hj]; exact h1, h2⟩
  own := fun j d' e => by
    by_cases hj : i = j
    · subst hj
      by_cases hl : i < ρ.length
      · rw [List.getElem?_set_self hl] at e
        cases e
        exact ⟨p, List.getElem?_set_self (by rw [g.len]; exact hl), hm, h0, hd, at_⟩
      · rw [List.getElem?_eq_none (by simp; omega)] at e; cases e
    · rw [List.getElem?_set_ne hj] at e
      obtain ⟨p, h1, h2⟩ := g.own j d' e
      exact ⟨p, by rw [List.getElem?_set_ne hj]; exact h1, h2⟩
  ne := fun j k d1 d2 hjk e1 e2 => by
    have self : ∀ {j : Nat} {d' : Nd}, i = j → (ρ.set i (.own d))[j]? = some (.own d') → (σ.set i (some (.ref p)))[j]? = some (some (.ref p)) := fun {j d'} hj e => by
      subst hj
      by_cases hl : i < ρ.length
      · exact List.getElem?_set_self (by rw [g.len]; exact hl)
      · rw [List.getElem?_eq_none (by simp; omega)] at e; cases e
    by_cases hj : i = j
    · have hk : i ≠ k := fun z => hjk (hj.symm.trans z)
      rw [self hj e1, List.getElem?_set_ne hk]
      rw [List.getElem?_set_ne hk] at e2
      exact (ne k d2 hk e2).symm
    · rw [List.getElem?_set_ne hj]
      rw [List.getElem?_set_ne hj] at e1
      by_cases hk : i = k
      · rw [self hk e2]
        exact ne j d1 hj e1
      · rw [List.getElem?_set_ne hk] at e2 ⊢
        exact g.ne j k d1 d2 hjk e1 e2
def SndG (K : Ck) (g : TG) (y : XG) : Prop := ∀ (W0 W : Wd) (ρ ρ' : PSt) (σ : St) (x : PV) (v : V) (Q : St → Hp → Prop), Good K W0 W ρ σ → RepW K W x v → y x ρ = some ρ' → (∀ σ', Good K W0 W ρ' σ' → Q σ' W.H) → g v σ W.H Q
def SndGs (K : Ck) (g : TGs) (y : XGs) : Prop := ∀ (W0 W : Wd) (ρ ρ' : PSt) (σ : St) (x : List PV) (v : List V) (Q : St → Hp → Prop), Good K W0 W ρ σ → RepLW K W x v → y x ρ = some ρ' → (∀ σ', Good K W0 W ρ' σ' → Q σ' W.H) → g v σ W.H Q
theorem sndg_name (i : Nat) : SndG K (gName i) (yName i) := by
  intro W0 W ρ ρ' σ x v Q g r e q
  cases e
  exact q _ (g.set i r)
theorem sndg_nil : SndGs K gNil yNil := by
  intro W0 W ρ ρ' σ x v Q g r e q
  cases x with
  | nil => cases e; exact ⟨r, q _ g⟩
  | cons _ _ => cases e
theorem sndg_cons {g : TG} {gs : TGs} {y : XG} {ys : XGs} (a : SndG K g y) (b : SndGs K gs ys) : SndGs K (gCons g gs) (yCons y ys) := by
  intro W0 W ρ ρ' σ x v Q gd r e q
  cases x with
  | nil => cases e
  | cons x xs =>
    obtain ⟨v1, vs, rfl, r1, r2⟩ := r
    obtain ⟨ρ1, e1, e2⟩ := Option.bind_eq_some_iff.mp e
    exact ⟨v1, vs, rfl, a W0 W ρ ρ1 σ x v1 _ gd r1 e1 fun σ' g' => b W0 W ρ1 ρ' σ' xs vs Q g' r2 e2 q⟩
theorem sndg_tup {n : Nat} {gs : TGs} {ys : XGs} (b : SndGs K gs ys) : SndG K (gTup K.K n gs) (yTup n ys) := by
  intro W0 W ρ ρ' σ x v Q g r e q
  unfold yTup at e
  split at e
  · rename_i xs
    split at e
    · rename_i hl
      obtain ⟨a, vs, rfl, hs, rs⟩ := r
      exact ⟨a, vs, rfl, (hs.elim (fun h => SqT.of (g.ok.le _ _ h)) .inr), by rw [rs.len]; exact hl, b W0 W ρ ρ' σ xs vs Q g rs e q⟩
    · cases e
  · cases e
theorem snd_asg {g : TG} {y : XG} (a : SndE K ta ea) (b : SndG K g y) : SndS K (tAsg ta g) (xAsg ea y) := by
  intro W0 W ρ σ D o h' gd e q
  obtain ⟨x, h1, e1, f1⟩ := ob_some e
  obtain ⟨ρ', e2, f2⟩ := Option.bind_eq_some_iff.mp f1
  cases f2
  exact a W0 W ρ σ _ x _ gd e1 fun v W1 w1 l1 r1 => b W0 W1 ρ ρ' σ x v _ (gd.step l1) r1 e2 fun σ' g' => q W1 σ' w1 l1.lf g'
theorem snd_asgO {o : XO} (i : Nat) (a : SndO K ta o) : SndS K (tAsg ta (gName i)) (xAsgO o i) := by
  intro W0 W ρ σ D o h' gd e q
  obtain ⟨d, h1, e1, f1⟩ := ob_some e
  cases f1
  refine a W0 W ρ σ _ d _ gd e1 fun p W1 w1 l1 hm hn hd at_ => q W1 _ w1 l1.lf ((gd.step l1).setO i hm (gd.le.fresh hn) hd at_ fun j d' hj e hs => ?_)
  obtain ⟨p', h1, h2, _, _, h5⟩ := gd.own j d' e
  rw [h1] at hs
  cases hs
  obtain ⟨o, ho⟩ := h5.some
  rw [hn] at ho; cases ho
theorem Good.frz {W0 W : Wd} {ρ : PSt} {σ : St} (g : Good K W0 W ρ σ) (i : Nat) : ∃ W', W'.h = W.h ∧ W'.H = W.H ∧ Lf K W W' ∧ Good K W0 W' (frzAt i ρ) σ := by
  unfold frzAt
  cases e : ρ[i]? with
  | none => exact ⟨W, rfl, rfl, .refl, by rw [List.modify_eq_self (by simpa using e)]; exact g⟩
  | some v =>
    have hl : i < ρ.length := (List.getElem?_eq_some_iff.mp e).1
    have em : ρ.modify i frzV = ρ.set i (frzV v) := by
      apply List.ext_getElem?
      intro j
      rw [List.getElem?_modify, List.getElem?_set]
      by_cases hj : i = j
      · subst hj
        obtain ⟨_, ev⟩ := List.getElem?_eq_some_iff.mp e
        simp [hl, ev]
      · simp [hj]
    have same : frzV v = v → ∃ W', W'.h = W.h ∧ W'.H = W.H ∧ Lf K W W' ∧ Good K W0 W' (ρ.modify i frzV) σ := fun z => ⟨W, rfl, rfl, .refl, by
      rw [em, z]
      have : ρ.set i v = ρ := by
        apply List.ext_getElem?
        intro j
        by_cases hj : i = j
        · subst hj; rw [List.getElem?_set_self hl, e]
        · rw [List.getElem?_set_ne hj]
      rw [this]; exact g⟩
    have go : ∀ (d : Nd) (x : PV) (p : Addr) (o : HO), v = .own d → frzV v = .val x → σ[i]? = some (some (.ref p)) → p ∉ W.m → W0.H p = none → W.H p = some o → W.F p = none → (∀ (F' : Hp), Same W.F F' → F' p = some o → Rep K F' W.m x (.ref p)) →
        ∃ W', W'.h = W.h ∧ W'.H = W.H ∧ Lf K W W' ∧ Good K W0 W' (ρ.modify i frzV) σ := fun d x p o hv hx hs hm h0 hp hf hr => by
      obtain ⟨k, sF⟩ := wfrz_ok (K := K) g.ok hp hm hf
      have lf : Lf K W (wfrz W p o) := ⟨sF, List.prefix_refl _, fun _ _ _ e => ⟨e, fun _ _ => rfl⟩⟩
      refine ⟨wfrz W p o, rfl, rfl, lf, ⟨wfrz_le g.le hp hm hf h0, by rw [List.length_modify]; exact g.len, fun j y e' => ?_, fun j d' e' => ?_, fun j1 j2 d1 d2 hj e1 e2 => ?_⟩⟩
      · rw [em, hx] at e'
        by_cases hj : i = j
        · subst hj
          rw [List.getElem?_set_self hl] at e'
          cases e'
          exact ⟨_, hs, hr _ sF upd_same⟩
        · rw [List.getElem?_set_ne hj] at e'
          obtain ⟨w, a1, a2⟩ := g.val j y e'
          exact ⟨w, a1, lf.rep a2⟩
      · rw [em, hx] at e'
        by_cases hj : i = j
        · subst hj
          rw [List.getElem?_set_self hl] at e'
          cases e'
        · rw [List.getElem?_set_ne hj] at e'
          obtain ⟨q, a1, a2, a3, a4, a5⟩ := g.own j d' e'
          have hq : q ≠ p := fun z => g.ne j i d' d (fun z => hj z.symm) e' (hv ▸ e) (by rw [a1, hs, z])
          exact ⟨q, a1, a2, a3, a4, a5.mono sF (List.prefix_refl _) (fun _ e => e) fun f => (upd_ne hq).trans f⟩
      · rw [em, hx] at e1 e2
        have f : ∀ {j : Nat} {d : Nd}, (ρ.set i (.val x))[j]? = some (.own d) → ρ[j]? = some (.own d) := fun {j d} e => by
          by_cases hj : i = j
          · subst hj; rw [List.getElem?_set_self hl] at e; cases e
          · rw [List.getElem?_set_ne hj] at e; exact e
        exact g.ne j1 j2 d1 d2 hj (f e1) (f e2)
    cases v with
    | no => exact same rfl
    | val x => exact same rfl
    | own d =>
      obtain ⟨p, a1, a2, a3, a4, a5⟩ := g.own i d e
      cases d with
      | lst xs =>
        obtain ⟨hf, vs, hp, r⟩ := a5
        exact go _ (.lst xs) p _ rfl rfl a1 a2 a3 hp hf fun F' s hF => ⟨p, vs, rfl, hF, RepL.mono s (List.prefix_refl _) _ _ r⟩
      | dct ks xs => exact same rfl
      | fz ks xs => exact same rfl
      | ins k ns xs =>
        obtain ⟨hf, dx, vs, hp, hl, r⟩ := a5
        exact go _ (.ins k ns xs) p _ rfl rfl a1 a2 a3 hp hf fun F' s hF => ⟨p, dx, vs, rfl, hF, hl, RepL.mono s (List.prefix_refl _) _ _ r⟩
      | dead => exact same rfl
theorem snd_frz (i : Nat) (a : SndS K t s) : SndS K t (xFrz i s) := by
  intro W0 W ρ σ D o h' g e q
  obtain ⟨W', e1, e2, l, g'⟩ := g.frz i
  rw [← e2]
  exact a W0 W' _ σ D o h' g' (by rw [e1]; exact e) (q.from_ l)
end
end PX
namespace PX
open PySem L2
variable {K : Ck}
section
variable {ta tb : TE} {ea eb : XE} {t u : TS} {s s' : XS} {tA : TT} {eA : XT}
/-- what one owns is changed -/
def wmut (W : Wd) (p : Addr) (o : HO) : Wd := ⟨W.F, upd W.H p o, W.m, W.h⟩
theorem wmut_ok {W : Wd} {p : Addr} {o : HO} (w : WOk K W) (hm : p ∉ W.m) (hf : W.F p = none) : WOk K (wmut W p o) := by
  refine ⟨fun b u e => ?_, w.len, w.nd, fun n d a e1 e2 => ?_⟩
  · have : b ≠ p := ne_of_none e hf
    exact (upd_ne this).trans (w.le _ _ e)
  · have ha : a ≠ p := fun z => hm (z ▸ List.mem_of_getElem? e2)
    exact (w.at_ n d a e1 e2).mono (Same.refl _) (List.prefix_refl _) (fun u e => (upd_ne ha).trans e) id
theorem wmut_le {W W1 : Wd} {p : Addr} {o : HO} (l : Le K W W1) (hm : p ∉ W1.m) (hf : W1.F p = none) (hn : W.H p = none) : Le K W (wmut W1 p o) :=
  ⟨wmut_ok l.ok hm hf, l.fs, l.pre, fun b u e n => (upd_ne (ne_of_none e hn)).trans (l.keep b u e n), l.new, l.mn, fun n ks xs e1 => ⟨(l.fz n ks xs e1).1, fun a e2 => (upd_ne (fun (z : a = p) => hm (z ▸ List.mem_of_getElem? (pre_get l.pre e2)))).trans ((l.fz n ks xs e1).2 a e2)⟩⟩
theorem lf_mut {W W1 : Wd} {p : Addr} {o : HO} (l : Le K W W1) (hm : p ∉ W1.m) : Lf K W (wmut W1 p o) :=
  ⟨l.fs, l.pre, fun n ks xs e1 => ⟨(l.fz n ks xs e1).1, fun a e2 => (upd_ne (fun (z : a = p) => hm (z ▸ List.mem_of_getElem? (pre_get l.pre e2)))).trans ((l.fz n ks xs e1).2 a e2)⟩⟩
theorem Good.mut {W0 W : Wd} {ρ : PSt} {σ : St} (g : Good K W0 W ρ σ) {i : Nat} {d d' : Nd} {p : Addr} {o : HO} (e : ρ[i]? = some (.own d)) (hs : σ[i]? = some (some (.ref p))) (hm : p ∉ W.m) (h0 : W0.H p = none) (hf : W.F p = none) (hd : d' ≠ .dead)
    (at_ : NdAt K W.F (upd W.H p o) W.m d' p) : Good K W0 (wmut W p o) (ρ.set i (.own d')) σ := by
  have hl : i < ρ.length := (List.getElem?_eq_some_iff.mp e).1
  refine ⟨wmut_le g.le hm hf h0, by rw [List.length_set]; exact g.len, fun j y e' => ?_, fun j d1 e' => ?_, fun j1 j2 d1 d2 hj e1 e2 => ?_⟩
  · by_cases hj : i = j
    · subst hj; rw [List.getElem?_set_self hl] at e'; cases e'
    · rw [List.getElem?_set_ne hj] at e'; exact g.val j y e'
  · by_cases hj : i = j
    · subst hj; rw [List.getElem?_set_self hl] at e'; cases e'; exact ⟨p, hs, hm, h0, hd, at_⟩
    · rw [List.getElem?_set_ne hj] at e'
      obtain ⟨q, a1, a2, a3, a4, a5⟩ := g.own j d1 e'
      have hq : q ≠ p := fun z => g.ne j i d1 d (fun z => hj z.symm) e' e (by rw [a1, hs, z])
      exact ⟨q, a1, a2, a3, a4, a5.mono (Same.refl _) (List.prefix_refl _) (fun u e => (upd_ne hq).trans e) id⟩
  · have f : ∀ {j : Nat} {d1 : Nd}, (ρ.set i (.own d'))[j]? = some (.own d1) → ∃ d2, ρ[j]? = some (.own d2) := fun {j d1} e' => by
      by_cases hj : i = j
      · subst hj; exact ⟨d, e⟩
      · rw [List.getElem?_set_ne hj] at e'; exact ⟨_, e'⟩
    obtain ⟨_, f1⟩ := f e1
    obtain ⟨_, f2⟩ := f e2
    exact g.ne j1 j2 _ _ hj f1 f2
theorem big {n : Nat} (h : n < 100000) : n < sizeLine := Nat.lt_of_lt_of_le h (by decide)
theorem snd_appO (i : Nat) (a : SndE K ta ea) : SndS K (tDrop (tBM K.K "list" rAppend (tVar i) (tCons ta tNil))) (xAppO i ea) := by
  intro W0 W ρ σ D o h' g e q
  unfold xAppO at e
  split at e
  · rename_i xs0 hx
    obtain ⟨x, h1, e1, f1⟩ := ob_some e
    split at f1
    · rename_i hlen
      cases f1
      obtain ⟨p, a1, a2, a3, a4, hf, vs, hp, r⟩ := g.own i _ hx
      refine ⟨.ref p, a1, .inl ⟨rfl, _, SqL.of hp⟩, ?_⟩
      refine a W0 W ρ σ _ x _ g e1 fun v W1 w1 l1 r1 => ⟨p, vs, v, rfl, rfl, l1.keep _ _ hp a2, by rw [r.len]; exact big hlen, ?_⟩
      have g1 := g.step l1
      obtain ⟨p', b1, b2, b3, b4, b5, vs', b6, b7⟩ := g1.own i _ hx
      rw [a1] at b1
      cases b1
      rw [l1.keep _ _ hp a2] at b6
      cases b6
      exact q (wmut W1 p (.lst (vs ++ [v]))) σ w1 (lf_mut l1 b2) (g1.mut hx a1 b2 b3 b5 (fun z => by cases z) ⟨b5, _, upd_same, b7.snoc r1⟩)
    · cases f1
  · cases e
/-! ### loops -/
structure ItOk (K : Ck) (W : Wd) (J : It) (xs : List PV) : Prop where
  go : ∀ (i : Nat) (W' : Wd), Lf K W W' → WOk K W' → i < xs.length → J.go i W'.H
  yld : ∀ (i : Nat) (W' : Wd) (v : V) (H2 : Hp), Lf K W W' → WOk K W' → i < xs.length → J.yld i W'.H v H2 → H2 = W'.H ∧ ∃ x, xs[i]? = some x ∧ RepW K W' x v
  stop : ∀ (W' : Wd), Lf K W W' → WOk K W' → J.stop xs.length W'.H
def SndI (K : Ck) (wi : TI) (e : XA) : Prop := ∀ (W0 W : Wd) (ρ : PSt) (σ : St) (R : It → Hp → Prop) (xs : List PV) (h' : AH), Good K W0 W ρ σ → e ρ W.h = some (xs, h') → (∀ J W', W'.h = h' → Le K W W' → ItOk K W' J xs → R J W'.H) → wi σ W.H R
def xIL (e : XE) : XA := fun ρ h => ob (e ρ h) fun x h1 => match x with | .lst xs => some (xs, h1) | .scr ns => some (ns.map .int, h1) | _ => none
def sgn (c : Nat) : PV := .str ⟨#[c]⟩
def rngV (lo : Int) (n : Nat) : List PV := (List.range n).map fun (k : Nat) => .int (lo + (k : Int))
def xIR1 (a : XA) : XA := fun ρ h => ob (a ρ h) fun xs h1 => match xs with | [.int j] => if -1000000000 ≤ j ∧ j ≤ 1000000000 then some (rngV 0 j.toNat, h1) else none | _ => none
theorem seqL_up {W : Wd} (w : WOk K W) {a : Addr} {vs : List V} (h : SqL K.K W.F a vs) : SqL K.K W.H a vs := Same.seq w.le h
theorem seqT_up {W : Wd} (w : WOk K W) {a : Addr} {vs : List V} (h : TpAt K.K W.F a vs) : SqT K.K W.H a vs := h.elim (fun h => SqT.of (w.le _ _ h)) .inr
theorem sndi_list (a : SndE K ta ea) : SndI K (iList K.K ta) (xIL ea) := by
  intro W0 W ρ σ R xs h' g e q
  obtain ⟨x, h1, e1, f1⟩ := ob_some e
  refine a W0 W ρ σ _ x h1 g e1 fun v W1 w1 l1 r1 => ?_
  have key : ∀ (a : Addr) (vs : List V), v = .ref a → SqL K.K W1.F a vs → RepL K W1.F W1.m xs vs → h1 = h' → ∃ a, v = .ref a ∧ (∃ xs, SqL K.K W1.H a xs) ∧ R (Itl K.K a) W1.H := fun a vs ev hs rs eh => by
    subst eh
    refine ⟨a, ev, ⟨vs, seqL_up l1.ok hs⟩, q _ W1 w1 l1 ⟨fun i W' l w hi => ?_, fun i W' v' H2 l w hi hy => ?_, fun W' l w => ?_⟩⟩
    · obtain ⟨v', h1, _⟩ := rs.get (List.getElem?_eq_getElem hi)
      exact ⟨vs, v', seqL_up w (Same.seq l.fs hs), h1⟩
    · obtain ⟨h1, h2⟩ := hy
      have := h2 vs (seqL_up w (Same.seq l.fs hs))
      obtain ⟨x, h3, h4⟩ := rs.get' this
      exact ⟨h1, x, h3, l.rep h4⟩
    · exact ⟨vs, seqL_up w (Same.seq l.fs hs), by rw [rs.len]; exact Nat.le_refl _⟩
  split at f1
  · cases f1
    obtain ⟨a, vs, ev, hs, rs⟩ := r1
    exact key a vs ev (SqL.of hs) rs rfl
  · rename_i ns
    cases f1
    obtain ⟨a, ev, hs⟩ := r1
    exact key a _ ev hs (RepL.of_ints ns) rfl
  · cases f1
theorem it_rng (W : Wd) (lo : Int) (n : Nat) : ItOk K W (Itr lo n) (rngV lo n) := by
  refine ⟨fun i W' l w hi => ?_, fun i W' v' H2 l w hi hy => ?_, fun W' l w => ?_⟩
  · show i < n
    simpa [rngV] using hi
  · obtain ⟨h1, h2⟩ := hy
    have hi : i < n := by simpa [rngV] using hi
    exact ⟨h1, .int (lo + (i : Int)), by simp [rngV, hi], h2⟩
  · show n ≤ _
    simp [rngV]
theorem sndi_rng1 {t : TA} {e : XA} (a : SndA K t e) : SndI K (iRng1 t) (xIR1 e) := by
  intro W0 W ρ σ R xs h' g e q
  obtain ⟨ys, h1, e1, f1⟩ := ob_some e
  split at f1
  · rename_i j
    split at f1
    · rename_i hj
      cases f1
      refine a W0 W ρ σ _ _ _ g e1 fun vs W1 w1 l1 r1 => ?_
      obtain ⟨v, r, rfl, rv, rr⟩ := r1
      obtain rfl : r = [] := rr
      exact ⟨j, by rw [show v = .int j from rv], by omega, by omega, q _ W1 w1 l1 (it_rng W1 0 _)⟩
    · cases f1
  · cases f1
theorem snd_for {wi : TI} {it : XA} {g : TG} {y : XG} (a : SndI K wi it) (b : SndG K g y) (c : SndS K t s) : SndS K (tFor wi g t) (xFor it y s) := by
  intro W0 W ρ σ D o h' gd e q
  obtain ⟨xs, h1, e1, f1⟩ := ob_some e
  refine a W0 W ρ σ _ xs h1 gd e1 fun J W1 w1 l1 J1 => ?_
  subst w1
  have q1 := q.from_ l1.lf
  refine ⟨fun i m σ H => m = xs.length - i ∧ i ≤ xs.length ∧ ∃ W' ρ', W'.H = H ∧ Lf K W1 W' ∧ Good K W0 W' ρ' σ ∧ forL y s (xs.drop i) ρ' W'.h = some (o, h'), ⟨_, rfl, Nat.zero_le _, W1, ρ, rfl, .refl, gd.step l1, by simpa using f1⟩, ?_⟩
  rintro i m σ _ ⟨rfl, hi, W', ρ', rfl, l, g', f⟩
  by_cases hlt : i < xs.length
  · rw [List.drop_eq_getElem_cons hlt] at f
    obtain ⟨ρ1, k1, f⟩ := Option.bind_eq_some_iff.mp f
    obtain ⟨o1, h2, k2, f3⟩ := ob_some f
    refine .inr ⟨J1.go i W' l g'.ok hlt, fun σ2 H2 => i + 1 ≤ xs.length ∧ ∃ W2 ρ2, W2.H = H2 ∧ Lf K W1 W2 ∧ Good K W0 W2 ρ2 σ2 ∧ forL y s (xs.drop (i + 1)) ρ2 W2.h = some (o, h'), fun σ2 H2 ⟨n1, n2⟩ => ⟨xs.length - (i + 1), by omega, rfl, n1, n2⟩, fun v H2 hy => ?_⟩
    obtain ⟨rfl, x, hx, rx⟩ := J1.yld i W' v H2 l g'.ok hlt hy
    rw [List.getElem?_eq_getElem hlt] at hx
    cases hx
    refine b W0 W' ρ' ρ1 σ _ v _ g' rx k1 fun σ2 g2 => ?_
    refine c W0 W' ρ1 σ2 _ o1 h2 g2 k2 ?_
    cases o1 with
    | nx ρ2 => exact fun W2 σ3 w2 l2 g3 => ⟨hlt, W2, ρ2, rfl, l.trans l2, g3, by rw [w2]; exact f3⟩
    | ct ρ2 => exact fun W2 σ3 w2 l2 g3 => ⟨hlt, W2, ρ2, rfl, l.trans l2, g3, by rw [w2]; exact f3⟩
    | bk ρ2 => cases f3; exact fun W2 σ3 w2 l2 g3 => q1 W2 σ3 w2 (l.trans l2) g3
    | rt x => cases f3; exact q1
  · have ei : i = xs.length := by omega
    subst ei
    refine .inl ⟨J1.stop W' l g'.ok, ?_⟩
    rw [List.drop_length] at f
    cases f
    exact q1 W' σ rfl l g'
/-! ### a comprehension -/
theorem cmp_len {e : XE} {inn : PV → PSt} : ∀ {xs : List PV} {h : AH} {ys : List PV} {h' : AH}, cmpL e inn xs h = some (ys, h') → ys.length = xs.length
  | [], _, _, _, e => by cases e; rfl
  | x :: xs, _, _, _, e => by
    obtain ⟨y, h1, e1, f1⟩ := ob_some e
    obtain ⟨ys, h2, e2, f2⟩ := ob_some f1
    cases f2
    rw [List.length_cons, List.length_cons, cmp_len e2]
theorem good_inn {W0 W W' : Wd} {ρ : PSt} {σ : St} (g : Good K W0 W ρ σ) (l : Le K W W') (ix : List Nat) {x : PV} {v : V} (r : RepW K W' x v) : Good K W' W' (innP ix ρ x) (inner ix σ v) where
  le := .refl l.ok
  len := by simp [innP, inner]
  val := fun j y e => by
    cases j with
    | zero => simp [innP] at e; subst e; exact ⟨v, rfl, r⟩
    | succ j =>
      have e : (ix.map (capt ρ))[j]? = some (.val y) := e
      rw [List.getElem?_map] at e
      cases ei : ix[j]? with
      | none => rw [ei] at e; cases e
      | some i =>
        rw [ei] at e
        have e : capt ρ i = .val y := Option.some.inj e
        unfold capt at e
        split at e
        · rename_i z hz
          cases e
          obtain ⟨w, h1, h2⟩ := g.val i _ hz
          exact ⟨w, by show (ix.map fun i => (σ[i]?).getD none)[j]? = _; rw [List.getElem?_map, ei]; simp [h1], l.rep h2⟩
        · cases e
  own := fun j d e => by
    cases j with
    | zero => simp [innP] at e
    | succ j =>
      have e : (ix.map (capt ρ))[j]? = some (.own d) := e
      rw [List.getElem?_map] at e
      cases ei : ix[j]? with
      | none => rw [ei] at e; cases e
      | some i =>
        rw [ei] at e
        have e : capt ρ i = .own d := Option.some.inj e
        unfold capt at e
        split at e <;> cases e
  ne := fun j k d d' _ e _ => by
    cases j with
    | zero => simp [innP] at e
    | succ j =>
      have e : (ix.map (capt ρ))[j]? = some (.own d) := e
      rw [List.getElem?_map] at e
      cases ei : ix[j]? with
      | none => rw [ei] at e; cases e
      | some i =>
        rw [ei] at e
        have e : capt ρ i = .own d := Option.some.inj e
        unfold capt at e
        split at e <;> cases e
theorem snd_comp {wi : TI} {it : XA} (ix : List Nat) (a : SndI K wi it) (b : SndE K ta ea) : SndO K (tComp wi ix ta) (xComp it ix ea) := by
  intro W0 W ρ σ Q d h' gd e q
  obtain ⟨xs, h1, e1, f1⟩ := ob_some e
  split at f1
  · rename_i hlen
    obtain ⟨zs, h2, e2, f2⟩ := ob_some f1
    cases f2
    have hz := cmp_len e2
    refine a W0 W ρ σ _ xs h1 gd e1 fun J W1 w1 l1 J1 => ?_
    subst w1
    intro D hD
    have nm := l1.ok.out hD
    have nf := l1.ok.ff hD
    refine ⟨fun i m H => m = xs.length - i ∧ i ≤ xs.length ∧ ∃ W' acc done rest, W'.H = H ∧ Le K W1 W' ∧ D ∉ W'.m ∧ W'.F D = none ∧ H D = some (.lst acc) ∧ RepLW K W' done acc ∧ done.length = i ∧ zs = done ++ rest ∧ cmpL ea (innP ix ρ) (xs.drop i) W'.h = some (rest, h'), ⟨_, rfl, Nat.zero_le _, wlay W1 D (.lst []), [], [], zs, rfl, wlay_le l1.ok hD, nm, nf, upd_same, rfl, rfl, rfl, by rw [List.drop_zero]; exact e2⟩, ?_⟩
    rintro i m _ ⟨rfl, hi, W', acc, done, rest, rfl, l, n1, n2, hd, rd, ld, ez, f⟩
    by_cases hlt : i < xs.length
    · rw [List.drop_eq_getElem_cons hlt] at f
      obtain ⟨y, h3, k1, f3⟩ := ob_some f
      obtain ⟨ys, h4, k2, f4⟩ := ob_some f3
      cases f4
      refine .inr ⟨J1.go i W' l.lf l.ok hlt, fun v H2 hy => ?_⟩
      obtain ⟨rfl, x, hx, rx⟩ := J1.yld i W' v H2 l.lf l.ok hlt hy
      rw [List.getElem?_eq_getElem hlt] at hx
      cases hx
      refine b W' W' _ _ _ y h3 (good_inn gd (l1.trans l) ix rx) k1 fun w W2 w2 l2 r2 => ?_
      obtain ⟨o2, n2'⟩ : ∃ o, W'.H D = some o := ⟨_, hd⟩
      have nm2 : D ∉ W2.m := fun z => by rw [l2.mn D z n1] at hd; cases hd
      have nf2 : W2.F D = none := l2.new D _ hd n1 n2
      refine ⟨acc, l2.keep _ _ hd n1, ?_, xs.length - (i + 1), by omega, rfl, hlt, wmut W2 D (.lst (acc ++ [w])), acc ++ [w], done ++ [y], ys, rfl, wmut_le (l.trans l2) nm2 nf2 hD, nm2, nf2, upd_same, (l2.repL rd).snoc r2, by simp [ld], by simp [ez], ?_⟩
      · rw [rd.len, ld]; exact big (by omega)
      · show cmpL ea (innP ix ρ) (xs.drop (i + 1)) W2.h = some (ys, h')
        rw [w2]; exact k2
    · have ei : i = xs.length := by omega
      subst ei
      rw [List.drop_length] at f
      cases f
      refine .inl ⟨J1.stop W' l.lf l.ok, ?_⟩
      rw [List.append_nil] at ez
      subst ez
      exact q D W' rfl (l1.trans l) n1 (l1.fresh hD) (fun z => by cases z) ⟨n2, acc, hd, rd⟩
  · cases f1
/-! ### a def's body -/
theorem good_start {W : Wd} (w : WOk K W) {N : List Str} {xs : List PV} {vs : List V} (r : RepLW K W xs vs) : Good K W W (xs.map .val ++ List.replicate (N.length - xs.length) .no) (L2.start N vs) where
  le := .refl w
  len := by simp [L2.start, r.len]
  val := fun j y e => by
    by_cases hj : j < xs.length
    · rw [List.getElem?_append_left (by simpa using hj), List.getElem?_map, List.getElem?_eq_getElem hj] at e
      cases e
      obtain ⟨v, h1, h2⟩ := r.get (List.getElem?_eq_getElem hj)
      refine ⟨v, ?_, h2⟩
      unfold L2.start
      rw [List.getElem?_append_left (by simp [r.len, hj]), List.getElem?_map, h1]; rfl
    · rw [List.getElem?_append_right (by simp; omega), List.getElem?_replicate] at e
      split at e <;> cases e
  own := fun j d e => by
    by_cases hj : j < xs.length
    · rw [List.getElem?_append_left (by simpa using hj), List.getElem?_map, List.getElem?_eq_getElem hj] at e
      cases e
    · rw [List.getElem?_append_right (by simp; omega), List.getElem?_replicate] at e
      split at e <;> cases e
  ne := fun j k d d' _ e _ => by
    by_cases hj : j < xs.length
    · rw [List.getElem?_append_left (by simpa using hj), List.getElem?_map, List.getElem?_eq_getElem hj] at e
      cases e
    · rw [List.getElem?_append_right (by simp; omega), List.getElem?_replicate] at e
      split at e <;> cases e
theorem body_snd {N : List Str} {n : Nat} {vs : List V} {H : Hp} {Q : VK} {E : XK} {bk ct : St → Hp → Prop} (a : SndS K t s) (h : spE K n (runF N.length s) vs H Q E) : t ⟨fun _ H' => Q .non H', Q, bk, ct⟩ (L2.start N vs) H := by
  obtain ⟨W, xs, x, h', rfl, w, r, _, e, q⟩ := h
  obtain ⟨o, h1, e1, f1⟩ := ob_some e
  refine a W W _ _ _ o h1 (good_start w r) e1 ?_
  cases o with
  | rt y => cases f1; exact fun W' v ew l rv => q v W' ew l rv
  | nx ρ => cases f1; exact fun W' σ' ew _ g => q .non W' ew g.le rfl
  | bk ρ => cases f1
  | ct ρ => cases f1
theorem spE_len {n : Nat} {f : Fn} {vs : List V} {H : Hp} {Q : VK} {E : XK} (h : spE K n f vs H Q E) : vs.length = n := by
  obtain ⟨W, xs, x, h', rfl, w, r, hn, _⟩ := h
  rw [r.len, hn]
end
end PX
namespace PX
open PySem L2
variable {K : Ck}
/-! ## the text's operators -/
def oI (g : Int → Int → PV) : P2 := fun x y h => match x, y with | .int i, .int j => some (g i j, h) | _, _ => none
def oIc (C : Int → Int → Prop) [∀ i j, Decidable (C i j)] (g : Int → Int → PV) : P2 := fun x y h => match x, y with | .int i, .int j => if C i j then some (g i j, h) else none | _, _ => none
abbrev oAdd : P2 := oI fun i j => .int (i + j)
abbrev oSub : P2 := oI fun i j => .int (i - j)
def MulOk (i j : Int) : Prop := (-18446744073709551616 < i ∧ i < 18446744073709551616) ∨ (-18446744073709551616 < j ∧ j < 18446744073709551616)
instance (i j : Int) : Decidable (MulOk i j) := by unfold MulOk; infer_instance
def PowOk (i j : Int) : Prop := (0 ≤ i ∧ i < 18446744073709551616) ∧ 0 ≤ j ∧ j ≤ 1000000
instance (i j : Int) : Decidable (PowOk i j) := by unfold PowOk; infer_instance
abbrev oMul : P2 := oIc MulOk fun i j => .int (i * j)
abbrev oDiv : P2 := oIc (fun _ j => 0 < j ∧ j < 1073741824) fun i j => .int (i / j)
abbrev oMod : P2 := oIc (fun _ j => 0 < j) fun i j => .int (i % j)
abbrev oPow : P2 := oIc PowOk fun i j => .int (i ^ j.toNat)
abbrev oLt : P2 := oI fun i j => .bl (decide (i < j))
abbrev oGt : P2 := oI fun i j => .bl (decide (j < i))
abbrev oNeg : PV → AH → Option (PV × AH) := fun x h => match x with | .int i => some (.int (-i), h) | _ => none
theorem op_i {g : Int → Int → PV} {gV : Int → Int → V} (h : ∀ (W : Wd) i j, RepW K W (g i j) (gV i j)) : OpSnd K (rI0 gV) (oI g) := by
  intro W x y v u Q z h' w rx ry e q
  unfold oI at e
  split at e
  · rename_i i j
    cases e
    exact ⟨i, j, rx, ry, q _ W rfl (.refl w) (h W i j)⟩
  · cases e
theorem op_ic {C : Int → Int → Prop} [∀ i j, Decidable (C i j)] {C' : Int → Int → Prop} {g : Int → Int → PV} {gV : Int → Int → V} (hc : ∀ i j, C i j → C' i j) (h : ∀ (W : Wd) i j, RepW K W (g i j) (gV i j)) : OpSnd K (rI C' gV) (oIc C g) := by
  intro W x y v u Q z h' w rx ry e q
  unfold oIc at e
  split at e
  · rename_i i j
    split at e
    · rename_i c
      cases e
      exact ⟨i, j, rx, ry, hc i j c, q _ W rfl (.refl w) (h W i j)⟩
    · cases e
  · cases e
theorem o_add : OpSnd K rAddI oAdd := op_i fun _ _ _ => rfl
theorem o_sub : OpSnd K rSubI oSub := op_i fun _ _ _ => rfl
theorem o_mul : OpSnd K rMulI oMul := op_ic (fun i j h => by unfold CMul; rw [show (2 : Int) ^ 64 = 18446744073709551616 by decide]; exact h) fun _ _ _ => rfl
theorem o_div : OpSnd K rDivI oDiv := op_ic (fun i j h => h) fun _ _ _ => rfl
theorem o_mod : OpSnd K rModI oMod := op_ic (fun i j h => h) fun _ _ _ => rfl
theorem o_pow : OpSnd K rPowI oPow := op_ic (fun i j h => by unfold CPow; rw [show 2 ^ 64 = 18446744073709551616 by decide]; unfold PowOk at h; omega) fun _ _ _ => rfl
theorem o_lt : OpSnd K rLtI oLt := op_i fun _ _ _ => rfl
theorem o_gt : OpSnd K rGtI oGt := op_i fun _ _ _ => rfl
theorem o_neg : UnSnd K rNegI oNeg := by
  intro W x v Q z h' w rx e q
  unfold oNeg at e
  split at e
  · rename_i i
    cases e
    exact ⟨i, rx, q _ W rfl (.refl w) rfl⟩
  · cases e
/-- of plain values: the one of the heap's -/
def sv : PV → Option V
  | .non => some .non
  | .bl b => some (.bl b)
  | .int i => some (.int i)
  | .str s => some (.str s)
  | _ => none
theorem sv_rep {W : Wd} {x : PV} {v u : V} (e : sv x = some u) (r : RepW K W x v) : v = u := by
  cases x <;> cases e <;> exact r
def oEq : P2 := fun x y h => match sv x, sv y with | some v, some u => if scal v u = true then some (.bl (decide (v = u)), h) else none | _, _ => none
def oNe : P2 := fun x y h => match sv x, sv y with | some v, some u => if scal v u = true then some (.bl (!decide (v = u)), h) else none | _, _ => none
theorem o_eq : OpSnd K rEq oEq := by
  intro W x y v u Q z h' w rx ry e q
  unfold oEq at e
  split at e
  · rename_i v' u' e1 e2
    obtain rfl := sv_rep e1 rx
    obtain rfl := sv_rep e2 ry
    split at e
    · rename_i c
      cases e
      exact ⟨c, q _ W rfl (.refl w) rfl⟩
    · cases e
  · cases e
theorem o_ne : OpSnd K rNe oNe := by
  intro W x y v u Q z h' w rx ry e q
  unfold oNe at e
  split at e
  · rename_i v' u' e1 e2
    obtain rfl := sv_rep e1 rx
    obtain rfl := sv_rep e2 ry
    split at e
    · rename_i c
      cases e
      exact ⟨c, q _ W rfl (.refl w) rfl⟩
    · cases e
  · cases e
def isN : PV → Bool
  | .non => true
  | _ => false
def oIsN : P2 := fun x y h => match y with | .non => some (.bl (isN x), h) | _ => none
def oNotN : P2 := fun x y h => match y with | .non => some (.bl (!isN x), h) | _ => none
theorem isN_rep {W : Wd} {x : PV} {v : V} (r : RepW K W x v) : decide (v = .non) = isN x := by
  cases x with
  | non => rw [show v = .non from r]; rfl
  | bl b => rw [show v = .bl b from r]; rfl
  | int b => rw [show v = .int b from r]; rfl
  | str b => rw [show v = .str b from r]; rfl
  | ty b => rw [show v = .ty b from r]; rfl
  | cls b => rw [show v = .ref _ from r]; rfl
  | scr b => obtain ⟨a, e, _⟩ := r; rw [e]; rfl
  | lst b => obtain ⟨a, _, e, _⟩ := r; rw [e]; rfl
  | tup b => obtain ⟨a, _, e, _⟩ := r; rw [e]; rfl
  | ins k n b => obtain ⟨a, _, _, e, _⟩ := r; rw [e]; rfl
  | loc n => obtain ⟨a, e, _⟩ := r; rw [e]; rfl
theorem o_isN : OpSnd K rIsN oIsN := by
  intro W x y v u Q z h' w rx ry e q
  unfold oIsN at e
  split at e
  · cases e
    exact ⟨ry, by rw [isN_rep rx]; exact q _ W rfl (.refl w) rfl⟩
  · cases e
theorem o_notN : OpSnd K rNotN oNotN := by
  intro W x y v u Q z h' w rx ry e q
  unfold oNotN at e
  split at e
  · cases e
    exact ⟨ry, by rw [isN_rep rx]; exact q _ W rfl (.refl w) rfl⟩
  · cases e
/-! texts -/
def oAddS : P2 := fun x y h => match x, y with | .str i, .str j => if i.length + j.length ≤ 100000 then some (.str (i ++ j), h) else none | _, _ => none
def oIn1 : P2 := fun x y h => match x, y with | .str s, .str j => (match s.cps.toList with | [c] => some (.bl (decide (c ∈ j.cps.toList)), h) | _ => none) | _, _ => none
/-! an index -/
def oIxL : P2 := fun x y h => match y with
  | .int i => (match x with
    | .lst xs => (match atI xs i with | some v => some (v, h) | none => none)
    | .scr ns => (match atI ns i with | some v => some (.int v, h) | none => none)
    | .loc n => (match h[n]? with | some (.lst xs) => (match atI xs i with | some v => some (v, h) | none => none) | _ => none)
    | _ => none)
  | _ => none
def oIxT : P2 := fun x y h => match x, y with | .tup xs, .int i => (match atI xs i with | some v => some (v, h) | none => none) | _, _ => none
def oIxS : P2 := fun x y h => match x, y with | .str s, .int i => (match atI s.cps.toList i with | some c => if s.length ≤ 100000 then some (sgn c, h) else none | none => none) | _, _ => none
theorem RepL.at {F : Hp} {m : List Addr} {xs : List PV} {vs : List V} (r : RepL K F m xs vs) {i : Int} {x : PV} (e : atI xs i = some x) : ∃ v, atI vs i = some v ∧ Rep K F m x v := by
  unfold atI at e ⊢
  rw [r.len]
  obtain ⟨j, e1, e2⟩ := Option.bind_eq_some_iff.mp e
  rw [e1]
  exact r.get e2
theorem WOk.loc {W : Wd} (w : WOk K W) {n : Nat} {d : Nd} {v : V} (e : W.h[n]? = Option.some d) (r : RepW K W (.loc n) v) : ∃ a, v = .ref a ∧ W.m[n]? = Option.some a ∧ NdAt K W.F W.H W.m d a := by
  obtain ⟨a, ea, h⟩ := r
  exact ⟨a, ea, h, w.at_ n d a e h⟩
theorem o_ixL : OpSnd K (rIxL K.K) oIxL := by
  intro W x y v u Q z h' w rx ry e q
  unfold oIxL at e
  split at e
  · rename_i i
    split at e
    · rename_i xs
      split at e
      · rename_i y hy
        cases e
        obtain ⟨a, vs, ev, hs, rs⟩ := rx
        obtain ⟨v', h1, h2⟩ := rs.at hy
        exact ⟨a, vs, i, v', ev, ry, SqL.of (w.le _ _ hs), h1, q _ W rfl (.refl w) h2⟩
      · cases e
    · rename_i ns
      split at e
      · rename_i y hy
        cases e
        obtain ⟨a, ev, hs⟩ := rx
        refine ⟨a, _, i, .int y, ev, ry, seqL_up w hs, ?_, q _ W rfl (.refl w) rfl⟩
        unfold atI at hy ⊢
        rw [List.length_map]
        obtain ⟨j, e1, e2⟩ := Option.bind_eq_some_iff.mp hy
        rw [e1]
        show (ns.map V.int)[j]? = _
        rw [List.getElem?_map, e2]; rfl
      · cases e
    · rename_i n
      split at e
      · rename_i xs hn
        split at e
        · rename_i y hy
          cases e
          obtain ⟨a, ev, hm, hf, vs, hp, rs⟩ := w.loc hn rx
          obtain ⟨v', h1, h2⟩ := rs.at hy
          exact ⟨a, vs, i, v', ev, ry, SqL.of hp, h1, q _ W rfl (.refl w) h2⟩
        · cases e
      · cases e
    · cases e
  · cases e
theorem o_ixT : OpSnd K (rIxT K.K) oIxT := by
  intro W x y v u Q z h' w rx ry e q
  unfold oIxT at e
  split at e
  · rename_i xs i
    split at e
    · rename_i y hy
      cases e
      obtain ⟨a, vs, ev, hs, rs⟩ := rx
      obtain ⟨v', h1, h2⟩ := rs.at hy
      exact ⟨a, vs, i, v', ev, ry, seqT_up w hs, h1, q _ W rfl (.refl w) h2⟩
    · cases e
  · cases e
/-! slices -/
def cutP {α : Type} (xs : List α) (lo hi : Option Int) : List α := (xs.drop (HT.sIx xs.length 0 lo)).take (HT.sIx xs.length xs.length hi - HT.sIx xs.length 0 lo)
def listOf (x : PV) (h : AH) : Option (List PV) := match x with | .lst xs => some xs | .scr ns => some (ns.map .int) | .loc n => (match h[n]? with | some (.lst xs) => some xs | _ => none) | _ => none
theorem listOf_rep {W : Wd} (w : WOk K W) {x : PV} {v : V} {xs : List PV} (e : listOf x W.h = some xs) (r : RepW K W x v) : ∃ a vs, v = .ref a ∧ SqL K.K W.H a vs ∧ RepLW K W xs vs := by
  unfold listOf at e
  split at e
  · cases e
    obtain ⟨a, vs, ev, hs, rs⟩ := r
    exact ⟨a, vs, ev, SqL.of (w.le _ _ hs), rs⟩
  · rename_i ns
    cases e
    obtain ⟨a, ev, hs⟩ := r
    exact ⟨a, _, ev, seqL_up w hs, RepL.of_ints ns⟩
  · rename_i n
    split at e
    · rename_i ys hn
      cases e
      obtain ⟨a, ev, hm, hf, vs, hp, rs⟩ := w.loc hn r
      exact ⟨a, vs, ev, SqL.of hp, rs⟩
    · cases e
  · cases e
/-- not the script -/
def listOf' (x : PV) (h : AH) : Option (List PV) := match x with | .lst xs => some xs | .loc n => (match h[n]? with | some (.lst xs) => some xs | _ => none) | _ => none
theorem listOf'_rep {W : Wd} (w : WOk K W) {x : PV} {v : V} {xs : List PV} (e : listOf' x W.h = some xs) (r : RepW K W x v) : ∃ a vs, v = .ref a ∧ W.H a = some (.lst vs) ∧ RepLW K W xs vs := by
  unfold listOf' at e
  split at e
  · cases e
    obtain ⟨a, vs, ev, hs, rs⟩ := r
    exact ⟨a, vs, ev, w.le _ _ hs, rs⟩
  · rename_i n
    split at e
    · rename_i ys hn
      cases e
      obtain ⟨a, ev, hm, hf, vs, hp, rs⟩ := w.loc hn r
      exact ⟨a, vs, ev, hp, rs⟩
    · cases e
  · cases e
/-- a new list at p -/
theorem newL {W : Wd} (w : WOk K W) {p : Addr} (hp : W.H p = none) {xs : List PV} {vs : List V} (r : RepLW K W xs vs) {Q : VK} (q : NewAt K W (.lst xs) W.h Q) : Q (.ref p) (upd W.H p (.lst vs)) :=
  q p (wlay W p (.lst vs)) rfl (wlay_le w hp) (w.out hp) hp (fun z => by cases z) ⟨w.ff hp, vs, upd_same, r⟩
def oSlL : PV → Option Int → Option Int → AH → Option (Nd × AH) := fun x lo hi h => match listOf x h with | some xs => some (.lst (cutP xs lo hi), h) | none => none
theorem o_slL : SlSndO K (rSlL K.K) oSlL := by
  intro W x v lo hi Q d h' w rx e q
  unfold oSlL at e
  split at e
  · rename_i xs hx
    cases e
    obtain ⟨a, vs, ev, hs, rs⟩ := listOf_rep w hx rx
    refine ⟨a, vs, ev, hs, fun p hp => newL w hp ?_ q⟩
    have := (rs.drop (HT.sIx xs.length 0 lo)).take (HT.sIx xs.length xs.length hi - HT.sIx xs.length 0 lo)
    unfold cutP cutV
    rw [rs.len]
    exact this
  · cases e
def oCat : P2O := fun x y h => match listOf' x h, listOf' y h with | some xs, some ys => if xs.length + ys.length ≤ 100000 then some (.lst (xs ++ ys), h) else none | _, _ => none
def repL {α : Type} (k : Nat) (xs : List α) : List α := (List.replicate k xs).flatten
theorem RepL.rep {F : Hp} {m : List Addr} {xs : List PV} {vs : List V} (r : RepL K F m xs vs) : ∀ k : Nat, RepL K F m (repL k xs) (repL k vs)
  | 0 => rfl
  | k + 1 => by
    show RepL K F m ((List.replicate (k + 1) xs).flatten) ((List.replicate (k + 1) vs).flatten)
    rw [List.replicate_succ, List.replicate_succ, List.flatten_cons, List.flatten_cons]
    exact r.app (RepL.rep r k)
def oRep : P2O := fun x y h => match listOf' x h, y with | some xs, .int k => if -1000000 ≤ k ∧ k ≤ 100000 ∧ xs.length * k.toNat ≤ 100000 then some (.lst (repL k.toNat xs), h) else none | _, _ => none
/-! Python's own functions -/
def seqLen (x : PV) (h : AH) : Option Nat := match x with | .tup xs => some xs.length | .lst xs => some xs.length | .scr ns => some ns.length | .loc n => (match h[n]? with | some (.lst xs) => some xs.length | _ => none) | _ => none
def bLenL : List PV → AH → Option (PV × AH) := fun xs h => match xs with | [x] => (match seqLen x h with | some n => some (.int n, h) | none => none) | _ => none
def bLenS : List PV → AH → Option (PV × AH) := fun xs h => match xs with | [.str z] => if z.length ≤ 100000 then some (.int z.length, h) else none | _ => none
theorem rep1 {W : Wd} {x : PV} {vs : List V} (r : RepLW K W [x] vs) : ∃ v, vs = [v] ∧ RepW K W x v := by
  obtain ⟨v, r', e, h, l⟩ := r
  exact ⟨v, by rw [e, show r' = [] from l], h⟩
theorem rep2 {W : Wd} {x y : PV} {vs : List V} (r : RepLW K W [x, y] vs) : ∃ v u, vs = [v, u] ∧ RepW K W x v ∧ RepW K W y u := by
  obtain ⟨v, r', e, h, l⟩ := r
  obtain ⟨u, e2, h2⟩ := rep1 l
  exact ⟨v, u, by rw [e, e2], h, h2⟩
theorem b_lenL : CbSnd K (rLenL K.K) bLenL := by
  intro W xs vs Q z h' w r e q
  unfold bLenL at e
  split at e
  · rename_i x
    split at e
    · rename_i n hn
      cases e
      obtain ⟨v, rfl, rx⟩ := rep1 r
      have fin : ∀ (ys : List V), ys.length = n → Q (.int ys.length) W.H := fun ys hl => by rw [hl]; exact q _ W rfl (.refl w) rfl
      unfold seqLen at hn
      split at hn
      · cases hn
        obtain ⟨a, us, rfl, hs, rs⟩ := rx
        exact ⟨a, us, rfl, .inr (seqT_up w hs), fin _ rs.len⟩
      · rename_i ys
        cases hn
        obtain ⟨a, us, rfl, hs, rs⟩ := rx
        exact ⟨a, us, rfl, .inl (SqL.of (w.le _ _ hs)), fin _ rs.len⟩
      · rename_i ns
        cases hn
        obtain ⟨a, rfl, hs⟩ := rx
        exact ⟨a, _, rfl, .inl (seqL_up w hs), fin _ (by simp)⟩
      · split at hn
        · rename_i ys hy
          cases hn
          obtain ⟨a, rfl, hm, hf, us, hp, rs⟩ := w.loc hy rx
          exact ⟨a, us, rfl, .inl (SqL.of hp), fin _ rs.len⟩
        · cases hn
      · cases hn
    · cases e
  · cases e
def bInt1 : List PV → AH → Option (PV × AH) := fun xs h => match xs with | [.int i] => some (.int i, h) | [.bl k] => some (.int (if k then 1 else 0), h) | _ => none
def bStrI : List PV → AH → Option (PV × AH) := fun xs h => match xs with | [.int i] => if i.natAbs.log2 < 1920 then some (.str (toString i : String), h) else none | _ => none
def bListOf : List PV → AH → Option (Nd × AH) := fun xs h => match xs with | [.tup ys] => some (.lst ys, h) | [x] => (match listOf x h with | some ys => some (.lst ys, h) | none => none) | _ => none
theorem b_listOf : CbSndO K (rListOf K.K) bListOf := by
  intro W xs vs Q d h' w r e q
  unfold bListOf at e
  split at e
  · rename_i ys
    cases e
    obtain ⟨v, rfl, a, us, rfl, hs, rs⟩ := rep1 r
    exact ⟨a, us, rfl, .inr (seqT_up w hs), fun p hp => newL w hp rs q⟩
  · rename_i x _
    split at e
    · rename_i ys hy
      cases e
      obtain ⟨v, rfl, rx⟩ := rep1 r
      obtain ⟨a, us, rfl, hs, rs⟩ := listOf_rep w hy rx
      exact ⟨a, us, rfl, .inl hs, fun p hp => newL w hp rs q⟩
    · cases e
  · cases e
def isStr : PV → AH → Bool := fun x _ => match x with | .str _ => true | _ => false
end PX
namespace PX
open PySem L2
variable {K : Ck}
/-! ## objects -/
def putN (f : Str) (x : PV) (ns : List Str) (xs : List PV) : List Str × List PV := if f ∈ ns then (ns, xs.set (ns.idxOf f) x) else (ns ++ [f], xs ++ [x])
theorem putF_zip (f : Str) (y : V) : ∀ (ns : List Str) (vs : List V), vs.length = ns.length → putF f y (ns.zip vs) = if f ∈ ns then ns.zip (vs.set (ns.idxOf f) y) else (ns ++ [f]).zip (vs ++ [y])
  | [], [], _ => by simp [putF]
  | n :: ns, v :: vs, hl => by
    have ih := putF_zip f y ns vs (by simpa using hl)
    show (if n = f then (n, y) :: ns.zip vs else (n, v) :: putF f y (ns.zip vs)) = _
    by_cases h : n = f
    · subst h
      simp [List.idxOf_cons_self]
    · have h' : ¬ f = n := fun z => h z.symm
      have hb : (n == f) = false := by simpa using h
      rw [if_neg h, ih]
      by_cases hm : f ∈ ns
      · simp [hm, h', List.idxOf_cons, hb]
      · simp [hm, h']
theorem lookup_zip {f : Str} : ∀ {ns : List Str} {vs : List V}, vs.length = ns.length → f ∈ ns → (ns.zip vs).lookup f = vs[ns.idxOf f]?
  | [], _, _, h => by simp at h
  | n :: ns, v :: vs, hl, h => by
    show List.lookup f ((n, v) :: ns.zip vs) = _
    by_cases hn : f = n
    · subst hn
      rw [lk_hd, List.idxOf_cons_self]; rfl
    · rw [lk_tl hn, lookup_zip (by simpa using hl) (by simpa [hn] using h)]
      have hb : (n == f) = false := by simpa using fun z : n = f => hn z.symm
      simp [List.idxOf_cons, hb]
theorem lookup_zip_none {f : Str} : ∀ {ns : List Str} {vs : List V}, f ∉ ns → (ns.zip vs).lookup f = none
  | [], _, _ => by simp
  | n :: ns, [], _ => by simp
  | n :: ns, v :: vs, h => by
    show List.lookup f ((n, v) :: ns.zip vs) = _
    rw [lk_tl (fun z : f = n => h (by rw [z]; exact List.mem_cons_self)), lookup_zip_none fun z => h (List.mem_cons_of_mem _ z)]
/-- an object's class, names and values -/
def insOf (x : PV) (h : AH) : Option (Nat × List Str × List PV) := match x with | .ins k ns xs => some (k, ns, xs) | .loc n => (match h[n]? with | some (.ins k ns xs) => some (k, ns, xs) | _ => none) | _ => none
theorem insOf_rep {W : Wd} (w : WOk K W) {x : PV} {v : V} {k : Nat} {ns : List Str} {xs : List PV} (e : insOf x W.h = some (k, ns, xs)) (r : RepW K W x v) : ∃ a dx vs, v = .ref a ∧ W.H a = some (.ins (K.A k) dx (ns.zip vs)) ∧ vs.length = ns.length ∧ RepLW K W xs vs := by
  unfold insOf at e
  split at e
  · cases e
    obtain ⟨a, dx, vs, ev, hs, hl, rs⟩ := r
    exact ⟨a, dx, vs, ev, w.le _ _ hs, hl, rs⟩
  · rename_i n
    split at e
    · rename_i hn
      cases e
      obtain ⟨a, ev, hm, hf, dx, vs, hp, hl, rs⟩ := w.loc hn r
      exact ⟨a, dx, vs, ev, hp, hl, rs⟩
    · cases e
  · cases e
/-- o.f; cs: the classes for which it is known that no class has f -/
def xFld (cs : List Nat) (f : Str) (e : XE) : XE := fun ρ h => ob (e ρ h) fun x h1 => match insOf x h1 with | some (k, ns, xs) => if k ∈ cs ∧ f ∈ ns then (match xs[ns.idxOf f]? with | some y => some (y, h1) | none => none) else none | none => none
theorem snd_fld {cs : List Nat} {f : Str} {ta : TE} {ea : XE} (hc : ∀ k ∈ cs, Cls K.K (K.A k) ∧ NoAttr K.K (K.A k) f) (a : SndE K ta ea) : SndE K (tFld K.K ta f) (xFld cs f ea) := by
  intro W0 W ρ σ Q z h' g e q
  obtain ⟨x, h1, e1, f1⟩ := ob_some e
  refine a W0 W ρ σ _ x h1 g e1 fun v W1 w1 l1 r1 => ?_
  subst w1
  split at f1
  · rename_i k ns xs hi
    split at f1
    · rename_i c
      split at f1
      · rename_i y hy
        cases f1
        obtain ⟨a, dx, vs, ev, hp, hl, rs⟩ := insOf_rep l1.ok hi r1
        obtain ⟨u, h2, h3⟩ := rs.get hy
        exact ⟨a, _, dx, _, u, ev, hp, (hc k c.1).1, (hc k c.1).2, by rw [lookup_zip hl c.2]; exact h2, q _ W1 rfl l1 h3⟩
      · cases f1
    · cases f1
  · cases f1
/-- self.f = e, self being one's own -/
def xFldO (cs : List Nat) (i : Nat) (f : Str) (e : XE) : XS := fun ρ h => ob (e ρ h) fun x h1 => match ρ[i]? with
  | some (.own (.ins k ns xs)) => if k ∈ cs ∧ ns.length < 1000 then some (.nx (ρ.set i (.own (.ins k (putN f x ns xs).1 (putN f x ns xs).2))), h1) else none
  | _ => none
theorem RepL.putN {F : Hp} {m : List Addr} {f : Str} {x : PV} {v : V} {ns : List Str} {xs : List PV} {vs : List V} (r : RepL K F m xs vs) (hl : vs.length = ns.length) (rx : Rep K F m x v) :
    ∃ us, putF f v (ns.zip vs) = (PX.putN f x ns xs).1.zip us ∧ us.length = (PX.putN f x ns xs).1.length ∧ RepL K F m (PX.putN f x ns xs).2 us := by
  rw [putF_zip f v ns vs hl]
  unfold PX.putN
  by_cases h : f ∈ ns
  · rw [if_pos h, if_pos h]
    exact ⟨_, rfl, by rw [List.length_set]; exact hl, r.set _ rx⟩
  · rw [if_neg h, if_neg h]
    exact ⟨_, rfl, by rw [List.length_append, List.length_append, hl]; rfl, r.snoc rx⟩
/-- statements that leave the names as they are -/
def SndF (K : Ck) (t : TS) (s : XS) : Prop := ∀ (W0 W : Wd) (ρ ρ' : PSt) (σ : St) (D : Ends) (h' : AH), Good K W0 W ρ σ → s ρ W.h = some (.nx ρ', h') → (∀ W', W'.h = h' → Lf K W W' → Good K W0 W' ρ' σ → D.nx σ W'.H) → t D σ W.H
theorem sndF_fld {cs : List Nat} {i : Nat} {f : Str} {ta : TE} {ea : XE} (hc : ∀ k ∈ cs, Cls K.K (K.A k) ∧ NoAttr K.K (K.A k) f) (a : SndE K ta ea) : SndF K (sFld K.K (tVar i) ta f) (xFldO cs i f ea) := by
  intro W0 W ρ ρ' σ D h' g e q
  obtain ⟨x, h1, e1, f1⟩ := ob_some e
  split at f1
  · rename_i k ns xs hi
    split at f1
    · rename_i c
      cases f1
      refine a W0 W ρ σ _ x _ g e1 fun v W1 w1 l1 r1 => ?_
      have g1 := g.step l1
      obtain ⟨p, b1, b2, b3, b4, b5, dx, vs, b6, b7, b8⟩ := g1.own i _ hi
      obtain ⟨us, p1, p2, p3⟩ := b8.putN (f := f) b7 r1
      refine ⟨_, b1, p, _, dx, _, rfl, b6, (hc k c.1).1, (hc k c.1).2, by rw [List.length_zip, b7]; simpa using c.2, ?_⟩
      rw [p1]
      exact q (wmut W1 p _) w1 (lf_mut l1 b2) (g1.mut hi b1 b2 b3 b5 (fun z => by cases z) ⟨b5, dx, us, upd_same, p2, p3⟩)
    · cases f1
  · cases f1
theorem sndF_seq {t u : TS} {s s' : XS} (a : SndF K t s) (b : SndF K u s') : SndF K (tSeq t u) (xSeq s s') := by
  intro W0 W ρ ρ' σ D h' g e q
  obtain ⟨o1, h1, e1, f1⟩ := ob_some e
  cases o1 with
  | nx ρ1 => exact a W0 W ρ ρ1 σ _ h1 g e1 fun W1 w1 l1 g1 => b W0 W1 ρ1 ρ' σ D h' g1 (by rw [w1]; exact f1) fun W2 w2 l2 g2 => q W2 w2 (l1.trans l2) g2
  | rt y => cases f1
  | bk y => cases f1
  | ct y => cases f1
/-- __init__ -/
def runI (N : Nat) (k : Nat) (s : XS) : List PV → AH → Option (Nd × AH) := fun xs h => ob (s (.own (.ins k [] []) :: (xs.map .val ++ List.replicate (N - (xs.length + 1)) .no)) h) fun o h1 => match o with | .nx ρ => (match ρ[0]? with | some (PVar.own d) => some (d, h1) | _ => none) | _ => none
def spI (K : Ck) (n k : Nat) (f : List PV → AH → Option (Nd × AH)) : Sp := fun vs H Q _ => ∃ (W : Wd) (x dx : Addr) (args : List V) (xs : List PV) (d : Nd) (h' : AH), vs = .ref x :: args ∧ W.H x = none ∧ W.H dx = none ∧ dx ≠ x ∧ H = upd (upd W.H dx (.own x)) x (.ins (K.A k) dx []) ∧
  WOk K W ∧ RepLW K W xs args ∧ xs.length = n ∧ f xs W.h = some (d, h') ∧ ∀ W', W'.h = h' → Le K W W' → x ∉ W'.m → d ≠ .dead → NdAt K W'.F W'.H W'.m d x → Q .non W'.H
theorem spI_len {n k : Nat} {f} {vs : List V} {H : Hp} {Q : VK} {E : XK} (h : spI K n k f vs H Q E) : vs.length = n + 1 := by
  obtain ⟨W, x, dx, args, xs, d, h', rfl, _, _, _, _, w, r, hn, _⟩ := h
  rw [List.length_cons, r.len, hn]
theorem init_snd {N : List Str} {n k : Nat} {t : TS} {s : XS} {vs : List V} {H : Hp} {Q : VK} {E : XK} {bk ct : St → Hp → Prop} (hN : n + 1 ≤ N.length) (a : SndF K t s) (h : spI K n k (runI N.length k s) vs H Q E) : t ⟨fun _ H' => Q .non H', Q, bk, ct⟩ (L2.start N vs) H := by
  obtain ⟨W, x, dx, args, xs, d, h', rfl, hx, hd, hne, rfl, w, r, hn, e, q⟩ := h
  obtain ⟨o, h1, e1, f1⟩ := ob_some e
  have l1 : Le K W (wlay W dx (.own x)) := wlay_le w hd
  have hx1 : (wlay W dx (.own x)).H x = none := (upd_ne hne.symm).trans hx
  have l2 : Le K (wlay W dx (.own x)) (wlay (wlay W dx (.own x)) x (.ins (K.A k) dx [])) := wlay_le l1.ok hx1
  have l := l1.trans l2
  have gs := good_start (K := K) (N := N.drop 1) w r
  have g : Good K W (wlay (wlay W dx (.own x)) x (.ins (K.A k) dx [])) (.own (.ins k [] []) :: (xs.map .val ++ List.replicate (N.length - (xs.length + 1)) .no)) (L2.start N (.ref x :: args)) := by
    have es : L2.start N (.ref x :: args) = some (.ref x) :: L2.start (N.drop 1) args := by
      have e3 : N.length - (args.length + 1) = (N.drop 1).length - args.length := by rw [List.length_drop]; omega
      unfold L2.start
      rw [List.map_cons, List.cons_append, List.length_cons, e3]
    have eN : N.length - (xs.length + 1) = (N.drop 1).length - xs.length := by rw [List.length_drop]; omega
    rw [es, eN]
    have gs' := gs.step l
    have noown : ∀ (j : Nat) (d : Nd), (xs.map PVar.val ++ List.replicate ((N.drop 1).length - xs.length) .no)[j]? ≠ some (.own d) := fun j d z => by
      by_cases hj : j < xs.length
      · rw [List.getElem?_append_left (by simpa using hj), List.getElem?_map, List.getElem?_eq_getElem hj] at z
        cases z
      · rw [List.getElem?_append_right (by simp; omega), List.getElem?_replicate] at z
        split at z <;> cases z
    refine ⟨l, by rw [List.length_cons, List.length_cons, gs.len], fun j y z => ?_, fun j d z => ?_, fun i j d d' hij z z' => ?_⟩
    · cases j with
      | zero => cases z
      | succ j => exact gs'.val j y z
    · cases j with
      | zero => cases z; exact ⟨x, rfl, w.out hx, hx, (fun z => by cases z), w.ff hx, dx, [], upd_same, rfl, rfl⟩
      | succ j => exact absurd z (noown j d)
    · cases i with
      | zero =>
        cases j with
        | zero => exact absurd rfl hij
        | succ j => exact absurd z' (noown j d')
      | succ i => exact absurd z (noown i d)
  cases o with
  | rt y => cases f1
  | bk ρ => cases f1
  | ct ρ => cases f1
  | nx ρ =>
    refine a W _ _ ρ _ _ h1 g e1 fun W' ew lf g' => ?_
    dsimp only at f1
    split at f1
    · rename_i d' hd'
      cases f1
      obtain ⟨p, b1, b2, b3, b4, b5⟩ := g'.own 0 _ hd'
      have b1 : some (some (V.ref x)) = some (some (V.ref p)) := b1
      cases b1
      exact q W' ew g'.le b2 b4 b5
    · cases f1
/-- C(..), a new thing of one's own -/
def xMake (f : List PV → AH → Option (Nd × AH)) (a : XA) : XO := fun ρ h => ob (a ρ h) f
theorem snd_make {n k : Nat} {f} {ex : XK} {t : TA} {e : XA} (a : SndA K t e) (hn : ∀ ρ h xs h', e ρ h = some (xs, h') → xs.length = n) : SndO K (tMake (K.A k) (spI K n k f) [] ex t) (xMake f e) := by
  intro W0 W ρ σ Q d h' g e' q
  obtain ⟨xs, h1, e1, e2⟩ := ob_some e'
  refine a W0 W ρ σ _ xs h1 g e1 fun vs W1 w1 l1 r1 => ?_
  subst w1
  intro x dx hx hd hne
  rw [List.append_nil]
  exact ⟨W1, x, dx, vs, xs, d, h', rfl, hx, hd, hne, rfl, l1.ok, r1, hn _ _ _ _ e1, e2, fun W2 w2 l2 hm hdd at_ => ⟨rfl, q x W2 w2 (l1.trans l2) hm (l1.fresh hx) hdd at_⟩⟩
/-- .. of a class without __init__ -/
def xMakeO (k : Nat) : XO := fun _ h => some (.ins k [] [], h)
/-- o.m() by the object's class -/
def xMeth (m : Str) (f : Nat → Fn) (e : XE) : XE := fun ρ h => ob (e ρ h) fun x h1 => match insOf x h1 with | some (k, ns, _) => if m ∈ ns then none else f k [x] h1 | none => none
/-! ### isinstance -/
/-- the table's rows: class, asked class, answer -/
def isaOf (tb : List (Nat × Nat × Bool)) (x c : PV) (h : AH) : Option Bool := match c with
  | .ty n => (match x with
    | .int _ => if n = "int" then some true else if n = "bool" ∨ n = "str" ∨ n = "list" ∨ n = "tuple" ∨ n = "dict" then some false else none
    | .bl _ => if n = "int" ∨ n = "bool" then some true else if n = "str" ∨ n = "list" ∨ n = "tuple" ∨ n = "dict" then some false else none
    | .str _ => if n = "str" then some true else if n = "int" ∨ n = "bool" ∨ n = "list" ∨ n = "tuple" ∨ n = "dict" then some false else none
    | .non => if n = "int" ∨ n = "bool" ∨ n = "str" ∨ n = "list" ∨ n = "tuple" ∨ n = "dict" then some false else none
    | .tup _ => if n = "tuple" then some true else if n = "int" ∨ n = "bool" ∨ n = "str" ∨ n = "list" ∨ n = "dict" then some false else none
    | _ => (match listOf' x h with | some _ => if n = "list" then some true else if n = "int" ∨ n = "bool" ∨ n = "str" ∨ n = "tuple" ∨ n = "dict" then some false else none | none => none))
  | .cls c' => (match insOf x h with | some (k, _) => (tb.find? fun r => r.1 == k && r.2.1 == c').map (·.2.2) | none => none)
  | _ => none
def bIsi (tb : List (Nat × Nat × Bool)) : List PV → AH → Option (PV × AH) := fun xs h => match xs with | [x, c] => (match isaOf tb x c h with | some b => some (.bl b, h) | none => none) | _ => none
theorem b_isi {tb : List (Nat × Nat × Bool)} (ht : ∀ r ∈ tb, ∀ (H : Hp) (a dx : Addr) (fs : List (Str × V)), H a = some (.ins (K.A r.1) dx fs) → IsI K.K H (.ref a) (.ref (K.A r.2.1)) r.2.2) : CbSnd K (rIsi K.K) (bIsi tb) := by
  intro W xs vs Q z h' w r e q
  unfold bIsi at e
  split at e
  · rename_i x c
    split at e
    · rename_i b hb
      cases e
      obtain ⟨v, u, rfl, rx, ru⟩ := rep2 r
      refine ⟨v, u, b, rfl, ?_, q _ W rfl (.refl w) rfl⟩
      unfold isaOf at hb
      split at hb
      · rename_i n
        obtain rfl : u = .ty n := ru
        split at hb
        · rw [show v = _ from rx]
          repeat' split at hb
          all_goals cases hb
          · rename_i hn; subst hn; exact isI_int_int
          · rename_i hn; rcases hn with rfl | rfl | rfl | rfl | rfl
            · exact isI_int_bool
            · exact isI_int_str
            · exact isI_int_list
            · exact isI_int_tuple
            · exact isI_int_dict
        · rw [show v = _ from rx]
          repeat' split at hb
          all_goals cases hb
          · rename_i hn; rcases hn with rfl | rfl
            · exact isI_bl_int
            · exact isI_bl_bool
          · rename_i hn; rcases hn with rfl | rfl | rfl | rfl
            · exact isI_bl_str
            · exact isI_bl_list
            · exact isI_bl_tuple
            · exact isI_bl_dict
        · rw [show v = _ from rx]
          repeat' split at hb
          all_goals cases hb
          · rename_i hn; subst hn; exact isI_str_str
          · rename_i hn; rcases hn with rfl | rfl | rfl | rfl | rfl
            · exact isI_str_int
            · exact isI_str_bool
            · exact isI_str_list
            · exact isI_str_tuple
            · exact isI_str_dict
        · rw [show v = _ from rx]
          repeat' split at hb
          all_goals cases hb
          · rename_i hn; rcases hn with rfl | rfl | rfl | rfl | rfl | rfl
            · exact isI_non_int
            · exact isI_non_bool
            · exact isI_non_str
            · exact isI_non_list
            · exact isI_non_tuple
            · exact isI_non_dict
        · obtain ⟨a, us, rfl, hs, _⟩ := rx
          have hp : (∃ xs, W.H a = some (.tup xs)) ∨ ∃ o, K.K.lookup a = some o ∧ o.cls = .type "tuple" := hs.elim (fun h => .inl ⟨_, w.le _ _ h⟩) fun ⟨o, its, n, e1, e2, _⟩ => .inr ⟨o, e1, e2⟩
          repeat' split at hb
          all_goals cases hb
          · rename_i hn; subst hn; exact isI_tup_tuple hp
          · rename_i hn; rcases hn with rfl | rfl | rfl | rfl | rfl
            · exact isI_tup_int hp
            · exact isI_tup_bool hp
            · exact isI_tup_str hp
            · exact isI_tup_list hp
            · exact isI_tup_dict hp
        · split at hb
          · rename_i ys hy
            obtain ⟨a, us, rfl, hp, _⟩ := listOf'_rep w hy rx
            repeat' split at hb
            all_goals cases hb
            · rename_i hn; subst hn; exact isI_lst_list hp
            · rename_i hn; rcases hn with rfl | rfl | rfl | rfl | rfl
              · exact isI_lst_int hp
              · exact isI_lst_bool hp
              · exact isI_lst_str hp
              · exact isI_lst_tuple hp
              · exact isI_lst_dict hp
          · cases hb
      · rename_i c'
        obtain rfl : u = .ref (K.A c') := ru
        split at hb
        · rename_i k p hi
          obtain ⟨r', h1, h2⟩ := Option.map_eq_some_iff.mp hb
          have hm := List.mem_of_find?_eq_some h1
          have hp := List.find?_some h1
          simp only [Bool.and_eq_true, beq_iff_eq] at hp
          obtain ⟨a, dx, us, rfl, hs, _⟩ := insOf_rep w hi rx
          obtain ⟨p1, p2⟩ := hp
          have := ht r' hm W.H a dx (p.1.zip us) (by rw [p1]; exact hs)
          rw [p2, h2] at this
          exact this
        · cases hb
      · cases hb
    · cases e
  · cases e
end PX
namespace PX
open PySem L2
/-! ## what runs come to, for simp -/
section
variable {ρ : PSt} {h h1 : AH} {x y z : PV} {a b c : XE} {ca cb : XT} {aa : XA} {eo : XO} {s u : XS} {i : Nat} {p : P2}
theorem x_ob {α β : Type} {x : α} {h : AH} {f : α → AH → Option β} : ob (some (x, h)) f = f x h := id rfl
theorem x_obN {α β : Type} {f : α → AH → Option β} : ob (none : Option (α × AH)) f = none := id rfl
theorem x_obA {α β γ : Type} {o : Option (α × AH)} {f : α → AH → Option (β × AH)} {g : β → AH → Option γ} : ob (ob o f) g = ob o fun x h => ob (f x h) g := by cases o <;> rfl
theorem x_ite {α β : Type} {q : Prop} [Decidable q] {o o' : Option (α × AH)} {f : α → AH → Option β} : ob (if q then o else o') f = if q then ob o f else ob o' f := by split <;> rfl
theorem x_var0 : xVar 0 (.val x :: ρ) h = some (x, h) := id rfl
theorem x_varS {v : PVar} {n : Nat} : xVar (n + 1) (v :: ρ) h = xVar n ρ h := by simp [xVar]
theorem x_c : xC x ρ h = some (x, h) := id rfl
theorem x_op : xOp p a b ρ h = ob (a ρ h) fun x h1 => ob (b ρ h1) fun y h2 => p x y h2 := id rfl
theorem x_opO {p : P2O} : xOpO p a b ρ h = ob (a ρ h) fun x h1 => ob (b ρ h1) fun y h2 => p x y h2 := id rfl
theorem x_un {p} : xUn p a ρ h = ob (a ρ h) fun x h1 => p x h1 := id rfl
theorem x_oB {k : Bool} : oB (.bl k) h = some (k, h) := id rfl
theorem x_chain {p p' : P2} : xChain p p' a b c ρ h = ob (a ρ h) fun x h1 => ob (b ρ h1) fun y h2 => ob (p x y h2) fun z h3 => ob (oB z h3) fun k h3 => if k = true then ob (c ρ h3) fun w h4 => p' y w h4 else some (.bl false, h3) := id rfl
theorem x_test : xTest a ρ h = ob (a ρ h) oB := id rfl
theorem x_andV : xAndV a b ρ h = ob (a ρ h) fun x h1 => ob (oB x h1) fun k h1 => if k = true then b ρ h1 else some (.bl false, h1) := id rfl
theorem x_orV : xOrV a b ρ h = ob (a ρ h) fun x h1 => ob (oB x h1) fun k h1 => if k = true then some (.bl true, h1) else b ρ h1 := id rfl
theorem x_notV : xNotV a ρ h = ob (a ρ h) fun x h1 => ob (oB x h1) fun k h1 => some (.bl (!k), h1) := id rfl
theorem x_and : xAnd ca cb ρ h = ob (ca ρ h) fun k h1 => if k = true then cb ρ h1 else some (false, h1) := id rfl
theorem x_or : xOr ca cb ρ h = ob (ca ρ h) fun k h1 => if k = true then some (true, h1) else cb ρ h1 := id rfl
theorem x_not : xNot ca ρ h = ob (ca ρ h) fun k h1 => some (!k, h1) := id rfl
theorem x_if : xIf ca a b ρ h = ob (ca ρ h) fun k h1 => if k = true then a ρ h1 else b ρ h1 := id rfl
theorem x_nil : xNil ρ h = some ([], h) := id rfl
theorem x_cons : xCons a aa ρ h = ob (a ρ h) fun x h1 => ob (aa ρ h1) fun xs h2 => some (x :: xs, h2) := id rfl
theorem x_tup : xTup aa ρ h = ob (aa ρ h) fun xs h1 => if xs.length ≤ 1000 then some (.tup xs, h1) else none := id rfl
theorem x_lst : xLst aa ρ h = ob (aa ρ h) fun xs h1 => if xs.length ≤ 1000 then some (.lst xs, h1) else none := id rfl
def fzN : Nd → AH → Option (PV × AH)
  | .lst xs, h => some (.lst xs, h)
  | .ins k ns xs, h => some (.ins k ns xs, h)
  | _, _ => none
theorem x_fz : xFz eo ρ h = ob (eo ρ h) fzN := by
  unfold xFz; congr; funext d h1; cases d <;> rfl
theorem x_fzL {xs : List PV} : fzN (.lst xs) h = some (.lst xs, h) := id rfl
theorem x_fzI {k : Nat} {ns : List Str} {xs : List PV} : fzN (.ins k ns xs) h = some (.ins k ns xs, h) := id rfl
theorem x_loc : xLoc eo ρ h = ob (eo ρ h) fun d h1 => some (.loc h1.length, h1 ++ [d]) := id rfl
theorem x_call {f : Fn} : xCall f aa ρ h = ob (aa ρ h) f := id rfl
theorem x_cb {f} : xCB f aa ρ h = ob (aa ρ h) f := id rfl
theorem x_cbO {f} : xCBO f aa ρ h = ob (aa ρ h) f := id rfl
theorem x_bm {q} {p : PM} : xBM q p a aa ρ h = ob (a ρ h) fun x h1 => if q x h1 = true then ob (aa ρ h1) fun xs h2 => p x xs h2 else none := id rfl
theorem x_isStr {s : Str} : isStr (.str s) h = true := id rfl
theorem x_make {f} : xMake f aa ρ h = ob (aa ρ h) f := id rfl
theorem x_makeO {k : Nat} : xMakeO k ρ h = some (.ins k [] [], h) := id rfl
theorem x_next : xNext ρ h = some (.nx ρ, h) := id rfl
def sqK (u : XS) : Out → AH → Option (Out × AH)
  | .nx ρ, h => u ρ h
  | .rt x, h => some (.rt x, h)
  | .bk ρ, h => some (.bk ρ, h)
  | .ct ρ, h => some (.ct ρ, h)
theorem x_seq : xSeq s u ρ h = ob (s ρ h) (sqK u) := by
  unfold xSeq; congr; funext o h1; cases o <;> rfl
theorem x_sqN : sqK u (.nx ρ) h = u ρ h := id rfl
theorem x_sqR : sqK u (.rt x) h = some (.rt x, h) := id rfl
theorem x_sqB : sqK u (.bk ρ) h = some (.bk ρ, h) := id rfl
theorem x_sqC : sqK u (.ct ρ) h = some (.ct ρ, h) := id rfl
theorem x_break : xBreak ρ h = some (.bk ρ, h) := id rfl
theorem x_cont : xCont ρ h = some (.ct ρ, h) := id rfl
theorem x_drop : xDrop a ρ h = ob (a ρ h) fun _ h1 => some (.nx ρ, h1) := id rfl
theorem x_ret : xRet a ρ h = ob (a ρ h) fun x h1 => some (.rt x, h1) := id rfl
theorem x_retN : xRetN ρ h = some (.rt .non, h) := id rfl
theorem x_ifS : xIfS ca s u ρ h = ob (ca ρ h) fun k h1 => if k = true then s ρ h1 else u ρ h1 := id rfl
theorem x_asg {g : XG} : xAsg a g ρ h = ob (a ρ h) fun x h1 => (g x ρ).bind fun ρ' => some (.nx ρ', h1) := id rfl
theorem x_asgO : xAsgO eo i ρ h = ob (eo ρ h) fun d h1 => some (.nx (ρ.set i (.own d)), h1) := id rfl
theorem x_name : yName i x ρ = some (ρ.set i (.val x)) := id rfl
theorem x_yNil : yNil [] ρ = some ρ := id rfl
theorem x_yCons {g : XG} {r : XGs} {xs : List PV} : yCons g r (x :: xs) ρ = (g x ρ).bind fun ρ' => r xs ρ' := id rfl
theorem x_yTup {n : Nat} {g : XGs} {xs : List PV} : yTup n g (.tup xs) ρ = if xs.length = n then g xs ρ else none := id rfl
theorem x_frz : xFrz i s ρ h = s (frzAt i ρ) h := id rfl
theorem x_fz0 {v : PVar} : frzAt 0 (v :: ρ) = frzV v :: ρ := id rfl
theorem x_fzS {v : PVar} {n : Nat} : frzAt (n + 1) (v :: ρ) = v :: frzAt n ρ := id rfl
theorem x_fvO {xs : List PV} : frzV (.own (.lst xs)) = .val (.lst xs) := id rfl
theorem x_fvV : frzV (.val x) = .val x := id rfl
theorem x_fvN : frzV .no = .no := id rfl
theorem x_for {it : XA} {g : XG} : xFor it g s ρ h = ob (it ρ h) fun xs h1 => forL g s xs ρ h1 := id rfl
def frK (g : XG) (s : XS) (xs : List PV) : Out → AH → Option (Out × AH)
  | .nx ρ, h => forL g s xs ρ h
  | .ct ρ, h => forL g s xs ρ h
  | .bk ρ, h => some (.nx ρ, h)
  | .rt y, h => some (.rt y, h)
theorem x_forC {g : XG} {xs : List PV} : forL g s (x :: xs) ρ h = (g x ρ).bind fun ρ1 => ob (s ρ1 h) (frK g s xs) := by
  unfold forL; congr; funext ρ1; congr; funext o h1; cases o <;> rfl
theorem x_frN {g : XG} {xs : List PV} : frK g s xs (.nx ρ) h = forL g s xs ρ h := id rfl
theorem x_frC {g : XG} {xs : List PV} : frK g s xs (.ct ρ) h = forL g s xs ρ h := id rfl
theorem x_frB {g : XG} {xs : List PV} : frK g s xs (.bk ρ) h = some (.nx ρ, h) := id rfl
theorem x_frR {g : XG} {xs : List PV} : frK g s xs (.rt x) h = some (.rt x, h) := id rfl
def fnK : Out → AH → Option (PV × AH)
  | .rt x, h => some (x, h)
  | .nx _, h => some (.non, h)
  | _, _ => none
theorem run_eq {N : Nat} {xs : List PV} : runF N s xs h = ob (s (xs.map .val ++ List.replicate (N - xs.length) .no) h) fnK := by
  unfold runF; congr; funext o h1; cases o <;> rfl
theorem x_fnR : fnK (.rt x) h = some (x, h) := id rfl
theorem x_fnN : fnK (.nx ρ) h = some (.non, h) := id rfl
def inK : Out → AH → Option (Nd × AH)
  | .nx (.own d :: _), h => some (d, h)
  | _, _ => none
theorem runI_eq {N k : Nat} {xs : List PV} : runI N k s xs h = ob (s (.own (.ins k [] []) :: (xs.map .val ++ List.replicate (N - (xs.length + 1)) .no)) h) inK := by
  unfold runI; congr; funext o h1; cases o with
  | nx ρ => cases ρ with
    | nil => rfl
    | cons v ρ => cases v <;> rfl
  | _ => rfl
theorem x_inK {d : Nd} : inK (.nx (.own d :: ρ)) h = some (d, h) := id rfl
/-- the value of a field -/
def fldV (cs : List Nat) (f : Str) (x : PV) (h : AH) : Option (PV × AH) := match insOf x h with | some (k, ns, xs) => if k ∈ cs ∧ f ∈ ns then (match xs[ns.idxOf f]? with | some y => some (y, h) | none => none) else none | none => none
theorem x_fld {cs : List Nat} {f : Str} : xFld cs f a ρ h = ob (a ρ h) (fldV cs f) := id rfl
theorem fldV_at {cs : List Nat} {f : Str} {k : Nat} {ns : List Str} {xs : List PV} {y : PV} (hk : k ∈ cs) (hf : f ∈ ns) (hy : xs[ns.idxOf f]? = some y) : fldV cs f (.ins k ns xs) h = some (y, h) := by
  unfold fldV insOf
  simp [hk, hf, hy]
def fldK (cs : List Nat) (i : Nat) (f : Str) (ρ : PSt) (x : PV) (h : AH) : Option (Out × AH) := match ρ[i]? with
  | some (.own (.ins k ns xs)) => if k ∈ cs ∧ ns.length < 1000 then some (.nx (ρ.set i (.own (.ins k (putN f x ns xs).1 (putN f x ns xs).2))), h) else none
  | _ => none
theorem x_fldO {cs : List Nat} {f : Str} : xFldO cs i f a ρ h = ob (a ρ h) (fldK cs i f ρ) := id rfl
theorem fldK_0 {cs : List Nat} {f : Str} {k : Nat} {ns : List Str} {xs : List PV} (hk : k ∈ cs) (hl : ns.length < 1000) (hf : f ∉ ns) : fldK cs 0 f (.own (.ins k ns xs) :: ρ) x h = some (.nx (.own (.ins k (ns ++ [f]) (xs ++ [x])) :: ρ), h) := by
  unfold fldK putN
  simp [hk, hl, hf]
def methK (m : Str) (f : Nat → Fn) (x : PV) (h : AH) : Option (PV × AH) := match insOf x h with | some (k, ns, _) => if m ∈ ns then none else f k [x] h | none => none
theorem x_meth {m : Str} {f : Nat → Fn} : xMeth m f a ρ h = ob (a ρ h) (methK m f) := id rfl
/-! operators -/
theorem x_i {g : Int → Int → PV} {i j : Int} : oI g (.int i) (.int j) h = some (g i j, h) := id rfl
theorem x_ic {C : Int → Int → Prop} [∀ i j, Decidable (C i j)] {g : Int → Int → PV} {i j : Int} : oIc C g (.int i) (.int j) h = if C i j then some (g i j, h) else none := id rfl
theorem mulOkR {i j : Int} (h1 : -18446744073709551616 < j) (h2 : j < 18446744073709551616) : MulOk i j = True := eq_true (.inr ⟨h1, h2⟩)
theorem mulOkL {i j : Int} (h1 : -18446744073709551616 < i) (h2 : i < 18446744073709551616) : MulOk i j = True := eq_true (.inl ⟨h1, h2⟩)
theorem powOk {i j : Int} (h1 : 0 ≤ i) (h2 : i < 18446744073709551616) (h3 : 0 ≤ j) (h4 : j ≤ 1000000) : PowOk i j = True := eq_true ⟨⟨h1, h2⟩, h3, h4⟩
theorem x_neg {i : Int} : oNeg (.int i) h = some (.int (-i), h) := id rfl
theorem x_eqI {i j : Int} : oEq (.int i) (.int j) h = some (.bl (decide (i = j)), h) := by simp [oEq, sv, scal]
theorem x_eqS {i j : Str} : oEq (.str i) (.str j) h = some (.bl (decide (i = j)), h) := by simp [oEq, sv, scal]
theorem x_eqB {i j : Bool} : oEq (.bl i) (.bl j) h = some (.bl (decide (i = j)), h) := by simp [oEq, sv, scal]
theorem x_neI {i j : Int} : oNe (.int i) (.int j) h = some (.bl (!decide (i = j)), h) := by simp [oNe, sv, scal]
theorem x_neS {i j : Str} : oNe (.str i) (.str j) h = some (.bl (!decide (i = j)), h) := by simp [oNe, sv, scal]
theorem x_isN : oIsN x .non h = some (.bl (isN x), h) := id rfl
theorem x_notN : oNotN x .non h = some (.bl (!isN x), h) := id rfl
theorem x_addS {i j : Str} : oAddS (.str i) (.str j) h = if i.length + j.length ≤ 100000 then some (.str (i ++ j), h) else none := id rfl
theorem x_in1 {c : Nat} {j : Str} : oIn1 (.str ⟨#[c]⟩) (.str j) h = some (.bl (decide (c ∈ j.cps.toList)), h) := id rfl
theorem x_ixL {xs : List PV} {i : Int} : oIxL (.lst xs) (.int i) h = (atI xs i).bind fun v => some (v, h) := by
  simp only [oIxL]; cases atI xs i <;> rfl
theorem x_ixR {xs : List Int} {i : Int} : oIxL (.scr xs) (.int i) h = (atI xs i).bind fun v => some (.int v, h) := by
  simp only [oIxL]; cases atI xs i <;> rfl
theorem x_ixT {xs : List PV} {i : Int} : oIxT (.tup xs) (.int i) h = (atI xs i).bind fun v => some (v, h) := by
  simp only [oIxT]; cases atI xs i <;> rfl
theorem x_ixS {s : Str} {i : Int} : oIxS (.str s) (.int i) h = (atI s.cps.toList i).bind fun c => if s.length ≤ 100000 then some (sgn c, h) else none := by
  simp only [oIxS]; cases atI s.cps.toList i <;> rfl
theorem x_slL {xs : List PV} {lo hi : Option Int} : oSlL (.lst xs) lo hi h = some (.lst (cutP xs lo hi), h) := id rfl
theorem x_slR {xs : List Int} {lo hi : Option Int} : oSlL (.scr xs) lo hi h = some (.lst (cutP (xs.map .int) lo hi), h) := id rfl
theorem x_cat {xs ys : List PV} : oCat (.lst xs) (.lst ys) h = if xs.length + ys.length ≤ 100000 then some (.lst (xs ++ ys), h) else none := id rfl
theorem x_rep {xs : List PV} {k : Int} : oRep (.lst xs) (.int k) h = if -1000000 ≤ k ∧ k ≤ 100000 ∧ xs.length * k.toNat ≤ 100000 then some (.lst (repL k.toNat xs), h) else none := id rfl
theorem x_sl {p} {lo hi} : xSl p a lo hi ρ h = ob (a ρ h) fun x h1 => ob (lo ρ h1) fun l h2 => ob (hi ρ h2) fun u h3 => p x l u h3 := id rfl
theorem x_slO {p} {lo hi} : xSlO p a lo hi ρ h = ob (a ρ h) fun x h1 => ob (lo ρ h1) fun l h2 => ob (hi ρ h2) fun u h3 => p x l u h3 := id rfl
theorem x_part : xPart a ρ h = ob (a ρ h) fun x h1 => match x with | .int i => some (some i, h1) | _ => none := id rfl
theorem x_nopart : xNoPart ρ h = some (none, h) := id rfl
theorem x_lenL {xs : List PV} : bLenL [.lst xs] h = some (.int xs.length, h) := id rfl
theorem x_lenT {xs : List PV} : bLenL [.tup xs] h = some (.int xs.length, h) := id rfl
theorem x_lenR {xs : List Int} : bLenL [.scr xs] h = some (.int xs.length, h) := id rfl
theorem x_lenS {z : Str} : bLenS [.str z] h = if z.length ≤ 100000 then some (.int z.length, h) else none := id rfl
theorem x_int1i {k : Int} : bInt1 [.int k] h = some (.int k, h) := id rfl
theorem x_int1b {k : Bool} : bInt1 [.bl k] h = some (.int (if k then 1 else 0), h) := id rfl
theorem x_strI {k : Int} : bStrI [.int k] h = if k.natAbs.log2 < 1920 then some (.str (toString k : String), h) else none := id rfl
theorem x_listL {xs : List PV} : bListOf [.lst xs] h = some (.lst xs, h) := id rfl
theorem x_listT {xs : List PV} : bListOf [.tup xs] h = some (.lst xs, h) := id rfl
theorem x_comp {it : XA} {ix : List Nat} : xComp it ix a ρ h = ob (it ρ h) fun xs h1 => if xs.length ≤ 100000 then ob (cmpL a (innP ix ρ) xs h1) fun ys h2 => some (.lst ys, h2) else none := id rfl
end
end PX
namespace L2
open PySem PySem.Spec PyProof.Rows
end L2
namespace L2
open PySem PySem.Spec PyProof.Rows
section
variable (P : Program) (w : World)
end
section
variable {P : Program} {w : World} {H H' : Hp} {h h' : Heap} {a : Addr} {o : HO}
end
section
variable {P : Program} {w : World} {H : Hp} {h h' : Heap} {x e : Addr} {o' : HO}
end
section
variable {fs fs' ex ex' : List Addr} {H H1 H2 : Hp} {h h1 h2 h' : Heap} {a x e : Addr} {o : HO}
end
end L2
namespace L2
open PySem PySem.Spec PyProof.Rows
section
variable {X : Cx} {pins : List (Addr × Obj)} {σ : List (Option V)} {H H' : Hp} {s : Shared} {h' : Heap}
end
end L2
namespace L2
open PySem PySem.Spec PyProof.Rows
section
variable {X : Cx}
variable {a b : Expr} {ta tb : TE} {pos : Pos}
variable {tA tB' : TT} {rest : List Expr}
end
end L2
namespace L2
open PySem PySem.Spec PyProof.Rows
section
variable {X : Cx} {pins : List (Addr × Obj)} {σ : St} {H : Hp} {s : Shared} {a : Addr} {xs ys : List V}
end
section
variable {X : Cx} {pins : List (Addr × Obj)} {σ : St} {H : Hp} {s : Shared} {E : Value → Shared → Prop}
end
section
variable {X : Cx} {st : Stmt} {rest : List Stmt} {t u : TS} {e : Expr} {te : TE} {pos : Pos}
end
section
variable {X : Cx} {pos : Pos}
end
section
variable {X : Cx} {pos : Pos}
end
end L2
namespace L2
open PySem PySem.Spec PyProof.Rows
section
variable {X : Cx} {tg : Expr}
end
end L2
namespace L2
open PySem PySem.Spec PyProof.Rows
section
variable {X : Cx} {a b c : Expr} {ta tb tc : TE} {pos : Pos}
end
section
variable {X : Cx} {a b c : Expr} {ta tb tc : TE} {pos : Pos}
end
end L2
namespace L2
open PySem PySem.Spec PyProof.Rows
section
variable {prog : Program} {w : World} {A : Around} {E : Value → Shared → Prop} {s : Shared} {K : PySem.W.Frag} {x dx C f : Addr} {mA : Str → Option Value} {name : Str} {v : Value}
end
section
variable {P : Program} {w : World} {H H' : Hp} {h h' : Heap} {a C dx : Addr} {fs fs' : List (Str × V)}
end
section
variable {X : Cx} {pins : List (Addr × Obj)} {σ : St} {H : Hp} {s : Shared} {a C dx : Addr} {fs : List (Str × V)} {f : Str} {v : V} {A : Around} {E : Value → Shared → Prop}
end
section
variable {X : Cx} {o e value : Expr} {f : Str} {pos pos' tpos : Pos} {ta tv : TE}
end
section
variable {X : Cx} {pins : List (Addr × Obj)} {σ : St} {H : Hp} {s : Shared} {A : Around} {E : Value → Shared → Prop} {Q : Value → Shared → Prop} {c : Value} {b : Bool}
end
end L2
namespace L2
open PySem PySem.Spec PyProof.Rows
section
variable {X : Cx} {e : Expr} {es : List Expr} {te : TE} {t : TA} {pos : Pos}
end
section
variable {X : Cx} {pins : List (Addr × Obj)} {σ : St} {H : Hp} {s s' : Shared}
end
section
variable {X : Cx} {CX : CXT} {k : Nat} {f C : Addr} {fd : FuncData} {ps : List Str} {sp : Sp} {dvs : List V} {ds : List Value} {E : XK} {x m : Str} {p pos apos : Pos} {e o : Expr} {es : List Expr} {ta : TE} {t : TA}
end
section
variable {X : Cx} {CX : CXT} {k : Nat} {f C : Addr} {fd : FuncData} {ps ks : List Str} {sp : Sp} {E : XK} {x m : Str} {p pos apos kpos : Pos} {e o : Expr} {es : List Expr} {kws : List Keyword} {te ta : TE} {t tk : TA} {nm : Option Str}
variable {g : List Value → List Value → List Value} {gV : List V → List V → List V}
end
end L2
namespace L2
open PySem PySem.Spec PyProof.Rows
section
variable {X : Cx} {x : Str} {p pos : Pos} {e : Expr} {es : List Expr} {t : TA} {id T : String} {r : List V → Hp → VK → Prop}
end
end L2
namespace L2
open PySem PySem.Spec PyProof.Rows
section
variable {κ : Type} [DecidableEq κ]
def valV (kvs : List (κ × V)) (k : κ) : Option V := (kvs.find? fun kv => decide (kv.1 = k)).map (·.2)
def putK (kvs : List (κ × V)) (k : κ) (v : V) : List (κ × V) :=
  if (kvs.any fun kv => decide (kv.1 = k)) = true then kvs.map (fun kv => if kv.1 = k then (kv.1, v) else kv) else kvs ++ [(k, v)]
def dropK (kvs : List (κ × V)) (k : κ) : List (κ × V) := kvs.filter fun kv => decide (kv.1 ≠ k)
theorem valV_pos {p : κ × V} {r : List (κ × V)} {k : κ} (e : p.1 = k) : valV (p :: r) k = some p.2 := by simp [valV, List.find?_cons, e]
theorem valV_neg {p : κ × V} {r : List (κ × V)} {k : κ} (e : ¬ p.1 = k) : valV (p :: r) k = valV r k := by simp [valV, List.find?_cons, e]
theorem valV_any (k : κ) : ∀ kvs : List (κ × V), (kvs.any fun kv => decide (kv.1 = k)) = (valV kvs k).isSome
  | [] => rfl
  | p :: r => by
    rw [List.any_cons]
    by_cases e : p.1 = k
    · simp only [valV_pos e, decide_eq_true e, Bool.true_or, Option.isSome_some]
    · rw [valV_neg e, decide_eq_false e, Bool.false_or]; exact valV_any k r
theorem length_putK (kvs : List (κ × V)) (k : κ) (v : V) : (putK kvs k v).length ≤ kvs.length + 1 := by
  unfold putK
  split
  · rw [List.length_map]; omega
  · rw [List.length_append, List.length_cons, List.length_nil]; omega
theorem RelO.isSome_eq {o : Option V} {u : Option Value} (r : RelO o u) : o.isSome = u.isSome := by
  cases o with
  | none => cases u with
    | none => rfl
    | some _ => exact (show False from r).elim
  | some _ => cases u with
    | none => exact (show False from r).elim
    | some _ => rfl
theorem RelO.getD {o : Option V} {u : Option Value} {d : V} {d' : Value} (r : RelO o u) (rd : RelV d d') : RelV (o.getD d) (u.getD d') := by
  cases o with
  | none => cases u with
    | none => exact rd
    | some _ => exact (show False from r).elim
  | some _ => cases u with
    | none => exact (show False from r).elim
    | some _ => exact r
theorem KV.val {kvs : List (κ × V)} {vs : List (κ × Value)} (r : KV kvs vs) (k : κ) : RelO (valV kvs k) (valueAt vs k) := by
  unfold KV at r
  induction r with
  | nil => exact True.intro
  | @cons p q ps qs h t ih =>
    obtain ⟨h1, h2⟩ := h
    by_cases e : p.1 = k
    · have e' : q.1 = k := h1.symm.trans e
      have b : valueAt (q :: qs) k = some q.2 := by simp [valueAt, List.find?_cons, e']
      rw [valV_pos e, b]; exact h2
    · have e' : ¬ q.1 = k := fun z => e (h1.trans z)
      have b : valueAt (q :: qs) k = valueAt qs k := by simp [valueAt, List.find?_cons, e']
      rw [valV_neg e, b]; exact ih
theorem KV.any {kvs : List (κ × V)} {vs : List (κ × Value)} (r : KV kvs vs) (k : κ) : (kvs.any fun kv => decide (kv.1 = k)) = vs.any fun kv => decide (kv.1 = k) := by
  unfold KV at r
  induction r with
  | nil => rfl
  | cons h t ih => rw [List.any_cons, List.any_cons, ih, h.1]
theorem KV.repl {kvs : List (κ × V)} {vs : List (κ × Value)} (r : KV kvs vs) (k : κ) {y : V} {u : Value} (ry : RelV y u) :
    KV (kvs.map fun kv => if kv.1 = k then (kv.1, y) else kv) (vs.map fun kv => if kv.1 = k then (kv.1, u) else kv) := by
  unfold KV at r ⊢
  induction r with
  | nil => exact .nil
  | @cons p q ps qs h t ih =>
    rw [List.map_cons, List.map_cons]
    refine .cons ?_ ih
    obtain ⟨h1, h2⟩ := h
    by_cases e : p.1 = k
    · rw [if_pos e, if_pos (h1.symm.trans e)]; exact ⟨h1, ry⟩
    · rw [if_neg e, if_neg (fun z => e (h1.trans z))]; exact ⟨h1, h2⟩
theorem KV.put {kvs : List (κ × V)} {vs : List (κ × Value)} (r : KV kvs vs) (k : κ) {y : V} {u : Value} (ry : RelV y u) : KV (putK kvs k y) (stored vs k u) := by
  unfold putK stored
  rw [r.any k]
  by_cases e : (vs.any fun kv => decide (kv.1 = k)) = true
  · rw [if_pos e, if_pos e]; exact r.repl k ry
  · rw [if_neg e, if_neg e]; exact Paired.snoc r ⟨rfl, ry⟩
theorem KV.drop {kvs : List (κ × V)} {vs : List (κ × Value)} (r : KV kvs vs) (k : κ) : KV (dropK kvs k) (without vs k) := by
  unfold KV at r ⊢
  unfold dropK without
  induction r with
  | nil => exact .nil
  | @cons p q ps qs h t ih =>
    obtain ⟨h1, h2⟩ := h
    rw [List.filter_cons, List.filter_cons]
    by_cases e : p.1 = k
    · have a : ¬ decide (p.1 ≠ k) = true := by simp [e]
      have b : ¬ decide (q.1 ≠ k) = true := by simp [h1.symm.trans e]
      rw [if_neg a, if_neg b]; exact ih
    · have e' : ¬ q.1 = k := fun z => e (h1.trans z)
      have a : decide (p.1 ≠ k) = true := by simp [e]
      have b : decide (q.1 ≠ k) = true := by simp [e']
      rw [if_pos a, if_pos b]; exact .cons ⟨h1, h2⟩ ih
theorem KV.keys {kvs : List (κ × V)} {vs : List (κ × Value)} (r : KV kvs vs) : kvs.map (·.1) = vs.map (·.1) := by
  unfold KV at r
  induction r with
  | nil => rfl
  | cons h t ih => rw [List.map_cons, List.map_cons, ih, h.1]
theorem KV.length {kvs : List (κ × V)} {vs : List (κ × Value)} (r : KV kvs vs) : kvs.length = vs.length := Paired.length r
end
theorem kV_is {P : Program} {w : World} {k : Key} {u : Value} (r : RelV (kV k) u) : (mixKind P w).is k u = true := by
  cases k with
  | inl i => obtain ⟨t, e⟩ := (show ∃ t, u = Value.int i t from r); subst e; exact mixKind_int P w i t
  | inr x => obtain ⟨t, e⟩ := (show ∃ t, u = Value.str x t from r); subst e; exact mixKind_str P w x t
theorem items_are {P : Program} {w : World} : ∀ {ks : List Key} {us : List Value}, Vals (ks.map kV) us → ItemsAre (mixKind P w) ks us
  | [], _, r => by rw [List.map_nil] at r; cases r; exact .nil
  | k :: ks, _, r => by
    rw [List.map_cons] at r
    cases r with
    | cons h t => exact .cons (kV_is h) (items_are t)
abbrev KT (H : Hp) : List (List Key × V) → List (List Key × Addr × Value) → Prop := Paired fun p q => p.1 = q.1 ∧ H q.2.1 = some (.tup (p.1.map kV)) ∧ RelV p.2 q.2.2
theorem KT.val {H : Hp} {kvs : List (List Key × V)} {xs : List (List Key × Addr × Value)} (r : KT H kvs xs) (k : List Key) : RelO (valV kvs k) ((atKey xs k).map (·.2)) := by
  induction r with
  | nil => exact True.intro
  | @cons p q ps qs h t ih =>
    obtain ⟨h1, _, h2⟩ := h
    by_cases e : p.1 = k
    · have e' : q.1 = k := h1.symm.trans e
      have b : atKey (q :: qs) k = some q.2 := by simp [atKey, List.find?_cons, e']
      rw [valV_pos e, b]; exact h2
    · have e' : ¬ q.1 = k := fun z => e (h1.trans z)
      have b : atKey (q :: qs) k = atKey qs k := by simp [atKey, List.find?_cons, e']
      rw [valV_neg e, b]; exact ih
theorem KT.repl {H : Hp} {kvs : List (List Key × V)} {xs : List (List Key × Addr × Value)} (r : KT H kvs xs) (k : List Key) {y : V} {u : Value} (ry : RelV y u) :
    KT H (kvs.map fun kv => if kv.1 = k then (kv.1, y) else kv) (xs.map (putAt k u)) := by
  induction r with
  | nil => exact .nil
  | @cons p q ps qs h t ih =>
    rw [List.map_cons, List.map_cons]
    refine .cons ?_ ih
    obtain ⟨h1, h2, h3⟩ := h
    unfold putAt
    by_cases e : p.1 = k
    · rw [if_pos e, if_pos (h1.symm.trans e)]; exact ⟨h1, h2, ry⟩
    · rw [if_neg e, if_neg (fun z => e (h1.trans z))]; exact ⟨h1, h2, h3⟩
theorem KT.put {H : Hp} {kvs : List (List Key × V)} {xs : List (List Key × Addr × Value)} (r : KT H kvs xs) (k : List Key) {b : Addr} {y : V} {u : Value} (hb : H b = some (.tup (k.map kV))) (ry : RelV y u) :
    KT H (putK kvs k y) (storedH xs k b u) := by
  have e : (kvs.any fun kv => decide (kv.1 = k)) = (atKey xs k).isSome := by
    rw [valV_any, (r.val k).isSome_eq, Option.isSome_map]
  unfold putK storedH
  rw [e]
  by_cases q : (atKey xs k).isSome = true
  · rw [if_pos q, if_pos q]; exact r.repl k ry
  · rw [if_neg q, if_neg q]; exact Paired.snoc r ⟨rfl, hb, ry⟩
theorem KT.keeps {H H' : Hp} {kvs : List (List Key × V)} {xs : List (List Key × Addr × Value)} (r : KT H kvs xs) (ht : ∀ b ys, H b = some (.tup ys) → H' b = some (.tup ys)) : KT H' kvs xs :=
  Paired.mapP r fun _ _ z => ⟨z.1, ht _ _ z.2.1, z.2.2⟩
section
variable {P : Program} {w : World} {H : Hp} {h : Heap} {a : Addr}
theorem rd_of {u : HO} (ok : HOk P w H h) (e : Rd H a u) : ObjOk P w H h a u := e.ok ok
theorem dk_rd {kvs : List (Key × V)} (ok : HOk P w H h) (e : Rd H a (.dK kvs)) : kvs.length ≤ sizeLine ∧ (a == sysModules) = false ∧ ∃ vs, KV kvs vs ∧ h.DictOf (mixKind P w) a vs :=
  show ObjOk P w H h a (.dK kvs) from rd_of ok e
theorem dk_of {kvs : List (Key × V)} (ok : HOk P w H h) (e : H a = some (.dK kvs)) : kvs.length ≤ sizeLine ∧ (a == sysModules) = false ∧ ∃ vs, KV kvs vs ∧ h.DictOf (mixKind P w) a vs := dk_rd ok (.inl e)
theorem key_of {ks : List Key} (ok : HOk P w H h) (e : H a = some (.tup (ks.map kV))) : (tupleKind (mixKind P w)).is h ks a := by
  obtain ⟨_, its, r, o, h1, h2, n, h3⟩ := (show ObjOk P w H h a (.tup (ks.map kV)) from ok a _ e)
  exact ⟨o, its.toArray, n, h1, h2, h3, by simpa using items_are r⟩
theorem dt_rd {kvs : List (List Key × V)} (ok : HOk P w H h) (e : Rd H a (.dT kvs)) : kvs.length ≤ sizeLine ∧ (a == sysModules) = false ∧
    ∃ xs, KT H kvs xs ∧ h.DictOfH (tupleKind (mixKind P w)) a xs := by
  obtain ⟨z, y, xs, r, o, es, ep, h1, h2, h3, h4, h5⟩ := (show ObjOk P w H h a (.dT kvs) from rd_of ok e)
  refine ⟨z, y, xs, r, o, es, ep, h1, h2, h3, h4, fun x hx => ?_, h5⟩
  have all : ∀ {l : List (List Key × V)} {m : List (List Key × Addr × Value)}, KT H l m → ∀ x ∈ m, (tupleKind (mixKind P w)).is h x.1 x.2.1 := by
    intro l m q
    induction q with
    | nil => intro x hx; exact nomatch hx
    | @cons p q ps qs hq t ih =>
      intro x hx
      rcases List.mem_cons.mp hx with e | hx
      · subst e
        exact key_of ok (by rw [← hq.1]; exact hq.2.1)
      · exact ih x hx
  exact all r x hx
theorem dt_of {kvs : List (List Key × V)} (ok : HOk P w H h) (e : H a = some (.dT kvs)) : kvs.length ≤ sizeLine ∧ (a == sysModules) = false ∧
    ∃ xs, KT H kvs xs ∧ h.DictOfH (tupleKind (mixKind P w)) a xs := dt_rd ok (.inl e)
end
def DGet (H : Hp) (a : Addr) (y : V) (r : Option V) : Prop :=
  (∃ kvs k, Rd H a (.dK kvs) ∧ y = kV k ∧ r = valV kvs k) ∨ ∃ kvs k b, Rd H a (.dT kvs) ∧ y = .ref b ∧ H b = some (.tup (k.map kV)) ∧ r = valV kvs k
def DPut (H : Hp) (a : Addr) (y v : V) (H' : Hp) : Prop :=
  (∃ kvs k, H a = some (.dK kvs) ∧ y = kV k ∧ kvs.length < sizeLine ∧ H' = upd H a (.dK (putK kvs k v))) ∨
  ∃ kvs k b, H a = some (.dT kvs) ∧ y = .ref b ∧ H b = some (.tup (k.map kV)) ∧ kvs.length < sizeLine ∧ H' = upd H a (.dT (putK kvs k v))
theorem DGet.k {H : Hp} {a : Addr} {kvs : List (Key × V)} {k : Key} (e : H a = some (.dK kvs)) : DGet H a (kV k) (valV kvs k) := .inl ⟨kvs, k, .inl e, rfl, rfl⟩
theorem DGet.t {H : Hp} {a b : Addr} {kvs : List (List Key × V)} {k : List Key} (e : H a = some (.dT kvs)) (eb : H b = some (.tup (k.map kV))) : DGet H a (.ref b) (valV kvs k) := .inr ⟨kvs, k, b, .inl e, rfl, eb, rfl⟩
theorem DPut.k {H : Hp} {a : Addr} {kvs : List (Key × V)} {k : Key} {v : V} (e : H a = some (.dK kvs)) (hl : kvs.length < sizeLine) : DPut H a (kV k) v (upd H a (.dK (putK kvs k v))) := .inl ⟨kvs, k, e, rfl, hl, rfl⟩
theorem DPut.t {H : Hp} {a b : Addr} {kvs : List (List Key × V)} {k : List Key} {v : V} (e : H a = some (.dT kvs)) (eb : H b = some (.tup (k.map kV))) (hl : kvs.length < sizeLine) :
    DPut H a (.ref b) v (upd H a (.dT (putK kvs k v))) := .inr ⟨kvs, k, b, e, rfl, eb, hl, rfl⟩
section
variable {X : Cx} {pins : List (Addr × Obj)} {σ : St} {H : Hp} {s : Shared} {a : Addr} {y v : V} {u r : Value} {o : Option V} {A : Around} {E : Value → Shared → Prop}
theorem Inv.big (I : Inv X pins σ H s) : sysModules < s.heap.objs.size := by
  have h : mainGlobals < s.heap.objs.size := (I.mod.glob.keeps I.bk).lt
  exact Nat.lt_trans (by decide) h
theorem d_getItem {Q : Value → Shared → Prop} (hu : A.units + 1 < cLine) (I : Inv X pins σ H s) (g : DGet H a y (some v)) (ry : RelV y u) (h : ∀ w' s', Inv X pins σ H s' → RelV v w' → Q w' s') :
    wpAny (model X.prog X.w) A (getItem (.ref a) u) Q E s := by
  rcases g with ⟨kvs, k, e, ey, l⟩ | ⟨kvs, k, b, e, ey, eb, l⟩
  · subst ey
    obtain ⟨z, hd, vs, rel, dd⟩ := dk_rd I.hok e
    obtain ⟨w', hw, rw'⟩ := RelO.some_of (v := v) (o := valueAt vs k) (by rw [l]; exact rel.val k)
    exact wpAny_getItem_of (kV_is ry) dd.mapOf hw (h w' _ (I.tok _) rw')
  · subst ey
    cases (show u = Value.ref b from ry)
    obtain ⟨z, hd, xs, rel, dd⟩ := dt_rd I.hok e
    obtain ⟨w', hw, rw'⟩ := RelO.some_of (v := v) (o := (atKey xs k).map (·.2)) (by rw [l]; exact rel.val k)
    obtain ⟨p, hp, hp2⟩ := Option.map_eq_some_iff.mp hw
    refine wpAny_getItem_heap (tupleKind_room_in1 hu) (key_of I.hok eb) dd hp ?_
    rw [hp2]
    exact h w' _ (I.tok _) rw'
theorem d_in {Q : Value → Shared → Prop} (hu : A.units + 1 < cLine) (I : Inv X pins σ H s) (g : DGet H a y o) (ry : RelV y u) (h : ∀ s', Inv X pins σ H s' → Q (.bool o.isSome) s') :
    wpAny (model X.prog X.w) A (compareOp .In u (.ref a)) Q E s := by
  rcases g with ⟨kvs, k, e, ey, l⟩ | ⟨kvs, k, b, e, ey, eb, l⟩
  · subst ey
    obtain ⟨z, hd, vs, rel, dd⟩ := dk_rd I.hok e
    refine wpAny_in_of (kV_is ry) hd dd.mapOf ?_
    rw [← (rel.val k).isSome_eq, ← l]
    exact h _ (I.tok _)
  · subst ey
    cases (show u = Value.ref b from ry)
    obtain ⟨z, hd, xs, rel, dd⟩ := dt_rd I.hok e
    refine wpAny_in_heap (tupleKind_room_in1 hu) (key_of I.hok eb) hd dd ?_
    have q := (rel.val k).isSome_eq
    rw [Option.isSome_map] at q
    rw [← q, ← l]
    exact h _ (I.tok _)
theorem d_write {h' : Heap} {t' : Nat} {ob : HO} (I : Inv X pins σ H s) (mu : Mut (H a)) (hs : Heap.SameBut a s.heap h') (he : ∃ q, h'.get? a = some q) (new : ObjOk X.prog X.w (upd H a ob) h' a ob) :
    Inv X pins σ (upd H a ob) { s with heap := h', toks := t' } :=
  I.write (x := a) (e := a) mu (.inl rfl) (fun b q hb z => (hs.2 b hb).trans z) he new
theorem dk_new {P : Program} {w : World} {H' : Hp} {h' : Heap} {kvs : List (Key × V)} {vs : List (Key × Value)} (z : kvs.length ≤ sizeLine) (hd : (a == sysModules) = false) (rel : KV kvs vs) (dd : h'.DictOf (mixKind P w) a vs) :
    ObjOk P w H' h' a (.dK kvs) := ⟨z, hd, vs, rel, dd⟩
theorem d_setItem {H' : Hp} {Q : Unit → Shared → Prop} (hu : A.units + 1 < cLine) (I : Inv X pins σ H s) (g : DPut H a y v H') (ry : RelV y u) (rv : RelV v r) (h : ∀ s', Inv X pins σ H' s' → Q () s') :
    wpAny (model X.prog X.w) A (setItem (.ref a) u r) Q E s := by
  rcases g with ⟨kvs, k, e, ey, l, eH⟩ | ⟨kvs, k, b, e, ey, eb, l, eH⟩
  · subst ey eH
    obtain ⟨z, hd, vs, rel, dd⟩ := dk_of I.hok e
    have hz : vs.length ≤ sizeLine := by rw [← rel.length]; exact z
    have hl : (putK kvs k v).length ≤ sizeLine := by have := length_putK kvs k v; omega
    refine wpAny_setItem_pairs (hsz := hz) (kV_is ry) dd fun h' dd' hs => h _ ?_
    have he : ∃ q, h'.get? a = some q := let ⟨q, _, _, hq, _⟩ := dd'; ⟨q, hq⟩
    exact d_write I (by rw [e]; exact True.intro) hs he (dk_new hl hd (rel.put k rv) dd')
  · subst ey eH
    cases (show u = Value.ref b from ry)
    obtain ⟨z, hd, xs, rel, dd⟩ := dt_of I.hok e
    have hz : xs.length ≤ sizeLine := by rw [← Paired.length rel]; exact z
    have hl : (putK kvs k v).length ≤ sizeLine := by have := length_putK kvs k v; omega
    refine wpAny_setItem_heap (hsz := hz) (tupleKind_room_in1 hu) (key_of I.hok eb) dd fun h' dd' hs => h _ ?_
    obtain ⟨q, es, ep, hq, h2, h3, h4, _, h5⟩ := dd'
    refine d_write I (by rw [e]; exact True.intro) hs ⟨q, hq⟩ ⟨hl, hd, _, (rel.put k eb rv).keeps fun c ys ec => ?_, q, es, ep, hq, h2, h3, h4, h5⟩
    rw [upd_ne (ne_of ec e (fun z => nomatch z))]
    exact ec
end
section
variable {X : Cx} {pins : List (Addr × Obj)} {σ : St} {H : Hp} {s : Shared} {a : Addr} {kvs : List (Key × V)} {k : Key} {u : Value} {A : Around} {E : Value → Shared → Prop}
end
def NoSl (i : Expr) : Prop := ∀ ov iv, subscripted i false ov iv = operate [ov, iv] (getItem ov iv)
theorem subD_of {prog : Program} {w : World} {A : Around} {E : Value → Shared → Prop} {s : Shared} {env : Env} {value slice : Expr} {pos : Pos} {T id : String} {Q : Value → Shared → Prop}
    (hl : typeLookup (.type T) "__getitem__" = pure (some (.builtin id))) (hs : NoSl slice)
    (h : wpAny (model prog w) A (eval value env) (fun o s₁ => wpAny (model prog w) A (eval slice env) (fun i s₂ => s₂.TypeIs o T ∧ wpAny (model prog w) A (getItem o i) Q E s₂) E s₁) E s) :
    wpAny (model prog w) A (eval (.Subscript value slice pos) env) Q E s := by
  refine Subscript_ (wpAny_mono h (fun o s₁ h₁ => wpAny_mono h₁ (fun i s₂ h₂ => ?_) fun _ _ x => x) fun _ _ x => x)
  obtain ⟨hT, h₂⟩ := h₂
  unfold subscriptTail
  refine wpAny_bind ?_
  rw [getitemInPython_of_ne hT.not_modules]
  refine wpAny_bind (wpAny_specialOf hT hl ?_)
  have fin : wpAny (model prog w) A (subscripted slice false o i) (fun r s₃ => wpAny (model prog w) A (letTemporaryGo value o r >>= fun _ => pure r) Q E s₃) E s₂ := by
    rw [hs o i]
    exact wpAny_operating (wpAny_mono h₂ (fun r s₃ h₃ => wpAny_bind (wpAny_letTemporaryGo (wpAny_pure h₃))) fun _ _ x => x)
  first
    | exact wpAny_pure (wpAny_bind fin)
    | exact wpAny_bind (wpAny_pure (wpAny_bind fin))
    | exact wpAny_bind fin
theorem dict_typeIs {X : Cx} {pins : List (Addr × Obj)} {σ : St} {H : Hp} {s : Shared} {a : Addr} {y : V} {o : Option V} (I : Inv X pins σ H s) (g : DGet H a y o) : s.TypeIs (.ref a) "dict" := by
  rcases g with ⟨kvs, k, e, _, _⟩ | ⟨kvs, k, b, e, _, _, _⟩
  · obtain ⟨_, _, vs, _, dd⟩ := dk_rd I.hok e
    exact dd.typeIs
  · obtain ⟨_, _, xs, _, dd⟩ := dt_rd I.hok e
    exact dd.typeIs
def tDGet (td ty : TE) : TE := fun σ H Q => td σ H fun x H1 => ty σ H1 fun y H2 => ∃ a v, x = .ref a ∧ DGet H2 a y (some v) ∧ Q v H2
def tDIn (ty td : TE) : TE := fun σ H Q => ty σ H fun y H1 => td σ H1 fun x H2 => ∃ a o, x = .ref a ∧ DGet H2 a y o ∧ Q (.bl o.isSome) H2
def sDPut (td ty tv : TE) : TS := fun D σ H => tv σ H fun v H1 => td σ H1 fun x H2 => ty σ H2 fun y H3 => ∃ a H4, x = .ref a ∧ DPut H3 a y v H4 ∧ D.nx σ H4
section
variable {X : Cx} {o i e value : Expr} {pos pos' tpos : Pos} {td ty tv : TE}
theorem pe_dget (hu : X.A.units + 1 < cLine) (ho : PE X o td) (hi : PE X i ty) (hs : NoSl i) : PE X (.Subscript o i pos) (tDGet td ty) := by
  intro pins s σ H Q I h
  refine subD_of PySem.F.slot_dict_getitem.lookup hs (thn (ho pins s σ H _ I h) fun u s1 ⟨x, H1, I1, rx, q1⟩ => thn (hi pins s1 σ H1 _ I1 q1) fun iv s2 ⟨y, H2, I2, ry, a, v, ex, g, q2⟩ => ?_)
  subst ex
  obtain rfl : u = Value.ref a := rx
  exact ⟨dict_typeIs I2 g, d_getItem hu I2 g ry fun w' s3 I3 rw' => ⟨v, H2, I3, rw', q2⟩⟩
theorem pc_din (hu : X.A.units + 1 < cLine) (hi : PE X i ty) (ho : PE X o td) : PC X .In i o (tDIn ty td) := by
  intro pins s σ H Q I h
  refine thn (hi pins s σ H _ I h) fun iv s1 ⟨y, H1, I1, ry, q1⟩ => thn (ho pins s1 σ H1 _ I1 q1) fun u s2 ⟨x, H2, I2, rx, a, ov, ex, g, q2⟩ => ?_
  subst ex
  obtain rfl : u = Value.ref a := rx
  exact d_in hu I2 g ry fun s3 I3 => ⟨.bl ov.isSome, H2, I3, rfl, q2⟩
theorem ps_dput (hu : X.A.units + 1 < cLine) (ho : PE X o td) (hi : PE X i ty) (hv : PE X value tv) (hs : swapsWith value (some (.Subscript o i pos')) pos.line X.env = pure false) :
    PS X (.Assign [.Subscript o i pos'] value pos) (sDPut td ty tv) := by
  intro pins s σ H D I h
  refine wpAny_Assign_Subscript (thn (hv pins s σ H _ I h) fun r s1 ⟨v, H1, I1, rv, q1⟩ => thn (ho pins s1 σ H1 _ I1 q1) fun u s2 ⟨x, H2, I2, rx, q2⟩ => thn (hi pins s2 σ H2 _ I2 q2) fun iv s3 ⟨y, H3, I3, ry, a, H4, ex, g, q3⟩ => ?_) hs
  subst ex
  obtain rfl : u = Value.ref a := rx
  exact d_setItem hu I3 g ry rv fun s4 I4 => ⟨σ, H4, I4, q3⟩
end
theorem dk_empty {P : Program} {w : World} {H : Hp} (h : Heap) (hb : sysModules < h.objs.size) : ObjOk P w H (h.push { cls := .type "dict", data := .dict #[] }) h.objs.size (.dK []) :=
  ⟨Nat.zero_le _, beq_eq_false_iff_ne.mpr (Ne.symm (Nat.ne_of_lt hb)), [], .nil, Heap.DictOf.new h⟩
def tDNewK : TE := fun _ H Q => ∀ p, H p = none → Q (.ref p) (upd H p (.dK []))
section
variable {X : Cx} {pos : Pos}
theorem pe_dnewK : PE X (.Dict [] [] pos) tDNewK := fun pins s σ H Q I h =>
  wpAny_Dict_empty ⟨.ref s.heap.objs.size, _, I.laid (a := s.heap.objs.size) (o := .dK []) (t' := s.toks) (fun _ _ q => Heap.get?_push_of_some _ q) (Nat.le_refl _) (dk_empty s.heap I.big), rfl, h _ (I.hok.fresh (Nat.le_refl _))⟩
end
def mergeK (kvs more : List (Key × V)) : List (Key × V) := more.foldl (fun acc kv => putK acc kv.1 kv.2) kvs
theorem KV.merge : ∀ {more : List (Key × V)} {rs : List (Key × Value)} {kvs : List (Key × V)} {vs : List (Key × Value)}, KV more rs → KV kvs vs → KV (mergeK kvs more) (merged vs rs) := by
  intro more rs kvs vs r
  unfold KV at r
  induction r generalizing kvs vs with
  | nil => intro q; exact q
  | @cons p q ps qs h t ih =>
    intro r0
    have e : KV (putK kvs p.1 p.2) (stored vs q.1 q.2) := by
      have := r0.put p.1 h.2
      rw [← h.1]; exact this
    exact ih e
theorem length_mergeK : ∀ (more kvs : List (Key × V)), (mergeK kvs more).length ≤ kvs.length + more.length
  | [], kvs => by show kvs.length ≤ kvs.length + 0; omega
  | p :: r, kvs => by
    have h1 := length_mergeK r (putK kvs p.1 p.2)
    have h2 := length_putK kvs p.1 p.2
    show (mergeK (putK kvs p.1 p.2) r).length ≤ _
    rw [List.length_cons]; omega
section
variable {X : Cx} {pins : List (Addr × Obj)} {σ : St} {H : Hp} {s : Shared} {a : Addr} {y d : V} {u r : Value} {o : Option V} {A : Around} {E : Value → Shared → Prop}
end
section
variable {X : Cx} {o e f : Expr} {apos cpos : Pos} {td ty tx : TE}
end
section
variable {X : Cx} {pins : List (Addr × Obj)} {σ : St} {H : Hp} {s : Shared} {a : Addr} {kvs : List (Key × V)} {A : Around} {E : Value → Shared → Prop}
end
section
variable {X : Cx} {pins : List (Addr × Obj)} {σ : St} {H : Hp} {s : Shared} {a : Addr} {y : V} {u : Value} {A : Around} {E : Value → Shared → Prop}
end
end L2
namespace Att
open PySem PySem.W PySem.Calls PyProof.Rows
section
variable {prog : Program} {w : World} {A : Around} {E : Value → Shared → Prop} {s : Shared} {K : Frag}
end
end Att
namespace L2
open PySem PySem.Spec PyProof.Rows
end L2
namespace L2
open PySem PySem.Spec PyProof.Rows
end L2
namespace L2
open PySem PySem.Spec PyProof.Rows
section
variable {P : Program} {w : World} {K : PySem.W.Frag} {mg : Str → Option Value} {base : Heap}
end
section
variable {X : Cx}
end
section
variable {κ : Type} [DecidableEq κ]
end
end L2
namespace PX
open PySem L2
variable {K : Ck}
/-! ## changeable things -/
theorem nd_inj {α : Type} {l : List α} (h : l.Nodup) {i j : Nat} (hi : i < l.length) (hj : j < l.length) (e : l[i] = l[j]) : i = j := by
  have p := List.pairwise_iff_getElem.mp h
  rcases Nat.lt_trichotomy i j with z | z | z
  · exact absurd e (p i j hi hj z)
  · exact z
  · exact absurd e.symm (p j i hj hi z)
def wset (W : Wd) (n : Nat) (a : Addr) (o : HO) (d : Nd) : Wd := ⟨W.F, upd W.H a o, W.m, W.h.set n d⟩
theorem wset_le {W : Wd} (w : WOk K W) {n : Nat} {d d' : Nd} {a : Addr} {o : HO} (e : W.h[n]? = some d) (hm : W.m[n]? = some a) (hF : W.F a = none) (at' : NdAt K W.F (upd W.H a o) W.m d' a) (nf : ∀ ks xs, d ≠ .fz ks xs := by intro _ _ z; cases z) : Le K W (wset W n a o d') := by
  have hn : n < W.h.length := (List.getElem?_eq_some_iff.mp e).1
  have ham : a ∈ W.m := List.mem_of_getElem? hm
  refine ⟨⟨fun b u q => ?_, by show W.m.length = (W.h.set n d').length; rw [List.length_set]; exact w.len, w.nd, fun j dj b e1 e2 => ?_⟩, Same.refl _, List.prefix_refl _, fun b u q hb => ?_, fun b u _ _ f => f, fun b z z' => absurd z z', fun j ks xs e1 => ?_⟩
  · have : b ≠ a := ne_of_none q hF
    exact (upd_ne this).trans (w.le _ _ q)
  · have e1 : (W.h.set n d')[j]? = some dj := e1
    by_cases hj : n = j
    · subst hj
      rw [List.getElem?_set_self hn] at e1
      cases e1
      have e2 : W.m[n]? = some b := e2
      rw [hm] at e2
      cases e2
      exact at'
    · rw [List.getElem?_set_ne hj] at e1
      have e2 : W.m[j]? = some b := e2
      have hb : b ≠ a := fun z => by
        subst z
        have h1 := (List.getElem?_eq_some_iff.mp hm)
        have h2 := (List.getElem?_eq_some_iff.mp e2)
        obtain ⟨l1, q1⟩ := h1
        obtain ⟨l2, q2⟩ := h2
        exact hj (nd_inj w.nd l1 l2 (q1.trans q2.symm))
      exact (w.at_ j dj b e1 e2).mono (Same.refl _) (List.prefix_refl _) (fun u q => (upd_ne hb).trans q) id
  · have : b ≠ a := fun z => hb (z ▸ ham)
    exact (upd_ne this).trans q
  · have hj : n ≠ j := fun z => by
      subst z
      rw [e] at e1
      cases e1
      exact nf _ _ rfl
    refine ⟨(List.getElem?_set_ne hj).trans e1, fun b e2 => upd_ne fun z => ?_⟩
    subst z
    obtain ⟨l1, q1⟩ := List.getElem?_eq_some_iff.mp hm
    obtain ⟨l2, q2⟩ := List.getElem?_eq_some_iff.mp e2
    exact hj (nd_inj w.nd l1 l2 (q1.trans q2.symm))
def isLst : PV → AH → Bool := fun x h => match listOf' x h with | some _ => true | none => false
theorem isLst_ty {W : Wd} {x : PV} {v : V} (w : WOk K W) (r : RepW K W x v) (c : isLst x W.h = true) : tyV K.K "list" v W.H := by
  unfold isLst at c
  split at c
  · rename_i xs hx
    obtain ⟨a, vs, rfl, hs, _⟩ := listOf'_rep w hx r
    exact .inl ⟨rfl, vs, SqL.of hs⟩
  · cases c
def mAppL : PM := fun x ys h => match x, ys with | .loc n, [y] => (match h[n]? with | some (.lst xs) => if xs.length < 100000 then some (.non, h.set n (.lst (xs ++ [y]))) else none | _ => none) | _, _ => none
theorem m_appL : BmSnd K "list" isLst rAppend mAppL := by
  refine ⟨fun W x v w r c => isLst_ty w r c, fun W x v xs vs Q z h' w rx r e q => ?_⟩
  unfold mAppL at e
  split at e
  · rename_i n y
    split at e
    · rename_i ys hn
      split at e
      · rename_i hl
        cases e
        obtain ⟨u, rfl, ru⟩ := rep1 r
        obtain ⟨a, ev, hm, hf, us, hp, rs⟩ := w.loc hn rx
        refine ⟨a, us, u, ev, rfl, hp, by rw [rs.len]; exact big hl, ?_⟩
        exact q .non (wset W n a (.lst (us ++ [u])) (.lst (ys ++ [y]))) rfl (wset_le w hn hm hf ⟨hf, _, upd_same, rs.snoc ru⟩) rfl
      · cases e
    · cases e
  · cases e
def mPopL : PM := fun x ys h => match x, ys with | .loc n, [] => (match h[n]? with | some (.lst xs) => (match xs[xs.length - 1]? with | some y => some (y, h.set n (.lst xs.dropLast)) | none => none) | _ => none) | _, _ => none
theorem RepL.dropLast {F : Hp} {m : List Addr} {xs : List PV} {vs : List V} (r : RepL K F m xs vs) : RepL K F m xs.dropLast vs.dropLast := by
  rw [List.dropLast_eq_take, List.dropLast_eq_take, r.len]
  exact r.take _
theorem m_popL : BmSnd K "list" isLst rPop mPopL := by
  refine ⟨fun W x v w r c => isLst_ty w r c, fun W x v xs vs Q z h' w rx r e q => ?_⟩
  unfold mPopL at e
  split at e
  · rename_i n
    split at e
    · rename_i ys hn
      split at e
      · rename_i y hy
        cases e
        obtain rfl : vs = [] := r
        obtain ⟨a, ev, hm, hf, us, hp, rs⟩ := w.loc hn rx
        obtain ⟨u, hu, ru⟩ := rs.get hy
        refine ⟨a, us, u, ev, rfl, hp, by rw [rs.len]; exact hu, ?_⟩
        exact q u (wset W n a (.lst us.dropLast) (.lst ys.dropLast)) rfl (wset_le w hn hm hf ⟨hf, _, upd_same, rs.dropLast⟩) ru
      · cases e
    · cases e
  · cases e
/-! ## dicts -/
def keyOf : PV → Option Key
  | .int i => some (.inl i)
  | .str s => some (.inr s)
  | _ => none
theorem keyOf_rep {W : Wd} {x : PV} {v : V} {k : Key} (e : keyOf x = some k) (r : RepW K W x v) : v = kV k := by
  cases x <;> cases e <;> exact r
def dctOf (x : PV) (h : AH) : Option (List Key × List PV) := match x with | .loc n => (match h[n]? with | some (.dct ks xs) => some (ks, xs) | _ => none) | _ => none
/-- the value at a key -/
def getK : List Key → List PV → Key → Option PV
  | k :: ks, x :: xs, j => if k = j then some x else getK ks xs j
  | _, _, _ => none
def hasK : List Key → Key → Bool
  | [], _ => false
  | k :: ks, j => if k = j then true else hasK ks j
def setK {α : Type} : List Key → List α → Key → α → List α
  | k :: ks, x :: xs, j, y => if k = j then y :: setK ks xs j y else x :: setK ks xs j y
  | _, xs, _, _ => xs
def putKP (ks : List Key) (xs : List PV) (k : Key) (x : PV) : List Key × List PV := if hasK ks k = true then (ks, setK ks xs k x) else (ks ++ [k], xs ++ [x])
theorem setK_len {α : Type} : ∀ (ks : List Key) (xs : List α) (j : Key) (y : α), (setK ks xs j y).length = xs.length
  | [], _, _, _ => by simp [setK]
  | _ :: _, [], _, _ => by simp [setK]
  | k :: ks, x :: xs, j, y => by
    show (if k = j then y :: setK ks xs j y else x :: setK ks xs j y).length = _
    split <;> simp [setK_len ks xs j y]
theorem RepL.setK {F : Hp} {m : List Addr} : ∀ {xs : List PV} {vs : List V} (ks : List Key) (j : Key) {y : PV} {u : V}, RepL K F m xs vs → Rep K F m y u → RepL K F m (PX.setK ks xs j y) (PX.setK ks vs j u)
  | [], _, ks, j, y, u, h, _ => by rw [show _ = [] from h]; cases ks <;> exact rfl
  | x :: xs, _, [], j, y, u, h, _ => by
    obtain ⟨v, r, e, h1, l⟩ := h
    subst e
    exact ⟨v, r, rfl, h1, l⟩
  | x :: xs, _, k :: ks, j, y, u, ⟨v, r, e, h1, l⟩, ru => by
    subst e
    show RepL K F m (if k = j then y :: PX.setK ks xs j y else x :: PX.setK ks xs j y) (if k = j then u :: PX.setK ks r j u else v :: PX.setK ks r j u)
    have ih := RepL.setK ks j l ru
    split
    · exact ⟨u, _, rfl, ru, ih⟩
    · exact ⟨v, _, rfl, h1, ih⟩
theorem valV_zip {F : Hp} {m : List Addr} : ∀ {ks : List Key} {xs : List PV} {vs : List V} (j : Key), RepL K F m xs vs → vs.length = ks.length → (∀ x, getK ks xs j = some x → ∃ v, valV (ks.zip vs) j = some v ∧ Rep K F m x v) ∧ (getK ks xs j = none → valV (ks.zip vs) j = none)
  | [], xs, vs, j, r, hl => by
    refine ⟨fun x e => ?_, fun _ => rfl⟩
    cases xs <;> cases e
  | k :: ks, [], vs, j, r, hl => by rw [show vs = [] from r] at hl; cases hl
  | k :: ks, x :: xs, _, j, ⟨v, r', e, h, l⟩, hl => by
    subst e
    have ih := valV_zip j l (by simpa using hl)
    have hz : valV ((k :: ks).zip (v :: r')) j = if k = j then some v else valV (ks.zip r') j := by
      unfold valV
      rw [List.zip_cons_cons, List.find?_cons]
      by_cases hk : k = j
      · simp [hk]
      · simp [hk]
    rw [hz]
    show (∀ y, (if k = j then some x else getK ks xs j) = some y → _) ∧ ((if k = j then some x else getK ks xs j) = none → _)
    by_cases hk : k = j
    · rw [if_pos hk, if_pos hk]
      exact ⟨fun y e => by cases e; exact ⟨v, rfl, h⟩, fun e => by cases e⟩
    · rw [if_neg hk, if_neg hk]
      exact ih
theorem any_zip (j : Key) : ∀ (ks : List Key) (vs : List V), vs.length = ks.length → ((ks.zip vs).any fun kv => decide (kv.1 = j)) = hasK ks j
  | [], _, _ => by simp [hasK]
  | k :: ks, [], h => by cases h
  | k :: ks, v :: vs, h => by
    rw [List.zip_cons_cons, List.any_cons, any_zip j ks vs (by simpa using h)]
    show (decide (k = j) || hasK ks j) = if k = j then true else hasK ks j
    by_cases hk : k = j <;> simp [hk]
theorem map_zip (j : Key) (y : V) : ∀ (ks : List Key) (vs : List V), vs.length = ks.length → (ks.zip vs).map (fun kv => if kv.1 = j then (kv.1, y) else kv) = ks.zip (setK ks vs j y)
  | [], _, _ => by simp
  | k :: ks, [], h => by cases h
  | k :: ks, v :: vs, h => by
    rw [List.zip_cons_cons, List.map_cons, map_zip j y ks vs (by simpa using h)]
    show (if k = j then (k, y) else (k, v)) :: _ = (k :: ks).zip (if k = j then y :: setK ks vs j y else v :: setK ks vs j y)
    by_cases hk : k = j
    · rw [if_pos hk, if_pos hk]; rfl
    · rw [if_neg hk, if_neg hk]; rfl
theorem putK_zip (j : Key) (y : V) (ks : List Key) (vs : List V) (hl : vs.length = ks.length) : putK (ks.zip vs) j y = if hasK ks j = true then ks.zip (setK ks vs j y) else (ks ++ [j]).zip (vs ++ [y]) := by
  unfold putK
  rw [any_zip j ks vs hl, map_zip j y ks vs hl, List.zip_append hl.symm]
  rfl
theorem dctOf_rep {W : Wd} (w : WOk K W) {x : PV} {v : V} {ks : List Key} {xs : List PV} (e : dctOf x W.h = some (ks, xs)) (r : RepW K W x v) : ∃ a vs, v = .ref a ∧ W.H a = some (.dK (ks.zip vs)) ∧ vs.length = ks.length ∧ RepLW K W xs vs := by
  unfold dctOf at e
  split at e
  · split at e
    · rename_i hn
      cases e
      obtain ⟨a, ev, hm, hf, vs, hp, hl, rs⟩ := w.loc hn r
      exact ⟨a, vs, ev, hp, hl, rs⟩
    · cases e
  · cases e
/-- a dict that is read: one that is gone over by a loop, too -/
def dctR (x : PV) (h : AH) : Option (List Key × List PV) := match x with | .loc n => (match h[n]? with | some (.dct ks xs) => some (ks, xs) | some (.fz ks xs) => some (ks, xs) | _ => none) | _ => none
theorem dctR_rep {W : Wd} (w : WOk K W) {x : PV} {v : V} {ks : List Key} {xs : List PV} (e : dctR x W.h = some (ks, xs)) (r : RepW K W x v) : ∃ a vs, v = .ref a ∧ Rd W.H a (.dK (ks.zip vs)) ∧ vs.length = ks.length ∧ RepLW K W xs vs := by
  unfold dctR at e
  split at e
  · split at e
    · rename_i hn
      cases e
      obtain ⟨a, ev, hm, hf, vs, hp, hl, rs⟩ := w.loc hn r
      exact ⟨a, vs, ev, .inl hp, hl, rs⟩
    · rename_i hn
      cases e
      obtain ⟨a, ev, hm, hf, o, vs, hp, hl, rs⟩ := w.loc hn r
      exact ⟨a, vs, ev, .inr ⟨o, hp⟩, hl, rs⟩
    · cases e
  · cases e
theorem DGet.r {H : Hp} {a : Addr} {kvs : List (Key × V)} {k : Key} (e : Rd H a (.dK kvs)) : DGet H a (kV k) (valV kvs k) := .inl ⟨kvs, k, e, rfl, rfl⟩
/-- d[k] -/
def xDGet (ed ek : XE) : XE := fun ρ h => ob (ed ρ h) fun d h1 => ob (ek ρ h1) fun k h2 => match dctR d h2, keyOf k with | some (ks, xs), some j => (match getK ks xs j with | some x => some (x, h2) | none => none) | _, _ => none
theorem snd_dget {td ty : TE} {ed ek : XE} (a : SndE K td ed) (b : SndE K ty ek) : SndE K (tDGet td ty) (xDGet ed ek) := by
  intro W0 W ρ σ Q z h' g e q
  obtain ⟨d, h1, e1, f1⟩ := ob_some e
  obtain ⟨k, h2, e2, f2⟩ := ob_some f1
  refine a W0 W ρ σ _ d h1 g e1 fun vd W1 w1 l1 r1 => ?_
  subst w1
  refine b W0 W1 ρ σ _ k h2 (g.step l1) e2 fun vk W2 w2 l2 r2 => ?_
  subst w2
  split at f2
  · rename_i ks xs j hd hk
    split at f2
    · rename_i x hx
      cases f2
      obtain ⟨p, vs, ev, hp, hl, rs⟩ := dctR_rep l2.ok hd (l2.rep r1)
      obtain ⟨v, h3, h4⟩ := (valV_zip j rs hl).1 _ hx
      have := keyOf_rep hk r2
      subst this
      exact ⟨p, v, ev, by rw [← h3]; exact DGet.r hp, q _ W2 rfl (l1.trans l2) h4⟩
    · cases f2
  · cases f2
/-- k in d -/
def xDIn (neg : Bool) (ek ed : XE) : XE := fun ρ h => ob (ek ρ h) fun k h1 => ob (ed ρ h1) fun d h2 => match dctR d h2, keyOf k with | some (ks, xs), some j => some (.bl (if neg then !(getK ks xs j).isSome else (getK ks xs j).isSome), h2) | _, _ => none
theorem isSome_zip {F : Hp} {m : List Addr} {ks : List Key} {xs : List PV} {vs : List V} (j : Key) (r : RepL K F m xs vs) (hl : vs.length = ks.length) : (valV (ks.zip vs) j).isSome = (getK ks xs j).isSome := by
  have h := valV_zip j r hl
  cases e : getK ks xs j with
  | none => rw [h.2 e]; rfl
  | some x => obtain ⟨v, h1, _⟩ := h.1 x e; rw [h1]; rfl
theorem snd_din {td ty : TE} {ed ek : XE} (b : SndE K ty ek) (a : SndE K td ed) : SndE K (tDIn ty td) (xDIn false ek ed) := by
  intro W0 W ρ σ Q z h' g e q
  obtain ⟨k, h1, e1, f1⟩ := ob_some e
  obtain ⟨d, h2, e2, f2⟩ := ob_some f1
  refine b W0 W ρ σ _ k h1 g e1 fun vk W1 w1 l1 r1 => ?_
  subst w1
  refine a W0 W1 ρ σ _ d h2 (g.step l1) e2 fun vd W2 w2 l2 r2 => ?_
  subst w2
  split at f2
  · rename_i ks xs j hd hk
    cases f2
    obtain ⟨p, vs, ev, hp, hl, rs⟩ := dctR_rep l2.ok hd r2
    have := keyOf_rep hk (l2.rep r1)
    subst this
    exact ⟨p, _, ev, DGet.r hp, q _ W2 rfl (l1.trans l2) (by rw [isSome_zip j rs hl]; rfl)⟩
  · cases f2
/-- d[k] = v -/
def xDPut (ed ek ev : XE) : XS := fun ρ h => ob (ev ρ h) fun v h1 => ob (ed ρ h1) fun d h2 => ob (ek ρ h2) fun k h3 => match d, keyOf k with
  | .loc n, some j => (match h3[n]? with | some (.dct ks xs) => if ks.length < 1000 then some (.nx ρ, h3.set n (.dct (putKP ks xs j v).1 (putKP ks xs j v).2)) else none | _ => none)
  | _, _ => none
theorem snd_dput {td ty tv : TE} {ed ek ev : XE} (a : SndE K td ed) (b : SndE K ty ek) (c : SndE K tv ev) : SndS K (sDPut td ty tv) (xDPut ed ek ev) := by
  intro W0 W ρ σ D o h' g e q
  obtain ⟨v, h1, e1, f1⟩ := ob_some e
  obtain ⟨x, h2, e2, f2⟩ := ob_some f1
  obtain ⟨i, h3, e3, f3⟩ := ob_some f2
  refine c W0 W ρ σ _ v h1 g e1 fun vv W1 w1 l1 r1 => ?_
  subst w1
  refine a W0 W1 ρ σ _ x h2 (g.step l1) e2 fun vx W2 w2 l2 r2 => ?_
  subst w2
  refine b W0 W2 ρ σ _ i h3 (g.step (l1.trans l2)) e3 fun vi W3 w3 l3 r3 => ?_
  subst w3
  have w := l3.ok
  split at f3
  · rename_i n j hk
    split at f3
    · rename_i ks xs hn
      split at f3
      · rename_i hc
        cases f3
        obtain ⟨p, ep, hm, hf, us, hp, hl, rs⟩ := w.loc hn (l3.rep r2)
        have := keyOf_rep hk r3
        subst this
        have hput := putK_zip j vv ks us hl
        have rv := (l2.trans l3).rep r1
        have key : ∃ us', putK (ks.zip us) j vv = (putKP ks xs j v).1.zip us' ∧ us'.length = (putKP ks xs j v).1.length ∧ RepLW K W3 (putKP ks xs j v).2 us' := by
          unfold putKP
          by_cases hj : hasK ks j = true
          · rw [if_pos hj] at hput ⊢
            exact ⟨_, hput, by rw [setK_len]; exact hl, rs.setK ks j rv⟩
          · rw [if_neg hj] at hput ⊢
            exact ⟨_, hput, by rw [List.length_append, List.length_append, hl]; rfl, rs.snoc rv⟩
        obtain ⟨us', p1, p2, p3⟩ := key
        refine ⟨p, _, ep, DPut.k hp (by rw [List.length_zip, hl]; exact small1000 (by omega)), ?_⟩
        rw [p1]
        have l4 : Le K W3 (wset W3 n p (.dK ((putKP ks xs j v).1.zip us')) (.dct (putKP ks xs j v).1 (putKP ks xs j v).2)) := wset_le w hn hm hf ⟨hf, us', upd_same, p2, p3⟩
        have l := l1.trans (l2.trans (l3.trans l4))
        exact q _ σ rfl l.lf (g.step l)
      · cases f3
    · cases f3
  · cases f3
/-- {} -/
def xDNew : XO := fun _ h => some (.dct [] [], h)
theorem snd_dnew : SndO K tDNewK xDNew := by
  intro W0 W ρ σ Q d h' g e q
  cases e
  intro p hp
  exact q p (wlay W p (.dK [])) rfl (wlay_le g.ok hp) (g.ok.out hp) hp (fun z => by cases z) ⟨g.ok.ff hp, [], upd_same, rfl, rfl⟩
end PX
namespace PX
open PySem L2
variable {K : Ck}
/-! ## more -/
theorem sv_flat {x : PV} {u : V} (e : sv x = some u) : flatV u = true := by cases x <;> cases e <;> rfl
end PX
namespace PX
open PySem L2
/-! ## loops run: rules for pure proofs -/
theorem dec_T [i : Decidable True] : decide True = true := by simp
theorem dec_F [i : Decidable False] : decide False = false := by simp
theorem ff_eq : (false = true) = False := by simp
theorem tf_eq : (true = false) = False := by simp
theorem le_refl_nat {n : Nat} : (n ≤ n) = True := eq_true (Nat.le_refl n)
theorem forL_inv {g : XG} {s : XS} {xs : List PV} (I : Nat → PSt → AH → Prop) (R : PV → AH → Prop) {ρ : PSt} {h : AH} (h0 : I 0 ρ h)
    (step : ∀ (i : Nat) (x : PV) (ρ : PSt) (h : AH), xs[i]? = some x → I i ρ h → ∃ ρ1 o h', g x ρ = some ρ1 ∧ s ρ1 h = some (o, h') ∧ (match o with | .nx ρ' => I (i + 1) ρ' h' | .ct ρ' => I (i + 1) ρ' h' | .bk _ => False | .rt y => R y h')) :
    (∃ ρ' h', forL g s xs ρ h = some (.nx ρ', h') ∧ I xs.length ρ' h') ∨ ∃ y h', forL g s xs ρ h = some (.rt y, h') ∧ R y h' := by
  have key : ∀ (n i : Nat) (ρ : PSt) (h : AH), i + n = xs.length → I i ρ h → (∃ ρ' h', forL g s (xs.drop i) ρ h = some (.nx ρ', h') ∧ I xs.length ρ' h') ∨ ∃ y h', forL g s (xs.drop i) ρ h = some (.rt y, h') ∧ R y h' := by
    intro n
    induction n with
    | zero =>
      intro i ρ h hi hI
      have : i = xs.length := by omega
      subst this
      rw [List.drop_length]
      exact .inl ⟨ρ, h, rfl, hI⟩
    | succ n ih =>
      intro i ρ h hi hI
      have hlt : i < xs.length := by omega
      obtain ⟨ρ1, o, h', e1, e2, e3⟩ := step i xs[i] ρ h (List.getElem?_eq_getElem hlt) hI
      rw [List.drop_eq_getElem_cons hlt, x_forC, e1, Option.bind_some, e2, x_ob]
      cases o with
      | nx ρ' => exact ih (i + 1) ρ' h' (by omega) e3
      | ct ρ' => exact ih (i + 1) ρ' h' (by omega) e3
      | bk ρ' => exact e3.elim
      | rt y => exact .inr ⟨y, h', rfl, e3⟩
  simpa using key xs.length 0 ρ h (by omega) h0
/-- no way out but the end -/
theorem forL_nx {g : XG} {s : XS} {xs : List PV} (I : Nat → PSt → AH → Prop) {ρ : PSt} {h : AH} (h0 : I 0 ρ h)
    (step : ∀ (i : Nat) (x : PV) (ρ : PSt) (h : AH), xs[i]? = some x → I i ρ h → ∃ ρ1 ρ' h', g x ρ = some ρ1 ∧ (s ρ1 h = some (.nx ρ', h') ∨ s ρ1 h = some (.ct ρ', h')) ∧ I (i + 1) ρ' h') :
    ∃ ρ' h', forL g s xs ρ h = some (.nx ρ', h') ∧ I xs.length ρ' h' := by
  rcases forL_inv I (fun _ _ => False) h0 (fun i x ρ h hx hI => by
    obtain ⟨ρ1, ρ', h', e1, e2, e3⟩ := step i x ρ h hx hI
    rcases e2 with e2 | e2
    · exact ⟨ρ1, .nx ρ', h', e1, e2, e3⟩
    · exact ⟨ρ1, .ct ρ', h', e1, e2, e3⟩) with q | ⟨_, _, _, q⟩
  · exact q
  · exact q.elim
theorem forL_then {β : Type} {g : XG} {s : XS} {xs : List PV} (I : Nat → PSt → AH → Prop) {ρ : PSt} {h : AH} {f : Out → AH → Option β} {r : Option β} (h0 : I 0 ρ h)
    (step : ∀ (i : Nat) (x : PV) (ρ : PSt) (h : AH), xs[i]? = some x → I i ρ h → ∃ ρ1 ρ' h', g x ρ = some ρ1 ∧ (s ρ1 h = some (.nx ρ', h') ∨ s ρ1 h = some (.ct ρ', h')) ∧ I (i + 1) ρ' h')
    (fin : ∀ ρ' h', I xs.length ρ' h' → f (.nx ρ') h' = r) : ob (forL g s xs ρ h) f = r := by
  obtain ⟨ρ', h', e, hI⟩ := forL_nx I h0 step
  rw [e]
  exact fin ρ' h' hI
/-- .. or a way out by return -/
theorem forL_or {β : Type} {g : XG} {s : XS} {xs : List PV} (I : Nat → PSt → AH → Prop) (R : PV → AH → Prop) {ρ : PSt} {h : AH} {f : Out → AH → Option β} {P : Option β → Prop} (h0 : I 0 ρ h)
    (step : ∀ (i : Nat) (x : PV) (ρ : PSt) (h : AH), xs[i]? = some x → I i ρ h → ∃ ρ1 o h', g x ρ = some ρ1 ∧ s ρ1 h = some (o, h') ∧ (match o with | .nx ρ' => I (i + 1) ρ' h' | .ct ρ' => I (i + 1) ρ' h' | .bk _ => False | .rt y => R y h'))
    (fin : ∀ ρ' h', I xs.length ρ' h' → P (f (.nx ρ') h')) (out : ∀ y h', R y h' → P (f (.rt y) h')) : P (ob (forL g s xs ρ h) f) := by
  rcases forL_inv I R h0 step with ⟨ρ', h', e, hI⟩ | ⟨y, h', e, hR⟩
  · rw [e]; exact fin ρ' h' hI
  · rw [e]; exact out y h' hR
theorem rng_len (lo : Int) (n : Nat) : (rngV lo n).length = n := by simp [rngV]
theorem rng_get {lo : Int} {n i : Nat} {x : PV} (h : (rngV lo n)[i]? = some x) : i < n ∧ x = .int (lo + i) := by
  have hl := (List.getElem?_eq_some_iff.mp h).1
  rw [rng_len] at hl
  refine ⟨hl, ?_⟩
  simp [rngV, hl] at h
  exact h.symm
theorem x_iR1i {a : XA} {ρ : PSt} {h h1 : AH} {j : Int} (e : a ρ h = some ([.int j], h1)) (h0 : -1000000000 ≤ j) (h2 : j ≤ 1000000000) : xIR1 a ρ h = some (rngV 0 j.toNat, h1) := by
  unfold xIR1
  rw [e, x_ob]
  show (if _ then _ else _) = _
  rw [if_pos ⟨h0, h2⟩]
theorem cmpL_of {α : Type} {e : XE} {inn : PV → PSt} (f g : α → PV) : ∀ {ts : List α} {h : AH}, (∀ t ∈ ts, e (inn (f t)) h = some (g t, h)) → cmpL e inn (ts.map f) h = some (ts.map g, h)
  | [], _, _ => rfl
  | t :: ts, h, k => by
    show ob (e (inn (f t)) h) (fun y h1 => ob (cmpL e inn (ts.map f) h1) fun ys h2 => some (y :: ys, h2)) = _
    rw [k t List.mem_cons_self, x_ob, cmpL_of f g fun y hy => k y (List.mem_cons_of_mem _ hy), x_ob]
    rfl
theorem x_appO {i : Nat} {e : XE} {ρ : PSt} {h : AH} {xs : List PV} (hx : ρ[i]? = some (.own (.lst xs))) : xAppO i e ρ h = ob (e ρ h) fun x h1 => if xs.length < 100000 then some (.nx (ρ.set i (.own (.lst (xs ++ [x])))), h1) else none := by
  unfold xAppO
  rw [hx]
theorem at_0 {α : Type} {a0 : α} {xs : List α} : atI (a0 :: xs) 0 = some a0 := atI_nat (j := 0) rfl
theorem at_1 {α : Type} {a0 a1 : α} {xs : List α} : atI (a0 :: a1 :: xs) 1 = some a1 := atI_nat (j := 1) rfl
theorem at_2 {α : Type} {a0 a1 a2 : α} {xs : List α} : atI (a0 :: a1 :: a2 :: xs) 2 = some a2 := atI_nat (j := 2) rfl
theorem at_3 {α : Type} {a0 a1 a2 a3 : α} {xs : List α} : atI (a0 :: a1 :: a2 :: a3 :: xs) 3 = some a3 := atI_nat (j := 3) rfl
theorem at_4 {α : Type} {a0 a1 a2 a3 a4 : α} {xs : List α} : atI (a0 :: a1 :: a2 :: a3 :: a4 :: xs) 4 = some a4 := atI_nat (j := 4) rfl
theorem at_5 {α : Type} {a0 a1 a2 a3 a4 a5 : α} {xs : List α} : atI (a0 :: a1 :: a2 :: a3 :: a4 :: a5 :: xs) 5 = some a5 := atI_nat (j := 5) rfl
theorem list_loc {h : AH} {n : Nat} {xs : List PV} (e : h[n]? = some (.lst xs)) : bListOf [.loc n] h = some (.lst xs, h) := by
  unfold bListOf listOf
  simp only [e]
theorem len_loc {h : AH} {n : Nat} {xs : List PV} (e : h[n]? = some (.lst xs)) : bLenL [.loc n] h = some (.int xs.length, h) := by
  unfold bLenL seqLen
  simp only [e]
theorem app_loc {h : AH} {n : Nat} {xs : List PV} {y : PV} (e : h[n]? = some (.lst xs)) (hl : xs.length < 100000) : mAppL (.loc n) [y] h = some (.non, h.set n (.lst (xs ++ [y]))) := by
  unfold mAppL
  simp only [e]
  rw [if_pos hl]
theorem isLst_loc {h : AH} {n : Nat} {xs : List PV} (e : h[n]? = some (.lst xs)) : isLst (.loc n) h = true := by
  unfold isLst listOf'
  simp only [e]
end PX
namespace PX
open PySem L2
variable {K : Ck}
/-! an index of a list or a tuple -/
def oIxA : P2 := fun x y h => match x with | .tup xs => oIxT (.tup xs) y h | x => oIxL x y h
theorem o_ixA : OpSnd K (rIx K.K) oIxA := by
  intro W x y v u Q z h' w rx ry e q
  unfold oIxA at e
  split at e
  · exact .inr (.inl (o_ixT W _ y v u Q z h' w rx ry e q))
  · exact .inl (o_ixL W _ y v u Q z h' w rx ry e q)
theorem x_ixA_t {xs : List PV} {i : Int} {h : AH} : oIxA (.tup xs) (.int i) h = (atI xs i).bind fun v => some (v, h) := id (by simp only [oIxA, oIxT]; cases atI xs i <;> rfl)
theorem x_ixA_l {xs : List PV} {i : Int} {h : AH} : oIxA (.lst xs) (.int i) h = (atI xs i).bind fun v => some (v, h) := id (by simp only [oIxA, oIxL]; cases atI xs i <;> rfl)
section
variable {ta : TE} {ea : XE}
/-! what one owns: extend, reverse, len -/
theorem RepL.rev {F : Hp} {m : List Addr} : ∀ {xs : List PV} {vs : List V}, RepL K F m xs vs → RepL K F m xs.reverse vs.reverse
  | [], _, h => by rw [show _ = [] from h]; rfl
  | x :: xs, _, ⟨v, r, e, h, l⟩ => by rw [e, List.reverse_cons, List.reverse_cons]; exact (RepL.rev l).snoc h
end
end PX
namespace PX
open PySem L2
variable {K : Ck}
/-! ### list + list, the script among them -/
/-! ### range(lo, hi, step), step above 0 -/
end PX
namespace PX
open PySem L2
variable {K : Ck}
/-! ### == and != of nested lists and tuples; None and a tuple -/
/-- this never is: a thing of the heap that is the text's own -/
def Odd (K : PySem.W.Frag) (H : Hp) : Prop := ∃ a o ob, H a = some o ∧ K.lookup a = some ob
inductive EqR (K : PySem.W.Frag) (H : Hp) : Nat → V → V → Bool → Prop where
  | flat {n : Nat} {x y : V} (fx : flatV x = true) (fy : flatV y = true) : EqR K H n x y (eqV x y)
  | same {n : Nat} {a : Addr} : EqR K H n (.ref a) (.ref a) true
  | odd {n : Nat} {x y : V} {b : Bool} (h : Odd K H) : EqR K H n x y b
  | nt {n : Nat} {b : Addr} {ys : List V} (hb : SqT K H b ys) : EqR K H (n + 1) .non (.ref b) false
  | tn {n : Nat} {b : Addr} {ys : List V} (hb : SqT K H b ys) : EqR K H (n + 1) (.ref b) .non false
  | lst {n : Nat} {a b : Addr} {xs ys : List V} {e : Nat → Bool} (ha : H a = some (.lst xs)) (hb : H b = some (.lst ys)) (hl : xs.length = ys.length) (hne : a ≠ b) (he : ∀ j x y, xs[j]? = some x → ys[j]? = some y → EqR K H n x y (e j)) : EqR K H (n + 1) (.ref a) (.ref b) ((List.range xs.length).all e)
  | lstN {n : Nat} {a b : Addr} {xs ys : List V} (ha : H a = some (.lst xs)) (hb : H b = some (.lst ys)) (hl : xs.length ≠ ys.length) : EqR K H (n + 1) (.ref a) (.ref b) false
  | tup {n : Nat} {a b : Addr} {xs ys : List V} {e : Nat → Bool} (ha : SqT K H a xs) (hb : SqT K H b ys) (hne : a ≠ b) (he : ∀ j x y, xs[j]? = some x → ys[j]? = some y → EqR K H n x y (e j)) : EqR K H (n + 1) (.ref a) (.ref b) ((List.range (min xs.length ys.length)).all e && xs.length == ys.length)
/-- two things of the heap, compared as such -/
inductive RcR (K : PySem.W.Frag) (H : Hp) : V → V → Bool → Prop where
  | nt {b : Addr} {ys : List V} (hb : SqT K H b ys) : RcR K H .non (.ref b) false
  | tn {b : Addr} {ys : List V} (hb : SqT K H b ys) : RcR K H (.ref b) .non false
  | lst {a b : Addr} {xs ys : List V} {e : Nat → Bool} (ha : H a = some (.lst xs)) (hb : H b = some (.lst ys)) (hl : xs.length = ys.length) (he : ∀ j x y, xs[j]? = some x → ys[j]? = some y → EqR K H 40 x y (e j)) : RcR K H (.ref a) (.ref b) ((List.range xs.length).all e)
  | lstN {a b : Addr} {xs ys : List V} (ha : H a = some (.lst xs)) (hb : H b = some (.lst ys)) (hl : xs.length ≠ ys.length) : RcR K H (.ref a) (.ref b) false
  | tup {a b : Addr} {xs ys : List V} {e : Nat → Bool} (ha : SqT K H a xs) (hb : SqT K H b ys) (he : ∀ j x y, xs[j]? = some x → ys[j]? = some y → EqR K H 40 x y (e j)) : RcR K H (.ref a) (.ref b) ((List.range (min xs.length ys.length)).all e && xs.length == ys.length)
def rEqD (K : PySem.W.Frag) : R2 := fun x y H Q => ∃ b, RcR K H x y b ∧ Q (.bl b) H
def rNeD (K : PySem.W.Frag) : R2 := fun x y H Q => ∃ b, RcR K H x y b ∧ Q (.bl (!b)) H
def allE (f : PV → PV → Option Bool) : List PV → List PV → Option Bool
  | x :: xs, y :: ys => (match f x y, allE f xs ys with | some b, some c => some (b && c) | _, _ => none)
  | _, _ => some true
def pairE (f : PV → PV → Option Bool) (h : AH) (x y : PV) : Option Bool := match x, y with
  | .tup xs, .tup ys => (match allE f xs ys with | some b => some (b && xs.length == ys.length) | none => none)
  | .non, .tup _ => some false
  | .tup _, .non => some false
  | x, y => (match listOf' x h, listOf' y h with | some xs, some ys => if xs.length = ys.length then allE f xs ys else some false | _, _ => none)
def eqP : Nat → AH → PV → PV → Option Bool
  | 0, _, _, _ => none
  | n + 1, h, x, y => match sv x, sv y with
    | some u, some v => some (eqV u v)
    | _, _ => pairE (eqP n h) h x y
theorem eqV_refl : ∀ {v : V}, flatV v = true → eqV v v = true
  | .non, _ => rfl
  | .bl b, _ => by cases b <;> rfl
  | .int i, _ => by simp [eqV]
  | .str s, _ => by simp [eqV]
def unV : Value → Option V
  | .none => some .non
  | .bool b => some (.bl b)
  | .int i _ => some (.int i)
  | .str x _ => some (.str x)
  | .bytes b _ => some (.byt b)
  | .float b _ => some (.flt b)
  | .ref a => some (.ref a)
  | .type n => some (.ty n)
  | _ => none
theorem rel_un : ∀ {v : V} {u : Value}, RelV v u → unV u = some v
  | .non, _, h => by rw [show _ = Value.none from h]; rfl
  | .bl _, _, h => by rw [show _ = Value.bool _ from h]; rfl
  | .int _, _, ⟨_, h⟩ => by rw [h]; rfl
  | .str _, _, ⟨_, h⟩ => by rw [h]; rfl
  | .byt _, _, ⟨_, h⟩ => by rw [h]; rfl
  | .flt _, _, ⟨_, h⟩ => by rw [h]; rfl
  | .ref _, _, h => by rw [show _ = Value.ref _ from h]; rfl
  | .ty _, _, h => by rw [show _ = Value.type _ from h]; rfl
theorem rel_inj {v w : V} {u : Value} (h1 : RelV v u) (h2 : RelV w u) : v = w := Option.some.inj ((rel_un h1).symm.trans (rel_un h2))
theorem vals_inj {vs ws : List V} {us : List Value} (h1 : Vals vs us) : Vals ws us → vs = ws := by
  induction h1 generalizing ws with
  | nil => intro h2; cases h2; rfl
  | cons r _ ih => intro h2; cases h2 with | cons r2 t2 => rw [rel_inj r r2, ih t2]
theorem tp_inj {F H : Hp} {a : Addr} {vs ws : List V} (s : Same F H) (h1 : TpAt K.K F a vs) (h2 : TpAt K.K F a ws) : vs = ws ∨ Odd K.K H := by
  rcases h1 with h1 | ⟨o, its, n, e1, e2, e3, e4, e5⟩
  · rcases h2 with h2 | ⟨o, its, n, e1, e2, e3, e4, e5⟩
    · rw [h1] at h2; cases h2; exact .inl rfl
    · exact .inr ⟨a, _, o, s _ _ h1, e1⟩
  · rcases h2 with h2 | ⟨o', its', n', e1', e2', e3', e4', e5'⟩
    · exact .inr ⟨a, _, o, s _ _ h2, e1⟩
    · rw [e1] at e1'; cases e1'
      rw [e3] at e3'; cases e3'
      exact .inl (vals_inj e5 e5')
theorem allE_same {f : PV → PV → Option Bool} {W : Wd} (hf : ∀ x y v b, f x y = some b → RepW K W x v → RepW K W y v → b = true ∨ Odd K.K W.H) : ∀ {xs ys : List PV} {vs : List V} {c : Bool}, RepLW K W xs vs → RepLW K W ys vs → allE f xs ys = some c → c = true ∨ Odd K.K W.H
  | [], _, _, _, _, _, e => by simp [allE] at e; exact .inl e
  | _ :: _, [], _, _, _, _, e => by simp [allE] at e; exact .inl e
  | x :: xs, y :: ys, _, c, ⟨v, r, e1, h1, l1⟩, ⟨u, q, e2, h2, l2⟩, e => by
    rw [e1] at e2
    cases e2
    unfold allE at e
    cases eb : f x y with
    | none => rw [eb] at e; cases e
    | some b =>
      cases ec : allE f xs ys with
      | none => rw [eb, ec] at e; cases e
      | some c' =>
        rw [eb, ec] at e
        cases e
        rcases hf x y _ b eb h1 h2 with z | z
        · rcases allE_same hf l1 l2 ec with z' | z'
          · exact .inl (by rw [z, z']; rfl)
          · exact .inr z'
        · exact .inr z
theorem pairE_same {f : PV → PV → Option Bool} {W : Wd} (w : WOk K W) (hf : ∀ x y v b, f x y = some b → RepW K W x v → RepW K W y v → b = true ∨ Odd K.K W.H) {x y : PV} {v : V} {b : Bool} (e : pairE f W.h x y = some b) (rx : RepW K W x v) (ry : RepW K W y v) : b = true ∨ Odd K.K W.H := by
  unfold pairE at e
  split at e
  · rename_i xs ys
    obtain ⟨a, vs, ev, ha, ra⟩ := rx
    obtain ⟨a', vs', ev', ha', ra'⟩ := ry
    rw [ev] at ev'
    cases ev'
    rcases tp_inj w.le ha ha' with z | z
    · subst z
      cases ec : allE f xs ys with
      | none => rw [ec] at e; cases e
      | some c =>
        rw [ec] at e
        cases e
        rcases allE_same hf ra ra' ec with z | z
        · left
          rw [z, ← ra.len, ← ra'.len]
          simp
        · exact .inr z
    · exact .inr z
  · obtain ⟨a', vs', ev', ha', ra'⟩ := ry
    have rx : v = .non := rx
    rw [rx] at ev'; cases ev'
  · obtain ⟨a', vs', ev', ha', ra'⟩ := rx
    have ry : v = .non := ry
    rw [ry] at ev'; cases ev'
  · split at e
    · rename_i xs ys hx hy
      obtain ⟨a, vs, ev, ha, ra⟩ := listOf'_rep w hx rx
      obtain ⟨a', vs', ev', ha', ra'⟩ := listOf'_rep w hy ry
      rw [ev] at ev'
      cases ev'
      rw [ha] at ha'
      cases ha'
      rw [if_pos (by rw [← ra.len, ← ra'.len])] at e
      exact allE_same hf ra ra' e
    · cases e
theorem eqP_same {W : Wd} (w : WOk K W) : ∀ (n : Nat) (x y : PV) (v : V) (b : Bool), eqP n W.h x y = some b → RepW K W x v → RepW K W y v → b = true ∨ Odd K.K W.H
  | 0, _, _, _, _, e, _, _ => by cases e
  | n + 1, x, y, v, b, e, rx, ry => by
    unfold eqP at e
    split at e
    · rename_i u u' hu hu'
      cases e
      rw [← sv_rep hu rx, ← sv_rep hu' ry]
      exact .inl (eqV_refl (by rw [sv_rep hu rx]; exact sv_flat hu))
    · exact pairE_same w (eqP_same w n) e rx ry
theorem allE_ok {f : PV → PV → Option Bool} {W : Wd} {n : Nat} (hf : ∀ x y v u b, f x y = some b → RepW K W x v → RepW K W y u → EqR K.K W.H n v u b) : ∀ {xs ys : List PV} {vs us : List V} {c : Bool}, RepLW K W xs vs → RepLW K W ys us → allE f xs ys = some c →
    ∃ e : Nat → Bool, (∀ j v u, vs[j]? = some v → us[j]? = some u → EqR K.K W.H n v u (e j)) ∧ c = (List.range (min vs.length us.length)).all e
  | [], _, _, _, c, h1, _, e => by
    rw [show _ = [] from h1]
    simp [allE] at e
    exact ⟨fun _ => true, fun j v u hv => by simp at hv, by simp [e]⟩
  | _ :: _, [], _, _, c, _, h2, e => by
    rw [show _ = [] from h2]
    simp [allE] at e
    exact ⟨fun _ => true, fun j v u _ hu => by simp at hu, by simp [e]⟩
  | x :: xs, y :: ys, _, _, c, ⟨v, r, e1, h1, l1⟩, ⟨u, q, e2, h2, l2⟩, e => by
    subst e1 e2
    unfold allE at e
    cases eb : f x y with
    | none => rw [eb] at e; cases e
    | some b =>
      cases ec : allE f xs ys with
      | none => rw [eb, ec] at e; cases e
      | some c' =>
        rw [eb, ec] at e
        cases e
        obtain ⟨e', k1, k2⟩ := allE_ok hf l1 l2 ec
        refine ⟨fun j => match j with | 0 => b | j + 1 => e' j, fun j v' u' hv hu => ?_, ?_⟩
        · cases j with
          | zero =>
            simp at hv hu
            subst hv hu
            exact hf x y _ _ b eb h1 h2
          | succ j => exact k1 j v' u' (by simpa using hv) (by simpa using hu)
        · rw [k2, List.length_cons, List.length_cons, show min (r.length + 1) (q.length + 1) = min r.length q.length + 1 by omega, List.range_succ_eq_map, List.all_cons, List.all_map]
          rfl
theorem eqP_ok {W : Wd} (w : WOk K W) : ∀ (n : Nat) (x y : PV) (v u : V) (b : Bool), eqP n W.h x y = some b → RepW K W x v → RepW K W y u → EqR K.K W.H n v u b
  | 0, _, _, _, _, _, e, _, _ => by cases e
  | n + 1, x, y, v, u, b, e, rx, ry => by
    have e0 := e
    unfold eqP at e
    split at e
    · rename_i v' u' hv hu
      cases e
      rw [sv_rep hv rx, sv_rep hu ry]
      exact .flat (sv_flat hv) (sv_flat hu)
    · unfold pairE at e
      split at e
      · rename_i xs ys _
        obtain ⟨a, vs, ev, ha, ra⟩ := rx
        obtain ⟨a', us, eu, ha', ra'⟩ := ry
        by_cases hab : a = a'
        · subst hab
          rcases eqP_same w (n + 1) _ _ v b e0 ⟨a, vs, ev, ha, ra⟩ (by rw [ev, ← eu]; exact ⟨a, us, eu, ha', ra'⟩) with this | z
          · rw [this, ev, eu]
            exact .same
          · exact .odd z
        · cases ec : allE (eqP n W.h) xs ys with
          | none => rw [ec] at e; cases e
          | some c =>
            rw [ec] at e
            cases e
            obtain ⟨e', k1, k2⟩ := allE_ok (eqP_ok w n) ra ra' ec
            rw [ev, eu, k2, ← ra.len, ← ra'.len]
            exact .tup (seqT_up w ha) (seqT_up w ha') hab k1
      · obtain ⟨a', us, eu, ha', ra'⟩ := ry
        cases e
        rw [show v = .non from rx, eu]
        exact .nt (seqT_up w ha')
      · obtain ⟨a', us, eu, ha', ra'⟩ := rx
        cases e
        rw [show u = .non from ry, eu]
        exact .tn (seqT_up w ha')
      · split at e
        · rename_i xs ys hx hy
          obtain ⟨a, vs, ev, ha, ra⟩ := listOf'_rep w hx rx
          obtain ⟨a', us, eu, ha', ra'⟩ := listOf'_rep w hy ry
          by_cases hab : a = a'
          · subst hab
            rcases eqP_same w (n + 1) _ _ v b e0 rx (by rw [ev, ← eu]; exact ry) with this | z
            · rw [this, ev, eu]
              exact .same
            · exact .odd z
          · split at e
            · rename_i hl
              obtain ⟨e', k1, k2⟩ := allE_ok (eqP_ok w n) ra ra' e
              have hl' : vs.length = us.length := by rw [ra.len, ra'.len, hl]
              rw [ev, eu, k2, ← hl', Nat.min_self]
              exact .lst ha ha' hl' hab k1
            · rename_i hl
              cases e
              rw [ev, eu]
              exact .lstN ha ha' (by rw [ra.len, ra'.len]; exact hl)
        · cases e
def oEqD : P2 := fun x y h => match pairE (eqP 40 h) h x y with | some b => some (.bl b, h) | none => none
def oNeD : P2 := fun x y h => match pairE (eqP 40 h) h x y with | some b => some (.bl (!b), h) | none => none
theorem pairE_ok {W : Wd} (w : WOk K W) {x y : PV} {v u : V} {b : Bool} (e : pairE (eqP 40 W.h) W.h x y = some b) (rx : RepW K W x v) (ry : RepW K W y u) : RcR K.K W.H v u b := by
  unfold pairE at e
  split at e
  · rename_i xs ys
    obtain ⟨a, vs, ev, ha, ra⟩ := rx
    obtain ⟨a', us, eu, ha', ra'⟩ := ry
    cases ec : allE (eqP 40 W.h) xs ys with
    | none => rw [ec] at e; cases e
    | some c =>
      rw [ec] at e
      cases e
      obtain ⟨e', k1, k2⟩ := allE_ok (eqP_ok w 40) ra ra' ec
      rw [ev, eu, k2, ← ra.len, ← ra'.len]
      exact .tup (seqT_up w ha) (seqT_up w ha') k1
  · obtain ⟨a', us, eu, ha', ra'⟩ := ry
    cases e
    rw [show v = .non from rx, eu]
    exact .nt (seqT_up w ha')
  · obtain ⟨a', us, eu, ha', ra'⟩ := rx
    cases e
    rw [show u = .non from ry, eu]
    exact .tn (seqT_up w ha')
  · split at e
    · rename_i xs ys hx hy
      obtain ⟨a, vs, ev, ha, ra⟩ := listOf'_rep w hx rx
      obtain ⟨a', us, eu, ha', ra'⟩ := listOf'_rep w hy ry
      split at e
      · rename_i hl
        obtain ⟨e', k1, k2⟩ := allE_ok (eqP_ok w 40) ra ra' e
        have hl' : vs.length = us.length := by rw [ra.len, ra'.len, hl]
        rw [ev, eu, k2, ← hl', Nat.min_self]
        exact .lst ha ha' hl' k1
      · rename_i hl
        cases e
        rw [ev, eu]
        exact .lstN ha ha' (by rw [ra.len, ra'.len]; exact hl)
    · cases e
theorem o_eqD : OpSnd K (rEqD K.K) oEqD := by
  intro W x y v u Q z h' w rx ry e q
  unfold oEqD at e
  split at e
  · rename_i b hb
    cases e
    exact ⟨b, pairE_ok w hb rx ry, q _ W rfl (.refl w) rfl⟩
  · cases e
theorem o_neD : OpSnd K (rNeD K.K) oNeD := by
  intro W x y v u Q z h' w rx ry e q
  unfold oNeD at e
  split at e
  · rename_i b hb
    cases e
    exact ⟨b, pairE_ok w hb rx ry, q _ W rfl (.refl w) rfl⟩
  · cases e
/-! tuple + tuple, both with something in them -/
end PX
namespace PX
open PySem L2
variable {K : Ck}
/-! ### a way that is not gone -/
/-! ### o.m(e, ..), the object's class being known -/
def xMethS (k : Nat) (m : Str) (f : Fn) (e : XE) (as : XA) : XE := fun ρ h => ob (e ρ h) fun x h1 => match insOf x h1 with
  | some (k', ns, _) => if k' = k ∧ m ∉ ns then ob (as ρ h1) fun ys h2 => f (x :: ys) h2 else none
  | none => none
theorem snd_methS {k n : Nat} {m : Str} {f : Fn} {ex : XK} {ta : TE} {t : TA} {ea : XE} {as : XA} (a : SndE K ta ea) (b : SndA K t as) (hn : ∀ ρ h xs h', as ρ h = some (xs, h') → xs.length = n) :
    SndE K (tMeth (K.A k) m (spE K (n + 1) f) [] ex ta t) (xMethS k m f ea as) := by
  intro W0 W ρ σ Q z h' g e q
  obtain ⟨x, h1, e1, f1⟩ := ob_some e
  refine a W0 W ρ σ _ x h1 g e1 fun v W1 w1 l1 r1 => ?_
  subst w1
  split at f1
  · rename_i k' ns xs hi
    split at f1
    · rename_i hc
      obtain ⟨ys, h2, e2, f2⟩ := ob_some f1
      obtain ⟨p, dx, vs, ev, hp, hl, rs⟩ := insOf_rep l1.ok hi r1
      rw [hc.1] at hp
      refine ⟨p, dx, _, ev, hp, lookup_zip_none hc.2, ?_⟩
      refine b W0 W1 ρ σ _ ys h2 (g.step l1) e2 fun us W2 w2 l2 r2 => ?_
      subst w2
      rw [List.append_nil]
      exact ⟨W2, x :: ys, z, h', rfl, l2.ok, ⟨v, us, rfl, l2.rep r1, r2⟩, by rw [List.length_cons, hn _ _ _ _ e2], f2, fun u W3 w3 l3 r3 => q u W3 w3 ((l1.trans l2).trans l3) r3⟩
    · cases f1
  · cases f1
/-! ### e.f = v of a changeable object -/
end PX
namespace PX
open PySem L2
variable {K : Ck}
/-! ### sorted(d.items()), d's keys being numbers -/
def viewO (r d : Addr) : HO := .ext fun h => h.get? r = some { cls := .type "dict_items", data := .fields #[.ref d] }
def rItems : V → List V → Hp → VK → Prop := fun x vs H Q => ∃ d kvs, x = .ref d ∧ vs = [] ∧ H d = some (.dK kvs) ∧ ∀ r, H r = none → Q (.ref r) (upd H r (viewO r d))
def layT (H : Hp) (as : List Addr) (ts : List (List V)) : Hp := fun b => match (as.zip ts).lookup b with | some t => some (.tup t) | none => H b
/-- a new list p of new tuples as -/
def updT (H : Hp) (p : Addr) (as : List Addr) (ts : List (List V)) : Hp := upd (layT H as ts) p (.lst (as.map V.ref))
def rSI : List V → Hp → VK → Prop := fun xs H Q => ∃ (r d : Addr) (kvs : List (Key × V)) (ns : List Int), xs = [.ref r] ∧ H r = some (viewO r d) ∧ H d = some (.dK kvs) ∧ kvs.map (·.1) = ns.map .inl ∧ kvs.length < 64 ∧
  ∀ (p : Addr) (as : List Addr) (q : List Nat), q.Perm (List.range ns.length) → q.Pairwise (fun i j => ns.getD i 0 ≤ ns.getD j 0) → ns.Nodup → as.length = q.length → (∀ a ∈ p :: as, H a = none) → (p :: as).Nodup →
    Q (.ref p) (updT H p as (q.map fun i => [V.int (ns.getD i 0), (kvs.map (·.2)).getD i .non]))
def insP (p : Int × PV) : List (Int × PV) → List (Int × PV)
  | [] => [p]
  | q :: r => if p.1 ≤ q.1 then p :: q :: r else q :: insP p r
def sortP : List (Int × PV) → List (Int × PV)
  | [] => []
  | p :: r => insP p (sortP r)
def intsK : List Key → Option (List Int)
  | [] => some []
  | .inl i :: r => (intsK r).map (i :: ·)
  | .inr _ :: _ => none
theorem intsK_eq : ∀ {ks : List Key} {ns : List Int}, intsK ks = some ns → ks = ns.map .inl
  | [], ns, h => by cases h; rfl
  | .inl i :: r, ns, h => by
    obtain ⟨m, e, rfl⟩ := Option.map_eq_some_iff.mp h
    rw [List.map_cons, ← intsK_eq e]
  | .inr _ :: _, _, h => by cases h
theorem insP_perm (p : Int × PV) : ∀ l, (insP p l).Perm (p :: l)
  | [] => .refl _
  | q :: r => by
    unfold insP
    split
    · exact .refl _
    · exact ((insP_perm p r).cons q).trans (.swap _ _ _)
theorem sortP_perm : ∀ l, (sortP l).Perm l
  | [] => .refl _
  | p :: r => (insP_perm p _).trans ((sortP_perm r).cons p)
theorem insP_le {p : Int × PV} : ∀ {l : List (Int × PV)}, l.Pairwise (fun a b => a.1 ≤ b.1) → (insP p l).Pairwise (fun a b => a.1 ≤ b.1)
  | [], _ => List.pairwise_singleton _ _
  | q :: r, h => by
    obtain ⟨h1, h2⟩ := List.pairwise_cons.mp h
    unfold insP
    split
    · rename_i hc
      exact List.pairwise_cons.mpr ⟨fun b hb => by
        rcases List.mem_cons.mp hb with rfl | hb
        · exact hc
        · exact Int.le_trans hc (h1 b hb), h⟩
    · rename_i hc
      refine List.pairwise_cons.mpr ⟨fun b hb => ?_, insP_le h2⟩
      rcases List.mem_cons.mp ((insP_perm p r).mem_iff.mp hb) with rfl | hb
      · omega
      · exact h1 b hb
theorem sortP_le : ∀ l, (sortP l).Pairwise (fun a b => a.1 ≤ b.1)
  | [] => .nil
  | _ :: r => insP_le (sortP_le r)
/-- sorted in any way, it's the same list -/
theorem sortP_is {ns : List Int} {xs : List PV} {q : List Nat} (hl : xs.length = ns.length) (hp : q.Perm (List.range ns.length)) (hs : q.Pairwise fun i j => ns.getD i 0 ≤ ns.getD j 0) (nd : ns.Nodup) :
    (q.map fun i => (ns.getD i 0, xs.getD i .non)) = sortP (ns.zip xs) := by
  have hz : ((List.range ns.length).map fun i => (ns.getD i 0, xs.getD i .non)) = ns.zip xs := by
    apply List.ext_getElem
    · simp [hl]
    · intro i h1 h2
      have h3 : i < ns.length := by simpa using h1
      simp [List.getD, List.getElem?_eq_getElem h3, List.getElem?_eq_getElem (show i < xs.length by omega)]
  have hm : (q.map fun i => (ns.getD i 0, xs.getD i .non)).Perm (ns.zip xs) := by rw [← hz]; exact hp.map _
  have hk : (ns.zip xs).map (·.1) = ns := List.map_fst_zip (by omega)
  refine List.Perm.eq_of_pairwise (le := fun a b => a.1 ≤ b.1) (fun a b ha hb h1 h2 => ?_) (List.pairwise_map.mpr hs) (sortP_le _) (hm.trans (sortP_perm _).symm)
  have ha := hm.mem_iff.mp ha
  have hb := (sortP_perm _).mem_iff.mp hb
  obtain ⟨i, hi, rfl⟩ := List.getElem_of_mem ha
  obtain ⟨j, hj, rfl⟩ := List.getElem_of_mem hb
  have hi' : i < ns.length := by rw [List.length_zip] at hi; omega
  have hj' : j < ns.length := by rw [List.length_zip] at hj; omega
  have e : ns[i] = ns[j] := by
    have : ((ns.zip xs)[i]).1 = ((ns.zip xs)[j]).1 := Int.le_antisymm h1 h2
    simpa using this
  have := nd_inj nd hi' hj' e
  subst this
  rfl
def wtup (W : Wd) (as : List Addr) (ts : List (List V)) : Wd := ⟨layT W.F as ts, layT W.H as ts, W.m, W.h⟩
theorem lookup_mem {α : Type} : ∀ {as : List Addr} {ts : List α} {b : Addr} {t : α}, (as.zip ts).lookup b = some t → b ∈ as
  | [], _, _, _, h => by simp at h
  | _ :: _, [], _, _, h => by simp at h
  | a :: as, u :: ts, b, t, h => by
    rw [List.zip_cons_cons, List.lookup_cons] at h
    split at h
    · rename_i hb; rw [eq_of_beq hb]; exact List.mem_cons_self
    · exact List.mem_cons_of_mem _ (lookup_mem h)
theorem layT_ne {H : Hp} {as : List Addr} {ts : List (List V)} {b : Addr} (h : b ∉ as) : layT H as ts b = H b := by
  unfold layT
  split
  · rename_i e; exact absurd (lookup_mem e) h
  · rfl
theorem wtup_le {W : Wd} {as : List Addr} {ts : List (List V)} (w : WOk K W) (h : ∀ a ∈ as, W.H a = none) : Le K W (wtup W as ts) := by
  have nm : ∀ a ∈ as, a ∉ W.m := fun a ha => w.out (h a ha)
  have sF : Same W.F (layT W.F as ts) := fun b o e => by
    rw [layT_ne fun z => by rw [w.ff (h b z)] at e; cases e]; exact e
  have sH : Same W.H (layT W.H as ts) := fun b o e => by
    rw [layT_ne fun z => by rw [h b z] at e; cases e]; exact e
  refine ⟨⟨?_, w.len, w.nd, fun n d a e1 e2 => ?_⟩, sF, List.prefix_refl _, fun b u e _ => sH b u e, fun b u e _ f => ?_, fun b z n => absurd z n, fun n ks xs e1 => ⟨e1, fun a e2 => layT_ne fun z => nm a z (List.mem_of_getElem? e2)⟩⟩
  · intro b u e
    have e : layT W.F as ts b = some u := e
    show layT W.H as ts b = some u
    unfold layT at e ⊢
    split at e
    · exact e
    · exact w.le _ _ e
  · have ha : a ∉ as := fun z => nm a z (List.mem_of_getElem? e2)
    exact (w.at_ n d a e1 e2).mono sF (List.prefix_refl _) (fun u e => sH _ _ e) fun f => (layT_ne ha).trans f
  · exact (layT_ne fun z => by rw [h b z] at e; cases e).trans f
theorem layT_repL {F : Hp} {m : List Addr} {Y : Nat → PV} {T : Nat → List V} {Z : Nat → List PV} (hY : ∀ i, Y i = .tup (Z i)) : ∀ (as : List Addr) (q : List Nat), as.length = q.length → as.Nodup → (∀ a ∈ as, ∀ i, i ∈ q → (as.zip (q.map T)).lookup a = some (T i) → F a = some (.tup (T i))) →
    (∀ i ∈ q, RepL K F m (Z i) (T i)) → RepL K F m (q.map Y) (as.map V.ref)
  | [], [], _, _, _, _ => rfl
  | [], _ :: _, h, _, _, _ => by cases h
  | _ :: _, [], h, _, _, _ => by cases h
  | a :: as, i :: q, hl, hn, hF, hR => by
    obtain ⟨n1, n2⟩ := List.nodup_cons.mp hn
    refine ⟨.ref a, _, rfl, ?_, layT_repL hY as q (by simpa using hl) n2 (fun b hb j hj e => ?_) fun j hj => hR j (List.mem_cons_of_mem _ hj)⟩
    · rw [hY]
      exact ⟨a, T i, rfl, .inl (hF a List.mem_cons_self i List.mem_cons_self (by simp)), hR i List.mem_cons_self⟩
    · refine hF b (List.mem_cons_of_mem _ hb) j (List.mem_cons_of_mem _ hj) ?_
      rw [List.map_cons, List.zip_cons_cons, List.lookup_cons]
      have : (b == a) = false := beq_eq_false_iff_ne.mpr fun z => n1 (z ▸ hb)
      rw [this]
      exact e
def sortI (ks : List Key) (xs : List PV) : Option (List PV) := match intsK ks with | some ns => if ns.length < 64 then some ((sortP (ns.zip xs)).map fun p => .tup [.int p.1, p.2]) else none | none => none
def xSortI (e : XE) : XO := fun ρ h => ob (e ρ h) fun x h1 => match dctOf x h1 with | some (ks, xs) => (match sortI ks xs with | some l => some (.lst l, h1) | none => none) | none => none
theorem dct_ty {W : Wd} {x : PV} {v : V} {ks : List Key} {xs : List PV} (w : WOk K W) (e : dctOf x W.h = some (ks, xs)) (r : RepW K W x v) : tyV K.K "dict" v W.H := by
  obtain ⟨a, vs, rfl, hp, _⟩ := dctOf_rep w e r
  exact .inr (.inr (.inl ⟨rfl, .inl ⟨_, hp⟩⟩))
theorem snd_sortI {ta : TE} {ea : XE} (a : SndE K ta ea) : SndO K (tCB rSI (tCons (tBM0 K.K "dict" rItems ta) tNil)) (xSortI ea) := by
  intro W0 W ρ σ Q z h' g e q
  obtain ⟨x, h1, e1, f1⟩ := ob_some e
  refine a W0 W ρ σ _ x h1 g e1 fun v W1 w1 l1 r1 => ?_
  subst w1
  split at f1
  · rename_i ks xs hd
    split at f1
    · rename_i l hl
      cases f1
      refine ⟨dct_ty l1.ok hd r1, ?_⟩
      obtain ⟨d, vs, ev, hp, hvl, rs⟩ := dctOf_rep l1.ok hd r1
      subst ev
      refine ⟨d, _, rfl, rfl, hp, fun r hr => ?_⟩
      unfold sortI at hl
      split at hl
      · rename_i ns hk
        split at hl
        · rename_i h64
          cases hl
          have hk := intsK_eq hk
          have l2 := wlay_le (o := viewO r d) l1.ok hr
          have hnl : ks.length = ns.length := by rw [hk, List.length_map]
          have hxl : xs.length = ns.length := by rw [← rs.len]; omega
          show rSI [.ref r] (upd W1.H r (viewO r d)) Q
          refine ⟨r, d, ks.zip vs, ns, rfl, upd_same, (upd_ne (ne_of_none hp hr)).trans hp, by rw [List.map_fst_zip (by omega), hk], by rw [List.length_zip]; omega, fun p as o hperm hs nd hal hfree hnd => ?_⟩
          rw [List.map_snd_zip (by omega)]
          generalize hW2 : wlay W1 r (viewO r d) = W2 at l2
          have hH2 : W2.H = upd W1.H r (viewO r d) := by rw [← hW2]; rfl
          rw [← hH2] at hfree ⊢
          have l3 := wtup_le (ts := o.map fun i => [V.int (ns.getD i 0), vs.getD i .non]) l2.ok fun a ha => hfree a (List.mem_cons_of_mem _ ha)
          obtain ⟨n1, n2⟩ := List.nodup_cons.mp hnd
          have hp3 : (wtup W2 as (o.map fun i => [V.int (ns.getD i 0), vs.getD i .non])).H p = none := (layT_ne n1).trans (hfree p List.mem_cons_self)
          have l4 := wlay_le (o := .lst (as.map V.ref)) l3.ok hp3
          have l := l2.trans (l3.trans l4)
          have inq : ∀ i ∈ o, i < ns.length := fun i hi => by have := hperm.mem_iff.mp hi; simpa using this
          refine q p _ (by rw [← hW2]; rfl) (l1.trans l) (l3.ok.out hp3) ((l1.trans l2).fresh (hfree p List.mem_cons_self)) (fun z => by cases z) ⟨l3.ok.ff hp3, _, upd_same, ?_⟩
          rw [← sortP_is hxl hperm hs nd, List.map_map]
          refine layT_repL (T := fun i => [V.int (ns.getD i 0), vs.getD i .non]) (Z := fun i => [.int (ns.getD i 0), xs.getD i .non]) (fun i => rfl) as o hal n2 (fun a ha i hi e => ?_) fun i hi => ⟨_, _, rfl, rfl, _, _, rfl, ?_, rfl⟩
          · show layT W2.F as _ a = _
            unfold layT
            rw [e]
          · have hi' := inq i hi
            obtain ⟨u, h3, h4⟩ := (l2.trans (l3.trans l4)).repL rs |>.get (List.getElem?_eq_getElem (show i < xs.length by omega))
            have e5 : xs.getD i .non = xs[i]'(by omega) := by simp [List.getD, List.getElem?_eq_getElem (show i < xs.length by omega)]
            have e6 : vs.getD i .non = u := by simp [List.getD, h3]
            rw [e5, e6]
            exact h4
        · cases hl
      · cases hl
    · cases f1
  · cases f1
end PX
namespace PX
open PySem L2
variable {K : Ck}
/-! ### for x in xs, for x in reversed(xs), xs being changeable (its items are read at each turn) -/
def ItR (K : PySem.W.Frag) (a : Addr) (m : Nat) : It :=
  ⟨fun i H => i < m ∧ ∃ xs x, SqL K H a xs ∧ xs[m - 1 - i]? = some x, fun i H x H' => H' = H ∧ ∀ xs, SqL K H a xs → xs[m - 1 - i]? = some x, fun i _ => i = m⟩
def iRev (K : PySem.W.Frag) (tl : TE) : TI := fun σ H R => tl σ H fun x H1 => ∃ a xs, x = .ref a ∧ SqL K H1 a xs ∧ R (ItR K a xs.length) H1
def forX (n : Nat) (rev : Bool) (g : XG) (s : XS) : Nat → Nat → PSt → AH → Option (Out × AH)
  | 0, i, ρ, h => match h[n]? with | some (.lst xs) => if xs.length = i then some (.nx ρ, h) else none | _ => none
  | k + 1, i, ρ, h => match h[n]? with
    | some (.lst xs) => (match xs[if rev then k else i]? with
      | some x => (g x ρ).bind fun ρ1 => ob (s ρ1 h) fun o h1 => match o with | .nx ρ' => forX n rev g s k (i + 1) ρ' h1 | .ct ρ' => forX n rev g s k (i + 1) ρ' h1 | .bk ρ' => some (.nx ρ', h1) | .rt y => some (.rt y, h1)
      | none => none)
    | _ => none
def xForX (rev : Bool) (e : XE) (g : XG) (s : XS) : XS := fun ρ h => ob (e ρ h) fun x h1 => match x with
  | .loc n => (match h1[n]? with | some (.lst xs) => forX n rev g s xs.length 0 ρ h1 | _ => none)
  | _ => none
/-- what is asked of an iterator over the changeable list n of m items -/
structure ItX (K : Ck) (n : Nat) (rev : Bool) (m : Nat) (a : Addr) (J : It) : Prop where
  go : ∀ (i : Nat) (H : Hp) (vs : List V) (v : V), H a = some (.lst vs) → i < m → vs[if rev then m - 1 - i else i]? = some v → J.go i H
  yld : ∀ (i : Nat) (H : Hp) (vs : List V) (v : V) (H2 : Hp), H a = some (.lst vs) → i < m → J.yld i H v H2 → H2 = H ∧ vs[if rev then m - 1 - i else i]? = some v
  stop : ∀ (H : Hp) (vs : List V), H a = some (.lst vs) → vs.length = m → J.stop m H
section
variable {ta : TE} {ea : XE} {t : TS} {s : XS}
theorem forX_core {n : Nat} {xs : List PV} {p : Addr} {us : List V} {J : It} {rev : Bool} {g : TG} {y : XG} (b : SndG K g y) (c : SndS K t s) {W0 W W1 : Wd} {ρ : PSt} {σ : St} {D : Ends} {o : Out} {h' : AH} (gd : Good K W0 W ρ σ) (l1 : Le K W W1) (q : Ends.Ok K W0 W D h' o)
    (f1 : forX n rev y s xs.length 0 ρ W1.h = some (o, h')) (hn : W1.h[n]? = some (.lst xs)) (hm : W1.m[n]? = some p) (rs : RepLW K W1 xs us) (J1 : ItX K n rev us.length p J) :
    ∃ Z : Nat → Nat → St → Hp → Prop, (∃ m, Z 0 m σ W1.H) ∧ ∀ i m σ H, Z i m σ H →
      (J.stop i H ∧ D.nx σ H) ∨ (J.go i H ∧ ∃ N : St → Hp → Prop, (∀ σ' H', N σ' H' → ∃ m', m' < m ∧ Z (i + 1) m' σ' H') ∧ ∀ x H', J.yld i H x H' → g x σ H' fun σ2 H2 => t { D with nx := N, ct := N, bk := D.nx } σ2 H2) := by
      have q1 := q.from_ l1.lf
      have hul : us.length = xs.length := rs.len
      rw [hul] at J1
      refine ⟨fun i m σ H => m = xs.length - i ∧ i ≤ xs.length ∧ ∃ W' ρ', W'.H = H ∧ Lf K W1 W' ∧ Good K W0 W' ρ' σ ∧ forX n rev y s (xs.length - i) i ρ' W'.h = some (o, h'), ⟨_, rfl, Nat.zero_le _, W1, ρ, rfl, .refl, gd.step l1, f1⟩, ?_⟩
      rintro i m σ _ ⟨rfl, hi, W', ρ', rfl, l, g', f⟩
      have hm' : W'.m[n]? = some p := pre_get l.pre hm
      by_cases hlt : i < xs.length
      · obtain ⟨k, hk⟩ : ∃ k, xs.length - i = k + 1 := ⟨xs.length - i - 1, by omega⟩
        rw [hk] at f
        unfold forX at f
        split at f
        · rename_i ys hy
          split at f
          · rename_i z hz
            obtain ⟨p', ev', hm2, hf', vs, hp', rs'⟩ := g'.ok.loc hy (v := .ref p) ⟨p, rfl, hm'⟩
            cases ev'
            have hix : (if rev = true then xs.length - 1 - i else i) = (if rev = true then k else i) := by rw [show xs.length - 1 - i = k by omega]
            obtain ⟨vz, hv1, hv2⟩ := rs'.get hz
            obtain ⟨ρ1, k1, f⟩ := Option.bind_eq_some_iff.mp f
            obtain ⟨o1, h2, k2, f3⟩ := ob_some f
            refine .inr ⟨J1.go i W'.H vs vz hp' hlt (by rw [hix]; exact hv1), fun σ2 H2 => i + 1 ≤ xs.length ∧ ∃ W2 ρ2, W2.H = H2 ∧ Lf K W1 W2 ∧ Good K W0 W2 ρ2 σ2 ∧ forX n rev y s (xs.length - (i + 1)) (i + 1) ρ2 W2.h = some (o, h'), fun σ2 H2 ⟨n1, n2⟩ => ⟨xs.length - (i + 1), by omega, rfl, n1, n2⟩, fun v H2 hy => ?_⟩
            obtain ⟨rfl, hx⟩ := J1.yld i W'.H vs v H2 hp' hlt hy
            rw [hix, hv1] at hx
            cases hx
            have ek : xs.length - (i + 1) = k := by omega
            refine b W0 W' ρ' ρ1 σ _ vz _ g' hv2 k1 fun σ2 g2 => ?_
            refine c W0 W' ρ1 σ2 _ o1 h2 g2 k2 ?_
            cases o1 with
            | nx ρ2 => exact fun W2 σ3 w2 l2 g3 => ⟨hlt, W2, ρ2, rfl, l.trans l2, g3, by rw [w2, ek]; exact f3⟩
            | ct ρ2 => exact fun W2 σ3 w2 l2 g3 => ⟨hlt, W2, ρ2, rfl, l.trans l2, g3, by rw [w2, ek]; exact f3⟩
            | bk ρ2 => cases f3; exact fun W2 σ3 w2 l2 g3 => q1 W2 σ3 w2 (l.trans l2) g3
            | rt x => cases f3; exact q1
          · cases f
        · cases f
      · have ei : i = xs.length := by omega
        subst ei
        rw [Nat.sub_self] at f
        unfold forX at f
        split at f
        · rename_i ys hy
          obtain ⟨p', ev', hm2, hf', vs, hp', rs'⟩ := g'.ok.loc hy (v := .ref p) ⟨p, rfl, hm'⟩
          cases ev'
          split at f
          · rename_i hyl
            cases f
            exact .inl ⟨J1.stop W'.H vs hp' (by rw [rs'.len, hyl]), q1 W' σ rfl l g'⟩
          · cases f
        · cases f
theorem itx_l {n m : Nat} {a : Addr} : ItX K n false m a (Itl K.K a) where
  go := fun i H vs v h _ e => ⟨vs, v, SqL.of h, e⟩
  yld := fun i H vs v H2 h _ e => ⟨e.1, e.2 vs (SqL.of h)⟩
  stop := fun H vs h e => ⟨vs, SqL.of h, Nat.le_of_eq e⟩
theorem itx_r {n m : Nat} {a : Addr} : ItX K n true m a (ItR K.K a m) where
  go := fun i H vs v h hi e => ⟨hi, vs, v, SqL.of h, e⟩
  yld := fun i H vs v H2 h _ e => ⟨e.1, e.2 vs (SqL.of h)⟩
  stop := fun H vs h e => rfl
theorem snd_forF {g : TG} {y : XG} (a : SndE K ta ea) (b : SndG K g y) (c : SndS K t s) : SndS K (tFor (iList K.K ta) g t) (xForX false ea y s) := by
  intro W0 W ρ σ D o h' gd e q
  obtain ⟨x, h1, e1, f1⟩ := ob_some e
  refine a W0 W ρ σ _ x h1 gd e1 fun v W1 w1 l1 r1 => ?_
  subst w1
  split at f1
  · rename_i n
    split at f1
    · rename_i xs hn
      obtain ⟨p, ev, hm, hf, us, hp, rs⟩ := l1.ok.loc hn r1
      exact ⟨p, ev, ⟨us, SqL.of hp⟩, forX_core b c gd l1 q f1 hn hm rs itx_l⟩
    · cases f1
  · cases f1
theorem snd_forR {g : TG} {y : XG} (a : SndE K ta ea) (b : SndG K g y) (c : SndS K t s) : SndS K (tFor (iRev K.K ta) g t) (xForX true ea y s) := by
  intro W0 W ρ σ D o h' gd e q
  obtain ⟨x, h1, e1, f1⟩ := ob_some e
  refine a W0 W ρ σ _ x h1 gd e1 fun v W1 w1 l1 r1 => ?_
  subst w1
  split at f1
  · rename_i n
    split at f1
    · rename_i xs hn
      obtain ⟨p, ev, hm, hf, us, hp, rs⟩ := l1.ok.loc hn r1
      exact ⟨p, us, ev, SqL.of hp, forX_core b c gd l1 q f1 hn hm rs itx_r⟩
    · cases f1
  · cases f1
end
end PX
namespace PX
open PySem L2
variable {K : Ck}
/-! ### d.update(e), both changeable -/
def mrgV (kvs more : List (Key × V)) : List (Key × V) := more.foldl (fun acc kv => putK acc kv.1 kv.2) kvs
def rUpd : V → List V → Hp → VK → Prop := fun x vs H Q => ∃ d o kvs more, x = .ref d ∧ vs = [.ref o] ∧ d ≠ o ∧ H d = some (.dK kvs) ∧ H o = some (.dK more) ∧ kvs.length + more.length ≤ sizeLine ∧ Q .non (upd H d (.dK (mrgV kvs more)))
def mrgP : List Key → List PV → List Key → List PV → List Key × List PV
  | j :: js, y :: ys, ks, xs => mrgP js ys (putKP ks xs j y).1 (putKP ks xs j y).2
  | _, _, ks, xs => (ks, xs)
def isDct : PV → AH → Bool := fun x h => (dctOf x h).isSome
theorem isDct_ty {W : Wd} {x : PV} {v : V} (w : WOk K W) (r : RepW K W x v) (c : isDct x W.h = true) : tyV K.K "dict" v W.H := by
  obtain ⟨⟨ks, xs⟩, hd⟩ := Option.isSome_iff_exists.mp c
  exact dct_ty w hd r
theorem mrg_rep {F : Hp} {m : List Addr} : ∀ {js : List Key} {ys : List PV} {us : List V} {ks : List Key} {xs : List PV} {vs : List V}, RepL K F m ys us → us.length = js.length → RepL K F m xs vs → vs.length = ks.length →
    ∃ ws, mrgV (ks.zip vs) (js.zip us) = (mrgP js ys ks xs).1.zip ws ∧ ws.length = (mrgP js ys ks xs).1.length ∧ RepL K F m (mrgP js ys ks xs).2 ws
  | [], ys, us, ks, xs, vs, r, hl, r2, hl2 => by
    obtain rfl : us = [] := List.length_eq_zero_iff.mp (by simpa using hl)
    cases ys with
    | cons y ys => obtain ⟨v, r', e, _⟩ := r; cases e
    | nil => exact ⟨vs, rfl, hl2, r2⟩
  | j :: js, [], us, ks, xs, vs, r, hl, r2, hl2 => by
    obtain rfl : us = [] := r
    cases hl
  | j :: js, y :: ys, _, ks, xs, vs, ⟨u, us, e, ru, rr⟩, hl, r2, hl2 => by
    subst e
    have key : ∃ ws, putK (ks.zip vs) j u = (putKP ks xs j y).1.zip ws ∧ ws.length = (putKP ks xs j y).1.length ∧ RepL K F m (putKP ks xs j y).2 ws := by
      have hput := putK_zip j u ks vs hl2
      unfold putKP
      by_cases hj : hasK ks j = true
      · rw [if_pos hj] at hput ⊢
        exact ⟨_, hput, by rw [setK_len]; exact hl2, r2.setK ks j ru⟩
      · rw [if_neg hj] at hput ⊢
        exact ⟨_, hput, by rw [List.length_append, List.length_append, hl2]; rfl, r2.snoc ru⟩
    obtain ⟨ws, p1, p2, p3⟩ := key
    have ih := mrg_rep (js := js) rr (by simpa using hl) p3 p2
    show ∃ ws, mrgV (putK (ks.zip vs) j u) (js.zip us) = _ ∧ _
    rw [p1]
    exact ih
def mUpd : PM := fun x ys h => match x, ys with | .loc n, [.loc k] => (match h[n]?, h[k]? with | some (.dct ks xs), some (.dct js zs) => if n ≠ k ∧ ks.length + js.length < 1000 then some (.non, h.set n (.dct (mrgP js zs ks xs).1 (mrgP js zs ks xs).2)) else none | _, _ => none) | _, _ => none
theorem m_upd : BmSnd K "dict" isDct rUpd mUpd := by
  refine ⟨fun W x v w r c => isDct_ty w r c, fun W x v xs vs Q z h' w rx r e q => ?_⟩
  unfold mUpd at e
  split at e
  · rename_i n k
    split at e
    · rename_i ks xs js zs hn hk
      split at e
      · rename_i hc
        cases e
        obtain ⟨u, rfl, ru⟩ := rep1 r
        obtain ⟨a, ev, hm, hf, us, hp, hl, rs⟩ := w.loc hn rx
        obtain ⟨b, ev2, hm2, hf2, us2, hp2, hl2, rs2⟩ := w.loc hk ru
        have hne : a ≠ b := fun z => by
          subst z
          obtain ⟨l1, q1⟩ := List.getElem?_eq_some_iff.mp hm
          obtain ⟨l2, q2⟩ := List.getElem?_eq_some_iff.mp hm2
          exact hc.1 (nd_inj w.nd l1 l2 (q1.trans q2.symm))
        obtain ⟨ws, p1, p2, p3⟩ := mrg_rep rs2 hl2 rs hl
        refine ⟨a, b, _, _, ev, by rw [ev2], hne, hp, hp2, by rw [List.length_zip, List.length_zip]; exact small (by omega), ?_⟩
        rw [p1]
        exact q .non (wset W n a (.dK ((mrgP js zs ks xs).1.zip ws)) (.dct (mrgP js zs ks xs).1 (mrgP js zs ks xs).2)) rfl (wset_le w hn hm hf ⟨hf, _, upd_same, p2, p3⟩) rfl
      · cases e
    · cases e
  · cases e
end PX
namespace PX
open PySem L2
variable {K : Ck}
/-! ### [e for x in it if c] -/
end PX
namespace PX
open PySem L2
variable {K : Ck}
/-! ### sorted(d), d's keys being numbers -/
def rSK : List V → Hp → VK → Prop := fun xs H Q => ∃ (d : Addr) (kvs : List (Key × V)) (ns : List Int), xs = [.ref d] ∧ H d = some (.dK kvs) ∧ kvs.map (·.1) = ns.map .inl ∧ kvs.length < 64 ∧
  ∀ (p : Addr) (ms : List Int), ms.Perm ns → ms.Pairwise (· ≤ ·) → H p = none → Q (.ref p) (upd H p (.lst (ms.map V.int)))
def insI (a : Int) : List Int → List Int
  | [] => [a]
  | b :: r => if a ≤ b then a :: b :: r else b :: insI a r
def sortN : List Int → List Int
  | [] => []
  | a :: r => insI a (sortN r)
theorem insI_perm (p : Int) : ∀ l, (insI p l).Perm (p :: l)
  | [] => .refl _
  | q :: r => by
    unfold insI
    split
    · exact .refl _
    · exact ((insI_perm p r).cons q).trans (.swap _ _ _)
theorem sortN_perm : ∀ l, (sortN l).Perm l
  | [] => .refl _
  | p :: r => (insI_perm p _).trans ((sortN_perm r).cons p)
theorem insI_le {p : Int} : ∀ {l : List Int}, l.Pairwise (· ≤ ·) → (insI p l).Pairwise (· ≤ ·)
  | [], _ => List.pairwise_singleton _ _
  | q :: r, h => by
    obtain ⟨h1, h2⟩ := List.pairwise_cons.mp h
    unfold insI
    split
    · rename_i hc
      exact List.pairwise_cons.mpr ⟨fun b hb => by
        rcases List.mem_cons.mp hb with rfl | hb
        · exact hc
        · exact Int.le_trans hc (h1 b hb), h⟩
    · rename_i hc
      refine List.pairwise_cons.mpr ⟨fun b hb => ?_, insI_le h2⟩
      rcases List.mem_cons.mp ((insI_perm p r).mem_iff.mp hb) with rfl | hb
      · omega
      · exact h1 b hb
theorem sortN_le : ∀ l, (sortN l).Pairwise (· ≤ ·)
  | [] => .nil
  | _ :: r => insI_le (sortN_le r)
theorem sortN_is {ms ns : List Int} (hp : ms.Perm ns) (hs : ms.Pairwise (· ≤ ·)) : ms = sortN ns :=
  List.Perm.eq_of_pairwise (le := (· ≤ ·)) (fun a b _ _ h1 h2 => Int.le_antisymm h1 h2) hs (sortN_le _) (hp.trans (sortN_perm _).symm)
def bSortK : List PV → AH → Option (Nd × AH) := fun xs h => match xs with
  | [x] => (match dctOf x h with | some (ks, _) => (match intsK ks with | some ns => if ns.length < 64 then some (.lst ((sortN ns).map .int), h) else none | none => none) | none => none)
  | _ => none
theorem b_sortK : CbSndO K rSK bSortK := by
  intro W xs vs Q d h' w r e q
  unfold bSortK at e
  split at e
  · rename_i x
    obtain ⟨u, rfl, ru⟩ := rep1 r
    split at e
    · rename_i ks ys hd
      split at e
      · rename_i ns hk
        split at e
        · rename_i h64
          cases e
          obtain ⟨a, us, ev, hp, hl, rs⟩ := dctOf_rep w hd ru
          subst ev
          have hk := intsK_eq hk
          refine ⟨a, ks.zip us, ns, rfl, hp, by rw [List.map_fst_zip (by omega), hk], by rw [List.length_zip, hk, List.length_map]; omega, fun p ms h1 h2 hn => ?_⟩
          rw [sortN_is h1 h2]
          have l := wlay_le (o := .lst ((sortN ns).map V.int)) w hn
          exact q p (wlay W p _) rfl l (w.out hn) hn (fun z => by cases z) ⟨w.ff hn, _, upd_same, RepL.of_ints _⟩
        · cases e
      · cases e
    · cases e
  · cases e
end PX
namespace PX
open PySem L2
variable {K : Ck}
/-! ### for k in d, d a dict in the heap: while the loop goes, it stands still -/
def keyPV : Key → PV | .inl i => .int i | .inr s => .str s
theorem keyPV_rep {W : Wd} (k : Key) : RepW K W (keyPV k) (kV k) := by cases k <;> exact rfl
def ItD (a : Addr) (ob : Obj) (kvs : List (Key × V)) : It :=
  ⟨fun i H => i < kvs.length ∧ H a = some (.frz ob (.dK kvs)), fun i H x H' => H' = H ∧ ∃ kv, kvs[i]? = some kv ∧ x = kV kv.1, fun i H => i = kvs.length ∧ H a = some (.frz ob (.dK kvs))⟩
def iDict (NF : Addr → Prop) (te : TE) : TI := fun σ H R => te σ H fun x H1 => ∃ a kvs, x = .ref a ∧ H1 a = some (.dK kvs) ∧ ∀ ob, NF a → R (ItD a ob kvs) (upd H1 a (.frz ob (.dK kvs)))
def endsD (NF : Addr → Prop) (D : Ends) : Ends := ⟨fun σ H => ∃ a ob kvs, NF a ∧ H a = some (.frz ob (.dK kvs)) ∧ D.nx σ (upd H a (.dK kvs)), D.rt, D.bk, D.ct⟩
def tForD (NF : Addr → Prop) (te : TE) (g : TG) (t : TS) : TS := fun D => tFor (iDict NF te) g t (endsD NF D)
theorem wset_ok {W : Wd} (w : WOk K W) {n : Nat} {d d' : Nd} {a : Addr} {o : HO} (e : W.h[n]? = some d) (hm : W.m[n]? = some a) (hF : W.F a = none) (at' : NdAt K W.F (upd W.H a o) W.m d' a) : WOk K (wset W n a o d') := by
  have hn : n < W.h.length := (List.getElem?_eq_some_iff.mp e).1
  refine ⟨fun b u q => ?_, by show W.m.length = (W.h.set n d').length; rw [List.length_set]; exact w.len, w.nd, fun j dj b e1 e2 => ?_⟩
  · have : b ≠ a := ne_of_none q hF
    exact (upd_ne this).trans (w.le _ _ q)
  · have e1 : (W.h.set n d')[j]? = some dj := e1
    by_cases hj : n = j
    · subst hj
      rw [List.getElem?_set_self hn] at e1
      cases e1
      have e2 : W.m[n]? = some b := e2
      rw [hm] at e2
      cases e2
      exact at'
    · rw [List.getElem?_set_ne hj] at e1
      have e2 : W.m[j]? = some b := e2
      have hb : b ≠ a := fun z => by
        subst z
        obtain ⟨l1, q1⟩ := List.getElem?_eq_some_iff.mp hm
        obtain ⟨l2, q2⟩ := List.getElem?_eq_some_iff.mp e2
        exact hj (nd_inj w.nd l1 l2 (q1.trans q2.symm))
      exact (w.at_ j dj b e1 e2).mono (Same.refl _) (List.prefix_refl _) (fun u q => (upd_ne hb).trans q) id
/-- the loop has gone: the dict may be changed again -/
theorem thaw_fz {W0 W' : Wd} (w : WOk K W') (pre : W0.m <+: W'.m) (fz : ∀ (n : Nat) (ks : List Key) (xs : List PV), W0.h[n]? = some (.fz ks xs) → W'.h[n]? = some (.fz ks xs) ∧ ∀ a, W0.m[n]? = some a → W'.H a = W0.H a)
    {n : Nat} {a : Addr} {o : HO} {d : Nd} (hm : W'.m[n]? = some a) (n0 : ∀ ks xs, W0.h[n]? ≠ some (.fz ks xs)) (j : Nat) (ks : List Key) (xs : List PV) (e1 : W0.h[j]? = some (.fz ks xs)) :
    (wset W' n a o d).h[j]? = some (.fz ks xs) ∧ ∀ b, W0.m[j]? = some b → (wset W' n a o d).H b = W0.H b := by
  obtain ⟨h1, h2⟩ := fz j ks xs e1
  have hj : n ≠ j := fun z => by subst z; exact n0 _ _ e1
  refine ⟨(List.getElem?_set_ne hj).trans h1, fun b e2 => (upd_ne fun z => ?_).trans (h2 b e2)⟩
  subst z
  obtain ⟨l1, q1⟩ := List.getElem?_eq_some_iff.mp hm
  obtain ⟨l2, q2⟩ := List.getElem?_eq_some_iff.mp (pre_get pre e2)
  exact hj (nd_inj w.nd l1 l2 (q1.trans q2.symm))
theorem thaw_le {W0 W' : Wd} (l : Le K W0 W') {n : Nat} {a : Addr} {o : HO} {d d' : Nd} (e : W'.h[n]? = some d) (hm : W'.m[n]? = some a) (hF : W'.F a = none) (at' : NdAt K W'.F (upd W'.H a o) W'.m d' a) (n0 : ∀ ks xs, W0.h[n]? ≠ some (.fz ks xs)) : Le K W0 (wset W' n a o d') where
  ok := wset_ok l.ok e hm hF at'
  fs := l.fs
  pre := l.pre
  keep := fun b u q hb => by
    have : b ≠ a := fun z => by
      subst z
      rw [l.mn b (List.mem_of_getElem? hm) hb] at q
      cases q
    exact (upd_ne this).trans (l.keep b u q hb)
  new := l.new
  mn := l.mn
  fz := thaw_fz l.ok l.pre l.fz hm n0
theorem Good.thaw {W0 W' : Wd} {ρ : PSt} {σ : St} (g : Good K W0 W' ρ σ) {n : Nat} {a : Addr} {o : HO} {d d' : Nd} (e : W'.h[n]? = some d) (hm : W'.m[n]? = some a) (hF : W'.F a = none) (at' : NdAt K W'.F (upd W'.H a o) W'.m d' a) (n0 : ∀ ks xs, W0.h[n]? ≠ some (.fz ks xs)) : Good K W0 (wset W' n a o d') ρ σ where
  le := thaw_le g.le e hm hF at' n0
  len := g.len
  val := g.val
  own := fun i d1 e1 => by
    obtain ⟨p, h1, h2, h3, h4, h5⟩ := g.own i d1 e1
    have hp : p ≠ a := fun z => h2 (z ▸ List.mem_of_getElem? hm)
    exact ⟨p, h1, h2, h3, h4, h5.mono (Same.refl _) (List.prefix_refl _) (fun u q => (upd_ne hp).trans q) id⟩
  ne := g.ne
theorem not_fz {W W1 : Wd} (l : Le K W W1) {n : Nat} {d : Nd} (e : W1.h[n]? = some d) (nf : ∀ ks xs, d ≠ .fz ks xs) (ks : List Key) (xs : List PV) : W.h[n]? ≠ some (.fz ks xs) := fun z => by
  have := (l.fz n ks xs z).1
  rw [e] at this
  cases this
  exact nf _ _ rfl
section
variable {ta : TE} {ea : XE} {t : TS} {s : XS}
theorem for_core {J : It} {xs : List PV} {g : TG} {y : XG} (b : SndG K g y) (c : SndS K t s) {W0 W1 : Wd} {ρ : PSt} {σ : St} {D : Ends} {o : Out} {h' : AH} (gd : Good K W0 W1 ρ σ) (q1 : Ends.Ok K W0 W1 D h' o) (J1 : ItOk K W1 J xs) (f1 : forL y s xs ρ W1.h = some (o, h')) :
    ∃ Z : Nat → Nat → St → Hp → Prop, (∃ m, Z 0 m σ W1.H) ∧ ∀ i m σ H, Z i m σ H →
      (J.stop i H ∧ D.nx σ H) ∨ (J.go i H ∧ ∃ N : St → Hp → Prop, (∀ σ' H', N σ' H' → ∃ m', m' < m ∧ Z (i + 1) m' σ' H') ∧ ∀ x H', J.yld i H x H' → g x σ H' fun σ2 H2 => t { D with nx := N, ct := N, bk := D.nx } σ2 H2) := by
  refine ⟨fun i m σ H => m = xs.length - i ∧ i ≤ xs.length ∧ ∃ W' ρ', W'.H = H ∧ Lf K W1 W' ∧ Good K W0 W' ρ' σ ∧ forL y s (xs.drop i) ρ' W'.h = some (o, h'), ⟨_, rfl, Nat.zero_le _, W1, ρ, rfl, .refl, gd, by simpa using f1⟩, ?_⟩
  rintro i m σ _ ⟨rfl, hi, W', ρ', rfl, l, g', f⟩
  by_cases hlt : i < xs.length
  · rw [List.drop_eq_getElem_cons hlt] at f
    obtain ⟨ρ1, k1, f⟩ := Option.bind_eq_some_iff.mp f
    obtain ⟨o1, h2, k2, f3⟩ := ob_some f
    refine .inr ⟨J1.go i W' l g'.ok hlt, fun σ2 H2 => i + 1 ≤ xs.length ∧ ∃ W2 ρ2, W2.H = H2 ∧ Lf K W1 W2 ∧ Good K W0 W2 ρ2 σ2 ∧ forL y s (xs.drop (i + 1)) ρ2 W2.h = some (o, h'), fun σ2 H2 ⟨n1, n2⟩ => ⟨xs.length - (i + 1), by omega, rfl, n1, n2⟩, fun v H2 hy => ?_⟩
    obtain ⟨rfl, x, hx, rx⟩ := J1.yld i W' v H2 l g'.ok hlt hy
    rw [List.getElem?_eq_getElem hlt] at hx
    cases hx
    refine b W0 W' ρ' ρ1 σ _ v _ g' rx k1 fun σ2 g2 => ?_
    refine c W0 W' ρ1 σ2 _ o1 h2 g2 k2 ?_
    cases o1 with
    | nx ρ2 => exact fun W2 σ3 w2 l2 g3 => ⟨hlt, W2, ρ2, rfl, l.trans l2, g3, by rw [w2]; exact f3⟩
    | ct ρ2 => exact fun W2 σ3 w2 l2 g3 => ⟨hlt, W2, ρ2, rfl, l.trans l2, g3, by rw [w2]; exact f3⟩
    | bk ρ2 => cases f3; exact fun W2 σ3 w2 l2 g3 => q1 W2 σ3 w2 (l.trans l2) g3
    | rt x => cases f3; exact q1
  · have ei : i = xs.length := by omega
    subst ei
    refine .inl ⟨J1.stop W' l g'.ok, ?_⟩
    rw [List.drop_length] at f
    cases f
    exact q1 W' σ rfl l g'
def xForD (e : XE) (g : XG) (s : XS) : XS := fun ρ h => ob (e ρ h) fun x h1 => match x with
  | .loc n => (match h1[n]? with
    | some (.dct ks xs) => ob (forL g s (ks.map keyPV) ρ (h1.set n (.fz ks xs))) fun o h2 => (match o with | .nx ρ' => some (.nx ρ', h2.set n (.dct ks xs)) | _ => none)
    | _ => none)
  | _ => none
theorem snd_forD {NF : Addr → Prop} {g : TG} {y : XG} (a : SndE K ta ea) (b : SndG K g y) (c : SndS K t s) : SndS K (tForD NF ta g t) (xForD ea y s) := by
  intro W0 W ρ σ D o h' gd e q
  obtain ⟨x, h1, e1, f1⟩ := ob_some e
  refine a W0 W ρ σ _ x h1 gd e1 fun v W1 w1 l1 r1 => ?_
  subst w1
  split at f1
  · rename_i n
    split at f1
    · rename_i ks xs hn
      obtain ⟨o1, h2, e2, f2⟩ := ob_some f1
      split at f2
      · rename_i ρ'
        cases f2
        obtain ⟨p, ev, hm, hf, us, hp, hl, rs⟩ := l1.ok.loc hn r1
        have hz : (ks.zip us).length = ks.length := by rw [List.length_zip, hl, Nat.min_self]
        refine ⟨p, ks.zip us, ev, hp, fun ob nf => ?_⟩
        have lf : Le K W1 (wset W1 n p (.frz ob (.dK (ks.zip us))) (.fz ks xs)) := wset_le l1.ok hn hm hf ⟨hf, ob, us, upd_same, hl, rs⟩
        have hnl : n < W1.h.length := (List.getElem?_eq_some_iff.mp hn).1
        have still : ∀ W', Lf K (wset W1 n p (.frz ob (.dK (ks.zip us))) (.fz ks xs)) W' → W'.h[n]? = some (.fz ks xs) ∧ W'.H p = some (.frz ob (.dK (ks.zip us))) := fun W' l => by
          obtain ⟨z1, z2⟩ := l.fz n ks xs (List.getElem?_set_self hnl)
          exact ⟨z1, (z2 p hm).trans upd_same⟩
        refine for_core b c (gd.step (l1.trans lf)) (o := .nx ρ') (h' := h2) ?_ (xs := ks.map keyPV) ⟨fun i W' l w hi => ?_, fun i W' v' H2 l w hi hy => ?_, fun W' l w => ?_⟩ e2
        · intro W' σ' w' l' g'
          obtain ⟨z1, z2⟩ := still W' l'
          have hm' : W'.m[n]? = some p := pre_get l'.pre hm
          obtain ⟨z3, _⟩ := g'.ok.at_ n _ p z1 hm'
          have at' : NdAt K W'.F (upd W'.H p (.dK (ks.zip us))) W'.m (.dct ks xs) p := ⟨z3, us, upd_same, hl, RepL.mono l'.fs l'.pre _ _ rs⟩
          refine ⟨p, ob, ks.zip us, nf, z2, ?_⟩
          have nW := not_fz l1 hn (fun _ _ z => by cases z)
          refine q (wset W' n p (.dK (ks.zip us)) (.dct ks xs)) σ' (by rw [← w']; rfl) ⟨l1.fs.trans (lf.fs.trans l'.fs), l1.pre.trans (lf.pre.trans l'.pre), ?_⟩ (g'.thaw z1 hm' z3 at' ?_)
          · exact thaw_fz g'.ok (l1.pre.trans (lf.pre.trans l'.pre)) (l1.lf.trans (lf.lf.trans l')).fz hm' nW
          · exact fun ks' xs' z => nW _ _ (gd.le.fz n ks' xs' z).1
        · rw [List.length_map] at hi
          exact ⟨by rw [hz]; exact hi, (still W' l).2⟩
        · rw [List.length_map] at hi
          obtain ⟨z1, kv, z2, z3⟩ := hy
          refine ⟨z1, keyPV kv.1, ?_, z3 ▸ keyPV_rep kv.1⟩
          obtain ⟨z4, z5⟩ := List.getElem?_eq_some_iff.mp z2
          rw [List.getElem?_map, List.getElem?_eq_getElem hi, ← z5, List.getElem_zip]
          rfl
        · exact ⟨by rw [List.length_map, hz], (still W' l).2⟩
      · cases f2
    · cases f1
  · cases f1
end
end PX
namespace PX
open PySem L2
variable {K : Ck}
/-! ### Base.__init__(self, ..) ahead of all else in __init__ -/
end PX
/-! ## the text and its pure reading, in one word -/
namespace PX
open PySem L2 PySem.Spec PyProof.Rows
section
variable (K : Ck)
def cE (x : XE) : TE := fun σ H Q => ∃ (W0 W : Wd) (ρ : PSt) (y : PV) (h' : AH), W.H = H ∧ Good K W0 W ρ σ ∧ x ρ W.h = some (y, h') ∧ ∀ v W', W'.h = h' → Le K W W' → RepW K W' y v → Q v W'.H
def cO (x : XO) : TE := fun σ H Q => ∃ (W0 W : Wd) (ρ : PSt) (d : Nd) (h' : AH), W.H = H ∧ Good K W0 W ρ σ ∧ x ρ W.h = some (d, h') ∧ ∀ p W', W'.h = h' → Le K W W' → p ∉ W'.m → W.H p = none → d ≠ .dead → NdAt K W'.F W'.H W'.m d p → Q (.ref p) W'.H
def cT (x : XT) : TT := fun σ H Q => ∃ (W0 W : Wd) (ρ : PSt) (y : Bool) (h' : AH), W.H = H ∧ Good K W0 W ρ σ ∧ x ρ W.h = some (y, h') ∧ ∀ W', W'.h = h' → Le K W W' → Q y W'.H
def cA (x : XA) : TA := fun σ H Q => ∃ (W0 W : Wd) (ρ : PSt) (y : List PV) (h' : AH), W.H = H ∧ Good K W0 W ρ σ ∧ x ρ W.h = some (y, h') ∧ ∀ v W', W'.h = h' → Le K W W' → RepLW K W' y v → Q v W'.H
def cP (x : PSt → AH → Option (Option Int × AH)) : TO := fun σ H Q => ∃ (W0 W : Wd) (ρ : PSt) (y : Option Int) (h' : AH), W.H = H ∧ Good K W0 W ρ σ ∧ x ρ W.h = some (y, h') ∧ ∀ W', W'.h = h' → Le K W W' → Q y W'.H
def cI (x : XA) : TI := fun σ H R => ∃ (W0 W : Wd) (ρ : PSt) (y : List PV) (h' : AH), W.H = H ∧ Good K W0 W ρ σ ∧ x ρ W.h = some (y, h') ∧ ∀ J W', W'.h = h' → Le K W W' → ItOk K W' J y → R J W'.H
def cG (y : XG) : TG := fun v σ H Q => ∃ (W0 W : Wd) (ρ ρ' : PSt) (x : PV), W.H = H ∧ Good K W0 W ρ σ ∧ RepW K W x v ∧ y x ρ = some ρ' ∧ ∀ σ', Good K W0 W ρ' σ' → Q σ' W.H
def cGs (y : XGs) : TGs := fun v σ H Q => ∃ (W0 W : Wd) (ρ ρ' : PSt) (x : List PV), W.H = H ∧ Good K W0 W ρ σ ∧ RepLW K W x v ∧ y x ρ = some ρ' ∧ ∀ σ', Good K W0 W ρ' σ' → Q σ' W.H
def cS (s : XS) : TS := fun D σ H => ∃ (W0 W : Wd) (ρ : PSt) (o : Out) (h' : AH), W.H = H ∧ Good K W0 W ρ σ ∧ s ρ W.h = some (o, h') ∧ Ends.Ok K W0 W D h' o
def cF (s : XS) : TS := fun D σ H => ∃ (W0 W : Wd) (ρ ρ' : PSt) (h' : AH), W.H = H ∧ Good K W0 W ρ σ ∧ s ρ W.h = some (.nx ρ', h') ∧ ∀ W', W'.h = h' → Lf K W W' → Good K W0 W' ρ' σ → D.nx σ W'.H
end
section
variable {K : Ck}
theorem sE {x : XE} : SndE K (cE K x) x := fun W0 W ρ σ Q y h' g e q => ⟨W0, W, ρ, y, h', rfl, g, e, q⟩
theorem sO {x : XO} : SndO K (cO K x) x := fun W0 W ρ σ Q y h' g e q => ⟨W0, W, ρ, y, h', rfl, g, e, q⟩
theorem sT {x : XT} : SndT K (cT K x) x := fun W0 W ρ σ Q y h' g e q => ⟨W0, W, ρ, y, h', rfl, g, e, q⟩
theorem sA {x : XA} : SndA K (cA K x) x := fun W0 W ρ σ Q y h' g e q => ⟨W0, W, ρ, y, h', rfl, g, e, q⟩
theorem sP {x} : SndP K (cP K x) x := fun W0 W ρ σ Q y h' g e q => ⟨W0, W, ρ, y, h', rfl, g, e, q⟩
theorem sI {x : XA} : SndI K (cI K x) x := fun W0 W ρ σ Q y h' g e q => ⟨W0, W, ρ, y, h', rfl, g, e, q⟩
theorem sG {y : XG} : SndG K (cG K y) y := fun W0 W ρ ρ' σ x v Q g r e q => ⟨W0, W, ρ, ρ', x, rfl, g, r, e, q⟩
theorem sGs {y : XGs} : SndGs K (cGs K y) y := fun W0 W ρ ρ' σ x v Q g r e q => ⟨W0, W, ρ, ρ', x, rfl, g, r, e, q⟩
theorem sS {s : XS} : SndS K (cS K s) s := fun W0 W ρ σ D o h' g e q => ⟨W0, W, ρ, o, h', rfl, g, e, q⟩
theorem sF {s : XS} : SndF K (cF K s) s := fun W0 W ρ ρ' σ D h' g e q => ⟨W0, W, ρ, ρ', h', rfl, g, e, q⟩
end
abbrev ckX (X : Cx) (A : Nat → Addr) : Ck := ⟨X.K, A⟩
structure ZE (X : Cx) (A : Nat → Addr) (e : Expr) (x : XE) : Prop where of : PE X e (cE (ckX X A) x)
structure ZO (X : Cx) (A : Nat → Addr) (e : Expr) (x : XO) : Prop where of : PE X e (cO (ckX X A) x)
structure ZT (X : Cx) (A : Nat → Addr) (e : Expr) (x : XT) : Prop where of : PT X e (cT (ckX X A) x)
structure ZW (X : Cx) (A : Nat → Addr) (e : Expr) (x : XT) : Prop where of : PW X e (cT (ckX X A) x)
structure ZA (X : Cx) (A : Nat → Addr) (e : List Expr) (n : Nat) (x : XA) : Prop where
  of : PA X e (cA (ckX X A) x)
  len : ∀ ρ h xs h', x ρ h = some (xs, h') → xs.length = n
structure ZP (X : Cx) (A : Nat → Addr) (e : Option Expr) (x : PSt → AH → Option (Option Int × AH)) : Prop where of : PO X e (cP (ckX X A) x)
structure ZI (X : Cx) (A : Nat → Addr) (tg e : Expr) (x : XA) : Prop where of : PI X tg e (cI (ckX X A) x)
structure ZG (X : Cx) (A : Nat → Addr) (e : Expr) (y : XG) : Prop where of : PG X e (cG (ckX X A) y)
structure ZGs (X : Cx) (A : Nat → Addr) (e : List Expr) (y : XGs) : Prop where of : PGs X e (cGs (ckX X A) y)
structure ZS (X : Cx) (A : Nat → Addr) (e : Stmt) (s : XS) : Prop where of : PS X e (cS (ckX X A) s)
structure ZSs (X : Cx) (A : Nat → Addr) (e : List Stmt) (s : XS) : Prop where of : PSs X e (cS (ckX X A) s)
structure ZF (X : Cx) (A : Nat → Addr) (e : Stmt) (s : XS) : Prop where of : PS X e (cF (ckX X A) s)
structure ZFs (X : Cx) (A : Nat → Addr) (e : List Stmt) (s : XS) : Prop where of : PSs X e (cF (ckX X A) s)
section
variable {X : Cx} {A : Nat → Addr} {e : Expr} {es : List Expr}
theorem wE {t : TE} {x : XE} (p : PE X e t) (s : SndE (ckX X A) t x) : ZE X A e x := ⟨fun pins st σ H Q I ⟨W0, W, ρ, y, h', eh, g, ex, q⟩ => by subst eh; exact p pins st σ _ Q I (s W0 W ρ σ Q y h' g ex q)⟩
theorem wO {t : TE} {x : XO} (p : PE X e t) (s : SndO (ckX X A) t x) : ZO X A e x := ⟨fun pins st σ H Q I ⟨W0, W, ρ, y, h', eh, g, ex, q⟩ => by subst eh; exact p pins st σ _ Q I (s W0 W ρ σ Q y h' g ex q)⟩
theorem wT {t : TT} {x : XT} (p : PT X e t) (s : SndT (ckX X A) t x) : ZT X A e x := ⟨fun pins st σ H Q I ⟨W0, W, ρ, y, h', eh, g, ex, q⟩ => by subst eh; exact p pins st σ _ Q I (s W0 W ρ σ Q y h' g ex q)⟩
theorem wW {t : TT} {x : XT} (p : PW X e t) (s : SndT (ckX X A) t x) : ZW X A e x := ⟨fun wh pins st σ H Q I ⟨W0, W, ρ, y, h', eh, g, ex, q⟩ => by subst eh; exact p wh pins st σ _ Q I (s W0 W ρ σ Q y h' g ex q)⟩
theorem wA {t : TA} {x : XA} {n : Nat} (p : PA X es t) (s : SndA (ckX X A) t x) (l : ∀ ρ h xs h', x ρ h = some (xs, h') → xs.length = n) : ZA X A es n x := ⟨fun pos pins st σ H Q I ⟨W0, W, ρ, y, h', eh, g, ex, q⟩ => by subst eh; exact p pos pins st σ _ Q I (s W0 W ρ σ Q y h' g ex q), l⟩
theorem wP {o : Option Expr} {t : TO} {x} (p : PO X o t) (s : SndP (ckX X A) t x) : ZP X A o x := ⟨fun pins st σ H Q I ⟨W0, W, ρ, y, h', eh, g, ex, q⟩ => by subst eh; exact p pins st σ _ Q I (s W0 W ρ σ Q y h' g ex q)⟩
theorem wI {tg : Expr} {t : TI} {x : XA} (p : PI X tg e t) (s : SndI (ckX X A) t x) : ZI X A tg e x := ⟨fun pins st σ H Q I ⟨W0, W, ρ, y, h', eh, g, ex, q⟩ => by subst eh; exact p pins st σ _ Q I (s W0 W ρ σ Q y h' g ex q)⟩
theorem wG {t : TG} {y : XG} (p : PG X e t) (s : SndG (ckX X A) t y) : ZG X A e y := ⟨fun pins st σ H v u Q I rv ⟨W0, W, ρ, ρ', x, eh, g, r, ex, q⟩ => by subst eh; exact p pins st σ _ v u Q I rv (s W0 W ρ ρ' σ x v Q g r ex q)⟩
theorem wGs {t : TGs} {y : XGs} (p : PGs X es t) (s : SndGs (ckX X A) t y) : ZGs X A es y := ⟨fun pins st σ H v u Q I rv ⟨W0, W, ρ, ρ', x, eh, g, r, ex, q⟩ => by subst eh; exact p pins st σ _ v u Q I rv (s W0 W ρ ρ' σ x v Q g r ex q)⟩
theorem wS {st : Stmt} {t : TS} {x : XS} (p : PS X st t) (s : SndS (ckX X A) t x) : ZS X A st x := ⟨fun pins st σ H D I ⟨W0, W, ρ, o, h', eh, g, ex, q⟩ => by subst eh; exact p pins st σ _ D I (s W0 W ρ σ D o h' g ex q)⟩
theorem wSs {st : List Stmt} {t : TS} {x : XS} (p : PSs X st t) (s : SndS (ckX X A) t x) : ZSs X A st x := ⟨fun pins st σ H D I ⟨W0, W, ρ, o, h', eh, g, ex, q⟩ => by subst eh; exact p pins st σ _ D I (s W0 W ρ σ D o h' g ex q)⟩
theorem wF {st : Stmt} {t : TS} {x : XS} (p : PS X st t) (s : SndF (ckX X A) t x) : ZF X A st x := ⟨fun pins st σ H D I ⟨W0, W, ρ, ρ', h', eh, g, ex, q⟩ => by subst eh; exact p pins st σ _ D I (s W0 W ρ ρ' σ D h' g ex q)⟩
theorem wFs {st : List Stmt} {t : TS} {x : XS} (p : PSs X st t) (s : SndF (ckX X A) t x) : ZFs X A st x := ⟨fun pins st σ H D I ⟨W0, W, ρ, ρ', h', eh, g, ex, q⟩ => by subst eh; exact p pins st σ _ D I (s W0 W ρ ρ' σ D h' g ex q)⟩
end
/-- a name that is no special one -/
structure Nm (x : Str) : Prop where
  d : (x == ("__debug__" : Str)) = false
  c : (x == ("__classdict__" : Str)) = false
  n : x ≠ "__name__"
section
variable {X : Cx} {A : Nat → Addr} {a b c o : Expr} {es : List Expr} {xa xb xc : XE} {xo : XO} {aa : XA} {pos p apos : Pos} {x : Str} {n k : Nat}
theorem z_non {j} : ZE X A (.Constant .none j pos) (xC .non) := wE pe_non snd_non
theorem z_bl {b j} : ZE X A (.Constant (.bool b) j pos) (xC (.bl b)) := wE pe_bl snd_bl
theorem z_int {i j} : ZE X A (.Constant (.int i) j pos) (xC (.int i)) := wE pe_int snd_int
theorem z_str {x j} : ZE X A (.Constant (.str x) j pos) (xC (.str x)) := wE pe_str snd_str
theorem z_var {i : Nat} (m : Nm x) (hN : X.N[i]? = some x) (hv : Vis X.env.scope x) : ZE X A (.Name x pos) (xVar i) := wE (pe_var hN hv m.d m.c) (snd_var i)
theorem z_gty {n : String} (m : Nm x) (hg : Gl X x) (hm : X.mg x = none) (hv : bootBuiltins x = some (.type n)) : ZE X A (.Name x pos) (xC (.ty n)) := wE (pe_gty hg hm hv m.n m.d) snd_ty
theorem z_fz (h : ZO X A a xo) : ZE X A a (xFz xo) := wE h.of (snd_fz sO)
theorem z_loc (h : ZO X A a xo) : ZE X A a (xLoc xo) := wE h.of (snd_loc sO)
theorem z_op {op : Operator} {r : R2} {q : P2} (ho : OpR X (binaryOp op) r) (hq : OpSnd (ckX X A) r q) (ha : ZE X A a xa) (hb : ZE X A b xb) : ZE X A (.BinOp a op b pos) (xOp q xa xb) := wE (pe_op ho ha.of hb.of) (snd_op hq sE sE)
theorem z_un {op : UnaryOp} {r} {q} (ho : UnR X (unaryOp op) r) (hq : UnSnd (ckX X A) r q) (ha : ZE X A a xa) : ZE X A (.UnaryOp op a pos) (xUn q xa) := wE (pe_un ho ha.of) (snd_un hq sE)
theorem z_not (ha : ZE X A a xa) : ZE X A (.UnaryOp .Not a pos) (xNotV xa) := wE (pe_not ha.of) (snd_notV sE)
theorem z_cmp {op : CmpOp} {r : R2} {q : P2} (ho : OpR X (compareOp op) r) (hq : OpSnd (ckX X A) r q) (ha : ZE X A a xa) (hb : ZE X A b xb) (hm : behindInMarks op b = false) : ZE X A (.Compare a [op] [b] pos) (xOp q xa xb) := wE (pe_cmpR ho ha.of hb.of hm) (snd_op hq sE sE)
theorem z_one {op} (h : ZE X A a xa) : ZE X A (.BoolOp op [a] pos) xa := ⟨pe_one h.of⟩
theorem z_and (ha : ZE X A a xa) (hb : ZE X A (.BoolOp .And (b :: es) pos) xb) : ZE X A (.BoolOp .And (a :: b :: es) pos) (xAndV xa xb) := wE (pe_and ha.of hb.of) (snd_andV sE sE)
section
variable {ca cb : XT}
theorem zt_cmp {op : CmpOp} {r : R2} {q : P2} (ho : OpR X (compareOp op) r) (hq : OpSnd (ckX X A) r q) (ha : ZE X A a xa) (hb : ZE X A b xb) (hm : behindInMarks op b = false) : ZT X A (.Compare a [op] [b] pos) (xTest (xOp q xa xb)) := wT (pt_cmpR ho ha.of hb.of hm) (snd_test (snd_op hq sE sE))
theorem zt_not (ha : ZT X A a ca) : ZT X A (.UnaryOp .Not a pos) (xNot ca) := wT (pt_not ha.of) (snd_not sT)
theorem zt_val (h : ZE X A a xa) (he : ∀ whole, isTrue a X.env whole = (do let v ← whole; standAt a.pos; holding [v] (truthy v))) : ZT X A a (xTest xa) := wT (pt_val h.of he) (snd_tB sE)
theorem zt_w (h : ZW X A a ca) : ZT X A a ca := ⟨PW.pt h.of⟩
theorem zw_and (ha : ZT X A a ca) (hb : ZW X A (.BoolOp .And (b :: es) pos) cb) : ZW X A (.BoolOp .And (a :: b :: es) pos) (xAnd ca cb) := wW (pw_and ha.of hb.of) (snd_and sT sT)
theorem zw_and1 (ha : ZT X A a ca) : ZW X A (.BoolOp .And [a] pos) ca := ⟨pw_and1 ha.of⟩
end
theorem za_nil : ZA X A [] 0 xNil := wA pa_nil snd_nil len_nil
theorem za_cons (ha : ZE X A a xa) (hr : ZA X A es n aa) (hs : starEach (a :: es) X.env = (false, eval a X.env) :: starEach es X.env) : ZA X A (a :: es) (n + 1) (xCons xa aa) := wA (pa_cons ha.of hr.of hs) (snd_cons sE sA) (len_cons hr.len)
theorem z_lst (h : ZA X A es n aa) : ZO X A (.List es pos) (xLst aa) := wO (pe_lst h.of) (snd_lst sA)
theorem z_tup {q} (h : ZA X A es n aa) : ZE X A (.Tuple es q pos) (xTup aa) := wE (pe_tup h.of) (snd_tup sA)
theorem zp_no : ZP X A none xNoPart := wP po_none snd_nopart
theorem zp_some (h : ZE X A a xa) : ZP X A (some a) (xPart xa) := wP (po_some h.of) (snd_part sE)
section
variable {lo hi : Option Expr} {xl xh : PSt → AH → Option (Option Int × AH)} {p2 : Pos}
theorem z_slO {r} {q} (hr : SlR X r) (hq : SlSndO (ckX X A) r q) (ha : ZE X A a xa) (hl : ZP X A lo xl) (hh : ZP X A hi xh) : ZO X A (.Subscript a (.Slice lo hi none p2) pos) (xSlO q xa xl xh) := wO (pe_slice hr ha.of hl.of hh.of) (snd_slO hq sE sP sP)
end
theorem z_ix {r : R2} {q : P2} (hr : IxR X r) (hq : OpSnd (ckX X A) r q) (ha : ZE X A a xa) (hb : ZE X A b xb) (hs : PlainIx b) : ZE X A (.Subscript a b pos) (xOp q xa xb) := wE (pe_ix hr ha.of hb.of hs) (snd_op hq sE sE)
theorem z_fld {cs : List Nat} {f : Str} (hc : ∀ k ∈ cs, Cls X.K (A k) ∧ NoAttr X.K (A k) f) (ha : ZE X A a xa) (hb : attributeBase a f X.env (eval a X.env) = eval a X.env) : ZE X A (.Attribute a f pos) (xFld cs f xa) := wE (pe_fld ha.of hb) (snd_fld (K := ckX X A) hc sE)
section
variable {f C : Addr} {fd : FuncData} {ps : List Str} {lv : Nat} {fn : Fn}
theorem z_call (F : FnOk X.prog X.w X.K X.mg X.base CX0 lv f fd ps (spE (ckX X A) (n + 1) fn)) (hr : Room lv X.A) (m : Nm x) (hg : Gl X x) (hm : X.mg x = some (.ref f)) (hk : PySem.W.keepIn X.K (.ref f) = true) (hb : Binds X.K fd ps [])
    (ha : ZA X A (a :: es) (n + 1) aa) (he : starEach (a :: es) X.env = (false, eval a X.env) :: starEach es X.env) (hpl : (backTo pos (starEach es X.env)).any (·.1) = false) : ZE X A (.Call (.Name x p) (a :: es) [] pos) (xCall fn aa) :=
  wE (pe_call F hr hg hm hk hb .nil pass0 ha.of m.d he hpl) (snd_call sA ha.len)
end
theorem z_cb {id : String} {r} {q} (hc : CallR X (.builtin id) r) (hq : CbSnd (ckX X A) r q) (m : Nm x) (hg : Gl X x) (hm : X.mg x = none) (hv : bootBuiltins x = some (.builtin id)) (ha : ZA X A (a :: es) n aa) (he : starEach (a :: es) X.env = (false, eval a X.env) :: starEach es X.env) (hpl : (backTo pos (starEach es X.env)).any (·.1) = false) : ZE X A (.Call (.Name x p) (a :: es) [] pos) (xCB q aa) :=
  wE (pe_callB hc hg hm hv ha.of m.n m.d he hpl) (snd_cb hq sA)
theorem z_ctyO {T : String} {r} {q} (hc : CallR X (.type T) r) (hq : CbSndO (ckX X A) r q) (m : Nm x) (hg : Gl X x) (hm : X.mg x = none) (hv : bootBuiltins x = some (.type T)) (ha : ZA X A (a :: es) n aa) (he : starEach (a :: es) X.env = (false, eval a X.env) :: starEach es X.env) (hpl : (backTo pos (starEach es X.env)).any (·.1) = false) : ZO X A (.Call (.Name x p) (a :: es) [] pos) (xCBO q aa) :=
  wO (pe_callTy hc hg hm hv ha.of m.n m.d he hpl) (snd_cbO hq sA)
section
variable {name : Str} {cpos : Pos} {T id : String} {r : V → List V → Hp → VK → Prop} {cc : PV → AH → Bool} {q : PM}
theorem z_bm (pa : PlainAttrs T) (slot : Slot T name id) (hty : typeOf (.builtin id) = pure (.type "method_descriptor")) (hm : MtR X id r) (hq : BmSnd (ckX X A) T cc r q) (ho : ZE X A o xa) (ha : ZA X A (a :: es) n aa)
    (hbase : attributeBase o name X.env (eval o X.env) = eval o X.env)
    (hfew : ((backTo cpos (starEach (a :: es) X.env)).all (fun x => !x.1) && (backToKw cpos (keywordEach [] X.env)).all (fun x => x.1.isSome)
      && decide ((a :: es).length + ([] : List Keyword).length + (if ([] : List Keyword).isEmpty then 0 else 1) < 30)) = true)
    (hline : (apos.endLine == cpos.line) = true) (hs : starEach (a :: es) X.env = (false, eval a X.env) :: starEach es X.env) (hplain : (backTo cpos (starEach es X.env)).any (·.1) = false) :
    ZE X A (.Call (.Attribute o name apos) (a :: es) [] cpos) (xBM cc q xa aa) := wE (pe_bm pa slot hty hm ho.of ha.of hbase hfew hline hs hplain) (snd_bm (K := ckX X A) hq sE sA)
theorem z_bm0 (pa : PlainAttrs T) (slot : Slot T name id) (hty : typeOf (.builtin id) = pure (.type "method_descriptor")) (hm : MtR X id r) (hq : BmSnd (ckX X A) T cc r q) (ho : ZE X A o xa)
    (hbase : attributeBase o name X.env (eval o X.env) = eval o X.env) (hline : (apos.endLine == cpos.line) = true) :
    ZE X A (.Call (.Attribute o name apos) [] [] cpos) (xBM cc q xa xNil) := wE (pe_bm0 pa slot hty hm ho.of hbase hline) (snd_bm0 (K := ckX X A) hq sE)
theorem zs_app {i : Nat} (ho : PE X o (tVar i)) (ha : ZE X A a xa) 
    (hbase : attributeBase o "append" X.env (eval o X.env) = eval o X.env)
    (hfew : ((backTo cpos (starEach [a] X.env)).all (fun x => !x.1) && (backToKw cpos (keywordEach [] X.env)).all (fun x => x.1.isSome)
      && decide ([a].length + ([] : List Keyword).length + (if ([] : List Keyword).isEmpty then 0 else 1) < 30)) = true)
    (hline : (apos.endLine == cpos.line) = true) (hs : starEach [a] X.env = (false, eval a X.env) :: starEach [] X.env) (hplain : (backTo cpos (starEach [] X.env)).any (·.1) = false)
    (hsw : swapsWith (.Call (.Attribute o "append" apos) [a] [] cpos) none pos.line X.env = pure false) :
    ZS X A (.Expr (.Call (.Attribute o "append" apos) [a] [] cpos) pos) (xAppO i xa) :=
  wS (ps_expr (pe_bm PySem.F.plainAttrs_list PySem.F.slot_list_append PySem.F.type_list_append mt_append ho (pa_cons ha.of pa_nil hs) hbase hfew hline hs hplain) hsw) (snd_appO (K := ckX X A) i sE)
end
section
variable {tg : Expr}
theorem zi_list (h : ZE X A a xa) : ZI X A tg a (xIL xa) := wI (pi_list h.of) (sndi_list (K := ckX X A) sE)
theorem zi_rng1 (hg : Gl X "range") (hm : X.mg "range" = none) (ha : ZA X A [a] n aa) (hs : starEach [a] X.env = [(false, eval a X.env)]) : ZI X A tg (.Call (.Name "range" p) [a] [] pos) (xIR1 aa) := wI (pi_range1 hg hm ha.of hs) (sndi_rng1 sA)
end
theorem zg_name {i : Nat} (hN : X.N.Nodup) (hi : X.N[i]? = some x) (hx : Loc X.env.scope x) (hf : X.fn x = true ∨ X.env.scope.names.lookup x = some .local) : ZG X A (.Name x pos) (yName i) := wG (pg_name hN hi hx hf) (sndg_name i)
theorem zgs_nil : ZGs X A [] yNil := wGs pgs_nil sndg_nil
theorem zgs_cons {y : XG} {ys : XGs} (h1 : ZG X A a y) (h2 : ZGs X A es ys) (hs : (assignEach (a :: es) X.env).map (·.2) = assign a X.env :: (assignEach es X.env).map (·.2)) : ZGs X A (a :: es) (yCons y ys) := wGs (pgs_cons h1.of h2.of hs) (sndg_cons sG sGs)
theorem zg_tup {ys : XGs} {q : Nat} (hc : X.calm = true) (h : ZGs X A es ys) (hn : (assignEach es X.env).length = n) (hst : (assignEach es X.env).findIdx? (·.1) = none) : ZG X A (.Tuple es q pos) (yTup n ys) := wG (pg_tup hc h.of hn hst) (sndg_tup (K := ckX X A) sGs)
/-! statements -/
section
variable {st : Stmt} {rest : List Stmt} {s u : XS}
theorem zs_ret (h : ZE X A a xa) : ZS X A (.Return (some a) pos) (xRet xa) := wS (ps_ret h.of) (snd_ret sE)
theorem zs_expr (h : ZE X A a xa) (hs : swapsWith a none pos.line X.env = pure false) : ZS X A (.Expr a pos) (xDrop xa) := wS (ps_expr h.of hs) (snd_drop sE)
theorem zs_set {i : Nat} {pos' : Pos} (hN : X.N.Nodup) (hi : X.N[i]? = some x) (hx : Loc X.env.scope x) (h : ZE X A a xa) (hs : swapsWith a (some (.Name x pos')) pos.line X.env = pure false) (hf : X.fn x = true ∨ X.env.scope.names.lookup x = some .local) : ZS X A (.Assign [.Name x pos'] a pos) (xAsg xa (yName i)) :=
  wS (ps_set hN hi hx h.of hs hf) (snd_asg sE (sndg_name i))
theorem zs_setO {i : Nat} {pos' : Pos} (hN : X.N.Nodup) (hi : X.N[i]? = some x) (hx : Loc X.env.scope x) (h : ZO X A a xo) (hs : swapsWith a (some (.Name x pos')) pos.line X.env = pure false) (hf : X.fn x = true ∨ X.env.scope.names.lookup x = some .local) : ZS X A (.Assign [.Name x pos'] a pos) (xAsgO xo i) :=
  wS (ps_set hN hi hx h.of hs hf) (snd_asgO i sO)
theorem zf_fld {cs : List Nat} {f : Str} {pos' : Pos} {i : Nat} (hc : ∀ k ∈ cs, Cls X.K (A k) ∧ NoAttr X.K (A k) f) (ho : PE X o (tVar i)) (h : ZE X A a xa) (hs : swapsWith a (some (.Attribute o f pos')) pos.line X.env = pure false) : ZF X A (.Assign [.Attribute o f pos'] a pos) (xFldO cs i f xa) := wF (ps_fld ho h.of hs) (sndF_fld (K := ckX X A) hc sE)
theorem zs_if {ca : XT} {l m : List Stmt} (hc : ZT X A c ca) (ha : ZSs X A l s) (hb : ZSs X A m u) : ZS X A (.If c l m pos) (xIfS ca s u) := wS (ps_if hc.of ha.of hb.of) (snd_ifS sT sS sS)
theorem zs_for {tg iter : Expr} {it : XA} {y : XG} (hp : PassesOwn (model X.prog X.w) X.A X.env X.xe) (hc : X.calm = true) (hi : ZI X A tg iter it) (hg : ZG X A tg y) (hb : ZSs X A rest s) (hs : ∀ x, foldedSetIterable iter X.env x = pure x) : ZS X A (.For tg iter rest [] pos) (xFor it y s) := wS (ps_for hp hc hi.of hg.of hb.of hs) (snd_for sI sG sS)
theorem zss_nil : ZSs X A [] xNext := wSs pss_nil snd_next
theorem zss_one (h : ZS X A st s) : ZSs X A [st] s := ⟨pss_one h.of⟩
theorem zss_cons (h : ZS X A st s) (hr : ZSs X A rest u) : ZSs X A (st :: rest) (xSeq s u) := wSs (pss_cons h.of hr.of) (snd_seq sS sS)
theorem zss_frz (i : Nat) (h : ZSs X A rest s) : ZSs X A rest (xFrz i s) := wSs h.of (snd_frz i sS)
theorem zfs_one (h : ZF X A st s) : ZFs X A [st] s := ⟨pss_one h.of⟩
theorem zfs_cons (h : ZF X A st s) (hr : ZFs X A rest u) : ZFs X A (st :: rest) (xSeq s u) := wFs (pss_cons h.of hr.of) (sndF_seq sF sF)
end
end
section
variable {P : Program} {w : World} {K : PySem.W.Frag} {mg : Str → Option Value} {base : Heap} {A : Nat → Addr}
/-- a def keeps its pure reading -/
theorem zfn {x qual : Str} {st : Stmt} {f : Addr} {fd : FuncData} {N ps : List Str} {k : Nat} {s : XS} (F : Fun K x qual st f fd) (S : FnScope N ps (defScope st))
    (h : ∀ (cdv : Value) (Ar : Around) (outer : List Env) (sh : Shared) (H : Hp) (E : XK), Room k (Ar.deeper (envOfC qual (defScope st) sh.heap.objs.size f cdv)) → ZSs (cxOf CX0 P w K mg base N qual (defScope st) f cdv Ar outer sh H E).nox A (defBody st) s) :
    FnOk P w K mg base CX0 (k + 1) f fd ps (spE ⟨K, A⟩ ps.length (runF N.length s)) :=
  F.ok S (fun _ _ _ _ h => spE_len h) fun cdv Ar outer sh H vs Q E hr hq => ⟨_, (h cdv Ar outer sh H E hr).of, body_snd (K := ⟨K, A⟩) sS hq⟩
theorem zin {x qual : Str} {st : Stmt} {f : Addr} {fd : FuncData} {N ps : List Str} {k kc n : Nat} {s : XS} (F : Fun K x qual st f fd) (S : FnScope N ps (defScope st)) (hn : ps.length = n + 1) (hN : n + 1 ≤ N.length)
    (h : ∀ (cdv : Value) (Ar : Around) (outer : List Env) (sh : Shared) (H : Hp) (E : XK), Room k (Ar.deeper (envOfC qual (defScope st) sh.heap.objs.size f cdv)) → ZFs (cxOf CX0 P w K mg base N qual (defScope st) f cdv Ar outer sh H E).nox A (defBody st) s) :
    FnOk P w K mg base CX0 (k + 1) f fd ps (spI ⟨K, A⟩ n kc (runI N.length kc s)) :=
  F.ok S (fun _ _ _ _ h => (spI_len h).trans hn.symm) fun cdv Ar outer sh H vs Q E hr hq => ⟨_, (h cdv Ar outer sh H E hr).of, init_snd (K := ⟨K, A⟩) hN sF hq⟩
end
end PX
namespace PX
open PySem L2 PySem.Spec PyProof.Rows
section
variable {X : Cx} {A : Nat → Addr} {a b c o i : Expr} {es : List Expr} {xa xb xc xd xk xv : XE} {xo : XO} {aa : XA} {pos p apos cpos pos' : Pos} {x : Str} {n k : Nat}
theorem z_dget (hu : X.A.units + 1 < cLine) (ho : ZE X A o xd) (hi : ZE X A i xk) (hs : NoSl i) : ZE X A (.Subscript o i pos) (xDGet xd xk) := wE (pe_dget hu ho.of hi.of hs) (snd_dget sE sE)
theorem zt_din (hu : X.A.units + 1 < cLine) (hi : ZE X A i xk) (ho : ZE X A o xd) (hm : behindInMarks .In o = false) : ZT X A (.Compare i [.In] [o] pos) (xTest (xDIn false xk xd)) := wT (pt_cmp (pc_din hu hi.of ho.of) hm) (snd_test (snd_din sE sE))
theorem zs_dput (hu : X.A.units + 1 < cLine) (ho : ZE X A o xd) (hi : ZE X A i xk) (hv : ZE X A a xv) (hs : swapsWith a (some (.Subscript o i pos')) pos.line X.env = pure false) : ZS X A (.Assign [.Subscript o i pos'] a pos) (xDPut xd xk xv) := wS (ps_dput hu ho.of hi.of hv.of hs) (snd_dput sE sE sE)
theorem z_dnew : ZO X A (.Dict [] [] pos) xDNew := wO pe_dnewK snd_dnew
end
end PX
namespace PX
open PySem L2 PySem.Spec PyProof.Rows
theorem bt_sorted : bootBuiltins "sorted" = some (.builtin "sorted") := by decide +kernel
theorem bt_reversed : bootBuiltins "reversed" = some (.type "reversed") := by decide +kernel
section
variable {X : Cx} {A : Nat → Addr} {a b c o : Expr} {es : List Expr} {xa xb xc : XE} {pos p apos cpos : Pos} {x : Str} {n k : Nat}
end
section
variable {X : Cx} {A : Nat → Addr} {tg a b c : Expr} {p pos : Pos} {aa : XA} {n : Nat}
end
section
theorem vals_at {xs : List V} {its : List Value} (r : Vals xs its) {j : Nat} (hj : j < its.toArray.size) : ∃ x, xs[j]? = some x ∧ RelV x its.toArray[j] := by
  have hl := r.length
  have j1 : j < its.length := by simpa using hj
  have x1 : xs[j]? = some xs[j] := List.getElem?_eq_getElem (by omega)
  obtain ⟨u1, q1, w1⟩ := r.get x1
  have g1 : its.toArray[j] = u1 := by
    have := List.getElem?_eq_getElem j1
    rw [q1] at this
    simpa using (Option.some.inj this).symm
  exact ⟨_, x1, by rw [g1]; exact w1⟩
variable {X : Cx}
theorem eqAt_R {pins : List (Addr × Obj)} {σ : L2.St} {H : Hp} {s : Shared} (I : Inv X pins σ H s) {n : Nat} {x y : V} {b : Bool} (r : EqR X.K H n x y b) : ∀ {A : Around} {u v : Value}, RelV x u → RelV y v → A.units + n < cLine → SeqAt.EqAt A s u v b := by
  induction r with
  | flat fx fy => exact fun rx ry _ => eqAt_V rx ry fx fy
  | same =>
    intro A u v rx ry _
    cases rx
    cases ry
    exact SeqAt.EqAt.same _
  | odd h =>
    obtain ⟨a, o, ob, h1, h2⟩ := h
    have := (I.bs a ob (I.ok.mod.kin a ob h2)).2
    rw [h1] at this
    cases this
  | nt hb =>
    intro A u v rx ry hu
    cases rx
    cases ry
    obtain ⟨i2, r2, p2, z2⟩ := I.tuple hb
    exact SeqAt.EqAt.none_tuple p2 (by omega)
  | tn hb =>
    intro A u v rx ry hu
    cases rx
    cases ry
    obtain ⟨i2, r2, p2, z2⟩ := I.tuple hb
    exact SeqAt.EqAt.tuple_none p2 (by omega)
  | @lst n a b xs ys e ha hb hl hne he ih =>
    intro A u v rx ry hu
    cases rx
    cases ry
    obtain ⟨i1, n1, r1, e1, z1⟩ := I.lst ha
    obtain ⟨i2, n2, r2, e2, z2⟩ := I.lst hb
    have l1 := r1.length
    have l2 := r2.length
    rw [show xs.length = i1.toArray.size by simp only [List.size_toArray]; omega]
    refine SeqAt.EqAt.of_refs hne (SeqAt.RcAt.lists ⟨_, e1, rfl, n1, rfl⟩ ⟨_, e2, rfl, n2, rfl⟩ (by simp only [List.size_toArray]; omega) (by omega) fun j j1 j2 => ?_)
    obtain ⟨x1, q1, w1⟩ := vals_at r1 j1
    obtain ⟨y1, q2, w2⟩ := vals_at r2 j2
    exact ih j x1 y1 q1 q2 w1 w2 (by show A.units + 1 + n < cLine; omega)
  | @lstN n a b xs ys ha hb hl =>
    intro A u v rx ry hu
    cases rx
    cases ry
    obtain ⟨i1, n1, r1, e1, z1⟩ := I.lst ha
    obtain ⟨i2, n2, r2, e2, z2⟩ := I.lst hb
    have l1 := r1.length
    have l2 := r2.length
    have hne : a ≠ b := fun z => by subst z; rw [ha] at hb; cases hb; exact hl rfl
    exact SeqAt.EqAt.of_refs hne (SeqAt.RcAt.lists_lengths ⟨_, e1, rfl, n1, rfl⟩ ⟨_, e2, rfl, n2, rfl⟩ (by simp only [List.size_toArray, bne_iff_ne]; omega) (by omega))
  | @tup n a b xs ys e ha hb hne he ih =>
    intro A u v rx ry hu
    cases rx
    cases ry
    obtain ⟨i1, r1, p1, z1⟩ := I.tuple ha
    obtain ⟨i2, r2, p2, z2⟩ := I.tuple hb
    have l1 := r1.length
    have l2 := r2.length
    rw [show xs.length = i1.toArray.size by simp only [List.size_toArray]; omega, show ys.length = i2.toArray.size by simp only [List.size_toArray]; omega]
    refine SeqAt.EqAt.of_refs hne (SeqAt.RcAt.tuples p1 p2 (by omega) fun j j1 j2 => ?_)
    obtain ⟨x1, q1, w1⟩ := vals_at r1 j1
    obtain ⟨y1, q2, w2⟩ := vals_at r2 j2
    exact ih j x1 y1 q1 q2 w1 w2 (by show A.units + 1 + n < cLine; omega)
theorem op_eqD (hu : X.A.units + 60 < cLine) : OpR X (compareOp .Eq) (rEqD X.K) := by
  intro pins s σ H x y v u Q I rx ry h
  obtain ⟨b, hb, q⟩ := h
  cases hb with
  | nt hb =>
    cases rx
    cases ry
    obtain ⟨i2, r2, p2, z2⟩ := I.tuple hb
    exact SeqAt.RcAt.none_tuple p2 (by omega) _ _ _ _ ⟨.bl _, H, I, rfl, q⟩
  | tn hb =>
    cases rx
    cases ry
    obtain ⟨i2, r2, p2, z2⟩ := I.tuple hb
    exact SeqAt.RcAt.tuple_none p2 (by omega) _ _ _ _ ⟨.bl _, H, I, rfl, q⟩
  | @lst a b xs ys e ha hb hl he =>
    cases rx
    cases ry
    obtain ⟨i1, n1, r1, e1, z1⟩ := I.lst ha
    obtain ⟨i2, n2, r2, e2, z2⟩ := I.lst hb
    have l1 := r1.length
    have l2 := r2.length
    rw [show xs.length = i1.toArray.size by simp only [List.size_toArray]; omega] at q
    refine SeqAt.RcAt.lists ⟨_, e1, rfl, n1, rfl⟩ ⟨_, e2, rfl, n2, rfl⟩ (by simp only [List.size_toArray]; omega) (by omega) (fun j j1 j2 => ?_) _ _ _ _ ⟨.bl _, H, I, rfl, q⟩
    obtain ⟨x1, q1, w1⟩ := vals_at r1 j1
    obtain ⟨y1, q2, w2⟩ := vals_at r2 j2
    exact eqAt_R I (he j x1 y1 q1 q2) w1 w2 (by show X.A.units + 1 + 40 < cLine; omega)
  | @lstN a b xs ys ha hb hl =>
    cases rx
    cases ry
    obtain ⟨i1, n1, r1, e1, z1⟩ := I.lst ha
    obtain ⟨i2, n2, r2, e2, z2⟩ := I.lst hb
    have l1 := r1.length
    have l2 := r2.length
    exact SeqAt.RcAt.lists_lengths ⟨_, e1, rfl, n1, rfl⟩ ⟨_, e2, rfl, n2, rfl⟩ (by simp only [List.size_toArray, bne_iff_ne]; omega) (by omega) _ _ _ _ ⟨.bl _, H, I, rfl, q⟩
  | @tup a b xs ys e ha hb he =>
    cases rx
    cases ry
    obtain ⟨i1, r1, p1, z1⟩ := I.tuple ha
    obtain ⟨i2, r2, p2, z2⟩ := I.tuple hb
    have l1 := r1.length
    have l2 := r2.length
    rw [show xs.length = i1.toArray.size by simp only [List.size_toArray]; omega, show ys.length = i2.toArray.size by simp only [List.size_toArray]; omega] at q
    refine SeqAt.RcAt.tuples p1 p2 (by omega) (fun j j1 j2 => ?_) _ _ _ _ ⟨.bl _, H, I, rfl, q⟩
    obtain ⟨x1, q1, w1⟩ := vals_at r1 j1
    obtain ⟨y1, q2, w2⟩ := vals_at r2 j2
    exact eqAt_R I (he j x1 y1 q1 q2) w1 w2 (by show X.A.units + 1 + 40 < cLine; omega)
theorem op_neD (hu : X.A.units + 60 < cLine) : OpR X (compareOp .NotEq) (rNeD X.K) := by
  intro pins s σ H x y v u Q I rx ry h
  obtain ⟨b, hb, q⟩ := h
  cases hb with
  | nt hb =>
    cases rx
    cases ry
    obtain ⟨i2, r2, p2, z2⟩ := I.tuple hb
    exact SeqAt.RcNeAt.none_tuple p2 (by omega) _ _ _ _ ⟨.bl _, H, I, rfl, q⟩
  | tn hb =>
    cases rx
    cases ry
    obtain ⟨i2, r2, p2, z2⟩ := I.tuple hb
    exact SeqAt.RcNeAt.tuple_none p2 (by omega) _ _ _ _ ⟨.bl _, H, I, rfl, q⟩
  | @lst a b xs ys e ha hb hl he =>
    cases rx
    cases ry
    obtain ⟨i1, n1, r1, e1, z1⟩ := I.lst ha
    obtain ⟨i2, n2, r2, e2, z2⟩ := I.lst hb
    have l1 := r1.length
    have l2 := r2.length
    rw [show xs.length = i1.toArray.size by simp only [List.size_toArray]; omega] at q
    refine SeqAt.RcNeAt.lists ⟨_, e1, rfl, n1, rfl⟩ ⟨_, e2, rfl, n2, rfl⟩ (by simp only [List.size_toArray]; omega) (by omega) (fun j j1 j2 => ?_) _ _ _ _ ⟨.bl _, H, I, rfl, q⟩
    obtain ⟨x1, q1, w1⟩ := vals_at r1 j1
    obtain ⟨y1, q2, w2⟩ := vals_at r2 j2
    exact eqAt_R I (he j x1 y1 q1 q2) w1 w2 (by show X.A.units + 1 + 40 < cLine; omega)
  | @lstN a b xs ys ha hb hl =>
    cases rx
    cases ry
    obtain ⟨i1, n1, r1, e1, z1⟩ := I.lst ha
    obtain ⟨i2, n2, r2, e2, z2⟩ := I.lst hb
    have l1 := r1.length
    have l2 := r2.length
    exact SeqAt.RcNeAt.lists_lengths ⟨_, e1, rfl, n1, rfl⟩ ⟨_, e2, rfl, n2, rfl⟩ (by simp only [List.size_toArray, bne_iff_ne]; omega) (by omega) _ _ _ _ ⟨.bl _, H, I, rfl, q⟩
  | @tup a b xs ys e ha hb he =>
    cases rx
    cases ry
    obtain ⟨i1, r1, p1, z1⟩ := I.tuple ha
    obtain ⟨i2, r2, p2, z2⟩ := I.tuple hb
    have l1 := r1.length
    have l2 := r2.length
    rw [show xs.length = i1.toArray.size by simp only [List.size_toArray]; omega, show ys.length = i2.toArray.size by simp only [List.size_toArray]; omega] at q
    refine SeqAt.RcNeAt.tuples p1 p2 (by omega) (fun j j1 j2 => ?_) _ _ _ _ ⟨.bl _, H, I, rfl, q⟩
    obtain ⟨x1, q1, w1⟩ := vals_at r1 j1
    obtain ⟨y1, q2, w2⟩ := vals_at r2 j2
    exact eqAt_R I (he j x1 y1 q1 q2) w1 w2 (by show X.A.units + 1 + 40 < cLine; omega)
theorem room60 {k : Nat} {A : Around} (r : Room k A) : A.units + 60 < cLine := by have := r.un; omega
end
end PX
namespace PX
open PySem L2 PySem.Spec PyProof.Rows
section
variable {X : Cx} {A : Nat → Addr} {o e : Expr} {es : List Expr} {xa xb : XE} {aa : XA} {pos apos pos' : Pos} {m f : Str} {n k kc : Nat} {pl : Sem Bool} {p : Fn} {fa : Addr} {fd : FuncData} {ps : List Str}
theorem z_methS (ho : ZE X A o xa) (c : Cls X.K (A kc)) (hm : Meth X.K (A kc) m fa) (F : FnOk X.prog X.w X.K X.mg X.base CX0 k fa fd ps (spE (ckX X A) (n + 1) p)) (hr : Room k X.A) (hb : Binds X.K fd ps []) (ha : ZA X A (e :: es) n aa)
    (hst : starEach (e :: es) X.env = (false, eval e X.env) :: starEach es X.env) (hpl : (backTo pos (starEach es X.env)).any (·.1) = false)
    (ht : eval (.Call (.Attribute o m apos) (e :: es) [] pos) X.env = (do
      let ov ← eval o X.env
      standAt apos.atName
      let (f, first) ← holding [ov] (getMethod ov m pl)
      callWith pos f first (backTo pos (starEach (e :: es) X.env)) (backToKw pos (keywordEach [] X.env)))) :
    ZE X A (.Call (.Attribute o m apos) (e :: es) [] pos) (xMethS kc m p xa aa) := wE (pe_meth ho.of c hm F hr hb .nil pass0 ha.of hst hpl ht) (snd_methS (K := ckX X A) sE sA ha.len)
theorem z_methS0 (ho : ZE X A o xa) (c : Cls X.K (A kc)) (hm : Meth X.K (A kc) m fa) (F : FnOk X.prog X.w X.K X.mg X.base CX0 k fa fd ps (spE (ckX X A) 1 p)) (hr : Room k X.A) (hb : Binds X.K fd ps [])
    (ht : eval (.Call (.Attribute o m apos) [] [] pos) X.env = (do
      let ov ← eval o X.env
      standAt apos.atName
      let (f, first) ← holding [ov] (getMethod ov m pl)
      callWith pos f first (backTo pos (starEach [] X.env)) (backToKw pos (keywordEach [] X.env)))) :
    ZE X A (.Call (.Attribute o m apos) [] [] pos) (xMethS kc m p xa xNil) := wE (pe_meth0 ho.of c hm F hr hb .nil pass0 ht) (snd_methS (K := ckX X A) (n := 0) sE snd_nil len_nil)
end
end PX
namespace KasS
open PySem PySem.W PyProof.Rows
/-! ### the sort by asking, gone with a given order -/
def run {α : Type} (lt : Nat → Nat → Bool) : KasT α → α
  | .ret a => a
  | .ask i j k => run lt (k (lt i j))
theorem run_bind {α β : Type} (lt : Nat → Nat → Bool) (f : α → KasT β) : ∀ t : KasT α, run lt (t.bind f) = run lt (f (run lt t))
  | .ret _ => rfl
  | .ask i j k => run_bind lt f (k (lt i j))
section
variable (key : Nat → Int)
def ltK (i j : Nat) : Bool := decide (key i < key j)
def Kp (p : Array Nat) (i : Nat) : Int := key (p[i]?.getD 0)
def Up (p : Array Nat) (k : Nat) : Prop := ∀ i j, i ≤ j → j < k → Kp key p i ≤ Kp key p j
def Dn (p : Array Nat) (k : Nat) : Prop := ∀ i j, i ≤ j → j < k → Kp key p j ≤ Kp key p i
variable {key}
theorem getD_eq (p : Array Nat) (i : Nat) : p.getD i 0 = p[i]?.getD 0 := by simp [Array.getD_eq_getD_getElem?]
theorem lt_eq (p : Array Nat) (i j : Nat) : ltK key (p.getD i 0) (p.getD j 0) = decide (Kp key p i < Kp key p j) := by rw [getD_eq, getD_eq]; rfl
theorem Up.succ {p : Array Nat} {n : Nat} (h : Up key p n) (h1 : 1 ≤ n) (hn : Kp key p (n - 1) ≤ Kp key p n) : Up key p (n + 1) := fun i j hij hj => by
  by_cases e : j = n
  · subst e
    by_cases e2 : i = j
    · subst e2; exact Int.le_refl _
    · exact Int.le_trans (h i (j - 1) (by omega) (by omega)) hn
  · exact h i j hij (by omega)
theorem Dn.succ {p : Array Nat} {n : Nat} (h : Dn key p n) (h1 : 1 ≤ n) (hn : Kp key p n ≤ Kp key p (n - 1)) : Dn key p (n + 1) := fun i j hij hj => by
  by_cases e : j = n
  · subst e
    by_cases e2 : i = j
    · subst e2; exact Int.le_refl _
    · exact Int.le_trans hn (h i (j - 1) (by omega) (by omega))
  · exact h i j hij (by omega)
theorem asc_ok (p : Array Nat) : ∀ (f n : Nat), 1 ≤ n → Up key p n → n ≤ run (ltK key) (kas_asc p f n) ∧ run (ltK key) (kas_asc p f n) ≤ n + f ∧ Up key p (run (ltK key) (kas_asc p f n)) ∧ (run (ltK key) (kas_asc p f n) < n + f → Kp key p (run (ltK key) (kas_asc p f n)) < Kp key p (run (ltK key) (kas_asc p f n) - 1))
  | 0, n, _, h => ⟨Nat.le_refl _, Nat.le_refl _, h, fun z => by exact absurd z (Nat.lt_irrefl _)⟩
  | f + 1, n, h1, h => by
    have e : run (ltK key) (kas_asc p (f + 1) n) = run (ltK key) (if ltK key (p.getD n 0) (p.getD (n - 1) 0) = true then .ret n else kas_asc p f (n + 1)) := rfl
    rw [e, lt_eq]
    by_cases hc : Kp key p n < Kp key p (n - 1)
    · rw [decide_eq_true hc, if_pos rfl]
      exact ⟨Nat.le_refl _, by show n ≤ n + (f + 1); omega, h, fun _ => hc⟩
    · rw [decide_eq_false hc, if_neg (by simp)]
      obtain ⟨a, b, c, d⟩ := asc_ok p f (n + 1) (by omega) (h.succ h1 (by omega))
      exact ⟨by omega, by omega, c, fun z => d (by omega)⟩
theorem Kp_rev {p : Array Nat} {i j : Nat} (hj : j ≤ p.size) (k : Nat) : Kp key (kas_rev p i j) k = if i ≤ k ∧ k < j then Kp key p (i + j - 1 - k) else Kp key p k := by
  unfold Kp kas_rev
  rw [getElem?_mirror_all hj]
  split <;> rfl
theorem rev_size (p : Array Nat) (i j : Nat) : (kas_rev p i j).size = p.size := mirror_size _ _ _ _
theorem rev_perm (p : Array Nat) (i j : Nat) : (kas_rev p i j).Perm p := mirror_perm _ _ _ _
/-- a block of equals reversed: the keys stay -/
theorem Kp_rev_eq {p : Array Nat} {i j : Nat} (hj : j ≤ p.size) (he : ∀ k, i ≤ k → k < j → Kp key p k = Kp key p (j - 1)) (k : Nat) : Kp key (kas_rev p i j) k = Kp key p k := by
  rw [Kp_rev hj]
  split
  · rename_i h
    rw [he (i + j - 1 - k) (by omega) (by omega), he k h.1 h.2]
  · rfl
theorem desc_ok : ∀ (f : Nat) (p : Array Nat) (n q : Nat), n + f ≤ p.size → q + 1 ≤ n → Dn key p n → (∀ k, n - (q + 1) ≤ k → k < n → Kp key p k = Kp key p (n - 1)) →
    let r := run (ltK key) (kas_desc f p n q)
    r.1.Perm p ∧ r.1.size = p.size ∧ n ≤ r.2.1 ∧ r.2.1 ≤ n + f ∧ r.2.2 + 1 ≤ r.2.1 ∧ Dn key r.1 r.2.1 ∧ (∀ k, r.2.1 - (r.2.2 + 1) ≤ k → k < r.2.1 → Kp key r.1 k = Kp key r.1 (r.2.1 - 1))
  | 0, p, n, q, hs, hq, hd, he => ⟨Array.Perm.refl _, rfl, Nat.le_refl _, Nat.le_refl _, hq, hd, he⟩
  | f + 1, p, n, q, hs, hq, hd, he => by
    intro r
    have e : r = run (ltK key) (if ltK key (p.getD n 0) (p.getD (n - 1) 0) = true then (if q > 0 then kas_desc f (kas_rev p (n - (q + 1)) n) (n + 1) 0 else kas_desc f p (n + 1) 0)
      else .ask (p.getD (n - 1) 0) (p.getD n 0) fun d => if d = true then .ret (p, n, q) else kas_desc f p (n + 1) (q + 1)) := rfl
    rw [lt_eq] at e
    by_cases hc : Kp key p n < Kp key p (n - 1)
    · rw [decide_eq_true hc, if_pos rfl] at e
      by_cases h0 : q > 0
      · rw [if_pos h0] at e
        have kk : ∀ k, Kp key (kas_rev p (n - (q + 1)) n) k = Kp key p k := fun k => Kp_rev_eq (by omega) he k
        have hd' : Dn key (kas_rev p (n - (q + 1)) n) (n + 1) := fun i j hij hj => by
          rw [kk, kk]
          exact hd.succ (by omega) (by omega) i j hij hj
        obtain ⟨a1, a2, a3, a4, a5, a6, a7⟩ := desc_ok f (kas_rev p (n - (q + 1)) n) (n + 1) 0 (by rw [rev_size]; omega) (by omega) hd' (fun k h1 h2 => by rw [show k = n + 1 - 1 by omega])
        rw [e]
        exact ⟨a1.trans (rev_perm _ _ _), a2.trans (rev_size _ _ _), by omega, by omega, a5, a6, a7⟩
      · rw [if_neg h0] at e
        obtain ⟨a1, a2, a3, a4, a5, a6, a7⟩ := desc_ok f p (n + 1) 0 (by omega) (by omega) (hd.succ (by omega) (by omega)) (fun k h1 h2 => by rw [show k = n + 1 - 1 by omega])
        rw [e]
        exact ⟨a1, a2, by omega, by omega, a5, a6, a7⟩
    · rw [decide_eq_false hc, if_neg (by simp)] at e
      have e : r = run (ltK key) (if ltK key (p.getD (n - 1) 0) (p.getD n 0) = true then .ret (p, n, q) else kas_desc f p (n + 1) (q + 1)) := e
      rw [lt_eq] at e
      by_cases hc2 : Kp key p (n - 1) < Kp key p n
      · rw [decide_eq_true hc2, if_pos rfl] at e
        rw [e]
        exact ⟨Array.Perm.refl _, rfl, Nat.le_refl _, by show n ≤ n + (f + 1); omega, hq, hd, he⟩
      · rw [decide_eq_false hc2, if_neg (by simp)] at e
        have heq : Kp key p n = Kp key p (n - 1) := by omega
        obtain ⟨a1, a2, a3, a4, a5, a6, a7⟩ := desc_ok f p (n + 1) (q + 1) (by omega) (by omega) (hd.succ (by omega) (by omega)) (fun k h1 h2 => by
          by_cases hk : k = n
          · rw [hk]; rfl
          · rw [he k (by omega) (by omega), show n + 1 - 1 = n by omega, heq])
        rw [e]
        exact ⟨a1, a2, by omega, by omega, a5, a6, a7⟩
theorem Dn.rev {p : Array Nat} {n : Nat} (hn : n ≤ p.size) (h : Dn key p n) : Up key (kas_rev p 0 n) n := fun i j hij hj => by
  rw [Kp_rev hn, Kp_rev hn, if_pos ⟨by omega, by omega⟩, if_pos ⟨by omega, by omega⟩]
  exact h _ _ (by omega) (by omega)
theorem tail3_ok {p : Array Nat} {n nrem : Nat} (h1 : 1 ≤ n) (hn : n ≤ nrem) (hs : nrem ≤ p.size) (h : Dn key p n) :
    let r := run (ltK key) (kas_tail3 n nrem p)
    r.2.Perm p ∧ r.2.size = p.size ∧ 1 ≤ r.1 ∧ r.1 ≤ nrem ∧ Up key r.2 r.1 := by
  intro r
  have e : r = (run (ltK key) (kas_asc (kas_rev p 0 n) (nrem - n) n), kas_rev p 0 n) := by show run _ (KasT.bind _ _) = _; rw [run_bind]; rfl
  obtain ⟨a, b, c, _⟩ := asc_ok (kas_rev p 0 n) (nrem - n) n h1 (h.rev (by omega))
  rw [e]
  exact ⟨rev_perm _ _ _, rev_size _ _ _, by omega, by omega, c⟩
theorem descPart_ok {p : Array Nat} {n nrem : Nat} (h1 : 1 ≤ n) (hn : n < nrem) (hs : nrem ≤ p.size) (h : Dn key p (n + 1)) :
    let r := run (ltK key) (kas_descPart n nrem p)
    r.2.Perm p ∧ r.2.size = p.size ∧ 1 ≤ r.1 ∧ r.1 ≤ nrem ∧ Up key r.2 r.1 := by
  intro r
  obtain ⟨a1, a2, a3, a4, a5, a6, a7⟩ := desc_ok (key := key) (nrem - (n + 1)) p (n + 1) 0 (by omega) (by omega) h (fun k h1 h2 => by rw [show k = n + 1 - 1 by omega])
  generalize hd : run (ltK key) (kas_desc (nrem - (n + 1)) p (n + 1) 0) = d at *
  have e : r = run (ltK key) (if d.2.2 > 0 then kas_tail3 d.2.1 nrem (kas_rev d.1 (d.2.1 - (d.2.2 + 1)) d.2.1) else kas_tail3 d.2.1 nrem d.1) := by show run _ (KasT.bind _ _) = _; rw [run_bind, hd]
  by_cases h0 : d.2.2 > 0
  · rw [if_pos h0] at e
    have kk : ∀ k, Kp key (kas_rev d.1 (d.2.1 - (d.2.2 + 1)) d.2.1) k = Kp key d.1 k := fun k => Kp_rev_eq (by omega) a7 k
    obtain ⟨b1, b2, b3, b4, b5⟩ := tail3_ok (key := key) (p := kas_rev d.1 (d.2.1 - (d.2.2 + 1)) d.2.1) (n := d.2.1) (nrem := nrem) (by omega) (by omega) (by rw [rev_size]; omega) (fun i j hij hj => by rw [kk, kk]; exact a6 i j hij hj)
    rw [e]
    exact ⟨b1.trans ((rev_perm _ _ _).trans a1), b2.trans ((rev_size _ _ _).trans a2), b3, b4, b5⟩
  · rw [if_neg h0] at e
    obtain ⟨b1, b2, b3, b4, b5⟩ := tail3_ok (key := key) (p := d.1) (n := d.2.1) (nrem := nrem) (by omega) (by omega) (by omega) a6
    rw [e]
    exact ⟨b1.trans a1, b2.trans a2, b3, b4, b5⟩
theorem count_ok {p : Array Nat} {nrem : Nat} (h1 : 1 ≤ nrem) (hs : nrem ≤ p.size) :
    let r := run (ltK key) (kas_count nrem p)
    r.2.Perm p ∧ r.2.size = p.size ∧ 1 ≤ r.1 ∧ r.1 ≤ nrem ∧ Up key r.2 r.1 := by
  intro r
  obtain ⟨a, b, c, d⟩ := asc_ok (key := key) p (nrem - 1) 1 (Nat.le_refl _) (fun i j hij hj => by rw [show i = j by omega]; exact Int.le_refl _)
  generalize hn : run (ltK key) (kas_asc p (nrem - 1) 1) = n at *
  have e : r = run (ltK key) (if (n == nrem) = true then .ret (n, p) else if n > 1 then .ask (p.getD 0 0) (p.getD (n - 1) 0) fun c => if c = true then .ret (n, p) else kas_descPart n nrem (kas_rev p 0 n)
    else kas_descPart n nrem p) := by show run _ (KasT.bind _ _) = _; rw [run_bind, hn]
  by_cases e1 : n = nrem
  · rw [if_pos (by simp [e1])] at e
    rw [e]
    exact ⟨Array.Perm.refl _, rfl, a, by show n ≤ nrem; omega, c⟩
  · rw [if_neg (by simp [e1])] at e
    have dn := d (by omega)
    by_cases h2 : n > 1
    · rw [if_pos h2] at e
      have e : r = run (ltK key) (if ltK key (p.getD 0 0) (p.getD (n - 1) 0) = true then .ret (n, p) else kas_descPart n nrem (kas_rev p 0 n)) := e
      rw [lt_eq] at e
      by_cases hc : Kp key p 0 < Kp key p (n - 1)
      · rw [decide_eq_true hc, if_pos rfl] at e
        rw [e]
        exact ⟨Array.Perm.refl _, rfl, a, by show n ≤ nrem; omega, c⟩
      · rw [decide_eq_false hc, if_neg (by simp)] at e
        have eqs : ∀ k, 0 ≤ k → k < n → Kp key p k = Kp key p (n - 1) := fun k _ hk => by
          have u1 := c 0 k (by omega) hk
          have u2 := c k (n - 1) (by omega) (by omega)
          omega
        have kk : ∀ k, Kp key (kas_rev p 0 n) k = Kp key p k := fun k => Kp_rev_eq (by omega) eqs k
        have hdn : Dn key (kas_rev p 0 n) (n + 1) := fun i j hij hj => by
          rw [kk, kk]
          by_cases ej : j = n
          · subst ej
            by_cases ei : i = j
            · rw [ei]; exact Int.le_refl _
            · rw [eqs i (by omega) (by omega)]; omega
          · rw [eqs i (by omega) (by omega), eqs j (by omega) (by omega)]; exact Int.le_refl _
        obtain ⟨b1, b2, b3, b4, b5⟩ := descPart_ok (key := key) (p := kas_rev p 0 n) (n := n) (nrem := nrem) a (by omega) (by rw [rev_size]; omega) hdn
        rw [e]
        exact ⟨b1.trans (rev_perm _ _ _), b2.trans (rev_size _ _ _), b3, b4, b5⟩
    · rw [if_neg h2] at e
      have hn1 : n = 1 := by omega
      subst hn1
      obtain ⟨b1, b2, b3, b4, b5⟩ := descPart_ok (key := key) (p := p) (n := 1) (nrem := nrem) (by omega) (by omega) hs (fun i j hij hj => by
        by_cases e3 : i = j
        · rw [e3]; exact Int.le_refl _
        · rw [show i = 0 by omega, show j = 1 by omega]
          exact Int.le_of_lt dn)
      rw [e]
      exact ⟨b1, b2, b3, b4, b5⟩
theorem place_ok {p : Array Nat} {k : Nat} (hu : Up key p k) : ∀ (f l r : Nat), r ≤ k → l ≤ r → r - l ≤ f → (∀ i, i < l → Kp key p i ≤ Kp key p k) → (∀ i, r ≤ i → i < k → Kp key p k < Kp key p i) →
    let m := run (ltK key) (kas_place p k f l r)
    m ≤ k ∧ (∀ i, i < m → Kp key p i ≤ Kp key p k) ∧ (∀ i, m ≤ i → i < k → Kp key p k < Kp key p i)
  | 0, l, r, hr, hl, hf, h1, h2 => by
    have : l = r := by omega
    subst this
    exact ⟨hr, h1, h2⟩
  | f + 1, l, r, hr, hl, hf, h1, h2 => by
    intro m
    have e : m = run (ltK key) (if l ≥ r then .ret l else .ask (p.getD k 0) (p.getD ((l + r) / 2) 0) fun c => if c = true then kas_place p k f l ((l + r) / 2) else kas_place p k f ((l + r) / 2 + 1) r) := rfl
    by_cases hlr : l ≥ r
    · rw [if_pos hlr] at e
      have : l = r := by omega
      subst this
      rw [e]
      exact ⟨hr, h1, h2⟩
    · rw [if_neg hlr] at e
      have e : m = run (ltK key) (if ltK key (p.getD k 0) (p.getD ((l + r) / 2) 0) = true then kas_place p k f l ((l + r) / 2) else kas_place p k f ((l + r) / 2 + 1) r) := e
      rw [lt_eq] at e
      by_cases hc : Kp key p k < Kp key p ((l + r) / 2)
      · rw [decide_eq_true hc, if_pos rfl] at e
        rw [e]
        exact place_ok hu f l ((l + r) / 2) (by omega) (by omega) (by omega) h1 (fun i h3 h4 => by have := hu ((l + r) / 2) i h3 h4; omega)
      · rw [decide_eq_false hc, if_neg (by simp)] at e
        rw [e]
        exact place_ok hu f ((l + r) / 2 + 1) r hr (by omega) (by omega) (fun i h3 => by have := hu i ((l + r) / 2) (by omega) (by omega); omega) h2
theorem Kp_bubble {p : Array Nat} {src d : Nat} (hs : src < p.size) (hd : d ≤ src) (k : Nat) : Kp key (bubble p src d) k = if k = src - d then Kp key p src else if src - d < k ∧ k ≤ src then Kp key p (k - 1) else Kp key p k := by
  unfold Kp
  rw [getElem?_bubble hs d hd]
  repeat' split
  all_goals rfl
theorem bin_ok : ∀ (f : Nat) (p : Array Nat) (k : Nat), k + f ≤ p.size → Up key p k → (run (ltK key) (kas_bin f p k)).Perm p ∧ Up key (run (ltK key) (kas_bin f p k)) (k + f)
  | 0, p, k, _, h => ⟨Array.Perm.refl _, h⟩
  | f + 1, p, k, hs, h => by
    obtain ⟨a1, a2, a3⟩ := place_ok (key := key) h k 0 k (Nat.le_refl _) (by omega) (by omega) (fun i hi => by omega) (fun i h1 h2 => by omega)
    generalize hl : run (ltK key) (kas_place p k k 0 k) = l at *
    have e : run (ltK key) (kas_bin (f + 1) p k) = run (ltK key) (kas_bin f (bubble p k (k - l)) (k + 1)) := by show run _ (KasT.bind _ _) = _; rw [run_bind, hl]
    have hk : ∀ i, Kp key (bubble p k (k - l)) i = if i = l then Kp key p k else if l < i ∧ i ≤ k then Kp key p (i - 1) else Kp key p i := fun i => by
      rw [Kp_bubble (by omega) (by omega), show k - (k - l) = l by omega]
    have hu : Up key (bubble p k (k - l)) (k + 1) := fun i j hij hj => by
      rw [hk, hk]
      by_cases i1 : i = l
      · rw [if_pos i1]
        by_cases j1 : j = l
        · rw [if_pos j1]; exact Int.le_refl _
        · rw [if_neg j1, if_pos ⟨by omega, by omega⟩]
          have := a3 (j - 1) (by omega) (by omega); omega
      · rw [if_neg i1]
        by_cases i2 : l < i ∧ i ≤ k
        · rw [if_pos i2, if_neg (by omega), if_pos ⟨by omega, by omega⟩]
          exact h _ _ (by omega) (by omega)
        · rw [if_neg i2]
          have il : i < l := by omega
          by_cases j1 : j = l
          · rw [if_pos j1]; exact a2 i il
          · rw [if_neg j1]
            split
            · exact h _ _ (by omega) (by omega)
            · exact h _ _ (by omega) (by omega)
    obtain ⟨b1, b2⟩ := bin_ok f (bubble p k (k - l)) (k + 1) (by rw [bubble_size]; omega) hu
    rw [e]
    exact ⟨b1.trans (bubble_perm _ _ _), by rw [show k + (f + 1) = k + 1 + f by omega]; exact b2⟩
theorem sort_ok {n : Nat} (h1 : 1 ≤ n) : (run (ltK key) (kas_sort n)).Perm (List.toArray (List.range n)) ∧ Up key (run (ltK key) (kas_sort n)) n := by
  have hs : (List.toArray (List.range n)).size = n := by simp
  obtain ⟨a1, a2, a3, a4, a5⟩ := count_ok (key := key) (p := List.toArray (List.range n)) (nrem := n) h1 (by omega)
  generalize hr : run (ltK key) (kas_count n (List.toArray (List.range n))) = r at *
  have e : run (ltK key) (kas_sort n) = run (ltK key) (if r.1 < n then kas_bin (n - max r.1 1) r.2 (max r.1 1) else .ret r.2) := by show run _ (KasT.bind _ _) = _; rw [run_bind, hr]
  by_cases h : r.1 < n
  · rw [if_pos h] at e
    obtain ⟨b1, b2⟩ := bin_ok (key := key) (n - max r.1 1) r.2 (max r.1 1) (by omega) (by rw [Nat.max_eq_left a3]; exact a5)
    rw [e]
    exact ⟨b1.trans a1, by rw [show max r.1 1 + (n - max r.1 1) = n by omega] at b2; exact b2⟩
  · rw [if_neg h] at e
    rw [e]
    exact ⟨a1, by rw [show n = r.1 by omega]; exact a5⟩
/-! what is asked lies within -/
def AskIn {α : Type} (P : Nat → Prop) (lt : Nat → Nat → Bool) : KasT α → Prop
  | .ret _ => True
  | .ask i j k => P i ∧ P j ∧ AskIn P lt (k (lt i j))
theorem AskIn.bind {α β : Type} {P : Nat → Prop} {lt : Nat → Nat → Bool} {f : α → KasT β} : ∀ {t : KasT α}, AskIn P lt t → AskIn P lt (f (run lt t)) → AskIn P lt (t.bind f)
  | .ret _, _, h => h
  | .ask _ _ _, ⟨a, b, c⟩, h => ⟨a, b, AskIn.bind c h⟩
theorem wp_in {α : Type} {P : Nat → Prop} {lt : Nat → Nat → Bool} {cmp : Nat → Nat → (Bool → Shared → Prop) → Shared → Prop} {s : Shared} (hc : ∀ i j C, P i → P j → C (lt i j) s → cmp i j C s) {Q : α → Shared → Prop} :
    ∀ (t : KasT α), AskIn P lt t → Q (run lt t) s → t.kasWp cmp Q s
  | .ret _, _, h => h
  | .ask i j k, ⟨a, b, c⟩, h => hc i j _ a b (wp_in hc (k (lt i j)) c h)
section
variable {P : Nat → Prop} {lt : Nat → Nat → Bool}
def All (P : Nat → Prop) (p : Array Nat) : Prop := ∀ i, P (p.getD i 0)
theorem All.of_perm {p q : Array Nat} (h0 : P 0) (h : All P p) (e : q.Perm p) : All P q := fun i => by
  rw [getD_eq]
  by_cases hi : i < q.size
  · rw [Array.getElem?_eq_getElem hi]
    show P q[i]
    have hm : q[i] ∈ p := (e.mem_iff).mp (Array.getElem_mem hi)
    obtain ⟨j, hj, e2⟩ := Array.getElem_of_mem hm
    have := h j
    rw [getD_eq, Array.getElem?_eq_getElem hj] at this
    rw [← e2]; exact this
  · rw [Array.getElem?_eq_none (by omega)]; exact h0
theorem asc_in {p : Array Nat} (h : All P p) : ∀ (f n : Nat), AskIn P lt (kas_asc p f n)
  | 0, _ => trivial
  | f + 1, n => ⟨h _, h _, by show AskIn P lt (if _ then _ else _); split; trivial; exact asc_in h f (n + 1)⟩
theorem desc_in (h0 : P 0) : ∀ (f : Nat) (p : Array Nat) (n q : Nat), All P p → AskIn P lt (kas_desc f p n q)
  | 0, _, _, _, _ => trivial
  | f + 1, p, n, q, h => by
    refine ⟨h _, h _, ?_⟩
    show AskIn P lt (if _ then _ else _)
    split
    · split
      · exact desc_in h0 f _ _ _ (h.of_perm h0 (rev_perm _ _ _))
      · exact desc_in h0 f _ _ _ h
    · refine ⟨h _, h _, ?_⟩
      show AskIn P lt (if _ then _ else _)
      split
      · trivial
      · exact desc_in h0 f _ _ _ h
theorem desc_perm : ∀ (f : Nat) (p : Array Nat) (n q : Nat), (run lt (kas_desc f p n q)).1.Perm p
  | 0, _, _, _ => Array.Perm.refl _
  | f + 1, p, n, q => by
    show (run lt (if lt (p.getD n 0) (p.getD (n - 1) 0) = true then (if q > 0 then kas_desc f (kas_rev p (n - (q + 1)) n) (n + 1) 0 else kas_desc f p (n + 1) 0)
      else .ask (p.getD (n - 1) 0) (p.getD n 0) fun d => if d = true then .ret (p, n, q) else kas_desc f p (n + 1) (q + 1))).1.Perm p
    split
    · split
      · exact (desc_perm f _ _ _).trans (rev_perm _ _ _)
      · exact desc_perm f _ _ _
    · show (run lt (if lt (p.getD (n - 1) 0) (p.getD n 0) = true then .ret (p, n, q) else kas_desc f p (n + 1) (q + 1))).1.Perm p
      split
      · exact Array.Perm.refl _
      · exact desc_perm f _ _ _
theorem tail3_in (h0 : P 0) {p : Array Nat} (h : All P p) (n nrem : Nat) : AskIn P lt (kas_tail3 n nrem p) := AskIn.bind (asc_in (h.of_perm h0 (rev_perm _ _ _)) _ _) trivial
theorem descPart_in (h0 : P 0) {p : Array Nat} (h : All P p) (n nrem : Nat) : AskIn P lt (kas_descPart n nrem p) := by
  refine AskIn.bind (desc_in h0 _ _ _ _ h) ?_
  have := h.of_perm h0 (desc_perm (lt := lt) (nrem - (n + 1)) p (n + 1) 0)
  split
  · exact tail3_in h0 (this.of_perm h0 (rev_perm _ _ _)) _ _
  · exact tail3_in h0 this _ _
theorem count_in (h0 : P 0) {p : Array Nat} (h : All P p) (nrem : Nat) : AskIn P lt (kas_count nrem p) := by
  refine AskIn.bind (asc_in h _ _) ?_
  split
  · trivial
  · split
    · refine ⟨h _, h _, ?_⟩
      show AskIn P lt (if _ then _ else _)
      split
      · trivial
      · exact descPart_in h0 (h.of_perm h0 (rev_perm _ _ _)) _ _
    · exact descPart_in h0 h _ _
theorem place_in {p : Array Nat} (h : All P p) (k : Nat) : ∀ (f l r : Nat), AskIn P lt (kas_place p k f l r)
  | 0, _, _ => trivial
  | f + 1, l, r => by
    show AskIn P lt (if _ then _ else _)
    split
    · trivial
    · refine ⟨h _, h _, ?_⟩
      show AskIn P lt (if _ then _ else _)
      split
      · exact place_in h k f _ _
      · exact place_in h k f _ _
theorem bin_in (h0 : P 0) : ∀ (f : Nat) (p : Array Nat) (k : Nat), All P p → AskIn P lt (kas_bin f p k)
  | 0, _, _, _ => trivial
  | f + 1, p, k, h => AskIn.bind (place_in h k _ _ _) (bin_in h0 f _ _ (h.of_perm h0 (bubble_perm _ _ _)))
end
theorem sort_in {n : Nat} (h1 : 1 ≤ n) : AskIn (· < n) (ltK key) (kas_sort n) := by
  have h : All (· < n) (List.toArray (List.range n)) := fun i => by
    rw [getD_eq]
    by_cases hi : i < n
    · simp [hi]
    · simp [hi]; omega
  refine AskIn.bind (count_in (by omega) h n) ?_
  obtain ⟨a1, _⟩ := count_ok (key := key) (p := List.toArray (List.range n)) (nrem := n) h1 (by simp)
  split
  · exact bin_in (by omega) _ _ _ (h.of_perm (by omega) a1)
  · trivial
end
end KasS
namespace KasS
open PySem PySem.W PyProof.Rows PySem.Calls
/-! ### tuples (number, value) sorted by their numbers -/
def Tps (h : Heap) : List Value → List (Int × Tok × Value) → Prop
  | [], [] => True
  | v :: vs, p :: ps => (∃ b o m, v = .ref b ∧ h.get? b = some o ∧ o.cls = .type "tuple" ∧ o.data = .seq #[.int p.1 p.2.1, p.2.2] m) ∧ Tps h vs ps
  | _, _ => False
theorem Tps.len {h : Heap} : ∀ {vs : List Value} {ps : List (Int × Tok × Value)}, Tps h vs ps → ps.length = vs.length
  | [], [], _ => rfl
  | _ :: _, _ :: _, ⟨_, t⟩ => by rw [List.length_cons, List.length_cons, Tps.len t]
  | [], _ :: _, t => t.elim
  | _ :: _, [], t => t.elim
theorem Tps.get {h : Heap} : ∀ {vs : List Value} {ps : List (Int × Tok × Value)}, Tps h vs ps → ∀ i, i < vs.length → ∃ p b o m, ps[i]? = some p ∧ vs.getD i .none = .ref b ∧ h.get? b = some o ∧ o.cls = .type "tuple" ∧ o.data = .seq #[.int p.1 p.2.1, p.2.2] m
  | _ :: _, p :: _, ⟨⟨b, o, m, e1, e2, e3, e4⟩, _⟩, 0, _ => ⟨p, b, o, m, rfl, by rw [e1]; rfl, e2, e3, e4⟩
  | _ :: vs, _ :: ps, ⟨_, t⟩, i + 1, hi => by
    obtain ⟨p, b, o, m, e1, e2, e3⟩ := Tps.get t i (by simpa using hi)
    exact ⟨p, b, o, m, by simpa using e1, by simpa using e2, e3⟩
  | [], [], _, _, hi => by simp at hi
  | [], _ :: _, t, _, _ => t.elim
  | _ :: _, [], t, _, _ => t.elim
theorem Tps.mono {h h' : Heap} : ∀ {vs : List Value} {ps : List (Int × Tok × Value)}, Tps h vs ps → (∀ b o, Value.ref b ∈ vs → h.get? b = some o → h'.get? b = some o) → Tps h' vs ps
  | [], [], _, _ => trivial
  | _ :: _, _ :: _, ⟨⟨b, o, m, e1, e2, e3⟩, t⟩, k => ⟨⟨b, o, m, e1, k b o (by rw [e1]; exact List.mem_cons_self) e2, e3⟩, Tps.mono t fun b o hb => k b o (List.mem_cons_of_mem _ hb)⟩
  | [], _ :: _, t, _ => t.elim
  | _ :: _, [], t, _ => t.elim
theorem Tps.kat {h : Heap} : ∀ {vs : List Value} {ps : List (Int × Tok × Value)}, Tps h vs ps → KatTups h vs (ps.map fun p => Value.int p.1 p.2.1)
  | [], [], _ => trivial
  | _ :: _, p :: _, ⟨⟨b, o, m, e1, e2, e3, e4⟩, t⟩ => ⟨⟨b, o, _, m, e1, e2, e3, e4, rfl⟩, Tps.kat t⟩
  | [], _ :: _, t => t.elim
  | _ :: _, [], t => t.elim
def keyAt (ps : List (Int × Tok × Value)) (i : Nat) : Int := ((ps[i]?).map (·.1)).getD 0
theorem keyAt_inj {ps : List (Int × Tok × Value)} (hn : (ps.map (·.1)).Nodup) {i j : Nat} (hi : i < ps.length) (hj : j < ps.length) (e : keyAt ps i = keyAt ps j) : i = j := by
  unfold keyAt at e
  rw [List.getElem?_eq_getElem hi, List.getElem?_eq_getElem hj] at e
  have e : ps[i].1 = ps[j].1 := e
  have h1 : i < (ps.map (·.1)).length := by simpa using hi
  have h2 : j < (ps.map (·.1)).length := by simpa using hj
  exact (List.getElem_inj (h₀ := h1) (h₁ := h2) hn).mp (by simpa using e)
section
variable {prog : Program} {w : World} {A : Around} {E : Value → Shared → Prop} {s : Shared}
theorem ask_tup {vs : List Value} {ps : List (Int × Tok × Value)} (tp : Tps s.heap vs ps) (hn : (ps.map (·.1)).Nodup) (i j : Nat) (C : Bool → Shared → Prop) (hi : i < vs.length) (hj : j < vs.length) (hC : C (ltK (keyAt ps) i j) s) :
    kas_ask prog w A (tuples' true) vs i j C s := by
  obtain ⟨p, b, o, m, e1, e2, e3, e4, e5⟩ := tp.get i hi
  obtain ⟨p', b', o', m', f1, f2, f3, f4, f5⟩ := tp.get j hj
  have k1 : keyAt ps i = p.1 := by unfold keyAt; rw [e1]; rfl
  have k2 : keyAt ps j = p'.1 := by unfold keyAt; rw [f1]; rfl
  unfold ltK at hC
  rw [k1, k2] at hC
  unfold kas_ask
  rw [e2, f2]
  refine kat_lt e3 e5 f3 f5 ?_
  show KatLex prog w A true (decide (2 < 2)) C [(Value.int p.1 p.2.1, Value.int p'.1 p'.2.1), (p.2.2, p'.2.2)] 0 s
  refine kat_cons (L2.eqAt_V (y := .int p.1) (x := .int p'.1) ⟨_, rfl⟩ ⟨_, rfl⟩ rfl rfl prog w _ _ ?_)
  show KatGo prog w A true _ C _ _ _ 0 (p.1 == p'.1) s
  by_cases e : p.1 = p'.1
  · rw [beq_iff_eq.mpr e]
    have hij : i = j := keyAt_inj hn (by rw [tp.len]; exact hi) (by rw [tp.len]; exact hj) (by rw [k1, k2, e])
    subst hij
    rw [e1] at f1
    cases f1
    refine kat_yes (kat_cons (SeqAt.EqAt.same _ prog w _ _ (kat_yes (kat_nil ?_))))
    rw [decide_eq_false (by omega)] at hC
    exact hC
  · rw [beq_eq_false_iff_ne.mpr e]
    exact kat_no (oneLt_int hC)
theorem tup_sort {a : Addr} {vs : List Value} {ps : List (Int × Tok × Value)} {n : Nat} {P : PySem.Fin → Shared → Prop} (ho : s.heap.get? a = some (seqObj "list" vs.toArray n)) (tp : Tps s.heap vs ps) (na : Value.ref a ∉ vs) (hn : (ps.map (·.1)).Nodup) (h64 : vs.length < 64)
    (h : ∀ q : Array Nat, q.Perm (List.toArray (List.range vs.length)) → Up (keyAt ps) q vs.length → P (.done (.ret .none)) { s with heap := sortedHeap s.heap a vs (List.toArray (q.toList.map fun i => vs.getD i Value.none)) }) :
    wpAny (model prog w) A (Builtin.«list.sort» ⟨[.ref a], []⟩) P E s := by
  have ha : a < s.heap.objs.size := Heap.lt_size ho
  have z64 : vs.length ≤ sizeLine := by rw [sizeLine_eq]; omega
  rw [list_sort_plain]
  obtain ⟨e1, ho1⟩ : ∃ e1, (s.heap.update a (Obj.mapSeq fun _ => (#[] : Array Value))).get? a = some (seqObj "list" #[] e1) := ⟨_, get?_update_seq ho _⟩
  refine wpAny_bind (listItems_at ho rfl (wpAny_bind (listUpdate_at ho rfl (wpAny_bind (seqEpoch_at ho1 rfl (wpAny_bind (wpAny_newTuple (wpAny_bind (wpAny_newList (wpAny_holding ?_) (Nat.zero_le _))) (by simpa using z64))))) (by simpa using z64) (Nat.zero_le _))))
  generalize hH : ((s.heap.update a (Obj.mapSeq fun _ => (#[] : Array Value))).push (seqObj "tuple" vs.toArray 0)).push (seqObj "list" #[] 0) = H6
  have keep : ∀ b o, b ≠ a → s.heap.get? b = some o → H6.get? b = some o := fun b o hb e => by
    rw [← hH]
    exact Heap.get?_push_of_some _ (Heap.get?_push_of_some _ ((Heap.get?_update_other _ _ (Ne.symm hb)).trans e))
  have ho6 : H6.get? a = some (seqObj "list" #[] e1) := by rw [← hH]; exact Heap.get?_push_of_some _ (Heap.get?_push_of_some _ ho1)
  have tp6 : Tps H6 vs ps := tp.mono fun b o hb e => keep b o (fun z => na (z ▸ hb)) e
  show wpAny (model prog w) A _ P E { s with heap := H6 }
  dsimp only
  have fin : ∀ q : Array Nat, q.Perm (List.toArray (List.range vs.length)) → Up (keyAt ps) q vs.length → P (.done (.ret .none)) { s with heap := H6.update a (Obj.mapSeq fun _ => List.toArray (q.toList.map fun i => vs.getD i Value.none)) } := fun q h1 h2 => by
    have := h q h1 h2
    unfold sortedHeap at this
    rw [show ((s.heap.update a (Obj.mapSeq fun _ => (#[] : Array Value))).push (seqObj "tuple" vs.toArray 0)).push (seqObj "list" #[] 0) = H6 from hH] at this
    exact this
  by_cases h2 : vs.toArray.size < 2
  · rw [if_pos h2, if_pos h2]
    refine wpAny_bind (wpAny_pure ?_)
    rw [StateT.run_pure]
    have hz : ((arrOf (SortSt.mk' general' (vs.toArray.zip vs.toArray) #[] 7 none)).map (·.2)) = List.toArray ((List.toArray (List.range vs.length)).toList.map fun i => vs.getD i Value.none) := by
      show (vs.toArray.zip vs.toArray).map (·.2) = _
      apply Array.toList_inj.mp
      simp only [Array.toList_map, Array.toList_zip, List.map_snd_zip (Nat.le_refl _)]
      apply List.ext_getElem
      · simp
      · intro i h3 h4
        simp
        rw [List.getElem?_eq_getElem (by simpa using h3)]; rfl
    refine wpAny_bind (wpAny_pure (wpAny_bind (seqEpoch_at ho6 rfl (wpAny_bind (listUpdate_at ho6 rfl ?_ (Nat.zero_le _) ?_)))))
    · dsimp only
      rw [hz]
      simp only [bne_self_eq_false, Bool.false_eq_true, if_false]
      exact wpAny_pure (fin _ (Array.Perm.refl _) fun i j hij hj => by rw [show i = j by (simp at h2); omega]; exact Int.le_refl _)
    · rw [hz]; simp; omega
  · rw [if_neg h2, if_neg h2]
    have hv2 : 2 ≤ vs.length := by simp at h2; omega
    refine wpAny_bind (kat_kind (s := { s with heap := H6 }) (T := .type "int") tp6.kat (by rw [List.length_map, tp.len]; omega) (fun v hv => ?_) rfl ?_)
    · obtain ⟨p, _, rfl⟩ := List.mem_map.mp hv
      exact .now
    have run1 := kat_run (prog := prog) (w := w) (A := A) (E := E) (s := { s with heap := H6 }) (κ := tuples' true) (ks := vs) (vs := vs)
      (Q := fun st' s' => s' = { s with heap := H6 } ∧ ∃ q : Array Nat, q.Perm (List.toArray (List.range vs.length)) ∧ Up (keyAt ps) q vs.length ∧ (arrOf st').map (·.2) = List.toArray (q.toList.map fun i => vs.getD i Value.none) ∧ failedOf st' = none)
      (G := fun q s' => s' = { s with heap := H6 } ∧ q.Perm (List.toArray (List.range vs.length)) ∧ Up (keyAt ps) q vs.length) rfl hv2 h64
      (fun q st' s' z1 z2 z3 z4 => ⟨z4.1, q, z4.2.1, z4.2.2, kat_snds rfl z2, z3⟩)
      (wp_in (P := (· < vs.length)) (lt := ltK (keyAt ps)) (fun i j C hi hj hC => ask_tup tp6 hn i j C hi hj hC) _ (sort_in (by omega)) ⟨rfl, (sort_ok (by omega)).1, (sort_ok (by omega)).2⟩)
    refine wpAny_bind (wpAny_mono run1 ?_ fun _ _ x => x)
    rintro ⟨⟨⟩, st'⟩ s' ⟨rfl, q, z1, z2, z3, z4⟩
    refine wpAny_bind (seqEpoch_at ho6 rfl (wpAny_bind (listUpdate_at ho6 rfl ?_ (Nat.zero_le _) ?_)))
    · dsimp only
      rw [z3, z4]
      simp only [bne_self_eq_false, Bool.false_eq_true, if_false]
      exact wpAny_pure (fin q z1 z2)
    · dsimp only
      rw [z3]
      have := z1.size_eq
      simp at this ⊢
      omega
end
end KasS
namespace PXS
open PySem L2 PySem.Spec PyProof.Rows KasS PX
/-! ### d.items(), sorted(d.items()) -/
theorem objThere {P : Program} {w : World} {H : Hp} {h : Heap} {a : Addr} {o : HO} (x : ObjOk P w H h a o) : ∃ u, h.get? a = some u := by
  cases o with
  | lst xs => obtain ⟨_, _, _, _, e⟩ := x; exact ⟨_, e⟩
  | tup xs => obtain ⟨_, _, _, ob, e, _⟩ := x; exact ⟨_, e⟩
  | dK kvs => obtain ⟨_, _, _, _, o, _, _, e, _⟩ := x; exact ⟨_, e⟩
  | dT kvs => obtain ⟨_, _, _, _, o, _, _, e, _⟩ := x; exact ⟨_, e⟩
  | set S n => obtain ⟨o, _, _, _, e, _⟩ := x; exact ⟨_, e⟩
  | ins C dx fs => obtain ⟨_, _, _, e, _⟩ := x; exact ⟨_, e⟩
  | own y => obtain ⟨_, e⟩ := x; exact ⟨_, e⟩
  | xd fs => obtain ⟨_, ⟨_, _, _, e, _⟩, _⟩ := x; exact ⟨_, e⟩
  | rng lo hi => obtain ⟨_, _, _, e⟩ := x; exact ⟨_, e⟩
  | frz ob u => obtain ⟨e, _⟩ := x; exact ⟨_, e⟩
  | tbl ps => exact ⟨_, show h.get? a = some _ from x⟩
  | met f y => exact ⟨_, show h.get? a = some _ from x⟩
  | ext φ => obtain ⟨_, ⟨_, e⟩, _⟩ := x; exact ⟨_, e⟩
section
variable {X : Cx}
theorem mt_items : MtM X "dict.items" rItems := by
  intro pins s σ H x vs v us Q I rx rv h
  obtain ⟨d, kvs, rfl, rfl, hH, q⟩ := h
  cases rx
  have hus := rv.zero
  subst hus
  obtain ⟨z, sy, ws, kv, hD⟩ := I.hok d _ hH
  refine call_meetsIn PySem.F.slot_dict_items hD.typeIs PySem.F.entry_dict_items (PySem.F.args_dict_items_1 _) (meets_dict_items _ d sy) ⟨⟨ws, hD⟩, ?_⟩
  refine ⟨.ref _, _, I.laid (t' := s.toks) (o := viewO s.heap.objs.size d) (fun _ _ q => Heap.get?_push_of_some _ q) (Nat.le_refl _) ⟨Heap.get?_push_size _ rfl, ⟨_, Heap.get?_push_size _ rfl⟩, fun h1 h2 e k => k _ e⟩, rfl, q _ I.fresh⟩
theorem laidAll {pins : List (Addr × Obj)} {σ : L2.St} {H H' : Hp} {s : Shared} {h' : Heap} {t' : Nat} (I : Inv X pins σ H s) (k : ∀ b u, s.heap.get? b = some u → h'.get? b = some u) (sub : ∀ b o, H b = some o → H' b = some o)
    (nw : ∀ b o, H b = none → H' b = some o → s.heap.get? b = none ∧ ObjOk X.prog X.w H' h' b o) : Inv X pins σ H' { s with heap := h', toks := t' } := by
  refine I.un ⟨fun b u q _ _ _ => k b u q, fun b u q _ _ _ => ⟨u.slots, k b u q⟩, fun b u q n _ => ?_, fun b u q _ => ⟨u, k b u q⟩, fun b xs q => sub _ _ q, fun b u xs q => sub _ _ q, fun b ps q => ⟨#[], by rw [sub _ _ q]; simp⟩⟩ fun b o e => ?_
  · cases e : H' b with
    | none => rfl
    | some o => rw [(nw b o n e).1] at q; cases q
  · cases e2 : H b with
    | none => exact (nw b o e2 e).2
    | some u =>
      have := sub _ _ e2
      rw [e] at this
      cases this
      exact (I.hok b o e2).stay (fun c v _ q => k c v q) (fun c q => sub _ _ q) fun c xs q => sub _ _ q
theorem tps_of {h : Heap} : ∀ (as : List Addr) (ws : List (Key × Value)) (ns : List Int), as.length = ws.length → ws.map (·.1) = ns.map Sum.inl →
    (∀ (j : Nat) (a : Addr), as[j]? = some a → ∃ key k x, ws[j]? = some (k, x) ∧ keyIs k key = true ∧ h.get? a = some { cls := .type "tuple", data := .seq #[key, x] }) →
    ∃ ps, Tps h (as.map Value.ref) ps ∧ ps.map (·.1) = ns ∧ ps.map (·.2.2) = ws.map (·.2)
  | [], [], ns, _, e, _ => ⟨[], trivial, by cases ns with | nil => rfl | cons => simp at e, rfl⟩
  | [], _ :: _, _, hl, _, _ => by simp at hl
  | _ :: _, [], _, hl, _, _ => by simp at hl
  | a :: as, (k, x) :: ws, ns, hl, e, hp => by
    cases ns with
    | nil => simp at e
    | cons n ns =>
      simp only [List.map_cons, List.cons.injEq] at e
      obtain ⟨ps, t, e1, e2⟩ := tps_of as ws ns (by simpa using hl) e.2 fun j b hb => by
        obtain ⟨key, k', x', f1, f2, f3⟩ := hp (j + 1) b (by simpa using hb)
        exact ⟨key, k', x', by simpa using f1, f2, f3⟩
      obtain ⟨key, k', x', f1, f2, f3⟩ := hp 0 a rfl
      simp at f1
      obtain ⟨rfl, rfl⟩ := f1
      obtain ⟨j, tk, g1, rfl⟩ : ∃ j tk, k = Sum.inl j ∧ key = Value.int j tk := by
        rcases keyIs_shape f2 with ⟨j, tk, g1, g2⟩ | ⟨y, tk, g1, g2⟩
        · exact ⟨j, tk, g1, g2⟩
        · rw [g1] at e; cases e.1
      rw [g1] at e
      obtain rfl : j = n := by injection e.1
      exact ⟨(j, tk, x) :: ps, ⟨⟨a, _, _, rfl, f3, rfl, rfl⟩, t⟩, by rw [List.map_cons, e1], by rw [List.map_cons, e2]; rfl⟩
theorem lookup_zip_at {α : Type} : ∀ {as : List Addr} {ts : List α} {b : Addr} {t : α}, (as.zip ts).lookup b = some t → ∃ j : Nat, as[j]? = some b ∧ ts[j]? = some t
  | [], _, _, _, h => by simp at h
  | _ :: _, [], _, _, h => by simp at h
  | a :: as, u :: ts, b, t, h => by
    rw [List.zip_cons_cons, List.lookup_cons] at h
    split at h
    · rename_i hb
      cases h
      exact ⟨0, by rw [eq_of_beq hb]; rfl, rfl⟩
    · obtain ⟨j, h1, h2⟩ := lookup_zip_at h
      exact ⟨j + 1, by simpa using h1, by simpa using h2⟩
theorem kv_rel : ∀ {kvs : List (Key × V)} {ws : List (Key × Value)}, KV kvs ws → ws.map (·.1) = kvs.map (·.1) ∧ ∀ i : Nat, i < kvs.length → RelV ((kvs.map (·.2)).getD i .non) ((ws.map (·.2)).getD i .none) := by
  intro kvs ws h
  induction h with
  | nil => exact ⟨rfl, fun i hi => by simp at hi⟩
  | @cons p q _ _ h1 _ ih =>
    refine ⟨by rw [List.map_cons, List.map_cons, ih.1, h1.1], fun i hi => ?_⟩
    cases i with
    | zero => exact h1.2
    | succ i => simpa using ih.2 i (by simpa using hi)
theorem vals_map {α : Type} {f : α → V} {g : α → Value} : ∀ {l : List α}, (∀ i ∈ l, RelV (f i) (g i)) → Vals (l.map f) (l.map g)
  | [], _ => .nil
  | i :: l, h => .cons (h i List.mem_cons_self) (vals_map fun j hj => h j (List.mem_cons_of_mem _ hj))
theorem call_sortedItems (hc : X.calm = true) : CallR X (.builtin "sorted") rSI := by
  intro pins s σ H xs us Q I rr hh
  obtain ⟨r, d, kvs, ns, rfl, hr, hd, hk, h64, q⟩ := hh
  obtain ⟨u, rfl, rx⟩ := vals1 rr
  cases rx
  obtain ⟨hview, _, _⟩ := I.hok r _ hr
  obtain ⟨z, sy, ws, kv, hD⟩ := I.hok d _ hd
  obtain ⟨ep, hat⟩ := hD.dictAt
  obtain ⟨kv1, kv2⟩ := kv_rel kv
  have lw : ws.length = kvs.length := by have := congrArg List.length kv1; simpa using this
  have ln : ns.length = kvs.length := by have := congrArg List.length hk; simpa using this.symm
  have nd : ns.Nodup := by
    obtain ⟨_, _, _, _, _, _, _, _, n⟩ := hD
    rw [kv1, hk] at n
    exact (List.pairwise_map.mp n).imp fun h e => h (by rw [e])
  refine Calls.call_function_entry kind_sorted plain_sorted entry_sorted (args_sorted1 _) ?_
  unfold Builtin.«sorted»
  refine wpAny_bind (m := checkCount "sorted" 1 1 _) (wpAny_pure ?_)
  refine wpAny_bind (PySem.W.kdx_collect (A := X.A.in1) (knd := mixKind X.prog X.w) (kvs := ws) (ep := ep) (I.ok.hd hc) ⟨_, hview, rfl, rfl⟩ hat (by rw [lw]; exact z) fun h' tk as keep hl hG => wpAny_bind (wpAny_newList ?_ (by rw [List.length_map, hl, lw]; exact z)))
  obtain ⟨ps, tp, e1, e2⟩ := tps_of (h := h') as ws ns hl (by rw [kv1, hk]) fun j a ha => hG.pairs j a ha
  have la : as.length = ns.length := by omega
  have above : ∀ a ∈ as, s.heap.objs.size < a := hG.above
  have there : ∀ a ∈ as, a < h'.objs.size := fun a ha => hG.there ha
  generalize hB : h'.objs.size = B at *
  have noB : s.heap.get? B = none := by
    cases e : s.heap.get? B with
    | none => rfl
    | some o => exact absurd (Heap.lt_size (keep B o e)) (by rw [hB]; exact Nat.lt_irrefl _)
  have noA : ∀ a ∈ as, s.heap.get? a = none := fun a ha => Heap.get?_none_of_le (Nat.le_of_lt (above a ha))
  have free : ∀ b, s.heap.get? b = none → H b = none := fun b e => by
    cases e2 : H b with
    | none => rfl
    | some o => obtain ⟨u, hu⟩ := objThere (I.hok b o e2); rw [e] at hu; cases hu
  have hoL : (h'.push { cls := .type "list", data := .seq (as.map Value.ref).toArray }).get? B = some (seqObj "list" (as.map Value.ref).toArray 0) := by rw [← hB]; exact Heap.get?_push_size _ rfl
  refine wpAny_bind (wpAny_holding (wpAny_call_entry PySem.F.slot_list_sort ⟨_, hoL, rfl⟩ PySem.F.entry_list_sort ?body (PySem.F.args_list_sort_1 _)))
  case body =>
    refine tup_sort (s := { s with heap := h'.push { cls := .type "list", data := .seq (as.map Value.ref).toArray }, toks := tk }) (ps := ps) hoL (tp.mono fun b o _ e => Heap.get?_push_of_some _ e) (fun z => ?_) (by rw [e1]; exact nd) (by rw [List.length_map]; omega) fun qa z1 z2 => ?_
    · obtain ⟨a, ha, e⟩ := List.mem_map.mp z
      cases e
      exact absurd (there B ha) (Nat.lt_irrefl _)
    refine ⟨_, rfl, wpAny_pure ⟨_, rfl, ?_⟩⟩
    have lq : qa.toList.length = ns.length := by have := z1.size_eq; simpa [la] using this
    have pq : qa.toList.Perm (List.range ns.length) := by have := Array.perm_iff_toList_perm.mp z1; simpa [la] using this
    have inq : ∀ i ∈ qa.toList, i < ns.length := fun i hi => by have := pq.mem_iff.mp hi; simpa using this
    have nda : as.Nodup := hG.rise.imp fun h => Nat.ne_of_lt h
    have ndq : qa.toList.Nodup := pq.nodup_iff.mpr List.nodup_range
    generalize hS : sortedHeap (h'.push { cls := .type "list", data := .seq (as.map Value.ref).toArray }) B (as.map Value.ref) (List.toArray (qa.toList.map fun i => (as.map Value.ref).getD i Value.none)) = S
    have hFa : ∀ b o, b ≠ B → h'.get? b = some o → S.get? b = some o := fun b o hb e => by
      rw [← hS]
      unfold sortedHeap
      exact (Heap.get?_update_other _ _ (Ne.symm hb)).trans (Heap.get?_push_of_some _ (Heap.get?_push_of_some _ ((Heap.get?_update_other _ _ (Ne.symm hb)).trans (Heap.get?_push_of_some _ e))))
    have hFB : ∃ c, S.get? B = some (seqObj "list" (List.toArray (qa.toList.map fun i => (as.map Value.ref).getD i Value.none)) c) := by
      rw [← hS]
      unfold sortedHeap
      exact ⟨_, get?_update_seq (Heap.get?_push_of_some _ (Heap.get?_push_of_some _ (get?_update_seq hoL _))) _⟩
    have hF : ∀ b o, s.heap.get? b = some o → S.get? b = some o := fun b o e => hFa b o (fun z => by rw [z, noB] at e; cases e) (keep b o e)
    have aget : ∀ i, i < ns.length → ∃ a, as[i]? = some a ∧ as.getD i 0 = a ∧ a ∈ as := fun i hi => by
      have h1 : i < as.length := by omega
      exact ⟨as[i], List.getElem?_eq_getElem h1, by simp [List.getD, List.getElem?_eq_getElem h1], List.getElem_mem h1⟩
    have mem : ∀ a ∈ (qa.toList.map fun i => as.getD i 0), a ∈ as := fun a ha => by
      obtain ⟨i, hi, rfl⟩ := List.mem_map.mp ha
      obtain ⟨a, _, e, m⟩ := aget i (inq i hi)
      rw [e]; exact m
    have neB : ∀ a ∈ as, a ≠ B := fun a ha => Nat.ne_of_lt (there a ha)
    have kat : ∀ i, keyAt ps i = ns.getD i 0 := fun i => by
      unfold keyAt
      rw [← e1]
      simp [List.getD]
    refine ⟨.ref B, updT H B (qa.toList.map fun i => as.getD i 0) (qa.toList.map fun i => [V.int (ns.getD i 0), (kvs.map (·.2)).getD i .non]), ?_, rfl, q B _ qa.toList pq ?_ nd (by simp) ?_ ?_⟩
    · show L2.Inv X pins σ _ { s with heap := S, toks := tk }
      refine laidAll I hF (fun b o e => ?_) fun b o e e2 => ?_
      · unfold updT upd layT
        rw [if_neg fun z => by rw [z, free _ noB] at e; cases e]
        cases e3 : List.lookup b ((qa.toList.map fun i => as.getD i 0).zip (qa.toList.map fun i => [V.int (ns.getD i 0), (kvs.map (·.2)).getD i .non])) with
        | none => exact e
        | some t =>
          obtain ⟨j, g1, _⟩ := lookup_zip_at e3
          rw [free _ (noA b (mem b (List.mem_of_getElem? g1)))] at e
          cases e
      · unfold updT upd layT at e2
        split at e2
        · rename_i hb
          subst hb
          cases e2
          obtain ⟨c, hc⟩ := hFB
          refine ⟨noB, by simp [lq]; rw [ln]; exact z, _, c, ?_, hc⟩
          rw [List.map_map]
          refine vals_map fun i hi => ?_
          obtain ⟨a, f1, f2, _⟩ := aget i (inq i hi)
          show RelV (V.ref (as.getD i 0)) _
          rw [f2]
          simp [List.getD, f1]
          rfl
        · split at e2
          · rename_i t e3
            cases e2
            obtain ⟨j, g1, g2⟩ := lookup_zip_at e3
            rw [List.getElem?_map] at g1 g2
            cases e4 : qa.toList[j]? with
            | none => rw [e4] at g1; cases g1
            | some i =>
              rw [e4] at g1 g2
              have hi := inq i (List.mem_of_getElem? e4)
              obtain ⟨a, f1, f2, f3⟩ := aget i hi
              simp only [Option.map_some, Option.some.injEq] at g1 g2
              rw [f2] at g1
              subst g1
              subst g2
              obtain ⟨key, k, x, w1, w2, w3⟩ := hG.pairs i a f1
              have wk : k = Sum.inl (ns.getD i 0) := by
                have h1 : (ws.map (·.1))[i]? = some k := by rw [List.getElem?_map, w1]; rfl
                rw [kv1, hk, List.getElem?_map] at h1
                rw [List.getElem?_eq_getElem hi] at h1
                simp [List.getD, List.getElem?_eq_getElem hi] at h1 ⊢
                exact h1.symm
              obtain ⟨tk2, rfl⟩ : ∃ tk, key = Value.int (ns.getD i 0) tk := by
                rcases keyIs_shape w2 with ⟨j, tk, g1, g2⟩ | ⟨y, tk, g1, g2⟩
                · rw [wk] at g1; cases g1; exact ⟨tk, g2⟩
                · rw [wk] at g1; cases g1
              have wx : (ws.map (·.2)).getD i .none = x := by simp [List.getD, w1]
              refine ⟨noA a f3, by simp [sizeLine_eq], [_, x], .cons ⟨_, rfl⟩ (.cons ?_ .nil), _, hFa a _ (neB a f3) w3, rfl, _, rfl⟩
              rw [← wx]
              exact kv2 i (by omega)
          · rw [e] at e2; cases e2
    · refine List.pairwise_iff_getElem.mpr fun i j hi hj hij => ?_
      have := z2 i j (Nat.le_of_lt hij) (by simpa [la, lq] using hj)
      unfold Kp at this
      rw [kat, kat] at this
      have hi' : i < qa.size := by simpa using hi
      have hj' : j < qa.size := by simpa using hj
      rw [Array.getElem?_eq_getElem hi', Array.getElem?_eq_getElem hj'] at this
      simpa using this
    · intro a ha
      rcases List.mem_cons.mp ha with rfl | ha
      · exact free _ noB
      · exact free _ (noA a (mem a ha))
    · refine List.nodup_cons.mpr ⟨fun h => neB _ (mem _ h) rfl, ?_⟩
      refine List.pairwise_map.mpr (ndq.imp_of_mem fun {i j} hi hj hij e => hij ?_)
      obtain ⟨a, f1, f2, _⟩ := aget i (inq i hi)
      obtain ⟨b, g1, g2, _⟩ := aget j (inq j hj)
      rw [f2, g2] at e
      subst e
      exact (List.getElem?_inj (by have := inq i hi; omega) nda).mp (f1.trans g1.symm)
variable {A : Nat → Addr} {o : Expr} {xa : XE} {pos p apos cpos : Pos} {x : Str}
theorem z_sortI (hc : X.calm = true) (ho : ZE X A o xa) (m : Nm x) (hg : Gl X x) (hm : X.mg x = none) (hv : bootBuiltins x = some (.builtin "sorted"))
    (hbase : attributeBase o "items" X.env (eval o X.env) = eval o X.env) (hline : (apos.endLine == cpos.line) = true)
    (he : starEach [.Call (.Attribute o "items" apos) [] [] cpos] X.env = (false, eval (.Call (.Attribute o "items" apos) [] [] cpos) X.env) :: starEach [] X.env) (hpl : (backTo pos (starEach [] X.env)).any (·.1) = false) :
    ZO X A (.Call (.Name x p) [.Call (.Attribute o "items" apos) [] [] cpos] [] pos) (xSortI xa) :=
  wO (pe_callB (call_sortedItems hc) hg hm hv (pa_cons (pe_bm0 PySem.F.plainAttrs_dict PySem.F.slot_dict_items PySem.F.type_dict_items mt_items ho.of hbase hline) pa_nil he) m.n m.d he hpl) (snd_sortI (K := ckX X A) sE)
end
end PXS
namespace PX
open PySem L2 PySem.Spec PyProof.Rows
section
theorem turn_rev {P : Program} {w : World} {K : PySem.W.Frag} {tg : Expr} (a it : Addr) (m : Nat) : Turn P w K tg (ItR K a m) [it] it (fun i h => i ≤ m ∧ h.IsRevIter it a ((m : Int) - 1 - (i : Nat))) where
  mem := by simp
  obj := fun i h st b hb => by
    have e : b = it := by simpa using hb
    subst e
    obtain ⟨_, o, e, c, d⟩ := st
    exact ⟨o, e, fun v z => by rw [d] at z; cases z⟩
  keep := fun i h h' st k => ⟨st.1, st.2.at fun o e => k it (by simp) o e⟩
  item := by
    intro X hP hw hK hc i pins s σ H E I hf st hg
    subst hP hw hK
    obtain ⟨hi, xs, x, hq, hx⟩ := hg
    obtain ⟨its, rv, p, hz⟩ := I.list hq
    obtain ⟨u, hu, ru⟩ := rv.get hx
    obtain ⟨f0, f1, f2, f3, f4, f5⟩ := hf it (by simp)
    have e0 : (m : Int) - 1 - (i : Nat) = ((m - 1 - i : Nat) : Int) := by omega
    have st2 := st.2
    rw [e0] at st2
    refine wpAny_pyNext_rev_item st2 p.isList (x := u) (by simpa using hu) fun h' st' sb => ?_
    have I1 : Inv X pins σ H { s with heap := h' } := I.turned (t' := s.toks) (fun b o hb e => (sb.2 b hb).trans e) f0 f1 f3 f4 f5
    obtain ⟨o, e, c, d⟩ := id st'
    have e2 : ((m - 1 - i : Nat) : Int) - 1 = (m : Int) - 1 - ((i + 1 : Nat) : Int) := by omega
    rw [e2] at st'
    exact ⟨u, rfl, go_of (s := { s with heap := h' }) e c d (by decide) ⟨x, H, I1, ru, ⟨rfl, fun ys hy => by rw [I.list_inj hy hq]; exact hx⟩, ⟨hi, st'⟩, fun b hb => (hf b hb).1⟩⟩
  done := by
    intro X hP hw hK hc i pins s σ H E I hf st hg
    subst hP hw hK
    obtain rfl : i = m := hg
    obtain ⟨f0, f1, f2, f3, f4, f5⟩ := hf it (by simp)
    have st2 := st.2
    rw [show (i : Int) - 1 - (i : Nat) = -1 by omega] at st2
    exact wpAny_pyNext_rev_end (I.ok.hd hc) st2 fun h' eb => ⟨rfl, I.turned (t' := s.toks) (fun b o hb e => eb b o hb e) f0 f1 f3 f4 f5⟩
  self := fun _ _ _ _ _ st h => wpAny_pyIter_revIter st.2 h
variable {X : Cx} {A : Nat → Addr} {tg a : Expr} {p pos : Pos} {xa : XE}
theorem pi_rev {ta : TE} (hg : Gl X "reversed") (hm : X.mg "reversed" = none) (ha : PE X a ta) (he : starEach [a] X.env = (false, eval a X.env) :: starEach [] X.env) (hs : starEach [a] X.env = [(false, eval a X.env)]) : PI X tg (.Call (.Name "reversed" p) [a] [] pos) (iRev X.K ta) := by
  intro pins s σ H R I h
  refine Call_ (ld_blt I hg hm bt_reversed (PyProof.Rows.callWith_type1 (thn (pa_cons ha pa_nil he pos pins s σ H (fun vs H1 => match vs with | [x] => ∃ b xs, x = .ref b ∧ SqL X.K H1 b xs ∧ R (ItR X.K b xs.length) H1 | _ => False) I h) fun us s1 ⟨vs, H1, I1, r1, q1⟩ => ?_) hs rfl))
  cases r1 with
  | nil => exact q1.elim
  | cons r rr =>
    cases rr with
    | cons => exact q1.elim
    | nil =>
    obtain ⟨b, xs, e, hq, q⟩ := q1
    subst e
    cases r
    obtain ⟨its, rv, pp, hz⟩ := I1.list hq
    have hl := rv.length
    refine call_reversed_list pp.isList (wpAny_pyIter_revIter (s := { s1 with heap := s1.heap.push (revObj b ((its.toArray.size : Int) - 1)) }) (l := b) (i := (its.toArray.size : Int) - 1) ⟨_, Heap.get?_push_size _ rfl, rfl, rfl⟩ ?_)
    refine ⟨s1.heap.objs.size, [s1.heap.objs.size], _, _, H1, rfl, I1.kept (t' := s1.toks) fun b o e => Heap.get?_push_of_some _ e, turn_rev b _ xs.length, ⟨Nat.zero_le _, _, Heap.get?_push_size _ rfl, rfl, ?_⟩, fun b hb => ?_, q⟩
    · show Data.fields #[.ref b, rawInt ((its.toArray.size : Int) - 1)] = Data.fields #[.ref b, rawInt ((xs.length : Int) - 1 - ((0 : Nat) : Int))]
      rw [hl]
      simp
    · have e : b = s1.heap.objs.size := by simpa using hb
      subst e
      exact I1.fpOk (Nat.le_refl _) (I1.hok.fresh (Nat.le_refl _))
theorem zs_forF {rest : List Stmt} {s : XS} {y : XG} (hp : PassesOwn (model X.prog X.w) X.A X.env X.xe) (hc : X.calm = true) (hi : ZE X A a xa) (hg : ZG X A tg y) (hb : ZSs X A rest s) (hs : ∀ x, foldedSetIterable a X.env x = pure x) : ZS X A (.For tg a rest [] pos) (xForX false xa y s) :=
  wS (ps_for hp hc (pi_list hi.of) hg.of hb.of hs) (snd_forF (K := ckX X A) sE sG sS)
theorem zs_forR {rest : List Stmt} {s : XS} {y : XG} {pos' : Pos} (hp : PassesOwn (model X.prog X.w) X.A X.env X.xe) (hc : X.calm = true) (hgl : Gl X "reversed") (hm : X.mg "reversed" = none) (hi : ZE X A a xa) (he : starEach [a] X.env = (false, eval a X.env) :: starEach [] X.env) (hs1 : starEach [a] X.env = [(false, eval a X.env)])
    (hg : ZG X A tg y) (hb : ZSs X A rest s) (hs : ∀ x, foldedSetIterable (.Call (.Name "reversed" p) [a] [] pos') X.env x = pure x) : ZS X A (.For tg (.Call (.Name "reversed" p) [a] [] pos') rest [] pos) (xForX true xa y s) :=
  wS (ps_for hp hc (pi_rev hgl hm hi.of he hs1) hg.of hb.of hs) (snd_forR (K := ckX X A) sE sG sS)
end
end PX
namespace PX
open PySem L2 PySem.Spec PyProof.Rows
section
variable {X : Cx} {A : Nat → Addr} {a o : Expr} {xa xb : XE} {pos apos cpos : Pos}
theorem mt_upd : MtM X "dict.update" rUpd := by
  intro pins s σ H x vs v us Q I rx rv h
  obtain ⟨d, b, kvs, more, rfl, rfl, hne, hH, hB, hz, q⟩ := h
  cases rx
  obtain ⟨u, rfl, ru⟩ := rv.one
  cases ru
  obtain ⟨z, hd, vs, rel, dd⟩ := dk_of I.hok hH
  obtain ⟨z2, hd2, vs2, rel2, dd2⟩ := dk_of I.hok hB
  refine call_meetsIn PySem.F.slot_dict_update dd.typeIs PySem.F.entry_dict_update (PySem.F.args_dict_update_2 _ _) (meets_dict_update (mixKind X.prog X.w) d b hne hd2) ⟨vs, vs2, dd, dd2, by rw [← rel.length, ← rel2.length]; exact hz, fun h' dd' _ hs => ?_⟩
  have he : ∃ q, h'.get? d = some q := let ⟨q, _, _, hq, _⟩ := dd'; ⟨q, hq⟩
  refine ⟨.non, _, d_write (t' := s.toks) I (by rw [hH]; exact True.intro) hs he (dk_new ?_ hd (rel2.merge rel) dd'), rfl, q⟩
  exact Nat.le_trans (length_mergeK more kvs) hz
end
end PX
namespace L2
open PySem PySem.Spec PyProof.Rows PX
end L2
namespace PX
open PySem L2 PySem.Spec PyProof.Rows
variable {X : Cx} {A : Nat → Addr} {x : Str}
end PX
namespace L2
open PySem PySem.Spec PyProof.Rows PX
theorem ps_setC {y : Str} {py spos : Pos} {iy : Nat} {X : Cx} {elt iter : Expr} {x : Str} {px : Pos} {scope : Scope} {cpos : Pos} {wi : TI} {te : TE} (ix : List Nat) (fr : List Str) (hc : X.calm = true) (hi : PI X (.Name x px) iter wi) (hfr : FrOk X scope ix fr)
    (he : ∀ (cl : List (Str × Addr)) (C : Addr) (s₃ : Shared) (H₃ : Hp) (fp : List Addr) (pins : List (Addr × Obj)), PE (cxC X scope cl C (x :: fr) s₃ H₃ fp pins) elt te)
    (hnd : (x :: fr).Nodup) (hkind : scope.kind = .function) (hcell : ∀ y ∈ scope.names, y.2 ≠ .cell)
    (hnames : ∀ y ∈ scope.names, y.2 = .local → scope.names.lookup y.1 = some .local) (hfree0 : ∀ y ∈ scope.names, y.2 = .free → y.1 ∈ fr) (hx : scope.names.lookup x = some .local)
    (hs : ∀ v, foldedSetIterable iter X.env v = pure v)
    (hN : X.N.Nodup) (hyi : X.N[iy]? = some y) (hyx : Loc X.env.scope y) (hyf : X.fn y = true ∨ X.env.scope.names.lookup y = some .local) (hsw : swapsWith (.ListComp elt [⟨.Name x px, iter, [], 0⟩] scope cpos) (some (.Name y py)) spos.line X.env = pure true) :
    PS X (.Assign [.Name y py] (.ListComp elt [⟨.Name x px, iter, [], 0⟩] scope cpos) spos) (tAsg (tComp wi ix te) (gName iy)) := by
  intro pins s σ H D0 I h
  have hfn : X.env.scope.kind = .function := I.ok.kind
  have hfree : ∀ y ∈ scope.names, y.2 = .free → X.env.kindOf y.1 = some .cell ∧ scope.names.lookup y.1 = some .free := fun y hy e => by
    obtain ⟨j, hj, ej⟩ := List.getElem_of_mem (hfree0 y hy e)
    obtain ⟨i, _, _, h3, h4⟩ := hfr.get (j := j) (y := y.1) (by rw [List.getElem?_eq_getElem hj, ej])
    exact ⟨h4, h3⟩
  obtain ⟨cl, ecl, hcl1, hcl2⟩ := closure_some (env := X.env) scope.names [] fun n hn => I.ok.has n (.inl (hfree _ hn rfl).1)
  have hclos : closureFor scope X.env = pure cl := by
    unfold closureFor
    have : (forIn scope.names ([] : List (Str × Addr)) (fun (x : Str × NameKind) (r : List (Str × Addr)) => if (x.2 == NameKind.free) = true then do let c ← cellOf X.env x.1; pure (ForInStep.yield ((x.1, c) :: r)) else pure (ForInStep.yield r)) : Sem (List (Str × Addr))) = pure cl := ecl
    first
      | exact (by simpa using congrArg (· >>= fun r => pure r) this)
      | (rw [show (pure cl : Sem (List (Str × Addr))) = (pure cl >>= fun r => pure r) from rfl, ← this]; rfl)
  have hcle : ∀ y c, cl.lookup y = some c → X.env.cells.lookup y = some c ∧ (y, NameKind.free) ∈ scope.names := fun y c e => by
    by_cases hy : (y, NameKind.free) ∈ scope.names
    · exact ⟨by rw [← hcl1 y hy]; exact e, hy⟩
    · rw [hcl2 y hy] at e; simp at e
  rw [exec_Assign_Name_used _ _ _ _ hsw]
  refine wpAny_bind (wpAny_standAt (wpAny_bind ?_))
  show wpAny _ X.A (do let _ ← comprehension (.ListComp elt [⟨.Name x px, iter, [], 0⟩] scope cpos) scope X.env _ (newList []) false (eval iter X.env) (some (assign (.Name y py) X.env))) _ _ s
  refine wpAny_bind (wpAny_mono (wpAny_comprehension_free (use := some (assign (.Name y py) X.env)) (Q := fun _ s' => SP X pins D0 .next s') rfl hs hclos hkind hnames ?_) (fun _ s' hq => wpAny_pure (wpAny_pure hq)) fun _ _ e => e)
  refine thn (hi pins s σ H _ I h) fun v s1 h1 => thn h1 fun itv s2 h2 => ?_
  obtain ⟨it, fp, tn, J, H2, e, I2, T, st2, f2, q2⟩ := h2
  subst e
  refine wpAny_newObj_type ?_
  -- the list D
  generalize hs3 : ({ s2 with heap := s2.heap.push { cls := .type "list", dict := none, data := .seq ([] : List Value).toArray } } : Shared) = s3
  generalize hD : s2.heap.objs.size = D
  have hDn : H2 D = none := by rw [← hD]; exact I2.hok.fresh (Nat.le_refl _)
  have I3 : Inv X pins σ (upd H2 D (.lst [])) s3 := by
    rw [← hs3, ← hD]
    exact I2.lnew (t' := s2.toks) (ys := []) (its := []) .nil (Nat.zero_le _)
  have k3 : ∀ b o, s2.heap.get? b = some o → s3.heap.get? b = some o := fun b o e => by rw [← hs3]; exact Heap.get?_push_of_some _ e
  have st3 : tn 0 s3.heap := T.keep _ _ _ st2 fun b _ o e => k3 b o e
  have fne : ∀ b ∈ fp, b ≠ D := fun b hb => by
    obtain ⟨o, e, _⟩ := T.obj _ _ st2 b hb
    rw [← hD]
    exact Nat.ne_of_lt (Heap.lt_size e)
  have f3 : ∀ b ∈ fp, FpOk X pins (upd H2 D (.lst [])) b := fun b hb => ⟨by rw [upd_ne (fne b hb)]; exact (f2 b hb).1, (f2 b hb).2⟩
  have q3 := q2 D hDn
  generalize upd H2 D (.lst []) = H3 at I3 f3 q3
  obtain ⟨W, ⟨m0, w0⟩, turn⟩ := q3
  refine wpAny_newFunctionEnv hcell (by intro y hy; simp at hy) (fun h4 hns hsb => ?_) hkind
  try dsimp only at hns hsb ⊢
  generalize hC : s3.heap.objs.size = C at hns hsb ⊢
  have k4 : ∀ b o, s3.heap.get? b = some o → h4.get? b = some o := fun b o e => (hsb.2 b (by rw [← hC]; exact Nat.ne_of_lt (Heap.lt_size e))).trans (Heap.get?_push_of_some _ e)
  -- the block's context and its invariant
  have Cne : ∀ b o, s3.heap.get? b = some o → b ≠ C := fun b o e => by rw [← hC]; exact Nat.ne_of_lt (Heap.lt_size e)
  have stk := I3.stkSub
  have pinF : ∀ p ∈ X.pn ++ pins, p.1 ∉ frs X.stack := fun p hp z => by
    obtain ⟨_, _, n1, n2, _⟩ := I3.pin p hp
    rcases List.mem_cons.mp (stk _ z) with z | z
    · exact n1 z
    · exact n2 z
  have okC : (cxC X scope cl C (x :: fr) s3 H3 fp pins).Ok := by
    refine ⟨I3.ok.mod, by show (relabel scope X.env).kind = _; exact hkind, I3.ok.glob, I3.ok.blt, Nat.le_of_eq hC, fun y z c h1 h2 => I3.ok.inj y z c (hcle y c h1).1 (hcle z c h2).1, fun y hy => ?_, fun y c hf _ => (by cases hf), I3.ok.hd, I3.ok.frames, .inl rfl, fun b hb => ⟨?_, fun y c e z => ?_⟩, I3.bs, ?_, fun b o e hb => ?_, fun b hb z => ?_, I3.stack, I3.stkFree⟩
    · have hy : ((relabel scope X.env).names.lookup y = some .cell) ∨ ((relabel scope X.env).names.lookup y = some .free) := hy
      rw [show (relabel scope X.env).names.lookup y = _ from lookup_relabel y scope.names] at hy
      cases e : scope.names.lookup y with
      | none => rw [e] at hy; simp at hy
      | some k =>
        have hm : (y, k) ∈ scope.names := PySem.mem_of_lookup e
        have hkf : k = .free := by
          rw [e] at hy
          cases k <;> simp at hy ⊢
          exact absurd rfl (hcell _ hm)
        subst hkf
        obtain ⟨c, hc'⟩ := I3.ok.has y (.inl (hfree _ hm rfl).1)
        exact ⟨c, by show cl.lookup y = _; rw [hcl1 y hm]; exact hc'⟩
    · obtain ⟨o, e, _⟩ := T.obj _ _ st3 b hb
      exact Cne b o e
    · exact (f3 b hb).2.2.2.2.1 y c (hcle y c e).1 z
    · exact Nat.le_trans I3.ok.bsz I3.sz
    · rcases (f3 b hb).2.2.2.1 with z | z
      · exact I3.ok.noex b o e z
      · exact absurd (Nat.lt_of_lt_of_le (Heap.lt_size e) (Nat.le_trans I3.ok.bsz z)) (Nat.lt_irrefl _)
    · rcases List.mem_cons.mp (stk _ z) with z | z
      · exact (f3 b hb).2.1 z
      · exact (f3 b hb).2.2.1 z
  have inn : ∀ v, (inner ix σ v) = some v :: ix.map fun i => (σ[i]?).getD none := fun _ => rfl
  have I4 : Inv (cxC X scope cl C (x :: fr) s3 H3 fp pins) [] (none :: ix.map fun i => (σ[i]?).getD none) H3 { s3 with heap := h4, toks := s3.toks + ([] : List (Str × Value)).length } := by
    refine ⟨okC, rfl, I3.bare, Un.kept k4, ⟨_, hns, fun j y v e1 e2 e3 => ?_⟩, fun y c e => ?_, I3.hok.fresh (Nat.le_of_eq hC), fun y c e => I3.freeC y c (hcle y c e).1, fun p hp => ?_, I3.hok.kept k4, ?_⟩
    · match j, e1, e2 with
      | 0, e1, e2 => simp at e2
      | j + 1, e1, e2 =>
        obtain ⟨i, hi1, hi2, hi3, hi4⟩ := hfr.get (j := j) (y := y) (by have e1' : (x :: fr)[j + 1]? = some y := e1; simpa using e1')
        have e2' : σ[i]? = some (some v) := by
          have e2 : (ix.map fun i => (σ[i]?).getD none)[j]? = some (some v) := by simpa using e2
          rw [List.getElem?_map, hi1] at e2
          simp at e2
          cases z : σ[i]? with
          | none => rw [z] at e2; simp at e2
          | some o => rw [z] at e2; simp at e2; rw [e2]
        obtain ⟨m, _, hl⟩ := I3.loc
        obtain ⟨u, r, l⟩ := hl i y v hi2 e2' (.inr (.inl hi4))
        refine ⟨u, r, ?_⟩
        rcases l with ⟨k, _⟩ | ⟨k, c, ec, z⟩
        · rw [hi4] at k; cases k
        · have hm : (y, NameKind.free) ∈ scope.names := PySem.mem_of_lookup hi3
          refine .inr ⟨.inl ?_, c, by show cl.lookup y = _; rw [hcl1 y hm]; exact ec, ?_⟩
          · show (relabel scope X.env).names.lookup y = _
            rw [show (relabel scope X.env).names.lookup y = _ from lookup_relabel y scope.names, hi3]
            simp [hfn, hi4]
          · obtain ⟨o, ho, hd⟩ := z
            exact ⟨o, k4 _ _ ho, hd⟩
    · obtain ⟨v, o, ho, hd⟩ := I3.cell y c (hcle y c e).1
      exact ⟨v, o, k4 _ _ ho, hd⟩
    · have hp : p ∈ X.pn ++ pins := by simpa [cxC] using hp
      obtain ⟨e, n, ne, nf, d⟩ := I3.pin p hp
      exact ⟨k4 _ _ e, n, Cne _ _ e, pinF p hp, d⟩
    · show (none :: ix.map fun i => (σ[i]?).getD none).length = (x :: fr).length
      rw [List.length_cons, List.length_cons, List.length_map, hfr.len]
  have st4 : tn 0 h4 := T.keep _ _ _ st3 fun b _ o e => k4 b o e
  have f4 : ∀ b ∈ fp, b ≠ C ∧ b ∉ frs X.stack ∧ (∀ y c, cl.lookup y = some c → c ≠ b) ∧ ∀ p ∈ (X.pn ++ pins) ++ ([] : List (Addr × Obj)), p.1 ≠ b := fun b hb => by
    obtain ⟨o, e, _⟩ := T.obj _ _ st3 b hb
    refine ⟨Cne b o e, fun z => ?_, fun y c e => (f3 b hb).2.2.2.2.1 y c (hcle y c e).1, fun p hp => (f3 b hb).2.2.2.2.2 p (by simpa using hp)⟩
    rcases List.mem_cons.mp (stk _ z) with z | z
    · exact (f3 b hb).2.1 z
    · exact (f3 b hb).2.2.1 z
  have stat : ∀ {H' : Hp}, (∀ b ∈ fp, H' b = none) → ∀ b ∈ fp, FpOk (cxC X scope cl C (x :: fr) s3 H3 fp pins) [] H' b := fun hn b hb => ⟨hn b hb, (f4 b hb).1, (f4 b hb).2.1, .inl hb, (f4 b hb).2.2.1, (f4 b hb).2.2.2⟩
  have fin : ∀ {σ' : St} {H' : Hp} {s' : Shared}, Inv (cxC X scope cl C (x :: fr) s3 H3 fp pins) [] σ' H' s' → gName iy (.ref D) σ H' D0.nx → compPost (model X.prog X.w) X.A X.xe (some (assign (.Name y py) X.env)) (fun _ s' => SP X pins D0 .next s') (.ref D) C (.ok .next) s' := fun {σ' H' s'} I' q' => by
    obtain ⟨m, hn, _⟩ := I'.loc
    have hCn : H' C = none := I'.free
    have U := I'.base
    have U' : Un (frs X.stack) fp H3 H' s3.heap s'.heap := ⟨U.keep, U.slot, U.free, U.there, U.tups, U.frzs, U.tbls⟩
    have IX : Inv X pins σ H' s' := I3.call' (s' := s') (by show s'.os = s3.os; exact I'.os) U' I'.hok I'.bare fun b hb => ⟨(f3 b hb).2.2.2.1, (f3 b hb).2.1, (f3 b hb).2.2.2.2.1, (f3 b hb).2.2.2.2.2⟩
    have hCf : FpOk X pins H' C := I3.fpOk (Nat.le_of_eq hC) hCn
    obtain ⟨o, es, ep, eo, r1, r2, r3⟩ := hn
    have IP := IX.pinned (fp := [C]) (fun b hb => by have e : b = C := by simpa using hb
                                                     subst e; exact hCf) (fun b hb => by have e : b = C := by simpa using hb
                                                                                         subst e; exact ⟨o, eo, fun v z => by rw [r1] at z; cases z⟩)
    refine thn (pg_name hN hyi hyx hyf _ s' σ H' (.ref D) (.ref D) D0.nx IP rfl q') fun _ s2 ⟨σ2, H2', I2', q2'⟩ => ?_
    have pc := I2'.pin (C, o) (List.mem_append_right _ (List.mem_append_right _ (mem_pinsAt (by simp) eo)))
    exact ⟨m, ⟨o, es, ep, pc.1, r1, r2, r3⟩, fun h' sb => ⟨σ2, H2', I2'.unpinned.turned (t' := s2.toks) (fun b ob hb e => (sb.2 b hb).trans e) pc.2.1 hCf.2.1 hCf.2.2.2.1 hCf.2.2.2.2.1 hCf.2.2.2.2.2, q2'⟩⟩
  -- the loop
  have loop : ∀ s5 : Shared, s5 = { s3 with heap := h4, toks := s3.toks + ([] : List (Str × Value)).length } →
      codeAny (model X.prog X.w) X.A (.compLoop (.ListComp elt [⟨.Name x px, iter, [], 0⟩] scope cpos) 0 (.ref it) (.ref D) (compEnvC scope cl C X.env)) (compPost (model X.prog X.w) X.A X.xe (some (assign (.Name y py) X.env)) (fun _ s' => SP X pins D0 .next s') (.ref D) C) s5 := by
    rintro s5 rfl
    refine codeAny_loop rfl (fun n s' => ∃ i o H', Inv (cxC X scope cl C (x :: fr) s3 H3 fp pins) [] (o :: ix.map fun i => (σ[i]?).getD none) H' s' ∧ tn i s'.heap ∧ (∀ b ∈ fp, H' b = none) ∧ W i n H') ?_ m0 ⟨0, none, H3, I4, st4, fun b hb => (f3 b hb).1, w0⟩
    rintro n s6 ⟨i, o, H6, I6, st6, fr6, w6⟩
    show wpAny _ _ ((compTurn (.ListComp elt [⟨.Name x px, iter, [], 0⟩] scope cpos) 0 (.ref it) (.ref D) (compEnvC scope cl C X.env)).onRaise (fun x => do noteFrame x (compEnvC scope cl C X.env); theTreesLotGoes x)) _ _ s6
    refine wpAny_noted ?_
    rw [compTurn_list1]
    rcases turn i n H6 w6 with ⟨stop, qn⟩ | ⟨go, step⟩
    · refine wpAny_bind (wpAny_standAt (wpAny_bind (thn (T.done (cxC X scope cl C (x :: fr) s3 H3 fp pins) rfl rfl rfl hc i [] s6 _ H6 _ I6 (stat fr6) st6 stop) fun r s7 ⟨hr, I7⟩ => ?_)))
      subst hr
      exact wpAny_pure (fin I7 qn)
    · refine wpAny_bind (wpAny_standAt (wpAny_bind (thn (T.item (cxC X scope cl C (x :: fr) s3 H3 fp pins) rfl rfl rfl hc i [] s6 _ H6 _ I6 (stat fr6) st6 go) fun r s7 ⟨u, hr, h7⟩ => ?_)))
      subst hr
      refine wpAny_bind (thn h7 fun _ s8 ⟨y, H8, I8, r8, y8, st8, fr8⟩ => ?_)
      have I8' := I8.pinned (stat fr8) (T.obj _ _ st8)
      have hx' : Loc (cxC X scope cl C (x :: fr) s3 H3 fp pins).env.scope x := .inl (lookup_relabel_local hx)
      refine wpAny_bind (wpAny_mono (pg_name (X := cxC X scope cl C (x :: fr) s3 H3 fp pins) (i := 0) (x := x) (pos := px) hnd rfl hx' (.inr (lookup_relabel_local hx)) _ s8 _ H8 y u (fun σ9 H9 => σ9 = inner ix σ y ∧ H9 = H8) I8' r8 ⟨rfl, rfl⟩) (fun _ s9 ⟨σ9, H9, I9, e9, e9'⟩ => ?_) fun _ _ f => f.elim)
      subst e9 e9'
      refine wpAny_bind (wpAny_bind (wpAny_mono (he cl C s3 H3 fp pins _ s9 _ _ _ I9 (step y _ y8)) (fun v s10 ⟨z, H10, I10, r10, acc, a10, l10, m', hm', w10⟩ => ?_) fun _ _ f => f.elim))
      refine wpAny_bind (wpAny_mono (mt_append (X := cxC X scope cl C (x :: fr) s3 H3 fp pins) _ s10 _ H10 (.ref D) [z] (.ref D) [v] (fun _ H11 => H11 = upd H10 D (.lst (acc ++ [z]))) I10 rfl (.cons r10 .nil) ⟨D, acc, z, rfl, rfl, a10, l10, rfl⟩) (fun _ s11 ⟨_, H11, I11, _, e11⟩ => ?_) fun _ _ f => f.elim)
      subst e11
      refine wpAny_pure (wpAny_pure ⟨rfl, m', hm', i + 1, some y, _, I11.unpinned, T.keep _ _ _ st8 fun b hb o e => (I11.pin (b, o) (List.mem_append_right _ (List.mem_append_right _ (mem_pinsAt hb e)))).1, fun b hb => ?_, w10⟩)
      obtain ⟨o, e, d⟩ := T.obj _ _ st8 b hb
      exact (I11.pin (b, o) (List.mem_append_right _ (List.mem_append_right _ (mem_pinsAt hb e)))).2.1
  exact codeAny_compStart_list (loop _ rfl) (T.self X.A 0 _ _ _ st4 (loop _ rfl))
end L2
namespace PX
open PySem L2 PySem.Spec PyProof.Rows
variable {X : Cx} {A : Nat → Addr} {x y : Str} {py spos : Pos} {iy : Nat}
theorem zs_setCF {elt iter : Expr} {px : Pos} {scope : Scope} {cpos : Pos} {it : XA} {xe : XE} (ix : List Nat) (fr : List Str) (hc : X.calm = true) (hi : ZI X A (.Name x px) iter it) (hfr : FrOk X scope ix fr)
    (he : ∀ (cl : List (Str × Addr)) (C : Addr) (s₃ : Shared) (H₃ : Hp) (fp : List Addr) (pins : List (Addr × Obj)), ZE (cxC X scope cl C (x :: fr) s₃ H₃ fp pins) A elt xe)
    (hnd : (x :: fr).Nodup) (hkind : scope.kind = .function) (hcell : ∀ y ∈ scope.names, y.2 ≠ .cell) (hnames : ∀ y ∈ scope.names, y.2 = .local → scope.names.lookup y.1 = some .local) (hfree0 : ∀ y ∈ scope.names, y.2 = .free → y.1 ∈ fr) (hx : scope.names.lookup x = some .local) (hs : ∀ v, foldedSetIterable iter X.env v = pure v)
    (hN : X.N.Nodup) (hyi : X.N[iy]? = some y) (hyx : Loc X.env.scope y) (hyf : X.fn y = true ∨ X.env.scope.names.lookup y = some .local) (hsw : swapsWith (.ListComp elt [⟨.Name x px, iter, [], 0⟩] scope cpos) (some (.Name y py)) spos.line X.env = pure true) : ZS X A (.Assign [.Name y py] (.ListComp elt [⟨.Name x px, iter, [], 0⟩] scope cpos) spos) (xAsg (xFz (xComp it ix xe)) (yName iy)) :=
  wS (ps_setC ix fr hc hi.of hfr (te := cE (ckX X A) xe) (fun cl C s₃ H₃ fp pins => (he cl C s₃ H₃ fp pins).of) hnd hkind hcell hnames hfree0 hx hs hN hyi hyx hyf hsw) (snd_asg (snd_fz (snd_comp (K := ckX X A) ix sI sE)) (sndg_name iy))
theorem z_make0 {k lv : Nat} {f : Addr} {fd : FuncData} {ps : List Str} {p pos : Pos} {fi} (M : Mk X.K (A k) f) (F : FnOk X.prog X.w X.K X.mg X.base CX0 lv f fd ps (spI (ckX X A) 0 k fi)) (hr : Room (lv + 1) X.A) (m : Nm x) (hg : Gl X x) (hm : X.mg x = some (.ref (A k))) (hb : Binds X.K fd ps []) : ZO X A (.Call (.Name x p) [] [] pos) (xMake fi xNil) :=
  wO (pe_make0 M F hr hg hm hb .nil pass0 m.d) (snd_make (K := ckX X A) (k := k) snd_nil len_nil)
end PX
namespace PX
open PySem L2 PySem.Spec PyProof.Rows KasS PXS
section
variable {X : Cx} {A : Nat → Addr}
theorem ints_of : ∀ (vs : List Value) (ns : List Int), vs.length = ns.length → (∀ (j : Nat) (v : Value), vs[j]? = some v → ∃ t n, ns[j]? = some n ∧ v = .int n t) → IntsAre vs ns
  | [], [], _, _ => IntsAre.nil
  | [], _ :: _, h, _ => by cases h
  | _ :: _, [], h, _ => by cases h
  | v :: vs, n :: ns, hl, h => by
    obtain ⟨t, m, e1, e2⟩ := h 0 v rfl
    have e1 : some n = some m := e1
    cases e1
    subst e2
    have ih := ints_of vs ns (by simpa using hl) fun j v e => by
      obtain ⟨t, n, e1, e2⟩ := h (j + 1) v (by simpa using e)
      exact ⟨t, n, by simpa using e1, e2⟩
    exact .cons _ _ ih
theorem vals_ints {vs : List Value} {ns : List Int} (h : IntsAre vs ns) : Vals (ns.map V.int) vs := by
  induction h with
  | nil => exact .nil
  | cons n t _ ih => exact .cons ⟨t, rfl⟩ ih
theorem call_sortedKeys (hc : X.calm = true) : CallR X (.builtin "sorted") rSK := by
  intro pins s σ H xs us Q I rr hh
  obtain ⟨d, kvs, ns, rfl, hd, hk, h64, q⟩ := hh
  obtain ⟨u, rfl, rx⟩ := vals1 rr
  cases rx
  obtain ⟨z, sy, ws, kv, hD⟩ := I.hok d _ hd
  obtain ⟨ep, hat⟩ := hD.dictAt
  obtain ⟨kv1, kv2⟩ := kv_rel kv
  have lw : ws.length = kvs.length := by have := congrArg List.length kv1; simpa using this
  have ln : ns.length = kvs.length := by have := congrArg List.length hk; simpa using this.symm
  refine Calls.call_function_entry kind_sorted plain_sorted entry_sorted (args_sorted1 _) ?_
  unfold Builtin.«sorted»
  refine wpAny_bind (m := checkCount "sorted" 1 1 _) (wpAny_pure ?_)
  refine wpAny_bind (PySem.W.kdu_collect (A := X.A.in1) (PySem.W.kdl_dict (knd := mixKind X.prog X.w) (kvs := ws) (ep := ep) sy) (I.ok.hd hc) hat (by rw [lw]; exact z) fun h' tk acc keep hacc => ?_)
  have hal : acc.toList.length = ns.length := by rw [Array.length_toList, hacc.1]; omega
  refine wpAny_bind (wpAny_newList ?_ (by rw [hal, ln]; exact z))
  have ia : IntsAre acc.toList ns := ints_of _ _ hal fun j v e => by
    obtain ⟨k, x, e1, e2⟩ := hacc.2 j v (by rw [← Array.getElem?_toList]; exact e)
    have hj : j < ns.length := by have := (List.getElem?_eq_some_iff.mp e).1; omega
    have h1 : (ws.map (·.1))[j]? = some k := by rw [List.getElem?_map, e1]; rfl
    rw [kv1, hk, List.getElem?_map, List.getElem?_eq_getElem hj] at h1
    have h1 : k = .inl ns[j] := (Option.some.inj h1).symm
    rcases keyIs_shape e2 with ⟨i, tk, g1, g2⟩ | ⟨y, tk, g1, g2⟩
    · rw [h1] at g1; cases g1; exact ⟨tk, _, List.getElem?_eq_getElem hj, g2⟩
    · rw [h1] at g1; cases g1
  generalize hB : h'.objs.size = B
  have noB : s.heap.get? B = none := by
    cases e : s.heap.get? B with
    | none => rfl
    | some o => exact absurd (Heap.lt_size (keep B o e)) (by rw [hB]; exact Nat.lt_irrefl _)
  have free : H B = none := by
    cases e2 : H B with
    | none => rfl
    | some o => obtain ⟨u, hu⟩ := objThere (I.hok B o e2); rw [noB] at hu; cases hu
  have hoL : (h'.push { cls := .type "list", data := .seq acc.toList.toArray }).get? B = some (seqObj "list" acc.toList.toArray 0) := by rw [← hB]; exact Heap.get?_push_size _ rfl
  refine wpAny_bind (wpAny_holding (wpAny_call_entry PySem.F.slot_list_sort ⟨_, hoL, rfl⟩ PySem.F.entry_list_sort ?body (PySem.F.args_list_sort_1 _)))
  case body =>
    refine list_sort_tree (s := { s with heap := h'.push { cls := .type "list", data := .seq acc.toList.toArray }, toks := tk }) hoL ia (by omega) fun out ms i1 i2 i3 => ?_
    refine ⟨_, rfl, wpAny_pure ⟨_, rfl, ?_⟩⟩
    generalize hS : sortedHeap (h'.push { cls := .type "list", data := .seq acc.toList.toArray }) B acc.toList out = S
    have hFa : ∀ b o, b ≠ B → h'.get? b = some o → S.get? b = some o := fun b o hb e => by
      rw [← hS]
      unfold sortedHeap
      exact (Heap.get?_update_other _ _ (Ne.symm hb)).trans (Heap.get?_push_of_some _ (Heap.get?_push_of_some _ ((Heap.get?_update_other _ _ (Ne.symm hb)).trans (Heap.get?_push_of_some _ e))))
    have hFB : ∃ c, S.get? B = some (seqObj "list" out c) := by
      rw [← hS]
      unfold sortedHeap
      exact ⟨_, get?_update_seq (Heap.get?_push_of_some _ (Heap.get?_push_of_some _ (get?_update_seq hoL _))) _⟩
    refine ⟨.ref B, _, ?_, rfl, q B ms i2 i3 free⟩
    show L2.Inv X pins σ _ { s with heap := S, toks := tk }
    refine laidAll I (fun b o e => hFa b o (fun z => by rw [z, noB] at e; cases e) (keep b o e)) (fun b o e => ?_) fun b o e e2 => ?_
    · rw [upd_ne fun z => by rw [z, free] at e; cases e]; exact e
    · by_cases hb : b = B
      · subst hb
        rw [upd_same] at e2
        cases e2
        obtain ⟨c, hc⟩ := hFB
        refine ⟨noB, by rw [List.length_map, i2.length_eq, ln]; exact z, out.toList, c, vals_ints i1, by simpa using hc⟩
      · rw [upd_ne hb, e] at e2; cases e2
variable {a : Expr} {xa : XE} {aa : XA} {pos p : Pos} {x : Str} {n : Nat}
theorem z_sortK (hc : X.calm = true) (ha : ZE X A a xa) (m : Nm x) (hg : Gl X x) (hm : X.mg x = none) (hv : bootBuiltins x = some (.builtin "sorted"))
    (he : starEach [a] X.env = (false, eval a X.env) :: starEach [] X.env) (hpl : (backTo pos (starEach [] X.env)).any (·.1) = false) : ZO X A (.Call (.Name x p) [a] [] pos) (xCBO bSortK (xCons xa xNil)) :=
  wO (pe_callB (call_sortedKeys hc) hg hm hv (pa_cons ha.of pa_nil he) m.n m.d he hpl) (snd_cbO (K := ckX X A) b_sortK (snd_cons sE snd_nil))
end
end PX
namespace PX
open PySem L2 PySem.Spec PyProof.Rows KasS PXS
section
/-- not frozen when the def began -/
def NF (X : Cx) (a : Addr) : Prop := ∀ o u, X.H₀ a ≠ some (.frz o u)
theorem reab {X : Cx} {pins : List (Addr × Obj)} {σ : L2.St} {H : Hp} {s : Shared} {d : Addr} {u0 u1 : HO} (I : L2.Inv X pins σ H s) (hd : H d = some u0) (nt : ∀ xs, u0 ≠ .tup xs) (no : ∀ y, u0 ≠ .own y) (nb : ∀ ps, u0 ≠ .tbl ps) (nf : NF X d)
    (ok : ObjOk X.prog X.w H s.heap d u0 → ObjOk X.prog X.w H s.heap d u1) : L2.Inv X pins σ (upd H d u1) s := by
  have ne : ∀ {b : Addr}, H b = none → upd H d u1 b = none := fun {b} e => (upd_ne fun z => by subst z; rw [hd] at e; cases e).trans e
  refine ⟨I.ok, I.os, I.bare, ⟨I.base.keep, I.base.slot, fun b o e n hx => ne (I.base.free b o e n hx), I.base.there, fun b xs e => ?_, fun b o u e => ?_, fun b ps e => ?_⟩, I.loc, I.cell, ne I.free, fun x c e => ne (I.freeC x c e), fun p hp => ?_, fun b u e => ?_, I.len⟩
  · have := I.base.tups b xs e
    exact (upd_ne fun z => by subst z; rw [hd] at this; cases this; exact nt _ rfl).trans this
  · have := I.base.frzs b o u e
    exact (upd_ne fun z => by subst z; exact nf o u e).trans this
  · obtain ⟨more, this⟩ := I.base.tbls b ps e
    exact ⟨more, (upd_ne fun z => by subst z; rw [hd] at this; cases this; exact nb _ rfl).trans this⟩
  · obtain ⟨h1, h2, h3⟩ := I.pin p hp
    exact ⟨h1, ne h2, h3⟩
  · have ho : ∀ c y, H c = some (.own y) → upd H d u1 c = some (.own y) := fun c y q => (upd_ne fun z => by subst z; rw [hd] at q; cases q; exact no _ rfl).trans q
    have ht : ∀ c xs, H c = some (.tup xs) → upd H d u1 c = some (.tup xs) := fun c xs q => (upd_ne fun z => by subst z; rw [hd] at q; cases q; exact nt _ rfl).trans q
    by_cases hb : b = d
    · subst hb
      rw [upd_same] at e
      cases e
      exact (ok (I.hok b u0 hd)).stay (fun _ _ _ q => q) (fun c q => ho c b q) ht
    · rw [upd_ne hb] at e
      exact (I.hok b u e).stay (fun _ _ _ q => q) (fun c q => ho c b q) ht
theorem turn_dict {P : Program} {w : World} {K : PySem.W.Frag} {tg : Expr} (d it : Addr) (ob : Obj) (kvs : List (Key × V)) {es : Array DictEntry} {ep : Nat} (hdat : ob.data = .dict es ep) : Turn P w K tg (ItD d ob kvs) [it] it (fun i h => h.IsKeyIter it d i kvs.length ep) where
  mem := by simp
  obj := fun i h st b hb => by
    have e : b = it := by simpa using hb
    subst e
    obtain ⟨o, e, c, q⟩ := st
    exact ⟨o, e, fun v z => by rw [q] at z; cases z⟩
  keep := fun i h h' st k => st.at fun o e => k it (by simp) o e
  item := by
    intro X hP hw hK hc i pins s σ H E I hf st hg
    subst hP hw hK
    obtain ⟨hi, hH⟩ := hg
    obtain ⟨hob, z, sy, ws, kv, hD⟩ := I.hok d _ hH
    obtain ⟨ep', hat⟩ := hD.dictAt
    obtain ⟨o', es', ho', hx1, hx2, hx3⟩ := id hat
    rw [hob] at ho'; cases ho'
    rw [hdat] at hx2; cases hx2
    obtain ⟨kv1, kv2⟩ := kv_rel kv
    have lw : ws.length = kvs.length := by have := congrArg List.length kv1; simpa using this
    have hiw : i < ws.length := by omega
    obtain ⟨f0, f1, f2, f3, f4, f5⟩ := hf it (by simp)
    rw [← lw] at st
    refine wpAny_pyNext_dict_item st hat (k := ws[i].1) (v := ws[i].2) (List.getElem?_eq_getElem hiw) fun key h' hkey st' sb => ?_
    have I1 : L2.Inv X pins σ H { s with heap := h' } := I.turned (t' := s.toks) (fun b o hb e => (sb.2 b hb).trans e) f0 f1 f3 f4 f5
    obtain ⟨o, e, c, q⟩ := id st'
    rw [lw] at st'
    have hk : (kvs[i]'hi).1 = ws[i].1 := by
      have h1 : (ws.map (·.1))[i]? = (kvs.map (·.1))[i]? := by rw [kv1]
      rw [List.getElem?_map, List.getElem?_map, List.getElem?_eq_getElem hiw, List.getElem?_eq_getElem hi] at h1
      exact (Option.some.inj h1).symm
    have rel : RelV (kV (kvs[i]'hi).1) key := by
      rw [hk]
      rcases keyIs_shape hkey with ⟨i, tk, g1, g2⟩ | ⟨y, tk, g1, g2⟩
      · rw [g1, g2]; exact ⟨tk, rfl⟩
      · rw [g1, g2]; exact ⟨tk, rfl⟩
    exact ⟨key, rfl, go_of (s := { s with heap := h' }) e c q (by decide) ⟨kV (kvs[i]'hi).1, H, I1, rel, ⟨rfl, _, List.getElem?_eq_getElem hi, rfl⟩, st', fun b hb => (hf b hb).1⟩⟩
  done := by
    intro X hP hw hK hc i pins s σ H E I hf st hg
    subst hP hw hK
    obtain ⟨hi, hH⟩ := hg
    subst hi
    obtain ⟨hob, z, sy, ws, kv, hD⟩ := I.hok d _ hH
    obtain ⟨ep', hat⟩ := hD.dictAt
    obtain ⟨o', es', ho', hx1, hx2, hx3⟩ := id hat
    rw [hob] at ho'; cases ho'
    rw [hdat] at hx2; cases hx2
    obtain ⟨kv1, kv2⟩ := kv_rel kv
    have lw : ws.length = kvs.length := by have := congrArg List.length kv1; simpa using this
    obtain ⟨f0, f1, f2, f3, f4, f5⟩ := hf it (by simp)
    rw [← lw] at st
    exact wpAny_pyNext_dict_end (I.ok.hd hc) st hat (by simp) fun h' eb => ⟨rfl, I.turned (t' := s.toks) (fun b o hb e => eb b o hb e) f0 f1 f3 f4 f5⟩
  self := fun _ _ _ _ _ st h => wpAny_pyIter_keyiter st h
variable {X : Cx} {A : Nat → Addr} {tg a : Expr} {p pos : Pos} {xa : XE}
theorem pi_dict {ta : TE} (ha : PE X a ta) : PI X tg a (iDict (NF X) ta) := by
  intro pins s σ H R I h
  refine thn (ha pins s σ H _ I h) fun v s1 ⟨x, H1, I1, r1, q1⟩ => ?_
  obtain ⟨d, kvs, e, hd, q⟩ := q1
  subst e
  cases r1
  have nf : NF X d := fun o u z => by have := I1.base.frzs d o u z; rw [hd] at this; cases this
  obtain ⟨z, sy, ws, kv, hD⟩ := id (I1.hok d _ hd)
  obtain ⟨ep, hat⟩ := hD.dictAt
  obtain ⟨ob, es, ho, hx1, hx2, hx3⟩ := id hat
  obtain ⟨kv1, kv2⟩ := kv_rel kv
  have lw : ws.length = kvs.length := by have := congrArg List.length kv1; simpa using this
  have I2 := reab (u1 := .frz ob (.dK kvs)) I1 hd (fun _ z => by cases z) (fun _ z => by cases z) (fun _ z => by cases z) nf fun x => ⟨ho, x⟩
  refine wpAny_pyIter_dict sy hat ?_
  refine ⟨s1.heap.objs.size, [s1.heap.objs.size], _, _, _, rfl, I2.kept (t' := s1.toks) fun b o e => Heap.get?_push_of_some _ e, turn_dict d _ ob kvs hx2, ⟨_, Heap.get?_push_size _ rfl, rfl, by rw [lw]; rfl⟩, fun b hb => ?_, q ob nf⟩
  have e : b = s1.heap.objs.size := by simpa using hb
  subst e
  exact I2.fpOk (Nat.le_refl _) (I2.hok.fresh (Nat.le_refl _))
theorem ps_forD {rest : List Stmt} {ta : TE} {g : TG} {tb : TS} (hp : PassesOwn (model X.prog X.w) X.A X.env X.xe) (hc : X.calm = true) (hi : PE X a ta) (hg : PG X tg g) (hb : PSs X rest tb) (hs : ∀ x, foldedSetIterable a X.env x = pure x) : PS X (.For tg a rest [] pos) (tForD (NF X) ta g tb) := by
  intro pins s σ H D I h
  refine thn (ps_for hp hc (pi_dict hi) hg hb hs pins s σ H (endsD (NF X) D) I h) fun f s' q => ?_
  cases f with
  | next =>
    obtain ⟨σ', H', I', d, ob, kvs, nf, hd, q⟩ := q
    exact ⟨σ', _, reab (u1 := .dK kvs) I' hd (fun _ z => by cases z) (fun _ z => by cases z) (fun _ z => by cases z) nf fun x => x.2, q⟩
  | brk => exact q
  | cont => exact q
  | ret u => exact q
theorem zs_forD {rest : List Stmt} {s : XS} {y : XG} (hp : PassesOwn (model X.prog X.w) X.A X.env X.xe) (hc : X.calm = true) (hi : ZE X A a xa) (hg : ZG X A tg y) (hb : ZSs X A rest s) (hs : ∀ x, foldedSetIterable a X.env x = pure x) : ZS X A (.For tg a rest [] pos) (xForD xa y s) :=
  wS (ps_forD hp hc hi.of hg.of hb.of hs) (snd_forD (K := ckX X A) sE sG sS)
end
end PX
namespace PX
open PySem L2 PySem.Spec PyProof.Rows
section
variable {X : Cx} {A : Nat → Addr}
variable {pos p apos : Pos} {x m : Str} {e : Expr} {es : List Expr} {aa : XA} {n : Nat}
end
section
variable {P : Program} {w : World} {K : PySem.W.Frag} {mg : Str → Option Value} {base : Heap} {A : Nat → Addr}
end
end PX
namespace My
open PySem L2 PX

theorem fv_Log_stack {v0 v1 : PV} {h : AH} : fldV [0] "stack" (.ins 0 ["stack", "last_seen"] [v0, v1]) h = some (v0, h) := fldV_at (by decide) (by decide +kernel) (by rw [show List.idxOf ("stack" : Str) ["stack", "last_seen"] = 0 by decide +kernel]; rfl)
theorem fv_Log_last_seen {v0 v1 : PV} {h : AH} : fldV [0] "last_seen" (.ins 0 ["stack", "last_seen"] [v0, v1]) h = some (v1, h) := fldV_at (by decide) (by decide +kernel) (by rw [show List.idxOf ("last_seen" : Str) ["stack", "last_seen"] = 1 by decide +kernel]; rfl)
theorem iv_Log_stack {x : PV} {ρ : PSt} {h : AH} : fldK [0] 0 "stack" (.own (.ins 0 [] []) :: ρ) x h = some (.nx (.own (.ins 0 ["stack"] [x]) :: ρ), h) := fldK_0 (by decide) (by decide) (by decide +kernel)
theorem iv_Log_last_seen {v0 : PV} {x : PV} {ρ : PSt} {h : AH} : fldK [0] 0 "last_seen" (.own (.ins 0 ["stack"] [v0]) :: ρ) x h = some (.nx (.own (.ins 0 ["stack", "last_seen"] [v0, x]) :: ρ), h) := fldK_0 (by decide) (by decide) (by decide +kernel)
section
local macro_rules | `(tactic| walk_at "px") => `(tactic| simp only [x_ob, x_obN, x_obA, x_var0, x_varS, x_c, x_op, x_opO, x_un, x_oB, x_chain, x_test, x_andV, x_orV, x_notV, x_and, x_or, x_not, x_if, x_nil, x_cons, x_tup, x_lst, x_fz, x_fzL, x_fzI, x_loc, x_call, x_cb, x_cbO, x_bm, x_isStr, x_make, x_makeO, x_next, x_seq, x_sqN, x_sqR, x_sqB, x_sqC, x_break, x_cont, x_drop, x_ret, x_retN, x_ifS, x_asg, x_asgO, x_name, x_yNil, x_yCons, x_yTup, x_frz, x_fz0, x_fzS, x_fvO, x_fvV, x_fvN, x_for, x_frN, x_frC, x_frB, x_frR, x_fnR, x_fnN, x_inK, x_i, x_ic, x_fld, x_fldO, x_meth, x_neg, mulOkR, mulOkL, powOk, x_eqI, x_eqS, x_eqB, x_neI, x_neS, x_isN, x_notN, x_addS, x_in1, x_ixL, x_ixR, x_ixT, x_ixS, x_slL, x_slR, x_cat, x_rep, x_sl, x_slO, x_part, x_nopart, x_lenL, x_lenT, x_lenR, x_lenS, x_int1i, x_int1b, x_strI, x_listL, x_listT, x_comp, x_ite, Option.bind_some, Option.bind_none, List.set_cons_zero, List.set_cons_succ, List.length_cons, List.length_nil, decide_eq_true_eq, Bool.not_eq_true', decide_eq_false_iff_not, if_true, if_false, ite_true, ite_false, and_self, Int.reducePow, Int.reduceToNat, Int.reduceLT, Int.reduceLE, Int.reduceNeg, Int.reduceAdd, Int.reduceSub, Nat.reduceLT, Nat.reduceLeDiff, Nat.reduceAdd, true_and, and_true, reduceIte, Nat.reduceEqDiff, le_refl_nat, eq_self, at_0, at_1, at_2, at_3, at_4, at_5, dec_T, dec_F, ff_eq, tf_eq, Int.reduceEq, Nat.reduceEqDiff, Bool.not_true, Bool.not_false, fv_Log_stack, fv_Log_last_seen, iv_Log_stack, iv_Log_last_seen, x_ixA_t, x_ixA_l])
def isaTb : List (Nat × Nat × Bool) := []
structure Fa (ck : Ck) : Prop where
  fl_stack : ∀ k ∈ ([0] : List Nat), Cls ck.K (ck.A k) ∧ NoAttr ck.K (ck.A k) "stack"
  fl_last_seen : ∀ k ∈ ([0] : List Nat), Cls ck.K (ck.A k) ∧ NoAttr ck.K (ck.A k) "last_seen"
  isa : ∀ r ∈ isaTb, ∀ (H : Hp) (a dx : Addr) (fs : List (Str × V)), H a = some (.ins (ck.A r.1) dx fs) → IsI ck.K H (.ref a) (.ref (ck.A r.2.1)) r.2.2
noncomputable def p_Log___init__ : List PV → AH → Option (Nd × AH) := runI 1 0 (xSeq (xFldO [0] 0 "stack" (xLoc (xLst (xCons (xLoc (xDNew)) (xNil))))) (xFldO [0] 0 "last_seen" (xLoc (xDNew))))
noncomputable def p_Log_write : Fn := runF 4 (xSeq (xAsg (xOp (oIxL) (xFld [0] "stack" (xVar 0)) (xUn oNeg (xC (.int 1)))) (yName 3)) (xDPut (xVar 3) (xVar 1) (xVar 2)))
noncomputable def p_Log_own : Fn := runF 3 (xSeq (xForX true (xFld [0] "stack" (xVar 0)) (yName 2) (xIfS (xTest (xDIn false (xVar 1) (xVar 2))) (xRet (xDGet (xVar 2) (xVar 1))) (xNext))) (xRet (xC .non)))
noncomputable def p_Log_begin : Fn := runF 1 (xDrop (xBM isLst (mAppL) (xFld [0] "stack" (xVar 0)) (xCons (xLoc (xDNew)) (xNil))))
noncomputable def p_Log_settle : Fn := runF 3 (xSeq (xAsg (xBM isLst (mPopL) (xFld [0] "stack" (xVar 0)) (xNil)) (yName 1)) (xSeq (xAsg (xOp (oIxL) (xFld [0] "stack" (xVar 0)) (xUn oNeg (xC (.int 1)))) (yName 2)) (xDrop (xBM isDct (mUpd) (xVar 2) (xCons (xVar 1) (xNil))))))
noncomputable def p_Log_drop : Fn := runF 1 (xDrop (xBM isLst (mPopL) (xFld [0] "stack" (xVar 0)) (xNil)))
noncomputable def p_Log_layers : Fn := runF 1 (xRet (xCB (bLenL) (xCons (xFld [0] "stack" (xVar 0)) (xNil))))
noncomputable def p_Log_saw : Fn := runF 1 (xRet (xLoc (xSortI (xFld [0] "last_seen" (xVar 0)))))
noncomputable def p_Log_wrote : Fn := runF 2 (xSeq (xAsg (xOp (oIxL) (xFld [0] "stack" (xVar 0)) (xC (.int 0))) (yName 1)) (xRet (xLoc (xSortI (xVar 1)))))
noncomputable def p__law_cell_at : Fn := runF 2 (xSeq (xIfS (xTest (xOp (oLt) (xVar 1) (xCB (bLenL) (xCons (xVar 0) (xNil))))) (xRet (xOp (oIxL) (xVar 0) (xVar 1))) (xNext)) (xRet (xC (.int 0))))
noncomputable def p__law_mixed : Fn := runF 1 (xRet (xOp oMod (xOp oMul (xVar 0) (xC (.int 48271))) (xC (.int 999999999989))))
noncomputable def p__law_alike : Nat → Fn
  | 0 => fun _ _ => none
  | n + 1 => runF 3 (xSeq (xIfS (xTest (xCB (bIsi isaTb) (xCons (xVar 1) (xCons (xC (.ty "int")) (xNil))))) (xRet (xAndV (xCB (bIsi isaTb) (xCons (xVar 0) (xCons (xC (.ty "int")) (xNil)))) (xAndV (xNotV (xCB (bIsi isaTb) (xCons (xVar 0) (xCons (xC (.ty "bool")) (xNil))))) (xOp (oEq) (xVar 0) (xVar 1))))) (xNext)) (xSeq (xIfS (xTest (xCB (bIsi isaTb) (xCons (xVar 1) (xCons (xC (.ty "str")) (xNil))))) (xRet (xAndV (xCB (bIsi isaTb) (xCons (xVar 0) (xCons (xC (.ty "str")) (xNil)))) (xOp (oEq) (xVar 0) (xVar 1)))) (xNext)) (xSeq (xIfS (xTest (xCB (bIsi isaTb) (xCons (xVar 1) (xCons (xC (.ty "tuple")) (xNil))))) (xIfS (xNot (xTest (xCB (bIsi isaTb) (xCons (xVar 0) (xCons (xC (.ty "tuple")) (xNil)))))) (xRet (xC (.bl false))) (xNext)) (xIfS (xNot (xTest (xCB (bIsi isaTb) (xCons (xVar 0) (xCons (xC (.ty "list")) (xNil)))))) (xRet (xC (.bl false))) (xNext))) (xSeq (xIfS (xTest (xOp (oNe) (xCB (bLenL) (xCons (xVar 0) (xNil))) (xCB (bLenL) (xCons (xVar 1) (xNil))))) (xRet (xC (.bl false))) (xNext)) (xSeq (xFor (xIR1 (xCons (xCB (bLenL) (xCons (xVar 1) (xNil))) (xNil))) (yName 2) (xIfS (xNot (xTest (xCall (p__law_alike n) (xCons (xOp (oIxA) (xVar 0) (xVar 2)) (xCons (xOp (oIxA) (xVar 1) (xVar 2)) (xNil)))))) (xRet (xC (.bl false))) (xNext))) (xRet (xC (.bl true))))))))
noncomputable def p__law_own : Fn := runF 4 (xSeq (xAsg (xC .non) (yName 2)) (xSeq (xForX false (xVar 0) (yName 3) (xIfS (xTest (xDIn false (xVar 1) (xVar 3))) (xAsg (xDGet (xVar 3) (xVar 1)) (yName 2)) (xNext))) (xRet (xVar 2))))
noncomputable def p__law_done : Fn := runF 10 (xSeq (xAsg (xOp oMod (xVar 2) (xC (.int 8))) (yName 5)) (xSeq (xAsg (xOp oMod (xOp oDiv (xVar 2) (xC (.int 8))) (xVar 4)) (yName 6)) (xIfS (xTest (xOp (oLt) (xVar 5) (xC (.int 4)))) (xSeq (xAsg (xOp (oIxL) (xFz (xLst (xCons (xC (.int 0)) (xCons (xOp oMod (xOp oDiv (xVar 2) (xC (.int 1000))) (xC (.int 5))) (xCons (xOp oMod (xOp oMul (xVar 3) (xC (.int 982451653))) (xOp oPow (xC (.int 2)) (xC (.int 64)))) (xCons (xOp oSub (xOp oPow (xC (.int 2)) (xC (.int 64))) (xC (.int 1))) (xNil))))))) (xOp oMod (xOp oDiv (xVar 2) (xC (.int 200))) (xC (.int 4)))) (yName 7)) (xSeq (xDrop (xMethS 0 "write" p_Log_write (xVar 0) (xCons (xVar 6) (xCons (xVar 7) (xNil))))) (xDPut (xOp (oIxL) (xVar 1) (xUn oNeg (xC (.int 1)))) (xVar 6) (xVar 7)))) (xIfS (xTest (xOp (oLt) (xVar 5) (xC (.int 6)))) (xIfS (xTest (xOp (oLt) (xCB (bLenL) (xCons (xVar 1) (xNil))) (xC (.int 9)))) (xSeq (xDrop (xMethS 0 "begin" p_Log_begin (xVar 0) (xNil))) (xDrop (xBM isLst (mAppL) (xVar 1) (xCons (xLoc (xDNew)) (xNil))))) (xNext)) (xIfS (xTest (xOp (oGt) (xCB (bLenL) (xCons (xVar 1) (xNil))) (xC (.int 1)))) (xSeq (xAsg (xBM isLst (mPopL) (xVar 1) (xNil)) (yName 8)) (xIfS (xTest (xOp (oEq) (xVar 5) (xC (.int 6)))) (xSeq (xDrop (xMethS 0 "settle" p_Log_settle (xVar 0) (xNil))) (xForD (xVar 8) (yName 9) (xDPut (xOp (oIxL) (xVar 1) (xUn oNeg (xC (.int 1)))) (xVar 9) (xDGet (xVar 8) (xVar 9))))) (xDrop (xMethS 0 "drop" p_Log_drop (xVar 0) (xNil))))) (xNext))))))
noncomputable def p__law_stands : Fn := runF 8 (xSeq (xFor (xIR1 (xCons (xC (.int 3)) (xNil))) (yName 4) (xSeq (xAsg (xOp oMod (xOp oAdd (xVar 4) (xVar 3)) (xC (.int 3))) (yName 5)) (xSeq (xIfS (xTest (xOp (oEq) (xVar 5) (xC (.int 0)))) (xSeq (xAsg (xMethS 0 "own" p_Log_own (xVar 0) (xCons (xVar 2) (xNil))) (yName 6)) (xSeq (xAsg (xCall p__law_own (xCons (xVar 1) (xCons (xVar 2) (xNil)))) (yName 7)) (xSeq (xIfS (xAnd (xTest (xOp (oIsN) (xVar 7) (xC .non))) (xTest (xOp (oNotN) (xVar 6) (xC .non)))) (xRet (xC (.bl false))) (xNext)) (xIfS (xAnd (xTest (xOp (oNotN) (xVar 7) (xC .non))) (xNot (xTest (xCall (p__law_alike 4) (xCons (xVar 6) (xCons (xVar 7) (xNil))))))) (xRet (xC (.bl false))) (xNext))))) (xNext)) (xSeq (xIfS (xAnd (xTest (xOp (oEq) (xVar 5) (xC (.int 1)))) (xNot (xTest (xCall (p__law_alike 4) (xCons (xMethS 0 "layers" p_Log_layers (xVar 0) (xNil)) (xCons (xCB (bLenL) (xCons (xVar 1) (xNil))) (xNil))))))) (xRet (xC (.bl false))) (xNext)) (xSeq (xAsg (xFz (xComp (xIL (xFz (xCBO bSortK (xCons (xOp (oIxL) (xVar 1) (xC (.int 0))) (xNil))))) [1] (xTup (xCons (xVar 0) (xCons (xDGet (xOp (oIxL) (xVar 1) (xC (.int 0))) (xVar 0)) (xNil)))))) (yName 7)) (xIfS (xAnd (xTest (xOp (oEq) (xVar 5) (xC (.int 2)))) (xNot (xTest (xCall (p__law_alike 4) (xCons (xMethS 0 "wrote" p_Log_wrote (xVar 0) (xNil)) (xCons (xVar 7) (xNil))))))) (xRet (xC (.bl false))) (xNext))))))) (xRet (xC (.bl true))))
noncomputable def p_law : Fn := runF 11 (xSeq (xAsg (xFz (xLst (xCons (xLoc (xMake p_Log___init__ (xNil))) (xCons (xLoc (xMake p_Log___init__ (xNil))) (xNil))))) (yName 1)) (xSeq (xAsg (xFz (xLst (xCons (xLoc (xLst (xCons (xLoc (xDNew)) (xNil)))) (xCons (xLoc (xLst (xCons (xLoc (xDNew)) (xNil)))) (xNil))))) (yName 2)) (xSeq (xAsg (xOp (oIxL) (xFz (xLst (xCons (xC (.int 3)) (xCons (xC (.int 16)) (xNil))))) (xOp oMod (xCall p__law_cell_at (xCons (xVar 0) (xCons (xC (.int 0)) (xNil)))) (xC (.int 2)))) (yName 3)) (xSeq (xAsgO (xLst (xNil)) 4) (xSeq (xFor (xIL (xFz (xSlO oSlL (xVar 0) (xNoPart) (xPart (xC (.int 200)))))) (yName 5) (xSeq (xAsg (xCall p__law_mixed (xCons (xVar 5) (xNil))) (yName 6)) (xSeq (xAsg (xOp oMod (xVar 6) (xC (.int 2))) (yName 7)) (xSeq (xAsg (xOp oDiv (xVar 6) (xC (.int 2))) (yName 6)) (xSeq (xDrop (xCall p__law_done (xCons (xOp (oIxL) (xVar 1) (xVar 7)) (xCons (xOp (oIxL) (xVar 2) (xVar 7)) (xCons (xVar 6) (xCons (xVar 5) (xCons (xVar 3) (xNil)))))))) (xSeq (xFor (xIL (xFz (xLst (xCons (xOp oMod (xOp oDiv (xVar 6) (xC (.int 8))) (xVar 3)) (xCons (xOp oMod (xOp oDiv (xVar 6) (xC (.int 128))) (xVar 3)) (xNil)))))) (yName 8) (xSeq (xIfS (xNot (xTest (xCall p__law_stands (xCons (xOp (oIxL) (xVar 1) (xVar 7)) (xCons (xOp (oIxL) (xVar 2) (xVar 7)) (xCons (xVar 8) (xCons (xOp oMod (xVar 6) (xC (.int 3))) (xNil)))))))) (xRet (xC (.bl false))) (xNext)) (xIfS (xNot (xTest (xCall p__law_stands (xCons (xOp (oIxL) (xVar 1) (xOp oSub (xC (.int 1)) (xVar 7))) (xCons (xOp (oIxL) (xVar 2) (xOp oSub (xC (.int 1)) (xVar 7))) (xCons (xVar 8) (xCons (xOp oMod (xOp oDiv (xVar 6) (xC (.int 3))) (xC (.int 3))) (xNil)))))))) (xRet (xC (.bl false))) (xNext)))) (xSeq (xAsg (xMethS 0 "wrote" p_Log_wrote (xOp (oIxL) (xVar 1) (xVar 7)) (xNil)) (yName 9)) (xSeq (xAppO 4 (xTup (xCons (xVar 9) (xCons (xFz (xCBO (bListOf) (xCons (xVar 9) (xNil)))) (xNil))))) (xDrop (xBM isLst (mAppL) (xMethS 0 "wrote" p_Log_wrote (xOp (oIxL) (xVar 1) (xVar 7)) (xNil)) (xCons (xTup (xCons (xC (.int 0)) (xCons (xC (.int 0)) (xNil)))) (xNil)))))))))))) (xFrz 4 (xSeq (xFor (xIL (xVar 4)) (yTup 2 (yCons (yName 9) (yCons (yName 10) (yNil)))) (xIfS (xTest (xOp (oNeD) (xVar 9) (xVar 10))) (xRet (xC (.bl false))) (xNext))) (xRet (xAndV (xOp (oEqD) (xMethS 0 "saw" p_Log_saw (xOp (oIxL) (xVar 1) (xC (.int 0))) (xNil)) (xFz (xLst (xNil)))) (xOp (oEqD) (xMethS 0 "saw" p_Log_saw (xOp (oIxL) (xVar 1) (xC (.int 1))) (xNil)) (xFz (xLst (xNil)))))))))))))
section
variable {h : AH}
/-! ### a log in the heap -/
def Stk (h : AH) : List Nat → List (List Key × List PV) → Prop
  | [], [] => True
  | l :: ls, d :: ds => h[l]? = some (.dct d.1 d.2) ∧ Stk h ls ds
  | _, _ => False
theorem Stk.len {h : AH} : ∀ {ls : List Nat} {ds : List (List Key × List PV)}, Stk h ls ds → ds.length = ls.length
  | [], [], _ => rfl
  | _ :: _, _ :: _, s => by rw [List.length_cons, List.length_cons, Stk.len s.2]
  | [], _ :: _, s => s.elim
  | _ :: _, [], s => s.elim
theorem Stk.mono {h h' : AH} : ∀ {ls : List Nat} {ds : List (List Key × List PV)}, Stk h ls ds → (∀ l ∈ ls, ∀ d, h[l]? = some d → h'[l]? = some d) → Stk h' ls ds
  | [], [], _, _ => trivial
  | l :: ls, _ :: _, s, k => ⟨k l List.mem_cons_self _ s.1, Stk.mono s.2 fun l hl => k l (List.mem_cons_of_mem _ hl)⟩
  | [], _ :: _, s, _ => s.elim
  | _ :: _, [], s, _ => s.elim
theorem Stk.app {h : AH} : ∀ {ls ms : List Nat} {ds es : List (List Key × List PV)}, Stk h ls ds → Stk h ms es → Stk h (ls ++ ms) (ds ++ es)
  | [], _, [], _, _, t => t
  | _ :: _, _, _ :: _, _, s, t => ⟨s.1, Stk.app s.2 t⟩
  | [], _, _ :: _, _, s, _ => s.elim
  | _ :: _, _, [], _, s, _ => s.elim
theorem Stk.get {h : AH} : ∀ {ls : List Nat} {ds : List (List Key × List PV)} (k : Nat), Stk h ls ds → k < ls.length → ∃ l d, ls[k]? = some l ∧ ds[k]? = some d ∧ h[l]? = some (.dct d.1 d.2)
  | l :: ls, d :: ds, 0, s, _ => ⟨l, d, rfl, rfl, s.1⟩
  | l :: ls, d :: ds, k + 1, s, hk => by
    obtain ⟨l', d', e1, e2, e3⟩ := Stk.get k s.2 (by simpa using hk)
    exact ⟨l', d', by simpa using e1, by simpa using e2, e3⟩
  | [], [], _, _, hk => by simp at hk
  | [], _ :: _, _, s, _ => s.elim
  | _ :: _, [], _, s, _ => s.elim
theorem Stk.split {h : AH} : ∀ {ls : List Nat} {t : Nat} {ds : List (List Key × List PV)}, Stk h (ls ++ [t]) ds → ∃ es d, ds = es ++ [d] ∧ Stk h ls es ∧ h[t]? = some (.dct d.1 d.2)
  | [], t, [d], s => ⟨[], d, rfl, trivial, s.1⟩
  | [], t, [], s => s.elim
  | [], t, _ :: _ :: _, s => s.2.elim
  | l :: ls, t, [], s => s.elim
  | l :: ls, t, d :: ds, s => by
    obtain ⟨es, d', e, s1, s2⟩ := Stk.split (ls := ls) s.2
    exact ⟨d :: es, d', by rw [e]; rfl, ⟨s.1, s1⟩, s2⟩
def ownK (ds : List (List Key × List PV)) (j : Key) : Nat → PV
  | 0 => .non
  | k + 1 => match ds[k]? with | some d => (match getK d.1 d.2 j with | some x => x | none => ownK ds j k) | none => .non
structure LG (h : AH) (o s b : Nat) (ls : List Nat) (ds : List (List Key × List PV)) (ks : List Key) (xs : List PV) : Prop where
  ob : h[o]? = some (.ins 0 ["stack", "last_seen"] [.loc s, .loc b])
  st : h[s]? = some (.lst (ls.map .loc))
  sn : h[b]? = some (.dct ks xs)
  dl : Stk h ls ds
theorem fst_loc {o s b : Nat} (e : h[o]? = some (.ins 0 ["stack", "last_seen"] [.loc s, .loc b])) : fldV [0] "stack" (.loc o) h = some (.loc s, h) := by
  unfold fldV insOf
  simp only [e]
  rw [if_pos (by decide +kernel), show List.idxOf ("stack" : Str) ["stack", "last_seen"] = 0 by decide +kernel]
  rfl
theorem fsn_loc {o s b : Nat} (e : h[o]? = some (.ins 0 ["stack", "last_seen"] [.loc s, .loc b])) : fldV [0] "last_seen" (.loc o) h = some (.loc b, h) := by
  unfold fldV insOf
  simp only [e]
  rw [if_pos (by decide +kernel), show List.idxOf ("last_seen" : Str) ["stack", "last_seen"] = 1 by decide +kernel]
  rfl
theorem ix_last {n : Nat} {l : List Nat} {t : Nat} (e : h[n]? = some (.lst ((l ++ [t]).map PV.loc))) : oIxL (.loc n) (.int (-1)) h = some (.loc t, h) := by
  unfold oIxL
  simp only [e]
  have : atI ((l ++ [t]).map PV.loc) (-1) = some (.loc t) := by
    unfold atI ixN
    simp
    rw [if_pos (by omega), Option.bind_some, show (-1 + ((l.length : Int) + 1)).toNat = l.length by omega]
    simp
  rw [this]
theorem mth_loc {o s b : Nat} {m : Str} {f : Fn} {ys : List PV} {a : XE} {aa : XA} {ρ : PSt} {h0 h2 : AH} (e : h[o]? = some (.ins 0 ["stack", "last_seen"] [.loc s, .loc b])) (ea : a ρ h0 = some (.loc o, h)) (hm : m ∉ (["stack", "last_seen"] : List Str)) (eb : aa ρ h = some (ys, h2)) : xMethS 0 m f a aa ρ h0 = f (.loc o :: ys) h2 := by
  unfold xMethS insOf
  rw [ea, x_ob]
  simp only [e]
  rw [if_pos ⟨trivial, hm⟩, eb, x_ob]
theorem din_loc {n : Nat} {ks : List Key} {xs : List PV} {i : Int} {ek ed : XE} {ρ : PSt} (ek' : ek ρ h = some (.int i, h)) (ed' : ed ρ h = some (.loc n, h)) (e : h[n]? = some (.dct ks xs)) : xDIn false ek ed ρ h = some (.bl (getK ks xs (.inl i)).isSome, h) := by
  unfold xDIn
  rw [ek', x_ob, ed', x_ob]
  unfold dctR
  simp only [e, keyOf]
  rfl
theorem dget_loc {n : Nat} {ks : List Key} {xs : List PV} {i : Int} {x : PV} {ek ed : XE} {ρ : PSt} (ed' : ed ρ h = some (.loc n, h)) (ek' : ek ρ h = some (.int i, h)) (e : h[n]? = some (.dct ks xs)) (hx : getK ks xs (.inl i) = some x) : xDGet ed ek ρ h = some (x, h) := by
  unfold xDGet
  rw [ed', x_ob, ek', x_ob]
  unfold dctR
  simp only [e, keyOf, hx]
theorem dput_loc {n : Nat} {ks : List Key} {xs : List PV} {i : Int} {x : PV} {ed ek ev : XE} {ρ : PSt} (ev' : ev ρ h = some (x, h)) (ed' : ed ρ h = some (.loc n, h)) (ek' : ek ρ h = some (.int i, h)) (e : h[n]? = some (.dct ks xs)) (hl : ks.length < 1000) :
    xDPut ed ek ev ρ h = some (.nx ρ, h.set n (.dct (putKP ks xs (.inl i) x).1 (putKP ks xs (.inl i) x).2)) := by
  unfold xDPut
  rw [ev', x_ob, ed', x_ob, ek', x_ob]
  simp only [e, keyOf]
  rw [if_pos hl]
end
section
variable {h : AH} {o s b : Nat} {ls : List Nat} {ds : List (List Key × List PV)} {ks : List Key} {xs : List PV}
theorem own_loop {i : Int} (g : LG h o s b ls ds ks xs) : ∀ (k : Nat), k ≤ ls.length → ∀ c : PVar,
    ob (forX s true (yName 2) (xIfS (xTest (xDIn false (xVar 1) (xVar 2))) (xRet (xDGet (xVar 2) (xVar 1))) (xNext)) k (ls.length - k) [.val (.loc o), .val (.int i), c] h) (fun o h1 => ob (sqK (xRet (xC .non)) o h1) fnK) = some (ownK ds (.inl i) k, h) := by
  intro k
  induction k with
  | zero =>
    intro _ c
    unfold forX
    simp only [g.st]
    rw [if_pos (by simp), x_ob, x_sqN]
    rfl
  | succ k ih =>
    intro hk c
    unfold forX
    simp only [g.st]
    obtain ⟨l, d, e1, e2, e3⟩ := g.dl.get k (by omega)
    have e4 : (ls.map PV.loc)[k]? = some (.loc l) := by rw [List.getElem?_map, e1]; rfl
    simp only [if_true, e4]
    have er : yName 2 (.loc l) [.val (.loc o), .val (.int i), c] = some [.val (.loc o), .val (.int i), .val (.loc l)] := rfl
    rw [er, Option.bind_some, x_ifS, x_test, din_loc (n := l) rfl rfl e3, x_ob, x_oB, x_ob]
    have ek : ls.length - (k + 1) + 1 = ls.length - k := by omega
    unfold ownK
    simp only [e2]
    cases hg : getK d.1 d.2 (.inl i) with
    | none =>
      rw [if_neg (by simp), x_next, x_ob]
      dsimp only
      rw [ek]
      exact ih (by omega) _
    | some x =>
      rw [if_pos (show (some x).isSome = true from rfl), x_ret, dget_loc (n := l) rfl rfl e3 hg, x_ob, x_ob]
      rfl
theorem own_eq {i : Int} (g : LG h o s b ls ds ks xs) : p_Log_own [.loc o, .int i] h = some (ownK ds (.inl i) ls.length, h) := by
  unfold p_Log_own
  rw [run_eq]
  show ob (xSeq _ _ [.val (.loc o), .val (.int i), .no] h) fnK = _
  rw [x_seq]
  have := own_loop (i := i) g ls.length (Nat.le_refl _) .no
  rw [Nat.sub_self] at this
  rw [x_obA, ← this]
  unfold xForX
  rw [x_fld, show xVar 0 [PVar.val (.loc o), .val (.int i), .no] h = some (.loc o, h) from rfl, x_ob, fst_loc g.ob, x_ob]
  simp only [g.st, List.length_map]
theorem layers_eq (g : LG h o s b ls ds ks xs) : p_Log_layers [.loc o] h = some (.int ls.length, h) := by
  unfold p_Log_layers
  rw [run_eq, x_ret, x_cb, x_cons, x_fld, show xVar 0 ([PV.loc o].map .val ++ List.replicate (1 - [PV.loc o].length) .no) h = some (.loc o, h) from rfl, x_ob, fst_loc g.ob, x_ob, x_nil, x_ob, x_ob, len_loc g.st, x_ob, List.length_map]
  rfl
theorem write_eq {i : Int} {v : PV} {t : Nat} {d : List Key × List PV} (g : LG h o s b (ls ++ [t]) ds ks xs) (ht : h[t]? = some (.dct d.1 d.2)) (hl : d.1.length < 1000) : p_Log_write [.loc o, .int i, v] h = some (.non, h.set t (.dct (putKP d.1 d.2 (.inl i) v).1 (putKP d.1 d.2 (.inl i) v).2)) := by
  unfold p_Log_write
  rw [run_eq, x_seq, x_asg, x_op, x_fld, show xVar 0 ([PV.loc o, .int i, v].map .val ++ List.replicate (4 - [PV.loc o, .int i, v].length) .no) h = some (.loc o, h) from rfl, x_ob, fst_loc g.ob, x_ob]
  show ob (ob (ob (oIxL (.loc s) (.int (-1)) h) _) _) _ = _
  rw [ix_last g.st, x_ob]
  show ob (xDPut (xVar 3) (xVar 1) (xVar 2) [.val (.loc o), .val (.int i), .val v, .val (.loc t)] h) fnK = _
  rw [dput_loc (n := t) (i := i) (x := v) rfl rfl rfl ht hl, x_ob]
  rfl
theorem begin_eq (g : LG h o s b ls ds ks xs) (hl : ls.length < 1000) : p_Log_begin [.loc o] h = some (.non, (h ++ [Nd.dct [] []]).set s (.lst ((ls ++ [h.length]).map .loc))) := by
  have hs : (h ++ [Nd.dct [] []])[s]? = some (.lst (ls.map .loc)) := by rw [List.getElem?_append_left (List.getElem?_eq_some_iff.mp g.st).1]; exact g.st
  unfold p_Log_begin
  rw [run_eq, x_drop, x_bm, x_fld, show xVar 0 ([PV.loc o].map .val ++ List.replicate (1 - [PV.loc o].length) .no) h = some (.loc o, h) from rfl, x_ob, fst_loc g.ob, x_ob, if_pos (isLst_loc g.st)]
  show ob (ob (mAppL (.loc s) [.loc h.length] (h ++ [Nd.dct [] []])) _) fnK = _
  rw [app_loc hs (by rw [List.length_map]; omega), x_ob, x_ob, List.map_append]
  rfl
theorem pop_loc {n : Nat} {l : List Nat} {t : Nat} (e : h[n]? = some (.lst ((l ++ [t]).map PV.loc))) : mPopL (.loc n) [] h = some (.loc t, h.set n (.lst (l.map .loc))) := by
  unfold mPopL
  simp only [e]
  have : ((l ++ [t]).map PV.loc)[((l ++ [t]).map PV.loc).length - 1]? = some (.loc t) := by simp
  rw [this]
  simp
theorem drop_eq {t : Nat} (g : LG h o s b (ls ++ [t]) ds ks xs) : p_Log_drop [.loc o] h = some (.non, h.set s (.lst (ls.map .loc))) := by
  unfold p_Log_drop
  rw [run_eq, x_drop, x_bm, x_fld, show xVar 0 ([PV.loc o].map .val ++ List.replicate (1 - [PV.loc o].length) .no) h = some (.loc o, h) from rfl, x_ob, fst_loc g.ob, x_ob, if_pos (isLst_loc g.st), x_nil, x_ob, pop_loc g.st, x_ob, x_ob]
  rfl
theorem saw_eq {L : List PV} (g : LG h o s b ls ds ks xs) (e : sortI ks xs = some L) : p_Log_saw [.loc o] h = some (.loc h.length, h ++ [.lst L]) := by
  unfold p_Log_saw
  rw [run_eq, x_ret, x_loc]
  unfold xSortI
  rw [x_fld, show xVar 0 ([PV.loc o].map .val ++ List.replicate (1 - [PV.loc o].length) .no) h = some (.loc o, h) from rfl, x_ob, fsn_loc g.ob, x_ob]
  unfold dctOf
  simp only [g.sn, e]
  rfl
end
section
variable {h : AH} {o s b : Nat} {ls : List Nat} {ds : List (List Key × List PV)} {ks : List Key} {xs : List PV}
theorem settle_eq {t u : Nat} {dt du : List Key × List PV} (g : LG h o s b (ls ++ [u] ++ [t]) ds ks xs) (ho : o ≠ s) (hus : u ≠ s) (hts : t ≠ s) (hut : u ≠ t) (eu : h[u]? = some (.dct du.1 du.2)) (et : h[t]? = some (.dct dt.1 dt.2)) (hl : du.1.length + dt.1.length < 1000) :
    p_Log_settle [.loc o] h = some (.non, (h.set s (.lst ((ls ++ [u]).map .loc))).set u (.dct (mrgP dt.1 dt.2 du.1 du.2).1 (mrgP dt.1 dt.2 du.1 du.2).2)) := by
  have hs : s < h.length := (List.getElem?_eq_some_iff.mp g.st).1
  have e1 : (h.set s (.lst ((ls ++ [u]).map PV.loc)))[s]? = some (.lst ((ls ++ [u]).map PV.loc)) := List.getElem?_set_self hs
  have e2 : (h.set s (.lst ((ls ++ [u]).map PV.loc)))[o]? = some (.ins 0 ["stack", "last_seen"] [.loc s, .loc b]) := (List.getElem?_set_ne (Ne.symm ho)).trans g.ob
  have e3 : (h.set s (.lst ((ls ++ [u]).map PV.loc)))[u]? = some (.dct du.1 du.2) := (List.getElem?_set_ne (Ne.symm hus)).trans eu
  have e4 : (h.set s (.lst ((ls ++ [u]).map PV.loc)))[t]? = some (.dct dt.1 dt.2) := (List.getElem?_set_ne (Ne.symm hts)).trans et
  unfold p_Log_settle
  rw [run_eq, x_seq, x_asg, x_bm, x_fld, show xVar 0 ([PV.loc o].map .val ++ List.replicate (3 - [PV.loc o].length) .no) h = some (.loc o, h) from rfl, x_ob, fst_loc g.ob, x_ob, if_pos (isLst_loc g.st), x_nil, x_ob, pop_loc g.st, x_ob]
  generalize hh : h.set s (.lst ((ls ++ [u]).map PV.loc)) = h1 at *
  show ob (xSeq _ _ [.val (.loc o), .val (.loc t), .no] h1) fnK = _
  rw [x_seq, x_asg, x_op, x_fld, show xVar 0 [PVar.val (.loc o), .val (.loc t), .no] h1 = some (.loc o, h1) from rfl, x_ob, fst_loc e2, x_ob]
  show ob (ob (ob (oIxL (.loc s) (.int (-1)) h1) _) _) _ = _
  rw [ix_last e1, x_ob]
  show ob (xDrop (xBM isDct mUpd (xVar 2) (xCons (xVar 1) xNil)) [.val (.loc o), .val (.loc t), .val (.loc u)] h1) fnK = _
  rw [x_drop, x_bm]
  show ob (ob (if isDct (.loc u) h1 = true then mUpd (.loc u) [.loc t] h1 else none) _) fnK = _
  rw [if_pos (by unfold isDct dctOf; simp only [e3]; rfl)]
  unfold mUpd
  simp only [e3, e4]
  rw [if_pos ⟨hut, hl⟩, x_ob, x_ob]
  rfl
end
section
variable {h : AH}
def Tl (L : List PV) : Prop := L.length ≤ 1000 ∧ ∀ x ∈ L, ∃ a b, x = .tup [.int a, .int b]
theorem ty_1 {i : Int} : bIsi isaTb [.int i, .ty "int"] h = some (.bl true, h) := rfl
theorem ty_2 {i : Int} : bIsi isaTb [.int i, .ty "bool"] h = some (.bl false, h) := rfl
theorem ty_5 {xs} : bIsi isaTb [.tup xs, .ty "int"] h = some (.bl false, h) := rfl
theorem ty_6 {xs} : bIsi isaTb [.tup xs, .ty "str"] h = some (.bl false, h) := rfl
theorem ty_7 {xs} : bIsi isaTb [.tup xs, .ty "tuple"] h = some (.bl true, h) := rfl
theorem ty_8 {xs} : bIsi isaTb [.lst xs, .ty "int"] h = some (.bl false, h) := rfl
theorem ty_9 {xs} : bIsi isaTb [.lst xs, .ty "str"] h = some (.bl false, h) := rfl
theorem ty_10 {xs} : bIsi isaTb [.lst xs, .ty "tuple"] h = some (.bl false, h) := rfl
theorem ty_l {n : Nat} {xs : List PV} (e : h[n]? = some (.lst xs)) : bIsi isaTb [.loc n, .ty "list"] h = some (.bl true, h) := by
  unfold bIsi isaOf listOf'
  simp only [e]
  rfl
theorem ixA_loc {n : Nat} {xs : List PV} {i : Nat} (e : h[n]? = some (.lst xs)) (hi : i < xs.length) : oIxA (.loc n) (.int i) h = some (xs[i], h) := by
  unfold oIxA oIxL
  simp only [e]
  rw [atI_nat (List.getElem?_eq_getElem hi)]
local macro_rules | `(tactic| walk_at "pt") => `(tactic| simp only [x_ob, x_obN, x_obA, x_var0, x_varS, x_c, x_op, x_opO, x_un, x_oB, x_chain, x_test, x_andV, x_orV, x_notV, x_and, x_or, x_not, x_if, x_nil, x_cons, x_tup, x_lst, x_fz, x_fzL, x_fzI, x_loc, x_call, x_cb, x_cbO, x_bm, x_isStr, x_make, x_makeO, x_next, x_seq, x_sqN, x_sqR, x_sqB, x_sqC, x_break, x_cont, x_drop, x_ret, x_retN, x_ifS, x_asg, x_asgO, x_name, x_yNil, x_yCons, x_yTup, x_frz, x_fz0, x_fzS, x_fvO, x_fvV, x_fvN, x_for, x_frN, x_frC, x_frB, x_frR, x_fnR, x_fnN, x_inK, x_i, x_ic, x_fld, x_fldO, x_meth, x_neg, mulOkR, mulOkL, powOk, x_eqI, x_eqS, x_eqB, x_neI, x_neS, x_isN, x_notN, x_addS, x_in1, x_ixL, x_ixR, x_ixT, x_ixS, x_slL, x_slR, x_cat, x_rep, x_sl, x_slO, x_part, x_nopart, x_lenL, x_lenT, x_lenR, x_lenS, x_int1i, x_int1b, x_strI, x_listL, x_listT, x_comp, x_ite, Option.bind_some, Option.bind_none, List.set_cons_zero, List.set_cons_succ, List.length_cons, List.length_nil, decide_eq_true_eq, Bool.not_eq_true', decide_eq_false_iff_not, if_true, if_false, ite_true, ite_false, and_self, Int.reducePow, Int.reduceToNat, Int.reduceLT, Int.reduceLE, Int.reduceNeg, Int.reduceAdd, Int.reduceSub, Nat.reduceLT, Nat.reduceLeDiff, Nat.reduceAdd, true_and, and_true, reduceIte, Nat.reduceEqDiff, le_refl_nat, eq_self, at_0, at_1, at_2, at_3, at_4, at_5, dec_T, dec_F, ff_eq, tf_eq, Int.reduceEq, Nat.reduceEqDiff, Bool.not_true, Bool.not_false, fv_Log_stack, fv_Log_last_seen, iv_Log_stack, iv_Log_last_seen, x_ixA_t, x_ixA_l, ty_1, ty_2, ty_5, ty_6, ty_7, ty_8, ty_9, ty_10, ne_eq, not_true_eq_false])
theorem alike_i {n : Nat} {i : Int} : p__law_alike (n + 1) [.int i, .int i] h = some (.bl true, h) := by
  unfold p__law_alike
  rw [run_eq]
  show ob (xSeq _ _ [.val (.int i), .val (.int i), .no] h) fnK = _
  walk_at "pt"
theorem alike_t {n : Nat} {a b : Int} : p__law_alike (n + 2) [.tup [.int a, .int b], .tup [.int a, .int b]] h = some (.bl true, h) := by
  unfold p__law_alike
  rw [run_eq]
  show ob (xSeq _ _ [.val (.tup [.int a, .int b]), .val (.tup [.int a, .int b]), .no] h) fnK = _
  walk_at "pt"
  rw [x_iR1i (j := 2) (h1 := h) (by walk_at "pt"; rfl) (by omega) (by omega), x_ob]
  refine forL_then (fun i ρ h1 => h1 = h ∧ ∃ c, ρ = [.val (.tup [.int a, .int b]), .val (.tup [.int a, .int b]), c]) ⟨rfl, .no, rfl⟩ ?_ ?_
  · rintro i x ρ h1 hx ⟨rfl, c, rfl⟩
    obtain ⟨hi, rfl⟩ := rng_get hx
    rw [Int.zero_add]
    refine ⟨_, [.val (.tup [.int a, .int b]), .val (.tup [.int a, .int b]), .val (.int i)], h1, rfl, .inl ?_, rfl, _, rfl⟩
    have hi : i < 2 := by simpa using hi
    walk_at "pt"
    rw [atI_nat (List.getElem?_eq_getElem (show i < [PV.int a, .int b].length by simpa using hi))]
    walk_at "pt"
    match i, hi with
    | 0, _ => show ob (p__law_alike (n + 1) [.int a, .int a] h1) _ = _; rw [alike_i]; walk_at "pt"
    | 1, _ => show ob (p__law_alike (n + 1) [.int b, .int b] h1) _ = _; rw [alike_i]; walk_at "pt"
  · rintro ρ' h' ⟨rfl, c, rfl⟩
    walk_at "pt"
theorem alike_l {f : Nat} {L : List PV} (e : h[f]? = some (.lst L)) (hL : Tl L) : p__law_alike 4 [.loc f, .lst L] h = some (.bl true, h) := by
  unfold p__law_alike
  rw [run_eq]
  show ob (xSeq _ _ [.val (.loc f), .val (.lst L), .no] h) fnK = _
  walk_at "pt"
  rw [ty_l e]
  walk_at "pt"
  rw [len_loc e]
  walk_at "pt"
  rw [x_iR1i (j := (L.length : Int)) (h1 := h) (by walk_at "pt") (by omega) (by have := hL.1; omega), x_ob]
  refine forL_then (fun i ρ h1 => h1 = h ∧ ∃ c, ρ = [.val (.loc f), .val (.lst L), c]) ⟨rfl, .no, rfl⟩ ?_ ?_
  · rintro i x ρ h1 hx ⟨rfl, c, rfl⟩
    obtain ⟨hi, rfl⟩ := rng_get hx
    rw [Int.zero_add]
    have hi : i < L.length := by omega
    refine ⟨_, [.val (.loc f), .val (.lst L), .val (.int i)], h1, rfl, .inl ?_, rfl, _, rfl⟩
    walk_at "pt"
    rw [ixA_loc e hi]
    walk_at "pt"
    rw [atI_nat (List.getElem?_eq_getElem hi)]
    obtain ⟨a, b, eq⟩ := hL.2 _ (List.getElem_mem hi)
    rw [eq]
    walk_at "pt"
    rw [alike_t]
    walk_at "pt"
  · rintro ρ' h' ⟨rfl, c, rfl⟩
    walk_at "pt"
end
theorem eq_of_strict : ∀ {l₁ l₂ : List (Int × PV)}, l₁.Pairwise (fun a b => a.1 < b.1) → l₂.Pairwise (fun a b => a.1 < b.1) → (∀ a, a ∈ l₁ ↔ a ∈ l₂) → l₁ = l₂
  | [], [], _, _, _ => rfl
  | [], b :: _, _, _, h => absurd ((h b).mpr List.mem_cons_self) (by simp)
  | a :: _, [], _, _, h => absurd ((h a).mp List.mem_cons_self) (by simp)
  | a :: r, b :: t, h1, h2, h => by
    obtain ⟨p1, p2⟩ := List.pairwise_cons.mp h1
    obtain ⟨q1, q2⟩ := List.pairwise_cons.mp h2
    have e : a = b := by
      rcases List.mem_cons.mp ((h a).mp List.mem_cons_self) with e | e
      · exact e
      rcases List.mem_cons.mp ((h b).mpr List.mem_cons_self) with e' | e'
      · exact e'.symm
      have := q1 a e
      have := p1 b e'
      omega
    subst e
    rw [eq_of_strict p2 q2 fun x => ⟨fun hx => ?_, fun hx => ?_⟩]
    · rcases List.mem_cons.mp ((h x).mp (List.mem_cons_of_mem _ hx)) with e | e
      · subst e; exact absurd (p1 _ hx) (Int.lt_irrefl _)
      · exact e
    · rcases List.mem_cons.mp ((h x).mpr (List.mem_cons_of_mem _ hx)) with e | e
      · subst e; exact absurd (q1 _ hx) (Int.lt_irrefl _)
      · exact e
theorem mem_getK {j : Int} {x : PV} : ∀ {js : List Int} {xs : List PV}, js.Nodup → xs.length = js.length → ((j, x) ∈ js.zip xs ↔ getK (js.map .inl) xs (.inl j) = some x)
  | [], [], _, _ => by simp [getK]
  | [], _ :: _, _, h => by cases h
  | _ :: _, [], _, h => by cases h
  | i :: js, y :: xs, hn, hl => by
    obtain ⟨n1, n2⟩ := List.nodup_cons.mp hn
    have ih := mem_getK (j := j) (x := x) n2 (by simpa using hl)
    rw [List.zip_cons_cons, List.mem_cons]
    show _ ↔ (if (Sum.inl i : Key) = .inl j then some y else getK (js.map .inl) xs (.inl j)) = some x
    by_cases e : i = j
    · subst e
      rw [if_pos rfl]
      constructor
      · rintro (z | z)
        · cases z; rfl
        · exact absurd (List.of_mem_zip z).1 n1
      · intro z; cases z; exact .inl rfl
    · rw [if_neg fun z => e (by cases z; rfl), ← ih]
      constructor
      · rintro (z | z)
        · cases z; exact absurd rfl e
        · exact z
      · exact .inr
theorem hasK_int {j : Int} : ∀ {js : List Int}, hasK (js.map .inl) (.inl j) = true ↔ j ∈ js
  | [] => by simp [hasK]
  | i :: js => by
    show (if (Sum.inl i : Key) = .inl j then true else hasK (js.map .inl) (.inl j)) = true ↔ _
    by_cases e : i = j
    · subst e; simp
    · rw [if_neg fun z => e (by cases z; rfl), hasK_int, List.mem_cons]
      exact ⟨.inr, fun z => z.elim (fun z => absurd z.symm e) id⟩
theorem setK_int {k : Key} {v : Int} : ∀ (ks : List Key) (vs : List Int), ∃ ws : List Int, setK ks (vs.map PV.int) k (.int v) = ws.map .int ∧ ws.length = vs.length
  | [], vs => ⟨vs, by cases vs <;> rfl, rfl⟩
  | _ :: _, [] => ⟨[], rfl, rfl⟩
  | i :: ks, w :: vs => by
    obtain ⟨ws, e, l⟩ := setK_int (k := k) (v := v) ks vs
    show ∃ ws : List Int, (if i = k then PV.int v :: setK ks (vs.map PV.int) k (.int v) else .int w :: setK ks (vs.map PV.int) k (.int v)) = ws.map .int ∧ _
    split
    · exact ⟨v :: ws, by rw [e]; rfl, by simp [l]⟩
    · exact ⟨w :: ws, by rw [e]; rfl, by simp [l]⟩
/-- a dict of numbers below 16 -/
structure ID (js vs : List Int) : Prop where
  nd : js.Nodup
  rg : ∀ j ∈ js, 0 ≤ j ∧ j < 16
  ln : vs.length = js.length
theorem ID.put {js vs : List Int} (d : ID js vs) {j v : Int} (hj : 0 ≤ j ∧ j < 16) : ∃ js' vs', putKP (js.map .inl) (vs.map PV.int) (.inl j) (.int v) = (js'.map .inl, vs'.map .int) ∧ ID js' vs' ∧ js'.length ≤ js.length + 1 := by
  unfold putKP
  by_cases h : j ∈ js
  · rw [if_pos (hasK_int.mpr h)]
    obtain ⟨ws, e, l⟩ := setK_int (k := .inl j) (v := v) (js.map .inl) vs
    exact ⟨js, ws, by rw [e], ⟨d.nd, d.rg, by rw [l, d.ln]⟩, Nat.le_succ _⟩
  · rw [if_neg fun z => h (hasK_int.mp z)]
    refine ⟨js ++ [j], vs ++ [v], by simp, ⟨?_, ?_, by simp [d.ln]⟩, by simp⟩
    · rw [List.nodup_append]
      exact ⟨d.nd, by simp, fun a ha b hb z => by
        have : b = j := by simpa using hb
        subst this; subst z; exact h ha⟩
    · intro i hi
      rcases List.mem_append.mp hi with hi | hi
      · exact d.rg i hi
      · have : i = j := by simpa using hi
        subst this; exact hj
theorem intsK_map : ∀ (js : List Int), intsK (js.map .inl) = some js
  | [] => rfl
  | j :: js => by
    show (intsK (js.map .inl)).map (j :: ·) = _
    rw [intsK_map js]; rfl
def iv16 : List Int := (List.range 16).map fun (k : Nat) => (0 : Int) + (k : Int)
def pk (js vs : List Int) (i : Int) : Option (Int × PV) := (getK (js.map .inl) (vs.map PV.int) (.inl i)).map fun x => (i, x)
theorem sort_is {js vs : List Int} (d : ID js vs) : sortP (js.zip (vs.map PV.int)) = iv16.filterMap (pk js vs) := by
  have hl : (vs.map PV.int).length = js.length := by simp [d.ln]
  have hk : (js.zip (vs.map PV.int)).map (·.1) = js := List.map_fst_zip (by omega)
  refine eq_of_strict ?_ ?_ fun a => ?_
  · have h1 := sortP_le (js.zip (vs.map PV.int))
    have h2 : ((sortP (js.zip (vs.map PV.int))).map (·.1)).Nodup := by
      have := ((sortP_perm (js.zip (vs.map PV.int))).map (·.1))
      rw [hk] at this
      exact this.nodup_iff.mpr d.nd
    exact (h1.and (List.pairwise_map.mp h2)).imp fun ⟨a, b⟩ => by omega
  · refine List.Pairwise.filterMap (R := fun a b => a < b) (pk js vs) (fun a a' hlt b hb b' hb' => ?_) (by decide)
    unfold pk at hb hb'
    obtain ⟨x, _, rfl⟩ := Option.map_eq_some_iff.mp hb
    obtain ⟨x', _, rfl⟩ := Option.map_eq_some_iff.mp hb'
    exact hlt
  · obtain ⟨j, x⟩ := a
    rw [(sortP_perm _).mem_iff, mem_getK d.nd hl, List.mem_filterMap]
    constructor
    · intro e
      have hj : j ∈ js := (List.of_mem_zip ((mem_getK d.nd hl).mpr e)).1
      obtain ⟨r1, r2⟩ := d.rg j hj
      refine ⟨j, ?_, by unfold pk; rw [e]; rfl⟩
      unfold iv16
      exact List.mem_map.mpr ⟨j.toNat, List.mem_range.mpr (by omega), by omega⟩
    · rintro ⟨i, _, e⟩
      unfold pk at e
      obtain ⟨y, e1, e2⟩ := Option.map_eq_some_iff.mp e
      cases e2
      exact e1
def seenL (js vs : List Int) : List PV := (iv16.filterMap (pk js vs)).map fun p => .tup [.int p.1, p.2]
theorem sortI_is {js vs : List Int} (d : ID js vs) (h64 : js.length < 64) : sortI (js.map .inl) (vs.map PV.int) = some (seenL js vs) := by
  unfold sortI
  rw [intsK_map]
  dsimp only
  rw [if_pos h64, sort_is d]
  rfl
theorem getK_int {ks : List Key} {j : Key} : ∀ {vs : List Int} {x : PV}, getK ks (vs.map PV.int) j = some x → ∃ v, x = .int v := by
  induction ks with
  | nil => intro vs x e; cases vs <;> cases e
  | cons k ks ih =>
    intro vs x e
    cases vs with
    | nil => cases e
    | cons v vs =>
      have e : (if k = j then some (PV.int v) else getK ks (vs.map PV.int) j) = some x := e
      split at e
      · cases e; exact ⟨v, rfl⟩
      · exact ih e
theorem seenL_tl (js vs : List Int) : Tl (seenL js vs) := by
  refine ⟨?_, fun x hx => ?_⟩
  · unfold seenL
    rw [List.length_map]
    have := List.length_filterMap_le (pk js vs) iv16
    have h : iv16.length = 16 := rfl
    omega
  · unfold seenL at hx
    obtain ⟨⟨i, y⟩, h1, rfl⟩ := List.mem_map.mp hx
    obtain ⟨a, _, h2⟩ := List.mem_filterMap.mp h1
    unfold pk at h2
    obtain ⟨z, h3, h4⟩ := Option.map_eq_some_iff.mp h2
    cases h4
    obtain ⟨v, rfl⟩ := getK_int h3
    exact ⟨_, v, rfl⟩
section
variable {h h' : AH}
theorem lt_of {i : Nat} {d : Nd} (e : h[i]? = some d) : i < h.length := (List.getElem?_eq_some_iff.mp e).1
theorem app_get {i : Nat} {d x : Nd} (e : h[i]? = some d) : (h ++ [x])[i]? = some d := by rw [List.getElem?_append_left (lt_of e)]; exact e
theorem set_get {i t : Nat} {d x : Nd} (hi : i ≠ t) (e : h[i]? = some d) : (h.set t x)[i]? = some d := (List.getElem?_set_ne (Ne.symm hi)).trans e
theorem set_same {t : Nat} {d x : Nd} (e : h[t]? = some d) : (h.set t x)[t]? = some x := List.getElem?_set_self (lt_of e)
theorem Stk.lt : ∀ {ls : List Nat} {ds : List (List Key × List PV)}, Stk h ls ds → ∀ l ∈ ls, l < h.length
  | _ :: _, _ :: _, s, l, hl => by
    rcases List.mem_cons.mp hl with rfl | hl
    · exact lt_of s.1
    · exact Stk.lt s.2 l hl
  | [], _, _, l, hl => by simp at hl
  | _ :: _, [], s, _, _ => s.elim
/-- only what lies at fp was changed; all else is new -/
def Frm (h h' : AH) (fp : List Nat) : Prop := h.length ≤ h'.length ∧ ∀ n, n < h.length → n ∉ fp → h'[n]? = h[n]?
theorem Frm.refl {fp : List Nat} : Frm h h fp := ⟨Nat.le_refl _, fun _ _ _ => rfl⟩
theorem Frm.trans {h1 h2 : AH} {fp fp1 : List Nat} (a : Frm h h1 fp) (b : Frm h1 h2 fp1) (k : ∀ n ∈ fp1, n ∈ fp ∨ h.length ≤ n) : Frm h h2 fp := by
  refine ⟨Nat.le_trans a.1 b.1, fun n hn hf => ?_⟩
  rw [b.2 n (Nat.lt_of_lt_of_le hn a.1) fun z => (k n z).elim hf fun z => Nat.lt_irrefl _ (Nat.lt_of_lt_of_le hn z), a.2 n hn hf]
theorem Frm.set {fp : List Nat} {t : Nat} {x : Nd} (a : Frm h h' fp) (ht : t ∈ fp ∨ h.length ≤ t) : Frm h (h'.set t x) fp := by
  refine ⟨by rw [List.length_set]; exact a.1, fun n hn hf => ?_⟩
  rw [List.getElem?_set_ne, a.2 n hn hf]
  rintro rfl
  exact ht.elim hf fun z => Nat.lt_irrefl _ (Nat.lt_of_lt_of_le hn z)
theorem Frm.app {fp : List Nat} {x : Nd} (a : Frm h h' fp) : Frm h (h' ++ [x]) fp := by
  refine ⟨by rw [List.length_append]; exact Nat.le_trans a.1 (Nat.le_add_right _ _), fun n hn hf => ?_⟩
  rw [List.getElem?_append_left (Nat.lt_of_lt_of_le hn a.1), a.2 n hn hf]
theorem Frm.get {fp : List Nat} {n : Nat} {d : Nd} (a : Frm h h' fp) (hn : n ∉ fp) (e : h[n]? = some d) : h'[n]? = some d := (a.2 n (lt_of e) hn).trans e
def isID (d : List Key × List PV) : Prop := ∃ js vs, d = (js.map .inl, vs.map .int) ∧ ID js vs
theorem ID.le {js vs : List Int} (d : ID js vs) : js.length ≤ 16 := by
  have : js.length ≤ iv16.length := List.Nodup.length_le_of_subset d.nd fun j hj => by
    obtain ⟨r1, r2⟩ := d.rg j hj
    unfold iv16
    exact List.mem_map.mpr ⟨j.toNat, List.mem_range.mpr (by omega), by omega⟩
  exact this
/-- a log, and the law's own layers beside it -/
structure UN (h : AH) (o s b : Nat) (ls : List Nat) (t : Nat) (ts : List Nat) (ds : List (List Key × List PV)) : Prop where
  g : LG h o s b ls ds [] []
  tt : h[t]? = some (.lst (ts.map .loc))
  tl : Stk h ts ds
  ne : o ≠ s ∧ o ≠ b ∧ o ≠ t ∧ s ≠ b ∧ s ≠ t ∧ b ≠ t
  out : o ∉ ls ++ ts ∧ s ∉ ls ++ ts ∧ b ∉ ls ++ ts ∧ t ∉ ls ++ ts
  nd : (ls ++ ts).Nodup
  l1 : 1 ≤ ls.length
  l9 : ls.length ≤ 9
  iv : ∀ d ∈ ds, isID d
variable {o s b t : Nat} {ls ts : List Nat} {ds : List (List Key × List PV)}
def fpU (o s b t : Nat) (ls ts : List Nat) : List Nat := o :: s :: b :: t :: (ls ++ ts)
theorem UN.lt (U : UN h o s b ls t ts ds) : ∀ n ∈ fpU o s b t ls ts, n < h.length := by
  intro n hn
  unfold fpU at hn
  simp only [List.mem_cons, List.mem_append] at hn
  rcases hn with rfl | rfl | rfl | rfl | hn | hn
  · exact lt_of U.g.ob
  · exact lt_of U.g.st
  · exact lt_of U.g.sn
  · exact lt_of U.tt
  · exact U.g.dl.lt n hn
  · exact U.tl.lt n hn
theorem UN.frame {fp : List Nat} (U : UN h o s b ls t ts ds) (f : Frm h h' fp) (k : ∀ n ∈ fpU o s b t ls ts, n ∉ fp) : UN h' o s b ls t ts ds := by
  unfold fpU at k
  simp only [List.mem_cons, List.mem_append] at k
  exact { U with
    g := ⟨f.get (k o (by simp)) U.g.ob, f.get (k s (by simp)) U.g.st, f.get (k b (by simp)) U.g.sn, U.g.dl.mono fun l hl d e => f.get (k l (by simp [hl])) e⟩
    tt := f.get (k t (by simp)) U.tt
    tl := U.tl.mono fun l hl d e => f.get (k l (by simp [hl])) e }
theorem UN.top (U : UN h o s b ls t ts ds) : ∃ l p r q es d, ls = l ++ [p] ∧ ts = r ++ [q] ∧ ds = es ++ [d] ∧ Stk h l es ∧ h[p]? = some (.dct d.1 d.2) ∧ Stk h r es ∧ h[q]? = some (.dct d.1 d.2) := by
  have hne : ls ≠ [] := fun z => by have := U.l1; rw [z] at this; simp at this
  have hl2 : ts.length = ls.length := by rw [← U.tl.len, U.g.dl.len]
  have hne2 : ts ≠ [] := fun z => by have := U.l1; rw [z] at hl2; simp at hl2; omega
  obtain ⟨l, p, rfl⟩ : ∃ l p, ls = l ++ [p] := ⟨ls.dropLast, ls.getLast hne, (List.dropLast_concat_getLast hne).symm⟩
  obtain ⟨r, q, rfl⟩ : ∃ r q, ts = r ++ [q] := ⟨ts.dropLast, ts.getLast hne2, (List.dropLast_concat_getLast hne2).symm⟩
  obtain ⟨es, d, rfl, s1, s2⟩ := U.g.dl.split
  obtain ⟨es', d', e, s3, s4⟩ := U.tl.split
  obtain ⟨e1, e2⟩ := List.append_inj' e rfl
  cases e2
  subst e1
  exact ⟨l, p, r, q, es, d, rfl, rfl, rfl, s1, s2, s3, s4⟩
theorem fpU_sub {o s b t : Nat} {ls ts ls' ts' : List Nat} {N : Nat} (h1 : ∀ n ∈ ls', n ∈ ls ∨ N ≤ n) (h2 : ∀ n ∈ ts', n ∈ ts ∨ N ≤ n) : ∀ n ∈ fpU o s b t ls' ts', n ∈ fpU o s b t ls ts ∨ N ≤ n := by
  intro n hn
  unfold fpU at *
  simp only [List.mem_cons, List.mem_append] at *
  rcases hn with rfl | rfl | rfl | rfl | hn | hn
  · simp
  · simp
  · simp
  · simp
  · rcases h1 n hn with z | z
    · simp [z]
    · exact .inr z
  · rcases h2 n hn with z | z
    · simp [z]
    · exact .inr z
end
section
variable {h : AH} {o s b t : Nat} {ls ts : List Nat} {ds : List (List Key × List PV)}
theorem isID.put {d : List Key × List PV} (hd : isID d) {j v : Int} (hj : 0 ≤ j ∧ j < 16) : isID (putKP d.1 d.2 (.inl j) (.int v)) := by
  obtain ⟨js, vs, rfl, d⟩ := hd
  obtain ⟨js', vs', e, d', _⟩ := d.put (v := v) hj
  exact ⟨js', vs', e, d'⟩
theorem isID.mrg : ∀ (js us : List Int) {d : List Key × List PV}, isID d → (∀ j ∈ js, 0 ≤ j ∧ j < 16) → isID (mrgP (js.map .inl) (us.map PV.int) d.1 d.2)
  | [], us, d, hd, _ => by
    have : mrgP (([] : List Int).map .inl) (us.map PV.int) d.1 d.2 = d := by cases us <;> rfl
    rw [this]; exact hd
  | j :: js, [], d, hd, _ => by
    have : mrgP ((j :: js).map .inl) (([] : List Int).map PV.int) d.1 d.2 = d := rfl
    rw [this]; exact hd
  | j :: js, u :: us, d, hd, hr => isID.mrg js us (hd.put (v := u) (hr j List.mem_cons_self)) fun i hi => hr i (List.mem_cons_of_mem _ hi)
theorem isID.len {d : List Key × List PV} (hd : isID d) : d.1.length ≤ 16 := by
  obtain ⟨js, vs, rfl, d⟩ := hd
  show (js.map _).length ≤ 16
  rw [List.length_map]; exact d.le
theorem isID.nil : isID ([], []) := ⟨[], [], rfl, by simp, by simp, rfl⟩
theorem UN.write {l r : List Nat} {p q : Nat} {es : List (List Key × List PV)} {d : List Key × List PV} {j v : Int} (U : UN h o s b (l ++ [p]) t (r ++ [q]) (es ++ [d])) (s1 : Stk h l es) (s2 : h[p]? = some (.dct d.1 d.2)) (s3 : Stk h r es) (s4 : h[q]? = some (.dct d.1 d.2)) (hj : 0 ≤ j ∧ j < 16) :
    UN ((h.set p (.dct (putKP d.1 d.2 (.inl j) (.int v)).1 (putKP d.1 d.2 (.inl j) (.int v)).2)).set q (.dct (putKP d.1 d.2 (.inl j) (.int v)).1 (putKP d.1 d.2 (.inl j) (.int v)).2)) o s b (l ++ [p]) t (r ++ [q]) (es ++ [putKP d.1 d.2 (.inl j) (.int v)]) := by
  obtain ⟨o1, o2, o3, o4⟩ := U.out
  have nd := U.nd
  obtain ⟨n1, n2, n3⟩ := List.nodup_append.mp nd
  have hp : ∀ x, x ∉ (l ++ [p]) ++ (r ++ [q]) → x ≠ p ∧ x ≠ q := fun x hx => ⟨fun z => hx (by simp [z]), fun z => hx (by simp [z])⟩
  have pq : p ≠ q := n3 p (by simp) q (by simp)
  have lp : ∀ x ∈ l, x ≠ p ∧ x ≠ q := fun x hx => ⟨(List.nodup_append.mp n1).2.2 x hx p (by simp), n3 x (by simp [hx]) q (by simp)⟩
  have rq : ∀ x ∈ r, x ≠ p ∧ x ≠ q := fun x hx => ⟨fun z => n3 p (by simp) x (by simp [hx]) z.symm, (List.nodup_append.mp n2).2.2 x hx q (by simp)⟩
  have up : ∀ {x d'}, x ≠ p ∧ x ≠ q → h[x]? = some d' → ∀ {A B}, ((h.set p A).set q B)[x]? = some d' := fun hx e => set_get hx.2 (set_get hx.1 e)
  refine ⟨⟨up (hp o o1) U.g.ob, up (hp s o2) U.g.st, up (hp b o3) U.g.sn, (s1.mono fun x hx d e => up (lp x hx) e).app ⟨set_get pq (set_same s2), trivial⟩⟩, up (hp t o4) U.tt, (s3.mono fun x hx d e => up (rq x hx) e).app ⟨set_same (set_get (Ne.symm pq) s4), trivial⟩, U.ne, U.out, U.nd, U.l1, U.l9, fun d' hd => ?_⟩
  rcases List.mem_append.mp hd with hd | hd
  · exact U.iv d' (by simp [hd])
  · rw [List.mem_singleton.mp hd]; exact (U.iv d (by simp)).put hj
theorem UN.begin (U : UN h o s b ls t ts ds) (h9 : ls.length < 9) : UN ((((h ++ [Nd.dct [] []]).set s (.lst ((ls ++ [h.length]).map .loc))) ++ [Nd.dct [] []]).set t (.lst ((ts ++ [h.length + 1]).map .loc))) o s b (ls ++ [h.length]) t (ts ++ [h.length + 1]) (ds ++ [([], [])]) := by
  obtain ⟨n1, n2, n3, n4, n5, n6⟩ := U.ne
  obtain ⟨o1, o2, o3, o4⟩ := U.out
  have lt := U.lt
  have e1 : (((h ++ [Nd.dct [] []]).set s (.lst ((ls ++ [h.length]).map .loc))) ++ [Nd.dct [] []])[h.length + 1]? = some (.dct [] []) := by
    rw [List.getElem?_append_right (by simp)]; simp
  have ho := lt o (by simp [fpU]); have hs := lt s (by simp [fpU]); have hb := lt b (by simp [fpU]); have ht := lt t (by simp [fpU])
  have ll := fun n (hn : n ∈ ls) => lt n (by simp [fpU, hn])
  have lt' := fun n (hn : n ∈ ts) => lt n (by simp [fpU, hn])
  refine ⟨⟨set_get n3 (app_get (set_get n1 (app_get U.g.ob))), set_get n5 (app_get (set_same (app_get U.g.st))), set_get n6 (app_get (set_get (Ne.symm n4) (app_get U.g.sn))), (U.g.dl.mono fun x hx d e => set_get (show x ≠ t from fun z => o4 (by rw [← z]; simp [hx])) (app_get (set_get (show x ≠ s from fun z => o2 (by rw [← z]; simp [hx])) (app_get e)))).app ⟨set_get (by omega) (app_get (set_get (by omega) (by simp))), trivial⟩⟩,
    set_same (app_get (set_get (Ne.symm n5) (app_get U.tt))), (U.tl.mono fun x hx d e => set_get (show x ≠ t from fun z => o4 (by rw [← z]; simp [hx])) (app_get (set_get (show x ≠ s from fun z => o2 (by rw [← z]; simp [hx])) (app_get e)))).app ⟨set_get (by omega) e1, trivial⟩, U.ne, ?_, ?_, by simp, by simp; omega, fun d' hd => ?_⟩
  · have k : ∀ x, x < h.length → x ∉ ls ++ ts → x ∉ (ls ++ [h.length]) ++ (ts ++ [h.length + 1]) := fun x hx hn z => by
      simp only [List.mem_append, List.mem_singleton] at z hn
      rcases z with (z | z) | (z | z)
      · exact hn (.inl z)
      · omega
      · exact hn (.inr z)
      · omega
    exact ⟨k o ho o1, k s hs o2, k b hb o3, k t ht o4⟩
  · obtain ⟨m1, m2, m3⟩ := List.nodup_append.mp U.nd
    rw [List.nodup_append]
    refine ⟨?_, ?_, fun x hx y hy => ?_⟩
    · rw [List.nodup_append]
      exact ⟨m1, by simp, fun x hx y hy => by have := ll x hx; simp at hy; omega⟩
    · rw [List.nodup_append]
      exact ⟨m2, by simp, fun x hx y hy => by have := lt' x hx; simp at hy; omega⟩
    · simp only [List.mem_append, List.mem_singleton] at hx hy
      rcases hx with hx | hx <;> rcases hy with hy | hy
      · exact m3 x hx y hy
      · have := ll x hx; omega
      · have := lt' y hy; omega
      · omega
  · rcases List.mem_append.mp hd with hd | hd
    · exact U.iv d' hd
    · rw [List.mem_singleton.mp hd]; exact isID.nil
theorem UN.drop {l r : List Nat} {p q : Nat} {es : List (List Key × List PV)} {d : List Key × List PV} (U : UN h o s b (l ++ [p]) t (r ++ [q]) (es ++ [d])) (s1 : Stk h l es) (s3 : Stk h r es) (h1 : 1 ≤ l.length) :
    UN ((h.set t (.lst (r.map .loc))).set s (.lst (l.map .loc))) o s b l t r es := by
  obtain ⟨n1, n2, n3, n4, n5, n6⟩ := U.ne
  obtain ⟨o1, o2, o3, o4⟩ := U.out
  have l9 := U.l9
  have sub : ∀ x, x ∉ (l ++ [p]) ++ (r ++ [q]) → x ∉ l ++ r := fun x hx z => hx (by
    rcases List.mem_append.mp z with z | z <;> simp [z])
  refine ⟨⟨set_get n1 (set_get n3 U.g.ob), set_same (set_get n5 U.g.st), set_get (Ne.symm n4) (set_get n6 U.g.sn), s1.mono fun x hx d e => set_get (fun z => o2 (by rw [← z]; simp [hx])) (set_get (fun z => o4 (by rw [← z]; simp [hx])) e)⟩,
    set_get (Ne.symm n5) (set_same U.tt), s3.mono fun x hx d e => set_get (fun z => o2 (by rw [← z]; simp [hx])) (set_get (fun z => o4 (by rw [← z]; simp [hx])) e), U.ne, ⟨sub o o1, sub s o2, sub b o3, sub t o4⟩, ?_, h1, by simp at l9; omega, fun d' hd => U.iv d' (by simp [hd])⟩
  have := U.nd
  refine this.sublist ?_
  exact List.Sublist.append (List.sublist_append_left _ _) (List.sublist_append_left _ _)
theorem UN.settle {l r : List Nat} {p q u w : Nat} {es : List (List Key × List PV)} {du dt : List Key × List PV} {js us : List Int} (U : UN h o s b (l ++ [u] ++ [p]) t (r ++ [w] ++ [q]) (es ++ [du] ++ [dt])) (s1 : Stk h l es) (s2 : h[u]? = some (.dct du.1 du.2)) (s3 : Stk h r es) (s4 : h[w]? = some (.dct du.1 du.2))
    {M : List Key × List PV} (hM : isID M) {X Y Z : Nd} :
    UN ((((((h.set t (.lst ((r ++ [w]).map .loc))).set s (.lst ((l ++ [u]).map .loc))).set u (.dct M.1 M.2)).set q X).set w (.dct M.1 M.2)).set q Y) o s b (l ++ [u]) t (r ++ [w]) (es ++ [M]) := by
  obtain ⟨n1, n2, n3, n4, n5, n6⟩ := U.ne
  obtain ⟨o1, o2, o3, o4⟩ := U.out
  have l9 := U.l9
  obtain ⟨m1, m2, m3⟩ := List.nodup_append.mp U.nd
  have ml := (List.nodup_append.mp (List.nodup_append.mp m1).1).2.2
  have mr := (List.nodup_append.mp (List.nodup_append.mp m2).1).2.2
  have mq := (List.nodup_append.mp m2).2.2
  have sub : ∀ x, x ∉ (l ++ [u] ++ [p]) ++ (r ++ [w] ++ [q]) → x ∉ (l ++ [u]) ++ (r ++ [w]) := fun x hx z => hx (by
    simp only [List.mem_append, List.mem_singleton] at z ⊢
    rcases z with (z | z) | (z | z) <;> simp [z])
  have out : ∀ x, x ∉ (l ++ [u] ++ [p]) ++ (r ++ [w] ++ [q]) → x ≠ u ∧ x ≠ q ∧ x ≠ w := fun x hx => ⟨fun z => hx (by simp [z]), fun z => hx (by simp [z]), fun z => hx (by simp [z])⟩
  obtain ⟨a1, a2, a3⟩ := out o o1
  obtain ⟨b1, b2, b3⟩ := out s o2
  obtain ⟨c1, c2, c3⟩ := out b o3
  obtain ⟨d1, d2, d3⟩ := out t o4
  have uw : u ≠ w := m3 u (by simp) w (by simp)
  have uq : u ≠ q := m3 u (by simp) q (by simp)
  have wq : w ≠ q := mq w (by simp) q (by simp)
  have inl : ∀ x ∈ l, x ≠ u ∧ x ≠ q ∧ x ≠ w ∧ x ≠ s ∧ x ≠ t := fun x hx => ⟨ml x hx u (by simp), m3 x (by simp [hx]) q (by simp), m3 x (by simp [hx]) w (by simp), fun z => o2 (by rw [← z]; simp [hx]), fun z => o4 (by rw [← z]; simp [hx])⟩
  have inr : ∀ x ∈ r, x ≠ u ∧ x ≠ q ∧ x ≠ w ∧ x ≠ s ∧ x ≠ t := fun x hx => ⟨fun z => m3 u (by simp) x (by simp [hx]) z.symm, mq x (by simp [hx]) q (by simp), mr x hx w (by simp), fun z => o2 (by rw [← z]; simp [hx]), fun z => o4 (by rw [← z]; simp [hx])⟩
  have up : ∀ {x d'}, (x ≠ u ∧ x ≠ q ∧ x ≠ w ∧ x ≠ s ∧ x ≠ t) → h[x]? = some d' → ((((((h.set t (.lst ((r ++ [w]).map .loc))).set s (.lst ((l ++ [u]).map .loc))).set u (.dct M.1 M.2)).set q X).set w (.dct M.1 M.2)).set q Y)[x]? = some d' := fun k e =>
    set_get k.2.1 (set_get k.2.2.1 (set_get k.2.1 (set_get k.1 (set_get k.2.2.2.1 (set_get k.2.2.2.2 e)))))
  refine ⟨⟨up ⟨a1, a2, a3, n1, n3⟩ U.g.ob, set_get b2 (set_get b3 (set_get b2 (set_get b1 (set_same (set_get n5 U.g.st))))), up ⟨c1, c2, c3, Ne.symm n4, n6⟩ U.g.sn, (s1.mono fun x hx d e => up (inl x hx) e).app ⟨set_get uq (set_get uw (set_get uq (set_same (set_get (Ne.symm b1) (set_get (Ne.symm d1) s2))))), trivial⟩⟩,
    set_get d2 (set_get d3 (set_get d2 (set_get d1 (set_get (Ne.symm n5) (set_same U.tt))))), (s3.mono fun x hx d e => up (inr x hx) e).app ⟨set_get wq (set_same (set_get wq (set_get (Ne.symm uw) (set_get (Ne.symm b3) (set_get (Ne.symm d3) s4))))), trivial⟩, U.ne, ⟨sub o o1, sub s o2, sub b o3, sub t o4⟩, ?_, by simp, by simp at l9 ⊢; omega, fun d' hd => ?_⟩
  · refine U.nd.sublist ?_
    exact List.Sublist.append (List.sublist_append_left _ _) (List.sublist_append_left _ _)
  · rcases List.mem_append.mp hd with hd | hd
    · exact U.iv d' (by simp [hd])
    · rw [List.mem_singleton.mp hd]; exact hM
end
section
variable {h : AH} {o s b t : Nat} {ls ts : List Nat} {ds : List (List Key × List PV)}
theorem dget_fz {n : Nat} {ks : List Key} {xs : List PV} {i : Int} {x : PV} {ek ed : XE} {ρ : PSt} (ed' : ed ρ h = some (.loc n, h)) (ek' : ek ρ h = some (.int i, h)) (e : h[n]? = some (.fz ks xs)) (hx : getK ks xs (.inl i) = some x) : xDGet ed ek ρ h = some (x, h) := by
  unfold xDGet
  rw [ed', x_ob, ek', x_ob]
  unfold dctR
  simp only [e, keyOf, hx]
noncomputable def k14_put : XS := xDPut (xOp (oIxL) (xVar 1) (xUn oNeg (xC (.int 1)))) (xVar 9) (xDGet (xVar 8) (xVar 9))
theorem loopD {t q w : Nat} {r : List Nat} {D : List Key × List PV} (htw : t ≠ w) (hqw : q ≠ w) {v0 v2 v3 v4 v5 v6 v7 : PVar} : ∀ (js us : List Int) (h : AH) (K : List Key × List PV) (c : PVar), us.length = js.length → (∀ (i : Nat) (j u : Int), js[i]? = some j → us[i]? = some u → getK D.1 D.2 (.inl j) = some (.int u)) → K.1.length + js.length < 1000 →
    h[t]? = some (.lst ((r ++ [w]).map .loc)) → h[q]? = some (.fz D.1 D.2) → h[w]? = some (.dct K.1 K.2) →
    ∃ c' : PVar, forL (yName 9) k14_put (((js.map .inl : List Key)).map keyPV) [v0, .val (.loc t), v2, v3, v4, v5, v6, v7, .val (.loc q), c] h =
      some (.nx [v0, .val (.loc t), v2, v3, v4, v5, v6, v7, .val (.loc q), c'], h.set w (.dct (mrgP (js.map .inl) (us.map PV.int) K.1 K.2).1 (mrgP (js.map .inl) (us.map PV.int) K.1 K.2).2))
  | [], us, h, K, c, hl, hg, hk, ht, hq, hw => by
    have : us = [] := by simpa using hl
    subst this
    refine ⟨c, ?_⟩
    show some (Out.nx _, h) = some (.nx _, h.set w (.dct K.1 K.2))
    have : h.set w (.dct K.1 K.2) = h := by
      apply List.ext_getElem?
      intro j
      by_cases hj : w = j
      · subst hj; rw [List.getElem?_set_self (lt_of hw), hw]
      · rw [List.getElem?_set_ne hj]
    rw [this]
  | j :: js, [], h, K, c, hl, hg, hk, ht, hq, hw => by simp at hl
  | j :: js, u :: us, h, K, c, hl, hg, hk, ht, hq, hw => by
    have hu := hg 0 j u rfl rfl
    have hput : k14_put [v0, .val (.loc t), v2, v3, v4, v5, v6, v7, .val (.loc q), .val (.int j)] h = some (.nx [v0, .val (.loc t), v2, v3, v4, v5, v6, v7, .val (.loc q), .val (.int j)], h.set w (.dct (putKP K.1 K.2 (.inl j) (.int u)).1 (putKP K.1 K.2 (.inl j) (.int u)).2)) := by
      unfold k14_put
      have hix : xOp (oIxL) (xVar 1) (xUn oNeg (xC (.int 1))) [v0, .val (.loc t), v2, v3, v4, v5, v6, v7, .val (.loc q), .val (.int j)] h = some (.loc w, h) := by
        rw [x_op, show xVar 1 [v0, .val (.loc t), v2, v3, v4, v5, v6, v7, .val (.loc q), .val (.int j)] h = some (.loc t, h) from rfl, x_ob]
        show ob (some (PV.int (-1), h)) _ = _
        rw [x_ob, ix_last ht]
      exact dput_loc (n := w) (dget_fz rfl rfl hq hu) hix rfl hw (by simp at hk; omega)
    have pl : (putKP K.1 K.2 (.inl j) (.int u)).1.length ≤ K.1.length + 1 := by
      unfold putKP
      split <;> simp
    obtain ⟨c', ih⟩ := loopD htw hqw js us (h.set w (.dct (putKP K.1 K.2 (.inl j) (.int u)).1 (putKP K.1 K.2 (.inl j) (.int u)).2)) (putKP K.1 K.2 (.inl j) (.int u)) (.val (.int j)) (by simpa using hl) (fun i j u h1 h2 => hg (i + 1) j u (by simpa using h1) (by simpa using h2)) (by simp at hk; omega) (set_get htw ht) (set_get hqw hq) (set_same hw)
    refine ⟨c', ?_⟩
    rw [List.map_cons, List.map_cons, x_forC, show yName 9 (keyPV (.inl j)) [v0, .val (.loc t), v2, v3, v4, v5, v6, v7, .val (.loc q), c] = some [v0, .val (.loc t), v2, v3, v4, v5, v6, v7, .val (.loc q), .val (.int j)] from rfl, Option.bind_some, hput, x_ob]
    show forL (yName 9) k14_put ((js.map .inl : List Key).map keyPV) [v0, .val (.loc t), v2, v3, v4, v5, v6, v7, .val (.loc q), .val (.int j)] _ = _
    rw [ih, List.set_set]
    rfl
theorem ixm {t w : Nat} {r : List Nat} {ρ : PSt} (hv : xVar 1 ρ h = some (.loc t, h)) (ht : h[t]? = some (.lst ((r ++ [w]).map .loc))) : xOp (oIxL) (xVar 1) (xUn oNeg (xC (.int 1))) ρ h = some (.loc w, h) := by
  rw [x_op, hv, x_ob]
  show ob (some (PV.int (-1), h)) _ = _
  rw [x_ob, ix_last ht]
theorem x_dnew {ρ : PSt} : xDNew ρ h = some (.dct [] [], h) := id rfl
theorem getK_at : ∀ {js vs : List Int}, js.Nodup → vs.length = js.length → ∀ (i : Nat) (j u : Int), js[i]? = some j → vs[i]? = some u → getK (js.map .inl) (vs.map PV.int) (.inl j) = some (.int u) := by
  intro js vs hn hl i j u h1 h2
  refine (mem_getK hn (by simpa using hl)).mp ?_
  refine List.mem_of_getElem? (i := i) ?_
  rw [List.getElem?_zip_eq_some]
  exact ⟨h1, by rw [List.getElem?_map, h2]; rfl⟩
theorem mixed_eq (z : Int) : p__law_mixed [.int z] h = some (.int (z * 48271 % 999999999989), h) := by
  unfold p__law_mixed
  rw [run_eq]
  show ob (xRet _ [.val (.int z)] h) fnK = _
  walk_at "px"
theorem done_eq {m z bx : Int} (U : UN h o s b ls t ts ds) (bx1 : 0 < bx) (bx2 : bx ≤ 16) : ∃ h' ls' ts' ds', p__law_done [.loc o, .loc t, .int m, .int z, .int bx] h = some (.non, h') ∧ UN h' o s b ls' t ts' ds' ∧ Frm h h' (fpU o s b t ls ts) ∧ ∀ n ∈ fpU o s b t ls' ts', n ∈ fpU o s b t ls ts ∨ h.length ≤ n := by
  have hb : 0 ≤ m / 8 % bx ∧ m / 8 % bx < 16 := ⟨Int.emod_nonneg _ (by omega), Int.lt_of_lt_of_le (Int.emod_lt_of_pos _ bx1) bx2⟩
  have hlen : ts.length = ls.length := by rw [← U.tl.len, U.g.dl.len]
  unfold p__law_done
  rw [run_eq]
  show ∃ h' ls' ts' ds', ob (xSeq _ _ [.val (.loc o), .val (.loc t), .val (.int m), .val (.int z), .val (.int bx), .no, .no, .no, .no, .no] h) fnK = _ ∧ _
  walk_at "px"
  rw [if_pos bx1]
  by_cases h4 : m % 8 < 4
  · obtain ⟨num, en⟩ : ∃ num : Int, atI [PV.int 0, .int (m / 1000 % 5), .int (z * 982451653 % 18446744073709551616), .int 18446744073709551615] (m / 200 % 4) = some (.int num) := by
      rcases (show m / 200 % 4 = 0 ∨ m / 200 % 4 = 1 ∨ m / 200 % 4 = 2 ∨ m / 200 % 4 = 3 by omega) with e | e | e | e <;> rw [e]
      · exact ⟨_, at_0⟩
      · exact ⟨_, at_1⟩
      · exact ⟨_, at_2⟩
      · exact ⟨_, at_3⟩
    obtain ⟨l, p, r, q, es, d, rfl, rfl, rfl, s1, s2, s3, s4⟩ := U.top
    have hd : d.1.length < 1000 := Nat.lt_of_le_of_lt (U.iv d (by simp)).len (by decide)
    have n3 := (List.nodup_append.mp U.nd).2.2
    have pq : p ≠ q := n3 p (by simp) q (by simp)
    have tp : t ≠ p := fun z => U.out.2.2.2 (by simp [z])
    refine ⟨_, l ++ [p], r ++ [q], es ++ [putKP d.1 d.2 (.inl (m / 8 % bx)) (.int num)], ?_, U.write (v := num) s1 s2 s3 s4 hb, (Frm.refl.set (.inl (by simp [fpU]))).set (.inl (by simp [fpU])), fun n hn => .inl hn⟩
    rw [if_pos h4, en, Option.bind_some, x_ob, mth_loc U.g.ob rfl (by decide +kernel) rfl, write_eq U.g s2 hd, x_ob]
    have ht := set_get (x := .dct (putKP d.1 d.2 (.inl (m / 8 % bx)) (.int num)).1 (putKP d.1 d.2 (.inl (m / 8 % bx)) (.int num)).2) tp U.tt
    rw [dput_loc (n := q) (i := m / 8 % bx) (x := .int num) rfl (ixm rfl ht) rfl (set_get (Ne.symm pq) s4) hd, x_ob]
    rfl
  · rw [if_neg h4]
    by_cases h6 : m % 8 < 6
    · rw [if_pos h6, len_loc U.tt, List.length_map, x_ob]
      walk_at "px"
      by_cases h9 : (ts.length : Int) < 9
      · refine ⟨_, _, _, _, ?_, U.begin (by omega), ?_, ?_⟩
        · rw [if_pos h9, mth_loc U.g.ob rfl (by decide +kernel) rfl, begin_eq U.g (by omega), x_ob]
          have ht := set_get (x := .lst ((ls ++ [h.length]).map .loc)) (Ne.symm U.ne.2.2.2.2.1) (app_get (x := Nd.dct [] []) U.tt)
          rw [if_pos (isLst_loc ht)]
          rw [x_dnew, x_ob, app_loc (app_get ht) (by rw [List.length_map]; omega), x_ob]
          have e : ((h ++ [Nd.dct [] []]).set s (.lst ((ls ++ [h.length]).map PV.loc))).length = h.length + 1 := by simp
          rw [e, List.map_append (l₁ := ts)]
          rfl
        · exact (((Frm.refl.app).set (.inl (by simp [fpU]))).app).set (.inl (by simp [fpU]))
        · exact fpU_sub (fun n hn => by simp only [List.mem_append, List.mem_singleton] at hn; rcases hn with z | z; exact .inl z; exact .inr (by omega)) fun n hn => by simp only [List.mem_append, List.mem_singleton] at hn; rcases hn with z | z; exact .inl z; exact .inr (by omega)
      · exact ⟨h, ls, ts, ds, by rw [if_neg h9], U, Frm.refl, fun n hn => .inl hn⟩
    · rw [if_neg h6, len_loc U.tt, List.length_map, x_ob]
      walk_at "px"
      by_cases h1 : (ts.length : Int) > 1
      · obtain ⟨l, p, r, q, es, d, rfl, rfl, rfl, s1, s2, s3, s4⟩ := U.top
        obtain ⟨n1, n2, n3, n4, n5, n6⟩ := U.ne
        obtain ⟨o1, o2, o3, o4⟩ := U.out
        have hl1 : 1 ≤ l.length := by simp at hlen h1; omega
        have gob := set_get (x := .lst (r.map .loc)) n3 U.g.ob
        rw [if_pos h1, if_pos (isLst_loc U.tt), pop_loc U.tt, x_ob]
        have g1 : LG (h.set t (.lst (r.map .loc))) o s b (l ++ [p]) (es ++ [d]) [] [] := ⟨gob, set_get n5 U.g.st, set_get n6 U.g.sn, U.g.dl.mono fun x hx d e => set_get (fun z => o4 (by rw [← z]; simp only [List.mem_append] at hx ⊢; exact .inl hx)) e⟩
        by_cases e6 : m % 8 = 6
        · have hne : l ≠ [] := fun z => by rw [z] at hl1; simp at hl1
          have hne2 : r ≠ [] := fun z => by
            have hlr : r.length = l.length := by simpa using hlen
            rw [z] at hlr
            simp at hlr
            omega
          obtain ⟨l, u, rfl⟩ : ∃ l' u, l = l' ++ [u] := ⟨l.dropLast, l.getLast hne, (List.dropLast_concat_getLast hne).symm⟩
          obtain ⟨r, w, rfl⟩ : ∃ r' w, r = r' ++ [w] := ⟨r.dropLast, r.getLast hne2, (List.dropLast_concat_getLast hne2).symm⟩
          obtain ⟨es, du, rfl, s5, s6⟩ := s1.split
          obtain ⟨es', du', e, s7, s8⟩ := s3.split
          obtain ⟨e1, e2⟩ := List.append_inj' e rfl
          cases e2
          subst e1
          obtain ⟨js, vs, rfl, hID⟩ := U.iv d (by simp)
          have hdu := U.iv du (by simp)
          have hM : isID (mrgP (js.map .inl) (vs.map PV.int) du.1 du.2) := isID.mrg js vs hdu hID.rg
          have l1 := hdu.len
          have l2 := hID.le
          obtain ⟨m1, m2, m3⟩ := List.nodup_append.mp U.nd
          have up := m1 |> List.nodup_append.mp |>.2.2 u (by simp) p (by simp)
          have wq := m2 |> List.nodup_append.mp |>.2.2 w (by simp) q (by simp)
          have us : u ≠ s := fun z => o2 (by rw [← z]; simp)
          have ps : p ≠ s := fun z => o2 (by rw [← z]; simp)
          have ut : u ≠ t := fun z => o4 (by rw [← z]; simp)
          have pt : p ≠ t := fun z => o4 (by rw [← z]; simp)
          have uq : u ≠ q := m3 u (by simp) q (by simp)
          have uw : u ≠ w := m3 u (by simp) w (by simp)
          have tq : t ≠ q := fun z => o4 (by rw [z]; simp)
          have tw : t ≠ w := fun z => o4 (by rw [z]; simp)
          have sq : s ≠ q := fun z => o2 (by rw [z]; simp)
          have sw : s ≠ w := fun z => o2 (by rw [z]; simp)
          refine ⟨_, l ++ [u], r ++ [w], _, ?_, U.settle (js := []) (us := []) (X := .fz (js.map .inl) (vs.map PV.int)) (Y := .dct (js.map .inl) (vs.map PV.int)) (Z := .dead) s5 s6 s7 s8 hM, ?_, ?_⟩
          · rw [if_pos e6, mth_loc gob rfl (by decide +kernel) rfl, settle_eq g1 n1 us ps up (set_get ut s6) (set_get pt s2) (by rw [List.length_map]; omega), x_ob]
            have ht : ((((h.set t (.lst ((r ++ [w]).map .loc))).set s (.lst ((l ++ [u]).map .loc))).set u (.dct (mrgP (js.map .inl) (vs.map PV.int) du.1 du.2).1 (mrgP (js.map .inl) (vs.map PV.int) du.1 du.2).2)))[t]? = some (.lst ((r ++ [w]).map .loc)) := set_get (Ne.symm ut) (set_get (Ne.symm n5) (set_same U.tt))
            have hq : ((((h.set t (.lst ((r ++ [w]).map .loc))).set s (.lst ((l ++ [u]).map .loc))).set u (.dct (mrgP (js.map .inl) (vs.map PV.int) du.1 du.2).1 (mrgP (js.map .inl) (vs.map PV.int) du.1 du.2).2)))[q]? = some (.dct (js.map .inl) (vs.map PV.int)) := set_get (Ne.symm uq) (set_get (Ne.symm sq) (set_get (Ne.symm tq) s4))
            have hw : ((((h.set t (.lst ((r ++ [w]).map .loc))).set s (.lst ((l ++ [u]).map .loc))).set u (.dct (mrgP (js.map .inl) (vs.map PV.int) du.1 du.2).1 (mrgP (js.map .inl) (vs.map PV.int) du.1 du.2).2)))[w]? = some (.dct du.1 du.2) := set_get (Ne.symm uw) (set_get (Ne.symm sw) (set_get (Ne.symm tw) s8))
            generalize ((h.set t (.lst ((r ++ [w]).map .loc))).set s (.lst ((l ++ [u]).map .loc))).set u (.dct (mrgP (js.map .inl) (vs.map PV.int) du.1 du.2).1 (mrgP (js.map .inl) (vs.map PV.int) du.1 du.2).2) = h2 at ht hq hw ⊢
            obtain ⟨c', ec⟩ := loopD (t := t) (q := q) (w := w) (r := r) (D := (js.map .inl, vs.map PV.int)) tw (Ne.symm wq) (v0 := .val (.loc o)) (v2 := .val (.int m)) (v3 := .val (.int z)) (v4 := .val (.int bx)) (v5 := .val (.int (m % 8))) (v6 := .val (.int (m / 8 % bx))) (v7 := .no) js vs (h2.set q (.fz (js.map .inl) (vs.map PV.int))) du .no hID.ln (getK_at hID.nd hID.ln) (by omega) (set_get tq ht) (set_same hq) (set_get wq hw)
            unfold xForD
            rw [show xVar 8 [PVar.val (PV.loc o), PVar.val (PV.loc t), PVar.val (PV.int m), PVar.val (PV.int z), PVar.val (PV.int bx), PVar.val (PV.int (m % 8)), PVar.val (PV.int (m / 8 % bx)), PVar.no, PVar.val (.loc q), PVar.no] h2 = some (.loc q, h2) from rfl, x_ob]
            simp only [hq]
            unfold k14_put at ec
            rw [ec, x_ob, x_ob]
            rfl
          · exact (((((Frm.refl.set (.inl (by simp [fpU]))).set (.inl (by simp [fpU]))).set (.inl (by simp [fpU]))).set (.inl (by simp [fpU]))).set (.inl (by simp [fpU]))).set (.inl (by simp [fpU]))
          · exact fpU_sub (fun n hn => .inl (List.mem_append_left _ hn)) fun n hn => .inl (List.mem_append_left _ hn)
        · refine ⟨_, l, r, _, ?_, U.drop s1 s3 hl1, (Frm.refl.set (.inl (by simp [fpU]))).set (.inl (by simp [fpU])), ?_⟩
          · rw [if_neg e6, mth_loc gob rfl (by decide +kernel) rfl, drop_eq g1, x_ob]
          · exact fpU_sub (fun n hn => .inl (List.mem_append_left _ hn)) fun n hn => .inl (List.mem_append_left _ hn)
      · exact ⟨h, ls, ts, ds, by rw [if_neg h1], U, Frm.refl, fun n hn => .inl hn⟩
end
section
variable {h : AH} {o s b t : Nat} {ls ts : List Nat} {ds : List (List Key × List PV)}
theorem lown_loop {i : Int} (et : h[t]? = some (.lst (ts.map .loc))) (dl : Stk h ts ds) : ∀ (k n : Nat), k + n = ts.length → ∀ c : PVar, ∃ c' : PVar,
    forX t false (yName 3) (xIfS (xTest (xDIn false (xVar 1) (xVar 3))) (xAsg (xDGet (xVar 3) (xVar 1)) (yName 2)) (xNext)) k n [.val (.loc t), .val (.int i), .val (ownK ds (.inl i) n), c] h = some (.nx [.val (.loc t), .val (.int i), .val (ownK ds (.inl i) ts.length), c'], h) := by
  intro k
  induction k with
  | zero =>
    intro n hn c
    have : n = ts.length := by omega
    subst this
    refine ⟨c, ?_⟩
    unfold forX
    simp only [et]
    rw [if_pos (by simp)]
  | succ k ih =>
    intro n hn c
    obtain ⟨l, d, e1, e2, e3⟩ := dl.get n (by omega)
    have e4 : (ts.map PV.loc)[n]? = some (.loc l) := by rw [List.getElem?_map, e1]; rfl
    unfold forX
    simp only [et, if_false, e4, Bool.false_eq_true]
    have er : yName 3 (.loc l) [.val (.loc t), .val (.int i), .val (ownK ds (.inl i) n), c] = some [.val (.loc t), .val (.int i), .val (ownK ds (.inl i) n), .val (.loc l)] := rfl
    rw [er, Option.bind_some, x_ifS, x_test, din_loc (n := l) rfl rfl e3, x_ob, x_oB, x_ob]
    obtain ⟨c', ih'⟩ := ih (n + 1) (by omega) (.val (.loc l))
    have ho : ownK ds (.inl i) (n + 1) = match getK d.1 d.2 (.inl i) with | some x => x | none => ownK ds (.inl i) n := by
      rw [ownK]
      simp only [e2]
      try (cases getK d.1 d.2 (.inl i) <;> rfl)
    refine ⟨c', ?_⟩
    cases hg : getK d.1 d.2 (.inl i) with
    | none =>
      rw [hg] at ho
      rw [if_neg (by simp), x_next, x_ob]
      dsimp only at ho ⊢
      rw [← ho]
      exact ih'
    | some x =>
      rw [hg] at ho
      rw [if_pos (show (some x).isSome = true from rfl), x_asg, dget_loc (n := l) rfl rfl e3 hg, x_ob]
      dsimp only at ho
      show ob (some (Out.nx [.val (.loc t), .val (.int i), .val x, .val (.loc l)], h)) _ = _
      rw [x_ob, ← ho]
      exact ih'
theorem lown_eq {i : Int} (et : h[t]? = some (.lst (ts.map .loc))) (dl : Stk h ts ds) : p__law_own [.loc t, .int i] h = some (ownK ds (.inl i) ts.length, h) := by
  unfold p__law_own
  rw [run_eq]
  show ob (xSeq _ _ [.val (.loc t), .val (.int i), .no, .no] h) fnK = _
  obtain ⟨c', e⟩ := lown_loop (i := i) et dl ts.length 0 (by omega) .no
  rw [x_seq, x_asg]
  show ob (xSeq _ _ [.val (.loc t), .val (.int i), .val .non, .no] h) fnK = _
  rw [x_seq, x_obA]
  unfold xForX
  show ob (ob (some (PV.loc t, h)) _) _ = _
  rw [x_ob]
  simp only [et, List.length_map]
  rw [show ownK ds (.inl i) 0 = .non from rfl] at e
  rw [e, x_ob, x_sqN]
  rfl
theorem own_flat {j : Key} (hi : ∀ d ∈ ds, isID d) : ∀ k, ownK ds j k = .non ∨ ∃ v, ownK ds j k = .int v
  | 0 => .inl rfl
  | k + 1 => by
    unfold ownK
    split
    · rename_i d hd
      split
      · rename_i x hx
        obtain ⟨js, ws, rfl, _⟩ := hi d (List.mem_of_getElem? hd)
        exact .inr (getK_int hx)
      · exact own_flat hi k
    · exact .inl rfl
theorem sortN_zip {js vs : List Int} (d : ID js vs) : (sortP (js.zip (vs.map PV.int))).map (·.1) = sortN js := by
  have hl : (vs.map PV.int).length = js.length := by simp [d.ln]
  have hk : (js.zip (vs.map PV.int)).map (·.1) = js := List.map_fst_zip (by omega)
  refine sortN_is ?_ ?_
  · have := (sortP_perm (js.zip (vs.map PV.int))).map (·.1)
    rw [hk] at this
    exact this
  · exact List.pairwise_map.mpr (sortP_le _)
/-- the comprehension over sorted(d) -/
theorem cmp_wrote {n : Nat} {js vs : List Int} {e : XE} {inn : PV → PSt} (d : ID js vs) (he : ∀ (j : Int) (x : PV), getK (js.map .inl) (vs.map PV.int) (.inl j) = some x → e (inn (.int j)) h = some (.tup [.int j, x], h)) :
    cmpL e inn ((sortN js).map .int) h = some (seenL js vs, h) := by
  have hl : (vs.map PV.int).length = js.length := by simp [d.ln]
  have e1 : (sortN js).map PV.int = (sortP (js.zip (vs.map PV.int))).map fun p => .int p.1 := by
    rw [← sortN_zip d, List.map_map]; rfl
  rw [e1, cmpL_of (fun p : Int × PV => .int p.1) (fun p => .tup [.int p.1, p.2]) fun p hp => he p.1 p.2 ?_]
  · unfold seenL
    rw [sort_is d]
  · exact (mem_getK d.nd hl).mp ((sortP_perm _).mem_iff.mp hp)
theorem ix_first {n : Nat} {l : Nat} {r : List Nat} (e : h[n]? = some (.lst ((l :: r).map PV.loc))) : oIxL (.loc n) (.int 0) h = some (.loc l, h) := by
  unfold oIxL
  simp only [e]
  have : atI ((l :: r).map PV.loc) 0 = some (.loc l) := atI_nat (j := 0) rfl
  rw [this]
theorem ix0 {n l : Nat} {r : List Nat} {ρ : PSt} (hv : xVar 1 ρ h = some (.loc n, h)) (e : h[n]? = some (.lst ((l :: r).map PV.loc))) : xOp oIxL (xVar 1) (xC (PV.int 0)) ρ h = some (.loc l, h) := by
  rw [x_op, hv, x_ob]
  show ob (some (PV.int 0, h)) _ = _
  rw [x_ob, ix_first e]
theorem wrote_eq {l : Nat} {r : List Nat} {ks : List Key} {xs : List PV} {js vs : List Int} (g : LG h o s b (l :: r) ds ks xs) (e : h[l]? = some (.dct (js.map .inl) (vs.map PV.int))) (d : ID js vs) : p_Log_wrote [.loc o] h = some (.loc h.length, h ++ [.lst (seenL js vs)]) := by
  unfold p_Log_wrote
  rw [run_eq, x_seq, x_asg, x_op, x_fld, show xVar 0 ([PV.loc o].map .val ++ List.replicate (2 - [PV.loc o].length) .no) h = some (.loc o, h) from rfl, x_ob, fst_loc g.ob, x_ob]
  show ob (ob (ob (oIxL (.loc s) (.int 0) h) _) _) _ = _
  rw [ix_first g.st, x_ob]
  show ob (xRet (xLoc (xSortI (xVar 1))) [.val (.loc o), .val (.loc l)] h) fnK = _
  rw [x_ret, x_loc]
  unfold xSortI
  show ob (ob (ob (ob (some (PV.loc l, h)) _) _) _) _ = _
  rw [x_ob]
  unfold dctOf
  have := d.le
  simp only [e, sortI_is d (by omega)]
  rfl
theorem UN.low (U : UN h o s b ls t ts ds) : ∃ l r q u js vs, ls = l :: r ∧ ts = q :: u ∧ h[l]? = some (.dct (js.map .inl) (vs.map PV.int)) ∧ h[q]? = some (.dct (js.map .inl) (vs.map PV.int)) ∧ ID js vs := by
  have l1 := U.l1
  have hlen : ts.length = ls.length := by rw [← U.tl.len, U.g.dl.len]
  match ls, ts, ds, U with
  | [], _, _, U => simp at l1
  | _ :: _, [], _, _ => simp at hlen
  | l :: r, q :: u, [], U => exact U.g.dl.elim
  | l :: r, q :: u, d :: ds, U =>
    obtain ⟨js, vs, rfl, hd⟩ := U.iv d (by simp)
    exact ⟨l, r, q, u, js, vs, rfl, rfl, U.g.dl.1, U.tl.1, hd⟩
theorem isN_int {v : Int} : isN (.int v) = false := id rfl
theorem isN_non : isN .non = true := id rfl
local macro_rules | `(tactic| walk_at "p6") => `(tactic| simp only [x_ob, x_obN, x_obA, x_var0, x_varS, x_c, x_op, x_opO, x_un, x_oB, x_chain, x_test, x_andV, x_orV, x_notV, x_and, x_or, x_not, x_if, x_nil, x_cons, x_tup, x_lst, x_fz, x_fzL, x_fzI, x_loc, x_call, x_cb, x_cbO, x_bm, x_isStr, x_make, x_makeO, x_next, x_seq, x_sqN, x_sqR, x_sqB, x_sqC, x_break, x_cont, x_drop, x_ret, x_retN, x_ifS, x_asg, x_asgO, x_name, x_yNil, x_yCons, x_yTup, x_frz, x_fz0, x_fzS, x_fvO, x_fvV, x_fvN, x_for, x_frN, x_frC, x_frB, x_frR, x_fnR, x_fnN, x_inK, x_i, x_ic, x_fld, x_fldO, x_meth, x_neg, mulOkR, mulOkL, powOk, x_eqI, x_eqS, x_eqB, x_neI, x_neS, x_isN, x_notN, x_addS, x_in1, x_ixL, x_ixR, x_ixT, x_ixS, x_slL, x_slR, x_cat, x_rep, x_sl, x_slO, x_part, x_nopart, x_lenL, x_lenT, x_lenR, x_lenS, x_int1i, x_int1b, x_strI, x_listL, x_listT, x_comp, x_ite, Option.bind_some, Option.bind_none, List.set_cons_zero, List.set_cons_succ, List.length_cons, List.length_nil, decide_eq_true_eq, Bool.not_eq_true', decide_eq_false_iff_not, if_true, if_false, ite_true, ite_false, and_self, Int.reducePow, Int.reduceToNat, Int.reduceLT, Int.reduceLE, Int.reduceNeg, Int.reduceAdd, Int.reduceSub, Nat.reduceLT, Nat.reduceLeDiff, Nat.reduceAdd, true_and, and_true, reduceIte, Nat.reduceEqDiff, le_refl_nat, eq_self, at_0, at_1, at_2, at_3, at_4, at_5, dec_T, dec_F, ff_eq, tf_eq, Int.reduceEq, Nat.reduceEqDiff, Bool.not_true, Bool.not_false, fv_Log_stack, fv_Log_last_seen, iv_Log_stack, iv_Log_last_seen, x_ixA_t, x_ixA_l, isN_int, isN_non, Bool.not_true, Bool.not_false])
theorem stands_eq {box turn : Int} (U : UN h o s b ls t ts ds) : ∃ h', p__law_stands [.loc o, .loc t, .int box, .int turn] h = some (.bl true, h') ∧ Frm h h' [] := by
  have hlen : ts.length = ls.length := by rw [← U.tl.len, U.g.dl.len]
  unfold p__law_stands
  rw [run_eq]
  show ∃ h', ob (xSeq _ _ [.val (.loc o), .val (.loc t), .val (.int box), .val (.int turn), .no, .no, .no, .no] h) fnK = _ ∧ _
  rw [x_seq, x_for, x_iR1i (j := 3) (h1 := h) rfl (by omega) (by omega), x_ob, x_obA]
  refine forL_or (P := fun (o : Option (PV × AH)) => ∃ h', o = some (PV.bl true, h') ∧ Frm h h' []) (fun i ρ h1 => Frm h h1 [] ∧ ∃ c4 c5 c6 c7 : PVar, ρ = [.val (.loc o), .val (.loc t), .val (.int box), .val (.int turn), c4, c5, c6, c7]) (fun _ _ => False) ⟨Frm.refl, .no, .no, .no, .no, rfl⟩ ?_ ?_ (fun _ _ z => z.elim)
  · rintro i x ρ h1 hx ⟨F, c4, c5, c6, c7, rfl⟩
    obtain ⟨hi, rfl⟩ := rng_get hx
    rw [Int.zero_add]
    have U1 := U.frame F (fun _ _ z => by cases z)
    obtain ⟨l, r, q, u, js, vs, rfl, rfl, e1, e2, hID⟩ := U1.low
    have := hID.le
    have il : ∀ {v2 v3 v4 v5 v6 v7 : PVar}, xIL (xFz (xCBO bSortK (xCons (xOp oIxL (xVar 1) (xC (PV.int 0))) xNil))) [.val (.loc o), .val (.loc t), v2, v3, v4, v5, v6, v7] h1 = some ((sortN js).map .int, h1) := by
      intro v2 v3 v4 v5 v6 v7
      unfold xIL
      rw [x_fz, x_cbO, x_cons, ix0 rfl U1.tt, x_ob, x_nil, x_ob, x_ob]
      unfold bSortK dctOf
      simp only [e2, intsK_map]
      rw [if_pos (by omega), x_ob]
      rfl
    have cl : ∀ {v2 v3 v4 v5 v6 v7 : PVar}, cmpL (xTup (xCons (xVar 0) (xCons (xDGet (xOp oIxL (xVar 1) (xC (PV.int 0))) (xVar 0)) xNil))) (innP [1] [.val (.loc o), .val (.loc t), v2, v3, v4, v5, v6, v7]) ((sortN js).map .int) h1 = some (seenL js vs, h1) := by
      intro v2 v3 v4 v5 v6 v7
      refine cmp_wrote (n := 0) hID fun j x hx => ?_
      show xTup _ [.val (.int j), .val (.loc t)] h1 = _
      rw [x_tup, x_cons, show xVar 0 [PVar.val (.int j), .val (.loc t)] h1 = some (.int j, h1) from rfl, x_ob, x_cons, dget_loc (n := q) (i := j) (ix0 rfl U1.tt) rfl e2 hx, x_ob, x_nil, x_ob, x_ob, x_ob, if_pos (by simp)]
    have sl : ((sortN js).map PV.int).length ≤ 100000 := by rw [List.length_map, (sortN_perm js).length_eq]; omega
    have hd : (i + turn) % 3 = 0 ∨ (i + turn) % 3 = 1 ∨ (i + turn) % 3 = 2 := by omega
    rcases hd with hd | hd | hd
    · have n1 : ¬ (i + turn) % 3 = 1 := by omega
      have n2 : ¬ (i + turn) % 3 = 2 := by omega
      refine ⟨[.val (.loc o), .val (.loc t), .val (.int box), .val (.int turn), .val (.int i), c5, c6, c7], .nx [.val (.loc o), .val (.loc t), .val (.int box), .val (.int turn), .val (.int i), .val (.int 0), .val (ownK ds (.inl box) (l :: r).length), .val (.lst (seenL js vs))], h1, rfl, ?_, F, _, _, _, _, rfl⟩
      walk_at "p6"
      rw [hd, if_pos rfl, mth_loc U1.g.ob rfl (by decide +kernel) rfl, own_eq U1.g, x_ob, lown_eq U1.tt U1.tl, hlen]
      have hf := own_flat (j := .inl box) U1.iv (l :: r).length
      generalize ownK ds (.inl box) (l :: r).length = y at hf ⊢
      rcases hf with rfl | ⟨v, rfl⟩
      · walk_at "p6"
        rw [il, x_ob, if_pos sl, cl, x_ob]
      · walk_at "p6"
        rw [alike_i]
        walk_at "p6"
        rw [il, x_ob, if_pos sl, cl, x_ob]
    · have n1 : ¬ (i + turn) % 3 = 0 := by omega
      have n2 : ¬ (i + turn) % 3 = 2 := by omega
      refine ⟨[.val (.loc o), .val (.loc t), .val (.int box), .val (.int turn), .val (.int i), c5, c6, c7], .nx [.val (.loc o), .val (.loc t), .val (.int box), .val (.int turn), .val (.int i), .val (.int 1), c6, .val (.lst (seenL js vs))], h1, rfl, ?_, F, _, _, _, _, rfl⟩
      walk_at "p6"
      rw [hd, if_neg (by omega), if_pos rfl, mth_loc U1.g.ob rfl (by decide +kernel) rfl, layers_eq U1.g, x_ob, len_loc U1.tt, List.length_map, hlen, x_ob, alike_i]
      walk_at "p6"
      rw [il, x_ob, if_pos sl, cl, x_ob]
    · have n1 : ¬ (i + turn) % 3 = 0 := by omega
      have n2 : ¬ (i + turn) % 3 = 1 := by omega
      refine ⟨[.val (.loc o), .val (.loc t), .val (.int box), .val (.int turn), .val (.int i), c5, c6, c7], .nx [.val (.loc o), .val (.loc t), .val (.int box), .val (.int turn), .val (.int i), .val (.int 2), c6, .val (.lst (seenL js vs))], h1 ++ [.lst (seenL js vs)], rfl, ?_, F.app, _, _, _, _, rfl⟩
      walk_at "p6"
      rw [hd, if_neg (by omega), if_neg (by omega), il, x_ob, if_pos sl, cl, x_ob, if_pos rfl, mth_loc U1.g.ob rfl (by decide +kernel) rfl, wrote_eq U1.g e1 hID, x_ob, alike_l (by simp) (seenL_tl js vs)]
      walk_at "p6"
  · rintro ρ' h' ⟨F, c4, c5, c6, c7, rfl⟩
    walk_at "px"
    exact ⟨h', rfl, F⟩
end
noncomputable def k14_inn : XS := (xFor (xIL (xFz (xLst (xCons (xOp oMod (xOp oDiv (xVar 6) (xC (.int 8))) (xVar 3)) (xCons (xOp oMod (xOp oDiv (xVar 6) (xC (.int 128))) (xVar 3)) (xNil)))))) (yName 8) (xSeq (xIfS (xNot (xTest (xCall p__law_stands (xCons (xOp (oIxL) (xVar 1) (xVar 7)) (xCons (xOp (oIxL) (xVar 2) (xVar 7)) (xCons (xVar 8) (xCons (xOp oMod (xVar 6) (xC (.int 3))) (xNil)))))))) (xRet (xC (.bl false))) (xNext)) (xIfS (xNot (xTest (xCall p__law_stands (xCons (xOp (oIxL) (xVar 1) (xOp oSub (xC (.int 1)) (xVar 7))) (xCons (xOp (oIxL) (xVar 2) (xOp oSub (xC (.int 1)) (xVar 7))) (xCons (xVar 8) (xCons (xOp oMod (xOp oDiv (xVar 6) (xC (.int 3))) (xC (.int 3))) (xNil)))))))) (xRet (xC (.bl false))) (xNext))))
noncomputable def k14_rest : XS := (xSeq (xAsg (xMethS 0 "wrote" p_Log_wrote (xOp (oIxL) (xVar 1) (xVar 7)) (xNil)) (yName 9)) (xSeq (xAppO 4 (xTup (xCons (xVar 9) (xCons (xFz (xCBO (bListOf) (xCons (xVar 9) (xNil)))) (xNil))))) (xDrop (xBM isLst (mAppL) (xMethS 0 "wrote" p_Log_wrote (xOp (oIxL) (xVar 1) (xVar 7)) (xNil)) (xCons (xTup (xCons (xC (.int 0)) (xCons (xC (.int 0)) (xNil)))) (xNil))))))
noncomputable def k14_body : XS := (xSeq (xAsg (xCall p__law_mixed (xCons (xVar 5) (xNil))) (yName 6)) (xSeq (xAsg (xOp oMod (xVar 6) (xC (.int 2))) (yName 7)) (xSeq (xAsg (xOp oDiv (xVar 6) (xC (.int 2))) (yName 6)) (xSeq (xDrop (xCall p__law_done (xCons (xOp (oIxL) (xVar 1) (xVar 7)) (xCons (xOp (oIxL) (xVar 2) (xVar 7)) (xCons (xVar 6) (xCons (xVar 5) (xCons (xVar 3) (xNil)))))))) (xSeq (xFor (xIL (xFz (xLst (xCons (xOp oMod (xOp oDiv (xVar 6) (xC (.int 8))) (xVar 3)) (xCons (xOp oMod (xOp oDiv (xVar 6) (xC (.int 128))) (xVar 3)) (xNil)))))) (yName 8) (xSeq (xIfS (xNot (xTest (xCall p__law_stands (xCons (xOp (oIxL) (xVar 1) (xVar 7)) (xCons (xOp (oIxL) (xVar 2) (xVar 7)) (xCons (xVar 8) (xCons (xOp oMod (xVar 6) (xC (.int 3))) (xNil)))))))) (xRet (xC (.bl false))) (xNext)) (xIfS (xNot (xTest (xCall p__law_stands (xCons (xOp (oIxL) (xVar 1) (xOp oSub (xC (.int 1)) (xVar 7))) (xCons (xOp (oIxL) (xVar 2) (xOp oSub (xC (.int 1)) (xVar 7))) (xCons (xVar 8) (xCons (xOp oMod (xOp oDiv (xVar 6) (xC (.int 3))) (xC (.int 3))) (xNil)))))))) (xRet (xC (.bl false))) (xNext)))) (xSeq (xAsg (xMethS 0 "wrote" p_Log_wrote (xOp (oIxL) (xVar 1) (xVar 7)) (xNil)) (yName 9)) (xSeq (xAppO 4 (xTup (xCons (xVar 9) (xCons (xFz (xCBO (bListOf) (xCons (xVar 9) (xNil)))) (xNil))))) (xDrop (xBM isLst (mAppL) (xMethS 0 "wrote" p_Log_wrote (xOp (oIxL) (xVar 1) (xVar 7)) (xNil)) (xCons (xTup (xCons (xC (.int 0)) (xCons (xC (.int 0)) (xNil)))) (xNil)))))))))))
noncomputable def k14_lg : XE := (xFz (xLst (xCons (xLoc (xMake p_Log___init__ (xNil))) (xCons (xLoc (xMake p_Log___init__ (xNil))) (xNil)))))
noncomputable def k14_ti : XE := (xFz (xLst (xCons (xLoc (xLst (xCons (xLoc (xDNew)) (xNil)))) (xCons (xLoc (xLst (xCons (xLoc (xDNew)) (xNil)))) (xNil)))))
section
variable {h : AH}
theorem init_eq : p_Log___init__ [] h = some (.ins 0 ["stack", "last_seen"] [.loc (h.length + 1), .loc (h.length + 2)], h ++ [Nd.dct [] []] ++ [Nd.lst [.loc h.length]] ++ [Nd.dct [] []]) := by
  unfold p_Log___init__
  rw [runI_eq]
  show ob (xSeq _ _ [.own (.ins 0 [] [])] h) inK = _
  walk_at "px"
  simp only [x_dnew, x_ob]
  simp
theorem cell0_eq (ns : List Int) : ∃ z, p__law_cell_at [.scr ns, .int 0] h = some (.int z, h) := by
  unfold p__law_cell_at
  rw [run_eq]
  show ∃ z, ob (xSeq _ _ [.val (.scr ns), .val (.int 0)] h) fnK = _
  walk_at "px"
  cases ns with
  | nil => exact ⟨0, by walk_at "px"; rw [if_neg (by decide)]⟩
  | cons n ns => exact ⟨n, by walk_at "px"; rw [if_pos (by omega)]⟩
theorem il_eq {ρ : PSt} {ns : List Int} (hl : ns.length ≤ 63) : xIL (xFz (xSlO oSlL (xVar 0) xNoPart (xPart (xC (.int 200))))) (.val (.scr ns) :: ρ) h = some (ns.map .int, h) := by
  have e : cutP (ns.map PV.int) none (some 200) = ns.map PV.int := by
    unfold cutP
    rw [HT.sIx_none]
    have : HT.sIx (ns.map PV.int).length (ns.map PV.int).length (some 200) = min 200 ns.length := by
      rw [show (200 : Int) = ((200 : Nat) : Int) from rfl, HT.sIx_nat, List.length_map]
    rw [this, Nat.min_eq_right (by omega), List.take_of_length_le (by simp)]
    simp
  unfold xIL
  walk_at "px"
  rw [e]
local macro_rules | `(tactic| walk_at "p7") => `(tactic| simp only [x_ob, x_obN, x_obA, x_var0, x_varS, x_c, x_op, x_opO, x_un, x_oB, x_chain, x_test, x_andV, x_orV, x_notV, x_and, x_or, x_not, x_if, x_nil, x_cons, x_tup, x_lst, x_fz, x_fzL, x_fzI, x_loc, x_call, x_cb, x_cbO, x_bm, x_isStr, x_make, x_makeO, x_next, x_seq, x_sqN, x_sqR, x_sqB, x_sqC, x_break, x_cont, x_drop, x_ret, x_retN, x_ifS, x_asg, x_asgO, x_name, x_yNil, x_yCons, x_yTup, x_frz, x_fz0, x_fzS, x_fvO, x_fvV, x_fvN, x_for, x_frN, x_frC, x_frB, x_frR, x_fnR, x_fnN, x_inK, x_i, x_ic, x_fld, x_fldO, x_meth, x_neg, mulOkR, mulOkL, powOk, x_eqI, x_eqS, x_eqB, x_neI, x_neS, x_isN, x_notN, x_addS, x_in1, x_ixL, x_ixR, x_ixT, x_ixS, x_slL, x_slR, x_cat, x_rep, x_sl, x_slO, x_part, x_nopart, x_lenL, x_lenT, x_lenR, x_lenS, x_int1i, x_int1b, x_strI, x_listL, x_listT, x_comp, x_ite, Option.bind_some, Option.bind_none, List.set_cons_zero, List.set_cons_succ, List.length_cons, List.length_nil, decide_eq_true_eq, Bool.not_eq_true', decide_eq_false_iff_not, if_true, if_false, ite_true, ite_false, and_self, Int.reducePow, Int.reduceToNat, Int.reduceLT, Int.reduceLE, Int.reduceNeg, Int.reduceAdd, Int.reduceSub, Nat.reduceLT, Nat.reduceLeDiff, Nat.reduceAdd, true_and, and_true, reduceIte, Nat.reduceEqDiff, le_refl_nat, eq_self, at_0, at_1, at_2, at_3, at_4, at_5, dec_T, dec_F, ff_eq, tf_eq, Int.reduceEq, Nat.reduceEqDiff, Bool.not_true, Bool.not_false, fv_Log_stack, fv_Log_last_seen, iv_Log_stack, iv_Log_last_seen, x_ixA_t, x_ixA_l, init_eq, mixed_eq, x_dnew])
theorem gx (X : List Nd) (k : Nat) : (h ++ X)[h.length + k]? = X[k]? := by
  rw [List.getElem?_append_right (Nat.le_add_right _ _), Nat.add_sub_cancel_left]
theorem logs_ev {ρ : PSt} : k14_lg ρ h = some (.lst [.loc (h.length + 3), .loc (h.length + 7)], h ++ [.dct [] [], .lst [.loc h.length], .dct [] [], .ins 0 ["stack", "last_seen"] [.loc (h.length + 1), .loc (h.length + 2)], .dct [] [], .lst [.loc (h.length + 4)], .dct [] [], .ins 0 ["stack", "last_seen"] [.loc (h.length + 5), .loc (h.length + 6)]]) := by
  unfold k14_lg
  walk_at "p7"
  simp
theorem tiers_ev {ρ : PSt} : k14_ti ρ h = some (.lst [.loc (h.length + 1), .loc (h.length + 3)], h ++ [.dct [] [], .lst [.loc h.length], .dct [] [], .lst [.loc (h.length + 2)]]) := by
  unfold k14_ti
  walk_at "p7"
  simp
def UX (h : AH) (o t : Nat) (fp : List Nat) : Prop := ∃ s b ls ts ds, UN h o s b ls t ts ds ∧ fp = fpU o s b t ls ts
structure S14 (h : AH) (o0 t0 o1 t1 : Nat) (held : List PV) (n : Nat) : Prop where
  ex : ∃ f0 f1, UX h o0 t0 f0 ∧ UX h o1 t1 f1 ∧ (∀ x ∈ f0, x ∉ f1) ∧ ∀ p ∈ held, ∃ f L, p = .tup [.loc f, .lst L] ∧ h[f]? = some (.lst L) ∧ f ∉ f0 ∧ f ∉ f1 ∧ Tl L
  hl : held.length ≤ n
variable {h' : AH} {o0 t0 o1 t1 n : Nat} {held : List PV}
theorem UX.lt {o t : Nat} {fp : List Nat} (u : UX h o t fp) : ∀ x ∈ fp, x < h.length := by
  obtain ⟨s, b, ls, ts, ds, U, rfl⟩ := u
  exact U.lt
theorem UX.frame {o t : Nat} {fp fp' : List Nat} (u : UX h o t fp) (f : Frm h h' fp') (k : ∀ x ∈ fp, x ∉ fp') : UX h' o t fp := by
  obtain ⟨s, b, ls, ts, ds, U, rfl⟩ := u
  exact ⟨s, b, ls, ts, ds, U.frame f k, rfl⟩
theorem S14.swap (S : S14 h o0 t0 o1 t1 held n) : S14 h o1 t1 o0 t0 held n := by
  obtain ⟨⟨f0, f1, u0, u1, dj, hd⟩, hl⟩ := S
  exact ⟨⟨f1, f0, u1, u0, fun x h1 h0 => dj x h0 h1, fun p hp => let ⟨f, L, e1, e2, e3, e4, e5⟩ := hd p hp; ⟨f, L, e1, e2, e4, e3, e5⟩⟩, hl⟩
theorem S14.frame (S : S14 h o0 t0 o1 t1 held n) (f : Frm h h' []) : S14 h' o0 t0 o1 t1 held n := by
  obtain ⟨⟨f0, f1, u0, u1, dj, hd⟩, hl⟩ := S
  exact ⟨⟨f0, f1, u0.frame f (fun _ _ z => by cases z), u1.frame f (fun _ _ z => by cases z), dj, fun p hp => let ⟨g, L, e1, e2, e3, e4, e5⟩ := hd p hp; ⟨g, L, e1, f.get (fun z => by cases z) e2, e3, e4, e5⟩⟩, hl⟩
theorem S14.done {m z bx : Int} (S : S14 h o0 t0 o1 t1 held n) (bx1 : 0 < bx) (bx2 : bx ≤ 16) : ∃ h', p__law_done [.loc o0, .loc t0, .int m, .int z, .int bx] h = some (.non, h') ∧ S14 h' o0 t0 o1 t1 held n := by
  obtain ⟨⟨f0, f1, ⟨s, b, ls, ts, ds, U, rfl⟩, u1, dj, hd⟩, hl⟩ := S
  obtain ⟨h', ls', ts', ds', e, U', F, sub⟩ := done_eq (m := m) (z := z) U bx1 bx2
  refine ⟨h', e, ⟨_, f1, ⟨s, b, ls', ts', ds', U', rfl⟩, u1.frame F fun x h1 h0 => dj x h0 h1, fun x hx h1 => ?_, fun p hp => ?_⟩, hl⟩
  · rcases sub x hx with z | z
    · exact dj x z h1
    · exact Nat.lt_irrefl _ (Nat.lt_of_lt_of_le (u1.lt x h1) z)
  · obtain ⟨g, L, e1, e2, e3, e4, e5⟩ := hd p hp
    refine ⟨g, L, e1, F.get e3 e2, fun z => ?_, e4, e5⟩
    rcases sub g z with z | z
    · exact e3 z
    · exact Nat.lt_irrefl _ (Nat.lt_of_lt_of_le (lt_of e2) z)
theorem S14.stands {box turn : Int} (S : S14 h o0 t0 o1 t1 held n) : ∃ h', p__law_stands [.loc o0, .loc t0, .int box, .int turn] h = some (.bl true, h') ∧ S14 h' o0 t0 o1 t1 held n := by
  obtain ⟨⟨f0, f1, ⟨s, b, ls, ts, ds, U, rfl⟩, u1, dj, hd⟩, hl⟩ := id S
  obtain ⟨h', e, F⟩ := stands_eq (box := box) (turn := turn) U
  exact ⟨h', e, S.frame F⟩
theorem S14.ob (S : S14 h o0 t0 o1 t1 held n) : ∃ s b, h[o0]? = some (.ins 0 ["stack", "last_seen"] [.loc s, .loc b]) := by
  obtain ⟨⟨f0, f1, ⟨s, b, ls, ts, ds, U, rfl⟩, u1, dj, hd⟩, hl⟩ := S
  exact ⟨s, b, U.g.ob⟩
theorem S14.wrote (S : S14 h o0 t0 o1 t1 held n) : ∃ L, Tl L ∧ p_Log_wrote [.loc o0] h = some (.loc h.length, h ++ [.lst L]) := by
  obtain ⟨⟨f0, f1, ⟨s, b, ls, ts, ds, U, rfl⟩, u1, dj, hd⟩, hl⟩ := S
  obtain ⟨l, r, q, u, js, vs, rfl, rfl, e1, e2, hID⟩ := U.low
  exact ⟨_, seenL_tl js vs, wrote_eq U.g e1 hID⟩
theorem S14.saw (S : S14 h o0 t0 o1 t1 held n) : p_Log_saw [.loc o0] h = some (.loc h.length, h ++ [.lst []]) := by
  obtain ⟨⟨f0, f1, ⟨s, b, ls, ts, ds, U, rfl⟩, u1, dj, hd⟩, hl⟩ := S
  exact saw_eq U.g rfl
theorem S14.keep {L : List PV} (S : S14 h o0 t0 o1 t1 held n) (hL : Tl L) : S14 (h ++ [.lst L]) o0 t0 o1 t1 (held ++ [.tup [.loc h.length, .lst L]]) (n + 1) := by
  have S1 := S.frame (h' := h ++ [.lst L]) Frm.refl.app
  obtain ⟨⟨f0, f1, u0, u1, dj, hd⟩, hl⟩ := S
  obtain ⟨⟨g0, g1, w0, w1, dk, he⟩, _⟩ := S1
  refine ⟨⟨f0, f1, u0.frame (fp' := []) (Frm.refl.app) (fun _ _ z => by cases z), u1.frame (fp' := []) (Frm.refl.app) (fun _ _ z => by cases z), dj, fun p hp => ?_⟩, by simp; exact hl⟩
  rcases List.mem_append.mp hp with hp | hp
  · obtain ⟨g, L, e1, e2, e3, e4, e5⟩ := hd p hp
    exact ⟨g, L, e1, app_get e2, e3, e4, e5⟩
  · exact ⟨h.length, L, List.mem_singleton.mp hp, by simp, fun z => Nat.lt_irrefl _ (u0.lt _ z), fun z => Nat.lt_irrefl _ (u1.lt _ z), hL⟩
theorem body_eq {ns : List Int} {i : Nat} {z bx : Int} {c6 c7 c8 c9 c10 : PVar} (S : S14 h o0 t0 o1 t1 held i) (hi : i < 63) (bx1 : 0 < bx) (bx2 : bx ≤ 16) :
    ∃ h2 held2, ∃ d6 d7 d8 d9 d10 : PVar, k14_body [.val (.scr ns), .val (.lst [.loc o0, .loc o1]), .val (.lst [.loc t0, .loc t1]), .val (.int bx), .own (.lst held), .val (.int z), c6, c7, c8, c9, c10] h
      = some (.nx [.val (.scr ns), .val (.lst [.loc o0, .loc o1]), .val (.lst [.loc t0, .loc t1]), .val (.int bx), .own (.lst held2), .val (.int z), d6, d7, d8, d9, d10], h2) ∧ S14 h2 o0 t0 o1 t1 held2 (i + 1) := by
  show ∃ h2 held2, ∃ d6 d7 d8 d9 d10 : PVar, xSeq _ (xSeq _ (xSeq _ (xSeq _ (xSeq k14_inn k14_rest)))) _ h = _ ∧ _
  walk_at "p7"
  generalize z * 48271 % 999999999989 = m
  have hw : m % 2 = 0 ∨ m % 2 = 1 := by omega
  obtain ⟨oA, tA, oB, tB, a1, a2, b1, b2, SA, back⟩ : ∃ oA tA oB tB, atI [PV.loc o0, .loc o1] (m % 2) = some (.loc oA) ∧ atI [PV.loc t0, .loc t1] (m % 2) = some (.loc tA) ∧ atI [PV.loc o0, .loc o1] (1 - m % 2) = some (.loc oB) ∧ atI [PV.loc t0, .loc t1] (1 - m % 2) = some (.loc tB) ∧ S14 h oA tA oB tB held i ∧ ∀ h' held' n', S14 h' oA tA oB tB held' n' → S14 h' o0 t0 o1 t1 held' n' := by
    rcases hw with e | e <;> rw [e]
    · exact ⟨o0, t0, o1, t1, at_0, at_0, at_1, at_1, S, fun _ _ _ s => s⟩
    · exact ⟨o1, t1, o0, t0, at_1, at_1, at_0, at_0, S.swap, fun _ _ _ s => s.swap⟩
  obtain ⟨h1, e1, S1⟩ := SA.done (m := m / 2) (z := z) bx1 bx2
  rw [a1, Option.bind_some, x_ob, a2, Option.bind_some, x_ob, e1, x_ob]
  have inn : ∃ h2, ∃ d8 : PVar, k14_inn [.val (.scr ns), .val (.lst [.loc o0, .loc o1]), .val (.lst [.loc t0, .loc t1]), .val (.int bx), .own (.lst held), .val (.int z), .val (.int (m / 2)), .val (.int (m % 2)), c8, c9, c10] h1
      = some (.nx [.val (.scr ns), .val (.lst [.loc o0, .loc o1]), .val (.lst [.loc t0, .loc t1]), .val (.int bx), .own (.lst held), .val (.int z), .val (.int (m / 2)), .val (.int (m % 2)), d8, c9, c10], h2) ∧ S14 h2 oA tA oB tB held i := by
    unfold k14_inn
    rw [x_for]
    have il : xIL (xFz (xLst (xCons (xOp oMod (xOp oDiv (xVar 6) (xC (.int 8))) (xVar 3)) (xCons (xOp oMod (xOp oDiv (xVar 6) (xC (.int 128))) (xVar 3)) (xNil))))) [.val (.scr ns), .val (.lst [.loc o0, .loc o1]), .val (.lst [.loc t0, .loc t1]), .val (.int bx), .own (.lst held), .val (.int z), .val (.int (m / 2)), .val (.int (m % 2)), c8, c9, c10] h1 = some ([.int (m / 2 / 8 % bx), .int (m / 2 / 128 % bx)], h1) := by
      unfold xIL
      walk_at "p7"
      rw [if_pos bx1, if_pos bx1]
    rw [il, x_ob]
    obtain ⟨ρ', h2, e, F, d8, rfl⟩ := forL_nx (s := (xSeq (xIfS (xNot (xTest (xCall p__law_stands (xCons (xOp (oIxL) (xVar 1) (xVar 7)) (xCons (xOp (oIxL) (xVar 2) (xVar 7)) (xCons (xVar 8) (xCons (xOp oMod (xVar 6) (xC (.int 3))) (xNil)))))))) (xRet (xC (.bl false))) (xNext)) (xIfS (xNot (xTest (xCall p__law_stands (xCons (xOp (oIxL) (xVar 1) (xOp oSub (xC (.int 1)) (xVar 7))) (xCons (xOp (oIxL) (xVar 2) (xOp oSub (xC (.int 1)) (xVar 7))) (xCons (xVar 8) (xCons (xOp oMod (xOp oDiv (xVar 6) (xC (.int 3))) (xC (.int 3))) (xNil)))))))) (xRet (xC (.bl false))) (xNext))))
      (g := yName 8) (xs := [.int (m / 2 / 8 % bx), .int (m / 2 / 128 % bx)]) (ρ := [.val (.scr ns), .val (.lst [.loc o0, .loc o1]), .val (.lst [.loc t0, .loc t1]), .val (.int bx), .own (.lst held), .val (.int z), .val (.int (m / 2)), .val (.int (m % 2)), c8, c9, c10]) (h := h1)
      (fun _ ρ h2 => S14 h2 oA tA oB tB held i ∧ ∃ d8 : PVar, ρ = [.val (.scr ns), .val (.lst [.loc o0, .loc o1]), .val (.lst [.loc t0, .loc t1]), .val (.int bx), .own (.lst held), .val (.int z), .val (.int (m / 2)), .val (.int (m % 2)), d8, c9, c10]) ⟨S1, c8, rfl⟩ (by
        rintro k x ρ h2 hx ⟨S2, d8, rfl⟩
        obtain ⟨box, rfl⟩ : ∃ box, x = .int box := by
          match k, hx with
          | 0, hx => exact ⟨_, (Option.some.inj hx).symm⟩
          | 1, hx => exact ⟨_, (Option.some.inj hx).symm⟩
        obtain ⟨h3, e3, S3⟩ := S2.stands (box := box) (turn := m / 2 % 3)
        obtain ⟨h4, e4, S4⟩ := S3.swap.stands (box := box) (turn := m / 2 / 3 % 3)
        refine ⟨_, [.val (.scr ns), .val (.lst [.loc o0, .loc o1]), .val (.lst [.loc t0, .loc t1]), .val (.int bx), .own (.lst held), .val (.int z), .val (.int (m / 2)), .val (.int (m % 2)), .val (.int box), c9, c10], h4, rfl, .inl ?_, S4.swap, _, rfl⟩
        walk_at "p7"
        rw [a1, Option.bind_some, x_ob, a2, Option.bind_some, x_ob, e3]
        walk_at "p7"
        rw [b1, Option.bind_some, x_ob, b2, Option.bind_some, x_ob, e4]
        walk_at "p7")
    exact ⟨h2, d8, e, F⟩
  obtain ⟨h2, d8, e2, S2⟩ := inn
  rw [e2, x_ob, x_sqN]
  obtain ⟨L, hL, e3⟩ := S2.wrote
  obtain ⟨s, b, eo⟩ := S2.ob
  have S3 := S2.keep hL
  obtain ⟨L', hL', e4⟩ := S3.wrote
  obtain ⟨s', b', eo'⟩ := S3.ob
  have hh := S2.hl
  refine ⟨h2 ++ [.lst L] ++ [.lst (L' ++ [.tup [.int 0, .int 0]])], held ++ [.tup [.loc h2.length, .lst L]], .val (.int (m / 2)), .val (.int (m % 2)), d8, .val (.loc h2.length), c10, ?_, back _ _ _ (S3.frame Frm.refl.app)⟩
  unfold k14_rest
  have ln : (h2 ++ [Nd.lst L])[h2.length]? = some (.lst L) := by simp
  rw [x_seq, x_asg, mth_loc eo (by
    walk_at "p7"
    rw [a1]
    rfl) (by decide +kernel) rfl, e3]
  walk_at "p7"
  rw [x_appO (xs := held) rfl]
  walk_at "p7"
  rw [list_loc ln]
  walk_at "p7"
  rw [if_pos (by omega), mth_loc eo' (by
    walk_at "p7"
    rw [a1]
    rfl) (by decide +kernel) rfl, e4, x_ob]
  have l2 : (h2 ++ [Nd.lst L] ++ [Nd.lst L'])[(h2 ++ [Nd.lst L]).length]? = some (.lst L') := List.getElem?_concat_length
  rw [if_pos (isLst_loc l2), app_loc l2 (by have := hL'.1; omega), x_ob, List.set_append_right _ _ (Nat.le_refl _), Nat.sub_self]
  rfl
theorem eq_nil {k : Nat} (e : h[k]? = some (.lst [])) : oEqD (.loc k) (.lst []) h = some (.bl true, h) := by
  unfold oEqD pairE listOf'
  simp only [e]
  rfl
theorem ne_same {k : Nat} {L : List PV} (e : h[k]? = some (.lst L)) (hL : Tl L) : oNeD (.loc k) (.lst L) h = some (.bl false, h) := by
  unfold oNeD pairE listOf'
  simp only [e]
  have hx : ∀ x ∈ L, eqP 40 h x x = some true := fun x hx => by
    obtain ⟨a, b, rfl⟩ := hL.2 x hx
    simp [eqP, sv, pairE, allE, eqV]
  have : ∀ (M : List PV), (∀ x ∈ M, eqP 40 h x x = some true) → allE (eqP 40 h) M M = some true := by
    intro M
    induction M with
    | nil => intro _; rfl
    | cons x M ih =>
      intro hM
      unfold allE
      rw [hM x List.mem_cons_self, ih fun y hy => hM y (List.mem_cons_of_mem _ hy)]
      rfl
  simp [this L hx]
theorem law_eq (ns : List Int) (hl : ns.length ≤ 63) : ∃ h', p_law [.scr ns] h = some (.bl true, h') := by
  unfold p_law
  rw [run_eq]
  show ∃ h', ob (xSeq (xAsg k14_lg _) (xSeq (xAsg k14_ti _) _) [.val (.scr ns), .no, .no, .no, .no, .no, .no, .no, .no, .no, .no] h) fnK = some (.bl true, h')
  rw [x_seq, x_asg, logs_ev, x_ob]
  have S0 : S14 (h ++ [Nd.dct [] [], .lst [.loc h.length], .dct [] [], .ins 0 ["stack", "last_seen"] [.loc (h.length + 1), .loc (h.length + 2)], .dct [] [], .lst [.loc (h.length + 4)], .dct [] [], .ins 0 ["stack", "last_seen"] [.loc (h.length + 5), .loc (h.length + 6)]] ++ [.dct [] [], .lst [.loc (h.length + 8)], .dct [] [], .lst [.loc (h.length + 10)]]) (h.length + 3) (h.length + 9) (h.length + 7) (h.length + 11) [] 0 := by
    have k0 : ∀ {d : List Key × List PV}, d ∈ [(([] : List Key), ([] : List PV))] → isID d := fun hd => by rw [List.mem_singleton.mp hd]; exact isID.nil
    rw [List.append_assoc]
    refine ⟨⟨_, _, ⟨h.length + 1, h.length + 2, [h.length], [h.length + 8], [([], [])], ⟨⟨gx _ 3, gx _ 1, gx _ 2, ⟨gx _ 0, trivial⟩⟩, gx _ 9, ⟨gx _ 8, trivial⟩, by omega, by simp, by simp, by simp, by simp, fun d hd => k0 hd⟩, rfl⟩,
      ⟨h.length + 5, h.length + 6, [h.length + 4], [h.length + 10], [([], [])], ⟨⟨gx _ 7, gx _ 5, gx _ 6, ⟨gx _ 4, trivial⟩⟩, gx _ 11, ⟨gx _ 10, trivial⟩, by omega, by simp, by simp, by simp, by simp, fun d hd => k0 hd⟩, rfl⟩, ?_, by simp⟩, by simp⟩
    intro x hx hy
    simp [fpU] at hx hy
    omega
  rw [show yName 1 (.lst [.loc (h.length + 3), .loc (h.length + 7)]) [.val (.scr ns), .no, .no, .no, .no, .no, .no, .no, .no, .no, .no] = some [.val (.scr ns), .val (.lst [.loc (h.length + 3), .loc (h.length + 7)]), .no, .no, .no, .no, .no, .no, .no, .no, .no] from rfl, Option.bind_some, x_ob, x_sqN, x_seq, x_asg, tiers_ev, x_ob]
  rw [show (h ++ [Nd.dct [] [], .lst [.loc h.length], .dct [] [], .ins 0 ["stack", "last_seen"] [.loc (h.length + 1), .loc (h.length + 2)], .dct [] [], .lst [.loc (h.length + 4)], .dct [] [], .ins 0 ["stack", "last_seen"] [.loc (h.length + 5), .loc (h.length + 6)]]).length = h.length + 8 by simp]
  generalize hh2 : h ++ [Nd.dct [] [], .lst [.loc h.length], .dct [] [], .ins 0 ["stack", "last_seen"] [.loc (h.length + 1), .loc (h.length + 2)], .dct [] [], .lst [.loc (h.length + 4)], .dct [] [], .ins 0 ["stack", "last_seen"] [.loc (h.length + 5), .loc (h.length + 6)]] ++ [.dct [] [], .lst [.loc (h.length + 8)], .dct [] [], .lst [.loc (h.length + 8 + 2)]] = h2
  have S0 : S14 h2 (h.length + 3) (h.length + 8 + 1) (h.length + 7) (h.length + 8 + 3) [] 0 := by rw [← hh2]; exact S0
  generalize h.length + 3 = o0 at *
  generalize h.length + 7 = o1 at *
  generalize h.length + 8 + 1 = t0 at *
  generalize h.length + 8 + 3 = t1 at *
  clear hh2
  rw [show yName 2 (.lst [.loc t0, .loc t1]) [.val (.scr ns), .val (.lst [.loc o0, .loc o1]), .no, .no, .no, .no, .no, .no, .no, .no, .no] = some [.val (.scr ns), .val (.lst [.loc o0, .loc o1]), .val (.lst [.loc t0, .loc t1]), .no, .no, .no, .no, .no, .no, .no, .no] from rfl, Option.bind_some, x_ob, x_sqN]
  obtain ⟨z0, hz0⟩ := cell0_eq (h := h2) ns
  walk_at "p7"
  rw [hz0]
  walk_at "p7"
  obtain ⟨bx, ebx, bx1, bx2⟩ : ∃ bx : Int, atI [PV.int 3, PV.int 16] (z0 % 2) = some (.int bx) ∧ 0 < bx ∧ bx ≤ 16 := by
    rcases (show z0 % 2 = 0 ∨ z0 % 2 = 1 by omega) with e | e
    · rw [e]; exact ⟨3, at_0, by omega, by omega⟩
    · rw [e]; exact ⟨16, at_1, by omega, by omega⟩
  rw [ebx, Option.bind_some, x_ob, il_eq hl, x_ob]
  refine forL_or (P := fun (o : Option (PV × AH)) => ∃ h', o = some (PV.bl true, h')) (fun i ρ h1 => ∃ held, ∃ z c6 c7 c8 c9 c10 : PVar, ρ = [.val (.scr ns), .val (.lst [.loc o0, .loc o1]), .val (.lst [.loc t0, .loc t1]), .val (.int bx), .own (.lst held), z, c6, c7, c8, c9, c10] ∧ S14 h1 o0 t0 o1 t1 held i) (fun _ _ => False) ⟨[], .no, .no, .no, .no, .no, .no, rfl, S0⟩ ?_ ?_ (fun _ _ z => z.elim)
  · rintro i x ρ h1 hx ⟨held, c5, c6, c7, c8, c9, c10, rfl, S⟩
    have hi : i < ns.length := by have := (List.getElem?_eq_some_iff.mp hx).1; simpa using this
    obtain ⟨z, rfl⟩ : ∃ z, x = .int z := by
      rw [List.getElem?_map, List.getElem?_eq_getElem hi] at hx
      exact ⟨_, (Option.some.inj hx).symm⟩
    obtain ⟨h3, held2, d6, d7, d8, d9, d10, e, S3⟩ := body_eq (ns := ns) (z := z) (bx := bx) (c6 := c6) (c7 := c7) (c8 := c8) (c9 := c9) (c10 := c10) S (by omega) bx1 bx2
    exact ⟨_, _, h3, rfl, e, held2, _, _, _, _, _, _, rfl, S3⟩
  · rintro ρ' h' ⟨held, c5, c6, c7, c8, c9, c10, rfl, S⟩
    walk_at "p7"
    rw [show xIL (xVar 4) [PVar.val (PV.scr ns), PVar.val (PV.lst [PV.loc o0, PV.loc o1]), PVar.val (PV.lst [PV.loc t0, PV.loc t1]), PVar.val (PV.int bx), PVar.val (PV.lst held), c5, c6, c7, c8, c9, c10] h' = some (held, h') from rfl, x_ob]
    refine forL_or (P := fun (o : Option (PV × AH)) => ∃ h', o = some (PV.bl true, h')) (fun i ρ h1 => h1 = h' ∧ ∃ c9 c10 : PVar, ρ = [.val (.scr ns), .val (.lst [.loc o0, .loc o1]), .val (.lst [.loc t0, .loc t1]), .val (.int bx), .val (.lst held), c5, c6, c7, c8, c9, c10]) (fun _ _ => False) ⟨rfl, _, _, rfl⟩ ?_ ?_ (fun _ _ z => z.elim)
    · rintro i x ρ h1 hx ⟨rfl, d11, d12, rfl⟩
      obtain ⟨f0, f1, u0, u1, dj, hd⟩ := S.ex
      obtain ⟨f, L, rfl, e2, e3, e4, hL⟩ := hd x (List.mem_of_getElem? hx)
      refine ⟨_, .nx [.val (.scr ns), .val (.lst [.loc o0, .loc o1]), .val (.lst [.loc t0, .loc t1]), .val (.int bx), .val (.lst held), c5, c6, c7, c8, .val (.loc f), .val (.lst L)], h1, rfl, ?_, rfl, _, _, rfl⟩
      walk_at "p7"
      rw [ne_same e2 hL]
      walk_at "p7"
    · rintro ρ' h1 ⟨rfl, d11, d12, rfl⟩
      walk_at "p7"
      obtain ⟨s, b, eo⟩ := S.ob
      have S1 := S.frame (h' := h1 ++ [.lst []]) Frm.refl.app
      obtain ⟨s', b', eo'⟩ := S1.swap.ob
      rw [mth_loc eo rfl (by decide +kernel) rfl, S.saw, x_ob, eq_nil (by simp)]
      walk_at "p7"
      rw [mth_loc eo' rfl (by decide +kernel) rfl, S1.swap.saw, x_ob, eq_nil (by simp)]
      walk_at "p7"
      exact ⟨_, rfl⟩
end
end
/-! ### the text by places -/
def top (i : Nat) : Stmt := PySem.Challenge.pw_retryhall_k14_log_layers.main.body.getD i (.Pass ⟨0, 0, 0, 0⟩)
abbrev s_Log___init__ : Stmt := inClass (top 2) 0
abbrev s_Log_write : Stmt := inClass (top 2) 1
abbrev s_Log_own : Stmt := inClass (top 2) 2
abbrev s_Log_begin : Stmt := inClass (top 2) 3
abbrev s_Log_settle : Stmt := inClass (top 2) 4
abbrev s_Log_drop : Stmt := inClass (top 2) 5
abbrev s_Log_layers : Stmt := inClass (top 2) 6
abbrev s_Log_saw : Stmt := inClass (top 2) 8
abbrev s_Log_wrote : Stmt := inClass (top 2) 9
abbrev s__law_cell_at : Stmt := top 4
abbrev s__law_mixed : Stmt := top 5
abbrev s__law_alike : Stmt := top 6
abbrev s__law_own : Stmt := top 7
abbrev s__law_done : Stmt := top 8
abbrev s__law_stands : Stmt := top 9
abbrev s_law : Stmt := top 10
theorem sc_Log___init__ : FnScope ["self"] ["self"] (defScope s_Log___init__) := ⟨rfl, rfl, rfl, by decide +kernel, rfl, by decide +kernel, by decide +kernel⟩
theorem sc_Log_write : FnScope ["self", "box", "number", "top"] ["self", "box", "number"] (defScope s_Log_write) := ⟨rfl, rfl, rfl, by decide +kernel, rfl, by decide +kernel, by decide +kernel⟩
theorem sc_Log_own : FnScope ["self", "box", "layer"] ["self", "box"] (defScope s_Log_own) := ⟨rfl, rfl, rfl, by decide +kernel, rfl, by decide +kernel, by decide +kernel⟩
theorem sc_Log_begin : FnScope ["self"] ["self"] (defScope s_Log_begin) := ⟨rfl, rfl, rfl, by decide +kernel, rfl, by decide +kernel, by decide +kernel⟩
theorem sc_Log_settle : FnScope ["self", "top", "beneath"] ["self"] (defScope s_Log_settle) := ⟨rfl, rfl, rfl, by decide +kernel, rfl, by decide +kernel, by decide +kernel⟩
theorem sc_Log_drop : FnScope ["self"] ["self"] (defScope s_Log_drop) := ⟨rfl, rfl, rfl, by decide +kernel, rfl, by decide +kernel, by decide +kernel⟩
theorem sc_Log_layers : FnScope ["self"] ["self"] (defScope s_Log_layers) := ⟨rfl, rfl, rfl, by decide +kernel, rfl, by decide +kernel, by decide +kernel⟩
theorem sc_Log_saw : FnScope ["self"] ["self"] (defScope s_Log_saw) := ⟨rfl, rfl, rfl, by decide +kernel, rfl, by decide +kernel, by decide +kernel⟩
theorem sc_Log_wrote : FnScope ["self", "lowest"] ["self"] (defScope s_Log_wrote) := ⟨rfl, rfl, rfl, by decide +kernel, rfl, by decide +kernel, by decide +kernel⟩
theorem sc__law_cell_at : FnScope ["_law_script", "_law_k"] ["_law_script", "_law_k"] (defScope s__law_cell_at) := ⟨rfl, rfl, rfl, by decide +kernel, rfl, by decide +kernel, by decide +kernel⟩
theorem sc__law_mixed : FnScope ["_law_cell"] ["_law_cell"] (defScope s__law_mixed) := ⟨rfl, rfl, rfl, by decide +kernel, rfl, by decide +kernel, by decide +kernel⟩
theorem sc__law_alike : FnScope ["_law_found", "_law_due", "_law_k"] ["_law_found", "_law_due"] (defScope s__law_alike) := ⟨rfl, rfl, rfl, by decide +kernel, rfl, by decide +kernel, by decide +kernel⟩
theorem sc__law_own : FnScope ["_law_tiers", "_law_box", "_law_found", "_law_tier"] ["_law_tiers", "_law_box"] (defScope s__law_own) := ⟨rfl, rfl, rfl, by decide +kernel, rfl, by decide +kernel, by decide +kernel⟩
theorem sc__law_done : FnScope ["_law_log", "_law_tiers", "_law_mixed_here", "_law_cell", "_law_boxes", "_law_way", "_law_box", "_law_number", "_law_top", "_law_at"] ["_law_log", "_law_tiers", "_law_mixed_here", "_law_cell", "_law_boxes"] (defScope s__law_done) := ⟨rfl, rfl, rfl, by decide +kernel, rfl, by decide +kernel, by decide +kernel⟩
theorem sc__law_stands : FnScope ["_law_log", "_law_tiers", "_law_box", "_law_turn", "_law_k", "_law_way", "_law_found", "_law_due"] ["_law_log", "_law_tiers", "_law_box", "_law_turn"] (defScope s__law_stands) := ⟨rfl, rfl, rfl, by decide +kernel, rfl, by decide +kernel, by decide +kernel⟩
theorem sc_law : FnScope ["_law_script", "_law_logs", "_law_tiers", "_law_boxes", "_law_held", "_law_cell", "_law_mixed_here", "_law_which", "_law_box", "_law_found", "_law_kept"] ["_law_script"] (defScope s_law) := ⟨rfl, rfl, rfl, by decide +kernel, rfl, by decide +kernel, by decide +kernel⟩
structure Ads where
  A : Nat → Addr
  a_Log___init__ : Addr
  d_Log___init__ : FuncData
  a_Log_write : Addr
  d_Log_write : FuncData
  a_Log_own : Addr
  d_Log_own : FuncData
  a_Log_begin : Addr
  d_Log_begin : FuncData
  a_Log_settle : Addr
  d_Log_settle : FuncData
  a_Log_drop : Addr
  d_Log_drop : FuncData
  a_Log_layers : Addr
  d_Log_layers : FuncData
  a_Log_saw : Addr
  d_Log_saw : FuncData
  a_Log_wrote : Addr
  d_Log_wrote : FuncData
  a__law_cell_at : Addr
  d__law_cell_at : FuncData
  a__law_mixed : Addr
  d__law_mixed : FuncData
  a__law_alike : Addr
  d__law_alike : FuncData
  a__law_own : Addr
  d__law_own : FuncData
  a__law_done : Addr
  d__law_done : FuncData
  a__law_stands : Addr
  d__law_stands : FuncData
  a_law : Addr
  d_law : FuncData
abbrev ckOf (K : PySem.W.Frag) (t : Ads) : Ck := ⟨K, t.A⟩
structure Txt (K : PySem.W.Frag) (mg : Str → Option Value) (t : Ads) : Prop where
  F_Log___init__ : Fun K "__init__" "Log.__init__" s_Log___init__ t.a_Log___init__ t.d_Log___init__
  b_Log___init__ : Binds K t.d_Log___init__ ["self"] []
  F_Log_write : Fun K "write" "Log.write" s_Log_write t.a_Log_write t.d_Log_write
  b_Log_write : Binds K t.d_Log_write ["self", "box", "number"] []
  F_Log_own : Fun K "own" "Log.own" s_Log_own t.a_Log_own t.d_Log_own
  b_Log_own : Binds K t.d_Log_own ["self", "box"] []
  F_Log_begin : Fun K "begin" "Log.begin" s_Log_begin t.a_Log_begin t.d_Log_begin
  b_Log_begin : Binds K t.d_Log_begin ["self"] []
  F_Log_settle : Fun K "settle" "Log.settle" s_Log_settle t.a_Log_settle t.d_Log_settle
  b_Log_settle : Binds K t.d_Log_settle ["self"] []
  F_Log_drop : Fun K "drop" "Log.drop" s_Log_drop t.a_Log_drop t.d_Log_drop
  b_Log_drop : Binds K t.d_Log_drop ["self"] []
  F_Log_layers : Fun K "layers" "Log.layers" s_Log_layers t.a_Log_layers t.d_Log_layers
  b_Log_layers : Binds K t.d_Log_layers ["self"] []
  F_Log_saw : Fun K "saw" "Log.saw" s_Log_saw t.a_Log_saw t.d_Log_saw
  b_Log_saw : Binds K t.d_Log_saw ["self"] []
  F_Log_wrote : Fun K "wrote" "Log.wrote" s_Log_wrote t.a_Log_wrote t.d_Log_wrote
  b_Log_wrote : Binds K t.d_Log_wrote ["self"] []
  F__law_cell_at : Fun K "_law_cell_at" "_law_cell_at" s__law_cell_at t.a__law_cell_at t.d__law_cell_at
  b__law_cell_at : Binds K t.d__law_cell_at ["_law_script", "_law_k"] []
  m__law_cell_at : mg "_law_cell_at" = some (.ref t.a__law_cell_at)
  F__law_mixed : Fun K "_law_mixed" "_law_mixed" s__law_mixed t.a__law_mixed t.d__law_mixed
  b__law_mixed : Binds K t.d__law_mixed ["_law_cell"] []
  m__law_mixed : mg "_law_mixed" = some (.ref t.a__law_mixed)
  F__law_alike : Fun K "_law_alike" "_law_alike" s__law_alike t.a__law_alike t.d__law_alike
  b__law_alike : Binds K t.d__law_alike ["_law_found", "_law_due"] []
  m__law_alike : mg "_law_alike" = some (.ref t.a__law_alike)
  F__law_own : Fun K "_law_own" "_law_own" s__law_own t.a__law_own t.d__law_own
  b__law_own : Binds K t.d__law_own ["_law_tiers", "_law_box"] []
  m__law_own : mg "_law_own" = some (.ref t.a__law_own)
  F__law_done : Fun K "_law_done" "_law_done" s__law_done t.a__law_done t.d__law_done
  b__law_done : Binds K t.d__law_done ["_law_log", "_law_tiers", "_law_mixed_here", "_law_cell", "_law_boxes"] []
  m__law_done : mg "_law_done" = some (.ref t.a__law_done)
  F__law_stands : Fun K "_law_stands" "_law_stands" s__law_stands t.a__law_stands t.d__law_stands
  b__law_stands : Binds K t.d__law_stands ["_law_log", "_law_tiers", "_law_box", "_law_turn"] []
  m__law_stands : mg "_law_stands" = some (.ref t.a__law_stands)
  F_law : Fun K "law" "law" s_law t.a_law t.d_law
  b_law : Binds K t.d_law ["_law_script"] []
  m_law : mg "law" = some (.ref t.a_law)
  m_Log : mg "Log" = some (.ref (t.A 0))
  mk_Log : Mk K (t.A 0) t.a_Log___init__
  ms_Log_write : Meth K (t.A 0) "write" t.a_Log_write
  ms_Log_own : Meth K (t.A 0) "own" t.a_Log_own
  ms_Log_begin : Meth K (t.A 0) "begin" t.a_Log_begin
  ms_Log_settle : Meth K (t.A 0) "settle" t.a_Log_settle
  ms_Log_drop : Meth K (t.A 0) "drop" t.a_Log_drop
  ms_Log_layers : Meth K (t.A 0) "layers" t.a_Log_layers
  ms_Log_saw : Meth K (t.A 0) "saw" t.a_Log_saw
  ms_Log_wrote : Meth K (t.A 0) "wrote" t.a_Log_wrote
  cl : ∀ k, Cls K (t.A k)
  fa : Fa (ckOf K t)
  z_bool : mg "bool" = none
  z_int : mg "int" = none
  z_isinstance : mg "isinstance" = none
  z_len : mg "len" = none
  z_list : mg "list" = none
  z_range : mg "range" = none
  z_reversed : mg "reversed" = none
  z_sorted : mg "sorted" = none
  z_str : mg "str" = none
  z_tuple : mg "tuple" = none
theorem nm_Log : Nm "Log" := ⟨by decide +kernel, by decide +kernel, by decide +kernel⟩
theorem nm__law_alike : Nm "_law_alike" := ⟨by decide +kernel, by decide +kernel, by decide +kernel⟩
theorem nm__law_at : Nm "_law_at" := ⟨by decide +kernel, by decide +kernel, by decide +kernel⟩
theorem nm__law_box : Nm "_law_box" := ⟨by decide +kernel, by decide +kernel, by decide +kernel⟩
theorem nm__law_boxes : Nm "_law_boxes" := ⟨by decide +kernel, by decide +kernel, by decide +kernel⟩
theorem nm__law_cell : Nm "_law_cell" := ⟨by decide +kernel, by decide +kernel, by decide +kernel⟩
theorem nm__law_cell_at : Nm "_law_cell_at" := ⟨by decide +kernel, by decide +kernel, by decide +kernel⟩
theorem nm__law_done : Nm "_law_done" := ⟨by decide +kernel, by decide +kernel, by decide +kernel⟩
theorem nm__law_due : Nm "_law_due" := ⟨by decide +kernel, by decide +kernel, by decide +kernel⟩
theorem nm__law_found : Nm "_law_found" := ⟨by decide +kernel, by decide +kernel, by decide +kernel⟩
theorem nm__law_held : Nm "_law_held" := ⟨by decide +kernel, by decide +kernel, by decide +kernel⟩
theorem nm__law_k : Nm "_law_k" := ⟨by decide +kernel, by decide +kernel, by decide +kernel⟩
theorem nm__law_kept : Nm "_law_kept" := ⟨by decide +kernel, by decide +kernel, by decide +kernel⟩
theorem nm__law_log : Nm "_law_log" := ⟨by decide +kernel, by decide +kernel, by decide +kernel⟩
theorem nm__law_logs : Nm "_law_logs" := ⟨by decide +kernel, by decide +kernel, by decide +kernel⟩
theorem nm__law_mixed : Nm "_law_mixed" := ⟨by decide +kernel, by decide +kernel, by decide +kernel⟩
theorem nm__law_mixed_here : Nm "_law_mixed_here" := ⟨by decide +kernel, by decide +kernel, by decide +kernel⟩
theorem nm__law_number : Nm "_law_number" := ⟨by decide +kernel, by decide +kernel, by decide +kernel⟩
theorem nm__law_own : Nm "_law_own" := ⟨by decide +kernel, by decide +kernel, by decide +kernel⟩
theorem nm__law_script : Nm "_law_script" := ⟨by decide +kernel, by decide +kernel, by decide +kernel⟩
theorem nm__law_stands : Nm "_law_stands" := ⟨by decide +kernel, by decide +kernel, by decide +kernel⟩
theorem nm__law_tier : Nm "_law_tier" := ⟨by decide +kernel, by decide +kernel, by decide +kernel⟩
theorem nm__law_tiers : Nm "_law_tiers" := ⟨by decide +kernel, by decide +kernel, by decide +kernel⟩
theorem nm__law_top : Nm "_law_top" := ⟨by decide +kernel, by decide +kernel, by decide +kernel⟩
theorem nm__law_turn : Nm "_law_turn" := ⟨by decide +kernel, by decide +kernel, by decide +kernel⟩
theorem nm__law_way : Nm "_law_way" := ⟨by decide +kernel, by decide +kernel, by decide +kernel⟩
theorem nm__law_which : Nm "_law_which" := ⟨by decide +kernel, by decide +kernel, by decide +kernel⟩
theorem nm_beneath : Nm "beneath" := ⟨by decide +kernel, by decide +kernel, by decide +kernel⟩
theorem nm_bool : Nm "bool" := ⟨by decide +kernel, by decide +kernel, by decide +kernel⟩
theorem nm_box : Nm "box" := ⟨by decide +kernel, by decide +kernel, by decide +kernel⟩
theorem nm_int : Nm "int" := ⟨by decide +kernel, by decide +kernel, by decide +kernel⟩
theorem nm_isinstance : Nm "isinstance" := ⟨by decide +kernel, by decide +kernel, by decide +kernel⟩
theorem nm_layer : Nm "layer" := ⟨by decide +kernel, by decide +kernel, by decide +kernel⟩
theorem nm_len : Nm "len" := ⟨by decide +kernel, by decide +kernel, by decide +kernel⟩
theorem nm_list : Nm "list" := ⟨by decide +kernel, by decide +kernel, by decide +kernel⟩
theorem nm_lowest : Nm "lowest" := ⟨by decide +kernel, by decide +kernel, by decide +kernel⟩
theorem nm_number : Nm "number" := ⟨by decide +kernel, by decide +kernel, by decide +kernel⟩
theorem nm_self : Nm "self" := ⟨by decide +kernel, by decide +kernel, by decide +kernel⟩
theorem nm_sorted : Nm "sorted" := ⟨by decide +kernel, by decide +kernel, by decide +kernel⟩
theorem nm_str : Nm "str" := ⟨by decide +kernel, by decide +kernel, by decide +kernel⟩
theorem nm_top : Nm "top" := ⟨by decide +kernel, by decide +kernel, by decide +kernel⟩
theorem nm_tuple : Nm "tuple" := ⟨by decide +kernel, by decide +kernel, by decide +kernel⟩

section
variable {P : Program} {w : World} {K : PySem.W.Frag} {mg : Str → Option Value} {base : Heap} {t : Ads}
theorem none_sp {n : Nat} {ck : Ck} {vs : List V} {H : Hp} {Q : VK} {E : XK} (h : spE ck n (fun _ _ => none) vs H Q E) : False := by
  obtain ⟨_, _, _, _, _, _, _, _, q, _⟩ := h
  cases q
theorem none_ok {f : Addr} {fd : FuncData} {ps : List Str} {k n : Nat} {ck : Ck} : FnOk P w K mg base CX0 k f fd ps (spE ck n fun _ _ => none) := ⟨fun vs H Q E h => (none_sp h).elim, fun A outer s H args us vs Q E _ _ _ _ h => (none_sp h).elim⟩
theorem ok_Log___init__ (T : Txt K mg t)  : FnOk P w K mg base CX0 (0 + 1) t.a_Log___init__ t.d_Log___init__ ["self"] (spI (ckOf K t) 0 0 p_Log___init__) := by
  have fa := T.fa
  exact zin T.F_Log___init__ sc_Log___init__ rfl (by decide) fun cdv Ar outer sh H E hr => (zfs_cons (zf_fld fa.fl_stack (pe_var (i := 0) rfl (Or.inl rfl) nm_self.d nm_self.c) (z_loc (z_lst (za_cons (z_loc z_dnew) za_nil rfl))) rfl) (zfs_one (zf_fld fa.fl_last_seen (pe_var (i := 0) rfl (Or.inl rfl) nm_self.d nm_self.c) (z_loc z_dnew) rfl)))
theorem ok_Log_write (T : Txt K mg t)  : FnOk P w K mg base CX0 (0 + 1) t.a_Log_write t.d_Log_write ["self", "box", "number"] (spE (ckOf K t) 3 p_Log_write) := by
  have fa := T.fa
  exact zfn T.F_Log_write sc_Log_write fun cdv Ar outer sh H E hr => (zss_cons (zs_set (i := 3) sc_Log_write.nd rfl (Or.inl rfl) (z_ix ix_list o_ixL (z_fld fa.fl_stack (z_var (i := 0) nm_self rfl (Or.inl rfl)) rfl) (z_un un_neg o_neg z_int) (fun _ _ => rfl)) rfl (Or.inl rfl)) (zss_one (zs_dput (hu_of hr) (z_var (i := 3) nm_top rfl (Or.inl rfl)) (z_var (i := 1) nm_box rfl (Or.inl rfl)) (z_var (i := 2) nm_number rfl (Or.inl rfl)) rfl)))
theorem ok_Log_own (T : Txt K mg t)  : FnOk P w K mg base CX0 (0 + 1) t.a_Log_own t.d_Log_own ["self", "box"] (spE (ckOf K t) 2 p_Log_own) := by
  have fa := T.fa
  exact zfn T.F_Log_own sc_Log_own fun cdv Ar outer sh H E hr => (zss_cons (zs_forR PassesOwn.never rfl rfl T.z_reversed (z_fld fa.fl_stack (z_var (i := 0) nm_self rfl (Or.inl rfl)) rfl) rfl rfl (zg_name (i := 2) sc_Log_own.nd rfl (Or.inl rfl) (Or.inl rfl)) (zss_one (zs_if (zt_din (hu_of hr) (z_var (i := 1) nm_box rfl (Or.inl rfl)) (z_var (i := 2) nm_layer rfl (Or.inl rfl)) (by with_unfolding_all rfl)) (zss_one (zs_ret (z_dget (hu_of hr) (z_var (i := 2) nm_layer rfl (Or.inl rfl)) (z_var (i := 1) nm_box rfl (Or.inl rfl)) (fun _ _ => rfl)))) zss_nil)) (fun _ => rfl)) (zss_one (zs_ret z_non)))
theorem ok_Log_begin (T : Txt K mg t)  : FnOk P w K mg base CX0 (0 + 1) t.a_Log_begin t.d_Log_begin ["self"] (spE (ckOf K t) 1 p_Log_begin) := by
  have fa := T.fa
  exact zfn T.F_Log_begin sc_Log_begin fun cdv Ar outer sh H E hr => (zss_one (zs_expr (z_bm PySem.F.plainAttrs_list PySem.F.slot_list_append PySem.F.type_list_append mt_append m_appL (z_fld fa.fl_stack (z_var (i := 0) nm_self rfl (Or.inl rfl)) rfl) (za_cons (z_loc z_dnew) za_nil rfl) rfl rfl rfl rfl rfl) rfl))
theorem ok_Log_settle (T : Txt K mg t)  : FnOk P w K mg base CX0 (0 + 1) t.a_Log_settle t.d_Log_settle ["self"] (spE (ckOf K t) 1 p_Log_settle) := by
  have fa := T.fa
  exact zfn T.F_Log_settle sc_Log_settle fun cdv Ar outer sh H E hr => (zss_cons (zs_set (i := 1) sc_Log_settle.nd rfl (Or.inl rfl) (z_bm0 PySem.F.plainAttrs_list PySem.F.slot_list_pop PySem.F.type_list_pop mt_pop m_popL (z_fld fa.fl_stack (z_var (i := 0) nm_self rfl (Or.inl rfl)) rfl) rfl rfl) rfl (Or.inl rfl)) (zss_cons (zs_set (i := 2) sc_Log_settle.nd rfl (Or.inl rfl) (z_ix ix_list o_ixL (z_fld fa.fl_stack (z_var (i := 0) nm_self rfl (Or.inl rfl)) rfl) (z_un un_neg o_neg z_int) (fun _ _ => rfl)) rfl (Or.inl rfl)) (zss_one (zs_expr (z_bm PySem.F.plainAttrs_dict PySem.F.slot_dict_update PySem.F.type_dict_update mt_upd m_upd (z_var (i := 2) nm_beneath rfl (Or.inl rfl)) (za_cons (z_var (i := 1) nm_top rfl (Or.inl rfl)) za_nil rfl) rfl rfl rfl rfl rfl) rfl))))
theorem ok_Log_drop (T : Txt K mg t)  : FnOk P w K mg base CX0 (0 + 1) t.a_Log_drop t.d_Log_drop ["self"] (spE (ckOf K t) 1 p_Log_drop) := by
  have fa := T.fa
  exact zfn T.F_Log_drop sc_Log_drop fun cdv Ar outer sh H E hr => (zss_one (zs_expr (z_bm0 PySem.F.plainAttrs_list PySem.F.slot_list_pop PySem.F.type_list_pop mt_pop m_popL (z_fld fa.fl_stack (z_var (i := 0) nm_self rfl (Or.inl rfl)) rfl) rfl rfl) rfl))
theorem ok_Log_layers (T : Txt K mg t)  : FnOk P w K mg base CX0 (0 + 1) t.a_Log_layers t.d_Log_layers ["self"] (spE (ckOf K t) 1 p_Log_layers) := by
  have fa := T.fa
  exact zfn T.F_Log_layers sc_Log_layers fun cdv Ar outer sh H E hr => (zss_one (zs_ret (z_cb call_len_seq b_lenL nm_len rfl T.z_len bt_len (za_cons (z_fld fa.fl_stack (z_var (i := 0) nm_self rfl (Or.inl rfl)) rfl) za_nil rfl) rfl rfl)))
theorem ok_Log_saw (T : Txt K mg t)  : FnOk P w K mg base CX0 (0 + 1) t.a_Log_saw t.d_Log_saw ["self"] (spE (ckOf K t) 1 p_Log_saw) := by
  have fa := T.fa
  exact zfn T.F_Log_saw sc_Log_saw fun cdv Ar outer sh H E hr => (zss_one (zs_ret (z_loc (PXS.z_sortI rfl (z_fld fa.fl_last_seen (z_var (i := 0) nm_self rfl (Or.inl rfl)) rfl) nm_sorted rfl T.z_sorted bt_sorted rfl rfl rfl rfl))))
theorem ok_Log_wrote (T : Txt K mg t)  : FnOk P w K mg base CX0 (0 + 1) t.a_Log_wrote t.d_Log_wrote ["self"] (spE (ckOf K t) 1 p_Log_wrote) := by
  have fa := T.fa
  exact zfn T.F_Log_wrote sc_Log_wrote fun cdv Ar outer sh H E hr => (zss_cons (zs_set (i := 1) sc_Log_wrote.nd rfl (Or.inl rfl) (z_ix ix_list o_ixL (z_fld fa.fl_stack (z_var (i := 0) nm_self rfl (Or.inl rfl)) rfl) z_int (fun _ _ => rfl)) rfl (Or.inl rfl)) (zss_one (zs_ret (z_loc (PXS.z_sortI rfl (z_var (i := 1) nm_lowest rfl (Or.inl rfl)) nm_sorted rfl T.z_sorted bt_sorted rfl rfl rfl rfl)))))
theorem ok__law_cell_at (T : Txt K mg t)  : FnOk P w K mg base CX0 (0 + 1) t.a__law_cell_at t.d__law_cell_at ["_law_script", "_law_k"] (spE (ckOf K t) 2 p__law_cell_at) := by
  have fa := T.fa
  exact zfn T.F__law_cell_at sc__law_cell_at fun cdv Ar outer sh H E hr => (zss_cons (zs_if (zt_cmp op_lt o_lt (z_var (i := 1) nm__law_k rfl (Or.inl rfl)) (z_cb call_len_seq b_lenL nm_len rfl T.z_len bt_len (za_cons (z_var (i := 0) nm__law_script rfl (Or.inl rfl)) za_nil rfl) rfl rfl) (nomark _)) (zss_one (zs_ret (z_ix ix_list o_ixL (z_var (i := 0) nm__law_script rfl (Or.inl rfl)) (z_var (i := 1) nm__law_k rfl (Or.inl rfl)) (fun _ _ => rfl)))) zss_nil) (zss_one (zs_ret z_int)))
theorem ok__law_mixed (T : Txt K mg t)  : FnOk P w K mg base CX0 (0 + 1) t.a__law_mixed t.d__law_mixed ["_law_cell"] (spE (ckOf K t) 1 p__law_mixed) := by
  have fa := T.fa
  exact zfn T.F__law_mixed sc__law_mixed fun cdv Ar outer sh H E hr => (zss_one (zs_ret (z_op op_mod o_mod (z_op op_mul o_mul (z_var (i := 0) nm__law_cell rfl (Or.inl rfl)) z_int) z_int)))
structure Grp0 (P : Program) (w : World) (K : PySem.W.Frag) (mg : Str → Option Value) (base : Heap) (t : Ads) (n : Nat) : Prop where
  f__law_alike : FnOk P w K mg base CX0 (n + 3) t.a__law_alike t.d__law_alike ["_law_found", "_law_due"] (spE (ckOf K t) 2 (p__law_alike n))
theorem grp0_ok (T : Txt K mg t)   : ∀ n, Grp0 P w K mg base t n
  | 0 => ⟨none_ok⟩
  | n + 1 => by
    have fa := T.fa
    have I := grp0_ok T  n
    have G__law_alike := I.f__law_alike
    exact ⟨zfn T.F__law_alike sc__law_alike fun cdv Ar outer sh H E hr => (zss_cons (zs_if (zt_val (z_cb call_isinst (b_isi (K := ckX _ _) fa.isa) nm_isinstance rfl T.z_isinstance bt_isinstance (za_cons (z_var (i := 1) nm__law_due rfl (Or.inl rfl)) (za_cons (z_gty nm_int rfl T.z_int bt_int) za_nil rfl) rfl) rfl rfl) (fun _ => rfl)) (zss_one (zs_ret (z_and (z_cb call_isinst (b_isi (K := ckX _ _) fa.isa) nm_isinstance rfl T.z_isinstance bt_isinstance (za_cons (z_var (i := 0) nm__law_found rfl (Or.inl rfl)) (za_cons (z_gty nm_int rfl T.z_int bt_int) za_nil rfl) rfl) rfl rfl) (z_and (z_not (z_cb call_isinst (b_isi (K := ckX _ _) fa.isa) nm_isinstance rfl T.z_isinstance bt_isinstance (za_cons (z_var (i := 0) nm__law_found rfl (Or.inl rfl)) (za_cons (z_gty nm_bool rfl T.z_bool bt_bool) za_nil rfl) rfl) rfl rfl)) (z_one (z_cmp op_eq o_eq (z_var (i := 0) nm__law_found rfl (Or.inl rfl)) (z_var (i := 1) nm__law_due rfl (Or.inl rfl)) (nomark _))))))) zss_nil) (zss_cons (zs_if (zt_val (z_cb call_isinst (b_isi (K := ckX _ _) fa.isa) nm_isinstance rfl T.z_isinstance bt_isinstance (za_cons (z_var (i := 1) nm__law_due rfl (Or.inl rfl)) (za_cons (z_gty nm_str rfl T.z_str bt_str) za_nil rfl) rfl) rfl rfl) (fun _ => rfl)) (zss_one (zs_ret (z_and (z_cb call_isinst (b_isi (K := ckX _ _) fa.isa) nm_isinstance rfl T.z_isinstance bt_isinstance (za_cons (z_var (i := 0) nm__law_found rfl (Or.inl rfl)) (za_cons (z_gty nm_str rfl T.z_str bt_str) za_nil rfl) rfl) rfl rfl) (z_one (z_cmp op_eq o_eq (z_var (i := 0) nm__law_found rfl (Or.inl rfl)) (z_var (i := 1) nm__law_due rfl (Or.inl rfl)) (nomark _)))))) zss_nil) (zss_cons (zs_if (zt_val (z_cb call_isinst (b_isi (K := ckX _ _) fa.isa) nm_isinstance rfl T.z_isinstance bt_isinstance (za_cons (z_var (i := 1) nm__law_due rfl (Or.inl rfl)) (za_cons (z_gty nm_tuple rfl T.z_tuple bt_tuple) za_nil rfl) rfl) rfl rfl) (fun _ => rfl)) (zss_one (zs_if (zt_not (zt_val (z_cb call_isinst (b_isi (K := ckX _ _) fa.isa) nm_isinstance rfl T.z_isinstance bt_isinstance (za_cons (z_var (i := 0) nm__law_found rfl (Or.inl rfl)) (za_cons (z_gty nm_tuple rfl T.z_tuple bt_tuple) za_nil rfl) rfl) rfl rfl) (fun _ => rfl))) (zss_one (zs_ret z_bl)) zss_nil)) (zss_one (zs_if (zt_not (zt_val (z_cb call_isinst (b_isi (K := ckX _ _) fa.isa) nm_isinstance rfl T.z_isinstance bt_isinstance (za_cons (z_var (i := 0) nm__law_found rfl (Or.inl rfl)) (za_cons (z_gty nm_list rfl T.z_list bt_list) za_nil rfl) rfl) rfl rfl) (fun _ => rfl))) (zss_one (zs_ret z_bl)) zss_nil))) (zss_cons (zs_if (zt_cmp op_ne o_ne (z_cb call_len_seq b_lenL nm_len rfl T.z_len bt_len (za_cons (z_var (i := 0) nm__law_found rfl (Or.inl rfl)) za_nil rfl) rfl rfl) (z_cb call_len_seq b_lenL nm_len rfl T.z_len bt_len (za_cons (z_var (i := 1) nm__law_due rfl (Or.inl rfl)) za_nil rfl) rfl rfl) (nomark _)) (zss_one (zs_ret z_bl)) zss_nil) (zss_cons (zs_for PassesOwn.never rfl (zi_rng1 rfl T.z_range (za_cons (z_cb call_len_seq b_lenL nm_len rfl T.z_len bt_len (za_cons (z_var (i := 1) nm__law_due rfl (Or.inl rfl)) za_nil rfl) rfl rfl) za_nil rfl) rfl) (zg_name (i := 2) sc__law_alike.nd rfl (Or.inl rfl) (Or.inl rfl)) (zss_one (zs_if (zt_not (zt_val (z_call G__law_alike (hr.mono (by omega)) nm__law_alike rfl T.m__law_alike T.F__law_alike.kp T.b__law_alike (za_cons (z_ix ix_seq o_ixA (z_var (i := 0) nm__law_found rfl (Or.inl rfl)) (z_var (i := 2) nm__law_k rfl (Or.inl rfl)) (fun _ _ => rfl)) (za_cons (z_ix ix_seq o_ixA (z_var (i := 1) nm__law_due rfl (Or.inl rfl)) (z_var (i := 2) nm__law_k rfl (Or.inl rfl)) (fun _ _ => rfl)) za_nil rfl) rfl) rfl rfl) (fun _ => rfl))) (zss_one (zs_ret z_bl)) zss_nil)) (fun _ => rfl)) (zss_one (zs_ret z_bl)))))))⟩
theorem ok__law_own (T : Txt K mg t)  : FnOk P w K mg base CX0 (0 + 1) t.a__law_own t.d__law_own ["_law_tiers", "_law_box"] (spE (ckOf K t) 2 p__law_own) := by
  have fa := T.fa
  exact zfn T.F__law_own sc__law_own fun cdv Ar outer sh H E hr => (zss_cons (zs_set (i := 2) sc__law_own.nd rfl (Or.inl rfl) z_non rfl (Or.inl rfl)) (zss_cons (zs_forF PassesOwn.never rfl (z_var (i := 0) nm__law_tiers rfl (Or.inl rfl)) (zg_name (i := 3) sc__law_own.nd rfl (Or.inl rfl) (Or.inl rfl)) (zss_one (zs_if (zt_din (hu_of hr) (z_var (i := 1) nm__law_box rfl (Or.inl rfl)) (z_var (i := 3) nm__law_tier rfl (Or.inl rfl)) (by with_unfolding_all rfl)) (zss_one (zs_set (i := 2) sc__law_own.nd rfl (Or.inl rfl) (z_dget (hu_of hr) (z_var (i := 3) nm__law_tier rfl (Or.inl rfl)) (z_var (i := 1) nm__law_box rfl (Or.inl rfl)) (fun _ _ => rfl)) rfl (Or.inl rfl))) zss_nil)) (fun _ => rfl)) (zss_one (zs_ret (z_var (i := 2) nm__law_found rfl (Or.inl rfl))))))
theorem ok__law_done (T : Txt K mg t) (G_Log_begin : FnOk P w K mg base CX0 (1) t.a_Log_begin t.d_Log_begin ["self"] (spE (ckOf K t) 1 p_Log_begin)) (G_Log_drop : FnOk P w K mg base CX0 (1) t.a_Log_drop t.d_Log_drop ["self"] (spE (ckOf K t) 1 p_Log_drop)) (G_Log_settle : FnOk P w K mg base CX0 (1) t.a_Log_settle t.d_Log_settle ["self"] (spE (ckOf K t) 1 p_Log_settle)) (G_Log_write : FnOk P w K mg base CX0 (1) t.a_Log_write t.d_Log_write ["self", "box", "number"] (spE (ckOf K t) 3 p_Log_write)) : FnOk P w K mg base CX0 (1 + 1) t.a__law_done t.d__law_done ["_law_log", "_law_tiers", "_law_mixed_here", "_law_cell", "_law_boxes"] (spE (ckOf K t) 5 p__law_done) := by
  have fa := T.fa
  exact zfn T.F__law_done sc__law_done fun cdv Ar outer sh H E hr => (zss_cons (zs_set (i := 5) sc__law_done.nd rfl (Or.inl rfl) (z_op op_mod o_mod (z_var (i := 2) nm__law_mixed_here rfl (Or.inl rfl)) z_int) rfl (Or.inl rfl)) (zss_cons (zs_set (i := 6) sc__law_done.nd rfl (Or.inl rfl) (z_op op_mod o_mod (z_op op_fdiv o_div (z_var (i := 2) nm__law_mixed_here rfl (Or.inl rfl)) z_int) (z_var (i := 4) nm__law_boxes rfl (Or.inl rfl))) rfl (Or.inl rfl)) (zss_one (zs_if (zt_cmp op_lt o_lt (z_var (i := 5) nm__law_way rfl (Or.inl rfl)) z_int (nomark _)) (zss_cons (zs_set (i := 7) sc__law_done.nd rfl (Or.inl rfl) (z_ix ix_list o_ixL (z_fz (z_lst (za_cons z_int (za_cons (z_op op_mod o_mod (z_op op_fdiv o_div (z_var (i := 2) nm__law_mixed_here rfl (Or.inl rfl)) z_int) z_int) (za_cons (z_op op_mod o_mod (z_op op_mul o_mul (z_var (i := 3) nm__law_cell rfl (Or.inl rfl)) z_int) (z_op op_pow o_pow z_int z_int)) (za_cons (z_op op_sub o_sub (z_op op_pow o_pow z_int z_int) z_int) za_nil rfl) rfl) rfl) rfl))) (z_op op_mod o_mod (z_op op_fdiv o_div (z_var (i := 2) nm__law_mixed_here rfl (Or.inl rfl)) z_int) z_int) (fun _ _ => rfl)) rfl (Or.inl rfl)) (zss_cons (zs_expr (z_methS (z_var (i := 0) nm__law_log rfl (Or.inl rfl)) (T.cl 0) T.ms_Log_write G_Log_write (hr.mono (by omega)) T.b_Log_write (za_cons (z_var (i := 6) nm__law_box rfl (Or.inl rfl)) (za_cons (z_var (i := 7) nm__law_number rfl (Or.inl rfl)) za_nil rfl) rfl) rfl rfl rfl) rfl) (zss_one (zs_dput (hu_of hr) (z_ix ix_list o_ixL (z_var (i := 1) nm__law_tiers rfl (Or.inl rfl)) (z_un un_neg o_neg z_int) (fun _ _ => rfl)) (z_var (i := 6) nm__law_box rfl (Or.inl rfl)) (z_var (i := 7) nm__law_number rfl (Or.inl rfl)) rfl)))) (zss_one (zs_if (zt_cmp op_lt o_lt (z_var (i := 5) nm__law_way rfl (Or.inl rfl)) z_int (nomark _)) (zss_one (zs_if (zt_cmp op_lt o_lt (z_cb call_len_seq b_lenL nm_len rfl T.z_len bt_len (za_cons (z_var (i := 1) nm__law_tiers rfl (Or.inl rfl)) za_nil rfl) rfl rfl) z_int (nomark _)) (zss_cons (zs_expr (z_methS0 (z_var (i := 0) nm__law_log rfl (Or.inl rfl)) (T.cl 0) T.ms_Log_begin G_Log_begin (hr.mono (by omega)) T.b_Log_begin rfl) rfl) (zss_one (zs_expr (z_bm PySem.F.plainAttrs_list PySem.F.slot_list_append PySem.F.type_list_append mt_append m_appL (z_var (i := 1) nm__law_tiers rfl (Or.inl rfl)) (za_cons (z_loc z_dnew) za_nil rfl) rfl rfl rfl rfl rfl) rfl))) zss_nil)) (zss_one (zs_if (zt_cmp op_gt o_gt (z_cb call_len_seq b_lenL nm_len rfl T.z_len bt_len (za_cons (z_var (i := 1) nm__law_tiers rfl (Or.inl rfl)) za_nil rfl) rfl rfl) z_int (nomark _)) (zss_cons (zs_set (i := 8) sc__law_done.nd rfl (Or.inl rfl) (z_bm0 PySem.F.plainAttrs_list PySem.F.slot_list_pop PySem.F.type_list_pop mt_pop m_popL (z_var (i := 1) nm__law_tiers rfl (Or.inl rfl)) rfl rfl) rfl (Or.inl rfl)) (zss_one (zs_if (zt_cmp op_eq o_eq (z_var (i := 5) nm__law_way rfl (Or.inl rfl)) z_int (nomark _)) (zss_cons (zs_expr (z_methS0 (z_var (i := 0) nm__law_log rfl (Or.inl rfl)) (T.cl 0) T.ms_Log_settle G_Log_settle (hr.mono (by omega)) T.b_Log_settle rfl) rfl) (zss_one (zs_forD PassesOwn.never rfl (z_var (i := 8) nm__law_top rfl (Or.inl rfl)) (zg_name (i := 9) sc__law_done.nd rfl (Or.inl rfl) (Or.inl rfl)) (zss_one (zs_dput (hu_of hr) (z_ix ix_list o_ixL (z_var (i := 1) nm__law_tiers rfl (Or.inl rfl)) (z_un un_neg o_neg z_int) (fun _ _ => rfl)) (z_var (i := 9) nm__law_at rfl (Or.inl rfl)) (z_dget (hu_of hr) (z_var (i := 8) nm__law_top rfl (Or.inl rfl)) (z_var (i := 9) nm__law_at rfl (Or.inl rfl)) (fun _ _ => rfl)) rfl)) (fun _ => rfl)))) (zss_one (zs_expr (z_methS0 (z_var (i := 0) nm__law_log rfl (Or.inl rfl)) (T.cl 0) T.ms_Log_drop G_Log_drop (hr.mono (by omega)) T.b_Log_drop rfl) rfl))))) zss_nil))))))))
theorem ok__law_stands (T : Txt K mg t) (G_Log_layers : FnOk P w K mg base CX0 (1) t.a_Log_layers t.d_Log_layers ["self"] (spE (ckOf K t) 1 p_Log_layers)) (G_Log_own : FnOk P w K mg base CX0 (1) t.a_Log_own t.d_Log_own ["self", "box"] (spE (ckOf K t) 2 p_Log_own)) (G_Log_wrote : FnOk P w K mg base CX0 (1) t.a_Log_wrote t.d_Log_wrote ["self"] (spE (ckOf K t) 1 p_Log_wrote)) (G__law_alike : FnOk P w K mg base CX0 (7) t.a__law_alike t.d__law_alike ["_law_found", "_law_due"] (spE (ckOf K t) 2 (p__law_alike 4))) (G__law_own : FnOk P w K mg base CX0 (1) t.a__law_own t.d__law_own ["_law_tiers", "_law_box"] (spE (ckOf K t) 2 p__law_own)) : FnOk P w K mg base CX0 (7 + 1) t.a__law_stands t.d__law_stands ["_law_log", "_law_tiers", "_law_box", "_law_turn"] (spE (ckOf K t) 4 p__law_stands) := by
  have fa := T.fa
  exact zfn T.F__law_stands sc__law_stands fun cdv Ar outer sh H E hr => (zss_cons (zs_for PassesOwn.never rfl (zi_rng1 rfl T.z_range (za_cons z_int za_nil rfl) rfl) (zg_name (i := 4) sc__law_stands.nd rfl (Or.inl rfl) (Or.inl rfl)) (zss_cons (zs_set (i := 5) sc__law_stands.nd rfl (Or.inl rfl) (z_op op_mod o_mod (z_op op_add o_add (z_var (i := 4) nm__law_k rfl (Or.inl rfl)) (z_var (i := 3) nm__law_turn rfl (Or.inl rfl))) z_int) rfl (Or.inl rfl)) (zss_cons (zs_if (zt_cmp op_eq o_eq (z_var (i := 5) nm__law_way rfl (Or.inl rfl)) z_int (nomark _)) (zss_cons (zs_set (i := 6) sc__law_stands.nd rfl (Or.inl rfl) (z_methS (z_var (i := 0) nm__law_log rfl (Or.inl rfl)) (T.cl 0) T.ms_Log_own G_Log_own (hr.mono (by omega)) T.b_Log_own (za_cons (z_var (i := 2) nm__law_box rfl (Or.inl rfl)) za_nil rfl) rfl rfl rfl) rfl (Or.inl rfl)) (zss_cons (zs_set (i := 7) sc__law_stands.nd rfl (Or.inl rfl) (z_call G__law_own (hr.mono (by omega)) nm__law_own rfl T.m__law_own T.F__law_own.kp T.b__law_own (za_cons (z_var (i := 1) nm__law_tiers rfl (Or.inr (Or.inl rfl))) (za_cons (z_var (i := 2) nm__law_box rfl (Or.inl rfl)) za_nil rfl) rfl) rfl rfl) rfl (Or.inl rfl)) (zss_cons (zs_if (zt_w (zw_and (zt_cmp op_isN o_isN (z_var (i := 7) nm__law_due rfl (Or.inl rfl)) z_non (nomark _)) (zw_and1 (zt_cmp op_notN o_notN (z_var (i := 6) nm__law_found rfl (Or.inl rfl)) z_non (nomark _))))) (zss_one (zs_ret z_bl)) zss_nil) (zss_one (zs_if (zt_w (zw_and (zt_cmp op_notN o_notN (z_var (i := 7) nm__law_due rfl (Or.inl rfl)) z_non (nomark _)) (zw_and1 (zt_not (zt_val (z_call G__law_alike (hr.mono (by omega)) nm__law_alike rfl T.m__law_alike T.F__law_alike.kp T.b__law_alike (za_cons (z_var (i := 6) nm__law_found rfl (Or.inl rfl)) (za_cons (z_var (i := 7) nm__law_due rfl (Or.inl rfl)) za_nil rfl) rfl) rfl rfl) (fun _ => rfl)))))) (zss_one (zs_ret z_bl)) zss_nil))))) zss_nil) (zss_cons (zs_if (zt_w (zw_and (zt_cmp op_eq o_eq (z_var (i := 5) nm__law_way rfl (Or.inl rfl)) z_int (nomark _)) (zw_and1 (zt_not (zt_val (z_call G__law_alike (hr.mono (by omega)) nm__law_alike rfl T.m__law_alike T.F__law_alike.kp T.b__law_alike (za_cons (z_methS0 (z_var (i := 0) nm__law_log rfl (Or.inl rfl)) (T.cl 0) T.ms_Log_layers G_Log_layers (hr.mono (by omega)) T.b_Log_layers rfl) (za_cons (z_cb call_len_seq b_lenL nm_len rfl T.z_len bt_len (za_cons (z_var (i := 1) nm__law_tiers rfl (Or.inr (Or.inl rfl))) za_nil rfl) rfl rfl) za_nil rfl) rfl) rfl rfl) (fun _ => rfl)))))) (zss_one (zs_ret z_bl)) zss_nil) (zss_cons (zs_setCF (iy := 7) [1] ["_law_tiers"] rfl (zi_list (z_fz (z_sortK rfl (z_ix ix_list o_ixL (z_var (i := 1) nm__law_tiers rfl (Or.inr (Or.inl rfl))) z_int (fun _ _ => rfl)) nm_sorted rfl T.z_sorted bt_sorted rfl rfl))) ⟨rfl, rfl, rfl, True.intro⟩ (fun _ _ _ _ _ _ => (z_tup (za_cons (z_var (i := 0) nm__law_at rfl (Or.inl rfl)) (za_cons (z_dget (hu_of hr) (z_ix ix_list o_ixL (z_var (i := 1) nm__law_tiers rfl (Or.inr (Or.inl rfl))) z_int (fun _ _ => rfl)) (z_var (i := 0) nm__law_at rfl (Or.inl rfl)) (fun _ _ => rfl)) za_nil rfl) rfl))) (by decide +kernel) rfl (by decide +kernel) (by decide +kernel) (by decide +kernel) rfl (fun _ => rfl) sc__law_stands.nd rfl (Or.inl rfl) (Or.inl rfl) rfl) (zss_one (zs_if (zt_w (zw_and (zt_cmp op_eq o_eq (z_var (i := 5) nm__law_way rfl (Or.inl rfl)) z_int (nomark _)) (zw_and1 (zt_not (zt_val (z_call G__law_alike (hr.mono (by omega)) nm__law_alike rfl T.m__law_alike T.F__law_alike.kp T.b__law_alike (za_cons (z_methS0 (z_var (i := 0) nm__law_log rfl (Or.inl rfl)) (T.cl 0) T.ms_Log_wrote G_Log_wrote (hr.mono (by omega)) T.b_Log_wrote rfl) (za_cons (z_var (i := 7) nm__law_due rfl (Or.inl rfl)) za_nil rfl) rfl) rfl rfl) (fun _ => rfl)))))) (zss_one (zs_ret z_bl)) zss_nil)))))) (fun _ => rfl)) (zss_one (zs_ret z_bl)))
theorem ok_law (T : Txt K mg t) (G_Log___init__ : FnOk P w K mg base CX0 (1) t.a_Log___init__ t.d_Log___init__ ["self"] (spI (ckOf K t) 0 0 p_Log___init__)) (G_Log_saw : FnOk P w K mg base CX0 (1) t.a_Log_saw t.d_Log_saw ["self"] (spE (ckOf K t) 1 p_Log_saw)) (G_Log_wrote : FnOk P w K mg base CX0 (1) t.a_Log_wrote t.d_Log_wrote ["self"] (spE (ckOf K t) 1 p_Log_wrote)) (G__law_cell_at : FnOk P w K mg base CX0 (1) t.a__law_cell_at t.d__law_cell_at ["_law_script", "_law_k"] (spE (ckOf K t) 2 p__law_cell_at)) (G__law_done : FnOk P w K mg base CX0 (2) t.a__law_done t.d__law_done ["_law_log", "_law_tiers", "_law_mixed_here", "_law_cell", "_law_boxes"] (spE (ckOf K t) 5 p__law_done)) (G__law_mixed : FnOk P w K mg base CX0 (1) t.a__law_mixed t.d__law_mixed ["_law_cell"] (spE (ckOf K t) 1 p__law_mixed)) (G__law_stands : FnOk P w K mg base CX0 (8) t.a__law_stands t.d__law_stands ["_law_log", "_law_tiers", "_law_box", "_law_turn"] (spE (ckOf K t) 4 p__law_stands)) : FnOk P w K mg base CX0 (8 + 1) t.a_law t.d_law ["_law_script"] (spE (ckOf K t) 1 p_law) := by
  have fa := T.fa
  exact zfn T.F_law sc_law fun cdv Ar outer sh H E hr => (zss_cons (zs_set (i := 1) sc_law.nd rfl (Or.inl rfl) (z_fz (z_lst (za_cons (z_loc (z_make0 T.mk_Log G_Log___init__ (hr.mono (by omega)) nm_Log rfl T.m_Log T.b_Log___init__)) (za_cons (z_loc (z_make0 T.mk_Log G_Log___init__ (hr.mono (by omega)) nm_Log rfl T.m_Log T.b_Log___init__)) za_nil rfl) rfl))) rfl (Or.inl rfl)) (zss_cons (zs_set (i := 2) sc_law.nd rfl (Or.inl rfl) (z_fz (z_lst (za_cons (z_loc (z_lst (za_cons (z_loc z_dnew) za_nil rfl))) (za_cons (z_loc (z_lst (za_cons (z_loc z_dnew) za_nil rfl))) za_nil rfl) rfl))) rfl (Or.inl rfl)) (zss_cons (zs_set (i := 3) sc_law.nd rfl (Or.inl rfl) (z_ix ix_list o_ixL (z_fz (z_lst (za_cons z_int (za_cons z_int za_nil rfl) rfl))) (z_op op_mod o_mod (z_call G__law_cell_at (hr.mono (by omega)) nm__law_cell_at rfl T.m__law_cell_at T.F__law_cell_at.kp T.b__law_cell_at (za_cons (z_var (i := 0) nm__law_script rfl (Or.inl rfl)) (za_cons z_int za_nil rfl) rfl) rfl rfl) z_int) (fun _ _ => rfl)) rfl (Or.inl rfl)) (zss_cons (zs_setO (i := 4) sc_law.nd rfl (Or.inl rfl) (z_lst za_nil) rfl (Or.inl rfl)) (zss_cons (zs_for PassesOwn.never rfl (zi_list (z_fz (z_slO sl_list o_slL (z_var (i := 0) nm__law_script rfl (Or.inl rfl)) zp_no (zp_some z_int)))) (zg_name (i := 5) sc_law.nd rfl (Or.inl rfl) (Or.inl rfl)) (zss_cons (zs_set (i := 6) sc_law.nd rfl (Or.inl rfl) (z_call G__law_mixed (hr.mono (by omega)) nm__law_mixed rfl T.m__law_mixed T.F__law_mixed.kp T.b__law_mixed (za_cons (z_var (i := 5) nm__law_cell rfl (Or.inl rfl)) za_nil rfl) rfl rfl) rfl (Or.inl rfl)) (zss_cons (zs_set (i := 7) sc_law.nd rfl (Or.inl rfl) (z_op op_mod o_mod (z_var (i := 6) nm__law_mixed_here rfl (Or.inl rfl)) z_int) rfl (Or.inl rfl)) (zss_cons (zs_set (i := 6) sc_law.nd rfl (Or.inl rfl) (z_op op_fdiv o_div (z_var (i := 6) nm__law_mixed_here rfl (Or.inl rfl)) z_int) rfl (Or.inl rfl)) (zss_cons (zs_expr (z_call G__law_done (hr.mono (by omega)) nm__law_done rfl T.m__law_done T.F__law_done.kp T.b__law_done (za_cons (z_ix ix_list o_ixL (z_var (i := 1) nm__law_logs rfl (Or.inl rfl)) (z_var (i := 7) nm__law_which rfl (Or.inl rfl)) (fun _ _ => rfl)) (za_cons (z_ix ix_list o_ixL (z_var (i := 2) nm__law_tiers rfl (Or.inl rfl)) (z_var (i := 7) nm__law_which rfl (Or.inl rfl)) (fun _ _ => rfl)) (za_cons (z_var (i := 6) nm__law_mixed_here rfl (Or.inl rfl)) (za_cons (z_var (i := 5) nm__law_cell rfl (Or.inl rfl)) (za_cons (z_var (i := 3) nm__law_boxes rfl (Or.inl rfl)) za_nil rfl) rfl) rfl) rfl) rfl) rfl rfl) rfl) (zss_cons (zs_for PassesOwn.never rfl (zi_list (z_fz (z_lst (za_cons (z_op op_mod o_mod (z_op op_fdiv o_div (z_var (i := 6) nm__law_mixed_here rfl (Or.inl rfl)) z_int) (z_var (i := 3) nm__law_boxes rfl (Or.inl rfl))) (za_cons (z_op op_mod o_mod (z_op op_fdiv o_div (z_var (i := 6) nm__law_mixed_here rfl (Or.inl rfl)) z_int) (z_var (i := 3) nm__law_boxes rfl (Or.inl rfl))) za_nil rfl) rfl)))) (zg_name (i := 8) sc_law.nd rfl (Or.inl rfl) (Or.inl rfl)) (zss_cons (zs_if (zt_not (zt_val (z_call G__law_stands (hr.mono (by omega)) nm__law_stands rfl T.m__law_stands T.F__law_stands.kp T.b__law_stands (za_cons (z_ix ix_list o_ixL (z_var (i := 1) nm__law_logs rfl (Or.inl rfl)) (z_var (i := 7) nm__law_which rfl (Or.inl rfl)) (fun _ _ => rfl)) (za_cons (z_ix ix_list o_ixL (z_var (i := 2) nm__law_tiers rfl (Or.inl rfl)) (z_var (i := 7) nm__law_which rfl (Or.inl rfl)) (fun _ _ => rfl)) (za_cons (z_var (i := 8) nm__law_box rfl (Or.inl rfl)) (za_cons (z_op op_mod o_mod (z_var (i := 6) nm__law_mixed_here rfl (Or.inl rfl)) z_int) za_nil rfl) rfl) rfl) rfl) rfl rfl) (fun _ => rfl))) (zss_one (zs_ret z_bl)) zss_nil) (zss_one (zs_if (zt_not (zt_val (z_call G__law_stands (hr.mono (by omega)) nm__law_stands rfl T.m__law_stands T.F__law_stands.kp T.b__law_stands (za_cons (z_ix ix_list o_ixL (z_var (i := 1) nm__law_logs rfl (Or.inl rfl)) (z_op op_sub o_sub z_int (z_var (i := 7) nm__law_which rfl (Or.inl rfl))) (fun _ _ => rfl)) (za_cons (z_ix ix_list o_ixL (z_var (i := 2) nm__law_tiers rfl (Or.inl rfl)) (z_op op_sub o_sub z_int (z_var (i := 7) nm__law_which rfl (Or.inl rfl))) (fun _ _ => rfl)) (za_cons (z_var (i := 8) nm__law_box rfl (Or.inl rfl)) (za_cons (z_op op_mod o_mod (z_op op_fdiv o_div (z_var (i := 6) nm__law_mixed_here rfl (Or.inl rfl)) z_int) z_int) za_nil rfl) rfl) rfl) rfl) rfl rfl) (fun _ => rfl))) (zss_one (zs_ret z_bl)) zss_nil))) (fun _ => rfl)) (zss_cons (zs_set (i := 9) sc_law.nd rfl (Or.inl rfl) (z_methS0 (z_ix ix_list o_ixL (z_var (i := 1) nm__law_logs rfl (Or.inl rfl)) (z_var (i := 7) nm__law_which rfl (Or.inl rfl)) (fun _ _ => rfl)) (T.cl 0) T.ms_Log_wrote G_Log_wrote (hr.mono (by omega)) T.b_Log_wrote rfl) rfl (Or.inl rfl)) (zss_cons (zs_app (pe_var (i := 4) rfl (Or.inl rfl) nm__law_held.d nm__law_held.c) (z_tup (za_cons (z_var (i := 9) nm__law_found rfl (Or.inl rfl)) (za_cons (z_fz (z_ctyO call_list_of b_listOf nm_list rfl T.z_list bt_list (za_cons (z_var (i := 9) nm__law_found rfl (Or.inl rfl)) za_nil rfl) rfl rfl)) za_nil rfl) rfl)) rfl rfl rfl rfl rfl rfl) (zss_one (zs_expr (z_bm PySem.F.plainAttrs_list PySem.F.slot_list_append PySem.F.type_list_append mt_append m_appL (z_methS0 (z_ix ix_list o_ixL (z_var (i := 1) nm__law_logs rfl (Or.inl rfl)) (z_var (i := 7) nm__law_which rfl (Or.inl rfl)) (fun _ _ => rfl)) (T.cl 0) T.ms_Log_wrote G_Log_wrote (hr.mono (by omega)) T.b_Log_wrote rfl) (za_cons (z_tup (za_cons z_int (za_cons z_int za_nil rfl) rfl)) za_nil rfl) rfl rfl rfl rfl rfl) rfl))))))))) (fun _ => rfl)) (zss_frz 4 (zss_cons (zs_for PassesOwn.never rfl (zi_list (z_var (i := 4) nm__law_held rfl (Or.inl rfl))) (zg_tup rfl (zgs_cons (zg_name (i := 9) sc_law.nd rfl (Or.inl rfl) (Or.inl rfl)) (zgs_cons (zg_name (i := 10) sc_law.nd rfl (Or.inl rfl) (Or.inl rfl)) zgs_nil rfl) rfl) rfl rfl) (zss_one (zs_if (zt_cmp (op_neD (room60 hr)) o_neD (z_var (i := 9) nm__law_found rfl (Or.inl rfl)) (z_var (i := 10) nm__law_kept rfl (Or.inl rfl)) (nomark _)) (zss_one (zs_ret z_bl)) zss_nil)) (fun _ => rfl)) (zss_one (zs_ret (z_and (z_cmp (op_eqD (room60 hr)) o_eqD (z_methS0 (z_ix ix_list o_ixL (z_var (i := 1) nm__law_logs rfl (Or.inl rfl)) z_int (fun _ _ => rfl)) (T.cl 0) T.ms_Log_saw G_Log_saw (hr.mono (by omega)) T.b_Log_saw rfl) (z_fz (z_lst za_nil)) (nomark _)) (z_one (z_cmp (op_eqD (room60 hr)) o_eqD (z_methS0 (z_ix ix_list o_ixL (z_var (i := 1) nm__law_logs rfl (Or.inl rfl)) z_int (fun _ _ => rfl)) (T.cl 0) T.ms_Log_saw G_Log_saw (hr.mono (by omega)) T.b_Log_saw rfl) (z_fz (z_lst za_nil)) (nomark _)))))))))))))
def spLaw (K : PySem.W.Frag) : Sp := fun vs H Q _ => ∃ (a : Addr) (ns : List Int), vs = [.ref a] ∧ SqL K H a (ns.map V.int) ∧ ns.length ≤ 63 ∧ ∀ H', Q (.bl true) H'
theorem law_sp {A : Nat → Addr} : ∀ vs H Q E, spLaw K vs H Q E → spE ⟨K, A⟩ 1 p_law vs H Q E := by
  rintro _ H Q E ⟨a, ns, rfl, hS, hl, q⟩
  obtain ⟨h', e⟩ := law_eq (h := []) ns hl
  exact ⟨⟨H, H, [], []⟩, [.scr ns], .bl true, h', rfl, ⟨Same.refl _, rfl, List.nodup_nil, fun n d a e => by simp at e⟩, ⟨.ref a, [], rfl, ⟨a, rfl, hS⟩, rfl⟩, rfl, e, fun v W' _ _ rv => by rw [show v = _ from rv]; exact q _⟩
end
theorem all_mk {l : PySem.W.OpenLaw} {w : World} {K : PySem.W.Frag} {h : Heap} {mg : Str → Option Value} {fa CLog f1 f2 f3 f4 f5 f6 f7 f8 f9 f10 f11 f12 f13 f14 f15 f16  : Addr} (X : K.In h) (G : h.Ns mainGlobals mg) (hfa : mg "law" = some (.ref fa))
    {od1 an1 : Option Addr} {sl1 : Array (Option Value)} {oc1 kV1 dc1 pm1 cd1 ct1 : Value} {od2 an2 : Option Addr} {sl2 : Array (Option Value)} {oc2 kV2 dc2 pm2 cd2 ct2 : Value} {od3 an3 : Option Addr} {sl3 : Array (Option Value)} {oc3 kV3 dc3 pm3 cd3 ct3 : Value} {od4 an4 : Option Addr} {sl4 : Array (Option Value)} {oc4 kV4 dc4 pm4 cd4 ct4 : Value} {od5 an5 : Option Addr} {sl5 : Array (Option Value)} {oc5 kV5 dc5 pm5 cd5 ct5 : Value} {od6 an6 : Option Addr} {sl6 : Array (Option Value)} {oc6 kV6 dc6 pm6 cd6 ct6 : Value} {od7 an7 : Option Addr} {sl7 : Array (Option Value)} {oc7 kV7 dc7 pm7 cd7 ct7 : Value} {od8 an8 : Option Addr} {sl8 : Array (Option Value)} {oc8 kV8 dc8 pm8 cd8 ct8 : Value} {od9 an9 : Option Addr} {sl9 : Array (Option Value)} {oc9 kV9 dc9 pm9 cd9 ct9 : Value} {od10 an10 : Option Addr} {sl10 : Array (Option Value)} {oc10 kV10 dc10 pm10 cd10 ct10 : Value} {od11 an11 : Option Addr} {sl11 : Array (Option Value)} {oc11 kV11 dc11 pm11 cd11 ct11 : Value} {od12 an12 : Option Addr} {sl12 : Array (Option Value)} {oc12 kV12 dc12 pm12 cd12 ct12 : Value} {od13 an13 : Option Addr} {sl13 : Array (Option Value)} {oc13 kV13 dc13 pm13 cd13 ct13 : Value} {od14 an14 : Option Addr} {sl14 : Array (Option Value)} {oc14 kV14 dc14 pm14 cd14 ct14 : Value} {od15 an15 : Option Addr} {sl15 : Array (Option Value)} {oc15 kV15 dc15 pm15 cd15 ct15 : Value} {od16 an16 : Option Addr} {sl16 : Array (Option Value)} {oc16 kV16 dc16 pm16 cd16 ct16 : Value}
    (nCLog : PySem.W.nsIn K mainGlobals "Log" = some (some (.ref CLog)))
    (fi_Log___init__ : PySem.W.findIn K (.ref CLog) "__init__" = some (some (.ref f1)))
    (fs_Log_write : PySem.W.findIn K (.ref CLog) "write" = some (some (.ref f2)))
    (fs_Log_own : PySem.W.findIn K (.ref CLog) "own" = some (some (.ref f3)))
    (fs_Log_begin : PySem.W.findIn K (.ref CLog) "begin" = some (some (.ref f4)))
    (fs_Log_settle : PySem.W.findIn K (.ref CLog) "settle" = some (some (.ref f5)))
    (fs_Log_drop : PySem.W.findIn K (.ref CLog) "drop" = some (some (.ref f6)))
    (fs_Log_layers : PySem.W.findIn K (.ref CLog) "layers" = some (some (.ref f7)))
    (fs_Log_saw : PySem.W.findIn K (.ref CLog) "saw" = some (some (.ref f8)))
    (fs_Log_wrote : PySem.W.findIn K (.ref CLog) "wrote" = some (some (.ref f9)))
    (i1 : PySem.W.isFn K (.ref f1) = true)
    (l1 : K.lookup f1 = some ⟨oc1, od1, .func (PySem.W.fnOf "__init__" "Log.__init__" (defArgs s_Log___init__) (defBody s_Log___init__) (defScope s_Log___init__) .none kV1 dc1 pm1 an1 cd1 ct1), sl1⟩)
    (c1 : PySem.W.codeIn K cd1 "Log.__init__" = true)
    (k1 : PySem.W.keepIn K (.ref f1) = true)
    (i2 : PySem.W.isFn K (.ref f2) = true)
    (l2 : K.lookup f2 = some ⟨oc2, od2, .func (PySem.W.fnOf "write" "Log.write" (defArgs s_Log_write) (defBody s_Log_write) (defScope s_Log_write) .none kV2 dc2 pm2 an2 cd2 ct2), sl2⟩)
    (c2 : PySem.W.codeIn K cd2 "Log.write" = true)
    (k2 : PySem.W.keepIn K (.ref f2) = true)
    (i3 : PySem.W.isFn K (.ref f3) = true)
    (l3 : K.lookup f3 = some ⟨oc3, od3, .func (PySem.W.fnOf "own" "Log.own" (defArgs s_Log_own) (defBody s_Log_own) (defScope s_Log_own) .none kV3 dc3 pm3 an3 cd3 ct3), sl3⟩)
    (c3 : PySem.W.codeIn K cd3 "Log.own" = true)
    (k3 : PySem.W.keepIn K (.ref f3) = true)
    (i4 : PySem.W.isFn K (.ref f4) = true)
    (l4 : K.lookup f4 = some ⟨oc4, od4, .func (PySem.W.fnOf "begin" "Log.begin" (defArgs s_Log_begin) (defBody s_Log_begin) (defScope s_Log_begin) .none kV4 dc4 pm4 an4 cd4 ct4), sl4⟩)
    (c4 : PySem.W.codeIn K cd4 "Log.begin" = true)
    (k4 : PySem.W.keepIn K (.ref f4) = true)
    (i5 : PySem.W.isFn K (.ref f5) = true)
    (l5 : K.lookup f5 = some ⟨oc5, od5, .func (PySem.W.fnOf "settle" "Log.settle" (defArgs s_Log_settle) (defBody s_Log_settle) (defScope s_Log_settle) .none kV5 dc5 pm5 an5 cd5 ct5), sl5⟩)
    (c5 : PySem.W.codeIn K cd5 "Log.settle" = true)
    (k5 : PySem.W.keepIn K (.ref f5) = true)
    (i6 : PySem.W.isFn K (.ref f6) = true)
    (l6 : K.lookup f6 = some ⟨oc6, od6, .func (PySem.W.fnOf "drop" "Log.drop" (defArgs s_Log_drop) (defBody s_Log_drop) (defScope s_Log_drop) .none kV6 dc6 pm6 an6 cd6 ct6), sl6⟩)
    (c6 : PySem.W.codeIn K cd6 "Log.drop" = true)
    (k6 : PySem.W.keepIn K (.ref f6) = true)
    (i7 : PySem.W.isFn K (.ref f7) = true)
    (l7 : K.lookup f7 = some ⟨oc7, od7, .func (PySem.W.fnOf "layers" "Log.layers" (defArgs s_Log_layers) (defBody s_Log_layers) (defScope s_Log_layers) .none kV7 dc7 pm7 an7 cd7 ct7), sl7⟩)
    (c7 : PySem.W.codeIn K cd7 "Log.layers" = true)
    (k7 : PySem.W.keepIn K (.ref f7) = true)
    (i8 : PySem.W.isFn K (.ref f8) = true)
    (l8 : K.lookup f8 = some ⟨oc8, od8, .func (PySem.W.fnOf "saw" "Log.saw" (defArgs s_Log_saw) (defBody s_Log_saw) (defScope s_Log_saw) .none kV8 dc8 pm8 an8 cd8 ct8), sl8⟩)
    (c8 : PySem.W.codeIn K cd8 "Log.saw" = true)
    (k8 : PySem.W.keepIn K (.ref f8) = true)
    (i9 : PySem.W.isFn K (.ref f9) = true)
    (l9 : K.lookup f9 = some ⟨oc9, od9, .func (PySem.W.fnOf "wrote" "Log.wrote" (defArgs s_Log_wrote) (defBody s_Log_wrote) (defScope s_Log_wrote) .none kV9 dc9 pm9 an9 cd9 ct9), sl9⟩)
    (c9 : PySem.W.codeIn K cd9 "Log.wrote" = true)
    (k9 : PySem.W.keepIn K (.ref f9) = true)
    (a10 : PySem.W.nsIn K mainGlobals "_law_cell_at" = some (some (.ref f10)))
    (l10 : K.lookup f10 = some ⟨oc10, od10, .func (PySem.W.fnOf "_law_cell_at" "_law_cell_at" (defArgs s__law_cell_at) (defBody s__law_cell_at) (defScope s__law_cell_at) .none kV10 dc10 pm10 an10 cd10 ct10), sl10⟩)
    (c10 : PySem.W.codeIn K cd10 "_law_cell_at" = true)
    (k10 : PySem.W.keepIn K (.ref f10) = true)
    (a11 : PySem.W.nsIn K mainGlobals "_law_mixed" = some (some (.ref f11)))
    (l11 : K.lookup f11 = some ⟨oc11, od11, .func (PySem.W.fnOf "_law_mixed" "_law_mixed" (defArgs s__law_mixed) (defBody s__law_mixed) (defScope s__law_mixed) .none kV11 dc11 pm11 an11 cd11 ct11), sl11⟩)
    (c11 : PySem.W.codeIn K cd11 "_law_mixed" = true)
    (k11 : PySem.W.keepIn K (.ref f11) = true)
    (a12 : PySem.W.nsIn K mainGlobals "_law_alike" = some (some (.ref f12)))
    (l12 : K.lookup f12 = some ⟨oc12, od12, .func (PySem.W.fnOf "_law_alike" "_law_alike" (defArgs s__law_alike) (defBody s__law_alike) (defScope s__law_alike) .none kV12 dc12 pm12 an12 cd12 ct12), sl12⟩)
    (c12 : PySem.W.codeIn K cd12 "_law_alike" = true)
    (k12 : PySem.W.keepIn K (.ref f12) = true)
    (a13 : PySem.W.nsIn K mainGlobals "_law_own" = some (some (.ref f13)))
    (l13 : K.lookup f13 = some ⟨oc13, od13, .func (PySem.W.fnOf "_law_own" "_law_own" (defArgs s__law_own) (defBody s__law_own) (defScope s__law_own) .none kV13 dc13 pm13 an13 cd13 ct13), sl13⟩)
    (c13 : PySem.W.codeIn K cd13 "_law_own" = true)
    (k13 : PySem.W.keepIn K (.ref f13) = true)
    (a14 : PySem.W.nsIn K mainGlobals "_law_done" = some (some (.ref f14)))
    (l14 : K.lookup f14 = some ⟨oc14, od14, .func (PySem.W.fnOf "_law_done" "_law_done" (defArgs s__law_done) (defBody s__law_done) (defScope s__law_done) .none kV14 dc14 pm14 an14 cd14 ct14), sl14⟩)
    (c14 : PySem.W.codeIn K cd14 "_law_done" = true)
    (k14 : PySem.W.keepIn K (.ref f14) = true)
    (a15 : PySem.W.nsIn K mainGlobals "_law_stands" = some (some (.ref f15)))
    (l15 : K.lookup f15 = some ⟨oc15, od15, .func (PySem.W.fnOf "_law_stands" "_law_stands" (defArgs s__law_stands) (defBody s__law_stands) (defScope s__law_stands) .none kV15 dc15 pm15 an15 cd15 ct15), sl15⟩)
    (c15 : PySem.W.codeIn K cd15 "_law_stands" = true)
    (k15 : PySem.W.keepIn K (.ref f15) = true)
    (a16 : PySem.W.nsIn K mainGlobals "law" = some (some (.ref f16)))
    (l16 : K.lookup f16 = some ⟨oc16, od16, .func (PySem.W.fnOf "law" "law" (defArgs s_law) (defBody s_law) (defScope s_law) .none kV16 dc16 pm16 an16 cd16 ct16), sl16⟩)
    (c16 : PySem.W.codeIn K cd16 "law" = true)
    (k16 : PySem.W.keepIn K (.ref f16) = true)
    (pgLog : PySem.W.plainGet K CLog Str.empty = true)
    (hdLog : PySem.W.hasDictIn K CLog = true)
    (poLog : PySem.W.plainOver K CLog = true)
    (saLog : PySem.W.findIn K (.ref CLog) "__setattr__" = some (some (.builtin "object.__setattr__")))
    (mkLog : PySem.W.makesIn K CLog = true)
    (kcLog : PySem.W.keepIn K (.ref CLog) = true)
    (naLog_stack : PySem.W.findIn K (.ref CLog) "stack" = some none)
    (naLog_last_seen : PySem.W.findIn K (.ref CLog) "last_seen" = some none)
    (z1 : PySem.W.nsIn K mainGlobals "bool" = some none)
    (z2 : PySem.W.nsIn K mainGlobals "int" = some none)
    (z3 : PySem.W.nsIn K mainGlobals "isinstance" = some none)
    (z4 : PySem.W.nsIn K mainGlobals "len" = some none)
    (z5 : PySem.W.nsIn K mainGlobals "list" = some none)
    (z6 : PySem.W.nsIn K mainGlobals "range" = some none)
    (z7 : PySem.W.nsIn K mainGlobals "reversed" = some none)
    (z8 : PySem.W.nsIn K mainGlobals "sorted" = some none)
    (z9 : PySem.W.nsIn K mainGlobals "str" = some none)
    (z10 : PySem.W.nsIn K mainGlobals "tuple" = some none) :
    ∃ fd : FuncData, (∀ (s : Shared) (v : Value), BindsTo s fd ⟨[v], []⟩ [("_law_script", v)]) ∧ ∀ base : Heap, K.In base → base.Ns mainGlobals mg → FnOk l.prog w K mg base CX0 9 fa fd ["_law_script"] (spLaw K) := by
  have e := hfa.symm.trans (PySem.W.mg_of X G a16)
  cases e
  have F1 := fun_mk (st := s_Log___init__) l1 c1 k1
  have b1 := F1.binds (ps := ["self"]) fun _ _ _ _ _ _ us hl => match us, hl with | [_], _ => rfl
  have F2 := fun_mk (st := s_Log_write) l2 c2 k2
  have b2 := F2.binds (ps := ["self", "box", "number"]) fun _ _ _ _ _ _ us hl => match us, hl with | [_, _, _], _ => rfl
  have F3 := fun_mk (st := s_Log_own) l3 c3 k3
  have b3 := F3.binds (ps := ["self", "box"]) fun _ _ _ _ _ _ us hl => match us, hl with | [_, _], _ => rfl
  have F4 := fun_mk (st := s_Log_begin) l4 c4 k4
  have b4 := F4.binds (ps := ["self"]) fun _ _ _ _ _ _ us hl => match us, hl with | [_], _ => rfl
  have F5 := fun_mk (st := s_Log_settle) l5 c5 k5
  have b5 := F5.binds (ps := ["self"]) fun _ _ _ _ _ _ us hl => match us, hl with | [_], _ => rfl
  have F6 := fun_mk (st := s_Log_drop) l6 c6 k6
  have b6 := F6.binds (ps := ["self"]) fun _ _ _ _ _ _ us hl => match us, hl with | [_], _ => rfl
  have F7 := fun_mk (st := s_Log_layers) l7 c7 k7
  have b7 := F7.binds (ps := ["self"]) fun _ _ _ _ _ _ us hl => match us, hl with | [_], _ => rfl
  have F8 := fun_mk (st := s_Log_saw) l8 c8 k8
  have b8 := F8.binds (ps := ["self"]) fun _ _ _ _ _ _ us hl => match us, hl with | [_], _ => rfl
  have F9 := fun_mk (st := s_Log_wrote) l9 c9 k9
  have b9 := F9.binds (ps := ["self"]) fun _ _ _ _ _ _ us hl => match us, hl with | [_], _ => rfl
  have F10 := fun_mk (st := s__law_cell_at) l10 c10 k10
  have b10 := F10.binds (ps := ["_law_script", "_law_k"]) fun _ _ _ _ _ _ us hl => match us, hl with | [_, _], _ => rfl
  have F11 := fun_mk (st := s__law_mixed) l11 c11 k11
  have b11 := F11.binds (ps := ["_law_cell"]) fun _ _ _ _ _ _ us hl => match us, hl with | [_], _ => rfl
  have F12 := fun_mk (st := s__law_alike) l12 c12 k12
  have b12 := F12.binds (ps := ["_law_found", "_law_due"]) fun _ _ _ _ _ _ us hl => match us, hl with | [_, _], _ => rfl
  have F13 := fun_mk (st := s__law_own) l13 c13 k13
  have b13 := F13.binds (ps := ["_law_tiers", "_law_box"]) fun _ _ _ _ _ _ us hl => match us, hl with | [_, _], _ => rfl
  have F14 := fun_mk (st := s__law_done) l14 c14 k14
  have b14 := F14.binds (ps := ["_law_log", "_law_tiers", "_law_mixed_here", "_law_cell", "_law_boxes"]) fun _ _ _ _ _ _ us hl => match us, hl with | [_, _, _, _, _], _ => rfl
  have F15 := fun_mk (st := s__law_stands) l15 c15 k15
  have b15 := F15.binds (ps := ["_law_log", "_law_tiers", "_law_box", "_law_turn"]) fun _ _ _ _ _ _ us hl => match us, hl with | [_, _, _, _], _ => rfl
  have F16 := fun_mk (st := s_law) l16 c16 k16
  have b16 := F16.binds (ps := ["_law_script"]) fun _ _ _ _ _ _ us hl => match us, hl with | [_], _ => rfl
  let AA : Nat → Addr := fun k => match k with | 0 => CLog | _ => CLog
  have CL : ∀ k, Cls K (AA k) := fun k => match k with | 0 => ⟨pgLog, hdLog, poLog, saLog⟩ | _ + 1 => ⟨pgLog, hdLog, poLog, saLog⟩
  have T : Txt K mg ⟨AA, f1, PySem.W.fnOf "__init__" "Log.__init__" (defArgs s_Log___init__) (defBody s_Log___init__) (defScope s_Log___init__) .none kV1 dc1 pm1 an1 cd1 ct1, f2, PySem.W.fnOf "write" "Log.write" (defArgs s_Log_write) (defBody s_Log_write) (defScope s_Log_write) .none kV2 dc2 pm2 an2 cd2 ct2, f3, PySem.W.fnOf "own" "Log.own" (defArgs s_Log_own) (defBody s_Log_own) (defScope s_Log_own) .none kV3 dc3 pm3 an3 cd3 ct3, f4, PySem.W.fnOf "begin" "Log.begin" (defArgs s_Log_begin) (defBody s_Log_begin) (defScope s_Log_begin) .none kV4 dc4 pm4 an4 cd4 ct4, f5, PySem.W.fnOf "settle" "Log.settle" (defArgs s_Log_settle) (defBody s_Log_settle) (defScope s_Log_settle) .none kV5 dc5 pm5 an5 cd5 ct5, f6, PySem.W.fnOf "drop" "Log.drop" (defArgs s_Log_drop) (defBody s_Log_drop) (defScope s_Log_drop) .none kV6 dc6 pm6 an6 cd6 ct6, f7, PySem.W.fnOf "layers" "Log.layers" (defArgs s_Log_layers) (defBody s_Log_layers) (defScope s_Log_layers) .none kV7 dc7 pm7 an7 cd7 ct7, f8, PySem.W.fnOf "saw" "Log.saw" (defArgs s_Log_saw) (defBody s_Log_saw) (defScope s_Log_saw) .none kV8 dc8 pm8 an8 cd8 ct8, f9, PySem.W.fnOf "wrote" "Log.wrote" (defArgs s_Log_wrote) (defBody s_Log_wrote) (defScope s_Log_wrote) .none kV9 dc9 pm9 an9 cd9 ct9, f10, PySem.W.fnOf "_law_cell_at" "_law_cell_at" (defArgs s__law_cell_at) (defBody s__law_cell_at) (defScope s__law_cell_at) .none kV10 dc10 pm10 an10 cd10 ct10, f11, PySem.W.fnOf "_law_mixed" "_law_mixed" (defArgs s__law_mixed) (defBody s__law_mixed) (defScope s__law_mixed) .none kV11 dc11 pm11 an11 cd11 ct11, f12, PySem.W.fnOf "_law_alike" "_law_alike" (defArgs s__law_alike) (defBody s__law_alike) (defScope s__law_alike) .none kV12 dc12 pm12 an12 cd12 ct12, f13, PySem.W.fnOf "_law_own" "_law_own" (defArgs s__law_own) (defBody s__law_own) (defScope s__law_own) .none kV13 dc13 pm13 an13 cd13 ct13, f14, PySem.W.fnOf "_law_done" "_law_done" (defArgs s__law_done) (defBody s__law_done) (defScope s__law_done) .none kV14 dc14 pm14 an14 cd14 ct14, f15, PySem.W.fnOf "_law_stands" "_law_stands" (defArgs s__law_stands) (defBody s__law_stands) (defScope s__law_stands) .none kV15 dc15 pm15 an15 cd15 ct15, fa, PySem.W.fnOf "law" "law" (defArgs s_law) (defBody s_law) (defScope s_law) .none kV16 dc16 pm16 an16 cd16 ct16⟩ := ⟨F1, b1, F2, b2, F3, b3, F4, b4, F5, b5, F6, b6, F7, b7, F8, b8, F9, b9, F10, b10, PySem.W.mg_of X G a10, F11, b11, PySem.W.mg_of X G a11, F12, b12, PySem.W.mg_of X G a12, F13, b13, PySem.W.mg_of X G a13, F14, b14, PySem.W.mg_of X G a14, F15, b15, PySem.W.mg_of X G a15, F16, b16, PySem.W.mg_of X G a16, PySem.W.mg_of X G nCLog, ⟨mkLog, fi_Log___init__, i1, kcLog⟩, ⟨fs_Log_write, i2, k2⟩, ⟨fs_Log_own, i3, k3⟩, ⟨fs_Log_begin, i4, k4⟩, ⟨fs_Log_settle, i5, k5⟩, ⟨fs_Log_drop, i6, k6⟩, ⟨fs_Log_layers, i7, k7⟩, ⟨fs_Log_saw, i8, k8⟩, ⟨fs_Log_wrote, i9, k9⟩, CL, ⟨all_cons ⟨CL 0, naLog_stack⟩ (fun k hk => absurd hk (by simp)), all_cons ⟨CL 0, naLog_last_seen⟩ (fun k hk => absurd hk (by simp)), fun k hk => absurd hk (by simp [isaTb])⟩, PySem.W.mg_none_of X G z1, PySem.W.mg_none_of X G z2, PySem.W.mg_none_of X G z3, PySem.W.mg_none_of X G z4, PySem.W.mg_none_of X G z5, PySem.W.mg_none_of X G z6, PySem.W.mg_none_of X G z7, PySem.W.mg_none_of X G z8, PySem.W.mg_none_of X G z9, PySem.W.mg_none_of X G z10⟩
  refine ⟨PySem.W.fnOf "law" "law" (defArgs s_law) (defBody s_law) (defScope s_law) .none kV16 dc16 pm16 an16 cd16 ct16, fun s v => .of_eq rfl, fun base _ _ => ?_⟩
  have G_Log___init__ := ok_Log___init__ (P := l.prog) (w := w) (base := base) T 
  have G_Log_write := ok_Log_write (P := l.prog) (w := w) (base := base) T 
  have G_Log_own := ok_Log_own (P := l.prog) (w := w) (base := base) T 
  have G_Log_begin := ok_Log_begin (P := l.prog) (w := w) (base := base) T 
  have G_Log_settle := ok_Log_settle (P := l.prog) (w := w) (base := base) T 
  have G_Log_drop := ok_Log_drop (P := l.prog) (w := w) (base := base) T 
  have G_Log_layers := ok_Log_layers (P := l.prog) (w := w) (base := base) T 
  have G_Log_saw := ok_Log_saw (P := l.prog) (w := w) (base := base) T 
  have G_Log_wrote := ok_Log_wrote (P := l.prog) (w := w) (base := base) T 
  have G__law_cell_at := ok__law_cell_at (P := l.prog) (w := w) (base := base) T 
  have G__law_mixed := ok__law_mixed (P := l.prog) (w := w) (base := base) T 
  have GR0 := grp0_ok (P := l.prog) (w := w) (base := base) T  4
  have G__law_alike := GR0.f__law_alike
  have G__law_own := ok__law_own (P := l.prog) (w := w) (base := base) T 
  have G__law_done := ok__law_done (P := l.prog) (w := w) (base := base) T G_Log_begin G_Log_drop G_Log_settle G_Log_write
  have G__law_stands := ok__law_stands (P := l.prog) (w := w) (base := base) T G_Log_layers G_Log_own G_Log_wrote G__law_alike G__law_own
  have G_law := ok_law (P := l.prog) (w := w) (base := base) T G_Log___init__ G_Log_saw G_Log_wrote G__law_cell_at G__law_done G__law_mixed G__law_stands
  exact G_law.imp law_sp
theorem walk {l : PySem.W.OpenLaw} {q : Program} {loose : List Str} {XP : (Str → Option Value) → Heap → Prop} {YP : World → Heap → Prop} {d : DefRec} {K : Params → PySem.W.Frag} (hn : l.most = some 63) (hdf : d.params.defaults = [])
    (hY : ∀ (w : World) (h : Heap), YP w h → (K w.params).In h)
    (F : ∀ (w : World) (mg : Str → Option Value) (fa : Addr) (h : Heap), (K w.params).In h → h.Ns mainGlobals mg → mg d.name = some (.ref fa) →
      ∃ fd : FuncData, (∀ (s : Shared) (u : Value), BindsTo s fd ⟨[u], []⟩ [("_law_script", u)]) ∧ ∀ base : Heap, (K w.params).In base → base.Ns mainGlobals mg → FnOk l.prog w (K w.params) mg base CX0 9 fa fd ["_law_script"] (spLaw (K w.params))) :
    PySem.W.WalkO q loose XP YP l.row.toRowW d [] (fun f vs => PySem.call f vs) :=
  L2.walk_of (n := 63) (k := 9) (x := "_law_script") (CX := fun _ => CX0) (sp := fun w => spLaw (K w.params)) hn (by decide) hdf ⟨rfl, by decide, by decide⟩ hY F (fun _ _ a ns hl _ hS => ⟨a, ns, rfl, hS, hl, fun _ => rfl⟩) fun _ _ _ _ _ z => z
end My
def PySem.W.Fast.tw10397855245985567625 : Unit := ()
def PySem.W.Fast.tw11923697850652944411 : Unit := ()
def PySem.W.Fast.tw9109614467405054670 : Unit := ()
def PySem.W.Fast.tw1537049550482551204 : Unit := ()
def PySem.W.Fast.tw16419696976726689767 : Unit := ()
def PySem.W.Fast.tw2167799047118216899 : Unit := ()
def PySem.W.Fast.tw11516200077658473891 : Unit := ()
def PySem.W.Fast.tw11469603223764859515 : Unit := ()
def PySem.W.Fast.tw4816566949220740639 : Unit := ()
def PySem.W.Fast.tw9901095364113499422 : Unit := ()
def PySem.W.Fast.tw5016023093221900941 : Unit := ()
def PySem.W.Fast.tw1481548095385286736 : Unit := ()
def PySem.W.Fast.tw11727316872781645771 : Unit := ()
def PySem.W.Fast.tw12495017979930682018 : Unit := ()
def PySem.W.Fast.tw13135553621650098276 : Unit := ()
def PySem.W.Fast.tw8609735803360087560 : Unit := ()
def PySem.W.Fast.tw9517061843670443958 : Unit := ()
def PySem.W.Fast.tw6355355179846893963 : Unit := ()
def PySem.W.Fast.tw8372991476431185403 : Unit := ()
def PySem.W.Fast.tw10323904560488080649 : Unit := ()
def PySem.W.Fast.tw16605956255185759303 : Unit := ()
def PySem.W.Fast.tw4047345582435252229 : Unit := ()
def PySem.W.Fast.tw13458299554149283020 : Unit := ()
def PySem.W.Fast.tw11903640428372492482 : Unit := ()
def PySem.W.Fast.tw16090741936368320157 : Unit := ()
def PySem.W.Fast.tw15390273919819274644 : Unit := ()
def PySem.W.Fast.tw7994492892214051449 : Unit := ()
def PySem.W.Fast.tw2070698072970169072 : Unit := ()
def PySem.W.Fast.tw18057740165503046973 : Unit := ()
def PySem.W.Fast.tw1653263337749223433 : Unit := ()
def PySem.W.Fast.tw7361290251369605697 : Unit := ()
def PySem.W.Fast.tw6529817054183692319 : Unit := ()
def PySem.W.Fast.tw5065549160216274250 : Unit := ()
def PySem.W.Fast.tw8927450787456592908 : Unit := ()
def PySem.W.Fast.tw11708818599556119580 : Unit := ()
def PySem.W.Fast.tw14639881398160101168 : Unit := ()
def PySem.W.Fast.tw12962459893875014555 : Unit := ()
def PySem.W.Fast.tw17252013934792175644 : Unit := ()
def PySem.W.Fast.tw2272859816196772025 : Unit := ()
def PySem.W.Fast.tw3691776948245723868 : Unit := ()
def PySem.W.Fast.tw9956943041760518804 : Unit := ()
def PySem.W.Fast.tw7993371233215122388 : Unit := ()
def PySem.W.Fast.tw11231197030213121437 : Unit := ()
def PySem.W.Fast.tw6482603623840432372 : Unit := ()
def PySem.W.Fast.tw15953419266753059637 : Unit := ()
def PySem.W.Fast.tw16815075947888800383 : Unit := ()
def PySem.W.Fast.tw14534740046654663692 : Unit := ()
def PySem.W.Fast.tw3705978038315085401 : Unit := ()
def PySem.W.Fast.tw9036162894802445355 : Unit := ()
def PySem.W.Fast.tw3238682197796844192 : Unit := ()
def PySem.W.Fast.tw2323724610771969964 : Unit := ()
def PySem.W.Fast.tw5392236401967910118 : Unit := ()
def PySem.W.Fast.tw5585633920646795749 : Unit := ()
def PySem.W.Fast.tw16683851719237345749 : Unit := ()
def PySem.W.Fast.tw10600835817401587001 : Unit := ()
def PySem.W.Fast.tw9133765046147944896 : Unit := ()
def PySem.W.Fast.tw9462987469406921997 : Unit := ()
def PySem.W.Fast.tw15428831203620706138 : Unit := ()
def PySem.W.Fast.tw10848311732759272699 : Unit := ()
def PySem.W.Fast.tw1470813205956741877 : Unit := ()
def PySem.W.Fast.tw3632323807225488278 : Unit := ()
def PySem.W.Fast.tw11253030588860047700 : Unit := ()
def PySem.W.Fast.tw5057955402609045504 : Unit := ()
def PySem.W.Fast.tw791942895750953263 : Unit := ()
def PySem.W.Fast.tw3033634400565683016 : Unit := ()
def PySem.W.Fast.tw4663368407605300067 : Unit := ()
def PySem.W.Fast.tw17883823940404991396 : Unit := ()
def PySem.W.Fast.tw10937513137427782663 : Unit := ()
def PySem.W.Fast.tw5350356521261113376 : Unit := ()
def PySem.W.Fast.tw8177467646964108784 : Unit := ()
def PySem.W.Fast.tw2567836361661774582 : Unit := ()
def PySem.W.Fast.tw751567048066892959 : Unit := ()
def PySem.W.Fast.tw10939337690827652854 : Unit := ()
def PySem.W.Fast.tw4137634550893129048 : Unit := ()
def PySem.W.Fast.tw16323302479529245994 : Unit := ()
def PySem.W.Fast.tw3036393870522394107 : Unit := ()
def PySem.W.Fast.tw6300450922078595185 : Unit := ()
def PySem.W.Fast.tw7750810285908594476 : Unit := ()
def PySem.W.Fast.tw13198273461744700017 : Unit := ()
def PySem.W.Fast.tw16732592053640051663 : Unit := ()
def PySem.W.Fast.tw3769005649655598273 : Unit := ()
def PySem.W.Fast.tw13024996911329615149 : Unit := ()
def PySem.W.Fast.tw10658251908409511731 : Unit := ()
def PySem.W.Fast.tw10643290427370616252 : Unit := ()
def PySem.W.Fast.tw6293189063005051295 : Unit := ()
def PySem.W.Fast.tw14141690589062189892 : Unit := ()
def PySem.W.Fast.tw1461896068730431961 : Unit := ()
def PySem.W.Fast.tw16673161112464369518 : Unit := ()
def PySem.W.Fast.tw17728868111518409097 : Unit := ()
def PySem.W.Fast.tw5020243926713991123 : Unit := ()
def PySem.W.Fast.tw6567977879530274271 : Unit := ()
def PySem.W.Fast.tw4275743782874450495 : Unit := ()
def PySem.W.Fast.tw17040397984020749067 : Unit := ()
def PySem.W.Fast.tw187487678182145121 : Unit := ()
def PySem.W.Fast.tw3456271774860163677 : Unit := ()
def PySem.W.Fast.tw6359326985336214167 : Unit := ()
def PySem.W.Fast.tw9593970315845058741 : Unit := ()
def PySem.W.Fast.tw13100722368586616679 : Unit := ()
def PySem.W.Fast.tw16433229604436453961 : Unit := ()
def PySem.W.Fast.tw13447599941713251214 : Unit := ()
def PySem.W.Fast.tw1319440476277814577 : Unit := ()
def PySem.W.Fast.tw82859704390174037 : Unit := ()
def PySem.W.Fast.tw13118854998547803037 : Unit := ()
def PySem.W.Fast.tw5179288754510160243 : Unit := ()
def PySem.W.Fast.tw8184557561746622137 : Unit := ()
def PySem.W.Fast.tw17807839456337599922 : Unit := ()
def PySem.W.Fast.tw5528912063200006545 : Unit := ()
def PySem.W.Fast.tw17587834759844634842 : Unit := ()
def PySem.W.Fast.tw3981446059475748167 : Unit := ()
def PySem.W.Fast.tw11762114210058982732 : Unit := ()
def PySem.W.Fast.tw10777106860159733967 : Unit := ()
def PySem.W.Fast.tw17943583029724407697 : Unit := ()
def PySem.W.Fast.tw17030499800021674330 : Unit := ()
def PySem.W.Fast.tw2202778085747319768 : Unit := ()
def PySem.W.Fast.tw6437383264373024779 : Unit := ()
def PySem.W.Fast.tw9967130479795912730 : Unit := ()
def PySem.W.Fast.tw6773470463565395246 : Unit := ()
def PySem.W.Fast.tw9671065226873165251 : Unit := ()
def PySem.W.Fast.tw4234653296079356950 : Unit := ()
def PySem.W.Fast.tw2118581121362211029 : Unit := ()
def PySem.W.Fast.tw18060249678947967658 : Unit := ()
def PySem.W.Fast.tw2788238862947656602 : Unit := ()
def PySem.W.Fast.tw6392281343994600977 : Unit := ()
def PySem.W.Fast.tw16833213652774370570 : Unit := ()
def PySem.W.Fast.tw14891446188260958258 : Unit := ()
def PySem.W.Fast.tw15965926961052342582 : Unit := ()
def PySem.W.Fast.tw56547373034787261 : Unit := ()
def PySem.W.Fast.tw7913073837394654260 : Unit := ()
def PySem.W.Fast.tw107209566735201799 : Unit := ()
def PySem.W.Fast.tw5157847816816325361 : Unit := ()
def PySem.W.Fast.tw659384268870530671 : Unit := ()
def PySem.W.Fast.tw5683423571678880833 : Unit := ()
def PySem.W.Fast.tw14459466024909804284 : Unit := ()
def PySem.W.Fast.tw18010342134418262804 : Unit := ()
def PySem.W.Fast.tw9152323909310451548 : Unit := ()
def PySem.W.Fast.tw7524836773231929517 : Unit := ()
def PySem.W.Fast.tw16392180564961538666 : Unit := ()
def PySem.W.Fast.tw8835254294266262818 : Unit := ()
def PySem.W.Fast.tw4425746369989043596 : Unit := ()
open PySem PySem.W PyProof.Rows
set_option maxRecDepth 100000 in
set_option maxHeartbeats 0 in
theorem PySem.Challenge.cw_retryhall_k14_log_layers_holds : PySem.Challenge.rw_retryhall_k14_log_layers.Holds := by
  w_on; o_law; k_head; (case hw => w_witness2)
  k_fill
  refine My.walk (l := PySem.Challenge.rw_retryhall_k14_log_layers) rfl rfl (fun w h Y => PySem.W.kIn_of Y) ?F
  case F =>
    intro w mg fa h KX G hmg
    refine' My.all_mk KX G hmg ?nCLog ?fi_Log___init__ ?fs_Log_write ?fs_Log_own ?fs_Log_begin ?fs_Log_settle ?fs_Log_drop ?fs_Log_layers ?fs_Log_saw ?fs_Log_wrote ?i1 ?l1 ?c1 ?k1 ?i2 ?l2 ?c2 ?k2 ?i3 ?l3 ?c3 ?k3 ?i4 ?l4 ?c4 ?k4 ?i5 ?l5 ?c5 ?k5 ?i6 ?l6 ?c6 ?k6 ?i7 ?l7 ?c7 ?k7 ?i8 ?l8 ?c8 ?k8 ?i9 ?l9 ?c9 ?k9 ?a10 ?l10 ?c10 ?k10 ?a11 ?l11 ?c11 ?k11 ?a12 ?l12 ?c12 ?k12 ?a13 ?l13 ?c13 ?k13 ?a14 ?l14 ?c14 ?k14 ?a15 ?l15 ?c15 ?k15 ?a16 ?l16 ?c16 ?k16 ?pgLog ?hdLog ?poLog ?saLog ?mkLog ?kcLog ?naLog_stack ?naLog_last_seen ?z1 ?z2 ?z3 ?z4 ?z5 ?z6 ?z7 ?z8 ?z9 ?z10
    (case nCLog => k_is)
    (case fi_Log___init__ => k_is)
    (case fs_Log_write => k_is)
    (case fs_Log_own => k_is)
    (case fs_Log_begin => k_is)
    (case fs_Log_settle => k_is)
    (case fs_Log_drop => k_is)
    (case fs_Log_layers => k_is)
    (case fs_Log_saw => k_is)
    (case fs_Log_wrote => k_is)
    (case i1 => k_is)
    (case l1 => k_is)
    (case c1 => k_is)
    (case k1 => k_is)
    (case i2 => k_is)
    (case l2 => k_is)
    (case c2 => k_is)
    (case k2 => k_is)
    (case i3 => k_is)
    (case l3 => k_is)
    (case c3 => k_is)
    (case k3 => k_is)
    (case i4 => k_is)
    (case l4 => k_is)
    (case c4 => k_is)
    (case k4 => k_is)
    (case i5 => k_is)
    (case l5 => k_is)
    (case c5 => k_is)
    (case k5 => k_is)
    (case i6 => k_is)
    (case l6 => k_is)
    (case c6 => k_is)
    (case k6 => k_is)
    (case i7 => k_is)
    (case l7 => k_is)
    (case c7 => k_is)
    (case k7 => k_is)
    (case i8 => k_is)
    (case l8 => k_is)
    (case c8 => k_is)
    (case k8 => k_is)
    (case i9 => k_is)
    (case l9 => k_is)
    (case c9 => k_is)
    (case k9 => k_is)
    (case a10 => k_is)
    (case l10 => k_is)
    (case c10 => k_is)
    (case k10 => k_is)
    (case a11 => k_is)
    (case l11 => k_is)
    (case c11 => k_is)
    (case k11 => k_is)
    (case a12 => k_is)
    (case l12 => k_is)
    (case c12 => k_is)
    (case k12 => k_is)
    (case a13 => k_is)
    (case l13 => k_is)
    (case c13 => k_is)
    (case k13 => k_is)
    (case a14 => k_is)
    (case l14 => k_is)
    (case c14 => k_is)
    (case k14 => k_is)
    (case a15 => k_is)
    (case l15 => k_is)
    (case c15 => k_is)
    (case k15 => k_is)
    (case a16 => k_is)
    (case l16 => k_is)
    (case c16 => k_is)
    (case k16 => k_is)
    (case pgLog => k_is)
    (case hdLog => k_is)
    (case poLog => k_is)
    (case saLog => k_is)
    (case mkLog => k_is)
    (case kcLog => k_is)
    (case naLog_stack => k_is)
    (case naLog_last_seen => k_is)
    (case z1 => k_is)
    (case z2 => k_is)
    (case z3 => k_is)
    (case z4 => k_is)
    (case z5 => k_is)
    (case z6 => k_is)
    (case z7 => k_is)
    (case z8 => k_is)
    (case z9 => k_is)
    (case z10 => k_is)

