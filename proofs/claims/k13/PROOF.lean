import PyProof.Rows.All
import Wide.All
import OpenK.AllK
import Wide.FinOn
import Lean
import PyProof.EqAt
import PyProof.EqKinds
import PyProof.TupleCall
import PySem.Challenge.RW_retryhall_k13_whole_rows_forward
set_option Elab.async false
set_option linter.all false
set_option maxRecDepth 100000
set_option maxHeartbeats 4000000
/-! THE HAND LAYER, for ints, bools, texts, own classes, LISTS and tuples (index, slices, in, append, pop ..), calls, loops. Paste it whole ahead of your own text; what your proof does not reach may be deleted. -/
namespace L2
open PySem PySem.Spec PyProof.Rows

/-- a key: an int or a str -/
abbrev Key := Sum Int Str
def keyIs : Key → Value → Bool
  | .inl k, v => Value.isInt k v
  | .inr x, v => Value.isStrOf x v
def keyH (w : World) : Key → Int
  | .inl k => hashInt k
  | .inr x => hashStr w x
theorem keyIs_shape : ∀ {k : Key} {v : Value}, keyIs k v = true → (∃ i t, k = Sum.inl i ∧ v = Value.int i t) ∨ (∃ x t, k = Sum.inr x ∧ v = Value.str x t)
  | .inl i, v, h => by
    obtain ⟨t, e⟩ := Value.isInt_shape (k := i) (v := v) h
    exact .inl ⟨i, t, rfl, e⟩
  | .inr x, v, h => by
    obtain ⟨t, e⟩ := Value.isStrOf_shape (x := x) (v := v) h
    exact .inr ⟨x, t, rfl, e⟩
theorem key_ll (a b : Int) : decide ((Sum.inl a : Key) = Sum.inl b) = (a == b) := by
  by_cases e : a = b
  · subst e; simp
  · have h : ¬ (Sum.inl a : Key) = Sum.inl b := fun q => e (Sum.inl.inj q)
    rw [decide_eq_false h]
    exact (beq_eq_false_iff_ne.mpr e).symm
theorem key_rr (a b : Str) : decide ((Sum.inr a : Key) = Sum.inr b) = decide (a = b) := by
  by_cases e : a = b
  · subst e; simp
  · have h : ¬ (Sum.inr a : Key) = Sum.inr b := fun q => e (Sum.inr.inj q)
    rw [decide_eq_false h, decide_eq_false e]
theorem key_lr (a : Int) (b : Str) : decide ((Sum.inl a : Key) = Sum.inr b) = false := decide_eq_false (fun q => nomatch q)
theorem key_rl (a : Str) (b : Int) : decide ((Sum.inr a : Key) = Sum.inl b) = false := decide_eq_false (fun q => nomatch q)

def mixKind (prog : Program) (w : World) : PySem.KeyKind prog w Key where
  is := keyIs
  hash := keyH w
  inj := fun v a b ha hb => by
    rcases keyIs_shape ha with ⟨i, t, rfl, rfl⟩ | ⟨x, t, rfl, rfl⟩
    · rcases keyIs_shape hb with ⟨j, u, rfl, e⟩ | ⟨y, u, rfl, e⟩
      · injection e with e1 _; rw [e1]
      · exact nomatch e
    · rcases keyIs_shape hb with ⟨j, u, rfl, e⟩ | ⟨y, u, rfl, e⟩
      · exact nomatch e
      · injection e with e1 _; rw [e1]
  byValue := fun k v h => by
    rcases keyIs_shape h with ⟨i, t, rfl, rfl⟩ | ⟨x, t, rfl, rfl⟩ <;> rfl
  pyHash := fun hv h => by
    rcases keyIs_shape hv with ⟨i, t, rfl, rfl⟩ | ⟨x, t, rfl, rfl⟩
    · exact wpAny_pyHash_int h
    · exact wpAny_pyHash_str h
  eqBool := fun hu hv h => by
    rcases keyIs_shape hu with ⟨i, t, rfl, rfl⟩ | ⟨x, t, rfl, rfl⟩
    · rcases keyIs_shape hv with ⟨j, u, rfl, rfl⟩ | ⟨y, u, rfl, rfl⟩
      · rw [key_ll] at h; exact wpAny_eqBool_int h
      · rw [key_lr] at h; exact SeqAt.EqAt.int_str i t y u _ _ _ _ h
    · rcases keyIs_shape hv with ⟨j, u, rfl, rfl⟩ | ⟨y, u, rfl, rfl⟩
      · rw [key_rl] at h; exact SeqAt.EqAt.str_int x t j u _ _ _ _ h
      · rw [key_rr] at h; exact wpAny_eqBool_str h
  «strs» := fun k x t v h => by
    rcases keyIs_shape h with ⟨i, u, rfl, e⟩ | ⟨y, u, rfl, e⟩
    · exact nomatch e
    · injection e with e1 _
      subst e1
      cases v <;> rfl

end L2

namespace L2
open PySem PySem.Spec PyProof.Rows

/-- a value, without the heap -/
inductive V where
  | non | bl (b : Bool) | int (i : Int) | str (x : Str) | byt (b : Array UInt8) | flt (b : UInt64) | ref (a : Addr) | ty (n : String)
  deriving DecidableEq

def RelV : V → Value → Prop
  | .non, u => u = Value.none
  | .bl b, u => u = Value.bool b
  | .int i, u => ∃ t, u = Value.int i t
  | .str x, u => ∃ t, u = Value.str x t
  | .byt b, u => ∃ t, u = Value.bytes b t
  | .flt b, u => ∃ t, u = Value.float b t
  | .ref a, u => u = Value.ref a
  | .ty n, u => u = Value.type n

abbrev Vals : List V → List Value → Prop := Paired RelV
theorem Vals.length {xs : List V} {us : List Value} (r : Vals xs us) : xs.length = us.length := Paired.length r
theorem Vals.get : ∀ {xs : List V} {us : List Value} {i : Nat} {x : V}, Vals xs us → xs[i]? = some x → ∃ u, us[i]? = some u ∧ RelV x u
  | _, _, _, _, .nil, e => by simp at e
  | _, _, 0, _, .cons r _, e => by simp at e; subst e; exact ⟨_, rfl, r⟩
  | _, _, i + 1, x, .cons _ t, e => by
    obtain ⟨u, h1, h2⟩ := Vals.get (i := i) (x := x) t (by simpa using e)
    exact ⟨u, by simpa using h1, h2⟩
theorem Vals.set {x : V} {u : Value} (r : RelV x u) : ∀ {xs : List V} {us : List Value} (i : Nat), Vals xs us → Vals (xs.set i x) (us.set i u)
  | _, _, _, .nil => .nil
  | _, _, 0, .cons _ t => .cons r t
  | _, _, i + 1, .cons q t => .cons q (Vals.set r i t)
theorem Vals.append : ∀ {xs ys : List V} {us ws : List Value}, Vals xs us → Vals ys ws → Vals (xs ++ ys) (us ++ ws)
  | _, _, _, _, .nil, s => s
  | _, _, _, _, .cons r t, s => .cons r (Vals.append t s)
theorem Vals.take : ∀ {xs : List V} {us : List Value} (n : Nat), Vals xs us → Vals (xs.take n) (us.take n)
  | _, _, 0, _ => .nil
  | _, _, _ + 1, .nil => .nil
  | _, _, n + 1, .cons r t => .cons r (Vals.take n t)
theorem Vals.drop : ∀ {xs : List V} {us : List Value} (n : Nat), Vals xs us → Vals (xs.drop n) (us.drop n)
  | _, _, 0, r => r
  | _, _, _ + 1, .nil => .nil
  | _, _, n + 1, .cons _ t => Vals.drop n t
theorem Vals.none_of : ∀ {xs : List V} {us : List Value} {i : Nat}, Vals xs us → xs[i]? = none → us[i]? = none := fun {xs us i} r e => by
  have h1 := r.length
  have h2 : xs.length ≤ i := List.getElem?_eq_none_iff.mp e
  exact List.getElem?_eq_none_iff.mpr (by omega)

def RelO : Option V → Option Value → Prop
  | some v, some u => RelV v u
  | none, none => True
  | _, _ => False
def KV {κ : Type} : List (κ × V) → List (κ × Value) → Prop := Paired fun (p : κ × V) (q : κ × Value) => p.1 = q.1 ∧ RelV p.2 q.2

/-- a key of a dict (00_mix): an int or a text -/
def kV : Key → V
  | .inl i => .int i
  | .inr x => .str x

/-- what stands at a tracked address -/
inductive HO where
  /-- a list -/
  | lst (xs : List V)
  /-- a tuple (never changes) -/
  | tup (xs : List V)
  /-- a dict whose keys are ints and texts; one whose keys are tuples of ints and texts (the empty one is both) -/
  | dK (kvs : List (Key × V)) | dT (kvs : List (List Key × V))
  /-- a set of ints: its members, its size -/
  | set (S : Int → Bool) (n : Nat)
  /-- an instance of the class at C, its dict at dx, its attributes -/
  | ins (C dx : Addr) (fs : List (Str × V))
  /-- the dict of the instance at x -/
  | own (x : Addr)
  /-- the dict of an exception -/
  | xd (fs : List (Str × V))
  /-- a bound method, f of x -/
  | met (f x : Addr)
  /-- a range object lo, lo + 1, .. below hi -/
  | rng (lo hi : Int)
  /-- a thing that is known to the object (the script; a dict while a loop walks it): read, never written while it is so -/
  | frz (o : Obj) (u : HO)
  /-- a code object's table -/
  | tbl (ps : Array Value)
  /-- any other thing, by what is true of its one object (a def of one's own: SetO a S n := HO.ext fun h => ..) -/
  | ext (φ : Heap → Prop)

abbrev Hp := Addr → Option HO
def upd (H : Hp) (a : Addr) (o : HO) : Hp := fun b => if b = a then some o else H b
theorem upd_same {H : Hp} {a : Addr} {o : HO} : upd H a o a = some o := by unfold upd; rw [if_pos rfl]
theorem upd_ne {H : Hp} {a b : Addr} {o : HO} (h : b ≠ a) : upd H a o b = H b := by unfold upd; rw [if_neg h]
theorem ne_of_none {H : Hp} {a b : Addr} {o : HO} (h : H a = some o) (h' : H b = none) : a ≠ b := by
  intro e; subst e; rw [h] at h'; cases h'

section
variable (P : Program) (w : World)
def ObjOk (H : Hp) (h : Heap) (a : Addr) : HO → Prop
  | .lst xs => xs.length ≤ sizeLine ∧ ∃ (its : List Value) (n : Nat), Vals xs its ∧ h.get? a = some { cls := .type "list", data := .seq its.toArray n }
  | .tup xs => xs.length ≤ sizeLine ∧ ∃ its : List Value, Vals xs its ∧ IsTup h a its.toArray
  | .dK kvs => kvs.length ≤ sizeLine ∧ (a == sysModules) = false ∧ ∃ vs, KV kvs vs ∧ h.DictOf (mixKind P w) a vs
  | .dT kvs => kvs.length ≤ sizeLine ∧ (a == sysModules) = false ∧ ∃ xs : List (List Key × Addr × Value),
      Paired (fun (p : List Key × V) (q : List Key × Addr × Value) => p.1 = q.1 ∧ H q.2.1 = some (.tup (p.1.map kV)) ∧ RelV p.2 q.2.2) kvs xs ∧
      ∃ o es ep, h.get? a = some o ∧ o.ExactDict ∧ o.data = .dict es ep ∧ es.toList = xs.map (entryOfKey (tupleKind (mixKind P w))) ∧ (xs.map (·.1)).Nodup
  | .set S n => h.SetOf (intKind P w) a S n
  | .ins C dx fs => H dx = some (.own a) ∧ fs.length ≤ 1000 ∧ dx ≠ a ∧ h.get? a = some (PySem.W.instObj C dx) ∧
      ∃ mA, h.Ns1 dx mA ∧ (∀ f, RelO (fs.lookup f) (mA f)) ∧ PySem.Within mA (fs.map (·.1))
  | .own _ => ∃ o, h.get? a = some o
  | .xd fs => ∃ mA, h.Ns1 a mA ∧ ∀ f, RelO (fs.lookup f) (mA f)
  | .rng lo hi => ∃ t u v, h.get? a = some { cls := .type "range", data := .fields #[.int lo t, .int hi u, .int 1 v] }
  | .frz o u => h.get? a = some o ∧ ObjOk H h a u
  | .tbl ps => h.get? a = some { cls := .none, data := .fields ps }
  | .met f x => h.get? a = some (PySem.W.methodObj (.ref f) (.ref x))
  | .ext φ => φ h ∧ (∃ o, h.get? a = some o) ∧ ∀ h1 h2 : Heap, φ h1 → (∀ o, h1.get? a = some o → h2.get? a = some o) → φ h2
/-- the abstract heap is held -/
def HOk (H : Hp) (h : Heap) : Prop := ∀ a o, H a = some o → ObjOk P w H h a o
end

section
variable {P : Program} {w : World} {H H' : Hp} {h h' : Heap} {a : Addr} {o : HO}
theorem ObjOk.lt (x : ObjOk P w H h a o) : a < h.objs.size := by
  cases o with
  | lst xs => obtain ⟨_, _, _, _, e⟩ := x; exact Heap.lt_size e
  | tup xs => obtain ⟨_, _, _, p⟩ := x; exact p.lt
  | dK kvs => obtain ⟨_, _, _, _, o, _, _, e, _⟩ := x; exact Heap.lt_size e
  | dT kvs => obtain ⟨_, _, _, _, o, _, _, e, _⟩ := x; exact Heap.lt_size e
  | set S n => obtain ⟨o, _, _, _, e, _⟩ := x; exact Heap.lt_size e
  | ins C dx fs => obtain ⟨_, _, _, e, _⟩ := x; exact Heap.lt_size e
  | own y => obtain ⟨_, e⟩ := x; exact Heap.lt_size e
  | xd fs => obtain ⟨_, ⟨_, _, _, e, _⟩, _⟩ := x; exact Heap.lt_size e
  | rng lo hi => obtain ⟨_, _, _, e⟩ := x; exact Heap.lt_size e
  | frz ob u => obtain ⟨e, _⟩ := x; exact Heap.lt_size e
  | tbl ps => exact Heap.lt_size (show h.get? a = some _ from x)
  | met f y => exact Heap.lt_size (show h.get? a = some _ from x)
  | ext φ => obtain ⟨_, ⟨_, e⟩, _⟩ := x; exact Heap.lt_size e
theorem Paired.mapP {α β : Type} {F G : α → β → Prop} : ∀ {l₁ : List α} {l₂ : List β}, Paired F l₁ l₂ → (∀ a b, F a b → G a b) → Paired G l₁ l₂
  | _, _, .nil, _ => .nil
  | _, _, .cons r t, f => .cons (f _ _ r) (Paired.mapP t f)
/-- what an object's description leans on: its own object, its own dict, the tuples -/
theorem ObjOk.stay (x : ObjOk P w H h a o) (k : ∀ b u, (b = a ∨ H b = some (.own a)) → h.get? b = some u → h'.get? b = some u)
    (ho : ∀ b, H b = some (.own a) → H' b = some (.own a)) (ht : ∀ b xs, H b = some (.tup xs) → H' b = some (.tup xs)) : ObjOk P w H' h' a o := by
  induction o with
  | lst xs => obtain ⟨z, its, n, r, e⟩ := x; exact ⟨z, its, n, r, k _ _ (.inl rfl) e⟩
  | tup xs => obtain ⟨z, its, r, ob, e, c⟩ := x; exact ⟨z, its, r, ob, k _ _ (.inl rfl) e, c⟩
  | dK kvs => obtain ⟨z, y, vs, r, ob, es, ep, e, c⟩ := x; exact ⟨z, y, vs, r, ob, es, ep, k _ _ (.inl rfl) e, c⟩
  | dT kvs =>
    obtain ⟨z, y, xs, r, ob, es, ep, e, c⟩ := x
    exact ⟨z, y, xs, Paired.mapP r fun p q z => ⟨z.1, ht _ _ z.2.1, z.2.2⟩, ob, es, ep, k _ _ (.inl rfl) e, c⟩
  | set S n => obtain ⟨ob, es, ep, t, e, c⟩ := x; exact ⟨ob, es, ep, t, k _ _ (.inl rfl) e, c⟩
  | ins C dx fs =>
    obtain ⟨d, z, ne, e, mA, ⟨od, es, ep, e2, c⟩, r⟩ := x
    exact ⟨ho _ d, z, ne, k _ _ (.inl rfl) e, mA, ⟨od, es, ep, k _ _ (.inr d) e2, c⟩, r⟩
  | own y => obtain ⟨ob, e⟩ := x; exact ⟨ob, k _ _ (.inl rfl) e⟩
  | xd fs => obtain ⟨mA, ⟨od, es, ep, e, c⟩, r⟩ := x; exact ⟨mA, ⟨od, es, ep, k _ _ (.inl rfl) e, c⟩, r⟩
  | rng lo hi => obtain ⟨t, u, v, e⟩ := x; exact ⟨t, u, v, k _ _ (.inl rfl) e⟩
  | frz ob u ih => obtain ⟨e, q⟩ := x; exact ⟨k _ _ (.inl rfl) e, ih q⟩
  | tbl ps =>
    have e : h.get? a = some { cls := .none, data := .fields ps } := x
    show h'.get? a = some { cls := .none, data := .fields ps }
    exact k a _ (.inl rfl) e
  | met f y =>
    have e : h.get? a = some (PySem.W.methodObj (.ref f) (.ref y)) := x
    show h'.get? a = some (PySem.W.methodObj (.ref f) (.ref y))
    exact k a _ (.inl rfl) e
  | ext φ => obtain ⟨p, ⟨o, e⟩, st⟩ := x; exact ⟨st _ _ p fun o q => k _ _ (.inl rfl) q, ⟨o, k _ _ (.inl rfl) e⟩, st⟩
theorem HOk.lt (x : HOk P w H h) (e : H a = some o) : a < h.objs.size := (x a o e).lt
theorem HOk.fresh (x : HOk P w H h) (e : h.objs.size ≤ a) : H a = none := by
  cases q : H a with
  | none => rfl
  | some u => exact absurd (Nat.lt_of_lt_of_le (x.lt q) e) (Nat.lt_irrefl _)
/-- every object of the heap is kept -/
theorem HOk.kept (x : HOk P w H h) (k : ∀ b u, h.get? b = some u → h'.get? b = some u) : HOk P w H h' := fun a o e =>
  (x a o e).stay (fun b u _ q => k b u q) (fun _ q => q) fun _ _ q => q
/-- a new object is laid and tracked -/
theorem HOk.laid (x : HOk P w H h) (k : ∀ b u, h.get? b = some u → h'.get? b = some u) (hp : h.objs.size ≤ a) (new : ObjOk P w (upd H a o) h' a o) : HOk P w (upd H a o) h' := fun b u e => by
  have hn := x.fresh hp
  by_cases hb : b = a
  · subst hb; rw [upd_same] at e; cases e; exact new
  · rw [upd_ne hb] at e
    exact (x b u e).stay (fun c v _ q => k c v q) (fun c q => by rw [upd_ne (ne_of_none q hn)]; exact q) fun c xs q => by rw [upd_ne (ne_of_none q hn)]; exact q
end

/-- what may be read as u: it is u, or a known u -/
def Rd (H : Hp) (a : Addr) (u : HO) : Prop := H a = some u ∨ ∃ o, H a = some (.frz o u)
theorem Rd.of {H : Hp} {a : Addr} {u : HO} (h : H a = some u) : Rd H a u := .inl h
theorem Rd.ok {P : Program} {w : World} {H : Hp} {h : Heap} {a : Addr} {u : HO} (r : Rd H a u) (x : HOk P w H h) : ObjOk P w H h a u := by
  rcases r with r | ⟨o, r⟩
  · exact x a u r
  · obtain ⟨_, q⟩ := x a _ r
    exact q
/-- what may be written -/
def Mut : Option HO → Prop
  | some (.lst _) => True
  | some (.dK _) => True
  | some (.dT _) => True
  | some (.set _ _) => True
  | some (.ins _ _ _) => True
  | some (.ext _) => True
  | _ => False
section
variable {P : Program} {w : World} {H : Hp} {h h' : Heap} {x e : Addr} {o' : HO}
/-- the object at e is changed: x itself, or the dict of the instance x -/
theorem HOk.write (ok : HOk P w H h) (mu : Mut (H x)) (he : e = x ∨ H e = some (.own x)) (k : ∀ b u, b ≠ e → h.get? b = some u → h'.get? b = some u) (heo : ∃ u, h'.get? e = some u)
    (new : ObjOk P w (upd H x o') h' x o') : HOk P w (upd H x o') h' := fun b u q => by
  have nown : ∀ c y, H c = some (.own y) → c ≠ x := fun c y r z => by subst z; rw [r] at mu; exact mu
  have ntup : ∀ c xs, H c = some (.tup xs) → c ≠ x := fun c xs r z => by subst z; rw [r] at mu; exact mu
  by_cases hb : b = x
  · subst hb; rw [upd_same] at q; cases q; exact new
  · rw [upd_ne hb] at q
    by_cases hbe : b = e
    · have q' : H b = some (.own x) := by
        rcases he with z | z
        · exact absurd (hbe.trans z) hb
        · rw [hbe]; exact z
      rw [q] at q'; cases q'
      obtain ⟨v, hv⟩ := heo
      exact ⟨v, by rw [hbe]; exact hv⟩
    · refine (ok b u q).stay (fun c v hc r => k c v ?_ r) (fun c r => by rw [upd_ne (nown c b r)]; exact r) fun c xs r => by rw [upd_ne (ntup c xs r)]; exact r
      rcases hc with rfl | hc
      · exact hbe
      · rintro rfl
        rcases he with z | z
        · exact nown c b hc z
        · rw [hc] at z; cases z; exact hb rfl
end

/-! ### kept unless tracked; of the frames at fs (the callers') the slots may change (an exception that passes writes there); of the records at ex (iterators) nothing is said -/
structure Un (fs ex : List Addr) (H H' : Hp) (h h' : Heap) : Prop where
  keep : ∀ b o, h.get? b = some o → H b = none → b ∉ fs → b ∉ ex → h'.get? b = some o
  slot : ∀ b o, h.get? b = some o → H b = none → b ∈ fs → b ∉ ex → ∃ sl, h'.get? b = some { o with slots := sl }
  free : ∀ b o, h.get? b = some o → H b = none → b ∉ ex → H' b = none
  there : ∀ b o, h.get? b = some o → b ∉ ex → ∃ o', h'.get? b = some o'
  tups : ∀ b xs, H b = some (.tup xs) → H' b = some (.tup xs)
  frzs : ∀ b o u, H b = some (.frz o u) → H' b = some (.frz o u)
  tbls : ∀ b ps, H b = some (.tbl ps) → ∃ more, H' b = some (.tbl (ps ++ more))
section
variable {fs fs' ex ex' : List Addr} {H H1 H2 : Hp} {h h1 h2 h' : Heap} {a x e : Addr} {o : HO}
theorem Un.any (u : Un fs ex H H1 h h1) {b : Addr} {ob : Obj} (q : h.get? b = some ob) (n : H b = none) (hx : b ∉ ex) : ∃ sl, h1.get? b = some { ob with slots := sl } := by
  by_cases hb : b ∈ fs
  · exact u.slot b ob q n hb hx
  · exact ⟨ob.slots, u.keep b ob q n hb hx⟩
theorem Un.trans (a : Un fs ex H H1 h h1) (b : Un fs ex H1 H2 h1 h2) : Un fs ex H H2 h h2 where
  keep := fun c ob q n hc hx => b.keep c ob (a.keep c ob q n hc hx) (a.free c ob q n hx) hc hx
  slot := fun c ob q n hc hx => by
    obtain ⟨sl, e1⟩ := a.slot c ob q n hc hx
    obtain ⟨sl', e2⟩ := b.slot c _ e1 (a.free c ob q n hx) hc hx
    exact ⟨sl', e2⟩
  free := fun c ob q n hx => by
    obtain ⟨o', e1⟩ := a.there c ob q hx
    exact b.free c o' e1 (a.free c ob q n hx) hx
  there := fun c ob q hx => by
    obtain ⟨o', e1⟩ := a.there c ob q hx
    exact b.there c o' e1 hx
  tups := fun c xs q => b.tups c xs (a.tups c xs q)
  frzs := fun c ob xs q => b.frzs c ob xs (a.frzs c ob xs q)
  tbls := fun c ps q => by
    obtain ⟨m1, e1⟩ := a.tbls c ps q
    obtain ⟨m2, e2⟩ := b.tbls c _ e1
    exact ⟨m1 ++ m2, by rw [e2, Array.append_assoc]⟩
theorem Un.kept (k : ∀ b u, h.get? b = some u → h'.get? b = some u) : Un fs ex H H h h' :=
  ⟨fun b ob q _ _ _ => k b ob q, fun b ob q _ _ _ => ⟨ob.slots, k b ob q⟩, fun _ _ _ n _ => n, fun b ob q _ => ⟨ob, k b ob q⟩, fun _ _ q => q, fun _ _ _ q => q, fun _ ps q => ⟨#[], by rw [q]; simp⟩⟩
theorem Un.refl : Un fs ex H H h h := Un.kept fun _ _ q => q
theorem Un.laid (k : ∀ b u, h.get? b = some u → h'.get? b = some u) (hp : h.objs.size ≤ a) (hn : H a = none) : Un fs ex H (upd H a o) h h' where
  keep := fun b u q _ _ _ => k b u q
  slot := fun b u q _ _ _ => ⟨u.slots, k b u q⟩
  free := fun b u q n _ => by rw [upd_ne (Nat.ne_of_lt (Nat.lt_of_lt_of_le (Heap.lt_size q) hp))]; exact n
  there := fun b u q _ => ⟨u, k b u q⟩
  tups := fun b xs q => by rw [upd_ne (ne_of_none q hn)]; exact q
  frzs := fun b u xs q => by rw [upd_ne (ne_of_none q hn)]; exact q
  tbls := fun b ps q => ⟨#[], by rw [upd_ne (ne_of_none q hn), q]; simp⟩
theorem Un.write (mu : Mut (H x)) (he : e = x ∨ H e = some (.own x)) (k : ∀ b u, b ≠ e → h.get? b = some u → h'.get? b = some u) (heo : ∃ u, h'.get? e = some u) : Un fs ex H (upd H x o) h h' := by
  have hx : ∀ b, H b = none → b ≠ x := fun b n z => by subst z; rw [n] at mu; exact mu
  have hb : ∀ b, H b = none → b ≠ e := fun b n z => by
    subst z
    rcases he with r | r
    · exact hx b n r
    · rw [n] at r; cases r
  have hm : ∀ b u, H b = some u → ¬ Mut (some u) → b ≠ x := fun b u q nm z => by subst z; rw [q] at mu; exact nm mu
  refine ⟨fun b u q n _ _ => k b u (hb b n) q, fun b u q n _ _ => ⟨u.slots, k b u (hb b n) q⟩, fun b u q n _ => by rw [upd_ne (hx b n)]; exact n, fun b u q _ => ?_,
    fun b xs q => by rw [upd_ne (hm b _ q fun z => z)]; exact q, fun b u xs q => by rw [upd_ne (hm b _ q fun z => z)]; exact q, fun b ps q => ⟨#[], by rw [upd_ne (hm b _ q fun z => z), q]; simp⟩⟩
  by_cases hbe : b = e
  · subst hbe; exact heo
  · exact ⟨u, k b u hbe q⟩
theorem Un.mono (u : Un fs ex H H1 h h1) (hs : ∀ b ∈ fs, b ∈ fs') (hx : ∀ b ∈ ex, b ∈ ex') : Un fs' ex' H H1 h h1 :=
  ⟨fun b ob q n hb he => u.keep b ob q n (fun z => hb (hs b z)) fun z => he (hx b z), fun _ _ q n _ he => u.any q n fun z => he (hx _ z), fun b ob q n he => u.free b ob q n fun z => he (hx b z), fun b ob q he => u.there b ob q fun z => he (hx b z), u.tups, u.frzs, u.tbls⟩
end

/-! ### the heap without what is tracked -/
def trk (h : Heap) (H : Hp) : List Addr := (List.range h.objs.size).filter fun a => (H a).isSome
def hidT (h : Heap) (H : Hp) : Heap := PySem.W.hideAll h (trk h H)
theorem hidT_size (h : Heap) (H : Hp) : (hidT h H).objs.size = h.objs.size := PySem.W.hideAll_size _ _
theorem hidT_get {h : Heap} {H : Hp} {b : Addr} {o : Obj} (e : h.get? b = some o) (n : H b = none) : (hidT h H).get? b = some o :=
  PySem.W.hideAll_get _ e fun hm => by
    have q : (H b).isSome = true := (List.mem_filter.mp hm).2
    rw [n] at q; simp at q
theorem of_hidT {h : Heap} {H : Hp} {b : Addr} {o : Obj} (e : (hidT h H).get? b = some o) : h.get? b = some o ∧ H b = none := by
  have e' : h.get? b = some o := PySem.W.of_hideAll (trk h H) e
  refine ⟨e', ?_⟩
  cases q : H b with
  | none => rfl
  | some x =>
    have hm : b ∈ trk h H := List.mem_filter.mpr ⟨List.mem_range.mpr (Heap.lt_size e'), by simp [q]⟩
    have z : (hidT h H).get? b = none := PySem.W.hideAll_none (trk h H) hm
    rw [z] at e; cases e

/-! ### OpenK's ledger, filled with every new object but one -/
def allNews (g h : Heap) (L : Addr) : List (Addr × Obj) := (List.range h.objs.size).filterMap fun a => if a = L ∨ (g.get? a).isSome = true then none else (h.get? a).map fun o => (a, o)
def rest (g h : Heap) (L d : Addr) : List (Addr × Obj) := (allNews g h L).filter fun p => decide (p.1 ≠ d)
end L2

namespace L2
open PySem PySem.Spec PyProof.Rows

/-- the module's facts, over the base: the heap at the law's entry without what is tracked there -/
structure Mod (K : PySem.W.Frag) (mg : Str → Option Value) (base : Heap) : Prop where
  kin : K.In base
  glob : base.Ns mainGlobals mg
  blt : ∃ mb, base.Ns builtinsNs mb ∧ ∀ x : Str, x ≠ "__name__" → mb x = bootBuiltins x
  nolimit : base.NoLimit

/-- the context: a def's body (or a comprehension's block) running. base: fixed through the whole law; s₀, H₀: the entry; outer: the frames whose slots others may change (a def's callers); stack: all frames that run;
   ex: iterators that were made ahead of the entry and are walked here (a comprehension's); fn: the names whose cells were made at the entry (a def: all; a comprehension's block: its own); calm: not within an except suite; pn: pins that every state bears; xe: what is wanted of an exception that leaves the code -/
structure Cx where
  prog : Program
  w : World
  K : PySem.W.Frag
  mg : Str → Option Value
  base : Heap
  A : Around
  N : List Str
  s₀ : Shared
  H₀ : Hp
  env : Env
  outer : List Env
  stack : List Env
  ex : List Addr
  fn : Str → Bool
  calm : Bool
  pn : List (Addr × Obj)
  xe : Value → Shared → Prop
/-- the callers' frames -/
def frs (l : List Env) : List Addr := l.filterMap (·.frame)
abbrev Cx.fs (X : Cx) : List Addr := frs X.outer

def Vis (sc : Scope) (x : Str) : Prop := sc.names.lookup x = some .local ∨ sc.names.lookup x = some .cell ∨ sc.names.lookup x = some .free
def Loc (sc : Scope) (x : Str) : Prop := sc.names.lookup x = some .local ∨ sc.names.lookup x = some .cell
def Look (env : Env) (h : Heap) (m : Str → Option Value) (x : Str) (u : Value) : Prop :=
  (env.kindOf x = some .local ∧ m x = some u) ∨ ((env.kindOf x = some .cell ∨ env.kindOf x = some .free) ∧ ∃ c, env.cells.lookup x = some c ∧ h.IsCell c (some u))

structure Cx.Ok (X : Cx) : Prop where
  mod : Mod X.K X.mg X.base
  kind : X.env.scope.kind = .function
  glob : X.env.globals = mainGlobals
  blt : X.env.builtins = builtinsNs
  above : X.s₀.heap.objs.size ≤ X.env.locals
  inj : ∀ x y c, X.env.cells.lookup x = some c → X.env.cells.lookup y = some c → x = y
  has : ∀ x, (X.env.kindOf x = some .cell ∨ X.env.kindOf x = some .free) → ∃ c, X.env.cells.lookup x = some c
  cab : ∀ x c, X.fn x = true → X.env.cells.lookup x = some c → X.s₀.heap.objs.size ≤ c
  hd : X.calm = true → X.A.handled = none
  frames : X.A.frames = some X.stack
  stk : X.stack = X.outer ∨ (X.stack = X.env :: X.outer ∧ X.env.frame = some X.env.locals)
  exf : ∀ b ∈ X.ex, b ≠ X.env.locals ∧ ∀ x c, X.env.cells.lookup x = some c → c ≠ b
  bs : ∀ b o, X.base.get? b = some o → X.s₀.heap.get? b = some o ∧ X.H₀ b = none
  bsz : X.base.objs.size ≤ X.s₀.heap.objs.size
  noex : ∀ b o, X.base.get? b = some o → b ∉ X.ex
  exfs : ∀ b ∈ X.ex, b ∉ X.fs
  funs : X.s₀.heap.FunFrames X.base X.outer
  frf : ∀ b ∈ X.fs, X.H₀ b = none

structure Inv (X : Cx) (pins : List (Addr × Obj)) (σ : List (Option V)) (H : Hp) (s : Shared) : Prop where
  ok : X.Ok
  os : s.os = X.s₀.os
  bare : AllBare s.gens
  base : Un X.fs X.ex X.H₀ H X.s₀.heap s.heap
  loc : ∃ m, s.heap.Ns X.env.locals m ∧ ∀ (i : Nat) (x : Str) (v : V), X.N[i]? = some x → σ[i]? = some (some v) → Vis X.env.scope x → ∃ u, RelV v u ∧ Look X.env s.heap m x u
  cell : ∀ x c, X.env.cells.lookup x = some c → ∃ v, s.heap.IsCell c v
  free : H X.env.locals = none
  freeC : ∀ x c, X.env.cells.lookup x = some c → H c = none
  pin : ∀ p ∈ X.pn ++ pins, s.heap.get? p.1 = some p.2 ∧ H p.1 = none ∧ p.1 ≠ X.env.locals ∧ p.1 ∉ X.fs ∧ ∀ v, p.2.data ≠ .cell v
  hok : HOk X.prog X.w H s.heap
  len : σ.length = X.N.length

section
variable {X : Cx} {pins : List (Addr × Obj)} {σ : List (Option V)} {H H' : Hp} {s : Shared} {h' : Heap}

theorem Cx.Ok.nofr (ok : X.Ok) {b : Addr} {o : Obj} (e : X.base.get? b = some o) : b ∉ X.fs := fun hb => by
  have := (ok.funs.mem hb).1
  rw [e] at this; cases this
theorem Inv.bs (I : Inv X pins σ H s) : ∀ b o, X.base.get? b = some o → s.heap.get? b = some o ∧ H b = none := fun b o e =>
  ⟨I.base.keep b o (I.ok.bs b o e).1 (I.ok.bs b o e).2 (I.ok.nofr e) (I.ok.noex b o e), I.base.free b o (I.ok.bs b o e).1 (I.ok.bs b o e).2 (I.ok.noex b o e)⟩
theorem Inv.bk (I : Inv X pins σ H s) : ∀ b o, X.base.get? b = some o → s.heap.get? b = some o := fun b o e => (I.bs b o e).1
theorem Inv.mod (I : Inv X pins σ H s) : Mod X.K X.mg X.base := I.ok.mod
theorem Inv.kIn (I : Inv X pins σ H s) : X.K.In s.heap := I.ok.mod.kin.keeps I.bk
theorem Inv.nolimit (I : Inv X pins σ H s) : s.heap.NoLimit := I.ok.mod.nolimit.keeps I.bk
/-- the frame over the base: for OpenK's rules (K.In X.base is I.mod.kin) -/
theorem Inv.fr (I : Inv X pins σ H s) : ∃ m, Fr X.base X.env.locals s.heap m :=
  let ⟨m, hn, _⟩ := I.loc
  ⟨m, hn, I.bk, Nat.le_trans I.ok.bsz I.ok.above⟩
theorem Inv.lt (I : Inv X pins σ H s) : X.env.locals < s.heap.objs.size := let ⟨_, hn, _⟩ := I.loc; hn.lt
theorem Inv.sz (I : Inv X pins σ H s) : X.s₀.heap.objs.size ≤ s.heap.objs.size := Nat.le_trans I.ok.above (Nat.le_of_lt I.lt)
theorem Inv.nofs (I : Inv X pins σ H s) {a : Addr} (h : s.heap.objs.size ≤ a) : a ∉ X.fs := fun hb => by
  obtain ⟨_, o, ho, _⟩ := I.ok.funs.mem hb
  exact absurd (Nat.lt_of_lt_of_le (Heap.lt_size ho) (Nat.le_trans I.sz h)) (Nat.lt_irrefl _)
theorem Inv.cne (I : Inv X pins σ H s) : ∀ x c, X.env.cells.lookup x = some c → c ≠ X.env.locals := fun x c e z => by
  obtain ⟨v, o, ho, hd⟩ := I.cell x c e
  obtain ⟨m, ⟨o', es, ep, ho', hd', _⟩, _⟩ := I.loc
  rw [z, ho'] at ho; cases ho; rw [hd'] at hd; cases hd
theorem Inv.funs (I : Inv X pins σ H s) : s.heap.FunFrames X.base X.outer := by
  have all : ∀ (l : List Env), (∀ b ∈ frs l, b ∈ X.fs) → X.s₀.heap.FunFrames X.base l → s.heap.FunFrames X.base l := by
    intro l
    induction l with
    | nil => intro _ _; trivial
    | cons env r ih =>
      intro hs hl
      obtain ⟨hk, ⟨L, o, hf, hn, ho, hd⟩, hr⟩ := hl
      have hL : L ∈ X.fs := hs L (by unfold frs; rw [List.filterMap_cons, hf]; exact List.mem_cons_self)
      obtain ⟨sl, e⟩ := I.base.slot L o ho (I.ok.frf L hL) hL fun z => I.ok.exfs L z hL
      exact ⟨hk, ⟨L, _, hf, hn, e, hd⟩, ih (fun b hb => hs b (by unfold frs; rw [List.filterMap_cons, hf]; exact List.mem_cons_of_mem _ hb)) hr⟩
  exact all X.outer (fun _ hb => hb) I.ok.funs

/-- the frames that run, for a call -/
theorem Inv.stack (I : Inv X pins σ H s) : s.heap.FunFrames X.base X.stack := by
  rcases I.ok.stk with e | ⟨e, hf⟩
  · rw [e]; exact I.funs
  · rw [e]
    obtain ⟨m, hn, _⟩ := I.loc
    refine .cons (by rw [I.ok.kind]; decide) hf hn ?_ I.funs
    exact Heap.get?_none_of_le (Nat.le_trans I.ok.bsz I.ok.above)
theorem Inv.stkSub (I : Inv X pins σ H s) : ∀ b ∈ frs X.stack, b ∈ X.env.locals :: X.fs := fun b hb => by
  rcases I.ok.stk with e | ⟨e, hf⟩
  · rw [e] at hb; exact List.mem_cons_of_mem _ hb
  · rw [e] at hb
    unfold frs at hb
    rw [List.filterMap_cons, hf] at hb
    exact hb
theorem Inv.stkFree (I : Inv X pins σ H s) : ∀ b ∈ frs X.stack, H b = none := fun b hb => by
  rcases List.mem_cons.mp (I.stkSub b hb) with e | hb
  · rw [e]; exact I.free
  · obtain ⟨_, o, ho, _⟩ := I.ok.funs.mem hb
    exact I.base.free b o ho (I.ok.frf b hb) fun z => I.ok.exfs b z hb

/-- THE STEP: the untracked objects but the frame and the records at ch are kept (the callers' frames up to slots), the frame's map is kept, the new abstract heap is held -/
theorem Inv.step {g' : Array GenState} {t' : Nat} {d' : Drawn} {ch : List Addr} (I : Inv X pins σ H s)
    (hch : ∀ b ∈ ch, (b ∈ X.ex ∨ X.s₀.heap.objs.size ≤ b) ∧ b ≠ X.env.locals ∧ (∀ x c, X.env.cells.lookup x = some c → c ≠ b) ∧ ∀ p ∈ X.pn ++ pins, p.1 ≠ b)
    (keep : ∀ b o, b ≠ X.env.locals → b ∉ X.fs → b ∉ ch → s.heap.get? b = some o → H b = none → h'.get? b = some o)
    (slot : ∀ b o, b ≠ X.env.locals → b ∈ X.fs → b ∉ ch → s.heap.get? b = some o → H b = none → ∃ sl, h'.get? b = some { o with slots := sl }) (free : ∀ b o, b ∉ ch → s.heap.get? b = some o → H b = none → H' b = none)
    (there : ∀ b o, b ∉ ch → s.heap.get? b = some o → ∃ o', h'.get? b = some o')
    (tups : ∀ b xs, H b = some (.tup xs) → H' b = some (.tup xs)) (frzs : ∀ b o u, H b = some (.frz o u) → H' b = some (.frz o u)) (tbls : ∀ b ps, H b = some (.tbl ps) → ∃ more, H' b = some (.tbl (ps ++ more)))
    (ns : ∀ m, s.heap.Ns X.env.locals m → h'.Ns X.env.locals m) (hok : HOk X.prog X.w H' h') (hg : AllBare g') :
    Inv X pins σ H' { s with heap := h', gens := g', drawn := d', toks := t' } := by
  have neL : ∀ b o, X.s₀.heap.get? b = some o → b ≠ X.env.locals := fun b o e => Nat.ne_of_lt (Nat.lt_of_lt_of_le (Heap.lt_size e) I.ok.above)
  have neC : ∀ b o, X.s₀.heap.get? b = some o → b ∉ X.ex → b ∉ ch := fun b o e hx hb => by
    rcases (hch b hb).1 with z | z
    · exact hx z
    · exact absurd (Nat.lt_of_lt_of_le (Heap.lt_size e) z) (Nat.lt_irrefl _)
  have cellK : ∀ x c, X.env.cells.lookup x = some c → ∀ v, s.heap.IsCell c v → h'.IsCell c v := fun x c e v ⟨o, ho, hd⟩ => by
    have nch : c ∉ ch := fun z => (hch c z).2.2.1 x c e rfl
    by_cases hc : c ∈ X.fs
    · obtain ⟨sl, q⟩ := slot c o (I.cne x c e) hc nch ho (I.freeC x c e)
      exact ⟨_, q, hd⟩
    · exact ⟨o, keep c o (I.cne x c e) hc nch ho (I.freeC x c e), hd⟩
  refine ⟨I.ok, I.os, hg, ⟨fun b o e n hb hx => ?_, fun b o e n hb hx => ?_, fun b o e n hx => ?_, fun b o e hx => ?_, fun b xs e => tups b xs (I.base.tups b xs e), fun b o xs e => frzs b o xs (I.base.frzs b o xs e), fun b ps e => ?_⟩, ?_, fun x c e => ?_, ?_, fun x c e => ?_, fun p hp => ?_, hok, I.len⟩
  · exact keep b o (neL b o e) hb (neC b o e hx) (I.base.keep b o e n hb hx) (I.base.free b o e n hx)
  · obtain ⟨sl, e1⟩ := I.base.slot b o e n hb hx
    obtain ⟨sl', e2⟩ := slot b _ (neL b o e) hb (neC b o e hx) e1 (I.base.free b o e n hx)
    exact ⟨sl', e2⟩
  · obtain ⟨o', e1⟩ := I.base.there b o e hx
    exact free b o' (neC b o e hx) e1 (I.base.free b o e n hx)
  · obtain ⟨o', e1⟩ := I.base.there b o e hx
    exact there b o' (neC b o e hx) e1
  · obtain ⟨m1, e1⟩ := I.base.tbls b ps e
    obtain ⟨m2, e2⟩ := tbls b _ e1
    exact ⟨m1 ++ m2, by rw [e2, Array.append_assoc]⟩
  · obtain ⟨m, hn, hl⟩ := I.loc
    refine ⟨m, ns m hn, fun i x v e1 e2 e3 => ?_⟩
    obtain ⟨u, r, l⟩ := hl i x v e1 e2 e3
    refine ⟨u, r, ?_⟩
    rcases l with l | ⟨k, c, e, z⟩
    · exact .inl l
    · exact .inr ⟨k, c, e, cellK x c e _ z⟩
  · obtain ⟨v, z⟩ := I.cell x c e
    exact ⟨v, cellK x c e v z⟩
  · obtain ⟨m, ⟨o, _, _, ho, _⟩, _⟩ := I.loc
    exact free _ o (fun z => (hch _ z).2.1 rfl) ho I.free
  · obtain ⟨v, o, ho, hd⟩ := I.cell x c e
    exact free c o (fun z => (hch c z).2.2.1 x c e rfl) ho (I.freeC x c e)
  · obtain ⟨e, n, ne, nf, d⟩ := I.pin p hp
    have nch : p.1 ∉ ch := fun z => (hch p.1 z).2.2.2 p hp rfl
    exact ⟨keep p.1 p.2 ne nf nch e n, free p.1 p.2 nch e n, ne, nf, d⟩
/-- .. where the frame's own object is kept too -/
theorem Inv.un {t' : Nat} (I : Inv X pins σ H s) (u : Un X.fs [] H H' s.heap h') (hok : HOk X.prog X.w H' h') : Inv X pins σ H' { s with heap := h', toks := t' } := by
  obtain ⟨m, ⟨o, es, ep, ho, r⟩, _⟩ := id I.loc
  obtain ⟨sl, hL⟩ := u.any ho I.free (by simp)
  exact I.step (g' := s.gens) (d' := s.drawn) (ch := []) (fun _ z => nomatch z) (fun b o _ hb _ e n => u.keep b o e n hb (by simp)) (fun b o _ hb _ e n => u.slot b o e n hb (by simp)) (fun b o _ e n => u.free b o e n (by simp)) (fun b o _ e => u.there b o e (by simp)) u.tups u.frzs u.tbls (fun m' hm => by
    obtain ⟨o', es', ep', ho', r'⟩ := hm
    rw [ho] at ho'; cases ho'
    exact ⟨_, es', ep', hL, r'⟩) hok I.bare
/-- behind a call (or a comprehension's block): the slots of this frame may have changed too, the records at ch may have turned -/
theorem Inv.call {g' : Array GenState} {t' : Nat} {d' : Drawn} {ch : List Addr} (I : Inv X pins σ H s) (u : Un (frs X.stack) ch H H' s.heap h') (hok : HOk X.prog X.w H' h') (hg : AllBare g')
    (hch : ∀ b ∈ ch, (b ∈ X.ex ∨ X.s₀.heap.objs.size ≤ b) ∧ b ≠ X.env.locals ∧ (∀ x c, X.env.cells.lookup x = some c → c ≠ b) ∧ ∀ p ∈ X.pn ++ pins, p.1 ≠ b) :
    Inv X pins σ H' { s with heap := h', gens := g', drawn := d', toks := t' } := by
  obtain ⟨m, ⟨o, es, ep, ho, r⟩, _⟩ := id I.loc
  obtain ⟨sl, hL⟩ := u.any ho I.free fun z => (hch _ z).2.1 rfl
  exact I.step (ch := ch) hch (fun b o hL hb hc e n => u.keep b o e n (fun z => (List.mem_cons.mp (I.stkSub b z)).elim hL hb) hc) (fun b o _ _ hc e n => u.any e n hc) (fun b o hc e n => u.free b o e n hc) (fun b o hc e => u.there b o e hc) u.tups u.frzs u.tbls (fun m' hm => by
    obtain ⟨o', es', ep', ho', r'⟩ := hm
    rw [ho] at ho'; cases ho'
    exact ⟨_, es', ep', hL, r'⟩) hok hg
/-- an untracked record of ours (an iterator) has turned -/
theorem Inv.turned {t' : Nat} {it : Addr} (I : Inv X pins σ H s) (k : ∀ b o, b ≠ it → s.heap.get? b = some o → h'.get? b = some o) (hn : H it = none) (hL : it ≠ X.env.locals)
    (h1 : it ∈ X.ex ∨ X.s₀.heap.objs.size ≤ it) (h2 : ∀ x c, X.env.cells.lookup x = some c → c ≠ it) (h3 : ∀ p ∈ X.pn ++ pins, p.1 ≠ it) : Inv X pins σ H { s with heap := h', toks := t' } := by
  have nit : ∀ b u, H b = some u → b ≠ it := fun b u e z => by rw [z, hn] at e; cases e
  refine I.step (g' := s.gens) (d' := s.drawn) (ch := [it]) (fun b hb => ?_) (fun b o _ _ hc e _ => k b o (fun z => hc (by simp [z])) e) (fun b o _ _ hc e _ => ⟨o.slots, k b o (fun z => hc (by simp [z])) e⟩) (fun _ _ _ _ n => n)
    (fun b o hc e => ⟨o, k b o (fun z => hc (by simp [z])) e⟩) (fun _ _ e => e) (fun _ _ _ e => e) (fun b ps e => ⟨#[], by rw [e]; simp⟩) (fun m hm => ?_) (fun b u e => ?_) I.bare
  · have e : b = it := by simpa using hb
    subst e
    exact ⟨h1, hL, h2, h3⟩
  · obtain ⟨o, es, ep, ho, r⟩ := hm
    exact ⟨o, es, ep, k _ o (Ne.symm hL) ho, r⟩
  · refine (I.hok b u e).stay (fun c v hc q => k c v ?_ q) (fun _ q => q) fun _ _ q => q
    rcases hc with z | z
    · rw [z]; exact nit b u e
    · exact nit c _ z
theorem Inv.tok (I : Inv X pins σ H s) (t : Nat) : Inv X pins σ H { s with toks := t } := I.un (h' := s.heap) (t' := t) Un.refl I.hok
/-- all objects kept -/
theorem Inv.kept {t' : Nat} (I : Inv X pins σ H s) (k : ∀ b u, s.heap.get? b = some u → h'.get? b = some u) : Inv X pins σ H { s with heap := h', toks := t' } := I.un (Un.kept k) (I.hok.kept k)
/-- a new object laid and tracked -/
theorem Inv.laid {a : Addr} {o : HO} {t' : Nat} (I : Inv X pins σ H s) (k : ∀ b u, s.heap.get? b = some u → h'.get? b = some u) (hp : s.heap.objs.size ≤ a) (new : ObjOk X.prog X.w (upd H a o) h' a o) :
    Inv X pins σ (upd H a o) { s with heap := h', toks := t' } := I.un (Un.laid k hp (I.hok.fresh hp)) (I.hok.laid k hp new)
/-- an object written -/
theorem Inv.write {x e : Addr} {o : HO} {t' : Nat} (I : Inv X pins σ H s) (mu : Mut (H x)) (he : e = x ∨ H e = some (.own x)) (k : ∀ b u, b ≠ e → s.heap.get? b = some u → h'.get? b = some u) (heo : ∃ u, h'.get? e = some u)
    (new : ObjOk X.prog X.w (upd H x o) h' x o) : Inv X pins σ (upd H x o) { s with heap := h', toks := t' } := I.un (Un.write mu he k heo) (I.hok.write mu he k heo new)
theorem Inv.pins_of {pins' : List (Addr × Obj)} (I : Inv X pins σ H s) (h : ∀ p ∈ pins', s.heap.get? p.1 = some p.2 ∧ H p.1 = none ∧ p.1 ≠ X.env.locals ∧ p.1 ∉ X.fs ∧ ∀ v, p.2.data ≠ .cell v) : Inv X pins' σ H s :=
  ⟨I.ok, I.os, I.bare, I.base, I.loc, I.cell, I.free, I.freeC, fun p hp => (List.mem_append.mp hp).elim (fun z => I.pin p (List.mem_append_left _ z)) (h p), I.hok, I.len⟩

theorem nodup_ix {N : List Str} (hN : N.Nodup) {i j : Nat} {x : Str} (a : N[i]? = some x) (b : N[j]? = some x) : i = j := by
  obtain ⟨h1, e1⟩ := List.getElem?_eq_some_iff.mp a
  obtain ⟨h2, e2⟩ := List.getElem?_eq_some_iff.mp b
  exact (List.getElem_inj hN).mp (e1.trans e2.symm)

/-- a name is stored; what changed -/
theorem store_ok2 {M : Model} {A : Around} {E : Value → Shared → Prop} {i : Nat} {x : Str} {v : V} {u : Value} {Q : Unit → Shared → Prop} (I : Inv X pins σ H s) (hN : X.N.Nodup) (hi : X.N[i]? = some x) (hx : Loc X.env.scope x) (r : RelV v u)
    (h : ∀ s', Inv X pins (σ.set i (some v)) H s' → (∃ a, Heap.SameBut a s.heap s'.heap ∧ (a = X.env.locals ∨ X.env.cells.lookup x = some a)) → Q () s') (hf : X.fn x = true ∨ X.env.scope.names.lookup x = some .local := by first | exact .inl rfl | exact .inr rfl | assumption) : wpAny M A (storeName X.env x u) Q E s := by
  obtain ⟨m, hn, hl⟩ := id I.loc
  have hcls : (X.env.scope.kind == .class || (X.env.scope.kind == .module && X.env.locals != X.env.globals)) = false := by rw [I.ok.kind]; rfl
  have hiσ : i < σ.length := by rw [I.len]; exact (List.getElem?_eq_some_iff.mp hi).1
  have cne := I.cne
  have tracked : ∀ {a : Addr} {h' : Heap}, (∃ o, s.heap.get? a = some o ∧ H a = none) → Heap.SameBut a s.heap h' → HOk X.prog X.w H h' := fun {a h'} ha hs b ob e => by
    obtain ⟨_, _, hfree⟩ := ha
    refine (I.hok b ob e).stay (fun c w' hc q => (hs.2 c ?_).trans q) (fun _ q => q) fun _ _ q => q
    rintro rfl
    rcases hc with rfl | hc
    · rw [hfree] at e; cases e
    · rw [hfree] at hc; cases hc
  rcases hx with hk | hk
  · refine wpAny_storeName_local hk hn (fun h' hn' hs => ?_) hcls
    obtain ⟨oL, _, _, hoL, _⟩ := id hn
    refine h _ ⟨I.ok, I.os, I.bare, ⟨fun b o e n hb hx => ?_, fun b o e n hb hx => ?_, I.base.free, fun b o e hx => ?_, I.base.tups, I.base.frzs, I.base.tbls⟩, ⟨_, hn', fun j y v' e1 e2 e3 => ?_⟩, fun y c e => ?_, I.free, I.freeC, fun p hp => ?_, tracked ⟨oL, hoL, I.free⟩ hs, by simpa using I.len⟩ ⟨_, hs, .inl rfl⟩
    · exact (hs.2 b (Nat.ne_of_lt (Nat.lt_of_lt_of_le (Heap.lt_size e) I.ok.above))).trans (I.base.keep b o e n hb hx)
    · obtain ⟨sl, e1⟩ := I.base.slot b o e n hb hx
      exact ⟨sl, (hs.2 b (Nat.ne_of_lt (Nat.lt_of_lt_of_le (Heap.lt_size e) I.ok.above))).trans e1⟩
    · obtain ⟨o', e1⟩ := I.base.there b o e hx
      exact ⟨o', (hs.2 b (Nat.ne_of_lt (Nat.lt_of_lt_of_le (Heap.lt_size e) I.ok.above))).trans e1⟩
    · by_cases hj : j = i
      · subst hj
        rw [hi] at e1; cases e1
        rw [List.getElem?_set_self hiσ] at e2
        cases e2
        exact ⟨u, r, .inl ⟨hk, by simp⟩⟩
      · rw [List.getElem?_set_ne (Ne.symm hj)] at e2
        obtain ⟨u', r', q⟩ := hl j y v' e1 e2 e3
        refine ⟨u', r', ?_⟩
        rcases q with ⟨k, e⟩ | ⟨k, c, e, z⟩
        · refine .inl ⟨k, ?_⟩
          have : y ≠ x := fun e => hj (nodup_ix hN e1 (e ▸ hi))
          simp [this, e]
        · exact .inr ⟨k, c, e, z.sameBut hs (cne y c e)⟩
    · obtain ⟨w', z⟩ := I.cell y c e
      exact ⟨w', z.sameBut hs (cne y c e)⟩
    · obtain ⟨e, n, ne, nf, d⟩ := I.pin p hp
      exact ⟨(hs.2 p.1 ne).trans e, n, ne, nf, d⟩
  · have hfn : X.fn x = true := by
      rcases hf with z | z
      · exact z
      · rw [z] at hk; cases hk
    obtain ⟨c, hc⟩ := I.ok.has x (.inl hk)
    obtain ⟨w', z⟩ := I.cell x c hc
    refine wpAny_storeName_cell I.ok.kind hk hc z (fun h' hc' hs => ?_)
    obtain ⟨oc, hoc, hocd⟩ := id z
    refine h { s with heap := h' } ⟨I.ok, I.os, I.bare, ⟨fun b o e n hb hx => ?_, fun b o e n hb hx => ?_, I.base.free, fun b o e hx => ?_, I.base.tups, I.base.frzs, I.base.tbls⟩, ⟨m, hn.sameBut hs (Ne.symm (cne x c hc)), fun j y v' e1 e2 e3 => ?_⟩, fun y c' e => ?_, I.free, I.freeC, fun p hp => ?_, tracked ⟨oc, hoc, I.freeC x c hc⟩ hs, by simpa using I.len⟩ ⟨c, hs, .inr hc⟩
    · exact (hs.2 b (Nat.ne_of_lt (Nat.lt_of_lt_of_le (Heap.lt_size e) (I.ok.cab x c hfn hc)))).trans (I.base.keep b o e n hb hx)
    · obtain ⟨sl, e1⟩ := I.base.slot b o e n hb hx
      exact ⟨sl, (hs.2 b (Nat.ne_of_lt (Nat.lt_of_lt_of_le (Heap.lt_size e) (I.ok.cab x c hfn hc)))).trans e1⟩
    · obtain ⟨o', e1⟩ := I.base.there b o e hx
      exact ⟨o', (hs.2 b (Nat.ne_of_lt (Nat.lt_of_lt_of_le (Heap.lt_size e) (I.ok.cab x c hfn hc)))).trans e1⟩
    · by_cases hj : j = i
      · subst hj
        rw [hi] at e1; cases e1
        rw [List.getElem?_set_self hiσ] at e2
        cases e2
        exact ⟨u, r, .inr ⟨.inl hk, c, hc, hc'⟩⟩
      · rw [List.getElem?_set_ne (Ne.symm hj)] at e2
        obtain ⟨u', r', q⟩ := hl j y v' e1 e2 e3
        refine ⟨u', r', ?_⟩
        rcases q with q | ⟨k, c', e, z'⟩
        · exact .inl q
        · refine .inr ⟨k, c', e, z'.sameBut hs ?_⟩
          rintro rfl
          exact hj (nodup_ix hN e1 (I.ok.inj _ _ _ e hc ▸ hi))
    · by_cases hcc : c' = c
      · subst hcc; exact ⟨_, hc'⟩
      · obtain ⟨w2, z2⟩ := I.cell y c' e
        exact ⟨w2, z2.sameBut hs hcc⟩
    · obtain ⟨e, n, ne, nf, d⟩ := I.pin p hp
      refine ⟨(hs.2 p.1 ?_).trans e, n, ne, nf, d⟩
      intro q
      rw [q, hoc] at e
      have q' : oc = p.2 := Option.some.inj e
      exact d w' (by rw [← q']; exact hocd)
theorem store_ok {M : Model} {A : Around} {E : Value → Shared → Prop} {i : Nat} {x : Str} {v : V} {u : Value} {Q : Unit → Shared → Prop} (I : Inv X pins σ H s) (hN : X.N.Nodup) (hi : X.N[i]? = some x) (hx : Loc X.env.scope x) (r : RelV v u)
    (h : ∀ s', Inv X pins (σ.set i (some v)) H s' → Q () s') (hf : X.fn x = true ∨ X.env.scope.names.lookup x = some .local := by first | exact .inl rfl | exact .inr rfl | assumption) : wpAny M A (storeName X.env x u) Q E s :=
  store_ok2 I hN hi hx r (fun s' I' _ => h s' I') hf
/-- behind a call or a block, the state as it is -/
theorem Inv.call' {s' : Shared} {ch : List Addr} (I : Inv X pins σ H s) (ho : s'.os = s.os) (u : Un (frs X.stack) ch H H' s.heap s'.heap) (hok : HOk X.prog X.w H' s'.heap) (hg : AllBare s'.gens)
    (hch : ∀ b ∈ ch, (b ∈ X.ex ∨ X.s₀.heap.objs.size ≤ b) ∧ b ≠ X.env.locals ∧ (∀ x c, X.env.cells.lookup x = some c → c ≠ b) ∧ ∀ p ∈ X.pn ++ pins, p.1 ≠ b) : Inv X pins σ H' s' := by
  obtain ⟨h', g', d', t', o'⟩ := s'
  have e : o' = s.os := ho
  subst e
  exact I.call (g' := g') (t' := t') (d' := d') u hok hg hch
end

/-! ### the judgements -/
/-- an exception: its class, its own dict's address (where it has one), the abstract heap behind it -/
abbrev XK := Value → Option Addr → Hp → Prop
abbrev St := List (Option V)
abbrev VK := V → Hp → Prop
/-- an expression's reading; a test's; an argument list's -/
abbrev TE := St → Hp → VK → Prop
abbrev TT := St → Hp → (Bool → Hp → Prop) → Prop
abbrev TA := St → Hp → (List V → Hp → Prop) → Prop
/-- what is wanted behind a statement -/
structure Ends where
  nx : St → Hp → Prop
  rt : VK
  bk : St → Hp → Prop := fun _ _ => False
  ct : St → Hp → Prop := fun _ _ => False
abbrev TS := Ends → St → Hp → Prop

def EP (X : Cx) (pins : List (Addr × Obj)) (σ : St) (Q : VK) (u : Value) (s' : Shared) : Prop := ∃ v H', Inv X pins σ H' s' ∧ RelV v u ∧ Q v H'
def TP (X : Cx) (pins : List (Addr × Obj)) (σ : St) (Q : Bool → Hp → Prop) (b : Bool) (s' : Shared) : Prop := ∃ H', Inv X pins σ H' s' ∧ Q b H'
def AP (X : Cx) (pins : List (Addr × Obj)) (σ : St) (Q : List V → Hp → Prop) (us : List Value) (s' : Shared) : Prop := ∃ vs H', Inv X pins σ H' s' ∧ Vals vs us ∧ Q vs H'
def SP (X : Cx) (pins : List (Addr × Obj)) (D : Ends) (f : Flow) (s' : Shared) : Prop :=
  match f with
  | .next => ∃ σ' H', Inv X pins σ' H' s' ∧ D.nx σ' H'
  | .brk => ∃ σ' H', Inv X pins σ' H' s' ∧ D.bk σ' H'
  | .cont => ∃ σ' H', Inv X pins σ' H' s' ∧ D.ct σ' H'
  | .ret u => ∃ v σ' H', Inv X pins σ' H' s' ∧ RelV v u ∧ D.rt v H'

def PE (X : Cx) (e : Expr) (t : TE) : Prop :=
  ∀ (pins : List (Addr × Obj)) (s : Shared) (σ : St) (H : Hp) (Q : VK), Inv X pins σ H s → t σ H Q → wpAny (model X.prog X.w) X.A (eval e X.env) (EP X pins σ Q) X.xe s
def PT (X : Cx) (e : Expr) (t : TT) : Prop :=
  ∀ (pins : List (Addr × Obj)) (s : Shared) (σ : St) (H : Hp) (Q : Bool → Hp → Prop), Inv X pins σ H s → t σ H Q → wpAny (model X.prog X.w) X.A (isTrue e X.env (eval e X.env)) (TP X pins σ Q) X.xe s
/-- a test whatever its 'whole' is (and, or) -/
def PW (X : Cx) (e : Expr) (t : TT) : Prop :=
  ∀ (whole : Sem Value) (pins : List (Addr × Obj)) (s : Shared) (σ : St) (H : Hp) (Q : Bool → Hp → Prop), Inv X pins σ H s → t σ H Q → wpAny (model X.prog X.w) X.A (isTrue e X.env whole) (TP X pins σ Q) X.xe s
theorem PW.pt {X : Cx} {e : Expr} {t : TT} (h : PW X e t) : PT X e t := h _
/-- an argument list (no star), from the left -/
def PA (X : Cx) (es : List Expr) (t : TA) : Prop :=
  ∀ (pos : Pos) (pins : List (Addr × Obj)) (s : Shared) (σ : St) (H : Hp) (Q : List V → Hp → Prop), Inv X pins σ H s → t σ H Q → wpAny (model X.prog X.w) X.A (spliced (backTo pos (starEach es X.env))) (AP X pins σ Q) X.xe s
def PS (X : Cx) (st : Stmt) (t : TS) : Prop :=
  ∀ (pins : List (Addr × Obj)) (s : Shared) (σ : St) (H : Hp) (D : Ends), Inv X pins σ H s → t D σ H → wpAny (model X.prog X.w) X.A (exec st X.env) (SP X pins D) X.xe s
def PSs (X : Cx) (st : List Stmt) (t : TS) : Prop :=
  ∀ (pins : List (Addr × Obj)) (s : Shared) (σ : St) (H : Hp) (D : Ends), Inv X pins σ H s → t D σ H → wpAny (model X.prog X.w) X.A (execs st X.env) (SP X pins D) X.xe s
/-- weaken the end -/
theorem thn {α : Type} {t : Sem α} {Q Q' : α → Shared → Prop} {M : Model} {A : Around} {E : Value → Shared → Prop} {s : Shared} (h : wpAny M A t Q E s) (hQ : ∀ a s, Q a s → Q' a s) : wpAny M A t Q' E s := wpAny_mono h hQ fun _ _ x => x
end L2

namespace L2
open PySem PySem.Spec PyProof.Rows
section
variable {X : Cx}

/-! ### names and constants -/
def tVar (i : Nat) : TE := fun σ H Q => ∃ v, σ[i]? = some (some v) ∧ Q v H
def tC (v : V) : TE := fun _ H Q => Q v H
theorem pe_var {i : Nat} {x : Str} {pos : Pos} (hN : X.N[i]? = some x) (hv : Vis X.env.scope x) (hd : (x == ("__debug__" : Str)) = false := by decide) (hcd : (x == ("__classdict__" : Str)) = false := by decide) : PE X (.Name x pos) (tVar i) := by
  intro pins s σ H Q I h
  obtain ⟨v, e, h⟩ := h
  obtain ⟨m, hn, hl⟩ := I.loc
  obtain ⟨u, r, l⟩ := hl i x v hN e hv
  have fin : EP X pins σ Q u s := ⟨v, H, I, r, h⟩
  rcases l with ⟨hk, hm⟩ | ⟨hk, c, hc, hcell⟩
  · exact wpAny_Name (wpAny_loadName_local I.ok.kind hk hn hm fin) hd
  · rcases hk with hk | hk
    · exact wpAny_Name (wpAny_loadName_cell I.ok.kind hk hc hcell fin) hd
    · exact wpAny_Name (wpAny_loadName_free I.ok.kind hk hc hcell fin hcd) hd
theorem pe_int {i j pos} : PE X (.Constant (.int i) j pos) (tC (.int i)) := fun _ _ _ H _ I h => wpAny_Constant_int ⟨.int i, H, I.tok _, ⟨_, rfl⟩, h⟩
theorem pe_bl {b j pos} : PE X (.Constant (.bool b) j pos) (tC (.bl b)) := fun _ _ _ H _ I h => Constant_bool ⟨.bl b, H, I, rfl, h⟩
theorem pe_non {j pos} : PE X (.Constant .none j pos) (tC .non) := fun _ _ _ H _ I h => Constant_none ⟨.non, H, I, rfl, h⟩
theorem pe_str {x j pos} : PE X (.Constant (.str x) j pos) (tC (.str x)) := fun _ _ _ H _ I h => Calls.Constant_str ⟨.str x, H, I.tok _, ⟨_, rfl⟩, h⟩

/-- a global name of the def -/
def Gl (X : Cx) (x : Str) : Prop := X.env.kindOf x = some .globalImplicit
theorem ld_glob {E : Value → Shared → Prop} {pins : List (Addr × Obj)} {s : Shared} {σ : St} {H : Hp} {x : Str} {u : Value} {pos : Pos} {Q : Value → Shared → Prop} (I : Inv X pins σ H s) (hg : Gl X x) (hm : X.mg x = some u) (h : Q u s)
    (hd : (x == ("__debug__" : Str)) = false := by decide) : wpAny (model X.prog X.w) X.A (eval (.Name x pos) X.env) Q E s :=
  Calls.Name_function_global I.ok.kind hg (Calls.loadGlobal_global (by rw [I.ok.glob]; exact I.mod.glob.keeps I.bk) hm h) hd
theorem ld_blt {E : Value → Shared → Prop} {pins : List (Addr × Obj)} {s : Shared} {σ : St} {H : Hp} {x : Str} {u : Value} {pos : Pos} {Q : Value → Shared → Prop} (I : Inv X pins σ H s) (hg : Gl X x) (hm : X.mg x = none) (hv : bootBuiltins x = some u) (h : Q u s)
    (hn : x ≠ "__name__" := by decide) (hd : (x == ("__debug__" : Str)) = false := by decide) : wpAny (model X.prog X.w) X.A (eval (.Name x pos) X.env) Q E s := by
  obtain ⟨mb, h1, h2⟩ := I.mod.blt
  exact Calls.Name_function_global I.ok.kind hg (Calls.loadGlobal_builtin (by rw [I.ok.glob]; exact I.mod.glob.keeps I.bk) hm (by rw [I.ok.blt]; exact h1.keeps I.bk) ((h2 x hn).trans hv) h) hd
/-- a module's constant, a class, a function, as a value -/
theorem pe_glob {x : Str} {v : V} {u : Value} {pos : Pos} (hg : Gl X x) (hm : X.mg x = some u) (r : RelV v u) (hd : (x == ("__debug__" : Str)) = false := by decide) : PE X (.Name x pos) (tC v) :=
  fun _ _ _ H _ I h => ld_glob I hg hm ⟨v, H, I, r, h⟩ hd
theorem pe_bltn {x : Str} {v : V} {u : Value} {pos : Pos} (hg : Gl X x) (hm : X.mg x = none) (hv : bootBuiltins x = some u) (r : RelV v u) (hn : x ≠ "__name__" := by decide) (hd : (x == ("__debug__" : Str)) = false := by decide) : PE X (.Name x pos) (tC v) :=
  fun _ _ _ H _ I h => ld_blt I hg hm hv ⟨v, H, I, r, h⟩ hn hd

/-! ### arithmetic -/
variable {a b : Expr} {ta tb : TE} {pos : Pos}
/-! ### comparisons -/
/-- a comparison as a value, as a test -/
def tB (t : TE) : TT := fun σ H Q => t σ H fun x H1 => ∃ c, x = .bl c ∧ Q c H1
/-- an expression whose value is a bool, as a test -/
theorem pt_val {e : Expr} {t : TE} (h : PE X e t) (he : ∀ whole, isTrue e X.env whole = (do let v ← whole; standAt e.pos; holding [v] (truthy v)) := by intro _; rfl) : PT X e (tB t) := by
  intro pins s σ H Q I hw
  refine isTrue_plain (thn (h pins s σ H _ I hw) fun v s1 ⟨x, H1, I1, r1, q1⟩ => ?_) (he _)
  obtain ⟨d, rfl, q⟩ := q1
  cases r1
  exact wpAny_truthy_bool ⟨H1, I1, q⟩

/-! ### and, or, not -/
variable {tA tB' : TT} {rest : List Expr}
def tAnd (t u : TT) : TT := fun σ H Q => t σ H fun c H1 => if c = true then u σ H1 Q else Q false H1
def tOr (t u : TT) : TT := fun σ H Q => t σ H fun c H1 => if c = true then Q true H1 else u σ H1 Q
def tNot (t : TT) : TT := fun σ H Q => t σ H fun c H1 => Q (!c) H1
theorem pw_and1 (ha : PT X a tA) : PW X (.BoolOp .And [a] pos) tA := by
  intro wh pins s σ H Q I h
  refine isTrue_and (thn (ha pins s σ H Q I h) fun c s1 e => ?_)
  cases c with
  | true => exact isTrue_and_nil e
  | false => exact e
theorem pw_or1 (ha : PT X a tA) : PW X (.BoolOp .Or [a] pos) tA := by
  intro wh pins s σ H Q I h
  refine isTrue_or (thn (ha pins s σ H Q I h) fun c s1 e => ?_)
  cases c with
  | false => exact isTrue_or_nil e
  | true => exact e
theorem pw_and (ha : PT X a tA) (hb : PW X (.BoolOp .And (b :: rest) pos) tB') : PW X (.BoolOp .And (a :: b :: rest) pos) (tAnd tA tB') := by
  intro wh pins s σ H Q I h
  refine isTrue_and (thn (ha pins s σ H _ I h) fun c s1 ⟨H1, I1, q1⟩ => ?_)
  cases c with
  | true => exact hb wh pins s1 σ H1 Q I1 q1
  | false => exact ⟨H1, I1, q1⟩
theorem pw_or (ha : PT X a tA) (hb : PW X (.BoolOp .Or (b :: rest) pos) tB') : PW X (.BoolOp .Or (a :: b :: rest) pos) (tOr tA tB') := by
  intro wh pins s σ H Q I h
  refine isTrue_or (thn (ha pins s σ H _ I h) fun c s1 ⟨H1, I1, q1⟩ => ?_)
  cases c with
  | true => exact ⟨H1, I1, q1⟩
  | false => exact hb wh pins s1 σ H1 Q I1 q1
theorem pt_not (ha : PT X a tA) : PT X (.UnaryOp .Not a pos) (tNot tA) := by
  intro pins s σ H Q I h
  exact isTrue_not (ha pins s σ H (fun c H1 => Q (!c) H1) I h)
end
end L2

namespace L2
open PySem PySem.Spec PyProof.Rows

/-! ### a list, a tuple that is read: tracked, frozen, or an object of the module -/
def SqL (K : PySem.W.Frag) (H : Hp) (a : Addr) (xs : List V) : Prop :=
  Rd H a (.lst xs) ∨
    ∃ (o : Obj) (its : Array Value) (n : Nat), K.lookup a = some o ∧ o.cls = .type "list" ∧ o.dict = none ∧ o.data = .seq its n ∧ its.size ≤ sizeLine ∧ Vals xs its.toList
def SqT (K : PySem.W.Frag) (H : Hp) (a : Addr) (xs : List V) : Prop :=
  Rd H a (.tup xs) ∨
    ∃ (o : Obj) (its : Array Value) (n : Nat), K.lookup a = some o ∧ o.cls = .type "tuple" ∧ o.data = .seq its n ∧ its.size ≤ sizeLine ∧ Vals xs its.toList
def absV : Value → Option V
  | .none => some .non
  | .bool b => some (.bl b)
  | .int i _ => some (.int i)
  | .str x _ => some (.str x)
  | .bytes b _ => some (.byt b)
  | .float b _ => some (.flt b)
  | .ref a => some (.ref a)
  | .type n => some (.ty n)
  | _ => none
theorem RelV.abs {x : V} {u : Value} (r : RelV x u) : absV u = some x := by
  cases x with
  | non => cases r; rfl
  | bl _ => cases r; rfl
  | int _ => obtain ⟨t, rfl⟩ := r; rfl
  | str _ => obtain ⟨t, rfl⟩ := r; rfl
  | byt _ => obtain ⟨t, rfl⟩ := r; rfl
  | flt _ => obtain ⟨t, rfl⟩ := r; rfl
  | ref _ => cases r; rfl
  | ty _ => cases r; rfl
theorem RelV.inj {x y : V} {u : Value} (r : RelV x u) (q : RelV y u) : x = y := Option.some.inj (r.abs.symm.trans q.abs)
theorem Vals.inj : ∀ {xs ys : List V} {us : List Value}, Vals xs us → Vals ys us → xs = ys
  | _, _, _, .nil, .nil => rfl
  | _, _, _, .cons r t, .cons r' t' => by rw [r.inj r', Vals.inj t t']
section
variable {X : Cx} {pins : List (Addr × Obj)} {σ : St} {H : Hp} {s : Shared} {a : Addr} {xs ys : List V}
theorem SqL.of {K : PySem.W.Frag} (h : H a = some (.lst xs)) : SqL K H a xs := .inl (.inl h)
theorem SqT.of {K : PySem.W.Frag} (h : H a = some (.tup xs)) : SqT K H a xs := .inl (.inl h)
theorem Inv.list (I : Inv X pins σ H s) (h : SqL X.K H a xs) : ∃ its : List Value, Vals xs its ∧ PlainL s.heap a its.toArray ∧ xs.length ≤ sizeLine := by
  rcases h with h | ⟨o, its, n, hk, hc, hd, hs, hz, r⟩
  · obtain ⟨z, its, n, r, e⟩ := h.ok I.hok
    exact ⟨its, r, ⟨_, n, e, rfl, rfl, rfl⟩, z⟩
  · refine ⟨its.toList, r, ⟨o, n, I.kIn a o hk, hc, hd, by simpa using hs⟩, ?_⟩
    have e := r.length
    simp only [Array.length_toList] at e
    omega
theorem Inv.tuple (I : Inv X pins σ H s) (h : SqT X.K H a xs) : ∃ its : List Value, Vals xs its ∧ IsTup s.heap a its.toArray ∧ xs.length ≤ sizeLine := by
  rcases h with h | ⟨o, its, n, hk, hc, hs, hz, r⟩
  · obtain ⟨z, its, r, p⟩ := h.ok I.hok
    exact ⟨its, r, p, z⟩
  · refine ⟨its.toList, r, ⟨o, I.kIn a o hk, hc, n, by simpa using hs⟩, ?_⟩
    have e := r.length
    simp only [Array.length_toList] at e
    omega
theorem Inv.list_inj (I : Inv X pins σ H s) (h : SqL X.K H a xs) (h' : SqL X.K H a ys) : xs = ys := by
  obtain ⟨its, r, ⟨o, n, e, _, _, d⟩, _⟩ := I.list h
  obtain ⟨its', r', ⟨o', n', e', _, _, d'⟩, _⟩ := I.list h'
  rw [e] at e'; cases e'
  rw [d] at d'
  injection d' with d1 _
  have : its = its' := by simpa using congrArg Array.toList d1
  subst this
  exact r.inj r'
end

/-! ### another wish about exceptions -/
abbrev Cx.wish (X : Cx) (E : Value → Shared → Prop) : Cx := { X with xe := E }
/-- no exception leaves -/
abbrev Cx.nox (X : Cx) : Cx := X.wish fun _ _ => False
theorem Cx.Ok.wish {X : Cx} (ok : X.Ok) (E : Value → Shared → Prop) : (X.wish E).Ok :=
  ⟨ok.mod, ok.kind, ok.glob, ok.blt, ok.above, ok.inj, ok.has, ok.cab, ok.hd, ok.frames, ok.stk, ok.exf, ok.bs, ok.bsz, ok.noex, ok.exfs, ok.funs, ok.frf⟩
theorem Cx.Ok.unwish {X : Cx} {E : Value → Shared → Prop} (ok : (X.wish E).Ok) : X.Ok :=
  ⟨ok.mod, ok.kind, ok.glob, ok.blt, ok.above, ok.inj, ok.has, ok.cab, ok.hd, ok.frames, ok.stk, ok.exf, ok.bs, ok.bsz, ok.noex, ok.exfs, ok.funs, ok.frf⟩
section
variable {X : Cx} {pins : List (Addr × Obj)} {σ : St} {H : Hp} {s : Shared} {E : Value → Shared → Prop}
theorem Inv.wish (I : Inv X pins σ H s) (E : Value → Shared → Prop) : Inv (X.wish E) pins σ H s := ⟨I.ok.wish E, I.os, I.bare, I.base, I.loc, I.cell, I.free, I.freeC, I.pin, I.hok, I.len⟩
theorem Inv.unwish (I : Inv (X.wish E) pins σ H s) : Inv X pins σ H s := ⟨I.ok.unwish, I.os, I.bare, I.base, I.loc, I.cell, I.free, I.freeC, I.pin, I.hok, I.len⟩
theorem SP.unwish {D : Ends} {f : Flow} {s' : Shared} (h : SP (X.wish E) pins D f s') : SP X pins D f s' := by
  cases f with
  | next => obtain ⟨σ', H', I, q⟩ := h; exact ⟨σ', H', I.unwish, q⟩
  | brk => obtain ⟨σ', H', I, q⟩ := h; exact ⟨σ', H', I.unwish, q⟩
  | cont => obtain ⟨σ', H', I, q⟩ := h; exact ⟨σ', H', I.unwish, q⟩
  | ret u => obtain ⟨v, σ', H', I, r, q⟩ := h; exact ⟨v, σ', H', I.unwish, r, q⟩
theorem PE.nox {e : Expr} {t : TE} (h : PE X.nox e t) : PE X e t := fun pins s σ H Q I hw =>
  wpAny_mono (h pins s σ H Q (I.wish _) hw) (fun _ _ ⟨v, H', I', r, q⟩ => ⟨v, H', I'.unwish, r, q⟩) fun _ _ z => False.elim z
theorem PT.nox {e : Expr} {t : TT} (h : PT X.nox e t) : PT X e t := fun pins s σ H Q I hw =>
  wpAny_mono (h pins s σ H Q (I.wish _) hw) (fun _ _ ⟨H', I', q⟩ => ⟨H', I'.unwish, q⟩) fun _ _ z => False.elim z
theorem PSs.nox {st : List Stmt} {t : TS} (h : PSs X.nox st t) : PSs X st t := fun pins s σ H D I hw =>
  wpAny_mono (h pins s σ H D (I.wish _) hw) (fun _ _ q => q.unwish) fun _ _ z => False.elim z
end

/-! ### blocks and small statements -/
section
variable {X : Cx} {st : Stmt} {rest : List Stmt} {t u : TS} {e : Expr} {te : TE} {pos : Pos}
def tNext : TS := fun D σ H => D.nx σ H
def tSeq (t u : TS) : TS := fun D σ H => t { D with nx := u D } σ H
theorem pss_nil : PSs X [] tNext := fun _ _ σ H _ I h => wpAny_execs_nil ⟨σ, H, I, h⟩
theorem pss_cons (h1 : PS X st t) (h2 : PSs X rest u) : PSs X (st :: rest) (tSeq t u) := by
  intro pins s σ H D I h
  refine wpAny_execs_cons (thn (h1 pins s σ H { D with nx := u D } I h) fun f s1 q => ?_)
  cases f with
  | next =>
    obtain ⟨σ', H', I', q⟩ := q
    exact h2 pins s1 σ' H' D I' q
  | ret v => exact q
  | brk => exact q
  | cont => exact q
theorem pss_one (h1 : PS X st t) : PSs X [st] t := by
  intro pins s σ H D I h
  refine wpAny_execs_cons (thn (h1 pins s σ H D I h) fun f s1 q => ?_)
  cases f with
  | next => exact wpAny_execs_nil q
  | ret v => exact q
  | brk => exact q
  | cont => exact q
/-- in a def's body nothing is shown -/
theorem Inv.quiet {pins : List (Addr × Obj)} {σ : St} {H : Hp} {s : Shared} (I : Inv X pins σ H s) : interactive X.env = false := by simp [interactive, I.ok.kind]
/-- an expression whose value is dropped -/
def tDrop (te : TE) : TS := fun D σ H => te σ H fun _ H1 => D.nx σ H1
theorem ps_expr (he : PE X e te) (hs : swapsWith e none pos.line X.env = pure false := by rfl) : PS X (.Expr e pos) (tDrop te) := by
  intro pins s σ H D I h
  exact wpAny_Expr_any (thn (he pins s σ H _ I h) fun v s1 ⟨x, H1, I1, r1, q1⟩ => ⟨σ, H1, I1, q1⟩) I.quiet hs
def tRet (te : TE) : TS := fun D σ H => te σ H D.rt
theorem ps_ret (he : PE X e te) : PS X (.Return (some e) pos) (tRet te) := by
  intro pins s σ H D I h
  exact wpAny_Return_some (thn (he pins s σ H _ I h) fun v s1 ⟨x, H1, I1, r1, q1⟩ => ⟨x, σ, H1, I1, r1, q1⟩)
def tIfS (c : TT) (t u : TS) : TS := fun D σ H => c σ H fun b H1 => if b = true then t D σ H1 else u D σ H1
theorem ps_if {c : Expr} {a b : List Stmt} {tc : TT} (hc : PT X c tc) (ha : PSs X a t) (hb : PSs X b u) : PS X (.If c a b pos) (tIfS tc t u) := by
  intro pins s σ H D I h
  refine wpAny_If (thn (hc pins s σ H _ I h) fun d s1 ⟨H1, I1, q1⟩ => ?_)
  cases d with
  | true => exact ha pins s1 σ H1 D I1 q1
  | false => exact hb pins s1 σ H1 D I1 q1
end

/-! ### targets -/
abbrev TG := V → St → Hp → (St → Hp → Prop) → Prop
def PG (X : Cx) (target : Expr) (t : TG) : Prop :=
  ∀ (pins : List (Addr × Obj)) (s : Shared) (σ : St) (H : Hp) (v : V) (u : Value) (Q : St → Hp → Prop), Inv X pins σ H s → RelV v u → t v σ H Q →
    wpAny (model X.prog X.w) X.A (assign target X.env u) (fun _ s' => ∃ σ' H', Inv X pins σ' H' s' ∧ Q σ' H') X.xe s
section
variable {X : Cx} {pos : Pos}
def gName (i : Nat) : TG := fun v σ H Q => Q (σ.set i (some v)) H
theorem pg_name {i : Nat} {x : Str} (hN : X.N.Nodup) (hi : X.N[i]? = some x) (hx : Loc X.env.scope x) (hf : X.fn x = true ∨ X.env.scope.names.lookup x = some .local := by first | exact .inl rfl | exact .inr rfl | assumption) : PG X (.Name x pos) (gName i) := by
  intro pins s σ H v u Q I r h
  exact wpAny_assign_Name (store_ok I hN hi hx r (fun s' I' => ⟨_, H, I', h⟩) hf)
/-- target = value -/
def tAsg (te : TE) (g : TG) : TS := fun D σ H => te σ H fun x H1 => g x σ H1 D.nx
/-- name = value -/
theorem ps_set {i : Nat} {x : Str} {e : Expr} {te : TE} {pos' : Pos} (hN : X.N.Nodup) (hi : X.N[i]? = some x) (hx : Loc X.env.scope x) (he : PE X e te) (hs : swapsWith e (some (.Name x pos')) pos.line X.env = pure false := by rfl) (hf : X.fn x = true ∨ X.env.scope.names.lookup x = some .local := by first | exact .inl rfl | exact .inr rfl | assumption) :
    PS X (.Assign [.Name x pos'] e pos) (tAsg te (gName i)) := by
  intro pins s σ H D I h
  refine wpAny_Assign_Name (thn (he pins s σ H _ I h) fun v s1 ⟨y, H1, I1, r1, q1⟩ => ?_) hs
  exact store_ok I1 hN hi hx r1 (fun s2 I2 => ⟨_, H1, I2, q1⟩) hf
end

/-! ### while -/
section
variable {X : Cx} {pos : Pos}
/-- the invariant W with its measure -/
def tWhile (c : TT) (tb : TS) : TS := fun D σ H => ∃ W : Nat → St → Hp → Prop, (∃ m, W m σ H) ∧ ∀ m σ H, W m σ H →
  c σ H fun b H1 => if b = true then ∃ N : St → Hp → Prop, (∀ σ' H', N σ' H' → ∃ m', m' < m ∧ W m' σ' H') ∧ tb { D with nx := N, ct := N, bk := D.nx } σ H1 else D.nx σ H1
theorem ps_while {c : Expr} {body : List Stmt} {tc : TT} {tb : TS} (hp : PassesOwn (model X.prog X.w) X.A X.env X.xe) (hc : PT X c tc) (hb : PSs X body tb) : PS X (.While c body [] pos) (tWhile tc tb) := by
  intro pins s σ H D I h
  obtain ⟨W, ⟨m0, w0⟩, turn⟩ := h
  refine wpAny_While (codeAny_whileLoop (fun n s' => ∃ σ' H', Inv X pins σ' H' s' ∧ W n σ' H') ?_ m0 ⟨σ, H, I, w0⟩)
  rintro n s1 ⟨σ1, H1, I1, w1⟩
  refine wpAny_passesOwn hp (thn (hc pins s1 σ1 H1 _ I1 (turn n σ1 H1 w1)) fun b s2 ⟨H2, I2, q2⟩ => ?_)
  cases b with
  | true =>
    obtain ⟨N, hN, q2⟩ := q2
    rw [if_pos rfl]
    refine wpAny_passesOwn hp (thn (hb pins s2 σ1 H2 _ I2 q2) fun f s3 q3 => ?_)
    cases f with
    | next =>
      obtain ⟨σ3, H3, I3, n3⟩ := q3
      obtain ⟨m', hm, w3⟩ := hN σ3 H3 n3
      exact ⟨m', hm, σ3, H3, I3, w3⟩
    | cont =>
      obtain ⟨σ3, H3, I3, n3⟩ := q3
      obtain ⟨m', hm, w3⟩ := hN σ3 H3 n3
      exact ⟨m', hm, σ3, H3, I3, w3⟩
    | brk => exact q3
    | ret v => exact q3
  | false =>
    rw [if_neg Bool.false_ne_true]
    exact wpAny_execs_nil ⟨σ1, H2, I2, q2⟩
end

/-! ### what a loop or a comprehension walks -/
/-- at turn i: it yields x (the heap may grow), or it stops -/
structure It where
  go : Nat → Hp → Prop
  yld : Nat → Hp → V → Hp → Prop
  stop : Nat → Hp → Prop
/-- the iterator's own objects may turn: they are not the frame's, not pinned, younger than the entry (or a comprehension's own) -/
def FpOk (X : Cx) (pins : List (Addr × Obj)) (H : Hp) (b : Addr) : Prop :=
  H b = none ∧ b ≠ X.env.locals ∧ b ∉ X.fs ∧ (b ∈ X.ex ∨ X.s₀.heap.objs.size ≤ b) ∧ (∀ x c, X.env.cells.lookup x = some c → c ≠ b) ∧ ∀ p ∈ X.pn ++ pins, p.1 ≠ b
theorem Inv.fpOk {X : Cx} {pins : List (Addr × Obj)} {σ : St} {H H' : Hp} {s : Shared} {b : Addr} (I : Inv X pins σ H s) (hb : s.heap.objs.size ≤ b) (hn : H' b = none) : FpOk X pins H' b := by
  refine ⟨hn, Nat.ne_of_gt (Nat.lt_of_lt_of_le I.lt hb), I.nofs hb, .inr (Nat.le_trans I.sz hb), fun x c e z => ?_, fun p hp z => ?_⟩
  · obtain ⟨v, q⟩ := I.cell x c e
    exact absurd (Nat.lt_of_lt_of_le q.lt (by rw [z]; exact hb)) (Nat.lt_irrefl _)
  · exact absurd (Nat.lt_of_lt_of_le (Heap.lt_size (I.pin p hp).1) (by rw [z]; exact hb)) (Nat.lt_irrefl _)
structure Turn (P : Program) (w : World) (K : PySem.W.Frag) (tg : Expr) (J : It) (fp : List Addr) (it : Addr) (tn : Nat → Heap → Prop) : Prop where
  mem : it ∈ fp
  obj : ∀ i h, tn i h → ∀ b ∈ fp, ∃ o, h.get? b = some o ∧ ∀ v, o.data ≠ .cell v
  keep : ∀ i h h', tn i h → (∀ b ∈ fp, ∀ o, h.get? b = some o → h'.get? b = some o) → tn i h'
  item : ∀ (X : Cx), X.prog = P → X.w = w → X.K = K → X.calm = true → ∀ (i : Nat) (pins : List (Addr × Obj)) (s : Shared) (σ : St) (H : Hp) (E : Value → Shared → Prop), Inv X pins σ H s → (∀ b ∈ fp, FpOk X pins H b) → tn i s.heap → J.go i H →
    wpAny (model P w) X.A (pyNext (.ref it)) (fun r s1 => ∃ u, r = some u ∧
      wpAny (model P w) X.A (letOwnedTupleGo tg (.ref it) u) (fun _ s2 => ∃ x H', Inv X pins σ H' s2 ∧ RelV x u ∧ J.yld i H x H' ∧ tn (i + 1) s2.heap ∧ ∀ b ∈ fp, H' b = none) E s1) E s
  done : ∀ (X : Cx), X.prog = P → X.w = w → X.K = K → X.calm = true → ∀ (i : Nat) (pins : List (Addr × Obj)) (s : Shared) (σ : St) (H : Hp) (E : Value → Shared → Prop), Inv X pins σ H s → (∀ b ∈ fp, FpOk X pins H b) → tn i s.heap → J.stop i H →
    wpAny (model P w) X.A (pyNext (.ref it)) (fun r s1 => r = none ∧ Inv X pins σ H s1) E s
  self : ∀ (A : Around) (i : Nat) (s : Shared) (Q : Value → Shared → Prop) (E : Value → Shared → Prop), tn i s.heap → Q (.ref it) s → wpAny (model P w) A (pyIter (.ref it)) Q E s
abbrev TI := St → Hp → (It → Hp → Prop) → Prop
/-- an iterator has come -/
def PIE (X : Cx) (pins : List (Addr × Obj)) (σ : St) (tg : Expr) (R : It → Hp → Prop) (itv : Value) (s2 : Shared) : Prop :=
  ∃ (it : Addr) (fp : List Addr) (tn : Nat → Heap → Prop) (J : It) (H' : Hp), itv = .ref it ∧ Inv X pins σ H' s2 ∧ Turn X.prog X.w X.K tg J fp it tn ∧ tn 0 s2.heap ∧ (∀ b ∈ fp, FpOk X pins H' b) ∧ R J H'
def PI (X : Cx) (tg iter : Expr) (wi : TI) : Prop :=
  ∀ (pins : List (Addr × Obj)) (s : Shared) (σ : St) (H : Hp) (R : It → Hp → Prop), Inv X pins σ H s → wi σ H R →
    wpAny (model X.prog X.w) X.A (eval iter X.env) (fun v s1 => wpAny (model X.prog X.w) X.A (pyIter v) (PIE X pins σ tg R) X.xe s1) X.xe s

/-- the step ahead of the store is nothing for an iterator that keeps no tuple -/
theorem go_of {M : Model} {A : Around} {E : Value → Shared → Prop} {s : Shared} {tg : Expr} {it : Addr} {u : Value} {o : Obj} {n : String} {vs : Array Value} {Q : Unit → Shared → Prop} (ho : s.heap.get? it = some o) (hc : o.cls = .type n) (hd : o.data = .fields vs)
    (hn : ["enumerate", "zip", "dict_itemiterator", "dict_reverseitemiterator", "odict_iterator", "itertools.zip_longest", "itertools.pairwise"].contains n = false) (hQ : Q () s) : wpAny M A (letOwnedTupleGo tg (.ref it) u) Q E s := by
  unfold letOwnedTupleGo
  cases tg <;> first
    | exact wpAny_pure hQ
    | (cases u <;> first
        | exact wpAny_pure hQ
        | (refine wpAny_bind (wpAny_load ho ?_)
           rw [hc, hd]
           show wpAny M A (if (["enumerate", "zip", "dict_itemiterator", "dict_reverseitemiterator", "odict_iterator", "itertools.zip_longest", "itertools.pairwise"].contains n && vs[0]? == some (rawInt _)) = true then _ else _) Q E s
           rw [if_neg (by intro h; rw [hn, Bool.false_and] at h; cases h)]
           exact wpAny_pure hQ))

/-- the list at a, as it stands at each turn (a loop may append to it) -/
def Itl (K : PySem.W.Frag) (a : Addr) : It :=
  ⟨fun i H => ∃ xs x, SqL K H a xs ∧ xs[i]? = some x, fun i H x H' => H' = H ∧ ∀ xs, SqL K H a xs → xs[i]? = some x, fun i H => ∃ xs, SqL K H a xs ∧ xs.length ≤ i⟩
/-- lo, lo + 1, .. (n of them) -/
def Itr (lo : Int) (n : Nat) : It := ⟨fun i _ => i < n, fun i H x H' => H' = H ∧ x = .int (lo + i), fun i _ => n ≤ i⟩
theorem turn_list {P : Program} {w : World} {K : PySem.W.Frag} {tg : Expr} (a it : Addr) : Turn P w K tg (Itl K a) [it] it (fun i h => h.IsListIter it a i) where
  mem := by simp
  obj := fun i h st b hb => by
    have e : b = it := by simpa using hb
    subst e
    obtain ⟨o, e, c, d⟩ := st
    exact ⟨o, e, fun v z => by rw [d] at z; cases z⟩
  keep := fun i h h' st k => st.at fun o e => k it (by simp) o e
  item := by
    intro X hP hw hK hc i pins s σ H E I hf st hg
    subst hP hw hK
    obtain ⟨xs, x, hq, hx⟩ := hg
    obtain ⟨its, rv, p, hz⟩ := I.list hq
    obtain ⟨u, hu, ru⟩ := rv.get hx
    obtain ⟨f0, f1, f2, f3, f4, f5⟩ := hf it (by simp)
    refine wpAny_pyNext_list_item st p.isList (x := u) (by simpa using hu) fun h' st' sb => ?_
    have I1 : Inv X pins σ H { s with heap := h' } := I.turned (t' := s.toks) (fun b o hb e => (sb.2 b hb).trans e) f0 f1 f3 f4 f5
    obtain ⟨o, e, c, d⟩ := id st'
    exact ⟨u, rfl, go_of (s := { s with heap := h' }) e c d (by decide) ⟨x, H, I1, ru, ⟨rfl, fun ys hy => by rw [I.list_inj hy hq]; exact hx⟩, st', fun b hb => (hf b hb).1⟩⟩
  done := by
    intro X hP hw hK hc i pins s σ H E I hf st hg
    subst hP hw hK
    obtain ⟨xs, hq, hx⟩ := hg
    obtain ⟨its, rv, p, hz⟩ := I.list hq
    obtain ⟨f0, f1, f2, f3, f4, f5⟩ := hf it (by simp)
    have hl := rv.length
    exact wpAny_pyNext_list_end (I.ok.hd hc) st p.isList (by simp; omega) fun h' eb => ⟨rfl, I.turned (t' := s.toks) (fun b o hb e => eb b o hb e) f0 f1 f3 f4 f5⟩
  self := fun _ _ _ _ _ st h => wpAny_pyIter_listiter st h
theorem turn_range {P : Program} {w : World} {K : PySem.W.Frag} {tg : Expr} (it : Addr) (lo : Int) (n : Nat) : Turn P w K tg (Itr lo n) [it] it (fun i h => IsRangeIter h it (lo + (i : Nat) * 1) ((n : Int) - (i : Nat)) 1) where
  mem := by simp
  obj := fun i h st b hb => by
    have e : b = it := by simpa using hb
    subst e
    exact ⟨_, st, fun v z => by
      have z' : Data.fields _ = Data.cell v := z
      cases z'⟩
  keep := fun i h h' st k => k it (by simp) _ st
  item := by
    intro X hP hw hK hc i pins s σ H E I hf st hg
    subst hP hw hK
    obtain ⟨f0, f1, f2, f3, f4, f5⟩ := hf it (by simp)
    have W := Walks.range (prog := X.prog) (w := X.w) (I.ok.hd hc) it lo 1 n
    refine W.item i s _ _ hg st fun v h' tk hv st' kk => ?_
    obtain ⟨t, rfl⟩ := hv
    have I1 : Inv X pins σ H { s with heap := h', toks := tk } := I.turned (fun b o hb e => kk b o (by simpa using hb) e) f0 f1 f3 f4 f5
    refine ⟨_, rfl, go_of (s := { s with heap := h', toks := tk }) (n := "range_iterator") st' rfl rfl (by decide) ⟨.int (lo + i), H, I1, ⟨t, ?_⟩, ⟨rfl, rfl⟩, st', fun b hb => (hf b hb).1⟩⟩
    rw [Int.mul_one]
  done := by
    intro X hP hw hK hc i pins s σ H E I hf st hg
    subst hP hw hK
    obtain ⟨f0, f1, f2, f3, f4, f5⟩ := hf it (by simp)
    exact wpAny_pyNext_range_end (I.ok.hd hc) st (by have : n ≤ i := hg; omega) fun h' eb => ⟨rfl, I.turned (t' := s.toks) (fun b o hb e => eb b o hb e) f0 f1 f3 f4 f5⟩
  self := fun _ _ _ _ _ st h => wpAny_pyIter_rangeiter st h
end L2

namespace L2
open PySem PySem.Spec PyProof.Rows
section
variable {X : Cx} {tg : Expr}
def iList (K : PySem.W.Frag) (tl : TE) : TI := fun σ H R => tl σ H fun x H1 => ∃ a, x = .ref a ∧ (∃ xs, SqL K H1 a xs) ∧ R (Itl K a) H1
theorem pi_list {l : Expr} {tl : TE} (hl : PE X l tl) : PI X tg l (iList X.K tl) := by
  intro pins s σ H R I h
  refine thn (hl pins s σ H _ I h) fun v s1 ⟨x, H1, I1, r1, q1⟩ => ?_
  obtain ⟨a, e, ⟨xs, hq⟩, q⟩ := q1
  subst e
  cases r1
  obtain ⟨its, rv, p, hz⟩ := I1.list hq
  refine wpAny_pyIter_list p.isList ?_
  refine ⟨s1.heap.objs.size, [s1.heap.objs.size], _, _, H1, rfl, I1.kept (t' := s1.toks) fun b o e => Heap.get?_push_of_some _ e, turn_list a _, ⟨_, Heap.get?_push_size _ rfl, rfl, rfl⟩, fun b hb => ?_, q⟩
  have e : b = s1.heap.objs.size := by simpa using hb
  subst e
  exact I1.fpOk (Nat.le_refl _) (I1.hok.fresh (Nat.le_refl _))
/-- a range object just made, walked -/
theorem range_it {pins : List (Addr × Obj)} {σ : St} {H : Hp} {s : Shared} {R : It → Hp → Prop} {E : Value → Shared → Prop} {lo hi : Int} {t u v : Tok} {tk : Nat} (I : Inv X pins σ H s) (h1 : -(2 ^ 62) ≤ lo) (h2 : lo < 2 ^ 62) (h3 : -(2 ^ 62) ≤ hi) (h4 : hi < 2 ^ 62)
    (q : R (Itr lo (hi - lo).toNat) H) : wpAny (model X.prog X.w) X.A (pyIter (.ref s.heap.objs.size)) (PIE X pins σ tg R) E { s with heap := s.heap.push { cls := .type "range", data := .fields #[.int lo t, .int hi u, .int 1 v] }, toks := tk } := by
  refine wpAny_pyIter_range (IsRange.new ..) (small_one h1 h2 h3 h4) ?_
  have I1 : Inv X pins σ H { s with heap := s.heap.push { cls := .type "range", data := .fields #[.int lo t, .int hi u, .int 1 v] }, toks := tk } := I.kept fun b o e => Heap.get?_push_of_some _ e
  refine ⟨(s.heap.push { cls := .type "range", data := .fields #[.int lo t, .int hi u, .int 1 v] }).objs.size, [(s.heap.push { cls := .type "range", data := .fields #[.int lo t, .int hi u, .int 1 v] }).objs.size], _, _, H, rfl,
    I1.kept (t' := tk) fun b o e => Heap.get?_push_of_some _ e, turn_range _ lo (hi - lo).toNat, ?_, fun b hb => ?_, q⟩
  · have e1 : lo + ((0 : Nat) : Int) * 1 = lo := by simp
    have e2 : (((hi - lo).toNat : Nat) : Int) - ((0 : Nat) : Int) = Builtin.Range.rangeSize lo hi 1 := by rw [rangeSize_one]; split <;> omega
    show IsRangeIter _ _ (lo + ((0 : Nat) : Int) * 1) ((((hi - lo).toNat : Nat) : Int) - ((0 : Nat) : Int)) 1
    rw [e1, e2]
    exact Heap.get?_push_size _ rfl
  · have e : b = (s.heap.push { cls := .type "range", data := .fields #[.int lo t, .int hi u, .int 1 v] }).objs.size := by simpa using hb
    subst e
    exact I1.fpOk (Nat.le_refl _) (I1.hok.fresh (Nat.le_refl _))
def iRng1 (ta : TA) : TI := fun σ H R => ta σ H fun vs H1 => ∃ j : Int, vs = [.int j] ∧ -(2 ^ 62) ≤ j ∧ j < 2 ^ 62 ∧ R (Itr 0 j.toNat) H1
theorem pi_range1 {a : Expr} {ta : TA} {p pos : Pos} (hg : Gl X "range") (hm : X.mg "range" = none) (ha : PA X [a] ta) (hs : starEach [a] X.env = [(false, eval a X.env)] := by rfl) : PI X tg (.Call (.Name "range" p) [a] [] pos) (iRng1 ta) := by
  intro pins s σ H R I h
  refine Call_ (ld_blt I hg hm boot_range (PyProof.Rows.callWith_type1 (thn (ha pos pins s σ H _ I h) fun us s1 ⟨vs, H1, I1, r1, q1⟩ => ?_) hs rfl))
  obtain ⟨j, e, q1, q2, q⟩ := q1
  subst e
  cases r1 with
  | cons r rr =>
    cases rr
    obtain ⟨t, rfl⟩ := r
    exact call_range_1 (range_it I1 (by omega) (by omega) q1 q2 (by simpa using q))
/-! ### for -/
/-- W: the invariant by the turn and a measure; N: what the body is to reach -/
def tFor (wi : TI) (g : TG) (tb : TS) : TS := fun D σ H => wi σ H fun J H1 => ∃ W : Nat → Nat → St → Hp → Prop, (∃ m, W 0 m σ H1) ∧ ∀ i m σ H, W i m σ H →
  (J.stop i H ∧ D.nx σ H) ∨ (J.go i H ∧ ∃ N : St → Hp → Prop, (∀ σ' H', N σ' H' → ∃ m', m' < m ∧ W (i + 1) m' σ' H') ∧ ∀ x H', J.yld i H x H' → g x σ H' fun σ2 H2 => tb { D with nx := N, ct := N, bk := D.nx } σ2 H2)
/-- the records at fp as they stand -/
def pinsAt (fp : List Addr) (h : Heap) : List (Addr × Obj) := fp.filterMap fun b => (h.get? b).map fun o => (b, o)
theorem mem_pinsAt {fp : List Addr} {h : Heap} {b : Addr} {o : Obj} (hb : b ∈ fp) (e : h.get? b = some o) : (b, o) ∈ pinsAt fp h := List.mem_filterMap.mpr ⟨b, hb, by rw [e]; rfl⟩
theorem of_pinsAt {fp : List Addr} {h : Heap} {p : Addr × Obj} (hp : p ∈ pinsAt fp h) : p.1 ∈ fp ∧ h.get? p.1 = some p.2 := by
  obtain ⟨b, hb, e⟩ := List.mem_filterMap.mp hp
  cases q : h.get? b with
  | none => rw [q] at e; cases e
  | some o =>
    rw [q] at e
    have e' : (b, o) = p := Option.some.inj e
    subst e'
    exact ⟨hb, q⟩
theorem Inv.pinned {pins : List (Addr × Obj)} {σ : St} {H : Hp} {s : Shared} {fp : List Addr} (I : Inv X pins σ H s) (hf : ∀ b ∈ fp, FpOk X pins H b) (ho : ∀ b ∈ fp, ∃ o, s.heap.get? b = some o ∧ ∀ v, o.data ≠ .cell v) : Inv X (pins ++ pinsAt fp s.heap) σ H s :=
  I.pins_of fun p hp => (List.mem_append.mp hp).elim (fun z => I.pin p (List.mem_append_right _ z)) fun z => by
    obtain ⟨hb, e⟩ := of_pinsAt z
    obtain ⟨f0, f1, f2, _⟩ := hf p.1 hb
    obtain ⟨o, e', d⟩ := ho p.1 hb
    rw [e] at e'; cases e'
    exact ⟨e, f0, f1, f2, d⟩
theorem Inv.unpinned {pins pl : List (Addr × Obj)} {σ : St} {H : Hp} {s : Shared} (I : Inv X (pins ++ pl) σ H s) : Inv X pins σ H s := I.pins_of fun p hp => I.pin p (List.mem_append_right _ (List.mem_append_left _ hp))
theorem ps_for {iter : Expr} {body : List Stmt} {wi : TI} {g : TG} {tb : TS} {pos : Pos} (hp : PassesOwn (model X.prog X.w) X.A X.env X.xe) (hc : X.calm = true) (hi : PI X tg iter wi) (hg : PG X tg g) (hb : PSs X body tb)
    (hs : ∀ x, foldedSetIterable iter X.env x = pure x := by intro _; rfl) : PS X (.For tg iter body [] pos) (tFor wi g tb) := by
  intro pins s σ H D I h
  refine wpAny_For (thn (hi pins s σ H _ I h) fun v s1 h1 => thn h1 fun itv s2 h2 => ?_) hs
  obtain ⟨it, fp, tn, J, H2, e, I2, T, st2, f2, W, ⟨m0, w0⟩, turn⟩ := h2
  subst e
  -- what stays true of the iterator's objects through the loop
  have stat : ∀ {H' : Hp}, (∀ b ∈ fp, H' b = none) → ∀ b ∈ fp, FpOk X pins H' b := fun hn b hb => ⟨hn b hb, (f2 b hb).2⟩
  refine codeAny_forLoop_any (fun n s' => ∃ i σ' H', Inv X pins σ' H' s' ∧ tn i s'.heap ∧ (∀ b ∈ fp, H' b = none) ∧ W i n σ' H') ?_ m0 ⟨0, σ, H2, I2, st2, fun b hb => (f2 b hb).1, w0⟩
  rintro n s3 ⟨i, σ3, H3, I3, st3, fr3, w3⟩
  rcases turn i n σ3 H3 w3 with ⟨stop, qn⟩ | ⟨go, N, hN, step⟩
  · refine wpAny_passesOwn hp (thn (T.done X rfl rfl rfl hc i pins s3 σ3 H3 X.xe I3 (stat fr3) st3 stop) fun r s4 ⟨hr, I4⟩ => ?_)
    subst hr
    exact wpAny_execs_nil ⟨σ3, H3, I4, qn⟩
  · refine wpAny_passesOwn hp (thn (T.item X rfl rfl rfl hc i pins s3 σ3 H3 X.xe I3 (stat fr3) st3 go) fun r s4 ⟨u, hr, h4⟩ => ?_)
    subst hr
    refine wpAny_passesOwn hp (thn h4 fun _ s5 ⟨x, H5, I5, r5, y5, st5, fr5⟩ => ?_)
    have I5' := I5.pinned (stat fr5) (T.obj _ _ st5)
    refine wpAny_passesOwn hp (thn (hg _ s5 σ3 H5 x u _ I5' r5 (step x H5 y5)) fun _ s6 ⟨σ6, H6, I6, q6⟩ => ?_)
    refine wpAny_passesOwn hp (thn (hb _ s6 σ6 H6 _ I6 q6) fun f s7 q7 => ?_)
    have again : ∀ {σ7 : St} {H7 : Hp}, Inv X (pins ++ pinsAt fp s5.heap) σ7 H7 s7 → N σ7 H7 → ∃ m, m < n ∧ ∃ i σ' H', Inv X pins σ' H' s7 ∧ tn i s7.heap ∧ (∀ b ∈ fp, H' b = none) ∧ W i m σ' H' := fun {σ7 H7} I7 n7 => by
      obtain ⟨m', hm, w7⟩ := hN σ7 H7 n7
      refine ⟨m', hm, i + 1, σ7, H7, I7.unpinned, T.keep _ _ _ st5 fun b hb o e => (I7.pin (b, o) (List.mem_append_right _ (List.mem_append_right _ (mem_pinsAt hb e)))).1, fun b hb => ?_, w7⟩
      obtain ⟨o, e, d⟩ := T.obj _ _ st5 b hb
      exact (I7.pin (b, o) (List.mem_append_right _ (List.mem_append_right _ (mem_pinsAt hb e)))).2.1
    cases f with
    | next => obtain ⟨σ7, H7, I7, n7⟩ := q7; exact again I7 n7
    | cont => obtain ⟨σ7, H7, I7, n7⟩ := q7; exact again I7 n7
    | brk => obtain ⟨σ7, H7, I7, q7⟩ := q7; exact ⟨σ7, H7, I7.unpinned, q7⟩
    | ret v => obtain ⟨x7, σ7, H7, I7, r7, q7⟩ := q7; exact ⟨x7, σ7, H7, I7.unpinned, r7, q7⟩
end

/-! ### the forms one uses -/
end L2

namespace L2
open PySem PySem.Spec PyProof.Rows

abbrev R2 := V → V → Hp → VK → Prop
/-- a two-place operation on values: f is binaryOp op, inplaceOp op or compareOp op -/
def OpR (X : Cx) (f : Value → Value → Sem Value) (r : R2) : Prop :=
  ∀ (pins : List (Addr × Obj)) (s : Shared) (σ : St) (H : Hp) (x y : V) (v u : Value) (Q : VK), Inv X pins σ H s → RelV x v → RelV y u → r x y H Q →
    wpAny (model X.prog X.w) X.A (f v u) (EP X pins σ Q) X.xe s
/-- a one-place operation -/
def UnR (X : Cx) (f : Value → Sem Value) (r : V → Hp → VK → Prop) : Prop :=
  ∀ (pins : List (Addr × Obj)) (s : Shared) (σ : St) (H : Hp) (x : V) (v : Value) (Q : VK), Inv X pins σ H s → RelV x v → r x H Q →
    wpAny (model X.prog X.w) X.A (f v) (EP X pins σ Q) X.xe s
/-- a call of a value that is known (a builtin, a type) with values -/
def CallR (X : Cx) (f : Value) (r : List V → Hp → VK → Prop) : Prop :=
  ∀ (pins : List (Addr × Obj)) (s : Shared) (σ : St) (H : Hp) (xs : List V) (us : List Value) (Q : VK), Inv X pins σ H s → Vals xs us → r xs H Q →
    wpAny (model X.prog X.w) X.A (call f us) (EP X pins σ Q) X.xe s
def tOp (r : R2) (ta tb : TE) : TE := fun σ H Q => ta σ H fun x H1 => tb σ H1 fun y H2 => r x y H2 Q
def tUn (r : V → Hp → VK → Prop) (ta : TE) : TE := fun σ H Q => ta σ H fun x H1 => r x H1 Q
/-- ints in, under C, and a value out -/
def rI (C : Int → Int → Prop) (g : Int → Int → V) : R2 := fun x y H Q => ∃ i j, x = .int i ∧ y = .int j ∧ C i j ∧ Q (g i j) H
def rI0 (g : Int → Int → V) : R2 := fun x y H Q => ∃ i j, x = .int i ∧ y = .int j ∧ Q (g i j) H
def rU (g : Int → V) : V → Hp → VK → Prop := fun x H Q => ∃ i, x = .int i ∧ Q (g i) H

section
variable {X : Cx} {a b c : Expr} {ta tb tc : TE} {pos : Pos}

theorem binT (ha : PE X a ta) (hb : PE X b tb) {pins : List (Addr × Obj)} {s : Shared} {σ : St} {H : Hp} {R : V → V → Hp → Prop} (I : Inv X pins σ H s)
    (h : ta σ H fun x H1 => tb σ H1 fun y H2 => R x y H2) {Q : Value → Shared → Prop} {f : Value → Value → Sem Value}
    (hf : ∀ v u s2 x y H2, Inv X pins σ H2 s2 → RelV x v → RelV y u → R x y H2 → wpAny (model X.prog X.w) X.A (f v u) Q X.xe s2) :
    wpAny (model X.prog X.w) X.A (eval a X.env) (fun v s₁ => wpAny (model X.prog X.w) X.A (eval b X.env) (fun u s₂ => wpAny (model X.prog X.w) X.A (f v u) Q X.xe s₂) X.xe s₁) X.xe s := by
  refine thn (ha pins s σ H _ I h) fun v s1 ⟨x, H1, I1, r1, q1⟩ => ?_
  refine thn (hb pins s1 σ H1 _ I1 q1) fun u s2 ⟨y, H2, I2, r2, q2⟩ => ?_
  exact hf v u s2 x y H2 I2 r1 r2 q2

theorem pe_op {op : Operator} {r : R2} (ho : OpR X (binaryOp op) r) (ha : PE X a ta) (hb : PE X b tb) : PE X (.BinOp a op b pos) (tOp r ta tb) := by
  intro pins s σ H Q I h
  exact wpAny_BinOp (binT ha hb I h fun v u s2 x y H2 I2 rx ry q => ho pins s2 σ H2 x y v u Q I2 rx ry q)
theorem pe_un {op : UnaryOp} {r : V → Hp → VK → Prop} (ho : UnR X (unaryOp op) r) (ha : PE X a ta) : PE X (.UnaryOp op a pos) (tUn r ta) := by
  intro pins s σ H Q I h
  exact UnaryOp_ (thn (ha pins s σ H _ I h) fun v s1 ⟨x, H1, I1, r1, q1⟩ => ho pins s1 σ H1 x v Q I1 r1 q1)
/-! ### ints -/
theorem opI {f : Value → Value → Sem Value} {C : Int → Int → Prop} {g : Int → Int → Int}
    (rule : ∀ (i j : Int) (t u : Tok) (s : Shared) (Q : Value → Shared → Prop) (E : Value → Shared → Prop), C i j → Q (.int (g i j) s.toks) { s with toks := s.toks + 1 } → wpAny (model X.prog X.w) X.A (f (.int i t) (.int j u)) Q E s) :
    OpR X f (rI C fun i j => .int (g i j)) := by
  intro pins s σ H x y v u Q I rx ry h
  obtain ⟨i, j, rfl, rfl, hc, q⟩ := h
  obtain ⟨t, rfl⟩ := rx
  obtain ⟨t', rfl⟩ := ry
  exact rule i j t t' s _ _ hc ⟨.int (g i j), H, I.tok _, ⟨_, rfl⟩, q⟩
theorem opI0 {f : Value → Value → Sem Value} {g : Int → Int → Int}
    (rule : ∀ (i j : Int) (t u : Tok) (s : Shared) (Q : Value → Shared → Prop) (E : Value → Shared → Prop), Q (.int (g i j) s.toks) { s with toks := s.toks + 1 } → wpAny (model X.prog X.w) X.A (f (.int i t) (.int j u)) Q E s) :
    OpR X f (rI0 fun i j => .int (g i j)) := by
  intro pins s σ H x y v u Q I rx ry h
  obtain ⟨i, j, rfl, rfl, q⟩ := h
  obtain ⟨t, rfl⟩ := rx
  obtain ⟨t', rfl⟩ := ry
  exact rule i j t t' s _ _ ⟨.int (g i j), H, I.tok _, ⟨_, rfl⟩, q⟩
theorem opB0 {f : Value → Value → Sem Value} {g : Int → Int → Bool}
    (rule : ∀ (i j : Int) (t u : Tok) (s : Shared) (Q : Value → Shared → Prop) (E : Value → Shared → Prop), Q (.bool (g i j)) s → wpAny (model X.prog X.w) X.A (f (.int i t) (.int j u)) Q E s) :
    OpR X f (rI0 fun i j => .bl (g i j)) := by
  intro pins s σ H x y v u Q I rx ry h
  obtain ⟨i, j, rfl, rfl, q⟩ := h
  obtain ⟨t, rfl⟩ := rx
  obtain ⟨t', rfl⟩ := ry
  exact rule i j t t' s _ _ ⟨.bl (g i j), H, I, rfl, q⟩

def CDiv (i j : Int) : Prop := 0 < j ∧ j < 1073741824
def CPow (i j : Int) : Prop := 0 ≤ j ∧ j ≤ 1000000 ∧ i.natAbs < 2 ^ 64
def CMul (i j : Int) : Prop := (-(2 ^ 64) < i ∧ i < 2 ^ 64) ∨ (-(2 ^ 64) < j ∧ j < 2 ^ 64)
theorem CMul.ok {i j : Int} (h : CMul i j) : IntMulOk i j := by
  rcases h with ⟨h1, h2⟩ | ⟨h1, h2⟩
  · exact .of_left (intBits_le_64 h1 h2)
  · exact .of_right (intBits_le_64 h1 h2)
theorem op_add : OpR X (binaryOp .Add) (rI0 fun i j => .int (i + j)) := opI0 fun _ _ _ _ _ _ _ q => add_int q
theorem op_sub : OpR X (binaryOp .Sub) (rI0 fun i j => .int (i - j)) := opI0 fun _ _ _ _ _ _ _ q => sub_int q
theorem op_mul : OpR X (binaryOp .Mult) (rI CMul fun i j => .int (i * j)) := opI fun _ _ _ _ _ _ _ hc q => mul_int q hc.ok
/-- // by a positive divisor -/
theorem op_fdiv : OpR X (binaryOp .FloorDiv) (rI CDiv fun i j => .int (i / j)) := opI fun i j _ _ _ _ _ hc q => by
  have h1 : (0 : Int) < j := hc.1
  have h2 : j < 1073741824 := hc.2
  exact floordiv_int (by omega) (by rw [Int.fdiv_eq_ediv_of_nonneg i (by omega)]; exact q) (.inl (PyProof.noPylong_small (by omega)))
/-- % by a positive divisor of any size -/
theorem op_mod : OpR X (binaryOp .Mod) (rI (fun _ j => 0 < j) fun i j => .int (i % j)) := opI fun i j _ _ _ _ _ hc q => by
  have h1 : (0 : Int) < j := hc
  exact mod_int' (by omega) (by rw [Int.fmod_eq_emod_of_nonneg i (by omega)]; exact q)
theorem op_pow : OpR X (binaryOp .Pow) (rI CPow fun i j => .int (i ^ j.toNat)) := opI fun _ _ _ _ _ _ _ hc q => pow_int_small hc.1 hc.2.1 hc.2.2 q
theorem unI {f : Value → Sem Value} {g : Int → Int}
    (rule : ∀ (i : Int) (t : Tok) (s : Shared) (Q : Value → Shared → Prop) (E : Value → Shared → Prop), Q (.int (g i) s.toks) { s with toks := s.toks + 1 } → wpAny (model X.prog X.w) X.A (f (.int i t)) Q E s) :
    UnR X f (rU fun i => .int (g i)) := by
  intro pins s σ H x v Q I rx h
  obtain ⟨i, rfl, q⟩ := h
  obtain ⟨t, rfl⟩ := rx
  exact rule i t s _ _ ⟨.int (g i), H, I.tok _, ⟨_, rfl⟩, q⟩
theorem un_neg : UnR X (unaryOp .USub) (rU fun i => .int (-i)) := unI fun _ _ _ _ _ q => neg_int q
/-! ### bools among ints: n += (a < b) -/
end

/-! ### comparisons -/
/-- the scalars that == tells apart as data does -/
def scal : V → V → Bool
  | .non, .non => true | .non, .int _ => true | .int _, .non => true | .non, .bl _ => true | .bl _, .non => true | .non, .str _ => true | .str _, .non => true
  | .int _, .int _ => true | .bl _, .bl _ => true | .str _, .str _ => true | .byt _, .byt _ => true
  | .int _, .str _ => true | .str _, .int _ => true | .bl _, .str _ => true | .str _, .bl _ => true
  | _, _ => false
def rEq : R2 := fun x y H Q => scal x y = true ∧ Q (.bl (decide (x = y))) H
def rNe : R2 := fun x y H Q => scal x y = true ∧ Q (.bl (!decide (x = y))) H

theorem dec_int {i j : Int} : decide (V.int i = V.int j) = (i == j) := by
  rw [Bool.eq_iff_iff]
  simp
theorem dec_bl {i j : Bool} : decide (V.bl i = V.bl j) = (i == j) := by
  rw [Bool.eq_iff_iff]
  simp
theorem dec_str {i j : Str} : decide (V.str i = V.str j) = (i == j) := by
  rw [Bool.eq_iff_iff]
  simp
theorem dec_byt {i j : Array UInt8} : decide (V.byt i = V.byt j) = (i.toList == j.toList) := by
  rw [Bool.eq_iff_iff]
  cases i
  cases j
  simp

section
variable {X : Cx} {a b c : Expr} {ta tb tc : TE} {pos : Pos}
theorem fin_bl {pins : List (Addr × Obj)} {σ : St} {H : Hp} {s : Shared} {Q : VK} {k k' : Bool} (I : Inv X pins σ H s) (q : Q (.bl k) H) (e : k = k') : EP X pins σ Q (.bool k') s := by
  subst e
  exact ⟨.bl k, H, I, rfl, q⟩
theorem op_eq : OpR X (compareOp .Eq) rEq := by
  intro pins s σ H x y v u Q I rx ry h
  obtain ⟨hs, q⟩ := h
  cases x with
  | non =>
    cases rx
    cases y with
    | non => cases ry; exact PySem.EqNone.eq_none_none (fin_bl I q (by simp))
    | bl j => cases ry; exact PySem.EqNone.eq_none_bool (fin_bl I q (by simp))
    | int j => obtain ⟨t', rfl⟩ := ry; exact PySem.EqNone.eq_none_int (fin_bl I q (by simp))
    | str j => obtain ⟨t', rfl⟩ := ry; exact PySem.EqNone.eq_none_str (fin_bl I q (by simp))
    | _ => exact absurd (show false = true from hs) Bool.false_ne_true
  | bl i =>
    cases rx
    cases y with
    | non => cases ry; exact PySem.EqNone.eq_bool_none (fin_bl I q (by simp))
    | bl j => cases ry; exact eq_bool (fin_bl I q dec_bl)
    | str j => obtain ⟨t', rfl⟩ := ry; exact PySem.EqMixed.eq_bool_str (fin_bl I q (by simp))
    | _ => exact absurd (show false = true from hs) Bool.false_ne_true
  | int i =>
    obtain ⟨t, rfl⟩ := rx
    cases y with
    | non => cases ry; exact PySem.EqNone.eq_int_none (fin_bl I q (by simp))
    | int j => obtain ⟨t', rfl⟩ := ry; exact eq_int (fin_bl I q dec_int)
    | str j => obtain ⟨t', rfl⟩ := ry; exact PySem.EqMixed.eq_int_str (fin_bl I q (by simp))
    | _ => exact absurd (show false = true from hs) Bool.false_ne_true
  | str i =>
    obtain ⟨t, rfl⟩ := rx
    cases y with
    | non => cases ry; exact PySem.EqNone.eq_str_none (fin_bl I q (by simp))
    | bl j => cases ry; exact PySem.EqMixed.eq_str_bool (fin_bl I q (by simp))
    | int j => obtain ⟨t', rfl⟩ := ry; exact PySem.EqMixed.eq_str_int (fin_bl I q (by simp))
    | str j => obtain ⟨t', rfl⟩ := ry; exact eq_str (fin_bl I q dec_str)
    | _ => exact absurd (show false = true from hs) Bool.false_ne_true
  | byt i =>
    obtain ⟨t, rfl⟩ := rx
    cases y with
    | byt j => obtain ⟨t', rfl⟩ := ry; exact PySem.W.eq_bytes (fin_bl I q dec_byt)
    | _ => exact absurd (show false = true from hs) Bool.false_ne_true
  | _ => cases y <;> exact absurd (show false = true from hs) Bool.false_ne_true
theorem op_ne : OpR X (compareOp .NotEq) rNe := by
  intro pins s σ H x y v u Q I rx ry h
  obtain ⟨hs, q⟩ := h
  cases x with
  | non =>
    cases rx
    cases y with
    | non => cases ry; exact PySem.EqNone.ne_none_none (fin_bl I q (by simp))
    | bl j => cases ry; exact PySem.EqNone.ne_none_bool (fin_bl I q (by simp))
    | int j => obtain ⟨t', rfl⟩ := ry; exact PySem.EqNone.ne_none_int (fin_bl I q (by simp))
    | str j => obtain ⟨t', rfl⟩ := ry; exact PySem.EqNone.ne_none_str (fin_bl I q (by simp))
    | _ => exact absurd (show false = true from hs) Bool.false_ne_true
  | bl i =>
    cases rx
    cases y with
    | non => cases ry; exact PySem.EqNone.ne_bool_none (fin_bl I q (by simp))
    | bl j => cases ry; exact ne_bool (fin_bl I q (congrArg not dec_bl))
    | str j => obtain ⟨t', rfl⟩ := ry; exact PySem.EqMixed.ne_bool_str (fin_bl I q (by simp))
    | _ => exact absurd (show false = true from hs) Bool.false_ne_true
  | int i =>
    obtain ⟨t, rfl⟩ := rx
    cases y with
    | non => cases ry; exact PySem.EqNone.ne_int_none (fin_bl I q (by simp))
    | int j => obtain ⟨t', rfl⟩ := ry; exact ne_int (fin_bl I q (congrArg not dec_int))
    | str j => obtain ⟨t', rfl⟩ := ry; exact PySem.EqMixed.ne_int_str (fin_bl I q (by simp))
    | _ => exact absurd (show false = true from hs) Bool.false_ne_true
  | str i =>
    obtain ⟨t, rfl⟩ := rx
    cases y with
    | non => cases ry; exact PySem.EqNone.ne_str_none (fin_bl I q (by simp))
    | bl j => cases ry; exact PySem.EqMixed.ne_str_bool (fin_bl I q (by simp))
    | int j => obtain ⟨t', rfl⟩ := ry; exact PySem.EqMixed.ne_str_int (fin_bl I q (by simp))
    | str j => obtain ⟨t', rfl⟩ := ry; exact ne_str (fin_bl I q (congrArg not dec_str))
    | _ => exact absurd (show false = true from hs) Bool.false_ne_true
  | byt i =>
    obtain ⟨t, rfl⟩ := rx
    cases y with
    | byt j => obtain ⟨t', rfl⟩ := ry; exact PySem.W.ne_bytes (fin_bl I q (congrArg not dec_byt))
    | _ => exact absurd (show false = true from hs) Bool.false_ne_true
  | _ => cases y <;> exact absurd (show false = true from hs) Bool.false_ne_true

theorem op_lt : OpR X (compareOp .Lt) (rI0 fun i j => .bl (decide (i < j))) := opB0 fun _ _ _ _ _ _ _ q => lt_int q
theorem op_le : OpR X (compareOp .LtE) (rI0 fun i j => .bl (decide (i ≤ j))) := opB0 fun _ _ _ _ _ _ _ q => le_int q
theorem op_gt : OpR X (compareOp .Gt) (rI0 fun i j => .bl (decide (j < i))) := opB0 fun _ _ _ _ _ _ _ q => gt_int q
/-- two rules for one operation: by cases -/
theorem OpR.or {f : Value → Value → Sem Value} {r r' : R2} (h : OpR X f r) (h' : OpR X f r') : OpR X f (fun x y H Q => r x y H Q ∨ r' x y H Q) := by
  intro pins s σ H x y v u Q I rx ry q
  rcases q with q | q
  · exact h pins s σ H x y v u Q I rx ry q
  · exact h' pins s σ H x y v u Q I rx ry q

theorem nomark (b : Expr) {op : CmpOp} (h : op ≠ .In := by decide) (h2 : op ≠ .NotIn := by decide) : behindInMarks op b = false := by
  have e1 : (op == CmpOp.In) = false := by cases op <;> first | rfl | exact absurd rfl h
  have e2 : (op == CmpOp.NotIn) = false := by cases op <;> first | rfl | exact absurd rfl h2
  cases b <;> simp [behindInMarks, e1, e2]
/-- a comparison as a value; hm: nomark b, or (for in, not in) by with_unfolding_all rfl -/
theorem pe_cmpR {op : CmpOp} {r : R2} (ho : OpR X (compareOp op) r) (ha : PE X a ta) (hb : PE X b tb) (hm : behindInMarks op b = false) : PE X (.Compare a [op] [b] pos) (tOp r ta tb) := by
  intro pins s σ H Q I h
  exact wpAny_Compare1 (binT ha hb I h fun v u s2 x y H2 I2 rx ry q => ho pins s2 σ H2 x y v u Q I2 rx ry q) hm
/-- a reading of a value as a test -/
def tTest (t : TE) : TT := fun σ H Q => t σ H fun x H' => ∃ k, x = .bl k ∧ Q k H'
theorem pt_cmpR {op : CmpOp} {r : R2} (ho : OpR X (compareOp op) r) (ha : PE X a ta) (hb : PE X b tb) (hm : behindInMarks op b = false) : PT X (.Compare a [op] [b] pos) (tTest (tOp r ta tb)) := by
  intro pins s σ H Q I h
  refine wpAny_isTrue_Compare1 (thn (ha pins s σ H _ I h) fun v s1 ⟨x, H1, I1, r1, q1⟩ => thn (hb pins s1 σ H1 _ I1 q1) fun u s2 ⟨y, H2, I2, r2, q2⟩ =>
    thn (ho pins s2 σ H2 x y v u _ I2 r1 r2 q2) fun c s3 ⟨z, H3, I3, r3, k, e, q3⟩ => ?_) hm
  subst e
  cases r3
  exact wpAny_truthy_bool ⟨H3, I3, q3⟩
/-- a op1 b op2 c -/
def tChain (r r' : R2) (ta tb tc : TE) : TE := fun σ H Q => ta σ H fun x H1 => tb σ H1 fun y H2 => r x y H2 fun z H3 => ∃ k, z = .bl k ∧
  (if k = true then tc σ H3 fun w' H4 => r' y w' H4 Q else Q (.bl false) H3)
theorem pt_chain {op op' : CmpOp} {r r' : R2} (ho : OpR X (compareOp op) r) (ho' : OpR X (compareOp op') r') (ha : PE X a ta) (hb : PE X b tb) (hc : PE X c tc)
    (hm : lastMarks [op, op'] [b, c] = false := by with_unfolding_all rfl) : PT X (.Compare a [op, op'] [b, c] pos) (tTest (tChain r r' ta tb tc)) := by
  intro pins s σ H Q I h
  refine isTrue_chain (thn (ha pins s σ H _ I h) fun v s1 ⟨x, H1, I1, r1, q1⟩ => test_link (thn (hb pins s1 σ H1 _ I1 q1) fun u s2 ⟨y, H2, I2, r2, q2⟩ =>
    thn (ho pins s2 σ H2 x y v u _ I2 r1 r2 q2) fun d s3 ⟨z, H3, I3, r3, k, e, q3⟩ => ?_)) hm
  subst e
  cases r3
  refine wpAny_truthy_bool ?_
  cases k with
  | false =>
    obtain ⟨k', e', q'⟩ := q3
    cases e'
    exact ite_ff ⟨H3, I3, q'⟩
  | true =>
    refine ite_tt (test_last (thn (hc pins s3 σ H3 _ I3 q3) fun w' s4 ⟨z', H4, I4, r4, q4⟩ => thn (ho' pins s4 σ H4 y z' u w' _ I4 r2 r4 q4) fun d' s5 ⟨z2, H5, I5, r5, k2, e2, q5⟩ => ?_))
    subst e2
    cases r5
    exact wpAny_truthy_bool ⟨H5, I5, q5⟩

/-! ### truth -/
theorem line63 : (sizeLine : Nat) < 2 ^ 63 := by rw [sizeLine_eq]; decide
/-! ### strs and bytes -/
theorem op_add_str : OpR X (binaryOp .Add) (fun x y H Q => ∃ i j, x = .str i ∧ y = .str j ∧ i.length + j.length ≤ sizeLine ∧ Q (.str (i ++ j)) H) := by
  intro pins s σ H x y v u Q I rx ry h
  obtain ⟨i, j, rfl, rfl, hz, q⟩ := h
  obtain ⟨t, rfl⟩ := rx
  obtain ⟨t', rfl⟩ := ry
  exact add_str (fun t' tk => ⟨.str (i ++ j), H, I.tok _, ⟨_, rfl⟩, q⟩) hz
/-! ### scalar builtins, by CallR -/
theorem vals1 {x : V} {us : List Value} (r : Vals [x] us) : ∃ u, us = [u] ∧ RelV x u := by
  cases r with
  | cons r1 r2 => cases r2; exact ⟨_, rfl, r1⟩
theorem vals2 {x y : V} {us : List Value} (r : Vals [x, y] us) : ∃ u w', us = [u, w'] ∧ RelV x u ∧ RelV y w' := by
  cases r with
  | cons r1 r2 =>
    cases r2 with
    | cons r3 r4 => cases r4; exact ⟨_, _, rfl, r1, r3⟩
theorem call_max2 (hc : X.calm = true) : CallR X (.builtin "max") (fun xs H Q => ∃ i j, xs = [.int i, .int j] ∧ Q (.int (if j > i then j else i)) H) := by
  intro pins s σ H xs us Q I r h
  obtain ⟨i, j, rfl, q⟩ := h
  obtain ⟨u, w', rfl, ⟨t, rfl⟩, ⟨t', rfl⟩⟩ := vals2 r
  refine max_two_ints (I.ok.hd hc) fun h' tk k => ⟨_, H, I.kept k, ?_, q⟩
  by_cases hj : j > i
  · rw [if_pos hj, if_pos hj]; exact ⟨_, rfl⟩
  · rw [if_neg hj, if_neg hj]; exact ⟨_, rfl⟩
theorem call_int1 : CallR X (.type "int") (fun xs H Q => (∃ i, xs = [.int i] ∧ Q (.int i) H) ∨ ∃ k, xs = [.bl k] ∧ Q (.int (if k then 1 else 0)) H) := by
  intro pins s σ H xs us Q I r h
  rcases h with ⟨i, rfl, q⟩ | ⟨k, rfl, q⟩
  · obtain ⟨u, rfl, t, rfl⟩ := vals1 r
    exact call_int_int ⟨.int i, H, I, ⟨_, rfl⟩, q⟩
  · obtain ⟨u, rfl, r1⟩ := vals1 r
    cases r1
    exact call_int_bool ⟨.int (if k then 1 else 0), H, I.tok _, ⟨_, rfl⟩, q⟩
end
end L2

namespace L2
open PySem PySem.Spec PyProof.Rows

/-! ### an instance, its attributes a map -/
structure ObjM (h : Heap) (x dx C : Addr) (mA : Str → Option Value) : Prop where
  obj : h.get? x = some (PySem.W.instObj C dx)
  ns : h.Ns1 dx mA
  ne : dx ≠ x

theorem lookIn_ns {h : Heap} {dx : Addr} {mA : Str → Option Value} (n : h.Ns1 dx mA) : ∃ od, h.get? dx = some od ∧ ∀ name, PySem.W.lookIn name od = some (mA name) := by
  obtain ⟨o, es, ep, ho, hd, hk, _, hm⟩ := n
  refine ⟨o, ho, fun name => ?_⟩
  have e := hm name
  unfold nsFind findBy at e
  rw [← Array.find?_toList] at e
  unfold PySem.W.lookIn
  rw [hd]
  dsimp only
  split
  · rename_i y q
    rw [q] at e
    exact congrArg some e
  · rename_i q
    rw [q] at e
    have a : es.toList.any (·.refKey) = false := by
      rw [List.any_eq_false]
      intro y hy
      obtain ⟨z, t, hkey⟩ := hk y (Array.mem_toList_iff.mp hy)
      simp [DictEntry.refKey, hkey]
    have a' : ¬ es.toList.any (·.refKey) = true := by rw [a]; exact Bool.false_ne_true
    rw [if_neg a']
    exact congrArg some e

theorem ObjM.look {h : Heap} {x dx C : Addr} {mA : Str → Option Value} (I : ObjM h x dx C mA) : ∃ od, PySem.W.InstAt h x (PySem.W.instObj C dx) C (some od) ∧ ∀ name, PySem.W.lookIn name od = some (mA name) :=
  let ⟨od, ho, hl⟩ := lookIn_ns I.ns
  ⟨od, ⟨I.obj, rfl, rfl, ho⟩, hl⟩

section
variable {prog : Program} {w : World} {A : Around} {E : Value → Shared → Prop} {s : Shared} {K : PySem.W.Frag} {x dx C f : Addr} {mA : Str → Option Value} {name : Str} {v : Value}

theorem get_map {expr : Bool} {Q : Value → Shared → Prop} (X : K.In s.heap) (I : ObjM s.heap x dx C mA) (hg : PySem.W.plainGet K C name = true) (hh : PySem.W.hasDictIn K C = true)
    (ha : PySem.W.findIn K (.ref C) name = some none) (hv : mA name = some v) (hv' : PySem.W.handedIn v = true) (h : Q v { s with toks := s.toks + 1 }) :
    wpAny (model prog w) A (getAttr (.ref x) name expr) Q E s := by
  obtain ⟨od, J, hl⟩ := I.look
  exact PySem.W.get_value X J (PySem.W.plainGet_of hg).1 (PySem.W.findObj_own hh ha rfl (by rw [hl, hv])) hv' h

theorem get_meth {pl : Sem Bool} {Q : Value × List Value → Shared → Prop} (X : K.In s.heap) (I : ObjM s.heap x dx C mA) (hg : PySem.W.plainGet K C name = true)
    (hf : PySem.W.findIn K (.ref C) name = some (some (.ref f))) (ht : PySem.W.isFn K (.ref f) = true) (hv : mA name = none) (h : Q (.ref f, [.ref x]) s) :
    wpAny (model prog w) A (getMethod (.ref x) name pl) Q E s := by
  obtain ⟨od, J, hl⟩ := I.look
  exact PySem.W.method_fn X J (PySem.W.plainGet_of hg).1 (PySem.W.plainGet_of hg).2 hf (beq_iff_eq.mp ht) (by show (PySem.W.lookIn name od).map (·.isSome) = some false; rw [hl, hv]; rfl) h

theorem set_map {ns : List Str} {Q : Unit → Shared → Prop} (X : K.In s.heap) (I : ObjM s.heap x dx C mA)
    (hs : PySem.W.findIn K (.ref C) "__setattr__" = some (some (.builtin "object.__setattr__"))) (hp : PySem.W.plainOver K C = true) (ht : PySem.W.takerIn K C name = some none) (hh : PySem.W.hasDictIn K C = true)
    (hw : PySem.Within mA ns) (hsz : ns.length ≤ sizeLine)
    (h : ∀ h', ObjM h' x dx C (fun y => if y = name then some v else mA y) → Heap.SameBut dx s.heap h' → Q () { s with heap := h', toks := s.toks + 2 }) :
    wpAny (model prog w) A (setAttr (.ref x) name v) Q E s := by
  obtain ⟨od, J, hl⟩ := I.look
  refine PySem.W.set_plain X J hs (PySem.W.osa_open (s := { s with toks := s.toks + 1 }) (r := none) X J hp ht fun b => ?_)
  obtain ⟨cd, hc, hd'⟩ := PySem.W.any_some hh
  have hx : s.heap.get? x = some ⟨.ref C, some dx, .plain, #[]⟩ := I.obj
  refine wpAny_bind (wpAny_pure (wpAny_bind (wpAny_bind (wpAny_loadPart hx (wpAny_bind (PySem.W.Looks.here (s := { s with toks := s.toks + 1 }) (PySem.W.looks_clsIn X hc) ?_))))))
  rw [hd']
  refine wpAny_pure (a := some dx) (wpAny_bind (wpAny_pure (wpAny_bind ?_)))
  refine wpAny_nsSet1 (s := { s with toks := s.toks + 1 }) I.ns fun h' hn2 hs2 => ?_
  obtain ⟨oD, esD, epD, hoD, hdD, hcD⟩ := hn2.count (PySem.Within.cons name v hw)
  refine wpAny_bind (wpAny_lookBehind hoD (by rw [hdD]; exact pastItsLine_dict (Nat.le_trans hcD (by rw [List.length_cons]; omega))) ?_)
  exact wpAny_pure (h _ ⟨(hs2.2 _ (Ne.symm I.ne)).trans I.obj, hn2, I.ne⟩ hs2)

/-- C(..): the dict at the heap's end, the instance behind it; then its __init__ -/
theorem make_map {R : Result → Shared → Prop} {vs : List Value} {kw : List (Str × Value)} (X : K.In s.heap) (hm : PySem.W.makesIn K C = true)
    (hi : PySem.W.findIn K (.ref C) "__init__" = some (some (.ref f))) (hf : PySem.W.typeIn K (.ref f) = some (.type "function"))
    (h : codeAny (model prog w) (A.under (.builtin "type.__call__" ⟨.ref C :: vs, kw⟩)) (.call (.ref f) ⟨.ref (s.heap.objs.size + 1) :: vs, kw⟩) (PySem.W.InitBack (s.heap.objs.size + 1) R)
      { s with heap := (s.heap.push PySem.W.emptyDict).push (PySem.W.instObj C s.heap.objs.size) }) :
    codeAny (model prog w) A (.call (.ref C) ⟨vs, kw⟩) R s := by
  obtain ⟨hh, g, d, t, os⟩ := s
  exact PySem.W.make_core (PySem.W.makes_of X hm) (PySem.W.looks_findIn X hi) (fun self => PySem.W.bind_fn X self hf) (.inl rfl) h
end

/-! ### the attributes as a list of pairs -/
def putF (f : Str) (v : V) : List (Str × V) → List (Str × V)
  | [] => [(f, v)]
  | (g, x) :: r => if g = f then (g, v) :: r else (g, x) :: putF f v r
theorem lookup_putF (f g : Str) (v : V) : ∀ fs : List (Str × V), (putF f v fs).lookup g = if g = f then some v else fs.lookup g
  | [] => by
    show List.lookup g [(f, v)] = _
    by_cases h : g = f
    · have hb : (g == f) = true := beq_iff_eq.mpr h
      simp only [List.lookup, hb, if_pos h]
    · have hb : (g == f) = false := beq_eq_false_iff_ne.mpr h
      simp only [List.lookup, hb, if_neg h]
  | (k, x) :: r => by
    have ih := lookup_putF f g v r
    rw [show putF f v ((k, x) :: r) = (if k = f then (k, v) :: r else (k, x) :: putF f v r) from rfl]
    by_cases hk : k = f
    · rw [if_pos hk]
      by_cases h : g = k
      · have hb : (g == k) = true := beq_iff_eq.mpr h
        simp only [List.lookup, hb, if_pos (h.trans hk)]
      · have hb : (g == k) = false := beq_eq_false_iff_ne.mpr h
        simp only [List.lookup, hb, if_neg (fun e : g = f => h (e.trans hk.symm))]
    · rw [if_neg hk]
      by_cases h : g = k
      · have hb : (g == k) = true := beq_iff_eq.mpr h
        simp only [List.lookup, hb, if_neg (fun e : g = f => hk (h.symm.trans e))]
      · have hb : (g == k) = false := beq_eq_false_iff_ne.mpr h
        simp only [List.lookup, hb]
        exact ih
theorem keys_putF (f : Str) (v : V) : ∀ fs : List (Str × V), f ∈ (putF f v fs).map (·.1) ∧ ∀ g, g ∈ fs.map (·.1) → g ∈ (putF f v fs).map (·.1)
  | [] => ⟨by simp [putF], fun g h => by simp at h⟩
  | (k, x) :: r => by
    obtain ⟨i1, i2⟩ := keys_putF f v r
    rw [show putF f v ((k, x) :: r) = (if k = f then (k, v) :: r else (k, x) :: putF f v r) from rfl]
    by_cases hk : k = f
    · rw [if_pos hk]
      subst hk
      exact ⟨by simp, fun g h => by simpa using h⟩
    · rw [if_neg hk]
      refine ⟨?_, fun g h => ?_⟩
      · rw [List.map_cons]
        exact List.mem_cons_of_mem _ i1
      · rw [List.map_cons] at h ⊢
        rcases List.mem_cons.mp h with e | e
        · exact List.mem_cons.mpr (.inl e)
        · exact List.mem_cons_of_mem _ (i2 g e)
theorem length_putF (f : Str) (v : V) : ∀ fs : List (Str × V), (putF f v fs).length ≤ fs.length + 1
  | [] => by simp [putF]
  | (k, x) :: r => by
    have ih := length_putF f v r
    rw [show putF f v ((k, x) :: r) = (if k = f then (k, v) :: r else (k, x) :: putF f v r) from rfl]
    by_cases hk : k = f
    · rw [if_pos hk, List.length_cons, List.length_cons]; omega
    · rw [if_neg hk, List.length_cons, List.length_cons]; omega

theorem RelO.some_of {v : V} {o : Option Value} (r : RelO (some v) o) : ∃ u, o = some u ∧ RelV v u := by
  cases o with
  | none => exact (show False from r).elim
  | some u => exact ⟨u, rfl, r⟩
theorem RelO.none_of {o : Option Value} (r : RelO none o) : o = none := by
  cases o with
  | none => rfl
  | some u => exact (show False from r).elim
theorem handed_of {v : V} {u : Value} (r : RelV v u) : PySem.W.handedIn u = true := by
  cases v with
  | non => cases (show u = Value.none from r); rfl
  | bl b => cases (show u = Value.bool b from r); rfl
  | int i => obtain ⟨t, e⟩ := (show ∃ t, u = Value.int i t from r); cases e; rfl
  | str x => obtain ⟨t, e⟩ := (show ∃ t, u = Value.str x t from r); cases e; rfl
  | byt b => obtain ⟨t, e⟩ := (show ∃ t, u = Value.bytes b t from r); cases e; rfl
  | flt b => obtain ⟨t, e⟩ := (show ∃ t, u = Value.float b t from r); cases e; rfl
  | ref a => cases (show u = Value.ref a from r); rfl
  | ty n => cases (show u = Value.type n from r); rfl

section
variable {P : Program} {w : World} {H H' : Hp} {h h' : Heap} {a C dx : Addr} {fs fs' : List (Str × V)}
theorem ins_get (hok : HOk P w H h) (e : H a = some (.ins C dx fs)) : ∃ mA, ObjM h a dx C mA ∧ (∀ f, RelO (fs.lookup f) (mA f)) ∧ PySem.Within mA (fs.map (·.1)) ∧ fs.length ≤ 1000 ∧ H dx = some (.own a) := by
  obtain ⟨d, z, ne, ob, mA, n, r, q⟩ := (show ObjOk P w H h a (.ins C dx fs) from hok a _ e)
  exact ⟨mA, ⟨ob, n, ne⟩, r, q, z, d⟩
end

/-! ### what of the text a class must have -/
structure Cls (K : PySem.W.Frag) (C : Addr) : Prop where
  pg : PySem.W.plainGet K C Str.empty = true
  hd : PySem.W.hasDictIn K C = true
  po : PySem.W.plainOver K C = true
  sa : PySem.W.findIn K (.ref C) "__setattr__" = some (some (.builtin "object.__setattr__"))
theorem Cls.get {K : PySem.W.Frag} {C : Addr} (c : Cls K C) (f : Str) : PySem.W.plainGet K C f = true := c.pg
/-- no class of it has the name -/
def NoAttr (K : PySem.W.Frag) (C : Addr) (f : Str) : Prop := PySem.W.findIn K (.ref C) f = some none
theorem NoAttr.taker {K : PySem.W.Frag} {C : Addr} {f : Str} (n : NoAttr K C f) : PySem.W.takerIn K C f = some none := by
  unfold PySem.W.takerIn
  rw [show PySem.W.findIn K (.ref C) f = some none from n]
  rfl
/-- a method: a plain def of the class or of one above it -/
structure Meth (K : PySem.W.Frag) (C : Addr) (m : Str) (f : Addr) : Prop where
  at_ : PySem.W.findIn K (.ref C) m = some (some (.ref f))
  fn : PySem.W.isFn K (.ref f) = true
  kp : PySem.W.keepIn K (.ref f) = true

section
variable {X : Cx} {pins : List (Addr × Obj)} {σ : St} {H : Hp} {s : Shared} {a C dx : Addr} {fs : List (Str × V)} {f : Str} {v : V} {A : Around} {E : Value → Shared → Prop}

theorem getattr_ok {b : Bool} {Q : Value → Shared → Prop} (I : Inv X pins σ H s) (e : H a = some (.ins C dx fs)) (c : Cls X.K C) (n : NoAttr X.K C f) (l : fs.lookup f = some v)
    (h : ∀ u s', Inv X pins σ H s' → RelV v u → Q u s') : wpAny (model X.prog X.w) A (getAttr (.ref a) f b) Q E s := by
  obtain ⟨mA, O, r, _, _, _⟩ := ins_get I.hok e
  obtain ⟨u, hu, ru⟩ := RelO.some_of (v := v) (o := mA f) (by rw [← l]; exact r f)
  exact get_map I.kIn O (c.get f) c.hd n hu (handed_of ru) (h u _ (I.tok _) ru)

theorem getmeth_ok {m : Str} {g : Addr} {pl : Sem Bool} {Q : Value × List Value → Shared → Prop} (I : Inv X pins σ H s) (e : H a = some (.ins C dx fs)) (c : Cls X.K C) (k : Meth X.K C m g) (l : fs.lookup m = none)
    (h : Q (.ref g, [.ref a]) s) : wpAny (model X.prog X.w) A (getMethod (.ref a) m pl) Q E s := by
  obtain ⟨mA, O, r, _, _, _⟩ := ins_get I.hok e
  have hn : mA m = none := RelO.none_of (by rw [← l]; exact r m)
  exact get_meth I.kIn O (c.get m) k.at_ k.fn hn h

theorem setattr_ok {y : V} {u : Value} {Q : Unit → Shared → Prop} (I : Inv X pins σ H s) (e : H a = some (.ins C dx fs)) (c : Cls X.K C) (n : NoAttr X.K C f) (hl : fs.length < 1000) (ry : RelV y u)
    (h : ∀ s', Inv X pins σ (upd H a (.ins C dx (putF f y fs))) s' → Q () s') : wpAny (model X.prog X.w) A (setAttr (.ref a) f u) Q E s := by
  obtain ⟨mA, O, r, wi, _, ho⟩ := ins_get I.hok e
  have hz : (fs.map (·.1)).length ≤ sizeLine := by rw [List.length_map, sizeLine_eq]; omega
  refine set_map I.kIn O c.sa c.po n.taker c.hd wi hz fun h' O' sb => h _ ?_
  have hd : ∃ o, h'.get? dx = some o := let ⟨o, _, _, e', _⟩ := O'.ns; ⟨o, e'⟩
  refine I.write (x := a) (e := dx) (by rw [e]; exact True.intro) (.inr ho) (fun b q hb z => (sb.2 b hb).trans z) hd ?_
  refine ⟨by rw [upd_ne O.ne]; exact ho, ?_, O.ne, O'.obj, _, O'.ns, fun g => ?_, fun g hg => ?_⟩
  · have := length_putF f y fs; omega
  · show RelO ((putF f y fs).lookup g) (if g = f then some u else mA g)
    rw [lookup_putF]
    by_cases q : g = f
    · rw [if_pos q, if_pos q]; exact ry
    · rw [if_neg q, if_neg q]; exact r g
  · by_cases q : g = f
    · rw [q]; exact (keys_putF f y fs).1
    · refine (keys_putF f y fs).2 g (wi g fun z => hg ?_)
      show (if g = f then some u else mA g) = none
      rw [if_neg q]; exact z

/-- a new instance, tracked, without attributes -/
theorem Inv.made (I : Inv X pins σ H s) : Inv X pins σ (upd (upd H s.heap.objs.size (.own (s.heap.objs.size + 1))) (s.heap.objs.size + 1) (.ins C s.heap.objs.size []))
    { s with heap := (s.heap.push PySem.W.emptyDict).push (PySem.W.instObj C s.heap.objs.size) } := by
  have e1 : (s.heap.push PySem.W.emptyDict).get? s.heap.objs.size = some PySem.W.emptyDict := Heap.get?_push_size s.heap rfl
  have e2 : ((s.heap.push PySem.W.emptyDict).push (PySem.W.instObj C s.heap.objs.size)).get? (s.heap.objs.size + 1) = some (PySem.W.instObj C s.heap.objs.size) := by
    have := Heap.get?_push_size (s.heap.push PySem.W.emptyDict) (o := PySem.W.instObj C s.heap.objs.size) rfl
    rwa [Heap.size_push] at this
  have e3 : (s.heap.push PySem.W.emptyDict).Ns s.heap.objs.size (fun _ => none) := ⟨PySem.W.emptyDict, #[], _, e1, rfl, (fun e he => absurd he (by simp)), fun _ => rfl⟩
  have I1 := I.laid (a := s.heap.objs.size) (o := .own (s.heap.objs.size + 1)) (h' := s.heap.push PySem.W.emptyDict) (t' := s.toks) (fun b u q => Heap.get?_push_of_some _ q) (Nat.le_refl _) ⟨_, e1⟩
  refine I1.laid (a := s.heap.objs.size + 1) (o := .ins C s.heap.objs.size []) (t' := s.toks) (fun b u q => Heap.get?_push_of_some _ q) (Nat.le_of_eq (Heap.size_push _ _)) ?_
  have ne : s.heap.objs.size ≠ s.heap.objs.size + 1 := Nat.ne_of_lt (Nat.lt_succ_self _)
  refine ⟨by rw [upd_ne ne, upd_same], Nat.zero_le _, ne, e2, fun _ => none, (Heap.Ns1.of_empty e3).at fun o q => Heap.get?_push_of_some _ q, fun _ => True.intro, fun y hy => absurd rfl hy⟩

/-- e.f where nothing but the object is asked: through attributeBase (super) and the last hold -/
theorem attr_of {prog : Program} {w : World} {env : Env} {e : Expr} {f : Str} {pos : Pos} {s : Shared} {Q : Value → Shared → Prop} (hb : attributeBase e f env (eval e env) = eval e env)
    (h : wpAny (model prog w) A (eval e env) (fun o s₁ => wpAny (model prog w) A (getAttr o f true) Q E s₁) E s) : wpAny (model prog w) A (eval (.Attribute e f pos) env) Q E s :=
  Attribute_any_ h (by rw [arm_eval_Attribute, hb])
end

/-! ### readings and rules -/
/-- e.f, an attribute of the instance -/
def tFld (K : PySem.W.Frag) (ta : TE) (f : Str) : TE := fun σ H Q => ta σ H fun x H1 => ∃ a C dx fs v, x = .ref a ∧ H1 a = some (.ins C dx fs) ∧ Cls K C ∧ NoAttr K C f ∧ fs.lookup f = some v ∧ Q v H1
/-- e.f = value -/
def sFld (K : PySem.W.Frag) (ta tv : TE) (f : Str) : TS := fun D σ H => tv σ H fun y H1 => ta σ H1 fun x H2 => ∃ a C dx fs, x = .ref a ∧ H2 a = some (.ins C dx fs) ∧ Cls K C ∧ NoAttr K C f ∧ fs.length < 1000 ∧
  D.nx σ (upd H2 a (.ins C dx (putF f y fs)))
section
variable {X : Cx} {o e value : Expr} {f : Str} {pos pos' tpos : Pos} {ta tv : TE}
theorem pe_fld (he : PE X e ta) (hb : attributeBase e f X.env (eval e X.env) = eval e X.env) : PE X (.Attribute e f pos) (tFld X.K ta f) := by
  intro pins s σ H Q I h
  refine attr_of hb (thn (he pins s σ H _ I h) fun u s1 ⟨x, H1, I1, rx, a, C, dx, fs, v, ex, ea, c, n, l, q⟩ => ?_)
  subst ex
  obtain rfl : u = Value.ref a := rx
  exact getattr_ok I1 ea c n l fun u' s2 I2 ru => ⟨v, H1, I2, ru, q⟩
theorem ps_fld (ha : PE X o ta) (hv : PE X value tv) (hs : swapsWith value (some (.Attribute o f pos')) pos.line X.env = pure false) : PS X (.Assign [.Attribute o f pos'] value pos) (sFld X.K ta tv f) := by
  intro pins s σ H D I h
  refine plainObj_wpAny_Assign_Attribute (thn (hv pins s σ H _ I h) fun u s1 ⟨y, H1, I1, ry, q⟩ => thn (ha pins s1 σ H1 _ I1 q) fun ov s2 ⟨x, H2, I2, rx, a, C, dx, fs, ex, ea, c, n, l, q2⟩ => ?_) hs
  subst ex
  obtain rfl : ov = Value.ref a := rx
  exact setattr_ok I2 ea c n l ry fun s3 I3 => ⟨σ, _, I3, q2⟩
end

/-! ### isinstance -/
section
variable {X : Cx} {pins : List (Addr × Obj)} {σ : St} {H : Hp} {s : Shared} {A : Around} {E : Value → Shared → Prop} {Q : Value → Shared → Prop} {c : Value} {b : Bool}
/-- the type of a value, as the fragment's deciders take it; for an instance its class -/
inductive TyOf (K : PySem.W.Frag) (H : Hp) : V → Value → Prop where
  | non : TyOf K H .non (.type "NoneType")
  | bl (x : Bool) : TyOf K H (.bl x) (.type "bool")
  | int (i : Int) : TyOf K H (.int i) (.type "int")
  | str (x : Str) : TyOf K H (.str x) (.type "str")
  | flt (x : UInt64) : TyOf K H (.flt x) (.type "float")
  | lst {a : Addr} {xs : List V} (e : H a = some (.lst xs)) : TyOf K H (.ref a) (.type "list")
  | frz {a : Addr} {o : Obj} {xs : List V} (e : H a = some (.frz o (.lst xs))) : TyOf K H (.ref a) (.type "list")
  | tup {a : Addr} {xs : List V} (e : H a = some (.tup xs)) : TyOf K H (.ref a) (.type "tuple")
  | dK {a : Addr} {kvs : List (Key × V)} (e : H a = some (.dK kvs)) : TyOf K H (.ref a) (.type "dict")
  | dT {a : Addr} {kvs : List (List Key × V)} (e : H a = some (.dT kvs)) : TyOf K H (.ref a) (.type "dict")
  | ins {a C dx : Addr} {fs : List (Str × V)} (e : H a = some (.ins C dx fs)) (cl : Cls K C) (ha : PySem.W.findIn K (.ref C) "__class__" = some (some (.builtin "object.__class__")))
      (hn : PySem.W.specialIn K (.builtin "object.__class__") "__get__" = some (some (.builtin "getset_descriptor.__get__"))) (htk : PySem.W.takesIn K (.builtin "object.__class__") = some true)
      (hm : PySem.W.mroIn K C (.type "object") = some true) : TyOf K H (.ref a) (.ref C)
/-- isinstance(x, c) for one class c, a built-in or an own one: kitOne's answer -/
theorem isinst_ok {x : V} {u t : Value} (I : Inv X pins σ H s) (rx : RelV x u) (ty : TyOf X.K H x t) (e : PySem.W.kitOne X.K t c = some b) (h : ∀ tk, Q (.bool b) { s with toks := tk }) :
    wpAny (model X.prog X.w) A (call (.builtin "isinstance") [u, c]) Q E s := by
  cases ty with
  | non => cases (show u = Value.none from rx); exact PySem.W.kia_one PySem.W.kitx_none I.kIn True.intro e (fun z => nomatch z) h
  | bl y => cases (show u = Value.bool y from rx); exact PySem.W.kia_one PySem.W.kitx_bool I.kIn True.intro e (fun z => nomatch z) h
  | int i => obtain ⟨t, q⟩ := (show ∃ t, u = Value.int i t from rx); cases q; exact PySem.W.kia_one PySem.W.kitx_int I.kIn True.intro e (fun z => nomatch z) h
  | str y => obtain ⟨t, q⟩ := (show ∃ t, u = Value.str y t from rx); cases q; exact PySem.W.kia_one PySem.W.kitx_str I.kIn True.intro e (fun z => nomatch z) h
  | flt y => obtain ⟨t, q⟩ := (show ∃ t, u = Value.float y t from rx); cases q; exact PySem.W.kia_one PySem.W.kitx_float I.kIn True.intro e (fun z => nomatch z) h
  | @lst a xs ea =>
    cases (show u = Value.ref a from rx)
    obtain ⟨_, _, n, _, h1⟩ := (show ObjOk X.prog X.w H s.heap a (.lst xs) from I.hok a _ ea)
    exact PySem.W.kia_one PySem.W.kitx_list I.kIn ⟨_, h1, rfl⟩ e (fun z => nomatch z) h
  | @frz a ob xs ea =>
    cases (show u = Value.ref a from rx)
    obtain ⟨_, _, _, n, _, h1⟩ := (show ObjOk X.prog X.w H s.heap a (.frz ob (.lst xs)) from I.hok a _ ea)
    exact PySem.W.kia_one PySem.W.kitx_list I.kIn ⟨_, h1, rfl⟩ e (fun z => nomatch z) h
  | @tup a xs ea =>
    cases (show u = Value.ref a from rx)
    obtain ⟨_, _, _, p⟩ := (show ObjOk X.prog X.w H s.heap a (.tup xs) from I.hok a _ ea)
    obtain ⟨o, h1, h2, _⟩ := p
    exact PySem.W.kia_one PySem.W.kitx_tuple I.kIn ⟨o, h1, h2⟩ e (fun z => nomatch z) h
  | @dK a kvs ea =>
    cases (show u = Value.ref a from rx)
    obtain ⟨_, _, vs, _, p⟩ := (show ObjOk X.prog X.w H s.heap a (.dK kvs) from I.hok a _ ea)
    obtain ⟨o, es, ep, h1, h2, _⟩ := p
    exact PySem.W.kia_one PySem.W.kitx_dict I.kIn ⟨o, h1, h2.1⟩ e (fun z => nomatch z) h
  | @dT a kvs ea =>
    cases (show u = Value.ref a from rx)
    obtain ⟨_, _, xs, _, o, es, ep, h1, h2, _⟩ := (show ObjOk X.prog X.w H s.heap a (.dT kvs) from I.hok a _ ea)
    exact PySem.W.kia_one PySem.W.kitx_dict I.kIn ⟨o, h1, h2.1⟩ e (fun z => nomatch z) h
  | @ins a C dx fs ea cl ha hn htk hm =>
    cases (show u = Value.ref a from rx)
    obtain ⟨mA, O, _⟩ := ins_get I.hok ea
    obtain ⟨od, J, _⟩ := O.look
    exact PySem.W.kia_one (PySem.W.kitx_own (cl.get _) cl.hd ha hn htk hm) I.kIn J e (fun z => nomatch z) h
end
end L2

namespace L2
open PySem PySem.Spec PyProof.Rows

/-! ### room -/
structure Room (k : Nat) (A : Around) : Prop where
  hd : A.handled = none
  dp : A.depth + 3 * k + 5 < recursionLimit
  un : A.units + 16 * k + 200 < cLine
theorem Room.mono {j k : Nat} {A : Around} (r : Room k A) (h : j ≤ k) : Room j A := ⟨r.hd, by have := r.dp; omega, by have := r.un; omega⟩
theorem Room.deeper {k : Nat} {A : Around} (r : Room (k + 1) A) (env : Env) : Room k (A.deeper env) :=
  ⟨r.hd, by have := r.dp; show A.depth + 1 + 3 * k + 5 < _; omega, by have := r.un; show A.units + 3 + 16 * k + 200 < _; omega⟩
theorem make_depth {A : Around} {C : Addr} {us : List Value} {kw : List (Str × Value)} : (A.under (.builtin "type.__call__" ⟨.ref C :: us, kw⟩)).depth = A.depth + 1 := by
  first | rfl | simp [Around.under, Code.weight, Code.isCreation, Code.isGuard, Code.isCaller, Code.frames, Code.isFrame, guardIds]
theorem make_units {A : Around} {C : Addr} {us : List Value} {kw : List (Str × Value)} : (A.under (.builtin "type.__call__" ⟨.ref C :: us, kw⟩)).units = A.units + 1 := by
  first | rfl | simp [Around.under, Code.cUnits, Code.frames, Code.isFrame]
theorem Room.make {k : Nat} {A : Around} (r : Room (k + 1) A) (C : Addr) (us : List Value) (kw : List (Str × Value)) : Room k (A.under (.builtin "type.__call__" ⟨.ref C :: us, kw⟩)) :=
  ⟨r.hd, by have := r.dp; rw [make_depth]; omega, by have := r.un; rw [make_units]; omega⟩
theorem Room.depth {k : Nat} {A : Around} (r : Room k A) : A.depth < recursionLimit := by have := r.dp; omega
theorem Room.units {k : Nat} {A : Around} (r : Room k A) : A.units + 64 < cLine := by have := r.un; omega
/-! ### argument lists and displays -/
def tNil : TA := fun _ H Q => Q [] H
def tCons (ta : TE) (tr : TA) : TA := fun σ H Q => ta σ H fun x H1 => tr σ H1 fun xs H2 => Q (x :: xs) H2
section
variable {X : Cx} {e : Expr} {es : List Expr} {te : TE} {t : TA} {pos : Pos}
theorem pa_nil : PA X [] tNil := fun _ _ _ _ H Q I h => Calls.spliced_nil ⟨[], H, I, .nil, h⟩
theorem pa_cons (ha : PE X e te) (hr : PA X es t) (hs : starEach (e :: es) X.env = (false, eval e X.env) :: starEach es X.env := by rfl) : PA X (e :: es) (tCons te t) := by
  intro pos pins s σ H Q I h
  rw [hs]
  show wpAny _ _ (spliced ((false, eval e X.env) :: backTo pos (starEach es X.env))) _ _ s
  refine Calls.spliced_cons (thn (ha pins s σ H _ I h) fun u s1 ⟨x, H1, I1, r1, q1⟩ => ?_)
  exact thn (hr pos pins s1 σ H1 _ I1 q1) fun us s2 ⟨xs, H2, I2, r2, q2⟩ => ⟨x :: xs, H2, I2, .cons r1 r2, q2⟩

/-- a tuple, a list of written items -/
def tTup (t : TA) : TE := fun σ H Q => t σ H fun xs H1 => xs.length ≤ sizeLine ∧ ∀ p, H1 p = none → Q (.ref p) (upd H1 p (.tup xs))
def tLst (t : TA) : TE := fun σ H Q => t σ H fun xs H1 => xs.length ≤ sizeLine ∧ ∀ p, H1 p = none → Q (.ref p) (upd H1 p (.lst xs))
theorem pe_tup {x1} (h : PA X es t) : PE X (.Tuple es x1 pos) (tTup t) := by
  intro pins s σ H Q I hq
  refine wpAny_Tuple_spliced (thn (h pos pins s σ H _ I hq) fun us s1 ⟨xs, H1, I1, r, z, q⟩ => ⟨by rw [← r.length]; exact z, ?_⟩)
  have hf : H1 s1.heap.objs.size = none := I1.hok.fresh (Nat.le_refl _)
  refine ⟨.ref s1.heap.objs.size, upd H1 s1.heap.objs.size (.tup xs), I1.laid (t' := s1.toks) (fun b u e => Heap.get?_push_of_some _ e) (Nat.le_refl _) ?_, rfl, q _ hf⟩
  exact ⟨z, us, r, ⟨_, Heap.get?_push_size _ rfl, rfl, _, rfl⟩⟩
theorem pe_lst (h : PA X es t) : PE X (.List es pos) (tLst t) := by
  intro pins s σ H Q I hq
  refine wpAny_List_spliced (thn (h pos pins s σ H _ I hq) fun us s1 ⟨xs, H1, I1, r, z, q⟩ => ⟨by rw [← r.length]; exact z, ?_⟩)
  have hf : H1 s1.heap.objs.size = none := I1.hok.fresh (Nat.le_refl _)
  refine ⟨.ref s1.heap.objs.size, upd H1 s1.heap.objs.size (.lst xs), I1.laid (t' := s1.toks) (fun b u e => Heap.get?_push_of_some _ e) (Nat.le_refl _) ?_, rfl, q _ hf⟩
  exact ⟨z, us, 0, r, Heap.get?_push_size _ rfl⟩
end

/-! ### what a def promises -/
/-- a def's promise: the bound arguments in the parameters' order, the heap, the wanted end, the wanted exception -/
abbrev Sp := List V → Hp → VK → XK → Prop
/-- how an exception lies behind a call (file 08 gives it): the callers' frames, abstract heap and state ahead of the call, the wish, the exception, the state -/
abbrev CXT := List Env → Hp → Shared → XK → Value → Shared → Prop

/-- the state at a call -/
structure Env0 (P : Program) (w : World) (K : PySem.W.Frag) (mg : Str → Option Value) (base : Heap) (A : Around) (outer : List Env) (s : Shared) (H : Hp) : Prop where
  frames : A.frames = some outer
  mod : Mod K mg base
  bs : ∀ b o, base.get? b = some o → s.heap.get? b = some o ∧ H b = none
  bsz : base.objs.size ≤ s.heap.objs.size
  funs : s.heap.FunFrames base outer
  frf : ∀ b ∈ frs outer, H b = none
  hok : HOk P w H s.heap
  bare : AllBare s.gens
/-- a call's end -/
def CE (outer : List Env) (P : Program) (w : World) (H : Hp) (s : Shared) (Q : VK) (u : Value) (s' : Shared) : Prop :=
  ∃ v H', s'.os = s.os ∧ AllBare s'.gens ∧ Un (frs outer) [] H H' s.heap s'.heap ∧ HOk P w H' s'.heap ∧ RelV v u ∧ Q v H'
def CR (CX : CXT) (outer : List Env) (P : Program) (w : World) (H : Hp) (s : Shared) (Q : VK) (E : XK) (r : Result) (s' : Shared) : Prop :=
  match r with
  | .ok (.ret u) => CE outer P w H s Q u s'
  | .ok _ => False
  | .error e => CX outer H s E e s'
structure FnOk (P : Program) (w : World) (K : PySem.W.Frag) (mg : Str → Option Value) (base : Heap) (CX : CXT) (k : Nat) (f : Addr) (fd : FuncData) (ps : List Str) (sp : Sp) : Prop where
  len : ∀ vs H Q E, sp vs H Q E → vs.length = ps.length
  run : ∀ (A : Around) (outer : List Env) (s : Shared) (H : Hp) (args : Args) (us : List Value) (vs : List V) (Q : VK) (E : XK), Room k A → Env0 P w K mg base A outer s H → BindsTo s fd args (ps.zip us) → Vals vs us → sp vs H Q E →
    codeAny (model P w) A (.call (.ref f) args) (CR CX outer P w H s Q E) s
theorem FnOk.mono {P : Program} {w : World} {K : PySem.W.Frag} {mg : Str → Option Value} {base : Heap} {CX : CXT} {j k : Nat} {f : Addr} {fd : FuncData} {ps : List Str} {sp : Sp} (F : FnOk P w K mg base CX j f fd ps sp) (h : j ≤ k) :
    FnOk P w K mg base CX k f fd ps sp := ⟨F.len, fun A outer s H args us vs Q E hr => F.run A outer s H args us vs Q E (hr.mono h)⟩
/-- a weaker promise -/
theorem FnOk.imp {P : Program} {w : World} {K : PySem.W.Frag} {mg : Str → Option Value} {base : Heap} {CX : CXT} {k : Nat} {f : Addr} {fd : FuncData} {ps : List Str} {sp sp' : Sp} (F : FnOk P w K mg base CX k f fd ps sp)
    (h : ∀ vs H Q E, sp' vs H Q E → sp vs H Q E) : FnOk P w K mg base CX k f fd ps sp' :=
  ⟨fun vs H Q E q => F.len vs H Q E (h _ _ _ _ q), fun A outer s H args us vs Q E hr he hb hv hs => F.run A outer s H args us vs Q E hr he hb hv (h _ _ _ _ hs)⟩

theorem Env0.make {P : Program} {w : World} {K : PySem.W.Frag} {mg : Str → Option Value} {base : Heap} {A : Around} {outer : List Env} {s : Shared} {H : Hp} (e : Env0 P w K mg base A outer s H) (C : Addr) (us : List Value) (kw : List (Str × Value)) :
    Env0 P w K mg base (A.under (.builtin "type.__call__" ⟨.ref C :: us, kw⟩)) outer s H := ⟨by first | exact e.frames | (simpa [Around.under, Code.envs, Code.isFrame, pushEnvs] using e.frames), e.mod, e.bs, e.bsz, e.funs, e.frf, e.hok, e.bare⟩
section
variable {X : Cx} {pins : List (Addr × Obj)} {σ : St} {H : Hp} {s s' : Shared}
/-- from a body: what a callee wants -/
theorem Inv.env0 (I : Inv X pins σ H s) : Env0 X.prog X.w X.K X.mg X.base X.A X.stack s H :=
  ⟨I.ok.frames, I.ok.mod, I.bs, Nat.le_trans I.ok.bsz I.sz, I.stack, I.stkFree, I.hok, I.bare⟩
/-- behind a call -/
theorem Inv.after {Q : VK} {u : Value} (I : Inv X pins σ H s) (h : CE X.stack X.prog X.w H s Q u s') : EP X pins σ Q u s' := by
  obtain ⟨v, H', os, bare, un, hok, r, q⟩ := h
  obtain ⟨hh, g, d, t, os'⟩ := s'
  obtain rfl : os' = s.os := os
  exact ⟨v, H', I.call (h' := hh) (g' := g) (d' := d) (t' := t) (ch := []) un hok bare (fun b z => absurd z (by simp)), r, q⟩
end

/-! ### calls -/
/-- f(..): the written arguments, then the defaults dvs; E: what is wanted of an exception -/
def tCall (sp : Sp) (dvs : List V) (E : XK) (t : TA) : TE := fun σ H Q => t σ H fun vs H1 => sp (vs ++ dvs) H1 Q E
/-- C(..): a new instance and its dict, then __init__ -/
def tMake (C : Addr) (sp : Sp) (dvs : List V) (E : XK) (t : TA) : TE := fun σ H Q => t σ H fun vs H1 => ∀ x dx, H1 x = none → H1 dx = none → dx ≠ x →
  sp (.ref x :: (vs ++ dvs)) (upd (upd H1 dx (.own x)) x (.ins C dx [])) (fun v H2 => v = .non ∧ Q (.ref x) H2) E

/-- how the parameters are bound: us the positional arguments, kw the keywords' values by name, ds the defaults that fill up -/
def Binds (K : PySem.W.Frag) (fd : FuncData) (ps : List Str) (ds : List Value) : Prop :=
  ∀ (s : Shared) (us : List Value), K.In s.heap → (us ++ ds).length = ps.length → BindsTo s fd ⟨us, []⟩ (ps.zip (us ++ ds))
/-- every parameter is given -/
theorem Binds.all {K : PySem.W.Frag} {fd : FuncData} {ps : List Str} (h : ∀ us : List Value, us.length = ps.length → bindArgs fd ⟨us, []⟩ = pure (ps.zip us)) : Binds K fd ps [] := fun s us _ hl => by
  rw [List.append_nil] at hl ⊢
  exact .of_eq (h us hl)

/-- an exception of a callee reaches what this body wants of exceptions -/
def Passes (CX : CXT) (X : Cx) (E : XK) : Prop := ∀ (pins : List (Addr × Obj)) (σ : St) (H : Hp) (s : Shared) (e : Value) (s' : Shared), Inv X pins σ H s → CX X.stack H s E e s' → X.xe e s'

section
variable {X : Cx} {CX : CXT} {k : Nat} {f C : Addr} {fd : FuncData} {ps : List Str} {sp : Sp} {dvs : List V} {ds : List Value} {E : XK} {x m : Str} {p pos apos : Pos} {e o : Expr} {es : List Expr} {ta : TE} {t : TA}

/-- the callee runs -/
theorem run_fn {pins : List (Addr × Obj)} {σ : St} {H : Hp} {s : Shared} {Q : VK} {us : List Value} {vs : List V} (F : FnOk X.prog X.w X.K X.mg X.base CX k f fd ps sp) (hr : Room k X.A) (hb : Binds X.K fd ps ds) (hd : Vals dvs ds) (hx : Passes CX X E)
    (I : Inv X pins σ H s) (r : Vals vs us) (h : sp (vs ++ dvs) H Q E) : wpAny (model X.prog X.w) X.A (call (.ref f) us) (EP X pins σ Q) X.xe s := by
  have r2 : Vals (vs ++ dvs) (us ++ ds) := r.append hd
  have hl : (us ++ ds).length = ps.length := by rw [← r2.length]; exact F.len _ _ _ _ h
  refine wpAny_call (codeAny_mono (F.run X.A X.stack s H ⟨us, []⟩ (us ++ ds) (vs ++ dvs) Q E hr I.env0 (hb s us I.kIn hl) r2 h) fun r s' hq => ?_)
  cases r with
  | error e => exact hx pins σ H s e s' I hq
  | ok fl =>
    cases fl with
    | ret u => exact I.after hq
    | next => exact False.elim hq
    | brk => exact False.elim hq
    | cont => exact False.elim hq

theorem pe_call (F : FnOk X.prog X.w X.K X.mg X.base CX k f fd ps sp) (hr : Room k X.A) (hg : Gl X x) (hm : X.mg x = some (.ref f)) (hk : PySem.W.keepIn X.K (.ref f) = true) (hb : Binds X.K fd ps ds) (hd : Vals dvs ds) (hx : Passes CX X E)
    (ha : PA X (e :: es) t) (hdb : (x == ("__debug__" : Str)) = false := by decide) (he : starEach (e :: es) X.env = (false, eval e X.env) :: starEach es X.env := by rfl) (hpl : (backTo pos (starEach es X.env)).any (·.1) = false := by rfl) :
    PE X (.Call (.Name x p) (e :: es) [] pos) (tCall sp dvs E t) := by
  intro pins s σ H Q I h
  refine wpAny_Call_Name_kw (ld_glob I hg hm ?_ hdb)
  refine PySem.W.callWith_K (h₀ := X.base) I.ok.mod.kin hk (thn (ha pos pins s σ H _ I h) fun us s1 ⟨vs, H1, I1, r, q⟩ => ⟨I1.kIn, ?_⟩) he hpl
  exact run_fn F hr hb hd hx I1 r q
/-- what a class must have to be made -/
structure Mk (K : PySem.W.Frag) (C f : Addr) : Prop where
  makes : PySem.W.makesIn K C = true
  init : PySem.W.findIn K (.ref C) "__init__" = some (some (.ref f))
  fn : PySem.W.isFn K (.ref f) = true
  kp : PySem.W.keepIn K (.ref C) = true

theorem run_make {pins : List (Addr × Obj)} {σ : St} {H : Hp} {s : Shared} {Q : VK} {us : List Value} {vs : List V} (M : Mk X.K C f) (F : FnOk X.prog X.w X.K X.mg X.base CX k f fd ps sp) (hr : Room (k + 1) X.A) (hb : Binds X.K fd ps ds) (hd : Vals dvs ds)
    (hx : Passes CX X E) (I : Inv X pins σ H s) (r : Vals vs us)
    (h : ∀ x dx, H x = none → H dx = none → dx ≠ x → sp (.ref x :: (vs ++ dvs)) (upd (upd H dx (.own x)) x (.ins C dx [])) (fun v H2 => v = .non ∧ Q (.ref x) H2) E) :
    wpAny (model X.prog X.w) X.A (call (.ref C) us) (EP X pins σ Q) X.xe s := by
  have hq := h (s.heap.objs.size + 1) s.heap.objs.size (I.hok.fresh (Nat.le_succ _)) (I.hok.fresh (Nat.le_refl _)) (Nat.ne_of_lt (Nat.lt_succ_self _))
  have I2 := Inv.made (C := C) I
  have r2 : Vals (V.ref (s.heap.objs.size + 1) :: (vs ++ dvs)) (Value.ref (s.heap.objs.size + 1) :: (us ++ ds)) := .cons rfl (r.append hd)
  have hl : (Value.ref (s.heap.objs.size + 1) :: us ++ ds).length = ps.length := by
    have e := r2.length
    rw [F.len _ _ _ _ hq] at e
    exact e.symm
  refine wpAny_call (make_map (f := f) I.kIn M.makes M.init (beq_iff_eq.mp M.fn) (codeAny_mono (F.run _ X.stack _ _ ⟨Value.ref (s.heap.objs.size + 1) :: us, []⟩ (Value.ref (s.heap.objs.size + 1) :: (us ++ ds)) _ _ E (hr.make C us [])
    (I2.env0.make C us []) (hb _ (Value.ref (s.heap.objs.size + 1) :: us) I2.kIn hl) r2 hq) fun r s' hq' => ?_))
  cases r with
  | error e => exact hx pins σ _ _ e s' I2 hq'
  | ok fl =>
    cases fl with
    | ret u =>
      obtain ⟨v, H', I3, rv, ev, q3⟩ := I2.after hq'
      subst ev
      exact ⟨rv, ⟨V.ref (s.heap.objs.size + 1), H', I3, rfl, q3⟩⟩
    | next => exact False.elim hq'
    | brk => exact False.elim hq'
    | cont => exact False.elim hq'
theorem pe_make (M : Mk X.K C f) (F : FnOk X.prog X.w X.K X.mg X.base CX k f fd ps sp) (hr : Room (k + 1) X.A) (hg : Gl X x) (hm : X.mg x = some (.ref C)) (hb : Binds X.K fd ps ds) (hd : Vals dvs ds) (hx : Passes CX X E)
    (ha : PA X (e :: es) t) (hdb : (x == ("__debug__" : Str)) = false := by decide) (he : starEach (e :: es) X.env = (false, eval e X.env) :: starEach es X.env := by rfl) (hpl : (backTo pos (starEach es X.env)).any (·.1) = false := by rfl) :
    PE X (.Call (.Name x p) (e :: es) [] pos) (tMake C sp dvs E t) := by
  intro pins s σ H Q I h
  refine wpAny_Call_Name_kw (ld_glob I hg hm ?_ hdb)
  refine PySem.W.callWith_K (h₀ := X.base) I.ok.mod.kin M.kp (thn (ha pos pins s σ H _ I h) fun us s1 ⟨vs, H1, I1, r, q⟩ => ⟨I1.kIn, ?_⟩) he hpl
  exact run_make M F hr hb hd hx I1 r q
end

/-! ### keywords -/
section
variable {X : Cx} {CX : CXT} {k : Nat} {f C : Addr} {fd : FuncData} {ps ks : List Str} {sp : Sp} {E : XK} {x m : Str} {p pos apos kpos : Pos} {e o : Expr} {es : List Expr} {kws : List Keyword} {te ta : TE} {t tk : TA} {nm : Option Str}
variable {g : List Value → List Value → List Value} {gV : List V → List V → List V}
end

/-! ### a def's body keeps its promise -/
/-- names: the parameters first -/
structure FnScope (N P : List Str) (sc : Scope) : Prop where
  kind : sc.kind = .function
  co : sc.isCoroutine = false
  gen : sc.isGenerator = false
  nd : N.Nodup
  pre : N.take P.length = P
  par : ∀ x ∈ P, sc.names.lookup x = some .local ∨ sc.names.lookup x = some .cell
  nofree : ∀ y ∈ sc.names, y.2 ≠ .free

theorem bindL_out {kindOf : Str → Option NameKind} {x : Str} : ∀ {binds : List (Str × Value)} {m : Str → Option Value}, (∀ v, (x, v) ∉ binds) → bindL kindOf binds m x = m x
  | [], _, _ => rfl
  | (n, v) :: r, m, h => by
    unfold bindL
    rw [bindL_out fun w hw => h w (List.mem_cons_of_mem _ hw)]
    split
    · have : x ≠ n := by rintro rfl; exact h v List.mem_cons_self
      simp [this]
    · rfl
theorem bindC_out {kindOf : Str → Option NameKind} {x : Str} : ∀ {binds : List (Str × Value)} {m : Str → Option Value}, (∀ v, (x, v) ∉ binds) → bindC kindOf binds m x = m x
  | [], _, _ => rfl
  | (n, v) :: r, m, h => by
    unfold bindC
    rw [bindC_out fun w hw => h w (List.mem_cons_of_mem _ hw)]
    split
    · rfl
    · have : x ≠ n := by rintro rfl; exact h v List.mem_cons_self
      simp [this]
theorem bindL_get {kindOf : Str → Option NameKind} {x : Str} {v : Value} : ∀ {P : List Str} {vs : List Value} {i : Nat} {m : Str → Option Value}, P.Nodup → P[i]? = some x → vs[i]? = some v → kindOf x = some .local →
    bindL kindOf (P.zip vs) m x = some v
  | [], _, _, _, _, h, _, _ => by simp at h
  | _ :: _, [], _, _, _, _, h, _ => by simp at h
  | p :: P, w :: vs, 0, m, nd, h1, h2, hk => by
    simp at h1 h2; subst h1; subst h2
    show bindL kindOf ((p, w) :: P.zip vs) m p = _
    unfold bindL
    rw [bindL_out fun v hv => (List.nodup_cons.mp nd).1 (List.of_mem_zip hv).1, if_pos hk]
    simp
  | p :: P, w :: vs, i + 1, m, nd, h1, h2, hk => by
    show bindL kindOf ((p, w) :: P.zip vs) m x = _
    unfold bindL
    exact bindL_get (i := i) (List.nodup_cons.mp nd).2 (by simpa using h1) (by simpa using h2) hk
theorem bindC_get {kindOf : Str → Option NameKind} {x : Str} {v : Value} : ∀ {P : List Str} {vs : List Value} {i : Nat} {m : Str → Option Value}, P.Nodup → P[i]? = some x → vs[i]? = some v → kindOf x ≠ some .local →
    bindC kindOf (P.zip vs) m x = some v
  | [], _, _, _, _, h, _, _ => by simp at h
  | _ :: _, [], _, _, _, _, h, _ => by simp at h
  | p :: P, w :: vs, 0, m, nd, h1, h2, hk => by
    simp at h1 h2; subst h1; subst h2
    show bindC kindOf ((p, w) :: P.zip vs) m p = _
    unfold bindC
    rw [bindC_out fun v hv => (List.nodup_cons.mp nd).1 (List.of_mem_zip hv).1, if_neg hk]
    simp
  | p :: P, w :: vs, i + 1, m, nd, h1, h2, hk => by
    show bindC kindOf ((p, w) :: P.zip vs) m x = _
    unfold bindC
    exact bindC_get (i := i) (List.nodup_cons.mp nd).2 (by simpa using h1) (by simpa using h2) hk

/-- the names' values at the entry -/
def start (N : List Str) (vs : List V) : St := vs.map some ++ List.replicate (N.length - vs.length) none

/-- the context of a def's body, at its entry; an exception leaves the frame, then lies as CX says -/
def cxOf (CX : CXT) (P : Program) (w : World) (K : PySem.W.Frag) (mg : Str → Option Value) (base : Heap) (N : List Str) (qual : Str) (scope : Scope) (f : Addr) (cd : Value) (A : Around) (outer : List Env) (s : Shared) (H : Hp) (E : XK) : Cx where
  prog := P
  w := w
  K := K
  mg := mg
  base := base
  A := A.deeper (envOfC qual scope s.heap.objs.size f cd)
  N := N
  s₀ := s
  H₀ := H
  env := envOfC qual scope s.heap.objs.size f cd
  outer := outer
  stack := envOfC qual scope s.heap.objs.size f cd :: outer
  ex := []
  calm := true
  fn := fun _ => true
  pn := []
  xe := fun e s' => wpAny (model P w) (A.deeper (envOfC qual scope s.heap.objs.size f cd)) (leaving (envOfC qual scope s.heap.objs.size f cd) e) (fun _ s'' => CX outer H s E e s'') (fun e' s'' => CX outer H s E e' s'') s'

theorem cell_has {sc : Scope} {n : Nat} {x : Str} (h : sc.names.lookup x = some .cell) : ∃ c, (cellsFrom n sc.names []).lookup x = some c := by
  have q := PySem.W.cellsFrom_some sc.names n [] (.inl h)
  exact Option.isSome_iff_exists.mp q

theorem inv_start {CX : CXT} {P : Program} {w : World} {K : PySem.W.Frag} {mg : Str → Option Value} {base : Heap} {N ps : List Str} {qual : Str} {scope : Scope} {f : Addr} {cd : Value} {A : Around} {outer : List Env} {s s1 : Shared} {H : Hp} {E : XK} {us : List Value} {vs : List V}
    (S : FnScope N ps scope) (hd : A.handled = none) (e0 : Env0 P w K mg base A outer s H) (hl : vs.length = ps.length) (r : Vals vs us)
    (x : InCallC s s.heap.objs.size (bindL (envOfC qual scope s.heap.objs.size f cd).kindOf (ps.zip us) fun _ => none) (cellsFrom (s.heap.objs.size + 1) scope.names []) (bindC (envOfC qual scope s.heap.objs.size f cd).kindOf (ps.zip us) fun _ => none) s1) :
    Inv (cxOf CX P w K mg base N qual scope f cd A outer s H E) [] (start N vs) H s1 := by
  have hpl : ps.length ≤ N.length := by have := congrArg List.length S.pre; rw [List.length_take] at this; omega
  obtain ⟨h1, tk, rfl, hk⟩ := x.done
  have noA : ∀ b : Addr, b ∉ (cxOf CX P w K mg base N qual scope f cd A outer s H E).ex := fun b z => absurd (show b ∈ ([] : List Addr) from z) (by simp)
  refine ⟨⟨e0.mod, S.kind, rfl, rfl, Nat.le_refl _, fun y z c h1 h2 => ?_, fun y hy => ?_, fun y c _ h => ?_, fun _ => hd, Around.frames_deeper e0.frames, .inr ⟨rfl, rfl⟩, fun b z => absurd z (noA b), e0.bs, e0.bsz, fun b _ _ => noA b, fun b z => absurd z (noA b), e0.funs, e0.frf⟩,
    rfl, e0.bare, Un.kept hk, ⟨_, x.toInCall.ns, fun i y v h1 h2 h3 => ?_⟩, fun y c h => ⟨_, x.cell y c h⟩, e0.hok.fresh (Nat.le_refl _), fun y c h => ?_, fun p hp => absurd (show p ∈ ([] : List (Addr × Obj)) from hp) (by simp), e0.hok.kept hk, ?_⟩
  · exact name_of_addr x.apart (PySem.mem_of_lookup h1) (PySem.mem_of_lookup h2)
  · have hy : scope.names.lookup y = some .cell ∨ scope.names.lookup y = some .free := hy
    rcases hy with hy | hy
    · exact cell_has hy
    · exact absurd rfl (S.nofree _ (PySem.mem_of_lookup hy))
  · exact Nat.le_of_lt (x.above y c (PySem.mem_of_lookup h))
  · have hi : i < vs.length := by
      unfold start at h2
      by_cases hi : i < vs.length
      · exact hi
      · rw [List.getElem?_append_right (by simpa using hi)] at h2
        rw [List.getElem?_replicate] at h2
        split at h2 <;> cases h2
    have ha : vs[i]? = some v := by
      unfold start at h2
      rw [List.getElem?_append_left (by simpa using hi), List.getElem?_map] at h2
      cases e : vs[i]? with
      | none => rw [e] at h2; cases h2
      | some a => rw [e] at h2; cases h2; rfl
    obtain ⟨u, hu, rv⟩ := r.get ha
    have hp : ps[i]? = some y := by
      rw [← S.pre, List.getElem?_take_of_lt (by omega)]; exact h1
    have ndP : ps.Nodup := by rw [← S.pre]; exact S.nd.sublist (List.take_sublist _ _)
    refine ⟨u, rv, ?_⟩
    rcases S.par y (List.mem_of_getElem? hp) with k | k
    · exact .inl ⟨k, bindL_get ndP hp hu k⟩
    · obtain ⟨c, e⟩ := cell_has (n := s.heap.objs.size + 1) k
      refine .inr ⟨.inl k, c, e, ?_⟩
      have q := x.cell y c e
      rw [bindC_get ndP hp hu (by show scope.names.lookup y ≠ _; rw [k]; decide)] at q
      exact q
  · exact e0.hok.fresh (Nat.le_of_lt (x.above y c (PySem.mem_of_lookup h)))
  · unfold start
    show _ = N.length
    rw [List.length_append, List.length_map, List.length_replicate]
    omega

/-- THE RULE: a def (or a method) of the text, by its body. The body's reading t is chosen for each entry; it is run at the parameters' values -/
theorem fn_of {CX : CXT} {P : Program} {w : World} {K : PySem.W.Frag} {mg : Str → Option Value} {base : Heap} {k : Nat} {f : Addr} {name qual : Str} {params : Arguments} {body : List Stmt} {scope : Scope} {dV kV doc pm cdv ct oc : Value} {an od : Option Addr}
    {osl : Array (Option Value)} {N ps : List Str} {sp : Sp} (lk : K.lookup f = some ⟨oc, od, .func (PySem.W.fnOf name qual params body scope dV kV doc pm an cdv ct), osl⟩) (hcd : PySem.W.codeIn K cdv qual = true) (S : FnScope N ps scope)
    (len : ∀ vs H Q E, sp vs H Q E → vs.length = ps.length)
    (hbody : ∀ (A : Around) (outer : List Env) (s : Shared) (H : Hp) (vs : List V) (Q : VK) (E : XK), Room k (A.deeper (envOfC qual scope s.heap.objs.size f cdv)) → sp vs H Q E →
      ∃ t, PSs (cxOf CX P w K mg base N qual scope f cdv A outer s H E) body t ∧ t { nx := fun _ H' => Q .non H', rt := Q } (start N vs) H) :
    FnOk P w K mg base CX (k + 1) f (PySem.W.fnOf name qual params body scope dV kV doc pm an cdv ct) ps sp := by
  refine ⟨len, fun A outer s H args us vs Q E hr e0 hb r hsp => ?_⟩
  have hl := len _ _ _ _ hsp
  have KX : K.In s.heap := e0.mod.kin.keeps fun b o e => (e0.bs b o e).1
  have lim : s.heap.NoLimit := e0.mod.nolimit.keeps fun b o e => (e0.bs b o e).1
  have hkind : ∀ y ∈ ps.zip us, scope.names.lookup y.1 = some .local ∨ (scope.names.lookup y.1 = some .cell ∧ ((cellsFrom (s.heap.objs.size + 1) scope.names []).lookup y.1).isSome = true) := fun ⟨n, v⟩ hy => by
    rcases S.par n (List.of_mem_zip hy).1 with q | q
    · exact .inl q
    · exact .inr ⟨q, PySem.W.cellsFrom_some _ _ _ (.inl q)⟩
  refine codeAny_call_function hr.depth (KX _ _ lk) rfl S.co S.gen rfl (PySem.W.codeRec_of KX hcd) (hb _ _ _ _ ?_)
  refine wpAny_newFunctionEnv_cells S.kind hkind fun env he s1 x => ?_
  subst he
  refine ⟨lim.keeps x.toInCall.keep, codeAny_func ?_⟩
  obtain ⟨t, ht, hq⟩ := hbody A outer s H vs Q E (hr.deeper _) hsp
  have I : Inv (cxOf CX P w K mg base N qual scope f cdv A outer s H E) [] (start N vs) H s1 := inv_start S hr.hd e0 hl r x
  refine wpAny_mono (ht [] s1 (start N vs) H _ I hq) (fun fl s' hs => ?_) fun e s' hs => hs
  have fin : ∀ {σ' : St} {H' : Hp} {v : V} {u : Value}, Inv (cxOf CX P w K mg base N qual scope f cdv A outer s H E) [] σ' H' s' → RelV v u → Q v H' → CE outer P w H s Q u s' :=
    fun {σ' H' v u} J rv q => ⟨v, H', J.os, J.bare, J.base, J.hok, rv, q⟩
  cases fl with
  | ret u =>
    obtain ⟨v, σ', H', J, rv, q⟩ := hs
    exact fin J rv q
  | next =>
    obtain ⟨σ', H', J, q⟩ := hs
    exact fin (v := V.non) (u := Value.none) J rfl q
  | brk =>
    obtain ⟨_, _, _, q⟩ := hs
    exact False.elim q
  | cont =>
    obtain ⟨_, _, _, q⟩ := hs
    exact False.elim q
end L2

namespace L2
open PySem PySem.Spec PyProof.Rows
section
variable {X : Cx} {x : Str} {p pos : Pos} {e : Expr} {es : List Expr} {t : TA} {id T : String} {r : List V → Hp → VK → Prop}

def tCB (r : List V → Hp → VK → Prop) (t : TA) : TE := fun σ H Q => t σ H fun vs H1 => r vs H1 Q
/-- f(e, ..), f a built-in function -/
theorem pe_callB (hc : CallR X (.builtin id) r) (hg : Gl X x) (hm : X.mg x = none) (hv : bootBuiltins x = some (.builtin id)) (ha : PA X (e :: es) t) (hn : x ≠ "__name__" := by decide) (hdb : (x == ("__debug__" : Str)) = false := by decide)
    (he : starEach (e :: es) X.env = (false, eval e X.env) :: starEach es X.env := by rfl) (hpl : (backTo pos (starEach es X.env)).any (·.1) = false := by rfl) : PE X (.Call (.Name x p) (e :: es) [] pos) (tCB r t) := by
  intro pins s σ H Q I h
  refine wpAny_Call_Name_kw (ld_blt I hg hm hv ?_ hn hdb)
  exact PyProof.Rows.callWith_builtin1 (thn (ha pos pins s σ H _ I h) fun us s1 ⟨vs, H1, I1, r1, q1⟩ => hc pins s1 σ H1 vs us Q I1 r1 q1) he hpl
/-- T(e, ..), T a built-in type -/
theorem pe_callTy (hc : CallR X (.type T) r) (hg : Gl X x) (hm : X.mg x = none) (hv : bootBuiltins x = some (.type T)) (ha : PA X (e :: es) t) (hn : x ≠ "__name__" := by decide) (hdb : (x == ("__debug__" : Str)) = false := by decide)
    (he : starEach (e :: es) X.env = (false, eval e X.env) :: starEach es X.env := by rfl) (hpl : (backTo pos (starEach es X.env)).any (·.1) = false := by rfl) : PE X (.Call (.Name x p) (e :: es) [] pos) (tCB r t) := by
  intro pins s σ H Q I h
  refine wpAny_Call_Name_kw (ld_blt I hg hm hv ?_ hn hdb)
  exact PyProof.Rows.callWith_type1 (thn (ha pos pins s σ H _ I h) fun us s1 ⟨vs, H1, I1, r1, q1⟩ => hc pins s1 σ H1 vs us Q I1 r1 q1) he hpl
end
end L2

namespace HT
open PySem PyProof.Rows

section
open PySem.SeqAt
open PySem.AutoSeq1 (wpAny_loadPart')
open PySem.MeetsSeq PySem.MeetsSeq2 PySem.MeetsSeq3

end

section
variable {prog : Program} {w : World} {A : Around} {E : Value → Shared → Prop} {s : Shared}

/-- t + u, t not empty -/
theorem cat_tup {t b : Addr} {vs ws : List Value} {Q : Value → Shared → Prop} (ht : IsTup s.heap t vs.toArray) (hb : IsTup s.heap b ws.toArray) (hv : vs ≠ [])
    (h1 : ws = [] → Q (.ref t) s) (h2 : ws ≠ [] → Q (.ref s.heap.objs.size) { s with heap := s.heap.push { cls := .type "tuple", data := .seq (vs ++ ws).toArray } })
    (hsz : vs.length + ws.length ≤ sizeLine) : wpAny (model prog w) A (binaryOp .Add (.ref t) (.ref b)) Q E s := by
  obtain ⟨⟨cls, dd, data, sl⟩, ho, hc, n, hd⟩ := id ht
  obtain ⟨⟨cls2, dd2, data2, sl2⟩, ho2, hc2, n2, hd2⟩ := id hb
  simp only at hc hd hc2 hd2
  subst hc hd hc2 hd2
  have e : vs.toArray ++ ws.toArray = (vs ++ ws).toArray := by simp
  by_cases hw : ws = []
  · exact concat_meets ⟨_, ho, rfl⟩ ⟨_, ho2, rfl⟩ noFill_tuple_add seq_tuple_add PySem.F.slot_tuple_add PySem.F.entry_tuple_add (PySem.F.args_tuple_add_2 _ _)
      (tuple_addW1 t b vs.toArray ws.toArray n n2 dd dd2 sl sl2 (by simpa using hv) (by simp [hw])) ⟨ho, ho2, h1 hw⟩
  · refine concat_meets ⟨_, ho, rfl⟩ ⟨_, ho2, rfl⟩ noFill_tuple_add seq_tuple_add PySem.F.slot_tuple_add PySem.F.entry_tuple_add (PySem.F.args_tuple_add_2 _ _)
      (tuple_addW2 t b vs.toArray ws.toArray n n2 dd dd2 sl sl2 (by simpa using hv) (by simpa using hw) (by rw [List.size_toArray, List.size_toArray]; exact hsz)) ⟨ho, ho2, ?_⟩
    rw [e]
    exact h2 hw

/-! ### t[a:b], not the whole -/
/-- a slice's bound as a place among n (d where it is left out) -/
def sIx (n d : Nat) : Option Int → Nat
  | none => d
  | some v => if v < 0 then (v + (n : Int)).toNat else min v.toNat n
theorem sIx_nat (n d k : Nat) : sIx n d (some (k : Int)) = min k n := by
  show (if (k : Int) < 0 then ((k : Int) + (n : Int)).toNat else min (k : Int).toNat n) = min k n
  rw [if_neg (by omega), Int.toNat_natCast]
end
end HT

namespace L2
open PySem PySem.Spec PyProof.Rows

/-! ### the parts of a slice -/
abbrev TO := St → Hp → (Option Int → Hp → Prop) → Prop
/-- a slice's part (left out, or an int) -/
def PO (X : Cx) (e : Option Expr) (t : TO) : Prop :=
  ∀ (pins : List (Addr × Obj)) (s : Shared) (σ : St) (H : Hp) (Q : Option Int → Hp → Prop), Inv X pins σ H s → t σ H Q →
    wpAny (model X.prog X.w) X.A (evalPart e X.env) (fun u s' => ∃ o H', Inv X pins σ H' s' ∧ IsPart u o ∧ Q o H') X.xe s
def tNoPart : TO := fun _ H Q => Q none H
def tPart (t : TE) : TO := fun σ H Q => t σ H fun x H1 => ∃ i, x = .int i ∧ Q (some i) H1

theorem intsAre_of {ns : List Int} : ∀ {us : List Value}, Vals (ns.map V.int) us → IntsAre us ns := by
  induction ns with
  | nil => intro us r; rw [List.map_nil] at r; cases r; exact .nil
  | cons n ns ih =>
    intro us r
    rw [List.map_cons] at r
    cases r with
    | cons r1 r2 =>
      obtain ⟨t, e⟩ := r1
      subst e
      exact .cons n t (ih r2)

section
variable {X : Cx} {e : Expr} {te : TE} {lo hi : Option Expr} {tl th : TO} {pos p2 : Pos}

theorem po_none : PO X none tNoPart := by
  intro pins s σ H Q I h
  rw [evalPart_none]
  exact wpAny_pure ⟨none, H, I, .none, h⟩
theorem po_some (h : PE X e te) : PO X (some e) (tPart te) := by
  intro pins s σ H Q I hw
  rw [evalPart_some]
  refine thn (h pins s σ H _ I hw) fun u s1 ⟨x, H1, I1, r1, q1⟩ => ?_
  obtain ⟨i, rfl, q⟩ := q1
  obtain ⟨t, rfl⟩ := r1
  exact ⟨some i, H1, I1, .int i t, q⟩

/-- what a slice of a value is, by values: the slice object stands at sl -/
def SlR (X : Cx) (r : V → Option Int → Option Int → Hp → VK → Prop) : Prop :=
  ∀ (pins : List (Addr × Obj)) (s : Shared) (σ : St) (H : Hp) (x : V) (v vl vu : Value) (lo hi : Option Int) (sl : Addr) (Q : VK), Inv X pins σ H s → RelV x v → s.heap.IsSliceOf sl vl vu .none → IsPart vl lo → IsPart vu hi → r x lo hi H Q →
    ∃ T id, typeLookup (.type T) "__getitem__" = pure (some (.builtin id)) ∧ s.TypeIs v T ∧ wpAny (model X.prog X.w) X.A (getItem v (.ref sl)) (EP X pins σ Q) X.xe s
theorem SlR.or {r r' : V → Option Int → Option Int → Hp → VK → Prop} (h : SlR X r) (h' : SlR X r') : SlR X (fun x lo hi H Q => r x lo hi H Q ∨ r' x lo hi H Q) := by
  intro pins s σ H x v vl vu lo hi sl Q I rx hs pl pu q
  rcases q with q | q
  · exact h pins s σ H x v vl vu lo hi sl Q I rx hs pl pu q
  · exact h' pins s σ H x v vl vu lo hi sl Q I rx hs pl pu q
def tSl (r : V → Option Int → Option Int → Hp → VK → Prop) (te : TE) (tl th : TO) : TE := fun σ H Q => te σ H fun x H1 => tl σ H1 fun l H2 => th σ H2 fun u H3 => r x l u H3 Q
/-- a[lo:hi], any a -/
theorem pe_slice {r : V → Option Int → Option Int → Hp → VK → Prop} (hr : SlR X r) (he : PE X e te) (hl : PO X lo tl) (hu : PO X hi th) : PE X (.Subscript e (.Slice lo hi none p2) pos) (tSl r te tl th) := by
  intro pins s σ H Q I h
  refine Subscript_ (thn (he pins s σ H _ I h) fun v s1 ⟨x, H1, I1, r1, q1⟩ => ?_)
  refine wpAny_Slice (thn (hl pins s1 σ H1 _ I1 q1) fun vl s2 ⟨l, H2, I2, pl, q2⟩ => thn (hu pins s2 σ H2 _ I2 q2) fun vu s3 ⟨u, H3, I3, pu, q3⟩ => ?_)
  rw [evalPart_none]
  refine wpAny_pure ?_
  have I4 : Inv X pins σ H3 { s3 with heap := s3.heap.push { cls := .type "slice", data := .fields #[vl, vu, .none] } } := I3.kept (t' := s3.toks) fun b ob q => Heap.get?_push_of_some _ q
  obtain ⟨T, id, hT, ht, hg⟩ := hr pins { s3 with heap := s3.heap.push { cls := .type "slice", data := .fields #[vl, vu, .none] } } σ H3 x v vl vu l u s3.heap.objs.size Q I4 r1 (Heap.IsSliceOf.new ..) pl pu q3
  show wpAny (model X.prog X.w) X.A (subscriptTail e (.Slice lo hi none p2) v (.ref s3.heap.objs.size)) (EP X pins σ Q) X.xe { s3 with heap := s3.heap.push { cls := .type "slice", data := .fields #[vl, vu, .none] } }
  exact tail_any (ops := [.ref s3.heap.objs.size, v]) ht hT hg (by with_unfolding_all rfl)

/-- the items of xs[lo:hi] -/
def cutV (xs : List V) (lo hi : Option Int) : List V := (xs.drop (HT.sIx xs.length 0 lo)).take (HT.sIx xs.length xs.length hi - HT.sIx xs.length 0 lo)
theorem cutV_length (xs : List V) (lo hi : Option Int) : (cutV xs lo hi).length ≤ xs.length := by
  unfold cutV
  rw [List.length_take, List.length_drop]
  omega
/-! ### t < u, t + u -/
/-- t + u, t not empty: u empty gives t itself -/
def rCatT (K : PySem.W.Frag) : R2 := fun x y H Q => ∃ a b xs ys, x = .ref a ∧ y = .ref b ∧ SqT K H a xs ∧ SqT K H b ys ∧ xs ≠ [] ∧ xs.length + ys.length ≤ sizeLine ∧
  (ys = [] → Q (.ref a) H) ∧ (ys ≠ [] → ∀ p, H p = none → Q (.ref p) (upd H p (.tup (xs ++ ys))))
theorem Vals.nil_iff {xs : List V} {us : List Value} (r : Vals xs us) : us = [] ↔ xs = [] := by
  cases r with
  | nil => simp
  | cons _ _ => simp
theorem op_catT : OpR X (binaryOp .Add) (rCatT X.K) := by
  intro pins s σ H x y v u Q I rx ry h
  obtain ⟨a, b, xs, ys, rfl, rfl, ha, hb, hx, hz, q1, q2⟩ := h
  cases rx
  cases ry
  obtain ⟨its, r1, p1, _⟩ := I.tuple ha
  obtain ⟨its2, r2, p2, _⟩ := I.tuple hb
  refine HT.cat_tup p1 p2 (fun z => hx (r1.nil_iff.mp z)) (fun z => ⟨.ref a, H, I, rfl, q1 (r2.nil_iff.mp z)⟩) (fun z => ?_) (by rw [← r1.length, ← r2.length]; exact hz)
  refine ⟨.ref s.heap.objs.size, _, I.laid (t' := s.toks) (o := .tup (xs ++ ys)) (fun b ob q => Heap.get?_push_of_some _ q) (Nat.le_refl _) ?_, rfl, q2 (fun w => z (r2.nil_iff.mpr w)) _ (I.hok.fresh (Nat.le_refl _))⟩
  exact ⟨by rw [List.length_append]; exact hz, _, r1.append r2, IsTup.new _ _⟩
end
end L2

namespace L2
open PySem PySem.Spec PyProof.Rows

/-! ### places -/
/-- the place that an index of any sign means -/
def ixN (n : Nat) (i : Int) : Option Nat := if 0 ≤ i then (if i < n then some i.toNat else none) else if -(n : Int) ≤ i then some (i + n).toNat else none
def atI {α : Type} (xs : List α) (i : Int) : Option α := (ixN xs.length i).bind fun j => xs[j]?
theorem ixN_seq {n : Nat} {i : Int} {j : Nat} (h : ixN n i = some j) : seqIndex? i n = some j ∧ j < n ∧ -(n : Int) ≤ i ∧ i < n := by
  unfold ixN at h
  by_cases h0 : 0 ≤ i
  · rw [if_pos h0] at h
    by_cases h1 : i < n
    · rw [if_pos h1] at h
      have e : i.toNat = j := Option.some.inj h
      exact ⟨by rw [seqIndex_of h0 h1, e], by omega, by omega, h1⟩
    · rw [if_neg h1] at h; cases h
  · rw [if_neg h0] at h
    by_cases h1 : -(n : Int) ≤ i
    · rw [if_pos h1] at h
      have e : (i + n).toNat = j := Option.some.inj h
      exact ⟨by rw [seqIndex_neg (by omega) h1, e], by omega, h1, by omega⟩
    · rw [if_neg h1] at h; cases h
theorem atI_get {α : Type} {xs : List α} {i : Int} {v : α} (h : atI xs i = some v) : ∃ j, seqIndex? i xs.length = some j ∧ xs[j]? = some v ∧ j < xs.length ∧ -(xs.length : Int) ≤ i ∧ i < xs.length := by
  unfold atI at h
  cases e : ixN xs.length i with
  | none => rw [e] at h; cases h
  | some j =>
    rw [e] at h
    obtain ⟨h1, h2, h3, h4⟩ := ixN_seq e
    exact ⟨j, h1, h, h2, h3, h4⟩
theorem atI_nat {α : Type} {xs : List α} {j : Nat} {v : α} (h : xs[j]? = some v) : atI xs (j : Int) = some v := by
  have hj : j < xs.length := (List.getElem?_eq_some_iff.mp h).1
  have e : ixN xs.length (j : Int) = some j := by
    unfold ixN
    rw [if_pos (by omega), if_pos (by omega)]; simp
  unfold atI; rw [e]; exact h
theorem atI_last {α : Type} (xs : List α) (v : α) : atI (xs ++ [v]) (-1) = some v := by
  have hl : (xs ++ [v]).length = xs.length + 1 := by simp
  have e : ixN (xs ++ [v]).length (-1) = some xs.length := by
    unfold ixN
    rw [hl, if_neg (by decide), if_pos (by omega)]
    congr 1
    omega
  unfold atI
  rw [e]
  show (xs ++ [v])[xs.length]? = some v
  simp

/-! ### what may be subscripted -/
/-- what stands as an index of a plain subscript -/
def PlainIx (b : Expr) : Prop := ∀ o i, subscripted b false o i = operate [o, i] (getItem o i)
/-- a subscript by values -/
def IxR (X : Cx) (r : R2) : Prop :=
  ∀ (value slice : Expr) (pins : List (Addr × Obj)) (s : Shared) (σ : St) (H : Hp) (x y : V) (v u : Value) (Q : VK), Inv X pins σ H s → RelV x v → RelV y u → r x y H Q →
    subscripted slice false v u = operate [v, u] (getItem v u) → wpAny (model X.prog X.w) X.A (subscriptTail value slice v u) (EP X pins σ Q) X.xe s
/-- a call of a builtin's method by values: the receiver, the arguments -/
def MtR (X : Cx) (id : String) (r : V → List V → Hp → VK → Prop) : Prop :=
  ∀ (pins : List (Addr × Obj)) (s : Shared) (σ : St) (H : Hp) (x : V) (xs : List V) (v : Value) (us : List Value) (Q : VK), Inv X pins σ H s → RelV x v → Vals xs us → r x xs H Q →
    wpAny (model X.prog X.w) X.A (call (.builtin id) (v :: us)) (EP X pins σ Q) X.xe s
section
variable {X : Cx} {a b : Expr} {ta tb : TE} {pos : Pos}
theorem IxR.or {r r' : R2} (h : IxR X r) (h' : IxR X r') : IxR X (fun x y H Q => r x y H Q ∨ r' x y H Q) := by
  intro value slice pins s σ H x y v u Q I rx ry q hs
  rcases q with q | q
  · exact h value slice pins s σ H x y v u Q I rx ry q hs
  · exact h' value slice pins s σ H x y v u Q I rx ry q hs
theorem MtR.or {id : String} {r r' : V → List V → Hp → VK → Prop} (h : MtR X id r) (h' : MtR X id r') : MtR X id (fun x xs H Q => r x xs H Q ∨ r' x xs H Q) := by
  intro pins s σ H x xs v us Q I rx rs q
  rcases q with q | q
  · exact h pins s σ H x xs v us Q I rx rs q
  · exact h' pins s σ H x xs v us Q I rx rs q
/-- a[b] -/
theorem pe_ix {r : R2} (hr : IxR X r) (ha : PE X a ta) (hb : PE X b tb) (hs : PlainIx b) : PE X (.Subscript a b pos) (tOp r ta tb) := by
  intro pins s σ H Q I h
  exact Subscript_ (binT ha hb I h fun v u s2 x y H2 I2 rx ry q => hr a b pins s2 σ H2 x y v u Q I2 rx ry q (hs _ _))

def rIxL (K : PySem.W.Frag) : R2 := fun x y H Q => ∃ p xs i v, x = .ref p ∧ y = .int i ∧ SqL K H p xs ∧ atI xs i = some v ∧ Q v H
def rIxT (K : PySem.W.Frag) : R2 := fun x y H Q => ∃ p xs i v, x = .ref p ∧ y = .int i ∧ SqT K H p xs ∧ atI xs i = some v ∧ Q v H
def rIxS : R2 := fun x y H Q => ∃ z i c, x = .str z ∧ y = .int i ∧ z.length ≤ sizeLine ∧ atI z.cps.toList i = some c ∧ Q (.str ⟨#[c]⟩) H
theorem ix_list : IxR X (rIxL X.K) := by
  intro value slice pins s σ H x y v u Q I rx ry h hs
  obtain ⟨p, xs, i, z, rfl, rfl, hq, he, q⟩ := h
  cases rx
  obtain ⟨t, rfl⟩ := ry
  obtain ⟨its, r, pl, hz⟩ := I.list hq
  obtain ⟨j, h1, h2, h3, h4, h5⟩ := atI_get he
  obtain ⟨w, ew, rw'⟩ := r.get h2
  have hl := r.length
  have hn := line63
  have fin : EP X pins σ Q w s := ⟨z, H, I, rw', q⟩
  by_cases h0 : 0 ≤ i
  · have hj : i.toNat = j := by
      rw [seqIndex_of h0 h5] at h1
      exact Option.some.inj h1
    exact item_listR pl.isList h0 (by omega) (by rw [hj]; simpa using ew) fin hs
  · have hj : (i + (its.toArray.size : Int)).toNat = j := by
      rw [seqIndex_neg (by omega) h4] at h1
      rw [List.size_toArray, ← hl]
      exact Option.some.inj h1
    exact subscriptTail_builtinR (x := w) pl.isList.typeIs slot_list_getitem.lookup
      (wpAny_getItem_list_neg (Q := fun r s' => r = w ∧ EP X pins σ Q r s') pl.isList (by omega) (by rw [List.size_toArray] <;> omega) (by omega) (by rw [hj]; simpa using ew) ⟨rfl, fin⟩) hs
theorem ix_tup : IxR X (rIxT X.K) := by
  intro value slice pins s σ H x y v u Q I rx ry h hs
  obtain ⟨p, xs, i, z, rfl, rfl, hq, he, q⟩ := h
  cases rx
  obtain ⟨t, rfl⟩ := ry
  obtain ⟨its, r, pl, hz⟩ := I.tuple hq
  obtain ⟨j, h1, h2, h3, h4, h5⟩ := atI_get he
  obtain ⟨w, ew, rw'⟩ := r.get h2
  have hl := r.length
  have hn := line63
  have fin : EP X pins σ Q w s := ⟨z, H, I, rw', q⟩
  exact subscriptTail_builtinR (x := w) pl.typeIs slot_tuple_getitem.lookup
    (getItem_tuple (j := j) (Q := fun r s' => r = w ∧ EP X pins σ Q r s') pl (by omega) (by omega) (by rw [List.size_toArray, ← hl]; exact h1) (by simpa using ew) ⟨rfl, fin⟩) hs
theorem ix_str : IxR X rIxS := by
  intro value slice pins s σ H x y v u Q I rx ry h hs
  obtain ⟨z, i, c, rfl, rfl, hz, he, q⟩ := h
  obtain ⟨t, rfl⟩ := rx
  obtain ⟨t', rfl⟩ := ry
  obtain ⟨j, h1, h2, h3, h4, h5⟩ := atI_get he
  have hl : z.cps.toList.length = z.length := by simp [Str.length]
  rw [hl] at h1 h4 h5
  have hn := line63
  exact tail_any (typeIs_str s z t) slot_str_getitem.lookup (getItem_str (c := c) (by
    have e1 : decide (i < -(2 ^ 63 : Int)) = false := decide_eq_false (by omega)
    have e2 : decide (i ≥ 2 ^ 63) = false := decide_eq_false (by omega)
    rw [e1, e2, Bool.or_false]) (by rw [h1]; simpa using h2) ⟨.str ⟨#[c]⟩, H, I.tok _, ⟨_, rfl⟩, q⟩) hs
/-! ### xs[i] = v, any sign -/
theorem Inv.lst {pins : List (Addr × Obj)} {σ : St} {H : Hp} {s : Shared} {p : Addr} {xs : List V} (I : Inv X pins σ H s) (h : H p = some (.lst xs)) :
    ∃ (its : List Value) (n : Nat), Vals xs its ∧ s.heap.get? p = some { cls := .type "list", data := .seq its.toArray n } ∧ xs.length ≤ sizeLine := by
  obtain ⟨z, its, n, r, e⟩ := I.hok p _ h
  exact ⟨its, n, r, e, z⟩
/-! ### slices -/
theorem slice_bounds (lo hi : Option Int) (n : Nat) : (sliceBounds lo hi none n).1 = ((HT.sIx n 0 lo : Nat) : Int) ∧ (sliceBounds lo hi none n).2.1 = ((HT.sIx n n hi : Nat) : Int) ∧ (sliceBounds lo hi none n).2.2 = 1 := by
  refine ⟨?_, ?_, rfl⟩
  · cases lo with
    | none => simp [sliceBounds, HT.sIx]
    | some i =>
      simp only [sliceBounds, HT.sIx, Option.getD_none, show (1 : Int) > 0 by decide, if_true]
      by_cases h : i < 0
      · simp only [h, if_true] <;> omega
      · simp only [h, if_false] <;> omega
  · cases hi with
    | none => simp [sliceBounds, HT.sIx]
    | some i =>
      simp only [sliceBounds, HT.sIx, Option.getD_none, show (1 : Int) > 0 by decide, if_true]
      by_cases h : i < 0
      · simp only [h, if_true] <;> omega
      · simp only [h, if_false] <;> omega
theorem slicePick_cut (its : List Value) (lo hi : Option Int) : slicePick its.toArray lo hi none = ((its.drop (HT.sIx its.length 0 lo)).take (HT.sIx its.length its.length hi - HT.sIx its.length 0 lo)).toArray := by
  obtain ⟨h1, h2, h3⟩ := slice_bounds lo hi its.toArray.size
  unfold slicePick
  rw [h1, h2, h3]
  simp only [sliceRange_one, pick_run, List.size_toArray] <;> rfl
/-- xs[lo:hi] of a list: a new list -/
def rSlL (K : PySem.W.Frag) : V → Option Int → Option Int → Hp → VK → Prop := fun x lo hi H Q => ∃ a xs, x = .ref a ∧ SqL K H a xs ∧ ∀ p, H p = none → Q (.ref p) (upd H p (.lst (cutV xs lo hi)))
theorem sl_list : SlR X (rSlL X.K) := by
  intro pins s σ H x v vl vu lo hi sl Q I rx hs pl pu h
  obtain ⟨a, xs, rfl, hx, q⟩ := h
  cases rx
  obtain ⟨its, r, ht, hz⟩ := I.list hx
  have hlen := r.length
  refine ⟨"list", _, slot_list_getitem.lookup, ht.isList.typeIs, ?_⟩
  refine wpAny_getItem_list_slice ht.isList hs pl pu .none (by simp) ?_ (by rw [List.size_toArray] <;> omega)
  rw [slicePick_cut, ← hlen]
  refine ⟨.ref s.heap.objs.size, _, I.laid (t' := s.toks) (o := .lst (cutV xs lo hi)) (fun b ob q => Heap.get?_push_of_some _ q) (Nat.le_refl _) ?_, rfl, q _ (I.hok.fresh (Nat.le_refl _))⟩
  exact ⟨Nat.le_trans (cutV_length xs lo hi) hz, _, 0, (r.drop (HT.sIx xs.length 0 lo)).take (HT.sIx xs.length xs.length hi - HT.sIx xs.length 0 lo), Heap.get?_push_size _ rfl⟩

/-! ### in, not in: flat items -/
def flatV : V → Bool
  | .non => true
  | .bl _ => true
  | .int _ => true
  | .str _ => true
  | _ => false
/-- == of flat values -/
def eqV : V → V → Bool
  | .non, .non => true
  | .bl a, .bl b => a == b
  | .bl a, .int b => (if a then 1 else 0) == b
  | .int a, .bl b => a == (if b then 1 else 0)
  | .int a, .int b => a == b
  | .str a, .str b => a == b
  | _, _ => false
theorem eqAt_V {A : Around} {s : Shared} {y x : V} {u v : Value} (ry : RelV y u) (rx : RelV x v) (fy : flatV y = true) (fx : flatV x = true) : SeqAt.EqAt A s u v (eqV y x) := by
  cases y with
  | non =>
    cases ry
    cases x with
    | non => cases rx; exact SeqAt.EqAt.same _
    | bl b => cases rx; exact SeqAt.EqAt.none_bool b
    | int b => obtain ⟨t, rfl⟩ := rx; exact SeqAt.EqAt.none_int b t
    | str b => obtain ⟨t, rfl⟩ := rx; exact SeqAt.EqAt.none_str b t
    | _ => exact absurd (show false = true from fx) Bool.false_ne_true
  | bl a =>
    cases ry
    cases x with
    | non => cases rx; exact SeqAt.EqAt.bool_none a
    | bl b => cases rx; exact SeqAt.EqAt.bool_bool a b
    | int b => obtain ⟨t, rfl⟩ := rx; exact SeqAt.EqAt.bool_int a b t
    | str b => obtain ⟨t, rfl⟩ := rx; exact SeqAt.EqAt.bool_str a b t
    | _ => exact absurd (show false = true from fx) Bool.false_ne_true
  | int a =>
    obtain ⟨t', rfl⟩ := ry
    cases x with
    | non => cases rx; exact SeqAt.EqAt.int_none a t'
    | bl b => cases rx; exact SeqAt.EqAt.int_bool a t' b
    | int b => obtain ⟨t, rfl⟩ := rx; exact SeqAt.EqAt.int_int a t' b t
    | str b => obtain ⟨t, rfl⟩ := rx; exact SeqAt.EqAt.int_str a t' b t
    | _ => exact absurd (show false = true from fx) Bool.false_ne_true
  | str a =>
    obtain ⟨t', rfl⟩ := ry
    cases x with
    | non => cases rx; exact SeqAt.EqAt.str_none a t'
    | bl b => cases rx; exact SeqAt.EqAt.str_bool a t' b
    | int b => obtain ⟨t, rfl⟩ := rx; exact SeqAt.EqAt.str_int a t' b t
    | str b => obtain ⟨t, rfl⟩ := rx; exact SeqAt.EqAt.str_str a t' b t
    | _ => exact absurd (show false = true from fx) Bool.false_ne_true
  | _ => exact absurd (show false = true from fy) Bool.false_ne_true
/-- the items' answers, read off the values (a value's own answer does not lean on its token) -/
def eqU (x : V) (u : Value) : Bool := match u with
  | .none => eqV .non x
  | .bool b => eqV (.bl b) x
  | .int i _ => eqV (.int i) x
  | .str z _ => eqV (.str z) x
  | _ => false
theorem eqU_of {x y : V} {u : Value} (r : RelV y u) (f : flatV y = true) : eqU x u = eqV y x := by
  cases y with
  | non => cases r; rfl
  | bl b => cases r; rfl
  | int i => obtain ⟨t, rfl⟩ := r; rfl
  | str z => obtain ⟨t, rfl⟩ := r; rfl
  | _ => exact absurd (show false = true from f) Bool.false_ne_true
theorem any_eqU {x : V} : ∀ {xs : List V} {us : List Value}, Vals xs us → xs.all flatV = true → us.any (eqU x) = xs.any fun y => eqV y x
  | _, _, .nil, _ => rfl
  | y :: xs, u :: us, .cons r t, f => by
    rw [List.all_cons, Bool.and_eq_true] at f
    rw [List.any_cons, List.any_cons, eqU_of r f.1, any_eqU t f.2]
theorem mem_eqAt {A : Around} {s : Shared} {x : V} {v : Value} (rx : RelV x v) (fx : flatV x = true) : ∀ {xs : List V} {us : List Value}, Vals xs us → xs.all flatV = true → ∀ u ∈ us, SeqAt.EqAt A s u v (eqU x u)
  | _, _, .nil, _ => fun u hu => by cases hu
  | y :: xs, u :: us, .cons r t, f => fun u' hu => by
    rw [List.all_cons, Bool.and_eq_true] at f
    rcases List.mem_cons.mp hu with rfl | hu
    · rw [eqU_of r f.1]; exact eqAt_V r rx f.1 fx
    · exact mem_eqAt rx fx t f.2 u' hu
def inV (x : V) (xs : List V) : Bool := xs.any fun y => eqV y x
/-- x in a list or tuple of flat items -/
def rIn (K : PySem.W.Frag) (neg : Bool) : R2 := fun x y H Q => ∃ p xs, y = .ref p ∧ (SqL K H p xs ∨ SqT K H p xs) ∧ flatV x = true ∧ xs.all flatV = true ∧ Q (.bl (if neg then !inV x xs else inV x xs)) H
theorem op_in_seq : OpR X (compareOp .In) (rIn X.K false) := by
  intro pins s σ H x y v u Q I rx ry h
  obtain ⟨p, xs, rfl, hq, fx, fs, q⟩ := h
  cases ry
  rcases hq with hq | hq
  · obtain ⟨its, r, pl, hz⟩ := I.list hq
    refine SeqAt.in_listAt (eqU x) pl.isList (fun w hw => mem_eqAt rx fx r fs w (by simpa using hw)) ⟨.bl _, H, I, rfl, ?_⟩
    rw [show its.toArray.any (eqU x) = its.any (eqU x) by simp, any_eqU r fs]
    exact q
  · obtain ⟨its, r, pl, hz⟩ := I.tuple hq
    refine SeqAt.in_tupleAt (eqU x) pl (fun w hw => mem_eqAt rx fx r fs w (by simpa using hw)) ⟨.bl _, H, I, rfl, ?_⟩
    rw [show its.toArray.any (eqU x) = its.any (eqU x) by simp, any_eqU r fs]
    exact q
theorem op_notIn_seq : OpR X (compareOp .NotIn) (rIn X.K true) := by
  intro pins s σ H x y v u Q I rx ry h
  obtain ⟨p, xs, rfl, hq, fx, fs, q⟩ := h
  cases ry
  rcases hq with hq | hq
  · obtain ⟨its, r, pl, hz⟩ := I.list hq
    refine SeqAt.notIn_listAt (eqU x) pl.isList (fun w hw => mem_eqAt rx fx r fs w (by simpa using hw)) ⟨.bl _, H, I, rfl, ?_⟩
    rw [show its.toArray.any (eqU x) = its.any (eqU x) by simp, any_eqU r fs]
    exact q
  · obtain ⟨its, r, pl, hz⟩ := I.tuple hq
    refine SeqAt.notIn_tupleAt (eqU x) pl (fun w hw => mem_eqAt rx fx r fs w (by simpa using hw)) ⟨.bl _, H, I, rfl, ?_⟩
    rw [show its.toArray.any (eqU x) = its.any (eqU x) by simp, any_eqU r fs]
    exact q
/-! ### len, list(x), tuple(x) of any list or tuple that is read -/
theorem call_len_seq : CallR X (.builtin "len") (fun xs H Q => ∃ p ys, xs = [.ref p] ∧ (SqL X.K H p ys ∨ SqT X.K H p ys) ∧ Q (.int ys.length) H) := by
  intro pins s σ H xs us Q I r h
  obtain ⟨p, ys, rfl, hq, q⟩ := h
  obtain ⟨u, rfl, rx⟩ := vals1 r
  cases rx
  have hn := line63
  rcases hq with hq | hq
  · obtain ⟨its, r', pl, hz⟩ := I.list hq
    have hlen := r'.length
    exact Calls.call_len_list pl.isList (by simp only [List.size_toArray] <;> omega) ⟨.int ys.length, H, I.tok _, ⟨s.toks + 1, by rw [List.size_toArray, hlen]⟩, q⟩
  · obtain ⟨its, r', pl, hz⟩ := I.tuple hq
    have hlen := r'.length
    exact len_tuple pl (by simp only [List.size_toArray] <;> omega) ⟨.int ys.length, H, I.tok _, ⟨s.toks + 1, by rw [List.size_toArray, hlen]⟩, q⟩
theorem call_len_str : CallR X (.builtin "len") (fun xs H Q => ∃ z, xs = [.str z] ∧ z.length ≤ sizeLine ∧ Q (.int z.length) H) := by
  intro pins s σ H xs us Q I r h
  obtain ⟨z, rfl, hz, q⟩ := h
  obtain ⟨u, rfl, t, rfl⟩ := vals1 r
  have hn := line63
  exact len_str (by omega) ⟨.int z.length, H, I.tok _, ⟨_, rfl⟩, q⟩
theorem CallR.or {f : Value} {r r' : List V → Hp → VK → Prop} (h : CallR X f r) (h' : CallR X f r') : CallR X f (fun xs H Q => r xs H Q ∨ r' xs H Q) := by
  intro pins s σ H xs us Q I rs q
  rcases q with q | q
  · exact h pins s σ H xs us Q I rs q
  · exact h' pins s σ H xs us Q I rs q
theorem call_list_of : CallR X (.type "list") (fun xs H Q => ∃ p ys, xs = [.ref p] ∧ (SqL X.K H p ys ∨ SqT X.K H p ys) ∧ ∀ l, H l = none → Q (.ref l) (upd H l (.lst ys))) := by
  intro pins s σ H xs us Q I r h
  obtain ⟨p, ys, rfl, hq, q⟩ := h
  obtain ⟨u, rfl, rx⟩ := vals1 r
  cases rx
  have fin : ∀ (its : List Value), Vals ys its → ys.length ≤ sizeLine → ∀ (h' : Heap) (c' : Nat), (∀ b o', s.heap.get? b = some o' → h'.get? b = some o') →
      h'.get? s.heap.objs.size = some { cls := .type "list", dict := none, data := .seq its.toArray c', slots := #[] } → EP X pins σ Q (.ref s.heap.objs.size) { s with heap := h' } := fun its r' hz h' c' kp e =>
    ⟨.ref s.heap.objs.size, _, I.laid (t' := s.toks) kp (Nat.le_refl _) (show ObjOk X.prog X.w _ h' _ (.lst ys) from ⟨hz, its, c', r', e⟩), rfl, q _ (I.hok.fresh (Nat.le_refl _))⟩
  rcases hq with hq | hq
  · obtain ⟨its, r', pl, hz⟩ := I.list hq
    have hlen := r'.length
    obtain ⟨o, ho, hc, n, hd⟩ := pl.isList
    exact call_list_seq p (.inl rfl) ho hc hd (fun h' c' kp e => fin its r' hz h' c' kp e) (by simp only [List.size_toArray] <;> omega)
  · obtain ⟨its, r', pl, hz⟩ := I.tuple hq
    have hlen := r'.length
    obtain ⟨o, ho, hc, n, hd⟩ := pl
    exact call_list_seq p (.inr rfl) ho hc hd (fun h' c' kp e => fin its r' hz h' c' kp e) (by simp only [List.size_toArray] <;> omega)
/-! ### the call of a builtin's method: o.m(..) -/
/-- the value is of that builtin type -/
def tyV (K : PySem.W.Frag) (T : String) (x : V) (H : Hp) : Prop := match x with
  | .str _ => T = "str"
  | .int _ => T = "int"
  | .ref p => (T = "list" ∧ ∃ xs, SqL K H p xs) ∨ (T = "tuple" ∧ ∃ o, K.lookup p = some o ∧ o.cls = .type "tuple" ∧ o.dict = none) ∨
      (T = "dict" ∧ ((∃ kvs, H p = some (.dK kvs)) ∨ ∃ kvs, H p = some (.dT kvs))) ∨ (T = "set" ∧ ∃ S n, H p = some (.set S n))
  | _ => False
theorem tyV_is {pins : List (Addr × Obj)} {σ : St} {H : Hp} {s : Shared} {T : String} {x : V} {v : Value} (I : Inv X pins σ H s) (r : RelV x v) (ty : tyV X.K T x H) :
    s.TypeIs v T ∧ ∀ a, v = .ref a → ∃ ob, s.heap.get? a = some ob ∧ ob.dict = none := by
  cases x with
  | str z =>
    obtain ⟨t, rfl⟩ := r
    cases (show T = "str" from ty)
    exact ⟨typeIs_str s z t, fun _ e => nomatch e⟩
  | int i =>
    obtain ⟨t, rfl⟩ := r
    cases (show T = "int" from ty)
    exact ⟨typeIs_int s i t, fun _ e => nomatch e⟩
  | ref p =>
    cases r
    rcases ty with ⟨rfl, xs, hq⟩ | ⟨rfl, o, hk, hc, hd⟩ | ⟨rfl, hk⟩ | ⟨rfl, S, n, hk⟩
    · obtain ⟨its, _, pl, _⟩ := I.list hq
      refine ⟨pl.isList.typeIs, fun a e => ?_⟩
      cases e
      obtain ⟨o, n, e, c, hd, _⟩ := pl
      exact ⟨o, e, hd⟩
    · refine ⟨⟨o, I.kIn p o hk, hc⟩, fun a e => ?_⟩
      cases e
      exact ⟨o, I.kIn _ o hk, hd⟩
    · have z : ∃ o, s.heap.get? p = some o ∧ o.ExactDict := by
        rcases hk with ⟨kvs, hk⟩ | ⟨kvs, hk⟩
        · obtain ⟨_, _, _, _, o, _, _, e, ex, _⟩ := I.hok p _ hk
          exact ⟨o, e, ex⟩
        · obtain ⟨_, _, _, _, o, _, _, e, ex, _⟩ := I.hok p _ hk
          exact ⟨o, e, ex⟩
      obtain ⟨o, e, ex⟩ := z
      refine ⟨⟨o, e, ex.1⟩, fun a e2 => ?_⟩
      cases e2
      exact ⟨o, e, ex.2.1⟩
    · obtain ⟨o, _, _, _, e, ex, _⟩ := I.hok p _ hk
      refine ⟨⟨o, e, ex.1⟩, fun a e2 => ?_⟩
      cases e2
      exact ⟨o, e, ex.2.1⟩
  | _ => exact False.elim ty
def tBM (K : PySem.W.Frag) (T : String) (r : V → List V → Hp → VK → Prop) (to : TE) (t : TA) : TE := fun σ H Q => to σ H fun x H1 => tyV K T x H1 ∧ t σ H1 fun xs H2 => r x xs H2 Q
variable {o e : Expr} {es : List Expr} {to : TE} {t : TA} {name : Str} {apos cpos : Pos} {T id : String} {r : V → List V → Hp → VK → Prop}
theorem pe_bm (pa : PlainAttrs T) (slot : Slot T name id) (hty : typeOf (.builtin id) = pure (.type "method_descriptor")) (hm : MtR X id r) (ho : PE X o to) (ha : PA X (e :: es) t)
    (hbase : attributeBase o name X.env (eval o X.env) = eval o X.env := by rfl)
    (hfew : ((backTo cpos (starEach (e :: es) X.env)).all (fun x => !x.1) && (backToKw cpos (keywordEach [] X.env)).all (fun x => x.1.isSome)
      && decide ((e :: es).length + ([] : List Keyword).length + (if ([] : List Keyword).isEmpty then 0 else 1) < 30)) = true := by rfl)
    (hline : (apos.endLine == cpos.line) = true := by rfl) (hs : starEach (e :: es) X.env = (false, eval e X.env) :: starEach es X.env := by rfl) (hplain : (backTo cpos (starEach es X.env)).any (·.1) = false := by rfl) :
    PE X (.Call (.Attribute o name apos) (e :: es) [] cpos) (tBM X.K T r to t) := by
  intro pins s σ H Q I h
  refine wpAny_Call_method_late hbase hfew hline rfl (thn (ho pins s σ H _ I h) fun v s1 ⟨x, H1, I1, r1, ty, q1⟩ => ?_)
  obtain ⟨h1, h2⟩ := tyV_is I1 r1 ty
  refine ⟨T, id, pa, slot, hty, h1, h2, ?_⟩
  have hA := ha cpos pins s1 σ H1 _ I1 q1
  rw [hs] at hA ⊢
  refine Calls.callWith_builtin (by show (false || (backTo cpos (starEach es X.env)).any (·.1)) = false; rw [hplain] <;> rfl) (Calls.evalArgs_plain ?_)
  exact thn hA fun us s2 ⟨vs, H2, I2, r2, q2⟩ => hm pins s2 σ H2 x vs v us Q I2 r1 r2 q2
/- xs.append(e), list.index on a module's tuple .. are MtR facts of 06m -/
end
end L2

namespace L2
open PySem PySem.Spec PyProof.Rows

def MtM (X : Cx) (id : String) (r : V → List V → Hp → VK → Prop) : Prop :=
  ∀ (pins : List (Addr × Obj)) (s : Shared) (σ : St) (H : Hp) (x : V) (xs : List V) (v : Value) (us : List Value) (Q : VK), Inv X pins σ H s → RelV x v → Vals xs us → r x xs H Q →
    wpAny (model X.prog X.w) X.A (call (.builtin id) (v :: us)) (EP X pins σ Q) X.xe s

/-! ### lists of values -/
theorem Vals.one : ∀ {x : V} {us : List Value}, Vals [x] us → ∃ u, us = [u] ∧ RelV x u
  | _, _, .cons r .nil => ⟨_, rfl, r⟩
theorem Vals.two : ∀ {x y : V} {us : List Value}, Vals [x, y] us → ∃ u v, us = [u, v] ∧ RelV x u ∧ RelV y v
  | _, _, _, .cons r (.cons q .nil) => ⟨_, _, rfl, r, q⟩
theorem Vals.zero : ∀ {us : List Value}, Vals [] us → us = []
  | _, .nil => rfl
theorem Vals.reverse {xs : List V} {us : List Value} (h : Vals xs us) : Vals xs.reverse us.reverse := by
  induction h with
  | nil => exact .nil
  | cons r t ih => rw [List.reverse_cons, List.reverse_cons]; exact Vals.append ih (.cons r .nil)
theorem Vals.rep {xs : List V} {us : List Value} (h : Vals xs us) : ∀ k : Nat, Vals (List.replicate k xs).flatten (List.replicate k us).flatten
  | 0 => .nil
  | k + 1 => by
    rw [List.replicate_succ, List.replicate_succ, List.flatten_cons, List.flatten_cons]
    exact Vals.append h (Vals.rep h k)
section
variable {X : Cx} {pins : List (Addr × Obj)} {σ : St} {H : Hp} {s : Shared} {l b : Addr} {xs ys zs : List V}

/-! ### the two steps: a tracked list is rewritten, a new list is laid -/
theorem Inv.lset {its its' : List Value} {n : Nat} {f : Array Value → Array Value} {t' : Nat} (I : Inv X pins σ H s) (hH : H l = some (.lst xs))
    (e : s.heap.get? l = some { cls := .type "list", data := .seq its.toArray n }) (hf : f its.toArray = its'.toArray) (hv : Vals ys its') (hz : ys.length ≤ sizeLine) :
    Inv X pins σ (upd H l (.lst ys)) { s with heap := s.heap.update l (Obj.mapSeq f), toks := t' } := by
  have q := PySem.IsL.update e f
  rw [hf] at q
  refine I.write (x := l) (e := l) (by rw [hH]; exact trivial) (.inl rfl) (fun b' u hb hu => (Heap.get?_update_other s.heap (Obj.mapSeq f) (Ne.symm hb)).trans hu) ⟨_, q⟩ ?_
  exact ⟨hz, its', _, hv, q⟩
theorem Inv.lnew {its : List Value} {t' : Nat} (I : Inv X pins σ H s) (hv : Vals ys its) (hz : ys.length ≤ sizeLine) :
    Inv X pins σ (upd H s.heap.objs.size (.lst ys)) { s with heap := s.heap.push { cls := .type "list", data := .seq its.toArray }, toks := t' } :=
  I.laid (fun _ _ q => Heap.get?_push_of_some _ q) (Nat.le_refl _) ⟨hz, its, 0, hv, Heap.get?_push_size _ rfl⟩
theorem Inv.fresh (I : Inv X pins σ H s) : H s.heap.objs.size = none := I.hok.fresh (Nat.le_refl _)
theorem Inv.lstM (I : Inv X pins σ H s) (hH : H l = some (.lst xs)) : xs.length ≤ sizeLine ∧ ∃ (its : List Value) (n : Nat), Vals xs its ∧ xs.length = its.length ∧ s.heap.get? l = some { cls := .type "list", data := .seq its.toArray n } := by
  obtain ⟨z, its, n, r, e⟩ := I.hok l _ hH
  exact ⟨z, its, n, r, r.length, e⟩

theorem notLongL {n : Nat} (h : n ≤ sizeLine) : Builtin.List.listTooLong n = false := by
  unfold Builtin.List.listTooLong
  exact decide_eq_false (by omega)
end

section
variable {X : Cx}

/-! ### methods -/
def rAppend : V → List V → Hp → VK → Prop := fun x vs H Q => ∃ l xs y, x = .ref l ∧ vs = [y] ∧ H l = some (.lst xs) ∧ xs.length < sizeLine ∧ Q .non (upd H l (.lst (xs ++ [y])))
theorem mt_append : MtM X "list.append" rAppend := by
  intro pins s σ H x vs v us Q I rx rv h
  obtain ⟨l, xs, y, rfl, rfl, hH, hz, q⟩ := h
  cases rx
  obtain ⟨u, rfl, ru⟩ := rv.one
  obtain ⟨z, its, n, r, hl, e⟩ := I.lstM hH
  refine call_meets F.slot_list_append ⟨_, e, rfl⟩ F.entry_list_append (F.args_list_append_2 _ _) (PySem.list_append l its.toArray n u (by rw [List.size_toArray]; omega)) ⟨e, ?_⟩
  refine ⟨.non, _, I.lset (its' := its ++ [u]) hH e (by simp) (r.append (.cons ru .nil)) ?_, rfl, q⟩
  rw [List.length_append, List.length_singleton]
  omega

def rExtend : V → List V → Hp → VK → Prop := fun x vs H Q => ∃ l b xs zs, x = .ref l ∧ vs = [.ref b] ∧ H l = some (.lst xs) ∧ H b = some (.lst zs) ∧ xs.length + zs.length ≤ sizeLine ∧ Q .non (upd H l (.lst (xs ++ zs)))
theorem mt_extend : MtM X "list.extend" rExtend := by
  intro pins s σ H x vs v us Q I rx rv h
  obtain ⟨l, b, xs, zs, rfl, rfl, hH, hB, hz, q⟩ := h
  cases rx
  obtain ⟨u, rfl, ru⟩ := rv.one
  cases ru
  obtain ⟨z, its, n, r, hl, e⟩ := I.lstM hH
  obtain ⟨z2, its2, n2, r2, hl2, e2⟩ := I.lstM hB
  have hsz : its.toArray.size + its2.toArray.size ≤ sizeLine := by rw [List.size_toArray, List.size_toArray]; omega
  have hlong : ¬ (!its.toArray.isEmpty && Builtin.List.listTooLong (its.toArray.size + its2.toArray.size)) = true := by
    rw [notLongL hsz, Bool.and_false]
    exact Bool.false_ne_true
  refine call_meets F.slot_list_extend ⟨_, e, rfl⟩ F.entry_list_extend (F.args_list_extend_2 _ _)
    (AutoSeq1.list_extend_list_list_0 l its.toArray n b its2.toArray n2 hlong (by rw [List.size_toArray]; omega) (by omega)) ⟨e, e2, ?_⟩
  refine ⟨.non, _, I.lset (its' := its ++ its2) hH e (by simp) (r.append r2) ?_, rfl, q⟩
  rw [List.length_append]
  omega

/-! ### list + list, list += list, list * int -/
def rCat : R2 := fun x y H Q => ∃ l b xs zs, x = .ref l ∧ y = .ref b ∧ H l = some (.lst xs) ∧ H b = some (.lst zs) ∧ xs.length + zs.length ≤ sizeLine ∧ ∀ p, H p = none → Q (.ref p) (upd H p (.lst (xs ++ zs)))
theorem op_cat : OpR X (binaryOp .Add) rCat := by
  intro pins s σ H x y v u Q I rx ry h
  obtain ⟨l, b, xs, zs, rfl, rfl, hH, hB, hz, q⟩ := h
  cases rx
  cases ry
  obtain ⟨z, its, n, r, hl, e⟩ := I.lstM hH
  obtain ⟨z2, its2, n2, r2, hl2, e2⟩ := I.lstM hB
  refine PySem.P.add_list e e2 ?_ (by rw [List.size_toArray, List.size_toArray]; omega)
  have ea : its.toArray ++ its2.toArray = (its ++ its2).toArray := by simp
  rw [ea]
  exact ⟨.ref _, _, I.lnew (t' := s.toks) (r.append r2) (by rw [List.length_append]; omega), rfl, q _ I.fresh⟩
/-! ### del xs[i] -/
end

/-! ### xs[a:b] = ys -/
section
variable {prog : Program} {w : World} {A : Around} {E : Value → Shared → Prop} {s : Shared}
end

section
variable {X : Cx}
end
end L2

namespace Att
open PySem PySem.W PySem.Calls PyProof.Rows

/-! ### the script -/
theorem ints_of_wellAll {P : Params} {h : Heap} : ∀ (ns : List Int) (vs : List Value), WellAll P h vs (ns.map WData.int) → IntsAre vs ns := by
  intro ns
  induction ns with
  | nil =>
    intro vs w
    rw [List.map_nil] at w
    cases w
    exact .nil
  | cons n ns ih =>
    intro vs w
    rw [List.map_cons] at w
    cases w with
    | cons a b =>
      cases a
      exact .cons _ _ (ih _ b)

theorem script_of {l : OpenLaw} {n : Nat} (hn : l.most = some n) {P : Params} {h : Heap} {args : List WData} {vals : List Value}
    (hpre : l.row.toRowW.claim.pre args = true) (hwl : WellAll P h vals args) :
    ∃ a vs ns, vals = [Value.ref a] ∧ args = [WData.list (ns.map WData.int)] ∧ h.get? a = some { cls := .type "list", data := .seq vs.toArray } ∧ IntsAre vs ns ∧ ns.length ≤ n := by
  have hsh : WShape.hasAll [] args [.list .int] = true := (pre_splitW hpre).1
  have hc : l.pre.holds [] { args := args } = true := (pre_splitW hpre).2
  obtain ⟨d, r, rfl, h1, h2⟩ := hasAllW_cons hsh
  obtain rfl := hasAllW_nil h2
  obtain ⟨xs, rfl, h3⟩ := hasW_list h1
  obtain ⟨ns, rfl⟩ := items_int h3
  have hlen : ns.length ≤ n := by
    unfold OpenLaw.pre at hc
    have h4 : (WTm.not (.lt (.lit (.int (n : Int))) (.len (.arg 0)))).holds [] { args := [.list (ns.map .int)] } = true := by
      have h4 := (holds_andW hc).1
      rw [hn] at h4
      exact h4
    have h5 := condW_of h4 (w_not (w_lt w_lit (w_len_list (w_arg rfl))))
    rw [List.length_map] at h5
    refine Nat.le_of_not_lt fun q => ?_
    have q' : (n : Int) < ((ns.length : Nat) : Int) := by omega
    first
      | (rw [decide_eq_true q'] at h5; exact absurd h5 (by decide))
      | (simp at h5; omega)
  cases hwl with
  | cons w1 w2 =>
    cases w2
    cases w1 with
    | list ho hall => exact ⟨_, _, ns, rfl, rfl, ho, ints_of_wellAll ns _ hall, hlen⟩

theorem post_true (l : OpenLaw) (args : List WData) : l.row.toRowW.claim.post args (.bool true) args = true :=
  postW_of (r := l.row.toRowW) (X := (true == true))
    (show WShape.has [] (.bool true) .bool = true by first | rfl | decide | simp [WShape.has, WShape.arms, WShape.armsAll])
    (show (WTm.eq .res (.lit (.bool true))).value [] { args := args, res := some (.bool true), after := args } = some (.bool (true == true)) from w_eq_bool (w_res rfl) w_lit) rfl

/-! ### the attachment: holds_open's last premise (the goal 'hc' behind k_head) from a wpAny of the law's body -/
/-- the same from a codeAny of the CALL (for a layer whose function contracts speak of calls) -/
theorem attach_call {l : OpenLaw} {n : Nat} {q : Program} {loose : List Str} {XP : (Str → Option Value) → Heap → Prop} {YP : World → Heap → Prop} {d : DefRec}
    (hn : l.most = some n) (hdf : d.params.defaults = [])
    (call : ∀ (w : World) (s₀ s₁ : Shared) (mg mb : Str → Option Value) (fa : Addr) (o : Obj) (pm cd doc : Value) (a : Addr) (vs : List Value) (ns : List Int),
      Ground q loose [] XP w s₀ mg mb s₁.heap → YP w s₁.heap →
      s₁.heap.get? fa = some o → o.data = .func (docDef d.name d.params d.body d.scope pm cd doc) → s₁.heap.CodeRec cd d.name → mg d.name = some (.ref fa) →
      s₁.heap.get? a = some { cls := .type "list", data := .seq vs.toArray } → IntsAre vs ns → ns.length ≤ n → s₁.gens = #[] →
      codeAny (model l.prog w) callerA (.call (.ref fa) ⟨[.ref a], []⟩) (fun r s' => r = .ok (.ret (.bool true)) ∧ OldK s₁.heap s'.heap ∧ s'.os = s₁.os ∧ AllBare s'.gens) s₁) :
    WalkO q loose XP YP l.row.toRowW d [] (fun f vs => PySem.call f vs) := by
  intro w s₀ s₁ mg mb G Y fa o pm cd doc dV kV ho hd hcd hD hmg hg args vals as hpre hlay hrd hwl hlo
  obtain rfl : dV = .none := Dflts.none hD hdf
  obtain rfl : kV = .none := Dflts.noKw hD
  obtain ⟨a, vs, ns, rfl, rfl, hobj, hints, hlen⟩ := script_of hn hpre hwl
  refine enter_call (codeAny_mono (call w s₀ s₁ mg mb fa o pm cd doc a vs ns G Y ho (fd_plain hd) hcd hmg hobj hints hlen hg) fun r s' hq => ?_)
  obtain ⟨rfl, h2, h3, h4⟩ := hq
  exact ⟨.inl ⟨.bool true, .bool true, [], rfl, fun _ => rfl, .bool true, post_true l _, fun _ => ⟨List.Pairwise.nil, fun _ hm => (nomatch hm)⟩⟩, h2, h3, h4⟩

/-! ### rules over ANY heap (no ledger) from facts about the written part K: the library's own take a ledger (News) for what they write -/
section
variable {prog : Program} {w : World} {A : Around} {E : Value → Shared → Prop} {s : Shared} {K : Frag}

/-! the whole heap as the ledger: makes every rule that writes through a ledger a rule over any heap -/
def ledger (h : Heap) (L d : Addr) : List (Addr × Obj) := (List.range h.objs.size).filterMap fun a => if a = L ∨ a = d then none else (h.get? a).map fun o => (a, o)
end
end Att

namespace L2
open PySem PySem.Spec PyProof.Rows

theorem vals_ints : ∀ {vs : List Value} {ns : List Int}, IntsAre vs ns → Vals (ns.map V.int) vs
  | _, _, .nil => .nil
  | _, _, .cons n t h => .cons ⟨t, rfl⟩ (vals_ints h)

/-- nothing is tracked but the script, known to the object (or it is an object of the module) -/
def Only (H : Hp) : Prop := ∀ b, H b = none ∨ ∃ o xs, H b = some (.frz o (.lst xs))

/-- THE HEAD: the law's promise, at the heap behind the top. F, the promise of the law's def, may use that base is part of the heap (so K.In base, base.Ns mainGlobals mg stand in Mod) -/
theorem law_call {P : Program} {w : World} {K : PySem.W.Frag} {mg mb : Str → Option Value} {CX : CXT} {k : Nat} {fa a : Addr} {fd : FuncData} {x : Str} {sp : Sp} {s₁ : Shared} {vs : List Value} {ns : List Int}
    (KX : K.In s₁.heap) (hns : s₁.heap.Ns mainGlobals mg) (hb : s₁.heap.Ns builtinsNs mb) (hbb : ∀ x : Str, x ≠ "__name__" → mb x = bootBuiltins x) (hlim : s₁.heap.NoLimit) (hg : s₁.gens = #[])
    (ha : s₁.heap.get? a = some { cls := .type "list", data := .seq vs.toArray }) (hi : IntsAre vs ns) (hl : ns.length ≤ sizeLine) (hr : Room k callerA)
    (F : ∀ base : Heap, K.In base → base.Ns mainGlobals mg → FnOk P w K mg base CX k fa fd [x] sp) (hbind : ∀ (s : Shared) (u : Value), BindsTo s fd ⟨[u], []⟩ [(x, u)])
    (hsp : ∀ H : Hp, Only H → SqL K H a (ns.map V.int) → sp [.ref a] H (fun v _ => v = .bl true) fun _ _ _ => False)
    (hCX : ∀ H e s', CX [] H s₁ (fun _ _ _ => False) e s' → False) :
    codeAny (model P w) callerA (.call (.ref fa) ⟨[.ref a], []⟩) (fun r s' => r = .ok (.ret (.bool true)) ∧ OldK s₁.heap s'.heap ∧ s'.os = s₁.os ∧ AllBare s'.gens) s₁ := by
  have rv := vals_ints hi
  have lenV := hi.length
  -- from an abstract heap in which nothing but the script may be tracked
  have core : ∀ H : Hp, Only H → SqL K H a (ns.map V.int) → HOk P w H s₁.heap → (∀ b, H b ≠ none → b = a) → (H a ≠ none → K.lookup a = none) →
      codeAny (model P w) callerA (.call (.ref fa) ⟨[.ref a], []⟩) (fun r s' => r = .ok (.ret (.bool true)) ∧ OldK s₁.heap s'.heap ∧ s'.os = s₁.os ∧ AllBare s'.gens) s₁ := by
    intro H hO hS hok hA hK
    have base_of : ∀ {b : Addr} {o : Obj}, s₁.heap.get? b = some o → H b = none → (hidT s₁.heap H).get? b = some o := fun e n => hidT_get e n
    have noA : ∀ {b : Addr} {o : Obj} {es : Array DictEntry} {ep : Nat}, s₁.heap.get? b = some o → o.data = .dict es ep → H b = none := fun {b o es ep} e d => by
      cases q : H b with
      | none => rfl
      | some u =>
        have e' : b = a := hA b (by rw [q]; simp)
        subst e'
        rw [ha] at e; cases e
        have d' : Data.seq vs.toArray _ = Data.dict es ep := d
        cases d'
    have nsK : ∀ {b : Addr} {m : Str → Option Value}, s₁.heap.Ns b m → (hidT s₁.heap H).Ns b m := fun {b m} ⟨o, es, ep, e, d, r⟩ => ⟨o, es, ep, base_of e (noA e d), d, r⟩
    have hKb : K.In (hidT s₁.heap H) := fun b o e => base_of (KX b o e) (by
      cases q : H b with
      | none => rfl
      | some u =>
        have e' : b = a := hA b (by rw [q]; simp)
        subst e'
        rw [hK (by rw [q]; simp)] at e; cases e)
    have hM : Mod K mg (hidT s₁.heap H) := ⟨hKb, nsK hns, ⟨mb, nsK hb, hbb⟩, let ⟨mc, h1, h2⟩ := hlim; ⟨mc, nsK h1, h2⟩⟩
    have e0 : Env0 P w K mg (hidT s₁.heap H) callerA [] s₁ H := ⟨rfl, hM, fun b o e => of_hidT e, Nat.le_of_eq (hidT_size _ _), trivial, fun b hb => absurd (show b ∈ ([] : List Addr) from hb) (by simp), hok, .of_eq hg⟩
    refine codeAny_mono ((F _ hKb (nsK hns)).run callerA [] s₁ H ⟨[.ref a], []⟩ [.ref a] [.ref a] _ _ hr e0 (hbind s₁ (.ref a)) (.cons rfl .nil) (hsp H hO hS)) fun r s' h => ?_
    cases r with
    | error e => exact (hCX H e s' h).elim
    | ok fl =>
      cases fl with
      | next => exact False.elim h
      | brk => exact False.elim h
      | cont => exact False.elim h
      | ret u =>
        obtain ⟨v, H', os, bare, un, hok', r', q⟩ := h
        have q' : v = .bl true := q
        subst q'
        obtain rfl : u = Value.bool true := r'
        refine ⟨rfl, OldK.of_keep fun b o e => ?_, os, bare⟩
        cases q : H b with
        | none => exact un.keep b o e q (by intro z; exact absurd (show b ∈ ([] : List Addr) from z) (by simp)) (by simp)
        | some u =>
          rcases hO b with z | ⟨ob, xs, z⟩
          · rw [q] at z; cases z
          · have z2 := un.frzs b ob _ z
            obtain ⟨e1, _⟩ := hok b _ z
            obtain ⟨e2, _⟩ := hok' b _ z2
            rw [e] at e1; cases e1
            exact e2
  cases hk : K.lookup a with
  | some o =>
    -- the script is one of the module's own objects
    have e := KX a o hk
    rw [ha] at e
    cases e
    refine core (fun _ => none) (fun _ => .inl rfl) (.inr ⟨_, vs.toArray, _, hk, rfl, rfl, rfl, by rw [List.size_toArray, lenV]; exact hl, by simpa using rv⟩) (fun b u z => by have z' : (none : Option HO) = some u := z; cases z') (fun b z => absurd rfl z) fun z => absurd rfl z
  | none =>
    refine core (fun b => if b = a then some (.frz { cls := .type "list", data := .seq vs.toArray } (.lst (ns.map V.int))) else none) (fun b => ?_) (.inl (.inr ⟨{ cls := .type "list", data := .seq vs.toArray }, if_pos rfl⟩)) (fun b u z => ?_) (fun b z => ?_) fun _ => hk
    · by_cases hb : b = a
      · exact .inr ⟨_, _, if_pos hb⟩
      · exact .inl (if_neg hb)
    · by_cases hb : b = a
      · have z' := (if_pos hb).symm.trans z
        cases z'
        subst hb
        exact ⟨ha, by rw [List.length_map]; exact hl, vs, _, rv, ha⟩
      · have z' := (if_neg hb).symm.trans z
        cases z'
    · by_cases hb : b = a
      · exact hb
      · exact absurd (if_neg hb) z
end L2

namespace L2
open PySem PySem.Spec PyProof.Rows

abbrev KOf {K : PySem.W.Frag} {h : Heap} (_ : K.In h) : PySem.W.Frag := K

/-- the goal that k_head leaves (case hc), from the law's promise. F gives the function object fd (K's own) once, then the promise over every base -/
theorem walk_of {l : PySem.W.OpenLaw} {n k : Nat} {q : Program} {loose : List Str} {XP : (Str → Option Value) → Heap → Prop} {YP : World → Heap → Prop} {d : DefRec} {K : Params → PySem.W.Frag} {CX : World → CXT} {sp : World → Sp} {x : Str}
    (hn : l.most = some n) (hn2 : n ≤ sizeLine) (hdf : d.params.defaults = []) (hr : Room k callerA)
    (hY : ∀ (w : World) (h : Heap), YP w h → (K w.params).In h)
    (F : ∀ (w : World) (mg : Str → Option Value) (fa : Addr) (h : Heap), (K w.params).In h → h.Ns mainGlobals mg → mg d.name = some (.ref fa) →
      ∃ fd : FuncData, (∀ (s : Shared) (u : Value), BindsTo s fd ⟨[u], []⟩ [(x, u)]) ∧
        ∀ base : Heap, (K w.params).In base → base.Ns mainGlobals mg → FnOk l.prog w (K w.params) mg base (CX w) k fa fd [x] (sp w))
    (hsp : ∀ (w : World) (H : Hp) (a : Addr) (ns : List Int), ns.length ≤ n → Only H → SqL (K w.params) H a (ns.map V.int) → sp w [.ref a] H (fun v _ => v = .bl true) fun _ _ _ => False)
    (hCX : ∀ (w : World) (H : Hp) (s : Shared) (e : Value) (s' : Shared), CX w [] H s (fun _ _ _ => False) e s' → False) :
    PySem.W.WalkO q loose XP YP l.row.toRowW d [] (fun f vs => PySem.call f vs) := by
  refine Att.attach_call hn hdf fun w s₀ s₁ mg mb fa o pm cd doc a vs ns G Y ho hd hcd hmg hobj hints hlen hg => ?_
  have KX := hY w _ Y
  obtain ⟨fd, hb, hF⟩ := F w mg fa _ KX G.T.g hmg
  exact law_call KX G.T.g G.T.b G.T.builtins G.T.nolimit hg hobj hints (Nat.le_trans hlen hn2) hr hF hb (fun H hO hS => hsp w H a ns hlen hO hS) fun H e s' => hCX w H s₁ e s'
end L2

/- THE LAST THEOREM (shape; LID, My.* are yours):
   My.Adr: a structure of the addresses that your layer names (classes, functions); My.Txt K t: a structure (Prop) of the equations over K;
   My.txt_mk : {K} {implicit addresses ..} (e1 : nsIn K mainGlobals "law" = some (some (.ref f))) (e2 : K.lookup f = some ⟨oc, od, .func (fnOf "law" "law" params body scope dV kV doc pm an cdv ct), sl⟩) (e3 : codeIn K cdv "law" = true) .. : ∃ t, My.Txt K t

theorem PySem.Challenge.cw_LID_holds : PySem.Challenge.rw_LID.Holds := by
  w_on; o_law; k_head; (case hw => w_witness2)
  k_fill
  refine L2.walk_of (l := PySem.Challenge.rw_LID) (n := 63) (k := 40) (x := "script") (CX := fun w => ..) (sp := fun _ => My.sp_law) rfl (by decide) rfl ⟨rfl, by decide, by decide⟩ (fun w h Y => PySem.W.kIn_of Y) ?F ?S ?C
  case F =>
    intro w mg fa h KX G hmg
    have T : ∃ t, My.Txt (L2.KOf KX) t := by
      dsimp only [L2.KOf]                          -- K must stand as «<heap const> w.params» for k_is
      refine' My.txt_mk ?e1 ?e2 ?e3 ..
      (case e1 => PySem.W.k_is)                    -- in the order: a name -> its address -> its object -> its parts
      (case e2 => PySem.W.k_is)
      ..
    obtain ⟨t, T⟩ := T
    have e0 := hmg.symm.trans (PySem.W.mg_of KX G T.law)
    cases e0                                       -- fa is the law's own address
    exact ⟨_, fun s u => .of_eq rfl, fun base kb nb => My.law_fn T kb nb⟩     -- if «.of_eq rfl» comes too early: refine' ⟨_, ?b, fun base kb nb => My.law_fn T kb nb⟩; exact fun s u => .of_eq rfl
  case S => exact fun w H a ns hl hO hS => ..
  case C => exact ..
(the tactic k_is has no namespace: write k_is) -/

/-! SHORT WORDS over the layer: a def of the text, its body, what a loop and a test want. -/
namespace L2
open PySem PySem.Spec PyProof.Rows

/-! ### the text by places -/
/-- the j-th statement of a class's body -/
def inClass (s : Stmt) (j : Nat) : Stmt := match s with
  | .ClassDef _ _ _ body _ _ _ _ _ _ _ => body.getD j (.Pass ⟨0, 0, 0, 0⟩)
  | _ => .Pass ⟨0, 0, 0, 0⟩
def defArgs (s : Stmt) : Arguments := match s with
  | .FunctionDef _ a _ _ _ _ _ _ _ _ => a
  | _ => { posonlyargs := [], args := [], vararg := none, kwonlyargs := [], kw_defaults := [], kwarg := none, defaults := [] }
def defBody (s : Stmt) : List Stmt := match s with
  | .FunctionDef _ _ b _ _ _ _ _ _ _ => b
  | _ => []
def defScope (s : Stmt) : Scope := match s with
  | .FunctionDef _ _ _ _ _ _ sc _ _ _ => sc
  | _ => { kind := .function, names := [], isGenerator := false, isCoroutine := false }

/-! ### no exception leaves a def -/
abbrev CX0 : CXT := fun _ _ _ _ _ _ => False
abbrev E0 : XK := fun _ _ _ => False
theorem pass0 {X : Cx} : Passes CX0 X E0 := fun _ _ _ _ _ _ _ h => h.elim

/-! ### a def (or method) of the text as it stands behind the top -/
structure Fun (K : PySem.W.Frag) (x qual : Str) (st : Stmt) (f : Addr) (fd : FuncData) : Prop where
  ex : ∃ (oc : Value) (od : Option Addr) (kV doc pm : Value) (an : Option Addr) (cdv ct : Value) (osl : Array (Option Value)),
    fd = PySem.W.fnOf x qual (defArgs st) (defBody st) (defScope st) .none kV doc pm an cdv ct ∧ K.lookup f = some ⟨oc, od, .func fd, osl⟩ ∧ PySem.W.codeIn K cdv qual = true
  kp : PySem.W.keepIn K (.ref f) = true
section
variable {P : Program} {w : World} {K : PySem.W.Frag} {mg : Str → Option Value} {base : Heap}
/-- THE RULE for a def: its body as a term of rules, and the reading of that term -/
theorem Fun.ok {x qual : Str} {st : Stmt} {f : Addr} {fd : FuncData} {N ps : List Str} {k : Nat} {sp : Sp} (F : Fun K x qual st f fd) (S : FnScope N ps (defScope st)) (len : ∀ vs H Q E, sp vs H Q E → vs.length = ps.length)
    (hbody : ∀ (cdv : Value) (A : Around) (outer : List Env) (s : Shared) (H : Hp) (vs : List V) (Q : VK) (E : XK), Room k (A.deeper (envOfC qual (defScope st) s.heap.objs.size f cdv)) → sp vs H Q E →
      ∃ t, PSs (cxOf CX0 P w K mg base N qual (defScope st) f cdv A outer s H E).nox (defBody st) t ∧ t { nx := fun _ H' => Q .non H', rt := Q } (start N vs) H) : FnOk P w K mg base CX0 (k + 1) f fd ps sp := by
  obtain ⟨oc, od, kV, doc, pm, an, cdv, ct, osl, rfl, lk, hcd⟩ := F.ex
  refine fn_of lk hcd S len fun A outer s H vs Q E hr hsp => ?_
  obtain ⟨t, h, q⟩ := hbody cdv A outer s H vs Q E hr hsp
  exact ⟨t, h.nox, q⟩
/-- how its arguments bind (no defaults): h is «fun _ _ _ _ _ _ us hl => match us, hl with | [_, _], _ => rfl», one _ a parameter -/
theorem Fun.binds {x qual : Str} {st : Stmt} {f : Addr} {fd : FuncData} {ps : List Str} (F : Fun K x qual st f fd)
    (h : ∀ (kV doc pm : Value) (an : Option Addr) (cdv ct : Value) (us : List Value), us.length = ps.length → bindArgs (PySem.W.fnOf x qual (defArgs st) (defBody st) (defScope st) .none kV doc pm an cdv ct) ⟨us, []⟩ = pure (ps.zip us)) : Binds K fd ps [] := by
  obtain ⟨oc, od, kV, doc, pm, an, cdv, ct, osl, rfl, lk, hcd⟩ := F.ex
  exact .all (h kV doc pm an cdv ct)
theorem fun_mk {x qual : Str} {st : Stmt} {f : Addr} {oc : Value} {od an : Option Addr} {osl : Array (Option Value)} {kV doc pm cdv ct : Value} (l : K.lookup f = some ⟨oc, od, .func (PySem.W.fnOf x qual (defArgs st) (defBody st) (defScope st) .none kV doc pm an cdv ct), osl⟩)
    (c : PySem.W.codeIn K cdv qual = true) (k : PySem.W.keepIn K (.ref f) = true) : Fun K x qual st f (PySem.W.fnOf x qual (defArgs st) (defBody st) (defScope st) .none kV doc pm an cdv ct) := ⟨⟨oc, od, kV, doc, pm, an, cdv, ct, osl, rfl, l, c⟩, k⟩
end
theorem small1000 {n : Nat} (h : n ≤ 1000) : n < sizeLine := Nat.lt_of_le_of_lt h (by decide)

/-! ### expressions in short: the name that stands in the i-th slot -/
section
variable {X : Cx}
end

/-! ### tests -/
/-! ### heaps -/
/-- all that was tracked is as it was -/
def Same (H H' : Hp) : Prop := ∀ b o, H b = some o → H' b = some o
theorem Same.refl (H : Hp) : Same H H := fun _ _ h => h
theorem Same.trans {H H1 H2 : Hp} (a : Same H H1) (b : Same H1 H2) : Same H H2 := fun c o h => b c o (a c o h)
theorem Same.free {H H' : Hp} (e : Same H H') {l : Addr} (h : H' l = Option.none) : H l = Option.none := by
  cases q : H l with
  | none => rfl
  | some o =>
    rw [e l o q] at h
    cases h
theorem Same.seq {K : PySem.W.Frag} {H H' : Hp} {a : Addr} {xs : List V} (e : Same H H') (h : SqL K H a xs) : SqL K H' a xs := by
  rcases h with (h | ⟨o, h⟩) | h
  · exact .inl (.inl (e _ _ h))
  · exact .inl (.inr ⟨o, e _ _ h⟩)
  · exact .inr h

end L2
namespace L2
open PySem PySem.Spec PyProof.Rows
/-! ### isinstance -/
def cV : V → Option Value
  | .ty n => some (.type n)
  | .ref a => some (.ref a)
  | _ => none
def IsI (K : PySem.W.Frag) (H : Hp) (x c : V) (b : Bool) : Prop := ∃ t u, TyOf K H x t ∧ cV c = some u ∧ PySem.W.kitOne K t u = some b
theorem isI_int_int {K : PySem.W.Frag} {H : Hp} {i : Int} : IsI K H (.int i) (.ty "int") true := ⟨_, _, .int i, rfl, by with_unfolding_all rfl⟩
theorem isI_int_bool {K : PySem.W.Frag} {H : Hp} {i : Int} : IsI K H (.int i) (.ty "bool") false := ⟨_, _, .int i, rfl, by with_unfolding_all rfl⟩
theorem isI_non_int {K : PySem.W.Frag} {H : Hp} : IsI K H .non (.ty "int") false := ⟨_, _, .non, rfl, by with_unfolding_all rfl⟩
theorem isI_bl_bool {K : PySem.W.Frag} {H : Hp} {i : Bool} : IsI K H (.bl i) (.ty "bool") true := ⟨_, _, .bl i, rfl, by with_unfolding_all rfl⟩
theorem isI_str_str {K : PySem.W.Frag} {H : Hp} {i : Str} : IsI K H (.str i) (.ty "str") true := ⟨_, _, .str i, rfl, by with_unfolding_all rfl⟩
theorem isI_lst_list {K : PySem.W.Frag} {H : Hp} {a : Addr} {xs : List V} (e : H a = some (.lst xs)) : IsI K H (.ref a) (.ty "list") true := ⟨_, _, .lst e, rfl, by with_unfolding_all rfl⟩
end L2
namespace L2
open PySem
abbrev rAddI : R2 := rI0 fun i j => .int (i + j)
abbrev rSubI : R2 := rI0 fun i j => .int (i - j)
abbrev rMulI : R2 := rI CMul fun i j => .int (i * j)
abbrev rDivI : R2 := rI CDiv fun i j => .int (i / j)
abbrev rModI : R2 := rI (fun _ j => 0 < j) fun i j => .int (i % j)
abbrev rPowI : R2 := rI CPow fun i j => .int (i ^ j.toNat)
abbrev rLtI : R2 := rI0 fun i j => .bl (decide (i < j))
abbrev rLeI : R2 := rI0 fun i j => .bl (decide (i ≤ j))
abbrev rGtI : R2 := rI0 fun i j => .bl (decide (j < i))
abbrev rNegI : V → Hp → VK → Prop := rU fun i => .int (-i)
def rAddS : R2 := fun x y H Q => ∃ i j, x = .str i ∧ y = .str j ∧ i.length + j.length ≤ sizeLine ∧ Q (.str (i ++ j)) H
def rInt1 : List V → Hp → VK → Prop := fun xs H Q => (∃ i, xs = [.int i] ∧ Q (.int i) H) ∨ ∃ k, xs = [.bl k] ∧ Q (.int (if k then 1 else 0)) H
def rLenS : List V → Hp → VK → Prop := fun xs H Q => ∃ z, xs = [.str z] ∧ z.length ≤ sizeLine ∧ Q (.int z.length) H
def rLenL (K : PySem.W.Frag) : List V → Hp → VK → Prop := fun xs H Q => ∃ p ys, xs = [.ref p] ∧ (SqL K H p ys ∨ SqT K H p ys) ∧ Q (.int ys.length) H
def rIsi (K : PySem.W.Frag) : List V → Hp → VK → Prop := fun xs H Q => ∃ x c b, xs = [x, c] ∧ IsI K H x c b ∧ Q (.bl b) H
theorem same_new {H : Hp} {p : Addr} (h : H p = none) (o : HO) : Same H (upd H p o) := fun b u q => by rw [upd_ne (ne_of_none q h)]; exact q
/-! ### the readings, for simp -/
section
variable {K : PySem.W.Frag} {σ : St} {H : Hp} {Q : VK} {ta tb tc : TE} {tA tB' : TT} {t u : TS} {D : Ends}
theorem w_not {Q : Bool → Hp → Prop} : tNot tA σ H Q = tA σ H fun c H1 => Q (!c) H1 := rfl
end
end L2
namespace L2
open PySem
/-! ### texts -/
def cutS (z : Str) (lo hi : Option Int) : Str := ⟨((z.cps.toList.drop (HT.sIx z.length 0 lo)).take (HT.sIx z.length z.length hi - HT.sIx z.length 0 lo)).toArray⟩
def rSlS : V → Option Int → Option Int → Hp → VK → Prop := fun x lo hi H Q => ∃ z, x = .str z ∧ z.length ≤ 1000000 ∧ Q (.str (cutS z lo hi)) H
def rSum : List V → Hp → VK → Prop := fun xs H Q => ∃ (p : Addr) (ns : List Int), xs = [.ref p] ∧ H p = some (.lst (ns.map V.int)) ∧ Q (.int ns.sum) H
def rListOf (K : PySem.W.Frag) : List V → Hp → VK → Prop := fun xs H Q => ∃ p ys, xs = [.ref p] ∧ (SqL K H p ys ∨ SqT K H p ys) ∧ ∀ l, H l = none → Q (.ref l) (upd H l (.lst ys))
/-! ### a comprehension: the list at D grows -/
def CLoop (J : It) (te : TE) (inn : V → St) (D : Addr) (Q : VK) (H : Hp) : Prop := ∃ W : Nat → Nat → Hp → Prop, (∃ m, W 0 m H) ∧ ∀ i m H, W i m H →
  (J.stop i H ∧ Q (.ref D) H) ∨ (J.go i H ∧ ∀ x H', J.yld i H x H' → te (inn x) H' fun y H2 => ∃ acc, H2 D = some (.lst acc) ∧ acc.length < sizeLine ∧ ∃ m', m' < m ∧ W (i + 1) m' (upd H2 D (.lst (acc ++ [y]))))
def inner (ix : List Nat) (σ : St) (x : V) : St := some x :: ix.map fun i => (σ[i]?).getD none
def tComp (wi : TI) (ix : List Nat) (te : TE) : TE := fun σ H Q => wi σ H fun J H1 => ∀ D, H1 D = none → CLoop J te (inner ix σ) D Q (upd H1 D (.lst []))
section
variable {K : PySem.W.Frag} {σ : St} {H : Hp} {Q : VK} {ta tb tc : TE} {tA tB' : TT} {t u : TS} {D : Ends}
end
end L2
namespace L2
open PySem
/-! ### objects of the text: classes by kinds -/
def tMakeO (C : Addr) : TE := fun _ H Q => ∀ x dx, H x = none → H dx = none → dx ≠ x → Q (.ref x) (upd (upd H dx (.own x)) x (.ins C dx []))
/-- o.m(), the method found by the object's class -/
def tMethD {κ : Type} (A : κ → Addr) (m : Str) (sp : κ → Sp) (ta : TE) : TE := fun σ H Q => ta σ H fun x H1 => ∃ a k dx fs, x = .ref a ∧ H1 a = some (.ins (A k) dx fs) ∧ fs.lookup m = none ∧ sp k [x] H1 Q E0
theorem lk_hd {k : Str} {v : V} {r : List (Str × V)} : List.lookup k ((k, v) :: r) = some v := by simp [List.lookup]
theorem lk_tl {k k' : Str} {v : V} {r : List (Str × V)} (h : ¬ k = k') : List.lookup k ((k', v) :: r) = List.lookup k r := by
  have : (k == k') = false := by simpa using h
  simp [List.lookup, this]
section
variable {K : PySem.W.Frag} {σ : St} {H : Hp} {Q : VK} {ta tb tc : TE} {t u : TS} {D : Ends}
end
/-! ### heaps that keep lists, tuples and instances: what a new object leaves -/
end L2
namespace L2
open PySem PySem.Builtin PySem.Builtin.Str
theorem clip_ix (v : Option Int) (n d : Nat) : (match v with | none => (d : Int) | some i => max 0 (min (if i < 0 then i + (n : Int) else i) (n : Int))) = ((HT.sIx n d v : Nat) : Int) := by
  cases v with
  | none => rfl
  | some i =>
    show max 0 (min (if i < 0 then i + (n : Int) else i) (n : Int)) = (((if i < 0 then (i + (n : Int)).toNat else min i.toNat n) : Nat) : Int)
    split <;> omega
theorem idx_cut (lo hi : Option Int) (n : Nat) : strSliceIndices lo hi 1 n = (List.range (HT.sIx n n hi - HT.sIx n 0 lo)).map (fun k => HT.sIx n 0 lo + k) := by
  have h1 := clip_ix lo n 0
  have h2 := clip_ix hi n n
  generalize HT.sIx n 0 lo = a at *
  generalize HT.sIx n n hi = b at *
  have e : strSliceIndices lo hi 1 n = sliceRange (a : Int) (b : Int) 1 := by
    rw [← h1, ← h2]
    cases lo <;> cases hi <;> rfl
  rw [e]
  unfold sliceRange
  rw [if_pos (show (1 : Int) > 0 by decide)]
  have e3 : (if (a : Int) < b then ((b : Int) - a + 1 - 1) / 1 else 0).toNat = b - a := by
    split
    · rw [Int.ediv_one]; omega
    · omega
  show (List.range (if (a : Int) < b then ((b : Int) - a + 1 - 1) / 1 else 0).toNat).map _ = _
  rw [e3]
  refine List.map_congr_left fun k _ => ?_
  omega
theorem six_le (n : Nat) (hi : Option Int) : HT.sIx n n hi ≤ n := by
  cases hi with
  | none => exact Nat.le_refl _
  | some v =>
    show (if v < 0 then (v + (n : Int)).toNat else min v.toNat n) ≤ n
    split <;> omega
theorem pick_cut (l : List Nat) (a k : Nat) (h : a + k ≤ l.length) : ((List.range k).map (fun j => a + j)).filterMap (fun j => l[j]?) = (l.drop a).take k := by
  induction k with
  | zero => simp
  | succ k ih =>
    rw [List.range_succ, List.map_append, List.filterMap_append, ih (by omega)]
    have hlt : a + k < l.length := by omega
    simp only [List.map_cons, List.map_nil, List.filterMap_cons, List.filterMap_nil, List.getElem?_eq_getElem hlt]
    rw [List.take_succ, List.getElem?_drop, List.getElem?_eq_getElem hlt]
    rfl
theorem slice_cut (z : Str) (lo hi : Option Int) : Txt.slice z lo hi = cutS z lo hi := by
  unfold Txt.slice cutS
  rw [idx_cut]
  have hz : z.cps.toList.length = z.length := by simp [Str.length]
  have hb := six_le z.length hi
  generalize HT.sIx z.length 0 lo = a at *
  generalize HT.sIx z.length z.length hi = b at *
  split
  · rename_i h
    have h2 : b - a = z.length := by simpa using h
    have h3 : a = 0 ∨ z.length = 0 := by omega
    obtain ⟨⟨l⟩⟩ := z
    simp only [Str.length, List.size_toArray] at *
    rcases h3 with h3 | h3
    · subst h3
      rw [List.drop_zero, h2, List.take_length]
    · have : l = [] := List.eq_nil_of_length_eq_zero h3
      subst this
      simp
  · congr 2
    by_cases hab : a ≤ b
    · have := pick_cut z.cps.toList a (b - a) (by omega)
      simpa using this
    · have : b - a = 0 := by omega
      rw [this]
      simp
end L2
/-! ### a comprehension [elt for x in iter], its names captured -/
namespace L2
open PySem PySem.Spec PyProof.Rows
theorem lookup_relabel {env : Env} (y : Str) : ∀ names : List (Str × NameKind),
    (names.map fun (n, k) => if (k == NameKind.free && env.scope.kind == .function && env.kindOf n == some .cell) then (n, NameKind.cell) else (n, k)).lookup y
      = (names.lookup y).map fun k => if (k == NameKind.free && env.scope.kind == .function && env.kindOf y == some .cell) then NameKind.cell else k
  | [] => rfl
  | (n, k) :: r => by
    have ih := lookup_relabel (env := env) y r
    show List.lookup y ((if (k == NameKind.free && env.scope.kind == .function && env.kindOf n == some .cell) = true then (n, NameKind.cell) else (n, k)) :: _) = _
    cases hx : y == n with
    | true =>
      have e : y = n := eq_of_beq hx
      subst e
      by_cases hc : (k == NameKind.free && env.scope.kind == .function && env.kindOf y == some .cell) = true
      · rw [if_pos hc]
        simp only [List.lookup_cons, hx, Option.map_some, if_pos hc]
      · rw [if_neg hc]
        simp only [List.lookup_cons, hx, Option.map_some, if_neg hc]
    | false =>
      by_cases hc : (k == NameKind.free && env.scope.kind == .function && env.kindOf n == some .cell) = true
      · rw [if_pos hc]; simp only [List.lookup_cons, hx]; exact ih
      · rw [if_neg hc]; simp only [List.lookup_cons, hx]; exact ih
/-- the cells of the free names -/
theorem closure_some {env : Env} : ∀ (names : List (Str × NameKind)) (cs : List (Str × Addr)), (∀ n, (n, NameKind.free) ∈ names → ∃ c, env.cells.lookup n = some c) →
    ∃ cl, (forIn names cs (fun (x : Str × NameKind) (r : List (Str × Addr)) => if (x.2 == NameKind.free) = true then do let c ← cellOf env x.1; pure (ForInStep.yield ((x.1, c) :: r)) else pure (ForInStep.yield r)) : Sem (List (Str × Addr))) = pure cl ∧
      (∀ y, (y, NameKind.free) ∈ names → cl.lookup y = env.cells.lookup y) ∧ (∀ y, (y, NameKind.free) ∉ names → cl.lookup y = cs.lookup y)
  | [], cs, _ => ⟨cs, rfl, fun y h => by simp at h, fun y _ => rfl⟩
  | (n, k) :: r, cs, h => by
    by_cases hk : k = .free
    · subst hk
      obtain ⟨c, hc⟩ := h n List.mem_cons_self
      obtain ⟨cl, e, h1, h2⟩ := closure_some r ((n, c) :: cs) fun y hy => h y (List.mem_cons_of_mem _ hy)
      refine ⟨cl, ?_, fun y hy => ?_, fun y hy => ?_⟩
      · rw [List.forIn_cons]
        have e0 : cellOf env n = pure c := by unfold cellOf; rw [hc]
        simp only [beq_self_eq_true, if_true, e0, pure_bind]
        exact e
      · by_cases hr : (y, NameKind.free) ∈ r
        · exact h1 y hr
        · rw [h2 y hr]
          rcases List.mem_cons.mp hy with z | z
          · cases z
            rw [hc]; simp [List.lookup]
          · exact absurd z hr
      · have hr : (y, NameKind.free) ∉ r := fun z => hy (List.mem_cons_of_mem _ z)
        rw [h2 y hr]
        have hn : (y == n) = false := by
          cases e : y == n with
          | false => rfl
          | true => exact absurd (by rw [eq_of_beq e]; exact List.mem_cons_self) hy
        simp [List.lookup, hn]
    · obtain ⟨cl, e, h1, h2⟩ := closure_some r cs fun y hy => h y (List.mem_cons_of_mem _ hy)
      have hb : (k == NameKind.free) = false := by simpa using hk
      refine ⟨cl, ?_, fun y hy => ?_, fun y hy => ?_⟩
      · rw [List.forIn_cons]
        simp only [hb, Bool.false_eq_true, if_false, pure_bind]
        exact e
      · rcases List.mem_cons.mp hy with z | z
        · cases z; exact absurd rfl hk
        · exact h1 y z
      · exact h2 y fun z => hy (List.mem_cons_of_mem _ z)
/-- the context of a comprehension's block -/
def cxC (X : Cx) (scope : Scope) (cl : List (Str × Addr)) (C : Addr) (N : List Str) (s₃ : Shared) (H₃ : Hp) (fp : List Addr) (pins : List (Addr × Obj)) : Cx :=
  { prog := X.prog, w := X.w, K := X.K, mg := X.mg, base := X.base, A := X.A, N := N, s₀ := s₃, H₀ := H₃, env := compEnvC scope cl C X.env, outer := X.stack, stack := X.stack, ex := fp, fn := fun _ => false, calm := X.calm, pn := X.pn ++ pins, xe := fun _ _ => False }
/-- the captured names -/
def FrOk (X : Cx) (scope : Scope) : List Nat → List Str → Prop
  | [], [] => True
  | i :: is, y :: ys => X.N[i]? = some y ∧ scope.names.lookup y = some .free ∧ X.env.kindOf y = some .cell ∧ FrOk X scope is ys
  | _, _ => False
theorem FrOk.len {X : Cx} {scope : Scope} : ∀ {is : List Nat} {ys : List Str}, FrOk X scope is ys → is.length = ys.length
  | [], [], _ => rfl
  | _ :: is, _ :: ys, h => by rw [List.length_cons, List.length_cons, FrOk.len h.2.2.2]
theorem FrOk.get {X : Cx} {scope : Scope} : ∀ {is : List Nat} {ys : List Str} {j : Nat} {y : Str}, FrOk X scope is ys → ys[j]? = some y → ∃ i, is[j]? = some i ∧ X.N[i]? = some y ∧ scope.names.lookup y = some .free ∧ X.env.kindOf y = some .cell
  | [], [], _, _, _, e => by simp at e
  | [], _ :: _, _, _, h, _ => h.elim
  | _ :: _, [], _, _, h, _ => h.elim
  | i :: is, z :: ys, 0, y, h, e => by
    simp at e
    subst e
    exact ⟨i, rfl, h.1, h.2.1, h.2.2.1⟩
  | i :: is, z :: ys, j + 1, y, h, e => by
    obtain ⟨k, h1, h2⟩ := FrOk.get (j := j) h.2.2.2 (by simpa using e)
    exact ⟨k, by simpa using h1, h2⟩
theorem pe_comp {X : Cx} {elt iter : Expr} {x : Str} {px : Pos} {scope : Scope} {cpos : Pos} {wi : TI} {te : TE} (ix : List Nat) (fr : List Str) (hc : X.calm = true) (hi : PI X (.Name x px) iter wi) (hfr : FrOk X scope ix fr)
    (he : ∀ (cl : List (Str × Addr)) (C : Addr) (s₃ : Shared) (H₃ : Hp) (fp : List Addr) (pins : List (Addr × Obj)), PE (cxC X scope cl C (x :: fr) s₃ H₃ fp pins) elt te)
    (hnd : (x :: fr).Nodup := by decide +kernel) (hkind : scope.kind = .function := by rfl) (hcell : ∀ y ∈ scope.names, y.2 ≠ .cell := by decide +kernel)
    (hnames : ∀ y ∈ scope.names, y.2 = .local → scope.names.lookup y.1 = some .local := by decide +kernel) (hfree0 : ∀ y ∈ scope.names, y.2 = .free → y.1 ∈ fr := by decide +kernel) (hx : scope.names.lookup x = some .local := by rfl)
    (hs : ∀ v, foldedSetIterable iter X.env v = pure v := by intro _; rfl) : PE X (.ListComp elt [⟨.Name x px, iter, [], 0⟩] scope cpos) (tComp wi ix te) := by
  intro pins s σ H Q I h
  have hfn : X.env.scope.kind = .function := I.ok.kind
  have hfree : ∀ y ∈ scope.names, y.2 = .free → X.env.kindOf y.1 = some .cell ∧ scope.names.lookup y.1 = some .free := fun y hy e => by
    obtain ⟨j, hj, ej⟩ := List.getElem_of_mem (hfree0 y hy e)
    obtain ⟨i, _, _, h3, h4⟩ := hfr.get (j := j) (y := y.1) (by rw [List.getElem?_eq_getElem hj, ej])
    exact ⟨h4, h3⟩
  obtain ⟨cl, ecl, hcl1, hcl2⟩ := closure_some (env := X.env) scope.names [] fun n hn => I.ok.has n (.inl (hfree _ hn rfl).1)
  have hclos : closureFor scope X.env = pure cl := by
    unfold closureFor
    have : (forIn scope.names ([] : List (Str × Addr)) (fun (x : Str × NameKind) (r : List (Str × Addr)) => if (x.2 == NameKind.free) = true then do let c ← cellOf X.env x.1; pure (ForInStep.yield ((x.1, c) :: r)) else pure (ForInStep.yield r)) : Sem (List (Str × Addr))) = pure cl := ecl
    first
      | exact (by simpa using congrArg (· >>= fun r => pure r) this)
      | (rw [show (pure cl : Sem (List (Str × Addr))) = (pure cl >>= fun r => pure r) from rfl, ← this]; rfl)
  have hcle : ∀ y c, cl.lookup y = some c → X.env.cells.lookup y = some c ∧ (y, NameKind.free) ∈ scope.names := fun y c e => by
    by_cases hy : (y, NameKind.free) ∈ scope.names
    · exact ⟨by rw [← hcl1 y hy]; exact e, hy⟩
    · rw [hcl2 y hy] at e; simp at e
  rw [eval_ListComp]
  refine wpAny_comprehension_free (use := none) rfl hs hclos hkind hnames ?_
  refine thn (hi pins s σ H _ I h) fun v s1 h1 => thn h1 fun itv s2 h2 => ?_
  obtain ⟨it, fp, tn, J, H2, e, I2, T, st2, f2, q2⟩ := h2
  subst e
  refine wpAny_newObj_type ?_
  -- the list D
  generalize hs3 : ({ s2 with heap := s2.heap.push { cls := .type "list", dict := none, data := .seq ([] : List Value).toArray } } : Shared) = s3
  generalize hD : s2.heap.objs.size = D
  have hDn : H2 D = none := by rw [← hD]; exact I2.hok.fresh (Nat.le_refl _)
  have I3 : Inv X pins σ (upd H2 D (.lst [])) s3 := by
    rw [← hs3, ← hD]
    exact I2.lnew (t' := s2.toks) (ys := []) (its := []) .nil (Nat.zero_le _)
  have k3 : ∀ b o, s2.heap.get? b = some o → s3.heap.get? b = some o := fun b o e => by rw [← hs3]; exact Heap.get?_push_of_some _ e
  have st3 : tn 0 s3.heap := T.keep _ _ _ st2 fun b _ o e => k3 b o e
  have fne : ∀ b ∈ fp, b ≠ D := fun b hb => by
    obtain ⟨o, e, _⟩ := T.obj _ _ st2 b hb
    rw [← hD]
    exact Nat.ne_of_lt (Heap.lt_size e)
  have f3 : ∀ b ∈ fp, FpOk X pins (upd H2 D (.lst [])) b := fun b hb => ⟨by rw [upd_ne (fne b hb)]; exact (f2 b hb).1, (f2 b hb).2⟩
  have q3 := q2 D hDn
  generalize upd H2 D (.lst []) = H3 at I3 f3 q3
  obtain ⟨W, ⟨m0, w0⟩, turn⟩ := q3
  refine wpAny_newFunctionEnv hcell (by intro y hy; simp at hy) (fun h4 hns hsb => ?_) hkind
  try dsimp only at hns hsb ⊢
  generalize hC : s3.heap.objs.size = C at hns hsb ⊢
  have k4 : ∀ b o, s3.heap.get? b = some o → h4.get? b = some o := fun b o e => (hsb.2 b (by rw [← hC]; exact Nat.ne_of_lt (Heap.lt_size e))).trans (Heap.get?_push_of_some _ e)
  -- the block's context and its invariant
  have Cne : ∀ b o, s3.heap.get? b = some o → b ≠ C := fun b o e => by rw [← hC]; exact Nat.ne_of_lt (Heap.lt_size e)
  have stk := I3.stkSub
  have pinF : ∀ p ∈ X.pn ++ pins, p.1 ∉ frs X.stack := fun p hp z => by
    obtain ⟨_, _, n1, n2, _⟩ := I3.pin p hp
    rcases List.mem_cons.mp (stk _ z) with z | z
    · exact n1 z
    · exact n2 z
  have okC : (cxC X scope cl C (x :: fr) s3 H3 fp pins).Ok := by
    refine ⟨I3.ok.mod, by show (relabel scope X.env).kind = _; exact hkind, I3.ok.glob, I3.ok.blt, Nat.le_of_eq hC, fun y z c h1 h2 => I3.ok.inj y z c (hcle y c h1).1 (hcle z c h2).1, fun y hy => ?_, fun y c hf _ => (by cases hf), I3.ok.hd, I3.ok.frames, .inl rfl, fun b hb => ⟨?_, fun y c e z => ?_⟩, I3.bs, ?_, fun b o e hb => ?_, fun b hb z => ?_, I3.stack, I3.stkFree⟩
    · have hy : ((relabel scope X.env).names.lookup y = some .cell) ∨ ((relabel scope X.env).names.lookup y = some .free) := hy
      rw [show (relabel scope X.env).names.lookup y = _ from lookup_relabel y scope.names] at hy
      cases e : scope.names.lookup y with
      | none => rw [e] at hy; simp at hy
      | some k =>
        have hm : (y, k) ∈ scope.names := PySem.mem_of_lookup e
        have hkf : k = .free := by
          rw [e] at hy
          cases k <;> simp at hy ⊢
          exact absurd rfl (hcell _ hm)
        subst hkf
        obtain ⟨c, hc'⟩ := I3.ok.has y (.inl (hfree _ hm rfl).1)
        exact ⟨c, by show cl.lookup y = _; rw [hcl1 y hm]; exact hc'⟩
    · obtain ⟨o, e, _⟩ := T.obj _ _ st3 b hb
      exact Cne b o e
    · exact (f3 b hb).2.2.2.2.1 y c (hcle y c e).1 z
    · exact Nat.le_trans I3.ok.bsz I3.sz
    · rcases (f3 b hb).2.2.2.1 with z | z
      · exact I3.ok.noex b o e z
      · exact absurd (Nat.lt_of_lt_of_le (Heap.lt_size e) (Nat.le_trans I3.ok.bsz z)) (Nat.lt_irrefl _)
    · rcases List.mem_cons.mp (stk _ z) with z | z
      · exact (f3 b hb).2.1 z
      · exact (f3 b hb).2.2.1 z
  have inn : ∀ v, (inner ix σ v) = some v :: ix.map fun i => (σ[i]?).getD none := fun _ => rfl
  have I4 : Inv (cxC X scope cl C (x :: fr) s3 H3 fp pins) [] (none :: ix.map fun i => (σ[i]?).getD none) H3 { s3 with heap := h4, toks := s3.toks + ([] : List (Str × Value)).length } := by
    refine ⟨okC, rfl, I3.bare, Un.kept k4, ⟨_, hns, fun j y v e1 e2 e3 => ?_⟩, fun y c e => ?_, I3.hok.fresh (Nat.le_of_eq hC), fun y c e => I3.freeC y c (hcle y c e).1, fun p hp => ?_, I3.hok.kept k4, ?_⟩
    · match j, e1, e2 with
      | 0, e1, e2 => simp at e2
      | j + 1, e1, e2 =>
        obtain ⟨i, hi1, hi2, hi3, hi4⟩ := hfr.get (j := j) (y := y) (by have e1' : (x :: fr)[j + 1]? = some y := e1; simpa using e1')
        have e2' : σ[i]? = some (some v) := by
          have e2 : (ix.map fun i => (σ[i]?).getD none)[j]? = some (some v) := by simpa using e2
          rw [List.getElem?_map, hi1] at e2
          simp at e2
          cases z : σ[i]? with
          | none => rw [z] at e2; simp at e2
          | some o => rw [z] at e2; simp at e2; rw [e2]
        obtain ⟨m, _, hl⟩ := I3.loc
        obtain ⟨u, r, l⟩ := hl i y v hi2 e2' (.inr (.inl hi4))
        refine ⟨u, r, ?_⟩
        rcases l with ⟨k, _⟩ | ⟨k, c, ec, z⟩
        · rw [hi4] at k; cases k
        · have hm : (y, NameKind.free) ∈ scope.names := PySem.mem_of_lookup hi3
          refine .inr ⟨.inl ?_, c, by show cl.lookup y = _; rw [hcl1 y hm]; exact ec, ?_⟩
          · show (relabel scope X.env).names.lookup y = _
            rw [show (relabel scope X.env).names.lookup y = _ from lookup_relabel y scope.names, hi3]
            simp [hfn, hi4]
          · obtain ⟨o, ho, hd⟩ := z
            exact ⟨o, k4 _ _ ho, hd⟩
    · obtain ⟨v, o, ho, hd⟩ := I3.cell y c (hcle y c e).1
      exact ⟨v, o, k4 _ _ ho, hd⟩
    · have hp : p ∈ X.pn ++ pins := by simpa [cxC] using hp
      obtain ⟨e, n, ne, nf, d⟩ := I3.pin p hp
      exact ⟨k4 _ _ e, n, Cne _ _ e, pinF p hp, d⟩
    · show (none :: ix.map fun i => (σ[i]?).getD none).length = (x :: fr).length
      rw [List.length_cons, List.length_cons, List.length_map, hfr.len]
  have st4 : tn 0 h4 := T.keep _ _ _ st3 fun b _ o e => k4 b o e
  have f4 : ∀ b ∈ fp, b ≠ C ∧ b ∉ frs X.stack ∧ (∀ y c, cl.lookup y = some c → c ≠ b) ∧ ∀ p ∈ (X.pn ++ pins) ++ ([] : List (Addr × Obj)), p.1 ≠ b := fun b hb => by
    obtain ⟨o, e, _⟩ := T.obj _ _ st3 b hb
    refine ⟨Cne b o e, fun z => ?_, fun y c e => (f3 b hb).2.2.2.2.1 y c (hcle y c e).1, fun p hp => (f3 b hb).2.2.2.2.2 p (by simpa using hp)⟩
    rcases List.mem_cons.mp (stk _ z) with z | z
    · exact (f3 b hb).2.1 z
    · exact (f3 b hb).2.2.1 z
  have stat : ∀ {H' : Hp}, (∀ b ∈ fp, H' b = none) → ∀ b ∈ fp, FpOk (cxC X scope cl C (x :: fr) s3 H3 fp pins) [] H' b := fun hn b hb => ⟨hn b hb, (f4 b hb).1, (f4 b hb).2.1, .inl hb, (f4 b hb).2.2.1, (f4 b hb).2.2.2⟩
  -- the end: back to the context around
  have fin : ∀ {σ' : St} {H' : Hp} {s' : Shared}, Inv (cxC X scope cl C (x :: fr) s3 H3 fp pins) [] σ' H' s' → Q (.ref D) H' → compPost (model X.prog X.w) X.A X.xe none (EP X pins σ Q) (.ref D) C (.ok .next) s' := fun {σ' H' s'} I' q' => by
    obtain ⟨m, hn, _⟩ := I'.loc
    refine ⟨m, hn, fun h' sb => ⟨.ref D, H', ?_, rfl, q'⟩⟩
    have hCn : H' C = none := I'.free
    have same : ∀ b, b ≠ C → h'.get? b = s'.heap.get? b := fun b hb => sb.2 b hb
    have U := I'.base
    have U' : Un (frs X.stack) fp H3 H' s3.heap h' := by
      refine ⟨fun b o e n h1 h2 => ?_, fun b o e n h1 h2 => ?_, U.free, fun b o e h2 => ?_, U.tups, U.frzs, U.tbls⟩
      · rw [same b (Cne b o e)]; exact U.keep b o e n h1 h2
      · rw [same b (Cne b o e)]; exact U.slot b o e n h1 h2
      · rw [same b (Cne b o e)]; exact U.there b o e h2
    refine I3.call' (s' := { s' with heap := h' }) (by show s'.os = s3.os; exact I'.os) U' ?_ I'.bare fun b hb => ⟨(f3 b hb).2.2.2.1, (f3 b hb).2.1, (f3 b hb).2.2.2.2.1, (f3 b hb).2.2.2.2.2⟩
    intro b ob e
    refine (I'.hok b ob e).stay (fun c w' hc q => ?_) (fun _ q => q) fun _ _ q => q
    show h'.get? c = _
    rw [same c ?_]
    · exact q
    rintro rfl
    rcases hc with rfl | hc
    · rw [hCn] at e; cases e
    · rw [hCn] at hc; cases hc
  -- the loop
  have loop : ∀ s5 : Shared, s5 = { s3 with heap := h4, toks := s3.toks + ([] : List (Str × Value)).length } →
      codeAny (model X.prog X.w) X.A (.compLoop (.ListComp elt [⟨.Name x px, iter, [], 0⟩] scope cpos) 0 (.ref it) (.ref D) (compEnvC scope cl C X.env)) (compPost (model X.prog X.w) X.A X.xe none (EP X pins σ Q) (.ref D) C) s5 := by
    rintro s5 rfl
    refine codeAny_loop rfl (fun n s' => ∃ i o H', Inv (cxC X scope cl C (x :: fr) s3 H3 fp pins) [] (o :: ix.map fun i => (σ[i]?).getD none) H' s' ∧ tn i s'.heap ∧ (∀ b ∈ fp, H' b = none) ∧ W i n H') ?_ m0 ⟨0, none, H3, I4, st4, fun b hb => (f3 b hb).1, w0⟩
    rintro n s6 ⟨i, o, H6, I6, st6, fr6, w6⟩
    show wpAny _ _ ((compTurn (.ListComp elt [⟨.Name x px, iter, [], 0⟩] scope cpos) 0 (.ref it) (.ref D) (compEnvC scope cl C X.env)).onRaise (fun x => do noteFrame x (compEnvC scope cl C X.env); theTreesLotGoes x)) _ _ s6
    refine wpAny_noted ?_
    rw [compTurn_list1]
    rcases turn i n H6 w6 with ⟨stop, qn⟩ | ⟨go, step⟩
    · refine wpAny_bind (wpAny_standAt (wpAny_bind (thn (T.done (cxC X scope cl C (x :: fr) s3 H3 fp pins) rfl rfl rfl hc i [] s6 _ H6 _ I6 (stat fr6) st6 stop) fun r s7 ⟨hr, I7⟩ => ?_)))
      subst hr
      exact wpAny_pure (fin I7 qn)
    · refine wpAny_bind (wpAny_standAt (wpAny_bind (thn (T.item (cxC X scope cl C (x :: fr) s3 H3 fp pins) rfl rfl rfl hc i [] s6 _ H6 _ I6 (stat fr6) st6 go) fun r s7 ⟨u, hr, h7⟩ => ?_)))
      subst hr
      refine wpAny_bind (thn h7 fun _ s8 ⟨y, H8, I8, r8, y8, st8, fr8⟩ => ?_)
      have I8' := I8.pinned (stat fr8) (T.obj _ _ st8)
      have hx' : Loc (cxC X scope cl C (x :: fr) s3 H3 fp pins).env.scope x := .inl (lookup_relabel_local hx)
      refine wpAny_bind (wpAny_mono (pg_name (X := cxC X scope cl C (x :: fr) s3 H3 fp pins) (i := 0) (x := x) (pos := px) hnd rfl hx' (.inr (lookup_relabel_local hx)) _ s8 _ H8 y u (fun σ9 H9 => σ9 = inner ix σ y ∧ H9 = H8) I8' r8 ⟨rfl, rfl⟩) (fun _ s9 ⟨σ9, H9, I9, e9, e9'⟩ => ?_) fun _ _ f => f.elim)
      subst e9 e9'
      refine wpAny_bind (wpAny_bind (wpAny_mono (he cl C s3 H3 fp pins _ s9 _ _ _ I9 (step y _ y8)) (fun v s10 ⟨z, H10, I10, r10, acc, a10, l10, m', hm', w10⟩ => ?_) fun _ _ f => f.elim))
      refine wpAny_bind (wpAny_mono (mt_append (X := cxC X scope cl C (x :: fr) s3 H3 fp pins) _ s10 _ H10 (.ref D) [z] (.ref D) [v] (fun _ H11 => H11 = upd H10 D (.lst (acc ++ [z]))) I10 rfl (.cons r10 .nil) ⟨D, acc, z, rfl, rfl, a10, l10, rfl⟩) (fun _ s11 ⟨_, H11, I11, _, e11⟩ => ?_) fun _ _ f => f.elim)
      subst e11
      refine wpAny_pure (wpAny_pure ⟨rfl, m', hm', i + 1, some y, _, I11.unpinned, T.keep _ _ _ st8 fun b hb o e => (I11.pin (b, o) (List.mem_append_right _ (List.mem_append_right _ (mem_pinsAt hb e)))).1, fun b hb => ?_, w10⟩)
      obtain ⟨o, e, d⟩ := T.obj _ _ st8 b hb
      exact (I11.pin (b, o) (List.mem_append_right _ (List.mem_append_right _ (mem_pinsAt hb e)))).2.1
  exact codeAny_compStart_list (loop _ rfl) (T.self X.A 0 _ _ _ st4 (loop _ rfl))
end L2
/-! ### more rules -/
namespace L2
open PySem PySem.Spec PyProof.Rows
section
variable {X : Cx} {tg : Expr}
/-! ### all, sum -/
theorem call_sum (hc : X.calm = true) : CallR X (.builtin "sum") rSum := by
  intro pins s σ H xs us Q I r h
  obtain ⟨p, ns, rfl, hp, q⟩ := h
  obtain ⟨u, rfl, rx⟩ := vals1 r
  cases rx
  obtain ⟨its, n, rv, e, hz⟩ := I.lst hp
  have hi : IntsAre its ns := intsAre_of rv
  have hl : s.heap.IsList p its.toArray := ⟨_, e, rfl, n, rfl⟩
  obtain ⟨xs, hx⟩ := hi.allInts.items
  have hl' : s.heap.IsList p (intItems xs) := hx ▸ hl
  refine sum_intListG (I.ok.hd hc) hl' fun h' tk t' hk => ?_
  have e1 : ns = xs.toList.map (·.1) := by
    rw [← nums_intItems, ← hx]
    exact (show numsOf its.toArray.toList = ns from hi.numsOf).symm
  have e2 : preSum (numAt xs) xs.size = ns.sum := by
    rw [preSum_eq, List.take_of_length_le (by simp), e1]
  rw [e2]
  exact ⟨.int ns.sum, H, I.kept (t' := tk) hk, ⟨_, rfl⟩, q⟩
/-! ### texts -/
theorem sl_str : SlR X rSlS := by
  intro pins s σ H x v vl vu lo hi sl Q I rx hs pl pu h
  obtain ⟨z, rfl, hz, q⟩ := h
  obtain ⟨t, rfl⟩ := rx
  have pv' : ∀ {w' : Value} {o : Option Int}, IsPart w' o → ∃ p : Option (Int × Tok), w' = partValue p ∧ p.map (·.1) = o := fun {w' o} p => by
    cases p with
    | none => exact ⟨none, rfl, rfl⟩
    | int i t => exact ⟨some (i, t), rfl, rfl⟩
  obtain ⟨l, el, ml⟩ := pv' pl
  obtain ⟨u, eu, mu⟩ := pv' pu
  obtain ⟨o, ho, hc, hd⟩ := hs
  refine ⟨"str", _, F.slot_str_getitem.lookup, typeIs_str _ _ _, wpAny_getItem_str_slice (l := l) (u := u) (st := none) ⟨o, ho, hc, by rw [hd, el, eu]; rfl⟩ rfl ?_⟩
  have hz' : z.length ≤ sizeLine := Nat.le_trans hz (by decide)
  have e : ∀ t' k, EP X pins σ Q (.str (Txt.slice z lo hi) t') { s with toks := k } := fun t' k => by
    rw [slice_cut]
    exact ⟨.str _, H, I.tok k, ⟨_, rfl⟩, q⟩
  have e2 : sliceMade z t l u none = (if ((1 : Int) == 1 && (Builtin.Str.strSliceIndices lo hi 1 z.length).length == z.length) = true then Made.val (.str z t) else .str ⟨((Builtin.Str.strSliceIndices lo hi 1 z.length).filterMap (z.cps[·]?)).toArray⟩) := by
    unfold sliceMade slicePicked
    rw [ml, mu]
    rfl
  rw [e2]
  exact post_val_or_str ⟨Nat.le_trans (Txt.slice_le z _ _) hz', e⟩
/-! ### == of two lists of plain items -/
/-! ### an object without __init__; a method by the object's class -/
theorem pe_makeO {C : Addr} {x : Str} {p pos : Pos} (hm : PySem.W.makesIn X.K C = true) (hi : PySem.W.findIn X.K (.ref C) "__init__" = some (some (.builtin "object.__init__"))) (hk : PySem.W.keepIn X.K (.ref C) = true)
    (hg : Gl X x) (hmg : X.mg x = some (.ref C)) (hdb : (x == ("__debug__" : Str)) = false := by decide) : PE X (.Call (.Name x p) [] [] pos) (tMakeO C) := by
  intro pins s σ H Q I h
  refine wpAny_Call_Name_kw (ld_glob I hg hmg ?_ hdb)
  refine PySem.W.callWith_K0 I.kIn hk (wpAny_call ?_)
  have I2 := Inv.made (C := C) I
  have q := h (s.heap.objs.size + 1) s.heap.objs.size (I.hok.fresh (Nat.le_succ _)) (I.hok.fresh (Nat.le_refl _)) (Nat.ne_of_lt (Nat.lt_succ_self _))
  have kin := I.kIn
  obtain ⟨hh, g, d, t, os⟩ := s
  have Y := PySem.W.makes_of (M := model X.prog X.w) kin hm
  refine PySem.W.make_core Y (PySem.W.looks_findIn kin hi) (fun self => PySem.W.Looks.of_pure (PySem.W.oi_bind self)) (.inr ⟨rfl, rfl⟩) ?_
  have e1 : ((hh.push PySem.W.emptyDict).push (PySem.W.instObj C hh.objs.size)).get? (hh.objs.size + 1) = some (PySem.W.instObj C hh.objs.size) := by
    have := Heap.get?_push_size (h := hh.push PySem.W.emptyDict) (o := PySem.W.instObj C hh.objs.size) rfl
    rwa [Heap.size_push] at this
  have t1 : PySem.W.Looks (model X.prog X.w) ((hh.push PySem.W.emptyDict).push (PySem.W.instObj C hh.objs.size)) (typeOf (.ref (hh.objs.size + 1))) (.ref C) := (PySem.W.Looks.ld e1).andThen .now
  have t2 : PySem.W.Looks (model X.prog X.w) ((hh.push PySem.W.emptyDict).push (PySem.W.instObj C hh.objs.size)) (isInstance (.ref (hh.objs.size + 1)) (.type "object")) true := t1.andThen (Y.top.keeps fun b o e => Heap.get?_push_of_some _ (Heap.get?_push_of_some _ e))
  refine codeAny_call_builtin PySem.W.oi_plain PySem.W.entry_oi (@PySem.W.check_slot (model X.prog X.w) _ _ _ "object.__init__" "object" "__init__" (.ref (hh.objs.size + 1)) [] [] _ PySem.W.oi_kind PySem.W.oi_split t2 (PySem.W.oi_args (.ref (hh.objs.size + 1))) ?_)
  show wpAny _ _ (Builtin.«object.__init__» ⟨[.ref (hh.objs.size + 1)], []⟩) _ _ _
  rw [PySem.W.oi_run]
  exact wpAny_pure (And.intro rfl ⟨.ref _, _, I2, rfl, q⟩)
/-- every class's method keeps its promise -/
def MethsOk {κ : Type} (P : Program) (w : World) (K : PySem.W.Frag) (mg : Str → Option Value) (base : Heap) (k : Nat) (A : κ → Addr) (m : Str) (sp : κ → Sp) : Prop :=
  ∀ c : κ, Cls K (A c) ∧ ∃ f fd ps, Meth K (A c) m f ∧ FnOk P w K mg base CX0 k f fd ps (sp c) ∧ Binds K fd ps []
theorem pe_methD0 {κ : Type} {A : κ → Addr} {m : Str} {sp : κ → Sp} {k : Nat} {o : Expr} {ta : TE} {apos pos : Pos} {pl : Sem Bool} (he : PE X o ta) (G : MethsOk X.prog X.w X.K X.mg X.base k A m sp) (hr : Room k X.A)
    (ht : eval (.Call (.Attribute o m apos) [] [] pos) X.env = (do
      let ov ← eval o X.env
      standAt apos.atName
      let (f, first) ← holding [ov] (getMethod ov m pl)
      callWith pos f first (backTo pos (starEach [] X.env)) (backToKw pos (keywordEach [] X.env))) := by rfl) : PE X (.Call (.Attribute o m apos) [] [] pos) (tMethD A m sp ta) := by
  intro pins s σ H Q I h
  refine PySem.W.methodCall_KW (pl := pl) (thn (he pins s σ H _ I h) fun u s1 ⟨x, H1, I1, rx, a, c, dx, fs, ex, ea, l, q⟩ => ?_) ht
  subst ex
  obtain rfl : u = Value.ref a := rx
  obtain ⟨cl, f, fd, ps, hm, F, hb⟩ := G c
  refine getmeth_ok I1 ea cl hm l ?_
  exact PySem.W.callWith_K0 (first := [.ref a]) I1.kIn hm.kp (run_fn (us := [.ref a]) (vs := [.ref a]) (dvs := []) (ds := []) F hr hb .nil pass0 I1 (.cons rfl .nil) q)
end
end L2
namespace L2
open PySem PySem.Spec PyProof.Rows
section
variable {X : Cx}
theorem call_isinst : CallR X (.builtin "isinstance") (rIsi X.K) := by
  intro pins s σ H xs us Q I r h
  obtain ⟨x, c, b, rfl, ⟨t, u', ty, hc, hk⟩, q⟩ := h
  obtain ⟨u, w', rfl, ru, rc⟩ := vals2 r
  have e : w' = u' := by
    cases c <;> first | (cases hc; exact rc) | cases hc
  subst e
  exact isinst_ok I ru ty hk fun tk => ⟨.bl b, H, I.tok tk, rfl, q⟩
end
end L2
namespace L2
open PySem PySem.Spec PyProof.Rows
theorem bt_len : bootBuiltins "len" = some (.builtin "len") := by decide +kernel
theorem bt_sum : bootBuiltins "sum" = some (.builtin "sum") := by decide +kernel
theorem bt_isinstance : bootBuiltins "isinstance" = some (.builtin "isinstance") := by decide +kernel
theorem bt_int : bootBuiltins "int" = some (.type "int") := by decide +kernel
theorem bt_bool : bootBuiltins "bool" = some (.type "bool") := by decide +kernel
theorem bt_list : bootBuiltins "list" = some (.type "list") := by decide +kernel
theorem bt_tuple : bootBuiltins "tuple" = some (.type "tuple") := by decide +kernel
section
variable {X : Cx}
theorem pe_gref {x : Str} {a : Addr} {pos : Pos} (hg : Gl X x) (hm : X.mg x = some (.ref a)) (hd : (x == ("__debug__" : Str)) = false := by decide) : PE X (.Name x pos) (tC (.ref a)) := pe_glob hg hm rfl hd
theorem pe_gty {x : Str} {n : String} {pos : Pos} (hg : Gl X x) (hm : X.mg x = none) (hv : bootBuiltins x = some (.type n)) (hn : x ≠ "__name__" := by decide) (hd : (x == ("__debug__" : Str)) = false := by decide) : PE X (.Name x pos) (tC (.ty n)) := pe_bltn hg hm hv rfl hn hd
end
end L2
namespace L2
open PySem PySem.Spec PyProof.Rows
theorem isI_int_str {K : PySem.W.Frag} {H : Hp} {i : Int} : IsI K H (.int i) (.ty "str") false := ⟨_, _, .int i, rfl, by with_unfolding_all rfl⟩
theorem isI_int_list {K : PySem.W.Frag} {H : Hp} {i : Int} : IsI K H (.int i) (.ty "list") false := ⟨_, _, .int i, rfl, by with_unfolding_all rfl⟩
theorem isI_int_tuple {K : PySem.W.Frag} {H : Hp} {i : Int} : IsI K H (.int i) (.ty "tuple") false := ⟨_, _, .int i, rfl, by with_unfolding_all rfl⟩
theorem isI_int_dict {K : PySem.W.Frag} {H : Hp} {i : Int} : IsI K H (.int i) (.ty "dict") false := ⟨_, _, .int i, rfl, by with_unfolding_all rfl⟩
theorem isI_bl_int {K : PySem.W.Frag} {H : Hp} {i : Bool} : IsI K H (.bl i) (.ty "int") true := ⟨_, _, .bl i, rfl, by with_unfolding_all rfl⟩
theorem isI_bl_str {K : PySem.W.Frag} {H : Hp} {i : Bool} : IsI K H (.bl i) (.ty "str") false := ⟨_, _, .bl i, rfl, by with_unfolding_all rfl⟩
theorem isI_bl_list {K : PySem.W.Frag} {H : Hp} {i : Bool} : IsI K H (.bl i) (.ty "list") false := ⟨_, _, .bl i, rfl, by with_unfolding_all rfl⟩
theorem isI_bl_tuple {K : PySem.W.Frag} {H : Hp} {i : Bool} : IsI K H (.bl i) (.ty "tuple") false := ⟨_, _, .bl i, rfl, by with_unfolding_all rfl⟩
theorem isI_bl_dict {K : PySem.W.Frag} {H : Hp} {i : Bool} : IsI K H (.bl i) (.ty "dict") false := ⟨_, _, .bl i, rfl, by with_unfolding_all rfl⟩
theorem isI_str_int {K : PySem.W.Frag} {H : Hp} {i : Str} : IsI K H (.str i) (.ty "int") false := ⟨_, _, .str i, rfl, by with_unfolding_all rfl⟩
theorem isI_str_bool {K : PySem.W.Frag} {H : Hp} {i : Str} : IsI K H (.str i) (.ty "bool") false := ⟨_, _, .str i, rfl, by with_unfolding_all rfl⟩
theorem isI_str_list {K : PySem.W.Frag} {H : Hp} {i : Str} : IsI K H (.str i) (.ty "list") false := ⟨_, _, .str i, rfl, by with_unfolding_all rfl⟩
theorem isI_str_tuple {K : PySem.W.Frag} {H : Hp} {i : Str} : IsI K H (.str i) (.ty "tuple") false := ⟨_, _, .str i, rfl, by with_unfolding_all rfl⟩
theorem isI_str_dict {K : PySem.W.Frag} {H : Hp} {i : Str} : IsI K H (.str i) (.ty "dict") false := ⟨_, _, .str i, rfl, by with_unfolding_all rfl⟩
theorem isI_non_bool {K : PySem.W.Frag} {H : Hp} : IsI K H (.non) (.ty "bool") false := ⟨_, _, .non, rfl, by with_unfolding_all rfl⟩
theorem isI_non_str {K : PySem.W.Frag} {H : Hp} : IsI K H (.non) (.ty "str") false := ⟨_, _, .non, rfl, by with_unfolding_all rfl⟩
theorem isI_non_list {K : PySem.W.Frag} {H : Hp} : IsI K H (.non) (.ty "list") false := ⟨_, _, .non, rfl, by with_unfolding_all rfl⟩
theorem isI_non_tuple {K : PySem.W.Frag} {H : Hp} : IsI K H (.non) (.ty "tuple") false := ⟨_, _, .non, rfl, by with_unfolding_all rfl⟩
theorem isI_non_dict {K : PySem.W.Frag} {H : Hp} : IsI K H (.non) (.ty "dict") false := ⟨_, _, .non, rfl, by with_unfolding_all rfl⟩
theorem isI_lst_int {K : PySem.W.Frag} {H : Hp} {a : Addr} {xs : List V} (e : H a = some (.lst xs)) : IsI K H (.ref a) (.ty "int") false := ⟨_, _, .lst e, rfl, by with_unfolding_all rfl⟩
theorem isI_lst_bool {K : PySem.W.Frag} {H : Hp} {a : Addr} {xs : List V} (e : H a = some (.lst xs)) : IsI K H (.ref a) (.ty "bool") false := ⟨_, _, .lst e, rfl, by with_unfolding_all rfl⟩
theorem isI_lst_str {K : PySem.W.Frag} {H : Hp} {a : Addr} {xs : List V} (e : H a = some (.lst xs)) : IsI K H (.ref a) (.ty "str") false := ⟨_, _, .lst e, rfl, by with_unfolding_all rfl⟩
theorem isI_lst_tuple {K : PySem.W.Frag} {H : Hp} {a : Addr} {xs : List V} (e : H a = some (.lst xs)) : IsI K H (.ref a) (.ty "tuple") false := ⟨_, _, .lst e, rfl, by with_unfolding_all rfl⟩
theorem isI_lst_dict {K : PySem.W.Frag} {H : Hp} {a : Addr} {xs : List V} (e : H a = some (.lst xs)) : IsI K H (.ref a) (.ty "dict") false := ⟨_, _, .lst e, rfl, by with_unfolding_all rfl⟩
theorem isI_tup_tuple {K : PySem.W.Frag} {H : Hp} {a : Addr} {xs : List V} (e : H a = some (.tup xs)) : IsI K H (.ref a) (.ty "tuple") true := ⟨_, _, .tup e, rfl, by with_unfolding_all rfl⟩
theorem isI_tup_int {K : PySem.W.Frag} {H : Hp} {a : Addr} {xs : List V} (e : H a = some (.tup xs)) : IsI K H (.ref a) (.ty "int") false := ⟨_, _, .tup e, rfl, by with_unfolding_all rfl⟩
theorem isI_tup_bool {K : PySem.W.Frag} {H : Hp} {a : Addr} {xs : List V} (e : H a = some (.tup xs)) : IsI K H (.ref a) (.ty "bool") false := ⟨_, _, .tup e, rfl, by with_unfolding_all rfl⟩
theorem isI_tup_str {K : PySem.W.Frag} {H : Hp} {a : Addr} {xs : List V} (e : H a = some (.tup xs)) : IsI K H (.ref a) (.ty "str") false := ⟨_, _, .tup e, rfl, by with_unfolding_all rfl⟩
theorem isI_tup_list {K : PySem.W.Frag} {H : Hp} {a : Addr} {xs : List V} (e : H a = some (.tup xs)) : IsI K H (.ref a) (.ty "list") false := ⟨_, _, .tup e, rfl, by with_unfolding_all rfl⟩
theorem isI_tup_dict {K : PySem.W.Frag} {H : Hp} {a : Addr} {xs : List V} (e : H a = some (.tup xs)) : IsI K H (.ref a) (.ty "dict") false := ⟨_, _, .tup e, rfl, by with_unfolding_all rfl⟩
end L2
namespace L2
open PySem PySem.Spec PyProof.Rows
theorem kit_self {K : PySem.W.Frag} {C : Addr} : PySem.W.kitOne K (.ref C) (.ref C) = some true := by
  unfold PySem.W.kitOne
  have : ((Value.ref C) == (Value.ref C)) = true := by simp
  rw [if_pos this]
theorem kit_cls' {K : PySem.W.Frag} {C C' : Addr} {b : Bool} (hm : PySem.W.mroIn K C' (.type "object") = some true) (ht : PySem.W.typeIn K (.ref C') = some (.type "type")) (hs : PySem.W.subIn K (.ref C) (.ref C') = some b) : PySem.W.kitCls K (.ref C) (.ref C') = some b := by
  unfold PySem.W.kitCls
  have h1 : (PySem.W.clsIn K C').isSome = true := by
    unfold PySem.W.mroIn at hm
    cases e : PySem.W.clsIn K C' with
    | none => rw [e] at hm; cases hm
    | some c => rfl
  have h2 : (PySem.W.typeIn K (.ref C') == some (.type "type")) = true := by rw [ht]; simp
  show (if _ then _ else _) = _
  rw [if_pos (by rw [h1, h2]; rfl)]
  exact hs
theorem kit_nsub {K : PySem.W.Frag} {C C' : Addr} (hn : (C == C') = false) (hm : PySem.W.mroIn K C' (.type "object") = some true) (ht : PySem.W.typeIn K (.ref C') = some (.type "type")) (hs : PySem.W.subIn K (.ref C) (.ref C') = some false) : PySem.W.kitOne K (.ref C) (.ref C') = some false := by
  unfold PySem.W.kitOne
  have : ¬ ((Value.ref C) == (Value.ref C')) = true := by
    intro z
    have z := eq_of_beq z
    cases z
    simp at hn
  rw [if_neg this]
  exact kit_cls' hm ht hs
theorem all_cons {α : Type} {p : α → Prop} {a : α} {l : List α} (h : p a) (t : ∀ x ∈ l, p x) : ∀ x ∈ a :: l, p x := fun x hx => by
  rcases List.mem_cons.mp hx with e | e
  · rw [e]; exact h
  · exact t x e
end L2
namespace PX
open PySem L2
/-! ## values without addresses -/
/-- the text's part of the heap; the classes by numbers -/
structure Ck where
  K : PySem.W.Frag
  A : Nat → Addr
inductive PV where
  | non | bl (b : Bool) | int (i : Int) | str (s : Str) | ty (n : String) | cls (k : Nat)
  | scr (ns : List Int)
  | lst (xs : List PV) | tup (xs : List PV)
  | ins (k : Nat) (ns : List Str) (xs : List PV)
  | loc (n : Nat)
inductive Nd where
  | lst (xs : List PV) | dct (ks : List Key) (xs : List PV) | ins (k : Nat) (ns : List Str) (xs : List PV) | dead
abbrev AH := List Nd
inductive PVar where | no | val (x : PV) | own (d : Nd)
abbrev PSt := List PVar
inductive Out where | nx (ρ : PSt) | rt (x : PV) | bk (ρ : PSt) | ct (ρ : PSt)
abbrev XE := PSt → AH → Option (PV × AH)
abbrev XT := PSt → AH → Option (Bool × AH)
abbrev XA := PSt → AH → Option (List PV × AH)
abbrev XO := PSt → AH → Option (Nd × AH)
abbrev XS := PSt → AH → Option (Out × AH)
abbrev Fn := List PV → AH → Option (PV × AH)
mutual
def Rep (K : Ck) (F : Hp) (m : List Addr) : PV → V → Prop
  | .non, v => v = .non
  | .bl b, v => v = .bl b
  | .int i, v => v = .int i
  | .str s, v => v = .str s
  | .ty n, v => v = .ty n
  | .cls k, v => v = .ref (K.A k)
  | .scr ns, v => ∃ a, v = .ref a ∧ SqL K.K F a (ns.map V.int)
  | .lst xs, v => ∃ a vs, v = .ref a ∧ F a = some (.lst vs) ∧ RepL K F m xs vs
  | .tup xs, v => ∃ a vs, v = .ref a ∧ F a = some (.tup vs) ∧ RepL K F m xs vs
  | .ins k ns xs, v => ∃ a dx vs, v = .ref a ∧ F a = some (.ins (K.A k) dx (ns.zip vs)) ∧ vs.length = ns.length ∧ RepL K F m xs vs
  | .loc n, v => ∃ a, v = .ref a ∧ m[n]? = some a
def RepL (K : Ck) (F : Hp) (m : List Addr) : List PV → List V → Prop
  | [], vs => vs = []
  | x :: xs, vs => ∃ v r, vs = v :: r ∧ Rep K F m x v ∧ RepL K F m xs r
end
section
variable {K : Ck} {F F' H H' : Hp} {m m' : List Addr}
theorem pre_get {n : Nat} {a : Addr} (p : m <+: m') (h : m[n]? = some a) : m'[n]? = some a := by
  obtain ⟨r, rfl⟩ := p
  rw [List.getElem?_append_left (List.getElem?_eq_some_iff.mp h).1]; exact h
mutual
theorem Rep.mono (s : Same F F') (p : m <+: m') : ∀ (x : PV) (v : V), Rep K F m x v → Rep K F' m' x v
  | .non, _, h => h
  | .bl _, _, h => h
  | .int _, _, h => h
  | .str _, _, h => h
  | .ty _, _, h => h
  | .cls _, _, h => h
  | .scr _, _, ⟨a, e, h⟩ => ⟨a, e, s.seq h⟩
  | .lst xs, _, ⟨a, vs, e, h, r⟩ => ⟨a, vs, e, s _ _ h, RepL.mono s p xs vs r⟩
  | .tup xs, _, ⟨a, vs, e, h, r⟩ => ⟨a, vs, e, s _ _ h, RepL.mono s p xs vs r⟩
  | .ins _ _ xs, _, ⟨a, dx, vs, e, h, l, r⟩ => ⟨a, dx, vs, e, s _ _ h, l, RepL.mono s p xs vs r⟩
  | .loc _, _, ⟨a, e, h⟩ => ⟨a, e, pre_get p h⟩
theorem RepL.mono (s : Same F F') (p : m <+: m') : ∀ (xs : List PV) (vs : List V), RepL K F m xs vs → RepL K F' m' xs vs
  | [], _, h => h
  | x :: xs, _, ⟨v, r, e, h, l⟩ => ⟨v, r, e, Rep.mono s p x v h, RepL.mono s p xs r l⟩
end
theorem RepL.len : ∀ {xs : List PV} {vs : List V}, RepL K F m xs vs → vs.length = xs.length
  | [], _, h => by rw [show _ = [] from h]; rfl
  | x :: xs, _, ⟨v, r, e, h, l⟩ => by rw [e, List.length_cons, List.length_cons, RepL.len l]
theorem RepL.get : ∀ {xs : List PV} {vs : List V} {i : Nat} {x : PV}, RepL K F m xs vs → xs[i]? = some x → ∃ v, vs[i]? = some v ∧ Rep K F m x v
  | x :: xs, _, 0, y, ⟨v, r, e, h, l⟩, q => by
    simp at q; subst q; subst e; exact ⟨v, rfl, h⟩
  | x :: xs, _, i + 1, y, ⟨v, r, e, h, l⟩, q => by
    subst e
    obtain ⟨w, h1, h2⟩ := RepL.get (i := i) l (by simpa using q)
    exact ⟨w, by simpa using h1, h2⟩
theorem RepL.get' {xs : List PV} {vs : List V} {i : Nat} {v : V} (h : RepL K F m xs vs) (e : vs[i]? = some v) : ∃ x, xs[i]? = some x ∧ Rep K F m x v := by
  have hl := h.len
  have hi : i < vs.length := (List.getElem?_eq_some_iff.mp e).1
  have hx : xs[i]? = some xs[i] := List.getElem?_eq_getElem (by omega)
  obtain ⟨w, h1, h2⟩ := h.get hx
  rw [e] at h1; cases h1
  exact ⟨_, hx, h2⟩
theorem RepL.app : ∀ {xs ys : List PV} {vs us : List V}, RepL K F m xs vs → RepL K F m ys us → RepL K F m (xs ++ ys) (vs ++ us)
  | [], _, _, _, h, k => by rw [show _ = [] from h]; exact k
  | x :: xs, ys, _, us, ⟨v, r, e, h, l⟩, k => by subst e; exact ⟨v, r ++ us, rfl, h, RepL.app l k⟩
theorem RepL.snoc {xs : List PV} {vs : List V} {x : PV} {v : V} (h : RepL K F m xs vs) (k : Rep K F m x v) : RepL K F m (xs ++ [x]) (vs ++ [v]) := h.app ⟨v, [], rfl, k, rfl⟩
theorem RepL.drop : ∀ {xs : List PV} {vs : List V} (n : Nat), RepL K F m xs vs → RepL K F m (xs.drop n) (vs.drop n)
  | _, _, 0, h => by simpa using h
  | [], _, n + 1, h => by rw [show _ = [] from h]; rfl
  | x :: xs, _, n + 1, ⟨v, r, e, h, l⟩ => by subst e; simpa using RepL.drop n l
theorem RepL.take : ∀ {xs : List PV} {vs : List V} (n : Nat), RepL K F m xs vs → RepL K F m (xs.take n) (vs.take n)
  | _, _, 0, h => by simp; rfl
  | [], _, n + 1, h => by rw [show _ = [] from h]; rfl
  | x :: xs, _, n + 1, ⟨v, r, e, h, l⟩ => by subst e; exact ⟨v, r.take n, rfl, h, RepL.take n l⟩
theorem RepL.set : ∀ {xs : List PV} {vs : List V} {x : PV} {v : V} (i : Nat), RepL K F m xs vs → Rep K F m x v → RepL K F m (xs.set i x) (vs.set i v)
  | [], _, _, _, _, h, _ => by rw [show _ = [] from h]; rfl
  | y :: xs, _, x, v, 0, ⟨w, r, e, h, l⟩, k => by subst e; exact ⟨v, r, rfl, k, l⟩
  | y :: xs, _, x, v, i + 1, ⟨w, r, e, h, l⟩, k => by subst e; exact ⟨w, r.set i v, rfl, h, RepL.set i l k⟩
theorem RepL.ints : ∀ {ns : List Int} {vs : List V}, RepL K F m (ns.map PV.int) vs → vs = ns.map V.int
  | [], _, h => h
  | n :: ns, _, ⟨v, r, e, h, l⟩ => by rw [e, show v = .int n from h, RepL.ints l]; rfl
theorem RepL.of_ints : ∀ (ns : List Int), RepL K F m (ns.map PV.int) (ns.map V.int)
  | [] => rfl
  | n :: ns => ⟨_, _, rfl, rfl, RepL.of_ints ns⟩
theorem RepL.strs : ∀ {ns : List Str} {vs : List V}, RepL K F m (ns.map PV.str) vs → vs = ns.map V.str
  | [], _, h => h
  | n :: ns, _, ⟨v, r, e, h, l⟩ => by rw [e, show v = .str n from h, RepL.strs l]; rfl
end
/-! ## worlds -/
def NdAt (K : Ck) (F H : Hp) (m : List Addr) : Nd → Addr → Prop
  | .dead, a => ∃ o, H a = some o
  | .lst xs, a => F a = none ∧ ∃ vs, H a = some (.lst vs) ∧ RepL K F m xs vs
  | .dct ks xs, a => F a = none ∧ ∃ vs, H a = some (.dK (ks.zip vs)) ∧ vs.length = ks.length ∧ RepL K F m xs vs
  | .ins k ns xs, a => F a = none ∧ ∃ dx vs, H a = some (.ins (K.A k) dx (ns.zip vs)) ∧ vs.length = ns.length ∧ RepL K F m xs vs
structure Wd where
  F : Hp
  H : Hp
  m : List Addr
  h : AH
structure WOk (K : Ck) (W : Wd) : Prop where
  le : Same W.F W.H
  len : W.m.length = W.h.length
  nd : W.m.Nodup
  at_ : ∀ (n : Nat) (d : Nd) (a : Addr), W.h[n]? = some d → W.m[n]? = some a → NdAt K W.F W.H W.m d a
structure Le (K : Ck) (W W' : Wd) : Prop where
  ok : WOk K W'
  fs : Same W.F W'.F
  pre : W.m <+: W'.m
  keep : ∀ b o, W.H b = some o → b ∉ W.m → W'.H b = some o
  new : ∀ b o, W.H b = some o → b ∉ W.m → W.F b = none → W'.F b = none
  mn : ∀ b ∈ W'.m, b ∉ W.m → W.H b = none
theorem Le.refl {K : Ck} {W : Wd} (h : WOk K W) : Le K W W := ⟨h, Same.refl _, List.prefix_refl _, fun _ _ e _ => e, fun _ _ _ _ e => e, fun _ h h' => absurd h h'⟩
theorem Le.trans {K : Ck} {W W1 W2 : Wd} (a : Le K W W1) (b : Le K W1 W2) : Le K W W2 where
  ok := b.ok
  fs := a.fs.trans b.fs
  pre := a.pre.trans b.pre
  keep := fun c o e n => b.keep c o (a.keep c o e n) fun z => by rw [a.mn c z n] at e; cases e
  new := fun c o e n f => b.new c o (a.keep c o e n) (fun z => by rw [a.mn c z n] at e; cases e) (a.new c o e n f)
  mn := fun c z n => by
    by_cases hc : c ∈ W1.m
    · exact a.mn c hc n
    · have := b.mn c z hc
      cases e : W.H c with
      | none => rfl
      | some o => rw [a.keep c o e n] at this; cases this
abbrev RepW (K : Ck) (W : Wd) (x : PV) (v : V) : Prop := Rep K W.F W.m x v
abbrev RepLW (K : Ck) (W : Wd) (x : List PV) (v : List V) : Prop := RepL K W.F W.m x v
theorem Le.rep {K : Ck} {W W' : Wd} (l : Le K W W') {x : PV} {v : V} (h : RepW K W x v) : RepW K W' x v := Rep.mono l.fs l.pre x v h
theorem Le.repL {K : Ck} {W W' : Wd} (l : Le K W W') {x : List PV} {v : List V} (h : RepLW K W x v) : RepLW K W' x v := RepL.mono l.fs l.pre x v h
theorem NdAt.mono {K : Ck} {F F' H H' : Hp} {m m' : List Addr} (s : Same F F') (p : m <+: m') {d : Nd} {a : Addr} (hH : ∀ o, H a = some o → H' a = some o) (hF : F a = none → F' a = none) (h : NdAt K F H m d a) : NdAt K F' H' m' d a := by
  cases d with
  | dead => obtain ⟨o, e⟩ := h; exact ⟨o, hH _ e⟩
  | lst xs => obtain ⟨f, vs, e, r⟩ := h; exact ⟨hF f, vs, hH _ e, RepL.mono s p _ _ r⟩
  | dct ks xs => obtain ⟨f, vs, e, l, r⟩ := h; exact ⟨hF f, vs, hH _ e, l, RepL.mono s p _ _ r⟩
  | ins C ns xs => obtain ⟨f, dx, vs, e, l, r⟩ := h; exact ⟨hF f, dx, vs, hH _ e, l, RepL.mono s p _ _ r⟩
theorem NdAt.some {K : Ck} {F H : Hp} {m : List Addr} {d : Nd} {a : Addr} (h : NdAt K F H m d a) : ∃ o, H a = some o := by
  cases d with
  | dead => exact h
  | lst xs => obtain ⟨f, vs, e, r⟩ := h; exact ⟨_, e⟩
  | dct ks xs => obtain ⟨f, vs, e, r⟩ := h; exact ⟨_, e⟩
  | ins C ns xs => obtain ⟨f, dx, vs, e, r⟩ := h; exact ⟨_, e⟩
theorem NdAt.free {K : Ck} {F H : Hp} {m : List Addr} {d : Nd} {a : Addr} (h : NdAt K F H m d a) (hd : d ≠ .dead) : F a = none := by
  cases d with
  | dead => exact absurd rfl hd
  | lst xs => exact h.1
  | dct ks xs => exact h.1
  | ins C ns xs => exact h.1
/-- W: now; W0: where the def began -/
structure Good (K : Ck) (W0 W : Wd) (ρ : PSt) (σ : St) : Prop where
  le : Le K W0 W
  len : σ.length = ρ.length
  val : ∀ (i : Nat) (x : PV), ρ[i]? = some (.val x) → ∃ v, σ[i]? = some (some v) ∧ RepW K W x v
  own : ∀ (i : Nat) (d : Nd), ρ[i]? = some (.own d) → ∃ p, σ[i]? = some (some (.ref p)) ∧ p ∉ W.m ∧ W0.H p = none ∧ d ≠ .dead ∧ NdAt K W.F W.H W.m d p
  ne : ∀ (i j : Nat) (d d' : Nd), i ≠ j → ρ[i]? = some (.own d) → ρ[j]? = some (.own d') → σ[i]? ≠ σ[j]?
theorem Good.ok {K : Ck} {W0 W : Wd} {ρ : PSt} {σ : St} (g : Good K W0 W ρ σ) : WOk K W := g.le.ok
theorem Good.step {K : Ck} {W0 W W' : Wd} {ρ : PSt} {σ : St} (g : Good K W0 W ρ σ) (l : Le K W W') : Good K W0 W' ρ σ where
  le := g.le.trans l
  len := g.len
  val := fun i x e => let ⟨v, h1, h2⟩ := g.val i x e; ⟨v, h1, l.rep h2⟩
  own := fun i d e => by
    obtain ⟨p, h1, h2, h3, h4, h5⟩ := g.own i d e
    obtain ⟨o, ho⟩ := h5.some
    have n' : p ∉ W'.m := fun z => by rw [l.mn p z h2] at ho; cases ho
    refine ⟨p, h1, n', h3, h4, h5.mono l.fs l.pre (fun o e => l.keep p o e h2) fun f => l.new p o ho h2 f⟩
  ne := g.ne
theorem WOk.some {K : Ck} {W : Wd} (w : WOk K W) {a : Addr} (h : a ∈ W.m) : ∃ o, W.H a = some o := by
  obtain ⟨n, hn, e⟩ := List.getElem_of_mem h
  have hl : n < W.h.length := by rw [← w.len]; exact hn
  exact (w.at_ n W.h[n] a (List.getElem?_eq_getElem hl) (by rw [List.getElem?_eq_getElem hn, e])).some
theorem Le.fresh {K : Ck} {W W' : Wd} (l : Le K W W') {p : Addr} (h : W'.H p = none) : W.H p = none := by
  cases e : W.H p with
  | none => rfl
  | some o =>
    by_cases hm : p ∈ W.m
    · obtain ⟨o, q⟩ := l.ok.some (l.pre.subset hm)
      rw [h] at q; cases q
    · rw [l.keep p o e hm] at h; cases h
theorem WOk.out {K : Ck} {W : Wd} (w : WOk K W) {p : Addr} (h : W.H p = none) : p ∉ W.m := fun z => by
  obtain ⟨o, q⟩ := w.some z
  rw [h] at q; cases q
theorem WOk.ff {K : Ck} {W : Wd} (w : WOk K W) {p : Addr} (h : W.H p = none) : W.F p = none := Same.free w.le h
/-- a later world: what is frozen stays -/
structure Lf (K : Ck) (W W' : Wd) : Prop where
  fs : Same W.F W'.F
  pre : W.m <+: W'.m
theorem Le.lf {K : Ck} {W W' : Wd} (l : Le K W W') : Lf K W W' := ⟨l.fs, l.pre⟩
theorem Lf.refl {K : Ck} {W : Wd} : Lf K W W := ⟨Same.refl _, List.prefix_refl _⟩
theorem Lf.trans {K : Ck} {W W1 W2 : Wd} (a : Lf K W W1) (b : Lf K W1 W2) : Lf K W W2 := ⟨a.fs.trans b.fs, a.pre.trans b.pre⟩
theorem Lf.rep {K : Ck} {W W' : Wd} (l : Lf K W W') {x : PV} {v : V} (h : RepW K W x v) : RepW K W' x v := Rep.mono l.fs l.pre x v h
theorem Lf.repL {K : Ck} {W W' : Wd} (l : Lf K W W') {x : List PV} {v : List V} (h : RepLW K W x v) : RepLW K W' x v := RepL.mono l.fs l.pre x v h
/-! ## judgements -/
def SndE (K : Ck) (t : TE) (e : XE) : Prop := ∀ (W0 W : Wd) (ρ : PSt) (σ : St) (Q : VK) (x : PV) (h' : AH), Good K W0 W ρ σ → e ρ W.h = some (x, h') →
  (∀ v W', W'.h = h' → Le K W W' → RepW K W' x v → Q v W'.H) → t σ W.H Q
def SndT (K : Ck) (t : TT) (e : XT) : Prop := ∀ (W0 W : Wd) (ρ : PSt) (σ : St) (Q : Bool → Hp → Prop) (x : Bool) (h' : AH), Good K W0 W ρ σ → e ρ W.h = some (x, h') →
  (∀ W', W'.h = h' → Le K W W' → Q x W'.H) → t σ W.H Q
def SndA (K : Ck) (t : TA) (e : XA) : Prop := ∀ (W0 W : Wd) (ρ : PSt) (σ : St) (Q : List V → Hp → Prop) (x : List PV) (h' : AH), Good K W0 W ρ σ → e ρ W.h = some (x, h') →
  (∀ v W', W'.h = h' → Le K W W' → RepLW K W' x v → Q v W'.H) → t σ W.H Q
/-- a new thing, nobody else's -/
def SndO (K : Ck) (t : TE) (e : XO) : Prop := ∀ (W0 W : Wd) (ρ : PSt) (σ : St) (Q : VK) (d : Nd) (h' : AH), Good K W0 W ρ σ → e ρ W.h = some (d, h') →
  (∀ p W', W'.h = h' → Le K W W' → p ∉ W'.m → W.H p = none → d ≠ .dead → NdAt K W'.F W'.H W'.m d p → Q (.ref p) W'.H) → t σ W.H Q
def Ends.Ok (K : Ck) (W0 W : Wd) (D : Ends) (h' : AH) : Out → Prop
  | .nx ρ' => ∀ W' σ', W'.h = h' → Lf K W W' → Good K W0 W' ρ' σ' → D.nx σ' W'.H
  | .bk ρ' => ∀ W' σ', W'.h = h' → Lf K W W' → Good K W0 W' ρ' σ' → D.bk σ' W'.H
  | .ct ρ' => ∀ W' σ', W'.h = h' → Lf K W W' → Good K W0 W' ρ' σ' → D.ct σ' W'.H
  | .rt x => ∀ W' v, W'.h = h' → Le K W0 W' → RepW K W' x v → D.rt v W'.H
def SndS (K : Ck) (t : TS) (s : XS) : Prop := ∀ (W0 W : Wd) (ρ : PSt) (σ : St) (D : Ends) (o : Out) (h' : AH), Good K W0 W ρ σ → s ρ W.h = some (o, h') → Ends.Ok K W0 W D h' o → t D σ W.H
def ob {α β : Type} (o : Option (α × AH)) (f : α → AH → Option β) : Option β := o.bind fun q => f q.1 q.2
theorem ob_some {α β : Type} {o : Option (α × AH)} {f : α → AH → Option β} {b : β} (h : ob o f = some b) : ∃ x h', o = some (x, h') ∧ f x h' = some b := by
  obtain ⟨⟨x, h'⟩, e, k⟩ := Option.bind_eq_some_iff.mp h
  exact ⟨x, h', e, k⟩
theorem ob_eq {α β : Type} {x : α} {h : AH} {f : α → AH → Option β} : ob (some (x, h)) f = f x h := rfl
end PX
namespace PX
open PySem L2
variable {K : Ck}
/-! ## expressions -/
def xVar (i : Nat) : XE := fun ρ h => match ρ[i]? with | some (.val x) => some (x, h) | _ => none
def xC (x : PV) : XE := fun _ h => some (x, h)
abbrev P2 := PV → PV → AH → Option (PV × AH)
abbrev P2O := PV → PV → AH → Option (Nd × AH)
def xOp (p : P2) (a b : XE) : XE := fun ρ h => ob (a ρ h) fun x h1 => ob (b ρ h1) fun y h2 => p x y h2
def xOpO (p : P2O) (a b : XE) : XO := fun ρ h => ob (a ρ h) fun x h1 => ob (b ρ h1) fun y h2 => p x y h2
def xUn (p : PV → AH → Option (PV × AH)) (a : XE) : XE := fun ρ h => ob (a ρ h) fun x h1 => p x h1
def oB (x : PV) (h : AH) : Option (Bool × AH) := match x with | .bl b => some (b, h) | _ => none
def xChain (p p' : P2) (a b c : XE) : XE := fun ρ h => ob (a ρ h) fun x h1 => ob (b ρ h1) fun y h2 => ob (p x y h2) fun z h3 => ob (oB z h3) fun k h3 => if k = true then ob (c ρ h3) fun w h4 => p' y w h4 else some (.bl false, h3)
def xTest (a : XE) : XT := fun ρ h => ob (a ρ h) oB
def xAndV (a b : XE) : XE := fun ρ h => ob (a ρ h) fun x h1 => ob (oB x h1) fun k h1 => if k = true then b ρ h1 else some (.bl false, h1)
def xOrV (a b : XE) : XE := fun ρ h => ob (a ρ h) fun x h1 => ob (oB x h1) fun k h1 => if k = true then some (.bl true, h1) else b ρ h1
def xNotV (a : XE) : XE := fun ρ h => ob (a ρ h) fun x h1 => ob (oB x h1) fun k h1 => some (.bl (!k), h1)
def xAnd (a b : XT) : XT := fun ρ h => ob (a ρ h) fun k h1 => if k = true then b ρ h1 else some (false, h1)
def xOr (a b : XT) : XT := fun ρ h => ob (a ρ h) fun k h1 => if k = true then some (true, h1) else b ρ h1
def xNot (a : XT) : XT := fun ρ h => ob (a ρ h) fun k h1 => some (!k, h1)
def xIf (c : XT) (a b : XE) : XE := fun ρ h => ob (c ρ h) fun k h1 => if k = true then a ρ h1 else b ρ h1
def xNil : XA := fun _ h => some ([], h)
def xCons (a : XE) (r : XA) : XA := fun ρ h => ob (a ρ h) fun x h1 => ob (r ρ h1) fun xs h2 => some (x :: xs, h2)
def xTup (a : XA) : XE := fun ρ h => ob (a ρ h) fun xs h1 => if xs.length ≤ 1000 then some (.tup xs, h1) else none
def xLst (a : XA) : XO := fun ρ h => ob (a ρ h) fun xs h1 => if xs.length ≤ 1000 then some (.lst xs, h1) else none
/-- a new list that nobody changes any more -/
def xFz (e : XO) : XE := fun ρ h => ob (e ρ h) fun d h1 => match d with | .lst xs => some (.lst xs, h1) | .ins k ns xs => some (.ins k ns xs, h1) | _ => none
/-- a new thing that is changed by several -/
def xLoc (e : XO) : XE := fun ρ h => ob (e ρ h) fun d h1 => some (.loc h1.length, h1 ++ [d])
def xCall (f : Fn) (a : XA) : XE := fun ρ h => ob (a ρ h) f
def xCB (p : List PV → AH → Option (PV × AH)) (a : XA) : XE := fun ρ h => ob (a ρ h) p
def xCBO (p : List PV → AH → Option (Nd × AH)) (a : XA) : XO := fun ρ h => ob (a ρ h) p
abbrev PM := PV → List PV → AH → Option (PV × AH)
def xBM (c : PV → AH → Bool) (p : PM) (o : XE) (a : XA) : XE := fun ρ h => ob (o ρ h) fun x h1 => if c x h1 = true then ob (a ρ h1) fun xs h2 => p x xs h2 else none
def xPart (e : XE) : PSt → AH → Option (Option Int × AH) := fun ρ h => ob (e ρ h) fun x h1 => match x with | .int i => some (some i, h1) | _ => none
def xNoPart : PSt → AH → Option (Option Int × AH) := fun _ h => some (none, h)
def xSl (p : PV → Option Int → Option Int → AH → Option (PV × AH)) (e : XE) (lo hi : PSt → AH → Option (Option Int × AH)) : XE := fun ρ h => ob (e ρ h) fun x h1 => ob (lo ρ h1) fun l h2 => ob (hi ρ h2) fun u h3 => p x l u h3
def xSlO (p : PV → Option Int → Option Int → AH → Option (Nd × AH)) (e : XE) (lo hi : PSt → AH → Option (Option Int × AH)) : XO := fun ρ h => ob (e ρ h) fun x h1 => ob (lo ρ h1) fun l h2 => ob (hi ρ h2) fun u h3 => p x l u h3
/-! ### sound -/
def OpSnd (K : Ck) (r : R2) (p : P2) : Prop := ∀ (W : Wd) (x y : PV) (v u : V) (Q : VK) (z : PV) (h' : AH), WOk K W → RepW K W x v → RepW K W y u → p x y W.h = some (z, h') → (∀ w W', W'.h = h' → Le K W W' → RepW K W' z w → Q w W'.H) → r v u W.H Q
def NewAt (K : Ck) (W : Wd) (d : Nd) (h' : AH) (Q : VK) : Prop := ∀ p W', W'.h = h' → Le K W W' → p ∉ W'.m → W.H p = none → d ≠ .dead → NdAt K W'.F W'.H W'.m d p → Q (.ref p) W'.H
def OpSndO (K : Ck) (r : R2) (p : P2O) : Prop := ∀ (W : Wd) (x y : PV) (v u : V) (Q : VK) (d : Nd) (h' : AH), WOk K W → RepW K W x v → RepW K W y u → p x y W.h = some (d, h') → NewAt K W d h' Q → r v u W.H Q
def UnSnd (K : Ck) (r : V → Hp → VK → Prop) (p : PV → AH → Option (PV × AH)) : Prop := ∀ (W : Wd) (x : PV) (v : V) (Q : VK) (z : PV) (h' : AH), WOk K W → RepW K W x v → p x W.h = some (z, h') → (∀ w W', W'.h = h' → Le K W W' → RepW K W' z w → Q w W'.H) → r v W.H Q
def CbSnd (K : Ck) (r : List V → Hp → VK → Prop) (p : List PV → AH → Option (PV × AH)) : Prop := ∀ (W : Wd) (xs : List PV) (vs : List V) (Q : VK) (z : PV) (h' : AH), WOk K W → RepLW K W xs vs → p xs W.h = some (z, h') → (∀ w W', W'.h = h' → Le K W W' → RepW K W' z w → Q w W'.H) → r vs W.H Q
def CbSndO (K : Ck) (r : List V → Hp → VK → Prop) (p : List PV → AH → Option (Nd × AH)) : Prop := ∀ (W : Wd) (xs : List PV) (vs : List V) (Q : VK) (d : Nd) (h' : AH), WOk K W → RepLW K W xs vs → p xs W.h = some (d, h') → NewAt K W d h' Q → r vs W.H Q
theorem snd_var (i : Nat) : SndE K (tVar i) (xVar i) := by
  intro W0 W ρ σ Q x h' g e q
  unfold xVar at e
  split at e
  · rename_i y hy
    cases e
    obtain ⟨v, h1, h2⟩ := g.val i _ hy
    exact ⟨v, h1, q v W rfl (.refl g.ok) h2⟩
  · cases e
theorem snd_c {v : V} {x : PV} (h : ∀ W : Wd, RepW K W x v) : SndE K (tC v) (xC x) := by
  intro W0 W ρ σ Q y h' g e q
  cases e
  exact q v W rfl (.refl g.ok) (h W)
theorem snd_int {i : Int} : SndE K (tC (.int i)) (xC (.int i)) := snd_c fun _ => rfl
theorem snd_str {i : Str} : SndE K (tC (.str i)) (xC (.str i)) := snd_c fun _ => rfl
theorem snd_bl {i : Bool} : SndE K (tC (.bl i)) (xC (.bl i)) := snd_c fun _ => rfl
theorem snd_non : SndE K (tC .non) (xC .non) := snd_c fun _ => rfl
theorem snd_ty {n : String} : SndE K (tC (.ty n)) (xC (.ty n)) := snd_c fun _ => rfl
theorem snd_cls {k : Nat} : SndE K (tC (.ref (K.A k))) (xC (.cls k)) := snd_c fun _ => rfl
section
variable {ta tb tc : TE} {ea eb ec : XE} {t : TA} {e : XA}
theorem snd_op {r : R2} {p : P2} (o : OpSnd K r p) (a : SndE K ta ea) (b : SndE K tb eb) : SndE K (tOp r ta tb) (xOp p ea eb) := by
  intro W0 W ρ σ Q z h' g e q
  obtain ⟨x, h1, e1, f1⟩ := ob_some e
  obtain ⟨y, h2, e2, f2⟩ := ob_some f1
  refine a W0 W ρ σ _ x h1 g e1 fun v W1 w1 l1 r1 => ?_
  subst w1
  refine b W0 W1 ρ σ _ y h2 (g.step l1) e2 fun u W2 w2 l2 r2 => ?_
  subst w2
  exact o W2 x y v u Q z h' l2.ok (l2.rep r1) r2 f2 fun w W3 w3 l3 r3 => q w W3 w3 (l1.trans (l2.trans l3)) r3
theorem newAt_mono {W W1 : Wd} {d : Nd} {h' : AH} {Q : VK} (l : Le K W W1) (q : NewAt K W d h' Q) : NewAt K W1 d h' Q := fun p W' e l' n f => q p W' e (l.trans l') n (l.fresh f)
theorem snd_opO {r : R2} {p : P2O} (o : OpSndO K r p) (a : SndE K ta ea) (b : SndE K tb eb) : SndO K (tOp r ta tb) (xOpO p ea eb) := by
  intro W0 W ρ σ Q z h' g e q
  obtain ⟨x, h1, e1, f1⟩ := ob_some e
  obtain ⟨y, h2, e2, f2⟩ := ob_some f1
  refine a W0 W ρ σ _ x h1 g e1 fun v W1 w1 l1 r1 => ?_
  subst w1
  refine b W0 W1 ρ σ _ y h2 (g.step l1) e2 fun u W2 w2 l2 r2 => ?_
  subst w2
  exact o W2 x y v u Q z h' l2.ok (l2.rep r1) r2 f2 (newAt_mono (l1.trans l2) q)
theorem snd_un {r} {p} (o : UnSnd K r p) (a : SndE K ta ea) : SndE K (tUn r ta) (xUn p ea) := by
  intro W0 W ρ σ Q z h' g e q
  obtain ⟨x, h1, e1, f1⟩ := ob_some e
  refine a W0 W ρ σ _ x h1 g e1 fun v W1 w1 l1 r1 => ?_
  subst w1
  exact o W1 x v Q z h' l1.ok r1 f1 fun w W3 w3 l3 r3 => q w W3 w3 (l1.trans l3) r3
theorem oB_some {x : PV} {h : AH} {k : Bool} {h' : AH} (e : oB x h = some (k, h')) : x = .bl k ∧ h' = h := by
  unfold oB at e
  split at e
  · cases e; exact ⟨rfl, rfl⟩
  · cases e
theorem snd_chain {r r' : R2} {p p' : P2} (o : OpSnd K r p) (o' : OpSnd K r' p') (a : SndE K ta ea) (b : SndE K tb eb) (c : SndE K tc ec) : SndE K (tChain r r' ta tb tc) (xChain p p' ea eb ec) := by
  intro W0 W ρ σ Q z h' g e q
  obtain ⟨x, h1, e1, f1⟩ := ob_some e
  obtain ⟨y, h2, e2, f2⟩ := ob_some f1
  obtain ⟨z', h3, e3, f3⟩ := ob_some f2
  obtain ⟨k, h3', e3', f4⟩ := ob_some f3
  obtain ⟨rfl, rfl⟩ := oB_some e3'
  refine a W0 W ρ σ _ x h1 g e1 fun v W1 w1 l1 r1 => ?_
  subst w1
  refine b W0 W1 ρ σ _ y h2 (g.step l1) e2 fun u W2 w2 l2 r2 => ?_
  subst w2
  refine o W2 x y v u _ _ _ l2.ok (l2.rep r1) r2 e3 fun w W3 w3 l3 r3 => ⟨k, r3, ?_⟩
  subst w3
  have l := l1.trans (l2.trans l3)
  cases k with
  | false =>
    rw [if_neg (by decide)] at f4 ⊢
    cases f4
    exact q _ W3 rfl l rfl
  | true =>
    rw [if_pos rfl] at f4 ⊢
    obtain ⟨w', h4, e4, f5⟩ := ob_some f4
    refine c W0 W3 ρ σ _ w' h4 (g.step l) e4 fun u' W4 w4 l4 r4 => ?_
    subst w4
    exact o' W4 y w' u u' Q z h' l4.ok ((l3.trans l4).rep r2) r4 f5 fun w W5 w5 l5 r5 => q w W5 w5 (l.trans (l4.trans l5)) r5
theorem snd_test (a : SndE K ta ea) : SndT K (tTest ta) (xTest ea) := by
  intro W0 W ρ σ Q k h' g e q
  obtain ⟨x, h1, e1, f1⟩ := ob_some e
  obtain ⟨rfl, rfl⟩ := oB_some f1
  exact a W0 W ρ σ _ _ _ g e1 fun v W1 w1 l1 r1 => ⟨k, r1, q W1 w1 l1⟩
theorem snd_tB (a : SndE K ta ea) : SndT K (tB ta) (xTest ea) := snd_test a
section
variable {tA tB' : TT} {eA eB : XT}
theorem snd_and (a : SndT K tA eA) (b : SndT K tB' eB) : SndT K (tAnd tA tB') (xAnd eA eB) := by
  intro W0 W ρ σ Q z h' g e q
  obtain ⟨k, h1, e1, f1⟩ := ob_some e
  refine a W0 W ρ σ _ _ _ g e1 fun W1 w1 l1 => ?_
  subst w1
  cases k with
  | false =>
    rw [if_neg (by decide)] at f1 ⊢
    cases f1
    exact q W1 rfl l1
  | true =>
    rw [if_pos rfl] at f1 ⊢
    exact b W0 W1 ρ σ _ z h' (g.step l1) f1 fun W2 w2 l2 => q W2 w2 (l1.trans l2)
theorem snd_or (a : SndT K tA eA) (b : SndT K tB' eB) : SndT K (tOr tA tB') (xOr eA eB) := by
  intro W0 W ρ σ Q z h' g e q
  obtain ⟨k, h1, e1, f1⟩ := ob_some e
  refine a W0 W ρ σ _ _ _ g e1 fun W1 w1 l1 => ?_
  subst w1
  cases k with
  | true =>
    rw [if_pos rfl] at f1 ⊢
    cases f1
    exact q W1 rfl l1
  | false =>
    rw [if_neg (by decide)] at f1 ⊢
    exact b W0 W1 ρ σ _ z h' (g.step l1) f1 fun W2 w2 l2 => q W2 w2 (l1.trans l2)
theorem snd_not (a : SndT K tA eA) : SndT K (tNot tA) (xNot eA) := by
  intro W0 W ρ σ Q z h' g e q
  obtain ⟨k, h1, e1, f1⟩ := ob_some e
  cases f1
  exact a W0 W ρ σ _ _ _ g e1 fun W1 w1 l1 => q W1 w1 l1
end
theorem snd_nil : SndA K tNil xNil := by
  intro W0 W ρ σ Q z h' g e q
  cases e
  exact q [] W rfl (.refl g.ok) rfl
theorem snd_cons (a : SndE K ta ea) (r : SndA K t e) : SndA K (tCons ta t) (xCons ea e) := by
  intro W0 W ρ σ Q z h' g e q
  obtain ⟨x, h1, e1, f1⟩ := ob_some e
  obtain ⟨xs, h2, e2, f2⟩ := ob_some f1
  cases f2
  refine a W0 W ρ σ _ x h1 g e1 fun v W1 w1 l1 r1 => ?_
  subst w1
  exact r W0 W1 ρ σ _ xs _ (g.step l1) e2 fun vs W2 w2 l2 r2 => q (v :: vs) W2 w2 (l1.trans l2) ⟨v, vs, rfl, l2.rep r1, r2⟩
/-- a new frozen thing -/
def wput (W : Wd) (p : Addr) (o : HO) : Wd := ⟨upd W.F p o, upd W.H p o, W.m, W.h⟩
theorem wput_le {W : Wd} {p : Addr} {o : HO} (w : WOk K W) (h : W.H p = none) : Le K W (wput W p o) := by
  have hm := w.out h
  have hf := w.ff h
  have sF : Same W.F (upd W.F p o) := same_new hf o
  refine ⟨⟨?_, w.len, w.nd, fun n d a e1 e2 => ?_⟩, sF, List.prefix_refl _, fun b u e _ => same_new h o b u e, fun b u e _ f => ?_, fun b z n => absurd z n⟩
  · intro b u e
    show upd W.H p o b = some u
    by_cases hb : b = p
    · subst hb; rw [show (wput W b o).F b = upd W.F b o b from rfl, upd_same] at e; rw [upd_same]; exact e
    · rw [show (wput W p o).F b = upd W.F p o b from rfl, upd_ne hb] at e; rw [upd_ne hb]; exact w.le _ _ e
  · have ha : a ≠ p := fun z => hm (z ▸ List.mem_of_getElem? e2)
    exact (w.at_ n d a e1 e2).mono sF (List.prefix_refl _) (fun u e => by rw [show (wput W p o).H a = upd W.H p o a from rfl, upd_ne ha]; exact e) fun f => (upd_ne ha).trans f
  · have : b ≠ p := ne_of_none e h
    rw [show (wput W p o).F b = upd W.F p o b from rfl, upd_ne this]; exact f
/-- a new thing of one's own -/
def wlay (W : Wd) (p : Addr) (o : HO) : Wd := ⟨W.F, upd W.H p o, W.m, W.h⟩
theorem wlay_le {W : Wd} {p : Addr} {o : HO} (w : WOk K W) (h : W.H p = none) : Le K W (wlay W p o) := by
  have hm := w.out h
  refine ⟨⟨?_, w.len, w.nd, fun n d a e1 e2 => ?_⟩, Same.refl _, List.prefix_refl _, fun b u e _ => same_new h o b u e, fun b u e _ f => f, fun b z n => absurd z n⟩
  · exact fun b u e => same_new h o b u (w.le _ _ e)
  · exact (w.at_ n d a e1 e2).mono (Same.refl _) (List.prefix_refl _) (fun u e => same_new h o _ _ e) id
theorem small {n : Nat} (h : n ≤ 1000) : n ≤ sizeLine := Nat.le_of_lt (small1000 h)
theorem snd_tup (a : SndA K t e) : SndE K (tTup t) (xTup e) := by
  intro W0 W ρ σ Q z h' g e q
  obtain ⟨xs, h1, e1, f1⟩ := ob_some e
  split at f1
  · rename_i hl
    cases f1
    refine a W0 W ρ σ _ xs _ g e1 fun vs W1 w1 l1 r1 => ⟨small (by rw [r1.len]; exact hl), fun p hp => ?_⟩
    have l2 := wput_le (o := .tup vs) l1.ok hp
    exact q (.ref p) (wput W1 p (.tup vs)) w1 (l1.trans l2) ⟨p, vs, rfl, upd_same, l2.repL r1⟩
  · cases f1
theorem snd_lst (a : SndA K t e) : SndO K (tLst t) (xLst e) := by
  intro W0 W ρ σ Q z h' g e q
  obtain ⟨xs, h1, e1, f1⟩ := ob_some e
  split at f1
  · rename_i hl
    cases f1
    refine a W0 W ρ σ _ xs _ g e1 fun vs W1 w1 l1 r1 => ⟨small (by rw [r1.len]; exact hl), fun p hp => ?_⟩
    have l2 := wlay_le (o := .lst vs) l1.ok hp
    exact q p (wlay W1 p (.lst vs)) w1 (l1.trans l2) (l1.ok.out hp) (l1.fresh hp) (fun z => by cases z) ⟨l1.ok.ff hp, vs, upd_same, r1⟩
  · cases f1
/-- what is one's own is frozen -/
def wfrz (W : Wd) (p : Addr) (o : HO) : Wd := ⟨upd W.F p o, W.H, W.m, W.h⟩
theorem wfrz_ok {W : Wd} {p : Addr} {o : HO} (w : WOk K W) (h : W.H p = some o) (hm : p ∉ W.m) (hf : W.F p = none) : WOk K (wfrz W p o) ∧ Same W.F (upd W.F p o) := by
  have sF : Same W.F (upd W.F p o) := same_new hf o
  refine ⟨⟨?_, w.len, w.nd, fun n d a e1 e2 => ?_⟩, sF⟩
  · intro b u e
    by_cases hb : b = p
    · subst hb; rw [show (wfrz W b o).F b = upd W.F b o b from rfl, upd_same] at e; cases e; exact h
    · rw [show (wfrz W p o).F b = upd W.F p o b from rfl, upd_ne hb] at e; exact w.le _ _ e
  · have ha : a ≠ p := fun z => hm (z ▸ List.mem_of_getElem? e2)
    exact (w.at_ n d a e1 e2).mono sF (List.prefix_refl _) (fun u e => e) fun f => (upd_ne ha).trans f
theorem wfrz_le {W W1 : Wd} {p : Addr} {o : HO} (l : Le K W W1) (h : W1.H p = some o) (hm : p ∉ W1.m) (hf : W1.F p = none) (hn : W.H p = none) : Le K W (wfrz W1 p o) := by
  obtain ⟨k, sF⟩ := wfrz_ok l.ok h hm hf
  refine ⟨k, l.fs.trans sF, l.pre, l.keep, fun b u e n f => ?_, l.mn⟩
  have : b ≠ p := ne_of_none e hn
  rw [show (wfrz W1 p o).F b = upd W1.F p o b from rfl, upd_ne this]; exact l.new b u e n f
theorem snd_fz {o : XO} (a : SndO K ta o) : SndE K ta (xFz o) := by
  intro W0 W ρ σ Q z h' g e q
  obtain ⟨d, h1, e1, f1⟩ := ob_some e
  refine a W0 W ρ σ _ d h1 g e1 fun p W1 w1 l1 hm hn hd at_ => ?_
  split at f1
  · rename_i xs
    cases f1
    obtain ⟨hf, vs, hp, r⟩ := at_
    have l2 := wfrz_le l1 hp hm hf hn
    exact q (.ref p) (wfrz W1 p (.lst vs)) w1 l2 ⟨p, vs, rfl, upd_same, RepL.mono (same_new hf _) (List.prefix_refl _) _ _ r⟩
  · rename_i k ns xs
    cases f1
    obtain ⟨hf, dx, vs, hp, hl, r⟩ := at_
    have l2 := wfrz_le l1 hp hm hf hn
    exact q (.ref p) (wfrz W1 p _) w1 l2 ⟨p, dx, vs, rfl, upd_same, hl, RepL.mono (same_new hf _) (List.prefix_refl _) _ _ r⟩
  · cases f1
/-! ### calls -/
def spE (K : Ck) (n : Nat) (f : Fn) : Sp := fun vs H Q _ => ∃ (W : Wd) (xs : List PV) (x : PV) (h' : AH), W.H = H ∧ WOk K W ∧ RepLW K W xs vs ∧ xs.length = n ∧ f xs W.h = some (x, h') ∧ ∀ v W', W'.h = h' → Le K W W' → RepW K W' x v → Q v W'.H
theorem snd_call {n : Nat} {f : Fn} {ex : XK} (a : SndA K t e) (hn : ∀ ρ h xs h', e ρ h = some (xs, h') → xs.length = n) : SndE K (tCall (spE K n f) [] ex t) (xCall f e) := by
  intro W0 W ρ σ Q z h' g e' q
  obtain ⟨xs, h1, e1, e2⟩ := ob_some e'
  refine a W0 W ρ σ _ xs h1 g e1 fun vs W1 w1 l1 r1 => ?_
  subst w1
  rw [List.append_nil]
  exact ⟨W1, xs, z, h', rfl, l1.ok, r1, hn _ _ _ _ e1, e2, fun v W2 w2 l2 r2 => q v W2 w2 (l1.trans l2) r2⟩
theorem len_nil : ∀ ρ h xs h', xNil ρ h = some (xs, h') → xs.length = 0 := fun ρ h xs h' e => by cases e; rfl
theorem len_cons {n : Nat} (l : ∀ ρ h xs h', e ρ h = some (xs, h') → xs.length = n) : ∀ ρ h xs h', xCons ea e ρ h = some (xs, h') → xs.length = n + 1 := fun ρ h xs h' q => by
  obtain ⟨x, h1, e1, q⟩ := ob_some q
  obtain ⟨ys, h2, e2, q⟩ := ob_some q
  cases q
  rw [List.length_cons, l _ _ _ _ e2]
theorem snd_cb {r} {p} (o : CbSnd K r p) (a : SndA K t e) : SndE K (tCB r t) (xCB p e) := by
  intro W0 W ρ σ Q z h' g e' q
  obtain ⟨xs, h1, e1, e2⟩ := ob_some e'
  refine a W0 W ρ σ _ xs h1 g e1 fun vs W1 w1 l1 r1 => ?_
  subst w1
  exact o W1 xs vs Q z h' l1.ok r1 e2 fun v W2 w2 l2 r2 => q v W2 w2 (l1.trans l2) r2
theorem snd_cbO {r} {p} (o : CbSndO K r p) (a : SndA K t e) : SndO K (tCB r t) (xCBO p e) := by
  intro W0 W ρ σ Q z h' g e' q
  obtain ⟨xs, h1, e1, e2⟩ := ob_some e'
  refine a W0 W ρ σ _ xs h1 g e1 fun vs W1 w1 l1 r1 => ?_
  subst w1
  exact o W1 xs vs Q z h' l1.ok r1 e2 (newAt_mono l1 q)
end
def SndP (K : Ck) (t : TO) (e : PSt → AH → Option (Option Int × AH)) : Prop := ∀ (W0 W : Wd) (ρ : PSt) (σ : St) (Q : Option Int → Hp → Prop) (x : Option Int) (h' : AH), Good K W0 W ρ σ → e ρ W.h = some (x, h') →
  (∀ W', W'.h = h' → Le K W W' → Q x W'.H) → t σ W.H Q
theorem snd_nopart : SndP K tNoPart xNoPart := by
  intro W0 W ρ σ Q z h' g e q
  cases e
  exact q W rfl (.refl g.ok)
theorem snd_part {ta : TE} {ea : XE} (a : SndE K ta ea) : SndP K (tPart ta) (xPart ea) := by
  intro W0 W ρ σ Q z h' g e q
  obtain ⟨x, h1, e1, f1⟩ := ob_some e
  split at f1
  · rename_i i
    cases f1
    exact a W0 W ρ σ _ _ _ g e1 fun v W1 w1 l1 r1 => ⟨i, r1, q W1 w1 l1⟩
  · cases f1
def SlSnd (K : Ck) (r : V → Option Int → Option Int → Hp → VK → Prop) (p : PV → Option Int → Option Int → AH → Option (PV × AH)) : Prop := ∀ (W : Wd) (x : PV) (v : V) (lo hi : Option Int) (Q : VK) (z : PV) (h' : AH), WOk K W → RepW K W x v → p x lo hi W.h = some (z, h') → (∀ w W', W'.h = h' → Le K W W' → RepW K W' z w → Q w W'.H) → r v lo hi W.H Q
def SlSndO (K : Ck) (r : V → Option Int → Option Int → Hp → VK → Prop) (p : PV → Option Int → Option Int → AH → Option (Nd × AH)) : Prop := ∀ (W : Wd) (x : PV) (v : V) (lo hi : Option Int) (Q : VK) (d : Nd) (h' : AH), WOk K W → RepW K W x v → p x lo hi W.h = some (d, h') → NewAt K W d h' Q → r v lo hi W.H Q
theorem snd_sl {r} {p} {ta : TE} {ea : XE} {tl th : TO} {el eh} (o : SlSnd K r p) (a : SndE K ta ea) (b : SndP K tl el) (c : SndP K th eh) : SndE K (tSl r ta tl th) (xSl p ea el eh) := by
  intro W0 W ρ σ Q z h' g e q
  obtain ⟨x, h1, e1, f1⟩ := ob_some e
  obtain ⟨l, h2, e2, f2⟩ := ob_some f1
  obtain ⟨u, h3, e3, f3⟩ := ob_some f2
  refine a W0 W ρ σ _ x h1 g e1 fun v W1 w1 l1 r1 => ?_
  subst w1
  refine b W0 W1 ρ σ _ l h2 (g.step l1) e2 fun W2 w2 l2 => ?_
  subst w2
  refine c W0 W2 ρ σ _ u h3 (g.step (l1.trans l2)) e3 fun W3 w3 l3 => ?_
  subst w3
  exact o W3 x v l u Q z h' l3.ok ((l2.trans l3).rep r1) f3 fun w W4 w4 l4 r4 => q w W4 w4 (l1.trans (l2.trans (l3.trans l4))) r4
theorem snd_slO {r} {p} {ta : TE} {ea : XE} {tl th : TO} {el eh} (o : SlSndO K r p) (a : SndE K ta ea) (b : SndP K tl el) (c : SndP K th eh) : SndO K (tSl r ta tl th) (xSlO p ea el eh) := by
  intro W0 W ρ σ Q z h' g e q
  obtain ⟨x, h1, e1, f1⟩ := ob_some e
  obtain ⟨l, h2, e2, f2⟩ := ob_some f1
  obtain ⟨u, h3, e3, f3⟩ := ob_some f2
  refine a W0 W ρ σ _ x h1 g e1 fun v W1 w1 l1 r1 => ?_
  subst w1
  refine b W0 W1 ρ σ _ l h2 (g.step l1) e2 fun W2 w2 l2 => ?_
  subst w2
  refine c W0 W2 ρ σ _ u h3 (g.step (l1.trans l2)) e3 fun W3 w3 l3 => ?_
  subst w3
  exact o W3 x v l u Q z h' l3.ok ((l2.trans l3).rep r1) f3 (newAt_mono (l1.trans (l2.trans l3)) q)
end PX
namespace PX
open PySem L2
variable {K : Ck}
/-! ## statements -/
def xNext : XS := fun ρ h => some (.nx ρ, h)
def xSeq (s u : XS) : XS := fun ρ h => ob (s ρ h) fun o h1 => match o with | .nx ρ' => u ρ' h1 | .rt x => some (.rt x, h1) | .bk ρ' => some (.bk ρ', h1) | .ct ρ' => some (.ct ρ', h1)
def xBreak : XS := fun ρ h => some (.bk ρ, h)
def xCont : XS := fun ρ h => some (.ct ρ, h)
def xDrop (e : XE) : XS := fun ρ h => ob (e ρ h) fun _ h1 => some (.nx ρ, h1)
def xRet (e : XE) : XS := fun ρ h => ob (e ρ h) fun x h1 => some (.rt x, h1)
def xRetN : XS := fun _ h => some (.rt .non, h)
def xIfS (c : XT) (s u : XS) : XS := fun ρ h => ob (c ρ h) fun k h1 => if k = true then s ρ h1 else u ρ h1
/-- targets -/
abbrev XG := PV → PSt → Option PSt
abbrev XGs := List PV → PSt → Option PSt
def yName (i : Nat) : XG := fun x ρ => some (ρ.set i (.val x))
def yNil : XGs := fun xs ρ => match xs with | [] => some ρ | _ => none
def yCons (g : XG) (r : XGs) : XGs := fun xs ρ => match xs with | [] => none | x :: xs => (g x ρ).bind fun ρ' => r xs ρ'
def yTup (n : Nat) (g : XGs) : XG := fun x ρ => match x with | .tup xs => if xs.length = n then g xs ρ else none | _ => none
def xAsg (e : XE) (g : XG) : XS := fun ρ h => ob (e ρ h) fun x h1 => (g x ρ).bind fun ρ' => some (.nx ρ', h1)
def xAsgO (e : XO) (i : Nat) : XS := fun ρ h => ob (e ρ h) fun d h1 => some (.nx (ρ.set i (.own d)), h1)
/-- a list of one's own is told, or kept unchanged from here on -/
def frzV : PVar → PVar
  | .own (.lst xs) => .val (.lst xs)
  | .own (.ins k ns xs) => .val (.ins k ns xs)
  | v => v
def frzAt (i : Nat) (ρ : PSt) : PSt := ρ.modify i frzV
def xFrz (i : Nat) (s : XS) : XS := fun ρ h => s (frzAt i ρ) h
def xAppO (i : Nat) (e : XE) : XS := fun ρ h => match ρ[i]? with
  | some (.own (.lst xs)) => ob (e ρ h) fun x h1 => if xs.length < 100000 then some (.nx (ρ.set i (.own (.lst (xs ++ [x])))), h1) else none
  | _ => none
/-- loops -/
def forL (g : XG) (s : XS) : List PV → PSt → AH → Option (Out × AH)
  | [], ρ, h => some (.nx ρ, h)
  | x :: xs, ρ, h => (g x ρ).bind fun ρ1 => ob (s ρ1 h) fun o h1 => match o with | .nx ρ' => forL g s xs ρ' h1 | .ct ρ' => forL g s xs ρ' h1 | .bk ρ' => some (.nx ρ', h1) | .rt y => some (.rt y, h1)
def xFor (it : XA) (g : XG) (s : XS) : XS := fun ρ h => ob (it ρ h) fun xs h1 => forL g s xs ρ h1
def whl (c : XT) (s : XS) : Nat → PSt → AH → Option (Out × AH)
  | 0, _, _ => none
  | n + 1, ρ, h => ob (c ρ h) fun k h1 => if k = true then ob (s ρ h1) fun o h2 => (match o with | .nx ρ' => whl c s n ρ' h2 | .ct ρ' => whl c s n ρ' h2 | .bk ρ' => some (.nx ρ', h2) | .rt y => some (.rt y, h2)) else some (.nx ρ, h1)
def xWhile (fuel : Nat) (c : XT) (s : XS) : XS := fun ρ h => whl c s fuel ρ h
def runF (N : Nat) (s : XS) : Fn := fun xs h => ob (s (xs.map .val ++ List.replicate (N - xs.length) .no) h) fun o h1 => match o with | .rt x => some (x, h1) | .nx _ => some (.non, h1) | _ => none
/-- comprehension -/
def capt (ρ : PSt) (i : Nat) : PVar := match ρ[i]? with | some (.val y) => .val y | _ => .no
def innP (ix : List Nat) (ρ : PSt) (x : PV) : PSt := .val x :: ix.map (capt ρ)
def cmpL (e : XE) (inn : PV → PSt) : List PV → AH → Option (List PV × AH)
  | [], h => some ([], h)
  | x :: xs, h => ob (e (inn x) h) fun y h1 => ob (cmpL e inn xs h1) fun ys h2 => some (y :: ys, h2)
def xComp (it : XA) (ix : List Nat) (e : XE) : XO := fun ρ h => ob (it ρ h) fun xs h1 => if xs.length ≤ 100000 then ob (cmpL e (innP ix ρ) xs h1) fun ys h2 => some (.lst ys, h2) else none
/-! ### sound -/
theorem Ends.Ok.from_ {W0 W W1 : Wd} {D : Ends} {h' : AH} {o : Out} (l : Lf K W W1) (k : Ends.Ok K W0 W D h' o) : Ends.Ok K W0 W1 D h' o := by
  cases o with
  | nx ρ => exact fun W' σ' e l' g => k W' σ' e (l.trans l') g
  | bk ρ => exact fun W' σ' e l' g => k W' σ' e (l.trans l') g
  | ct ρ => exact fun W' σ' e l' g => k W' σ' e (l.trans l') g
  | rt x => exact k
section
variable {ta tb : TE} {ea eb : XE} {t u : TS} {s s' : XS} {tA : TT} {eA : XT}
theorem snd_next : SndS K tNext xNext := by
  intro W0 W ρ σ D o h' g e q
  cases e
  exact q W σ rfl .refl g
theorem snd_seq (a : SndS K t s) (b : SndS K u s') : SndS K (tSeq t u) (xSeq s s') := by
  intro W0 W ρ σ D o h' g e q
  obtain ⟨o1, h1, e1, f1⟩ := ob_some e
  refine a W0 W ρ σ _ o1 h1 g e1 ?_
  cases o1 with
  | nx ρ' => exact fun W' σ' w l g' => b W0 W' ρ' σ' D o h' g' (by rw [w]; exact f1) (q.from_ l)
  | rt x => cases f1; exact q
  | bk ρ' => cases f1; exact q
  | ct ρ' => cases f1; exact q
theorem snd_ret (a : SndE K ta ea) : SndS K (tRet ta) (xRet ea) := by
  intro W0 W ρ σ D o h' g e q
  obtain ⟨x, h1, e1, f1⟩ := ob_some e
  cases f1
  exact a W0 W ρ σ _ x _ g e1 fun v W1 w1 l1 r1 => q W1 v w1 (g.le.trans l1) r1
theorem snd_ifS (c : SndT K tA eA) (a : SndS K t s) (b : SndS K u s') : SndS K (tIfS tA t u) (xIfS eA s s') := by
  intro W0 W ρ σ D o h' g e q
  obtain ⟨k, h1, e1, f1⟩ := ob_some e
  refine c W0 W ρ σ _ k h1 g e1 fun W1 w1 l1 => ?_
  subst w1
  cases k with
  | true =>
    rw [if_pos rfl] at f1 ⊢
    exact a W0 W1 ρ σ D o h' (g.step l1) f1 (q.from_ l1.lf)
  | false =>
    rw [if_neg (by decide)] at f1 ⊢
    exact b W0 W1 ρ σ D o h' (g.step l1) f1 (q.from_ l1.lf)
theorem Good.set {W0 W : Wd} {ρ : PSt} {σ : St} (g : Good K W0 W ρ σ) (i : Nat) {x : PV} {v : V} (r : RepW K W x v) : Good K W0 W (ρ.set i (.val x)) (σ.set i (some v)) where
  le := g.le
  len := by simp [g.len]
  val := fun j y e => by
    by_cases hj : i = j
    · subst hj
      by_cases hl : i < ρ.length
      · rw [List.getElem?_set_self hl] at e
        cases e
        exact ⟨v, List.getElem?_set_self (by rw [g.len]; exact hl), r⟩
      · rw [List.getElem?_eq_none (by simp; omega)] at e; cases e
    · rw [List.getElem?_set_ne hj] at e
      obtain ⟨w, h1, h2⟩ := g.val j y e
      exact ⟨w, by rw [List.getElem?_set_ne hj]; exact h1, h2⟩
  own := fun j d e => by
    by_cases hj : i = j
    · subst hj
      by_cases hl : i < ρ.length
      · rw [List.getElem?_set_self hl] at e; cases e
      · rw [List.getElem?_eq_none (by simp; omega)] at e; cases e
    · rw [List.getElem?_set_ne hj] at e
      obtain ⟨p, h1, h2⟩ := g.own j d e
      exact ⟨p, by rw [List.getElem?_set_ne hj]; exact h1, h2⟩
  ne := fun j k d d' hjk e1 e2 => by
    have f : ∀ {j : Nat} {d : Nd}, (ρ.set i (.val x))[j]? = some (.own d) → i ≠ j ∧ ρ[j]? = some (.own d) := fun {j d} e => by
      by_cases hj : i = j
      · subst hj
        by_cases hl : i < ρ.length
        · rw [List.getElem?_set_self hl] at e; cases e
        · rw [List.getElem?_eq_none (by simp; omega)] at e; cases e
      · rw [List.getElem?_set_ne hj] at e; exact ⟨hj, e⟩
    obtain ⟨a1, a2⟩ := f e1
    obtain ⟨b1, b2⟩ := f e2
    rw [List.getElem?_set_ne a1, List.getElem?_set_ne b1]
    exact g.ne j k d d' hjk a2 b2
/-- one variable gets a thing of its own -/
theorem Good.setO {W0 W : Wd} {ρ : PSt} {σ : St} (g : Good K W0 W ρ σ) (i : Nat) {d : Nd} {p : Addr} (hm : p ∉ W.m) (h0 : W0.H p = none) (hd : d ≠ .dead) (at_ : NdAt K W.F W.H W.m d p)
    (ne : ∀ j d', i ≠ j → ρ[j]? = some (.own d') → σ[j]? ≠ some (some (.ref p))) : Good K W0 W (ρ.set i (.own d)) (σ.set i (some (.ref p))) where
  le := g.le
  len := by simp [g.len]
  val := fun j y e => by
    by_cases hj : i = j
    · subst hj
      by_cases hl : i < ρ.length
      · rw [List.getElem?_set_self hl] at e; cases e
      · rw [List.getElem?_eq_none (by simp; omega)] at e; cases e
    · rw [List.getElem?_set_ne hj] at e
      obtain ⟨w, h1, h2⟩ := g.val j y e
      exact ⟨w, by rw [List.getElem?_set_ne hj]; exact h1, h2⟩
  own := fun j d' e => by
    by_cases hj : i = j
    · subst hj
      by_cases hl : i < ρ.length
      · rw [List.getElem?_set_self hl] at e
        cases e
        exact ⟨p, List.getElem?_set_self (by rw [g.len]; exact hl), hm, h0, hd, at_⟩
      · rw [List.getElem?_eq_none (by simp; omega)] at e; cases e
    · rw [List.getElem?_set_ne hj] at e
      obtain ⟨p, h1, h2⟩ := g.own j d' e
      exact ⟨p, by rw [List.getElem?_set_ne hj]; exact h1, h2⟩
  ne := fun j k d1 d2 hjk e1 e2 => by
    have self : ∀ {j : Nat} {d' : Nd}, i = j → (ρ.set i (.own d))[j]? = some (.own d') → (σ.set i (some (.ref p)))[j]? = some (some (.ref p)) := fun {j d'} hj e => by
      subst hj
      by_cases hl : i < ρ.length
      · exact List.getElem?_set_self (by rw [g.len]; exact hl)
      · rw [List.getElem?_eq_none (by simp; omega)] at e; cases e
    by_cases hj : i = j
    · have hk : i ≠ k := fun z => hjk (hj.symm.trans z)
      rw [self hj e1, List.getElem?_set_ne hk]
      rw [List.getElem?_set_ne hk] at e2
      exact (ne k d2 hk e2).symm
    · rw [List.getElem?_set_ne hj]
      rw [List.getElem?_set_ne hj] at e1
      by_cases hk : i = k
      · rw [self hk e2]
        exact ne j d1 hj e1
      · rw [List.getElem?_set_ne hk] at e2 ⊢
        exact g.ne j k d1 d2 hjk e1 e2
def SndG (K : Ck) (g : TG) (y : XG) : Prop := ∀ (W0 W : Wd) (ρ ρ' : PSt) (σ : St) (x : PV) (v : V) (Q : St → Hp → Prop), Good K W0 W ρ σ → RepW K W x v → y x ρ = some ρ' → (∀ σ', Good K W0 W ρ' σ' → Q σ' W.H) → g v σ W.H Q
theorem sndg_name (i : Nat) : SndG K (gName i) (yName i) := by
  intro W0 W ρ ρ' σ x v Q g r e q
  cases e
  exact q _ (g.set i r)
theorem snd_asg {g : TG} {y : XG} (a : SndE K ta ea) (b : SndG K g y) : SndS K (tAsg ta g) (xAsg ea y) := by
  intro W0 W ρ σ D o h' gd e q
  obtain ⟨x, h1, e1, f1⟩ := ob_some e
  obtain ⟨ρ', e2, f2⟩ := Option.bind_eq_some_iff.mp f1
  cases f2
  exact a W0 W ρ σ _ x _ gd e1 fun v W1 w1 l1 r1 => b W0 W1 ρ ρ' σ x v _ (gd.step l1) r1 e2 fun σ' g' => q W1 σ' w1 l1.lf g'
theorem snd_asgO {o : XO} (i : Nat) (a : SndO K ta o) : SndS K (tAsg ta (gName i)) (xAsgO o i) := by
  intro W0 W ρ σ D o h' gd e q
  obtain ⟨d, h1, e1, f1⟩ := ob_some e
  cases f1
  refine a W0 W ρ σ _ d _ gd e1 fun p W1 w1 l1 hm hn hd at_ => q W1 _ w1 l1.lf ((gd.step l1).setO i hm (gd.le.fresh hn) hd at_ fun j d' hj e hs => ?_)
  obtain ⟨p', h1, h2, _, _, h5⟩ := gd.own j d' e
  rw [h1] at hs
  cases hs
  obtain ⟨o, ho⟩ := h5.some
  rw [hn] at ho; cases ho
theorem Good.frz {W0 W : Wd} {ρ : PSt} {σ : St} (g : Good K W0 W ρ σ) (i : Nat) : ∃ W', W'.h = W.h ∧ W'.H = W.H ∧ Lf K W W' ∧ Good K W0 W' (frzAt i ρ) σ := by
  unfold frzAt
  cases e : ρ[i]? with
  | none => exact ⟨W, rfl, rfl, .refl, by rw [List.modify_eq_self (by simpa using e)]; exact g⟩
  | some v =>
    have hl : i < ρ.length := (List.getElem?_eq_some_iff.mp e).1
    have em : ρ.modify i frzV = ρ.set i (frzV v) := by
      apply List.ext_getElem?
      intro j
      rw [List.getElem?_modify, List.getElem?_set]
      by_cases hj : i = j
      · subst hj
        obtain ⟨_, ev⟩ := List.getElem?_eq_some_iff.mp e
        simp [hl, ev]
      · simp [hj]
    have same : frzV v = v → ∃ W', W'.h = W.h ∧ W'.H = W.H ∧ Lf K W W' ∧ Good K W0 W' (ρ.modify i frzV) σ := fun z => ⟨W, rfl, rfl, .refl, by
      rw [em, z]
      have : ρ.set i v = ρ := by
        apply List.ext_getElem?
        intro j
        by_cases hj : i = j
        · subst hj; rw [List.getElem?_set_self hl, e]
        · rw [List.getElem?_set_ne hj]
      rw [this]; exact g⟩
    have go : ∀ (d : Nd) (x : PV) (p : Addr) (o : HO), v = .own d → frzV v = .val x → σ[i]? = some (some (.ref p)) → p ∉ W.m → W0.H p = none → W.H p = some o → W.F p = none → (∀ (F' : Hp), Same W.F F' → F' p = some o → Rep K F' W.m x (.ref p)) →
        ∃ W', W'.h = W.h ∧ W'.H = W.H ∧ Lf K W W' ∧ Good K W0 W' (ρ.modify i frzV) σ := fun d x p o hv hx hs hm h0 hp hf hr => by
      obtain ⟨k, sF⟩ := wfrz_ok (K := K) g.ok hp hm hf
      have lf : Lf K W (wfrz W p o) := ⟨sF, List.prefix_refl _⟩
      refine ⟨wfrz W p o, rfl, rfl, lf, ⟨wfrz_le g.le hp hm hf h0, by rw [List.length_modify]; exact g.len, fun j y e' => ?_, fun j d' e' => ?_, fun j1 j2 d1 d2 hj e1 e2 => ?_⟩⟩
      · rw [em, hx] at e'
        by_cases hj : i = j
        · subst hj
          rw [List.getElem?_set_self hl] at e'
          cases e'
          exact ⟨_, hs, hr _ sF upd_same⟩
        · rw [List.getElem?_set_ne hj] at e'
          obtain ⟨w, a1, a2⟩ := g.val j y e'
          exact ⟨w, a1, lf.rep a2⟩
      · rw [em, hx] at e'
        by_cases hj : i = j
        · subst hj
          rw [List.getElem?_set_self hl] at e'
          cases e'
        · rw [List.getElem?_set_ne hj] at e'
          obtain ⟨q, a1, a2, a3, a4, a5⟩ := g.own j d' e'
          have hq : q ≠ p := fun z => g.ne j i d' d (fun z => hj z.symm) e' (hv ▸ e) (by rw [a1, hs, z])
          exact ⟨q, a1, a2, a3, a4, a5.mono sF (List.prefix_refl _) (fun _ e => e) fun f => (upd_ne hq).trans f⟩
      · rw [em, hx] at e1 e2
        have f : ∀ {j : Nat} {d : Nd}, (ρ.set i (.val x))[j]? = some (.own d) → ρ[j]? = some (.own d) := fun {j d} e => by
          by_cases hj : i = j
          · subst hj; rw [List.getElem?_set_self hl] at e; cases e
          · rw [List.getElem?_set_ne hj] at e; exact e
        exact g.ne j1 j2 d1 d2 hj (f e1) (f e2)
    cases v with
    | no => exact same rfl
    | val x => exact same rfl
    | own d =>
      obtain ⟨p, a1, a2, a3, a4, a5⟩ := g.own i d e
      cases d with
      | lst xs =>
        obtain ⟨hf, vs, hp, r⟩ := a5
        exact go _ (.lst xs) p _ rfl rfl a1 a2 a3 hp hf fun F' s hF => ⟨p, vs, rfl, hF, RepL.mono s (List.prefix_refl _) _ _ r⟩
      | dct ks xs => exact same rfl
      | ins k ns xs =>
        obtain ⟨hf, dx, vs, hp, hl, r⟩ := a5
        exact go _ (.ins k ns xs) p _ rfl rfl a1 a2 a3 hp hf fun F' s hF => ⟨p, dx, vs, rfl, hF, hl, RepL.mono s (List.prefix_refl _) _ _ r⟩
      | dead => exact same rfl
theorem snd_frz (i : Nat) (a : SndS K t s) : SndS K t (xFrz i s) := by
  intro W0 W ρ σ D o h' g e q
  obtain ⟨W', e1, e2, l, g'⟩ := g.frz i
  rw [← e2]
  exact a W0 W' _ σ D o h' g' (by rw [e1]; exact e) (q.from_ l)
end
end PX
namespace PX
open PySem L2
variable {K : Ck}
section
variable {ta tb : TE} {ea eb : XE} {t u : TS} {s s' : XS} {tA : TT} {eA : XT}
/-- what one owns is changed -/
def wmut (W : Wd) (p : Addr) (o : HO) : Wd := ⟨W.F, upd W.H p o, W.m, W.h⟩
theorem wmut_ok {W : Wd} {p : Addr} {o : HO} (w : WOk K W) (hm : p ∉ W.m) (hf : W.F p = none) : WOk K (wmut W p o) := by
  refine ⟨fun b u e => ?_, w.len, w.nd, fun n d a e1 e2 => ?_⟩
  · have : b ≠ p := ne_of_none e hf
    exact (upd_ne this).trans (w.le _ _ e)
  · have ha : a ≠ p := fun z => hm (z ▸ List.mem_of_getElem? e2)
    exact (w.at_ n d a e1 e2).mono (Same.refl _) (List.prefix_refl _) (fun u e => (upd_ne ha).trans e) id
theorem wmut_le {W W1 : Wd} {p : Addr} {o : HO} (l : Le K W W1) (hm : p ∉ W1.m) (hf : W1.F p = none) (hn : W.H p = none) : Le K W (wmut W1 p o) :=
  ⟨wmut_ok l.ok hm hf, l.fs, l.pre, fun b u e n => (upd_ne (ne_of_none e hn)).trans (l.keep b u e n), l.new, l.mn⟩
theorem Good.mut {W0 W : Wd} {ρ : PSt} {σ : St} (g : Good K W0 W ρ σ) {i : Nat} {d d' : Nd} {p : Addr} {o : HO} (e : ρ[i]? = some (.own d)) (hs : σ[i]? = some (some (.ref p))) (hm : p ∉ W.m) (h0 : W0.H p = none) (hf : W.F p = none) (hd : d' ≠ .dead)
    (at_ : NdAt K W.F (upd W.H p o) W.m d' p) : Good K W0 (wmut W p o) (ρ.set i (.own d')) σ := by
  have hl : i < ρ.length := (List.getElem?_eq_some_iff.mp e).1
  refine ⟨wmut_le g.le hm hf h0, by rw [List.length_set]; exact g.len, fun j y e' => ?_, fun j d1 e' => ?_, fun j1 j2 d1 d2 hj e1 e2 => ?_⟩
  · by_cases hj : i = j
    · subst hj; rw [List.getElem?_set_self hl] at e'; cases e'
    · rw [List.getElem?_set_ne hj] at e'; exact g.val j y e'
  · by_cases hj : i = j
    · subst hj; rw [List.getElem?_set_self hl] at e'; cases e'; exact ⟨p, hs, hm, h0, hd, at_⟩
    · rw [List.getElem?_set_ne hj] at e'
      obtain ⟨q, a1, a2, a3, a4, a5⟩ := g.own j d1 e'
      have hq : q ≠ p := fun z => g.ne j i d1 d (fun z => hj z.symm) e' e (by rw [a1, hs, z])
      exact ⟨q, a1, a2, a3, a4, a5.mono (Same.refl _) (List.prefix_refl _) (fun u e => (upd_ne hq).trans e) id⟩
  · have f : ∀ {j : Nat} {d1 : Nd}, (ρ.set i (.own d'))[j]? = some (.own d1) → ∃ d2, ρ[j]? = some (.own d2) := fun {j d1} e' => by
      by_cases hj : i = j
      · subst hj; exact ⟨d, e⟩
      · rw [List.getElem?_set_ne hj] at e'; exact ⟨_, e'⟩
    obtain ⟨_, f1⟩ := f e1
    obtain ⟨_, f2⟩ := f e2
    exact g.ne j1 j2 _ _ hj f1 f2
theorem big {n : Nat} (h : n < 100000) : n < sizeLine := Nat.lt_of_lt_of_le h (by decide)
theorem big' {n : Nat} (h : n ≤ 100000) : n ≤ sizeLine := Nat.le_trans h (by decide)
theorem snd_appO (i : Nat) (a : SndE K ta ea) : SndS K (tDrop (tBM K.K "list" rAppend (tVar i) (tCons ta tNil))) (xAppO i ea) := by
  intro W0 W ρ σ D o h' g e q
  unfold xAppO at e
  split at e
  · rename_i xs0 hx
    obtain ⟨x, h1, e1, f1⟩ := ob_some e
    split at f1
    · rename_i hlen
      cases f1
      obtain ⟨p, a1, a2, a3, a4, hf, vs, hp, r⟩ := g.own i _ hx
      refine ⟨.ref p, a1, .inl ⟨rfl, _, SqL.of hp⟩, ?_⟩
      refine a W0 W ρ σ _ x _ g e1 fun v W1 w1 l1 r1 => ⟨p, vs, v, rfl, rfl, l1.keep _ _ hp a2, by rw [r.len]; exact big hlen, ?_⟩
      have g1 := g.step l1
      obtain ⟨p', b1, b2, b3, b4, b5, vs', b6, b7⟩ := g1.own i _ hx
      rw [a1] at b1
      cases b1
      rw [l1.keep _ _ hp a2] at b6
      cases b6
      exact q (wmut W1 p (.lst (vs ++ [v]))) σ w1 ⟨l1.fs, l1.pre⟩ (g1.mut hx a1 b2 b3 b5 (fun z => by cases z) ⟨b5, _, upd_same, b7.snoc r1⟩)
    · cases f1
  · cases e
/-! ### loops -/
structure ItOk (K : Ck) (W : Wd) (J : It) (xs : List PV) : Prop where
  go : ∀ (i : Nat) (W' : Wd), Lf K W W' → WOk K W' → i < xs.length → J.go i W'.H
  yld : ∀ (i : Nat) (W' : Wd) (v : V) (H2 : Hp), Lf K W W' → WOk K W' → i < xs.length → J.yld i W'.H v H2 → H2 = W'.H ∧ ∃ x, xs[i]? = some x ∧ RepW K W' x v
  stop : ∀ (W' : Wd), Lf K W W' → WOk K W' → J.stop xs.length W'.H
def SndI (K : Ck) (wi : TI) (e : XA) : Prop := ∀ (W0 W : Wd) (ρ : PSt) (σ : St) (R : It → Hp → Prop) (xs : List PV) (h' : AH), Good K W0 W ρ σ → e ρ W.h = some (xs, h') → (∀ J W', W'.h = h' → Le K W W' → ItOk K W' J xs → R J W'.H) → wi σ W.H R
def xIL (e : XE) : XA := fun ρ h => ob (e ρ h) fun x h1 => match x with | .lst xs => some (xs, h1) | .scr ns => some (ns.map .int, h1) | _ => none
def sgn (c : Nat) : PV := .str ⟨#[c]⟩
def rngV (lo : Int) (n : Nat) : List PV := (List.range n).map fun (k : Nat) => .int (lo + (k : Int))
def xIR1 (a : XA) : XA := fun ρ h => ob (a ρ h) fun xs h1 => match xs with | [.int j] => if -1000000000 ≤ j ∧ j ≤ 1000000000 then some (rngV 0 j.toNat, h1) else none | _ => none
theorem seqL_up {W : Wd} (w : WOk K W) {a : Addr} {vs : List V} (h : SqL K.K W.F a vs) : SqL K.K W.H a vs := Same.seq w.le h
theorem seqT_up {W : Wd} (w : WOk K W) {a : Addr} {vs : List V} (h : W.F a = some (.tup vs)) : SqT K.K W.H a vs := SqT.of (w.le _ _ h)
theorem sndi_list (a : SndE K ta ea) : SndI K (iList K.K ta) (xIL ea) := by
  intro W0 W ρ σ R xs h' g e q
  obtain ⟨x, h1, e1, f1⟩ := ob_some e
  refine a W0 W ρ σ _ x h1 g e1 fun v W1 w1 l1 r1 => ?_
  have key : ∀ (a : Addr) (vs : List V), v = .ref a → SqL K.K W1.F a vs → RepL K W1.F W1.m xs vs → h1 = h' → ∃ a, v = .ref a ∧ (∃ xs, SqL K.K W1.H a xs) ∧ R (Itl K.K a) W1.H := fun a vs ev hs rs eh => by
    subst eh
    refine ⟨a, ev, ⟨vs, seqL_up l1.ok hs⟩, q _ W1 w1 l1 ⟨fun i W' l w hi => ?_, fun i W' v' H2 l w hi hy => ?_, fun W' l w => ?_⟩⟩
    · obtain ⟨v', h1, _⟩ := rs.get (List.getElem?_eq_getElem hi)
      exact ⟨vs, v', seqL_up w (Same.seq l.fs hs), h1⟩
    · obtain ⟨h1, h2⟩ := hy
      have := h2 vs (seqL_up w (Same.seq l.fs hs))
      obtain ⟨x, h3, h4⟩ := rs.get' this
      exact ⟨h1, x, h3, l.rep h4⟩
    · exact ⟨vs, seqL_up w (Same.seq l.fs hs), by rw [rs.len]; exact Nat.le_refl _⟩
  split at f1
  · cases f1
    obtain ⟨a, vs, ev, hs, rs⟩ := r1
    exact key a vs ev (SqL.of hs) rs rfl
  · rename_i ns
    cases f1
    obtain ⟨a, ev, hs⟩ := r1
    exact key a _ ev hs (RepL.of_ints ns) rfl
  · cases f1
theorem it_rng (W : Wd) (lo : Int) (n : Nat) : ItOk K W (Itr lo n) (rngV lo n) := by
  refine ⟨fun i W' l w hi => ?_, fun i W' v' H2 l w hi hy => ?_, fun W' l w => ?_⟩
  · show i < n
    simpa [rngV] using hi
  · obtain ⟨h1, h2⟩ := hy
    have hi : i < n := by simpa [rngV] using hi
    exact ⟨h1, .int (lo + (i : Int)), by simp [rngV, hi], h2⟩
  · show n ≤ _
    simp [rngV]
theorem sndi_rng1 {t : TA} {e : XA} (a : SndA K t e) : SndI K (iRng1 t) (xIR1 e) := by
  intro W0 W ρ σ R xs h' g e q
  obtain ⟨ys, h1, e1, f1⟩ := ob_some e
  split at f1
  · rename_i j
    split at f1
    · rename_i hj
      cases f1
      refine a W0 W ρ σ _ _ _ g e1 fun vs W1 w1 l1 r1 => ?_
      obtain ⟨v, r, rfl, rv, rr⟩ := r1
      obtain rfl : r = [] := rr
      exact ⟨j, by rw [show v = .int j from rv], by omega, by omega, q _ W1 w1 l1 (it_rng W1 0 _)⟩
    · cases f1
  · cases f1
theorem snd_for {wi : TI} {it : XA} {g : TG} {y : XG} (a : SndI K wi it) (b : SndG K g y) (c : SndS K t s) : SndS K (tFor wi g t) (xFor it y s) := by
  intro W0 W ρ σ D o h' gd e q
  obtain ⟨xs, h1, e1, f1⟩ := ob_some e
  refine a W0 W ρ σ _ xs h1 gd e1 fun J W1 w1 l1 J1 => ?_
  subst w1
  have q1 := q.from_ l1.lf
  refine ⟨fun i m σ H => m = xs.length - i ∧ i ≤ xs.length ∧ ∃ W' ρ', W'.H = H ∧ Lf K W1 W' ∧ Good K W0 W' ρ' σ ∧ forL y s (xs.drop i) ρ' W'.h = some (o, h'), ⟨_, rfl, Nat.zero_le _, W1, ρ, rfl, .refl, gd.step l1, by simpa using f1⟩, ?_⟩
  rintro i m σ _ ⟨rfl, hi, W', ρ', rfl, l, g', f⟩
  by_cases hlt : i < xs.length
  · rw [List.drop_eq_getElem_cons hlt] at f
    obtain ⟨ρ1, k1, f⟩ := Option.bind_eq_some_iff.mp f
    obtain ⟨o1, h2, k2, f3⟩ := ob_some f
    refine .inr ⟨J1.go i W' l g'.ok hlt, fun σ2 H2 => i + 1 ≤ xs.length ∧ ∃ W2 ρ2, W2.H = H2 ∧ Lf K W1 W2 ∧ Good K W0 W2 ρ2 σ2 ∧ forL y s (xs.drop (i + 1)) ρ2 W2.h = some (o, h'), fun σ2 H2 ⟨n1, n2⟩ => ⟨xs.length - (i + 1), by omega, rfl, n1, n2⟩, fun v H2 hy => ?_⟩
    obtain ⟨rfl, x, hx, rx⟩ := J1.yld i W' v H2 l g'.ok hlt hy
    rw [List.getElem?_eq_getElem hlt] at hx
    cases hx
    refine b W0 W' ρ' ρ1 σ _ v _ g' rx k1 fun σ2 g2 => ?_
    refine c W0 W' ρ1 σ2 _ o1 h2 g2 k2 ?_
    cases o1 with
    | nx ρ2 => exact fun W2 σ3 w2 l2 g3 => ⟨hlt, W2, ρ2, rfl, l.trans l2, g3, by rw [w2]; exact f3⟩
    | ct ρ2 => exact fun W2 σ3 w2 l2 g3 => ⟨hlt, W2, ρ2, rfl, l.trans l2, g3, by rw [w2]; exact f3⟩
    | bk ρ2 => cases f3; exact fun W2 σ3 w2 l2 g3 => q1 W2 σ3 w2 (l.trans l2) g3
    | rt x => cases f3; exact q1
  · have ei : i = xs.length := by omega
    subst ei
    refine .inl ⟨J1.stop W' l g'.ok, ?_⟩
    rw [List.drop_length] at f
    cases f
    exact q1 W' σ rfl l g'
theorem snd_while (n : Nat) (c : SndT K tA eA) (a : SndS K t s) : SndS K (tWhile tA t) (xWhile n eA s) := by
  intro W0 W ρ σ D o h' gd e q
  refine ⟨fun m σ H => ∃ W' ρ', W'.H = H ∧ Lf K W W' ∧ Good K W0 W' ρ' σ ∧ whl eA s m ρ' W'.h = some (o, h'), ⟨n, W, ρ, rfl, .refl, gd, e⟩, ?_⟩
  rintro m σ _ ⟨W', ρ', rfl, l, g', f⟩
  cases m with
  | zero => cases f
  | succ m =>
    obtain ⟨k, h1, e1, f1⟩ := ob_some f
    refine c W0 W' ρ' σ _ k h1 g' e1 fun W1 w1 l1 => ?_
    subst w1
    cases k with
    | false =>
      rw [if_neg (by decide)] at f1 ⊢
      cases f1
      exact q W1 σ rfl (l.trans l1.lf) (g'.step l1)
    | true =>
      rw [if_pos rfl] at f1 ⊢
      obtain ⟨o1, h2, k2, f3⟩ := ob_some f1
      refine ⟨fun σ2 H2 => ∃ W2 ρ2, W2.H = H2 ∧ Lf K W W2 ∧ Good K W0 W2 ρ2 σ2 ∧ whl eA s m ρ2 W2.h = some (o, h'), fun σ2 H2 z => ⟨m, Nat.lt_succ_self _, z⟩, ?_⟩
      refine a W0 W1 ρ' σ _ o1 h2 (g'.step l1) k2 ?_
      have l' := l.trans l1.lf
      cases o1 with
      | nx ρ2 => exact fun W2 σ3 w2 l2 g3 => ⟨W2, ρ2, rfl, l'.trans l2, g3, by rw [w2]; exact f3⟩
      | ct ρ2 => exact fun W2 σ3 w2 l2 g3 => ⟨W2, ρ2, rfl, l'.trans l2, g3, by rw [w2]; exact f3⟩
      | bk ρ2 => cases f3; exact fun W2 σ3 w2 l2 g3 => q W2 σ3 w2 (l'.trans l2) g3
      | rt x => cases f3; exact q
/-! ### a comprehension -/
theorem cmp_len {e : XE} {inn : PV → PSt} : ∀ {xs : List PV} {h : AH} {ys : List PV} {h' : AH}, cmpL e inn xs h = some (ys, h') → ys.length = xs.length
  | [], _, _, _, e => by cases e; rfl
  | x :: xs, _, _, _, e => by
    obtain ⟨y, h1, e1, f1⟩ := ob_some e
    obtain ⟨ys, h2, e2, f2⟩ := ob_some f1
    cases f2
    rw [List.length_cons, List.length_cons, cmp_len e2]
theorem good_inn {W0 W W' : Wd} {ρ : PSt} {σ : St} (g : Good K W0 W ρ σ) (l : Le K W W') (ix : List Nat) {x : PV} {v : V} (r : RepW K W' x v) : Good K W' W' (innP ix ρ x) (inner ix σ v) where
  le := .refl l.ok
  len := by simp [innP, inner]
  val := fun j y e => by
    cases j with
    | zero => simp [innP] at e; subst e; exact ⟨v, rfl, r⟩
    | succ j =>
      have e : (ix.map (capt ρ))[j]? = some (.val y) := e
      rw [List.getElem?_map] at e
      cases ei : ix[j]? with
      | none => rw [ei] at e; cases e
      | some i =>
        rw [ei] at e
        have e : capt ρ i = .val y := Option.some.inj e
        unfold capt at e
        split at e
        · rename_i z hz
          cases e
          obtain ⟨w, h1, h2⟩ := g.val i _ hz
          exact ⟨w, by show (ix.map fun i => (σ[i]?).getD none)[j]? = _; rw [List.getElem?_map, ei]; simp [h1], l.rep h2⟩
        · cases e
  own := fun j d e => by
    cases j with
    | zero => simp [innP] at e
    | succ j =>
      have e : (ix.map (capt ρ))[j]? = some (.own d) := e
      rw [List.getElem?_map] at e
      cases ei : ix[j]? with
      | none => rw [ei] at e; cases e
      | some i =>
        rw [ei] at e
        have e : capt ρ i = .own d := Option.some.inj e
        unfold capt at e
        split at e <;> cases e
  ne := fun j k d d' _ e _ => by
    cases j with
    | zero => simp [innP] at e
    | succ j =>
      have e : (ix.map (capt ρ))[j]? = some (.own d) := e
      rw [List.getElem?_map] at e
      cases ei : ix[j]? with
      | none => rw [ei] at e; cases e
      | some i =>
        rw [ei] at e
        have e : capt ρ i = .own d := Option.some.inj e
        unfold capt at e
        split at e <;> cases e
theorem snd_comp {wi : TI} {it : XA} (ix : List Nat) (a : SndI K wi it) (b : SndE K ta ea) : SndO K (tComp wi ix ta) (xComp it ix ea) := by
  intro W0 W ρ σ Q d h' gd e q
  obtain ⟨xs, h1, e1, f1⟩ := ob_some e
  split at f1
  · rename_i hlen
    obtain ⟨zs, h2, e2, f2⟩ := ob_some f1
    cases f2
    have hz := cmp_len e2
    refine a W0 W ρ σ _ xs h1 gd e1 fun J W1 w1 l1 J1 => ?_
    subst w1
    intro D hD
    have nm := l1.ok.out hD
    have nf := l1.ok.ff hD
    refine ⟨fun i m H => m = xs.length - i ∧ i ≤ xs.length ∧ ∃ W' acc done rest, W'.H = H ∧ Le K W1 W' ∧ D ∉ W'.m ∧ W'.F D = none ∧ H D = some (.lst acc) ∧ RepLW K W' done acc ∧ done.length = i ∧ zs = done ++ rest ∧ cmpL ea (innP ix ρ) (xs.drop i) W'.h = some (rest, h'), ⟨_, rfl, Nat.zero_le _, wlay W1 D (.lst []), [], [], zs, rfl, wlay_le l1.ok hD, nm, nf, upd_same, rfl, rfl, rfl, by rw [List.drop_zero]; exact e2⟩, ?_⟩
    rintro i m _ ⟨rfl, hi, W', acc, done, rest, rfl, l, n1, n2, hd, rd, ld, ez, f⟩
    by_cases hlt : i < xs.length
    · rw [List.drop_eq_getElem_cons hlt] at f
      obtain ⟨y, h3, k1, f3⟩ := ob_some f
      obtain ⟨ys, h4, k2, f4⟩ := ob_some f3
      cases f4
      refine .inr ⟨J1.go i W' l.lf l.ok hlt, fun v H2 hy => ?_⟩
      obtain ⟨rfl, x, hx, rx⟩ := J1.yld i W' v H2 l.lf l.ok hlt hy
      rw [List.getElem?_eq_getElem hlt] at hx
      cases hx
      refine b W' W' _ _ _ y h3 (good_inn gd (l1.trans l) ix rx) k1 fun w W2 w2 l2 r2 => ?_
      obtain ⟨o2, n2'⟩ : ∃ o, W'.H D = some o := ⟨_, hd⟩
      have nm2 : D ∉ W2.m := fun z => by rw [l2.mn D z n1] at hd; cases hd
      have nf2 : W2.F D = none := l2.new D _ hd n1 n2
      refine ⟨acc, l2.keep _ _ hd n1, ?_, xs.length - (i + 1), by omega, rfl, hlt, wmut W2 D (.lst (acc ++ [w])), acc ++ [w], done ++ [y], ys, rfl, wmut_le (l.trans l2) nm2 nf2 hD, nm2, nf2, upd_same, (l2.repL rd).snoc r2, by simp [ld], by simp [ez], ?_⟩
      · rw [rd.len, ld]; exact big (by omega)
      · show cmpL ea (innP ix ρ) (xs.drop (i + 1)) W2.h = some (ys, h')
        rw [w2]; exact k2
    · have ei : i = xs.length := by omega
      subst ei
      rw [List.drop_length] at f
      cases f
      refine .inl ⟨J1.stop W' l.lf l.ok, ?_⟩
      rw [List.append_nil] at ez
      subst ez
      exact q D W' rfl (l1.trans l) n1 (l1.fresh hD) (fun z => by cases z) ⟨n2, acc, hd, rd⟩
  · cases f1
/-! ### a def's body -/
theorem good_start {W : Wd} (w : WOk K W) {N : List Str} {xs : List PV} {vs : List V} (r : RepLW K W xs vs) : Good K W W (xs.map .val ++ List.replicate (N.length - xs.length) .no) (L2.start N vs) where
  le := .refl w
  len := by simp [L2.start, r.len]
  val := fun j y e => by
    by_cases hj : j < xs.length
    · rw [List.getElem?_append_left (by simpa using hj), List.getElem?_map, List.getElem?_eq_getElem hj] at e
      cases e
      obtain ⟨v, h1, h2⟩ := r.get (List.getElem?_eq_getElem hj)
      refine ⟨v, ?_, h2⟩
      unfold L2.start
      rw [List.getElem?_append_left (by simp [r.len, hj]), List.getElem?_map, h1]; rfl
    · rw [List.getElem?_append_right (by simp; omega), List.getElem?_replicate] at e
      split at e <;> cases e
  own := fun j d e => by
    by_cases hj : j < xs.length
    · rw [List.getElem?_append_left (by simpa using hj), List.getElem?_map, List.getElem?_eq_getElem hj] at e
      cases e
    · rw [List.getElem?_append_right (by simp; omega), List.getElem?_replicate] at e
      split at e <;> cases e
  ne := fun j k d d' _ e _ => by
    by_cases hj : j < xs.length
    · rw [List.getElem?_append_left (by simpa using hj), List.getElem?_map, List.getElem?_eq_getElem hj] at e
      cases e
    · rw [List.getElem?_append_right (by simp; omega), List.getElem?_replicate] at e
      split at e <;> cases e
theorem body_snd {N : List Str} {n : Nat} {vs : List V} {H : Hp} {Q : VK} {E : XK} {bk ct : St → Hp → Prop} (a : SndS K t s) (h : spE K n (runF N.length s) vs H Q E) : t ⟨fun _ H' => Q .non H', Q, bk, ct⟩ (L2.start N vs) H := by
  obtain ⟨W, xs, x, h', rfl, w, r, _, e, q⟩ := h
  obtain ⟨o, h1, e1, f1⟩ := ob_some e
  refine a W W _ _ _ o h1 (good_start w r) e1 ?_
  cases o with
  | rt y => cases f1; exact fun W' v ew l rv => q v W' ew l rv
  | nx ρ => cases f1; exact fun W' σ' ew _ g => q .non W' ew g.le rfl
  | bk ρ => cases f1
  | ct ρ => cases f1
theorem spE_len {n : Nat} {f : Fn} {vs : List V} {H : Hp} {Q : VK} {E : XK} (h : spE K n f vs H Q E) : vs.length = n := by
  obtain ⟨W, xs, x, h', rfl, w, r, hn, _⟩ := h
  rw [r.len, hn]
end
end PX
namespace PX
open PySem L2
variable {K : Ck}
/-! ## the text's operators -/
def oI (g : Int → Int → PV) : P2 := fun x y h => match x, y with | .int i, .int j => some (g i j, h) | _, _ => none
def oIc (C : Int → Int → Prop) [∀ i j, Decidable (C i j)] (g : Int → Int → PV) : P2 := fun x y h => match x, y with | .int i, .int j => if C i j then some (g i j, h) else none | _, _ => none
abbrev oAdd : P2 := oI fun i j => .int (i + j)
abbrev oSub : P2 := oI fun i j => .int (i - j)
def MulOk (i j : Int) : Prop := (-18446744073709551616 < i ∧ i < 18446744073709551616) ∨ (-18446744073709551616 < j ∧ j < 18446744073709551616)
instance (i j : Int) : Decidable (MulOk i j) := by unfold MulOk; infer_instance
def PowOk (i j : Int) : Prop := (0 ≤ i ∧ i < 18446744073709551616) ∧ 0 ≤ j ∧ j ≤ 1000000
instance (i j : Int) : Decidable (PowOk i j) := by unfold PowOk; infer_instance
abbrev oMul : P2 := oIc MulOk fun i j => .int (i * j)
abbrev oDiv : P2 := oIc (fun _ j => 0 < j ∧ j < 1073741824) fun i j => .int (i / j)
abbrev oMod : P2 := oIc (fun _ j => 0 < j) fun i j => .int (i % j)
abbrev oPow : P2 := oIc PowOk fun i j => .int (i ^ j.toNat)
abbrev oLt : P2 := oI fun i j => .bl (decide (i < j))
abbrev oLe : P2 := oI fun i j => .bl (decide (i ≤ j))
abbrev oGt : P2 := oI fun i j => .bl (decide (j < i))
abbrev oNeg : PV → AH → Option (PV × AH) := fun x h => match x with | .int i => some (.int (-i), h) | _ => none
theorem op_i {g : Int → Int → PV} {gV : Int → Int → V} (h : ∀ (W : Wd) i j, RepW K W (g i j) (gV i j)) : OpSnd K (rI0 gV) (oI g) := by
  intro W x y v u Q z h' w rx ry e q
  unfold oI at e
  split at e
  · rename_i i j
    cases e
    exact ⟨i, j, rx, ry, q _ W rfl (.refl w) (h W i j)⟩
  · cases e
theorem op_ic {C : Int → Int → Prop} [∀ i j, Decidable (C i j)] {C' : Int → Int → Prop} {g : Int → Int → PV} {gV : Int → Int → V} (hc : ∀ i j, C i j → C' i j) (h : ∀ (W : Wd) i j, RepW K W (g i j) (gV i j)) : OpSnd K (rI C' gV) (oIc C g) := by
  intro W x y v u Q z h' w rx ry e q
  unfold oIc at e
  split at e
  · rename_i i j
    split at e
    · rename_i c
      cases e
      exact ⟨i, j, rx, ry, hc i j c, q _ W rfl (.refl w) (h W i j)⟩
    · cases e
  · cases e
theorem o_add : OpSnd K rAddI oAdd := op_i fun _ _ _ => rfl
theorem o_sub : OpSnd K rSubI oSub := op_i fun _ _ _ => rfl
theorem o_mul : OpSnd K rMulI oMul := op_ic (fun i j h => by unfold CMul; rw [show (2 : Int) ^ 64 = 18446744073709551616 by decide]; exact h) fun _ _ _ => rfl
theorem o_div : OpSnd K rDivI oDiv := op_ic (fun i j h => h) fun _ _ _ => rfl
theorem o_mod : OpSnd K rModI oMod := op_ic (fun i j h => h) fun _ _ _ => rfl
theorem o_pow : OpSnd K rPowI oPow := op_ic (fun i j h => by unfold CPow; rw [show 2 ^ 64 = 18446744073709551616 by decide]; unfold PowOk at h; omega) fun _ _ _ => rfl
theorem o_lt : OpSnd K rLtI oLt := op_i fun _ _ _ => rfl
theorem o_le : OpSnd K rLeI oLe := op_i fun _ _ _ => rfl
theorem o_gt : OpSnd K rGtI oGt := op_i fun _ _ _ => rfl
theorem o_neg : UnSnd K rNegI oNeg := by
  intro W x v Q z h' w rx e q
  unfold oNeg at e
  split at e
  · rename_i i
    cases e
    exact ⟨i, rx, q _ W rfl (.refl w) rfl⟩
  · cases e
/-- of plain values: the one of the heap's -/
def sv : PV → Option V
  | .non => some .non
  | .bl b => some (.bl b)
  | .int i => some (.int i)
  | .str s => some (.str s)
  | _ => none
theorem sv_rep {W : Wd} {x : PV} {v u : V} (e : sv x = some u) (r : RepW K W x v) : v = u := by
  cases x <;> cases e <;> exact r
def oEq : P2 := fun x y h => match sv x, sv y with | some v, some u => if scal v u = true then some (.bl (decide (v = u)), h) else none | _, _ => none
def oNe : P2 := fun x y h => match sv x, sv y with | some v, some u => if scal v u = true then some (.bl (!decide (v = u)), h) else none | _, _ => none
theorem o_eq : OpSnd K rEq oEq := by
  intro W x y v u Q z h' w rx ry e q
  unfold oEq at e
  split at e
  · rename_i v' u' e1 e2
    obtain rfl := sv_rep e1 rx
    obtain rfl := sv_rep e2 ry
    split at e
    · rename_i c
      cases e
      exact ⟨c, q _ W rfl (.refl w) rfl⟩
    · cases e
  · cases e
theorem o_ne : OpSnd K rNe oNe := by
  intro W x y v u Q z h' w rx ry e q
  unfold oNe at e
  split at e
  · rename_i v' u' e1 e2
    obtain rfl := sv_rep e1 rx
    obtain rfl := sv_rep e2 ry
    split at e
    · rename_i c
      cases e
      exact ⟨c, q _ W rfl (.refl w) rfl⟩
    · cases e
  · cases e
def isN : PV → Bool
  | .non => true
  | _ => false
def oIsN : P2 := fun x y h => match y with | .non => some (.bl (isN x), h) | _ => none
def oNotN : P2 := fun x y h => match y with | .non => some (.bl (!isN x), h) | _ => none
/-! texts -/
def oAddS : P2 := fun x y h => match x, y with | .str i, .str j => if i.length + j.length ≤ 100000 then some (.str (i ++ j), h) else none | _, _ => none
theorem o_addS : OpSnd K rAddS oAddS := by
  intro W x y v u Q z h' w rx ry e q
  unfold oAddS at e
  split at e
  · rename_i i j
    split at e
    · rename_i c
      cases e
      exact ⟨i, j, rx, ry, big' c, q _ W rfl (.refl w) rfl⟩
    · cases e
  · cases e
def oIn1 : P2 := fun x y h => match x, y with | .str s, .str j => (match s.cps.toList with | [c] => some (.bl (decide (c ∈ j.cps.toList)), h) | _ => none) | _, _ => none
/-! an index -/
def oIxL : P2 := fun x y h => match y with
  | .int i => (match x with
    | .lst xs => (match atI xs i with | some v => some (v, h) | none => none)
    | .scr ns => (match atI ns i with | some v => some (.int v, h) | none => none)
    | .loc n => (match h[n]? with | some (.lst xs) => (match atI xs i with | some v => some (v, h) | none => none) | _ => none)
    | _ => none)
  | _ => none
def oIxT : P2 := fun x y h => match x, y with | .tup xs, .int i => (match atI xs i with | some v => some (v, h) | none => none) | _, _ => none
def oIxS : P2 := fun x y h => match x, y with | .str s, .int i => (match atI s.cps.toList i with | some c => if s.length ≤ 100000 then some (sgn c, h) else none | none => none) | _, _ => none
theorem RepL.at {F : Hp} {m : List Addr} {xs : List PV} {vs : List V} (r : RepL K F m xs vs) {i : Int} {x : PV} (e : atI xs i = some x) : ∃ v, atI vs i = some v ∧ Rep K F m x v := by
  unfold atI at e ⊢
  rw [r.len]
  obtain ⟨j, e1, e2⟩ := Option.bind_eq_some_iff.mp e
  rw [e1]
  exact r.get e2
theorem WOk.loc {W : Wd} (w : WOk K W) {n : Nat} {d : Nd} {v : V} (e : W.h[n]? = Option.some d) (r : RepW K W (.loc n) v) : ∃ a, v = .ref a ∧ W.m[n]? = Option.some a ∧ NdAt K W.F W.H W.m d a := by
  obtain ⟨a, ea, h⟩ := r
  exact ⟨a, ea, h, w.at_ n d a e h⟩
theorem o_ixL : OpSnd K (rIxL K.K) oIxL := by
  intro W x y v u Q z h' w rx ry e q
  unfold oIxL at e
  split at e
  · rename_i i
    split at e
    · rename_i xs
      split at e
      · rename_i y hy
        cases e
        obtain ⟨a, vs, ev, hs, rs⟩ := rx
        obtain ⟨v', h1, h2⟩ := rs.at hy
        exact ⟨a, vs, i, v', ev, ry, SqL.of (w.le _ _ hs), h1, q _ W rfl (.refl w) h2⟩
      · cases e
    · rename_i ns
      split at e
      · rename_i y hy
        cases e
        obtain ⟨a, ev, hs⟩ := rx
        refine ⟨a, _, i, .int y, ev, ry, seqL_up w hs, ?_, q _ W rfl (.refl w) rfl⟩
        unfold atI at hy ⊢
        rw [List.length_map]
        obtain ⟨j, e1, e2⟩ := Option.bind_eq_some_iff.mp hy
        rw [e1]
        show (ns.map V.int)[j]? = _
        rw [List.getElem?_map, e2]; rfl
      · cases e
    · rename_i n
      split at e
      · rename_i xs hn
        split at e
        · rename_i y hy
          cases e
          obtain ⟨a, ev, hm, hf, vs, hp, rs⟩ := w.loc hn rx
          obtain ⟨v', h1, h2⟩ := rs.at hy
          exact ⟨a, vs, i, v', ev, ry, SqL.of hp, h1, q _ W rfl (.refl w) h2⟩
        · cases e
      · cases e
    · cases e
  · cases e
theorem o_ixT : OpSnd K (rIxT K.K) oIxT := by
  intro W x y v u Q z h' w rx ry e q
  unfold oIxT at e
  split at e
  · rename_i xs i
    split at e
    · rename_i y hy
      cases e
      obtain ⟨a, vs, ev, hs, rs⟩ := rx
      obtain ⟨v', h1, h2⟩ := rs.at hy
      exact ⟨a, vs, i, v', ev, ry, seqT_up w hs, h1, q _ W rfl (.refl w) h2⟩
    · cases e
  · cases e
theorem o_ixS : OpSnd K rIxS oIxS := by
  intro W x y v u Q z h' w rx ry e q
  unfold oIxS at e
  split at e
  · rename_i s i
    split at e
    · rename_i c hc
      split at e
      · rename_i hl
        cases e
        exact ⟨s, i, c, rx, ry, big' hl, hc, q _ W rfl (.refl w) rfl⟩
      · cases e
    · cases e
  · cases e
/-! slices -/
def oSlS : PV → Option Int → Option Int → AH → Option (PV × AH) := fun x lo hi h => match x with | .str z => if z.length ≤ 100000 then some (.str (cutS z lo hi), h) else none | _ => none
theorem o_slS : SlSnd K rSlS oSlS := by
  intro W x v lo hi Q z h' w rx e q
  unfold oSlS at e
  split at e
  · rename_i s
    split at e
    · rename_i hl
      cases e
      exact ⟨s, rx, by omega, q _ W rfl (.refl w) rfl⟩
    · cases e
  · cases e
def cutP {α : Type} (xs : List α) (lo hi : Option Int) : List α := (xs.drop (HT.sIx xs.length 0 lo)).take (HT.sIx xs.length xs.length hi - HT.sIx xs.length 0 lo)
def listOf (x : PV) (h : AH) : Option (List PV) := match x with | .lst xs => some xs | .scr ns => some (ns.map .int) | .loc n => (match h[n]? with | some (.lst xs) => some xs | _ => none) | _ => none
theorem listOf_rep {W : Wd} (w : WOk K W) {x : PV} {v : V} {xs : List PV} (e : listOf x W.h = some xs) (r : RepW K W x v) : ∃ a vs, v = .ref a ∧ SqL K.K W.H a vs ∧ RepLW K W xs vs := by
  unfold listOf at e
  split at e
  · cases e
    obtain ⟨a, vs, ev, hs, rs⟩ := r
    exact ⟨a, vs, ev, SqL.of (w.le _ _ hs), rs⟩
  · rename_i ns
    cases e
    obtain ⟨a, ev, hs⟩ := r
    exact ⟨a, _, ev, seqL_up w hs, RepL.of_ints ns⟩
  · rename_i n
    split at e
    · rename_i ys hn
      cases e
      obtain ⟨a, ev, hm, hf, vs, hp, rs⟩ := w.loc hn r
      exact ⟨a, vs, ev, SqL.of hp, rs⟩
    · cases e
  · cases e
/-- not the script -/
def listOf' (x : PV) (h : AH) : Option (List PV) := match x with | .lst xs => some xs | .loc n => (match h[n]? with | some (.lst xs) => some xs | _ => none) | _ => none
theorem listOf'_rep {W : Wd} (w : WOk K W) {x : PV} {v : V} {xs : List PV} (e : listOf' x W.h = some xs) (r : RepW K W x v) : ∃ a vs, v = .ref a ∧ W.H a = some (.lst vs) ∧ RepLW K W xs vs := by
  unfold listOf' at e
  split at e
  · cases e
    obtain ⟨a, vs, ev, hs, rs⟩ := r
    exact ⟨a, vs, ev, w.le _ _ hs, rs⟩
  · rename_i n
    split at e
    · rename_i ys hn
      cases e
      obtain ⟨a, ev, hm, hf, vs, hp, rs⟩ := w.loc hn r
      exact ⟨a, vs, ev, hp, rs⟩
    · cases e
  · cases e
/-- a new list at p -/
theorem newL {W : Wd} (w : WOk K W) {p : Addr} (hp : W.H p = none) {xs : List PV} {vs : List V} (r : RepLW K W xs vs) {Q : VK} (q : NewAt K W (.lst xs) W.h Q) : Q (.ref p) (upd W.H p (.lst vs)) :=
  q p (wlay W p (.lst vs)) rfl (wlay_le w hp) (w.out hp) hp (fun z => by cases z) ⟨w.ff hp, vs, upd_same, r⟩
def oSlL : PV → Option Int → Option Int → AH → Option (Nd × AH) := fun x lo hi h => match listOf x h with | some xs => some (.lst (cutP xs lo hi), h) | none => none
theorem o_slL : SlSndO K (rSlL K.K) oSlL := by
  intro W x v lo hi Q d h' w rx e q
  unfold oSlL at e
  split at e
  · rename_i xs hx
    cases e
    obtain ⟨a, vs, ev, hs, rs⟩ := listOf_rep w hx rx
    refine ⟨a, vs, ev, hs, fun p hp => newL w hp ?_ q⟩
    have := (rs.drop (HT.sIx xs.length 0 lo)).take (HT.sIx xs.length xs.length hi - HT.sIx xs.length 0 lo)
    unfold cutP cutV
    rw [rs.len]
    exact this
  · cases e
def oCat : P2O := fun x y h => match listOf' x h, listOf' y h with | some xs, some ys => if xs.length + ys.length ≤ 100000 then some (.lst (xs ++ ys), h) else none | _, _ => none
theorem o_cat : OpSndO K rCat oCat := by
  intro W x y v u Q d h' w rx ry e q
  unfold oCat at e
  split at e
  · rename_i xs ys hx hy
    split at e
    · rename_i hl
      cases e
      obtain ⟨a, vs, ev, hs, rs⟩ := listOf'_rep w hx rx
      obtain ⟨b, us, eu, ht, ru⟩ := listOf'_rep w hy ry
      refine ⟨a, b, vs, us, ev, eu, hs, ht, by rw [rs.len, ru.len]; exact big' hl, fun p hp => newL w hp (rs.app ru) q⟩
    · cases e
  · cases e
def repL {α : Type} (k : Nat) (xs : List α) : List α := (List.replicate k xs).flatten
theorem RepL.rep {F : Hp} {m : List Addr} {xs : List PV} {vs : List V} (r : RepL K F m xs vs) : ∀ k : Nat, RepL K F m (repL k xs) (repL k vs)
  | 0 => rfl
  | k + 1 => by
    show RepL K F m ((List.replicate (k + 1) xs).flatten) ((List.replicate (k + 1) vs).flatten)
    rw [List.replicate_succ, List.replicate_succ, List.flatten_cons, List.flatten_cons]
    exact r.app (RepL.rep r k)
def oRep : P2O := fun x y h => match listOf' x h, y with | some xs, .int k => if -1000000 ≤ k ∧ k ≤ 100000 ∧ xs.length * k.toNat ≤ 100000 then some (.lst (repL k.toNat xs), h) else none | _, _ => none
/-! Python's own functions -/
def seqLen (x : PV) (h : AH) : Option Nat := match x with | .tup xs => some xs.length | .lst xs => some xs.length | .scr ns => some ns.length | .loc n => (match h[n]? with | some (.lst xs) => some xs.length | _ => none) | _ => none
def bLenL : List PV → AH → Option (PV × AH) := fun xs h => match xs with | [x] => (match seqLen x h with | some n => some (.int n, h) | none => none) | _ => none
def bLenS : List PV → AH → Option (PV × AH) := fun xs h => match xs with | [.str z] => if z.length ≤ 100000 then some (.int z.length, h) else none | _ => none
theorem rep1 {W : Wd} {x : PV} {vs : List V} (r : RepLW K W [x] vs) : ∃ v, vs = [v] ∧ RepW K W x v := by
  obtain ⟨v, r', e, h, l⟩ := r
  exact ⟨v, by rw [e, show r' = [] from l], h⟩
theorem rep2 {W : Wd} {x y : PV} {vs : List V} (r : RepLW K W [x, y] vs) : ∃ v u, vs = [v, u] ∧ RepW K W x v ∧ RepW K W y u := by
  obtain ⟨v, r', e, h, l⟩ := r
  obtain ⟨u, e2, h2⟩ := rep1 l
  exact ⟨v, u, by rw [e, e2], h, h2⟩
theorem b_lenL : CbSnd K (rLenL K.K) bLenL := by
  intro W xs vs Q z h' w r e q
  unfold bLenL at e
  split at e
  · rename_i x
    split at e
    · rename_i n hn
      cases e
      obtain ⟨v, rfl, rx⟩ := rep1 r
      have fin : ∀ (ys : List V), ys.length = n → Q (.int ys.length) W.H := fun ys hl => by rw [hl]; exact q _ W rfl (.refl w) rfl
      unfold seqLen at hn
      split at hn
      · cases hn
        obtain ⟨a, us, rfl, hs, rs⟩ := rx
        exact ⟨a, us, rfl, .inr (seqT_up w hs), fin _ rs.len⟩
      · rename_i ys
        cases hn
        obtain ⟨a, us, rfl, hs, rs⟩ := rx
        exact ⟨a, us, rfl, .inl (SqL.of (w.le _ _ hs)), fin _ rs.len⟩
      · rename_i ns
        cases hn
        obtain ⟨a, rfl, hs⟩ := rx
        exact ⟨a, _, rfl, .inl (seqL_up w hs), fin _ (by simp)⟩
      · split at hn
        · rename_i ys hy
          cases hn
          obtain ⟨a, rfl, hm, hf, us, hp, rs⟩ := w.loc hy rx
          exact ⟨a, us, rfl, .inl (SqL.of hp), fin _ rs.len⟩
        · cases hn
      · cases hn
    · cases e
  · cases e
theorem b_lenS : CbSnd K rLenS bLenS := by
  intro W xs vs Q z h' w r e q
  unfold bLenS at e
  split at e
  · rename_i s
    split at e
    · rename_i hl
      cases e
      obtain ⟨v, rfl, rx⟩ := rep1 r
      exact ⟨s, by rw [show v = _ from rx], big' hl, q _ W rfl (.refl w) rfl⟩
    · cases e
  · cases e
def bInt1 : List PV → AH → Option (PV × AH) := fun xs h => match xs with | [.int i] => some (.int i, h) | [.bl k] => some (.int (if k then 1 else 0), h) | _ => none
theorem b_int1 : CbSnd K rInt1 bInt1 := by
  intro W xs vs Q z h' w r e q
  unfold bInt1 at e
  split at e
  · rename_i i
    cases e
    obtain ⟨v, rfl, rx⟩ := rep1 r
    exact .inl ⟨i, by rw [show v = _ from rx], q _ W rfl (.refl w) rfl⟩
  · rename_i k
    cases e
    obtain ⟨v, rfl, rx⟩ := rep1 r
    exact .inr ⟨k, by rw [show v = _ from rx], q _ W rfl (.refl w) rfl⟩
  · cases e
def bStrI : List PV → AH → Option (PV × AH) := fun xs h => match xs with | [.int i] => if i.natAbs.log2 < 1920 then some (.str (toString i : String), h) else none | _ => none
def bListOf : List PV → AH → Option (Nd × AH) := fun xs h => match xs with | [.tup ys] => some (.lst ys, h) | [x] => (match listOf x h with | some ys => some (.lst ys, h) | none => none) | _ => none
theorem b_listOf : CbSndO K (rListOf K.K) bListOf := by
  intro W xs vs Q d h' w r e q
  unfold bListOf at e
  split at e
  · rename_i ys
    cases e
    obtain ⟨v, rfl, a, us, rfl, hs, rs⟩ := rep1 r
    exact ⟨a, us, rfl, .inr (seqT_up w hs), fun p hp => newL w hp rs q⟩
  · rename_i x _
    split at e
    · rename_i ys hy
      cases e
      obtain ⟨v, rfl, rx⟩ := rep1 r
      obtain ⟨a, us, rfl, hs, rs⟩ := listOf_rep w hy rx
      exact ⟨a, us, rfl, .inl hs, fun p hp => newL w hp rs q⟩
    · cases e
  · cases e
def intsOf : List PV → Option (List Int)
  | [] => some []
  | .int s :: r => (intsOf r).map (s :: ·)
  | _ => none
theorem intsOf_map : ∀ ss : List Int, intsOf (ss.map .int) = some ss
  | [] => rfl
  | s :: ss => by show (intsOf (ss.map .int)).map _ = _; rw [intsOf_map ss]; rfl
theorem intsOf_rep {F : Hp} {m : List Addr} : ∀ {xs : List PV} {ss : List Int} {vs : List V}, intsOf xs = some ss → RepL K F m xs vs → vs = ss.map V.int
  | [], _, _, e, r => by cases e; exact r
  | x :: xs, ss, _, e, ⟨v, r', ev, h, l⟩ => by
    cases x <;> try cases e
    rename_i s
    obtain ⟨ts, e1, e2⟩ := Option.map_eq_some_iff.mp e
    subst e2
    rw [ev, show v = _ from h, intsOf_rep e1 l]; rfl
def bSum : List PV → AH → Option (PV × AH) := fun xs h => match xs with | [x] => (match listOf' x h with | some ys => (match intsOf ys with | some ns => some (.int ns.sum, h) | none => none) | none => none) | _ => none
theorem b_sum : CbSnd K rSum bSum := by
  intro W xs vs Q z h' w r e q
  unfold bSum at e
  split at e
  · split at e
    · rename_i ys hy
      split at e
      · rename_i ns hn
        cases e
        obtain ⟨v, rfl, rx⟩ := rep1 r
        obtain ⟨a, us, rfl, hs, rs⟩ := listOf'_rep w hy rx
        have := intsOf_rep hn rs
        subst this
        exact ⟨a, ns, rfl, hs, q _ W rfl (.refl w) rfl⟩
      · cases e
    · cases e
  · cases e
def isStr : PV → AH → Bool := fun x _ => match x with | .str _ => true | _ => false
end PX
namespace PX
open PySem L2
variable {K : Ck}
/-! ## objects -/
def putN (f : Str) (x : PV) (ns : List Str) (xs : List PV) : List Str × List PV := if f ∈ ns then (ns, xs.set (ns.idxOf f) x) else (ns ++ [f], xs ++ [x])
theorem putF_zip (f : Str) (y : V) : ∀ (ns : List Str) (vs : List V), vs.length = ns.length → putF f y (ns.zip vs) = if f ∈ ns then ns.zip (vs.set (ns.idxOf f) y) else (ns ++ [f]).zip (vs ++ [y])
  | [], [], _ => by simp [putF]
  | n :: ns, v :: vs, hl => by
    have ih := putF_zip f y ns vs (by simpa using hl)
    show (if n = f then (n, y) :: ns.zip vs else (n, v) :: putF f y (ns.zip vs)) = _
    by_cases h : n = f
    · subst h
      simp [List.idxOf_cons_self]
    · have h' : ¬ f = n := fun z => h z.symm
      have hb : (n == f) = false := by simpa using h
      rw [if_neg h, ih]
      by_cases hm : f ∈ ns
      · simp [hm, h', List.idxOf_cons, hb]
      · simp [hm, h']
theorem lookup_zip {f : Str} : ∀ {ns : List Str} {vs : List V}, vs.length = ns.length → f ∈ ns → (ns.zip vs).lookup f = vs[ns.idxOf f]?
  | [], _, _, h => by simp at h
  | n :: ns, v :: vs, hl, h => by
    show List.lookup f ((n, v) :: ns.zip vs) = _
    by_cases hn : f = n
    · subst hn
      rw [lk_hd, List.idxOf_cons_self]; rfl
    · rw [lk_tl hn, lookup_zip (by simpa using hl) (by simpa [hn] using h)]
      have hb : (n == f) = false := by simpa using fun z : n = f => hn z.symm
      simp [List.idxOf_cons, hb]
theorem lookup_zip_none {f : Str} : ∀ {ns : List Str} {vs : List V}, f ∉ ns → (ns.zip vs).lookup f = none
  | [], _, _ => by simp
  | n :: ns, [], _ => by simp
  | n :: ns, v :: vs, h => by
    show List.lookup f ((n, v) :: ns.zip vs) = _
    rw [lk_tl (fun z : f = n => h (by rw [z]; exact List.mem_cons_self)), lookup_zip_none fun z => h (List.mem_cons_of_mem _ z)]
/-- an object's class, names and values -/
def insOf (x : PV) (h : AH) : Option (Nat × List Str × List PV) := match x with | .ins k ns xs => some (k, ns, xs) | .loc n => (match h[n]? with | some (.ins k ns xs) => some (k, ns, xs) | _ => none) | _ => none
theorem insOf_rep {W : Wd} (w : WOk K W) {x : PV} {v : V} {k : Nat} {ns : List Str} {xs : List PV} (e : insOf x W.h = some (k, ns, xs)) (r : RepW K W x v) : ∃ a dx vs, v = .ref a ∧ W.H a = some (.ins (K.A k) dx (ns.zip vs)) ∧ vs.length = ns.length ∧ RepLW K W xs vs := by
  unfold insOf at e
  split at e
  · cases e
    obtain ⟨a, dx, vs, ev, hs, hl, rs⟩ := r
    exact ⟨a, dx, vs, ev, w.le _ _ hs, hl, rs⟩
  · rename_i n
    split at e
    · rename_i hn
      cases e
      obtain ⟨a, ev, hm, hf, dx, vs, hp, hl, rs⟩ := w.loc hn r
      exact ⟨a, dx, vs, ev, hp, hl, rs⟩
    · cases e
  · cases e
/-- o.f; cs: the classes for which it is known that no class has f -/
def xFld (cs : List Nat) (f : Str) (e : XE) : XE := fun ρ h => ob (e ρ h) fun x h1 => match insOf x h1 with | some (k, ns, xs) => if k ∈ cs ∧ f ∈ ns then (match xs[ns.idxOf f]? with | some y => some (y, h1) | none => none) else none | none => none
theorem snd_fld {cs : List Nat} {f : Str} {ta : TE} {ea : XE} (hc : ∀ k ∈ cs, Cls K.K (K.A k) ∧ NoAttr K.K (K.A k) f) (a : SndE K ta ea) : SndE K (tFld K.K ta f) (xFld cs f ea) := by
  intro W0 W ρ σ Q z h' g e q
  obtain ⟨x, h1, e1, f1⟩ := ob_some e
  refine a W0 W ρ σ _ x h1 g e1 fun v W1 w1 l1 r1 => ?_
  subst w1
  split at f1
  · rename_i k ns xs hi
    split at f1
    · rename_i c
      split at f1
      · rename_i y hy
        cases f1
        obtain ⟨a, dx, vs, ev, hp, hl, rs⟩ := insOf_rep l1.ok hi r1
        obtain ⟨u, h2, h3⟩ := rs.get hy
        exact ⟨a, _, dx, _, u, ev, hp, (hc k c.1).1, (hc k c.1).2, by rw [lookup_zip hl c.2]; exact h2, q _ W1 rfl l1 h3⟩
      · cases f1
    · cases f1
  · cases f1
/-- self.f = e, self being one's own -/
def xFldO (cs : List Nat) (i : Nat) (f : Str) (e : XE) : XS := fun ρ h => ob (e ρ h) fun x h1 => match ρ[i]? with
  | some (.own (.ins k ns xs)) => if k ∈ cs ∧ ns.length < 1000 then some (.nx (ρ.set i (.own (.ins k (putN f x ns xs).1 (putN f x ns xs).2))), h1) else none
  | _ => none
theorem RepL.putN {F : Hp} {m : List Addr} {f : Str} {x : PV} {v : V} {ns : List Str} {xs : List PV} {vs : List V} (r : RepL K F m xs vs) (hl : vs.length = ns.length) (rx : Rep K F m x v) :
    ∃ us, putF f v (ns.zip vs) = (PX.putN f x ns xs).1.zip us ∧ us.length = (PX.putN f x ns xs).1.length ∧ RepL K F m (PX.putN f x ns xs).2 us := by
  rw [putF_zip f v ns vs hl]
  unfold PX.putN
  by_cases h : f ∈ ns
  · rw [if_pos h, if_pos h]
    exact ⟨_, rfl, by rw [List.length_set]; exact hl, r.set _ rx⟩
  · rw [if_neg h, if_neg h]
    exact ⟨_, rfl, by rw [List.length_append, List.length_append, hl]; rfl, r.snoc rx⟩
/-- statements that leave the names as they are -/
def SndF (K : Ck) (t : TS) (s : XS) : Prop := ∀ (W0 W : Wd) (ρ ρ' : PSt) (σ : St) (D : Ends) (h' : AH), Good K W0 W ρ σ → s ρ W.h = some (.nx ρ', h') → (∀ W', W'.h = h' → Lf K W W' → Good K W0 W' ρ' σ → D.nx σ W'.H) → t D σ W.H
theorem sndF_fld {cs : List Nat} {i : Nat} {f : Str} {ta : TE} {ea : XE} (hc : ∀ k ∈ cs, Cls K.K (K.A k) ∧ NoAttr K.K (K.A k) f) (a : SndE K ta ea) : SndF K (sFld K.K (tVar i) ta f) (xFldO cs i f ea) := by
  intro W0 W ρ ρ' σ D h' g e q
  obtain ⟨x, h1, e1, f1⟩ := ob_some e
  split at f1
  · rename_i k ns xs hi
    split at f1
    · rename_i c
      cases f1
      refine a W0 W ρ σ _ x _ g e1 fun v W1 w1 l1 r1 => ?_
      have g1 := g.step l1
      obtain ⟨p, b1, b2, b3, b4, b5, dx, vs, b6, b7, b8⟩ := g1.own i _ hi
      obtain ⟨us, p1, p2, p3⟩ := b8.putN (f := f) b7 r1
      refine ⟨_, b1, p, _, dx, _, rfl, b6, (hc k c.1).1, (hc k c.1).2, by rw [List.length_zip, b7]; simpa using c.2, ?_⟩
      rw [p1]
      exact q (wmut W1 p _) w1 ⟨l1.fs, l1.pre⟩ (g1.mut hi b1 b2 b3 b5 (fun z => by cases z) ⟨b5, dx, us, upd_same, p2, p3⟩)
    · cases f1
  · cases f1
theorem sndF_seq {t u : TS} {s s' : XS} (a : SndF K t s) (b : SndF K u s') : SndF K (tSeq t u) (xSeq s s') := by
  intro W0 W ρ ρ' σ D h' g e q
  obtain ⟨o1, h1, e1, f1⟩ := ob_some e
  cases o1 with
  | nx ρ1 => exact a W0 W ρ ρ1 σ _ h1 g e1 fun W1 w1 l1 g1 => b W0 W1 ρ1 ρ' σ D h' g1 (by rw [w1]; exact f1) fun W2 w2 l2 g2 => q W2 w2 (l1.trans l2) g2
  | rt y => cases f1
  | bk y => cases f1
  | ct y => cases f1
/-- __init__ -/
def runI (N : Nat) (k : Nat) (s : XS) : List PV → AH → Option (Nd × AH) := fun xs h => ob (s (.own (.ins k [] []) :: (xs.map .val ++ List.replicate (N - (xs.length + 1)) .no)) h) fun o h1 => match o with | .nx ρ => (match ρ[0]? with | some (PVar.own d) => some (d, h1) | _ => none) | _ => none
def spI (K : Ck) (n k : Nat) (f : List PV → AH → Option (Nd × AH)) : Sp := fun vs H Q _ => ∃ (W : Wd) (x dx : Addr) (args : List V) (xs : List PV) (d : Nd) (h' : AH), vs = .ref x :: args ∧ W.H x = none ∧ W.H dx = none ∧ dx ≠ x ∧ H = upd (upd W.H dx (.own x)) x (.ins (K.A k) dx []) ∧
  WOk K W ∧ RepLW K W xs args ∧ xs.length = n ∧ f xs W.h = some (d, h') ∧ ∀ W', W'.h = h' → Le K W W' → x ∉ W'.m → d ≠ .dead → NdAt K W'.F W'.H W'.m d x → Q .non W'.H
theorem spI_len {n k : Nat} {f} {vs : List V} {H : Hp} {Q : VK} {E : XK} (h : spI K n k f vs H Q E) : vs.length = n + 1 := by
  obtain ⟨W, x, dx, args, xs, d, h', rfl, _, _, _, _, w, r, hn, _⟩ := h
  rw [List.length_cons, r.len, hn]
theorem init_snd {N : List Str} {n k : Nat} {t : TS} {s : XS} {vs : List V} {H : Hp} {Q : VK} {E : XK} {bk ct : St → Hp → Prop} (hN : n + 1 ≤ N.length) (a : SndF K t s) (h : spI K n k (runI N.length k s) vs H Q E) : t ⟨fun _ H' => Q .non H', Q, bk, ct⟩ (L2.start N vs) H := by
  obtain ⟨W, x, dx, args, xs, d, h', rfl, hx, hd, hne, rfl, w, r, hn, e, q⟩ := h
  obtain ⟨o, h1, e1, f1⟩ := ob_some e
  have l1 : Le K W (wlay W dx (.own x)) := wlay_le w hd
  have hx1 : (wlay W dx (.own x)).H x = none := (upd_ne hne.symm).trans hx
  have l2 : Le K (wlay W dx (.own x)) (wlay (wlay W dx (.own x)) x (.ins (K.A k) dx [])) := wlay_le l1.ok hx1
  have l := l1.trans l2
  have gs := good_start (K := K) (N := N.drop 1) w r
  have g : Good K W (wlay (wlay W dx (.own x)) x (.ins (K.A k) dx [])) (.own (.ins k [] []) :: (xs.map .val ++ List.replicate (N.length - (xs.length + 1)) .no)) (L2.start N (.ref x :: args)) := by
    have es : L2.start N (.ref x :: args) = some (.ref x) :: L2.start (N.drop 1) args := by
      have e3 : N.length - (args.length + 1) = (N.drop 1).length - args.length := by rw [List.length_drop]; omega
      unfold L2.start
      rw [List.map_cons, List.cons_append, List.length_cons, e3]
    have eN : N.length - (xs.length + 1) = (N.drop 1).length - xs.length := by rw [List.length_drop]; omega
    rw [es, eN]
    have gs' := gs.step l
    have noown : ∀ (j : Nat) (d : Nd), (xs.map PVar.val ++ List.replicate ((N.drop 1).length - xs.length) .no)[j]? ≠ some (.own d) := fun j d z => by
      by_cases hj : j < xs.length
      · rw [List.getElem?_append_left (by simpa using hj), List.getElem?_map, List.getElem?_eq_getElem hj] at z
        cases z
      · rw [List.getElem?_append_right (by simp; omega), List.getElem?_replicate] at z
        split at z <;> cases z
    refine ⟨l, by rw [List.length_cons, List.length_cons, gs.len], fun j y z => ?_, fun j d z => ?_, fun i j d d' hij z z' => ?_⟩
    · cases j with
      | zero => cases z
      | succ j => exact gs'.val j y z
    · cases j with
      | zero => cases z; exact ⟨x, rfl, w.out hx, hx, (fun z => by cases z), w.ff hx, dx, [], upd_same, rfl, rfl⟩
      | succ j => exact absurd z (noown j d)
    · cases i with
      | zero =>
        cases j with
        | zero => exact absurd rfl hij
        | succ j => exact absurd z' (noown j d')
      | succ i => exact absurd z (noown i d)
  cases o with
  | rt y => cases f1
  | bk ρ => cases f1
  | ct ρ => cases f1
  | nx ρ =>
    refine a W _ _ ρ _ _ h1 g e1 fun W' ew lf g' => ?_
    dsimp only at f1
    split at f1
    · rename_i d' hd'
      cases f1
      obtain ⟨p, b1, b2, b3, b4, b5⟩ := g'.own 0 _ hd'
      have b1 : some (some (V.ref x)) = some (some (V.ref p)) := b1
      cases b1
      exact q W' ew g'.le b2 b4 b5
    · cases f1
/-- C(..), a new thing of one's own -/
def xMake (f : List PV → AH → Option (Nd × AH)) (a : XA) : XO := fun ρ h => ob (a ρ h) f
theorem snd_make {n k : Nat} {f} {ex : XK} {t : TA} {e : XA} (a : SndA K t e) (hn : ∀ ρ h xs h', e ρ h = some (xs, h') → xs.length = n) : SndO K (tMake (K.A k) (spI K n k f) [] ex t) (xMake f e) := by
  intro W0 W ρ σ Q d h' g e' q
  obtain ⟨xs, h1, e1, e2⟩ := ob_some e'
  refine a W0 W ρ σ _ xs h1 g e1 fun vs W1 w1 l1 r1 => ?_
  subst w1
  intro x dx hx hd hne
  rw [List.append_nil]
  exact ⟨W1, x, dx, vs, xs, d, h', rfl, hx, hd, hne, rfl, l1.ok, r1, hn _ _ _ _ e1, e2, fun W2 w2 l2 hm hdd at_ => ⟨rfl, q x W2 w2 (l1.trans l2) hm (l1.fresh hx) hdd at_⟩⟩
/-- .. of a class without __init__ -/
def xMakeO (k : Nat) : XO := fun _ h => some (.ins k [] [], h)
theorem snd_makeO {k : Nat} : SndO K (tMakeO (K.A k)) (xMakeO k) := by
  intro W0 W ρ σ Q d h' g e q
  cases e
  intro x dx hx hd hne
  have w := g.ok
  have l1 : Le K W (wlay W dx (.own x)) := wlay_le w hd
  have hx1 : (wlay W dx (.own x)).H x = none := (upd_ne hne.symm).trans hx
  have l2 : Le K (wlay W dx (.own x)) (wlay (wlay W dx (.own x)) x (.ins (K.A k) dx [])) := wlay_le l1.ok hx1
  exact q x (wlay (wlay W dx (.own x)) x (.ins (K.A k) dx [])) rfl (l1.trans l2) (w.out hx) hx (fun z => by cases z) ⟨w.ff hx, dx, [], upd_same, rfl, rfl⟩
/-- o.m() by the object's class -/
def xMeth (m : Str) (f : Nat → Fn) (e : XE) : XE := fun ρ h => ob (e ρ h) fun x h1 => match insOf x h1 with | some (k, ns, _) => if m ∈ ns then none else f k [x] h1 | none => none
theorem snd_meth {m : Str} {f : Nat → Fn} {ta : TE} {ea : XE} (a : SndE K ta ea) : SndE K (tMethD K.A m (fun k => spE K 1 (f k)) ta) (xMeth m f ea) := by
  intro W0 W ρ σ Q z h' g e q
  obtain ⟨x, h1, e1, f1⟩ := ob_some e
  refine a W0 W ρ σ _ x h1 g e1 fun v W1 w1 l1 r1 => ?_
  subst w1
  split at f1
  · rename_i k ns xs hi
    split at f1
    · cases f1
    · rename_i hm
      obtain ⟨b, dx, vs, ev, hp, hl, rs⟩ := insOf_rep l1.ok hi r1
      exact ⟨b, k, dx, _, ev, hp, lookup_zip_none hm, W1, [x], z, h', rfl, l1.ok, ⟨v, [], rfl, r1, rfl⟩, rfl, f1, fun u W2 w2 l2 r2 => q u W2 w2 (l1.trans l2) r2⟩
  · cases f1
/-! ### isinstance -/
/-- the table's rows: class, asked class, answer -/
def isaOf (tb : List (Nat × Nat × Bool)) (x c : PV) (h : AH) : Option Bool := match c with
  | .ty n => (match x with
    | .int _ => if n = "int" then some true else if n = "bool" ∨ n = "str" ∨ n = "list" ∨ n = "tuple" ∨ n = "dict" then some false else none
    | .bl _ => if n = "int" ∨ n = "bool" then some true else if n = "str" ∨ n = "list" ∨ n = "tuple" ∨ n = "dict" then some false else none
    | .str _ => if n = "str" then some true else if n = "int" ∨ n = "bool" ∨ n = "list" ∨ n = "tuple" ∨ n = "dict" then some false else none
    | .non => if n = "int" ∨ n = "bool" ∨ n = "str" ∨ n = "list" ∨ n = "tuple" ∨ n = "dict" then some false else none
    | .tup _ => if n = "tuple" then some true else if n = "int" ∨ n = "bool" ∨ n = "str" ∨ n = "list" ∨ n = "dict" then some false else none
    | _ => (match listOf' x h with | some _ => if n = "list" then some true else if n = "int" ∨ n = "bool" ∨ n = "str" ∨ n = "tuple" ∨ n = "dict" then some false else none | none => none))
  | .cls c' => (match insOf x h with | some (k, _) => (tb.find? fun r => r.1 == k && r.2.1 == c').map (·.2.2) | none => none)
  | _ => none
def bIsi (tb : List (Nat × Nat × Bool)) : List PV → AH → Option (PV × AH) := fun xs h => match xs with | [x, c] => (match isaOf tb x c h with | some b => some (.bl b, h) | none => none) | _ => none
theorem b_isi {tb : List (Nat × Nat × Bool)} (ht : ∀ r ∈ tb, ∀ (H : Hp) (a dx : Addr) (fs : List (Str × V)), H a = some (.ins (K.A r.1) dx fs) → IsI K.K H (.ref a) (.ref (K.A r.2.1)) r.2.2) : CbSnd K (rIsi K.K) (bIsi tb) := by
  intro W xs vs Q z h' w r e q
  unfold bIsi at e
  split at e
  · rename_i x c
    split at e
    · rename_i b hb
      cases e
      obtain ⟨v, u, rfl, rx, ru⟩ := rep2 r
      refine ⟨v, u, b, rfl, ?_, q _ W rfl (.refl w) rfl⟩
      unfold isaOf at hb
      split at hb
      · rename_i n
        obtain rfl : u = .ty n := ru
        split at hb
        · rw [show v = _ from rx]
          repeat' split at hb
          all_goals cases hb
          · rename_i hn; subst hn; exact isI_int_int
          · rename_i hn; rcases hn with rfl | rfl | rfl | rfl | rfl
            · exact isI_int_bool
            · exact isI_int_str
            · exact isI_int_list
            · exact isI_int_tuple
            · exact isI_int_dict
        · rw [show v = _ from rx]
          repeat' split at hb
          all_goals cases hb
          · rename_i hn; rcases hn with rfl | rfl
            · exact isI_bl_int
            · exact isI_bl_bool
          · rename_i hn; rcases hn with rfl | rfl | rfl | rfl
            · exact isI_bl_str
            · exact isI_bl_list
            · exact isI_bl_tuple
            · exact isI_bl_dict
        · rw [show v = _ from rx]
          repeat' split at hb
          all_goals cases hb
          · rename_i hn; subst hn; exact isI_str_str
          · rename_i hn; rcases hn with rfl | rfl | rfl | rfl | rfl
            · exact isI_str_int
            · exact isI_str_bool
            · exact isI_str_list
            · exact isI_str_tuple
            · exact isI_str_dict
        · rw [show v = _ from rx]
          repeat' split at hb
          all_goals cases hb
          · rename_i hn; rcases hn with rfl | rfl | rfl | rfl | rfl | rfl
            · exact isI_non_int
            · exact isI_non_bool
            · exact isI_non_str
            · exact isI_non_list
            · exact isI_non_tuple
            · exact isI_non_dict
        · obtain ⟨a, us, rfl, hs, _⟩ := rx
          have hp := w.le _ _ hs
          repeat' split at hb
          all_goals cases hb
          · rename_i hn; subst hn; exact isI_tup_tuple hp
          · rename_i hn; rcases hn with rfl | rfl | rfl | rfl | rfl
            · exact isI_tup_int hp
            · exact isI_tup_bool hp
            · exact isI_tup_str hp
            · exact isI_tup_list hp
            · exact isI_tup_dict hp
        · split at hb
          · rename_i ys hy
            obtain ⟨a, us, rfl, hp, _⟩ := listOf'_rep w hy rx
            repeat' split at hb
            all_goals cases hb
            · rename_i hn; subst hn; exact isI_lst_list hp
            · rename_i hn; rcases hn with rfl | rfl | rfl | rfl | rfl
              · exact isI_lst_int hp
              · exact isI_lst_bool hp
              · exact isI_lst_str hp
              · exact isI_lst_tuple hp
              · exact isI_lst_dict hp
          · cases hb
      · rename_i c'
        obtain rfl : u = .ref (K.A c') := ru
        split at hb
        · rename_i k p hi
          obtain ⟨r', h1, h2⟩ := Option.map_eq_some_iff.mp hb
          have hm := List.mem_of_find?_eq_some h1
          have hp := List.find?_some h1
          simp only [Bool.and_eq_true, beq_iff_eq] at hp
          obtain ⟨a, dx, us, rfl, hs, _⟩ := insOf_rep w hi rx
          obtain ⟨p1, p2⟩ := hp
          have := ht r' hm W.H a dx (p.1.zip us) (by rw [p1]; exact hs)
          rw [p2, h2] at this
          exact this
        · cases hb
      · cases hb
    · cases e
  · cases e
end PX
namespace PX
open PySem L2
/-! ## what runs come to, for simp -/
section
variable {ρ : PSt} {h h1 : AH} {x y z : PV} {a b c : XE} {ca cb : XT} {aa : XA} {eo : XO} {s u : XS} {i : Nat} {p : P2}
theorem x_ob {α β : Type} {x : α} {h : AH} {f : α → AH → Option β} : ob (some (x, h)) f = f x h := id rfl
theorem x_obN {α β : Type} {f : α → AH → Option β} : ob (none : Option (α × AH)) f = none := id rfl
theorem x_obA {α β γ : Type} {o : Option (α × AH)} {f : α → AH → Option (β × AH)} {g : β → AH → Option γ} : ob (ob o f) g = ob o fun x h => ob (f x h) g := by cases o <;> rfl
theorem x_ite {α β : Type} {q : Prop} [Decidable q] {o o' : Option (α × AH)} {f : α → AH → Option β} : ob (if q then o else o') f = if q then ob o f else ob o' f := by split <;> rfl
theorem x_var0 : xVar 0 (.val x :: ρ) h = some (x, h) := id rfl
theorem x_varS {v : PVar} {n : Nat} : xVar (n + 1) (v :: ρ) h = xVar n ρ h := by simp [xVar]
theorem x_c : xC x ρ h = some (x, h) := id rfl
theorem x_op : xOp p a b ρ h = ob (a ρ h) fun x h1 => ob (b ρ h1) fun y h2 => p x y h2 := id rfl
theorem x_opO {p : P2O} : xOpO p a b ρ h = ob (a ρ h) fun x h1 => ob (b ρ h1) fun y h2 => p x y h2 := id rfl
theorem x_un {p} : xUn p a ρ h = ob (a ρ h) fun x h1 => p x h1 := id rfl
theorem x_oB {k : Bool} : oB (.bl k) h = some (k, h) := id rfl
theorem x_chain {p p' : P2} : xChain p p' a b c ρ h = ob (a ρ h) fun x h1 => ob (b ρ h1) fun y h2 => ob (p x y h2) fun z h3 => ob (oB z h3) fun k h3 => if k = true then ob (c ρ h3) fun w h4 => p' y w h4 else some (.bl false, h3) := id rfl
theorem x_test : xTest a ρ h = ob (a ρ h) oB := id rfl
theorem x_andV : xAndV a b ρ h = ob (a ρ h) fun x h1 => ob (oB x h1) fun k h1 => if k = true then b ρ h1 else some (.bl false, h1) := id rfl
theorem x_orV : xOrV a b ρ h = ob (a ρ h) fun x h1 => ob (oB x h1) fun k h1 => if k = true then some (.bl true, h1) else b ρ h1 := id rfl
theorem x_notV : xNotV a ρ h = ob (a ρ h) fun x h1 => ob (oB x h1) fun k h1 => some (.bl (!k), h1) := id rfl
theorem x_and : xAnd ca cb ρ h = ob (ca ρ h) fun k h1 => if k = true then cb ρ h1 else some (false, h1) := id rfl
theorem x_or : xOr ca cb ρ h = ob (ca ρ h) fun k h1 => if k = true then some (true, h1) else cb ρ h1 := id rfl
theorem x_not : xNot ca ρ h = ob (ca ρ h) fun k h1 => some (!k, h1) := id rfl
theorem x_if : xIf ca a b ρ h = ob (ca ρ h) fun k h1 => if k = true then a ρ h1 else b ρ h1 := id rfl
theorem x_nil : xNil ρ h = some ([], h) := id rfl
theorem x_cons : xCons a aa ρ h = ob (a ρ h) fun x h1 => ob (aa ρ h1) fun xs h2 => some (x :: xs, h2) := id rfl
theorem x_tup : xTup aa ρ h = ob (aa ρ h) fun xs h1 => if xs.length ≤ 1000 then some (.tup xs, h1) else none := id rfl
theorem x_lst : xLst aa ρ h = ob (aa ρ h) fun xs h1 => if xs.length ≤ 1000 then some (.lst xs, h1) else none := id rfl
def fzN : Nd → AH → Option (PV × AH)
  | .lst xs, h => some (.lst xs, h)
  | .ins k ns xs, h => some (.ins k ns xs, h)
  | _, _ => none
theorem x_fz : xFz eo ρ h = ob (eo ρ h) fzN := by
  unfold xFz; congr; funext d h1; cases d <;> rfl
theorem x_fzL {xs : List PV} : fzN (.lst xs) h = some (.lst xs, h) := id rfl
theorem x_fzI {k : Nat} {ns : List Str} {xs : List PV} : fzN (.ins k ns xs) h = some (.ins k ns xs, h) := id rfl
theorem x_loc : xLoc eo ρ h = ob (eo ρ h) fun d h1 => some (.loc h1.length, h1 ++ [d]) := id rfl
theorem x_call {f : Fn} : xCall f aa ρ h = ob (aa ρ h) f := id rfl
theorem x_cb {f} : xCB f aa ρ h = ob (aa ρ h) f := id rfl
theorem x_cbO {f} : xCBO f aa ρ h = ob (aa ρ h) f := id rfl
theorem x_bm {q} {p : PM} : xBM q p a aa ρ h = ob (a ρ h) fun x h1 => if q x h1 = true then ob (aa ρ h1) fun xs h2 => p x xs h2 else none := id rfl
theorem x_isStr {s : Str} : isStr (.str s) h = true := id rfl
theorem x_make {f} : xMake f aa ρ h = ob (aa ρ h) f := id rfl
theorem x_makeO {k : Nat} : xMakeO k ρ h = some (.ins k [] [], h) := id rfl
theorem x_next : xNext ρ h = some (.nx ρ, h) := id rfl
def sqK (u : XS) : Out → AH → Option (Out × AH)
  | .nx ρ, h => u ρ h
  | .rt x, h => some (.rt x, h)
  | .bk ρ, h => some (.bk ρ, h)
  | .ct ρ, h => some (.ct ρ, h)
theorem x_seq : xSeq s u ρ h = ob (s ρ h) (sqK u) := by
  unfold xSeq; congr; funext o h1; cases o <;> rfl
theorem x_sqN : sqK u (.nx ρ) h = u ρ h := id rfl
theorem x_sqR : sqK u (.rt x) h = some (.rt x, h) := id rfl
theorem x_sqB : sqK u (.bk ρ) h = some (.bk ρ, h) := id rfl
theorem x_sqC : sqK u (.ct ρ) h = some (.ct ρ, h) := id rfl
theorem x_break : xBreak ρ h = some (.bk ρ, h) := id rfl
theorem x_cont : xCont ρ h = some (.ct ρ, h) := id rfl
theorem x_drop : xDrop a ρ h = ob (a ρ h) fun _ h1 => some (.nx ρ, h1) := id rfl
theorem x_ret : xRet a ρ h = ob (a ρ h) fun x h1 => some (.rt x, h1) := id rfl
theorem x_retN : xRetN ρ h = some (.rt .non, h) := id rfl
theorem x_ifS : xIfS ca s u ρ h = ob (ca ρ h) fun k h1 => if k = true then s ρ h1 else u ρ h1 := id rfl
theorem x_asg {g : XG} : xAsg a g ρ h = ob (a ρ h) fun x h1 => (g x ρ).bind fun ρ' => some (.nx ρ', h1) := id rfl
theorem x_asgO : xAsgO eo i ρ h = ob (eo ρ h) fun d h1 => some (.nx (ρ.set i (.own d)), h1) := id rfl
theorem x_name : yName i x ρ = some (ρ.set i (.val x)) := id rfl
theorem x_yNil : yNil [] ρ = some ρ := id rfl
theorem x_yCons {g : XG} {r : XGs} {xs : List PV} : yCons g r (x :: xs) ρ = (g x ρ).bind fun ρ' => r xs ρ' := id rfl
theorem x_yTup {n : Nat} {g : XGs} {xs : List PV} : yTup n g (.tup xs) ρ = if xs.length = n then g xs ρ else none := id rfl
theorem x_frz : xFrz i s ρ h = s (frzAt i ρ) h := id rfl
theorem x_fz0 {v : PVar} : frzAt 0 (v :: ρ) = frzV v :: ρ := id rfl
theorem x_fzS {v : PVar} {n : Nat} : frzAt (n + 1) (v :: ρ) = v :: frzAt n ρ := id rfl
theorem x_fvO {xs : List PV} : frzV (.own (.lst xs)) = .val (.lst xs) := id rfl
theorem x_fvV : frzV (.val x) = .val x := id rfl
theorem x_fvN : frzV .no = .no := id rfl
theorem x_for {it : XA} {g : XG} : xFor it g s ρ h = ob (it ρ h) fun xs h1 => forL g s xs ρ h1 := id rfl
def frK (g : XG) (s : XS) (xs : List PV) : Out → AH → Option (Out × AH)
  | .nx ρ, h => forL g s xs ρ h
  | .ct ρ, h => forL g s xs ρ h
  | .bk ρ, h => some (.nx ρ, h)
  | .rt y, h => some (.rt y, h)
theorem x_forC {g : XG} {xs : List PV} : forL g s (x :: xs) ρ h = (g x ρ).bind fun ρ1 => ob (s ρ1 h) (frK g s xs) := by
  unfold forL; congr; funext ρ1; congr; funext o h1; cases o <;> rfl
theorem x_frN {g : XG} {xs : List PV} : frK g s xs (.nx ρ) h = forL g s xs ρ h := id rfl
theorem x_frC {g : XG} {xs : List PV} : frK g s xs (.ct ρ) h = forL g s xs ρ h := id rfl
theorem x_frB {g : XG} {xs : List PV} : frK g s xs (.bk ρ) h = some (.nx ρ, h) := id rfl
theorem x_frR {g : XG} {xs : List PV} : frK g s xs (.rt x) h = some (.rt x, h) := id rfl
def fnK : Out → AH → Option (PV × AH)
  | .rt x, h => some (x, h)
  | .nx _, h => some (.non, h)
  | _, _ => none
theorem run_eq {N : Nat} {xs : List PV} : runF N s xs h = ob (s (xs.map .val ++ List.replicate (N - xs.length) .no) h) fnK := by
  unfold runF; congr; funext o h1; cases o <;> rfl
theorem x_fnR : fnK (.rt x) h = some (x, h) := id rfl
theorem x_fnN : fnK (.nx ρ) h = some (.non, h) := id rfl
def inK : Out → AH → Option (Nd × AH)
  | .nx (.own d :: _), h => some (d, h)
  | _, _ => none
theorem runI_eq {N k : Nat} {xs : List PV} : runI N k s xs h = ob (s (.own (.ins k [] []) :: (xs.map .val ++ List.replicate (N - (xs.length + 1)) .no)) h) inK := by
  unfold runI; congr; funext o h1; cases o with
  | nx ρ => cases ρ with
    | nil => rfl
    | cons v ρ => cases v <;> rfl
  | _ => rfl
theorem x_inK {d : Nd} : inK (.nx (.own d :: ρ)) h = some (d, h) := id rfl
/-- the value of a field -/
def fldV (cs : List Nat) (f : Str) (x : PV) (h : AH) : Option (PV × AH) := match insOf x h with | some (k, ns, xs) => if k ∈ cs ∧ f ∈ ns then (match xs[ns.idxOf f]? with | some y => some (y, h) | none => none) else none | none => none
theorem x_fld {cs : List Nat} {f : Str} : xFld cs f a ρ h = ob (a ρ h) (fldV cs f) := id rfl
theorem fldV_at {cs : List Nat} {f : Str} {k : Nat} {ns : List Str} {xs : List PV} {y : PV} (hk : k ∈ cs) (hf : f ∈ ns) (hy : xs[ns.idxOf f]? = some y) : fldV cs f (.ins k ns xs) h = some (y, h) := by
  unfold fldV insOf
  simp [hk, hf, hy]
def fldK (cs : List Nat) (i : Nat) (f : Str) (ρ : PSt) (x : PV) (h : AH) : Option (Out × AH) := match ρ[i]? with
  | some (.own (.ins k ns xs)) => if k ∈ cs ∧ ns.length < 1000 then some (.nx (ρ.set i (.own (.ins k (putN f x ns xs).1 (putN f x ns xs).2))), h) else none
  | _ => none
theorem x_fldO {cs : List Nat} {f : Str} : xFldO cs i f a ρ h = ob (a ρ h) (fldK cs i f ρ) := id rfl
theorem fldK_0 {cs : List Nat} {f : Str} {k : Nat} {ns : List Str} {xs : List PV} (hk : k ∈ cs) (hl : ns.length < 1000) (hf : f ∉ ns) : fldK cs 0 f (.own (.ins k ns xs) :: ρ) x h = some (.nx (.own (.ins k (ns ++ [f]) (xs ++ [x])) :: ρ), h) := by
  unfold fldK putN
  simp [hk, hl, hf]
def methK (m : Str) (f : Nat → Fn) (x : PV) (h : AH) : Option (PV × AH) := match insOf x h with | some (k, ns, _) => if m ∈ ns then none else f k [x] h | none => none
theorem x_meth {m : Str} {f : Nat → Fn} : xMeth m f a ρ h = ob (a ρ h) (methK m f) := id rfl
theorem methK_at {m : Str} {f : Nat → Fn} {k : Nat} {ns : List Str} {xs : List PV} (hm : m ∉ ns) : methK m f (.ins k ns xs) h = f k [.ins k ns xs] h := by
  unfold methK insOf
  simp [hm]
/-! operators -/
theorem x_i {g : Int → Int → PV} {i j : Int} : oI g (.int i) (.int j) h = some (g i j, h) := id rfl
theorem x_ic {C : Int → Int → Prop} [∀ i j, Decidable (C i j)] {g : Int → Int → PV} {i j : Int} : oIc C g (.int i) (.int j) h = if C i j then some (g i j, h) else none := id rfl
theorem mulOkR {i j : Int} (h1 : -18446744073709551616 < j) (h2 : j < 18446744073709551616) : MulOk i j = True := eq_true (.inr ⟨h1, h2⟩)
theorem mulOkL {i j : Int} (h1 : -18446744073709551616 < i) (h2 : i < 18446744073709551616) : MulOk i j = True := eq_true (.inl ⟨h1, h2⟩)
theorem powOk {i j : Int} (h1 : 0 ≤ i) (h2 : i < 18446744073709551616) (h3 : 0 ≤ j) (h4 : j ≤ 1000000) : PowOk i j = True := eq_true ⟨⟨h1, h2⟩, h3, h4⟩
theorem x_neg {i : Int} : oNeg (.int i) h = some (.int (-i), h) := id rfl
theorem x_eqI {i j : Int} : oEq (.int i) (.int j) h = some (.bl (decide (i = j)), h) := by simp [oEq, sv, scal]
theorem x_eqS {i j : Str} : oEq (.str i) (.str j) h = some (.bl (decide (i = j)), h) := by simp [oEq, sv, scal]
theorem x_eqB {i j : Bool} : oEq (.bl i) (.bl j) h = some (.bl (decide (i = j)), h) := by simp [oEq, sv, scal]
theorem x_neI {i j : Int} : oNe (.int i) (.int j) h = some (.bl (!decide (i = j)), h) := by simp [oNe, sv, scal]
theorem x_neS {i j : Str} : oNe (.str i) (.str j) h = some (.bl (!decide (i = j)), h) := by simp [oNe, sv, scal]
theorem x_isN : oIsN x .non h = some (.bl (isN x), h) := id rfl
theorem x_notN : oNotN x .non h = some (.bl (!isN x), h) := id rfl
theorem x_addS {i j : Str} : oAddS (.str i) (.str j) h = if i.length + j.length ≤ 100000 then some (.str (i ++ j), h) else none := id rfl
theorem x_in1 {c : Nat} {j : Str} : oIn1 (.str ⟨#[c]⟩) (.str j) h = some (.bl (decide (c ∈ j.cps.toList)), h) := id rfl
theorem x_ixL {xs : List PV} {i : Int} : oIxL (.lst xs) (.int i) h = (atI xs i).bind fun v => some (v, h) := by
  simp only [oIxL]; cases atI xs i <;> rfl
theorem x_ixR {xs : List Int} {i : Int} : oIxL (.scr xs) (.int i) h = (atI xs i).bind fun v => some (.int v, h) := by
  simp only [oIxL]; cases atI xs i <;> rfl
theorem x_ixT {xs : List PV} {i : Int} : oIxT (.tup xs) (.int i) h = (atI xs i).bind fun v => some (v, h) := by
  simp only [oIxT]; cases atI xs i <;> rfl
theorem x_ixS {s : Str} {i : Int} : oIxS (.str s) (.int i) h = (atI s.cps.toList i).bind fun c => if s.length ≤ 100000 then some (sgn c, h) else none := by
  simp only [oIxS]; cases atI s.cps.toList i <;> rfl
theorem x_slL {xs : List PV} {lo hi : Option Int} : oSlL (.lst xs) lo hi h = some (.lst (cutP xs lo hi), h) := id rfl
theorem x_slR {xs : List Int} {lo hi : Option Int} : oSlL (.scr xs) lo hi h = some (.lst (cutP (xs.map .int) lo hi), h) := id rfl
theorem x_cat {xs ys : List PV} : oCat (.lst xs) (.lst ys) h = if xs.length + ys.length ≤ 100000 then some (.lst (xs ++ ys), h) else none := id rfl
theorem x_rep {xs : List PV} {k : Int} : oRep (.lst xs) (.int k) h = if -1000000 ≤ k ∧ k ≤ 100000 ∧ xs.length * k.toNat ≤ 100000 then some (.lst (repL k.toNat xs), h) else none := id rfl
theorem x_sl {p} {lo hi} : xSl p a lo hi ρ h = ob (a ρ h) fun x h1 => ob (lo ρ h1) fun l h2 => ob (hi ρ h2) fun u h3 => p x l u h3 := id rfl
theorem x_slO {p} {lo hi} : xSlO p a lo hi ρ h = ob (a ρ h) fun x h1 => ob (lo ρ h1) fun l h2 => ob (hi ρ h2) fun u h3 => p x l u h3 := id rfl
theorem x_part : xPart a ρ h = ob (a ρ h) fun x h1 => match x with | .int i => some (some i, h1) | _ => none := id rfl
theorem x_nopart : xNoPart ρ h = some (none, h) := id rfl
theorem x_lenL {xs : List PV} : bLenL [.lst xs] h = some (.int xs.length, h) := id rfl
theorem x_lenT {xs : List PV} : bLenL [.tup xs] h = some (.int xs.length, h) := id rfl
theorem x_lenR {xs : List Int} : bLenL [.scr xs] h = some (.int xs.length, h) := id rfl
theorem x_lenS {z : Str} : bLenS [.str z] h = if z.length ≤ 100000 then some (.int z.length, h) else none := id rfl
theorem x_int1i {k : Int} : bInt1 [.int k] h = some (.int k, h) := id rfl
theorem x_int1b {k : Bool} : bInt1 [.bl k] h = some (.int (if k then 1 else 0), h) := id rfl
theorem x_strI {k : Int} : bStrI [.int k] h = if k.natAbs.log2 < 1920 then some (.str (toString k : String), h) else none := id rfl
theorem x_listL {xs : List PV} : bListOf [.lst xs] h = some (.lst xs, h) := id rfl
theorem x_listT {xs : List PV} : bListOf [.tup xs] h = some (.lst xs, h) := id rfl
theorem x_iL {xs : List PV} (e : a ρ h = some (.lst xs, h1)) : xIL a ρ h = some (xs, h1) := by unfold xIL; rw [e]; rfl
theorem x_comp {it : XA} {ix : List Nat} : xComp it ix a ρ h = ob (it ρ h) fun xs h1 => if xs.length ≤ 100000 then ob (cmpL a (innP ix ρ) xs h1) fun ys h2 => some (.lst ys, h2) else none := id rfl
end
end PX
namespace L2
open PySem PySem.Spec PyProof.Rows
end L2
namespace L2
open PySem PySem.Spec PyProof.Rows
section
variable (P : Program) (w : World)
end
section
variable {P : Program} {w : World} {H H' : Hp} {h h' : Heap} {a : Addr} {o : HO}
end
section
variable {P : Program} {w : World} {H : Hp} {h h' : Heap} {x e : Addr} {o' : HO}
end
section
variable {fs fs' ex ex' : List Addr} {H H1 H2 : Hp} {h h1 h2 h' : Heap} {a x e : Addr} {o : HO}
end
end L2
namespace L2
open PySem PySem.Spec PyProof.Rows
section
variable {X : Cx} {pins : List (Addr × Obj)} {σ : List (Option V)} {H H' : Hp} {s : Shared} {h' : Heap}
end
end L2
namespace L2
open PySem PySem.Spec PyProof.Rows
section
variable {X : Cx}
variable {a b : Expr} {ta tb : TE} {pos : Pos}
variable {tA tB' : TT} {rest : List Expr}
end
end L2
namespace L2
open PySem PySem.Spec PyProof.Rows
section
variable {X : Cx} {pins : List (Addr × Obj)} {σ : St} {H : Hp} {s : Shared} {a : Addr} {xs ys : List V}
end
section
variable {X : Cx} {pins : List (Addr × Obj)} {σ : St} {H : Hp} {s : Shared} {E : Value → Shared → Prop}
end
section
variable {X : Cx} {st : Stmt} {rest : List Stmt} {t u : TS} {e : Expr} {te : TE} {pos : Pos}
end
section
variable {X : Cx} {pos : Pos}
end
section
variable {X : Cx} {pos : Pos}
end
end L2
namespace L2
open PySem PySem.Spec PyProof.Rows
section
variable {X : Cx} {tg : Expr}
end
end L2
namespace L2
open PySem PySem.Spec PyProof.Rows
section
variable {X : Cx} {a b c : Expr} {ta tb tc : TE} {pos : Pos}
end
section
variable {X : Cx} {a b c : Expr} {ta tb tc : TE} {pos : Pos}
end
end L2
namespace L2
open PySem PySem.Spec PyProof.Rows
section
variable {prog : Program} {w : World} {A : Around} {E : Value → Shared → Prop} {s : Shared} {K : PySem.W.Frag} {x dx C f : Addr} {mA : Str → Option Value} {name : Str} {v : Value}
end
section
variable {P : Program} {w : World} {H H' : Hp} {h h' : Heap} {a C dx : Addr} {fs fs' : List (Str × V)}
end
section
variable {X : Cx} {pins : List (Addr × Obj)} {σ : St} {H : Hp} {s : Shared} {a C dx : Addr} {fs : List (Str × V)} {f : Str} {v : V} {A : Around} {E : Value → Shared → Prop}
end
section
variable {X : Cx} {o e value : Expr} {f : Str} {pos pos' tpos : Pos} {ta tv : TE}
end
section
variable {X : Cx} {pins : List (Addr × Obj)} {σ : St} {H : Hp} {s : Shared} {A : Around} {E : Value → Shared → Prop} {Q : Value → Shared → Prop} {c : Value} {b : Bool}
end
end L2
namespace L2
open PySem PySem.Spec PyProof.Rows
section
variable {X : Cx} {e : Expr} {es : List Expr} {te : TE} {t : TA} {pos : Pos}
end
section
variable {X : Cx} {pins : List (Addr × Obj)} {σ : St} {H : Hp} {s s' : Shared}
end
section
variable {X : Cx} {CX : CXT} {k : Nat} {f C : Addr} {fd : FuncData} {ps : List Str} {sp : Sp} {dvs : List V} {ds : List Value} {E : XK} {x m : Str} {p pos apos : Pos} {e o : Expr} {es : List Expr} {ta : TE} {t : TA}
end
section
variable {X : Cx} {CX : CXT} {k : Nat} {f C : Addr} {fd : FuncData} {ps ks : List Str} {sp : Sp} {E : XK} {x m : Str} {p pos apos kpos : Pos} {e o : Expr} {es : List Expr} {kws : List Keyword} {te ta : TE} {t tk : TA} {nm : Option Str}
variable {g : List Value → List Value → List Value} {gV : List V → List V → List V}
end
end L2
namespace L2
open PySem PySem.Spec PyProof.Rows
section
variable {X : Cx} {x : Str} {p pos : Pos} {e : Expr} {es : List Expr} {t : TA} {id T : String} {r : List V → Hp → VK → Prop}
end
end L2
namespace L2
open PySem PySem.Spec PyProof.Rows
section
variable {κ : Type} [DecidableEq κ]
def valV (kvs : List (κ × V)) (k : κ) : Option V := (kvs.find? fun kv => decide (kv.1 = k)).map (·.2)
def putK (kvs : List (κ × V)) (k : κ) (v : V) : List (κ × V) :=
  if (kvs.any fun kv => decide (kv.1 = k)) = true then kvs.map (fun kv => if kv.1 = k then (kv.1, v) else kv) else kvs ++ [(k, v)]
def dropK (kvs : List (κ × V)) (k : κ) : List (κ × V) := kvs.filter fun kv => decide (kv.1 ≠ k)
theorem valV_pos {p : κ × V} {r : List (κ × V)} {k : κ} (e : p.1 = k) : valV (p :: r) k = some p.2 := by simp [valV, List.find?_cons, e]
theorem valV_neg {p : κ × V} {r : List (κ × V)} {k : κ} (e : ¬ p.1 = k) : valV (p :: r) k = valV r k := by simp [valV, List.find?_cons, e]
theorem valV_any (k : κ) : ∀ kvs : List (κ × V), (kvs.any fun kv => decide (kv.1 = k)) = (valV kvs k).isSome
  | [] => rfl
  | p :: r => by
    rw [List.any_cons]
    by_cases e : p.1 = k
    · simp only [valV_pos e, decide_eq_true e, Bool.true_or, Option.isSome_some]
    · rw [valV_neg e, decide_eq_false e, Bool.false_or]; exact valV_any k r
theorem RelO.isSome_eq {o : Option V} {u : Option Value} (r : RelO o u) : o.isSome = u.isSome := by
  cases o with
  | none => cases u with
    | none => rfl
    | some _ => exact (show False from r).elim
  | some _ => cases u with
    | none => exact (show False from r).elim
    | some _ => rfl
theorem RelO.getD {o : Option V} {u : Option Value} {d : V} {d' : Value} (r : RelO o u) (rd : RelV d d') : RelV (o.getD d) (u.getD d') := by
  cases o with
  | none => cases u with
    | none => exact rd
    | some _ => exact (show False from r).elim
  | some _ => cases u with
    | none => exact (show False from r).elim
    | some _ => exact r
theorem KV.val {kvs : List (κ × V)} {vs : List (κ × Value)} (r : KV kvs vs) (k : κ) : RelO (valV kvs k) (valueAt vs k) := by
  unfold KV at r
  induction r with
  | nil => exact True.intro
  | @cons p q ps qs h t ih =>
    obtain ⟨h1, h2⟩ := h
    by_cases e : p.1 = k
    · have e' : q.1 = k := h1.symm.trans e
      have b : valueAt (q :: qs) k = some q.2 := by simp [valueAt, List.find?_cons, e']
      rw [valV_pos e, b]; exact h2
    · have e' : ¬ q.1 = k := fun z => e (h1.trans z)
      have b : valueAt (q :: qs) k = valueAt qs k := by simp [valueAt, List.find?_cons, e']
      rw [valV_neg e, b]; exact ih
theorem KV.any {kvs : List (κ × V)} {vs : List (κ × Value)} (r : KV kvs vs) (k : κ) : (kvs.any fun kv => decide (kv.1 = k)) = vs.any fun kv => decide (kv.1 = k) := by
  unfold KV at r
  induction r with
  | nil => rfl
  | cons h t ih => rw [List.any_cons, List.any_cons, ih, h.1]
theorem KV.repl {kvs : List (κ × V)} {vs : List (κ × Value)} (r : KV kvs vs) (k : κ) {y : V} {u : Value} (ry : RelV y u) :
    KV (kvs.map fun kv => if kv.1 = k then (kv.1, y) else kv) (vs.map fun kv => if kv.1 = k then (kv.1, u) else kv) := by
  unfold KV at r ⊢
  induction r with
  | nil => exact .nil
  | @cons p q ps qs h t ih =>
    rw [List.map_cons, List.map_cons]
    refine .cons ?_ ih
    obtain ⟨h1, h2⟩ := h
    by_cases e : p.1 = k
    · rw [if_pos e, if_pos (h1.symm.trans e)]; exact ⟨h1, ry⟩
    · rw [if_neg e, if_neg (fun z => e (h1.trans z))]; exact ⟨h1, h2⟩
theorem KV.put {kvs : List (κ × V)} {vs : List (κ × Value)} (r : KV kvs vs) (k : κ) {y : V} {u : Value} (ry : RelV y u) : KV (putK kvs k y) (stored vs k u) := by
  unfold putK stored
  rw [r.any k]
  by_cases e : (vs.any fun kv => decide (kv.1 = k)) = true
  · rw [if_pos e, if_pos e]; exact r.repl k ry
  · rw [if_neg e, if_neg e]; exact Paired.snoc r ⟨rfl, ry⟩
theorem KV.drop {kvs : List (κ × V)} {vs : List (κ × Value)} (r : KV kvs vs) (k : κ) : KV (dropK kvs k) (without vs k) := by
  unfold KV at r ⊢
  unfold dropK without
  induction r with
  | nil => exact .nil
  | @cons p q ps qs h t ih =>
    obtain ⟨h1, h2⟩ := h
    rw [List.filter_cons, List.filter_cons]
    by_cases e : p.1 = k
    · have a : ¬ decide (p.1 ≠ k) = true := by simp [e]
      have b : ¬ decide (q.1 ≠ k) = true := by simp [h1.symm.trans e]
      rw [if_neg a, if_neg b]; exact ih
    · have e' : ¬ q.1 = k := fun z => e (h1.trans z)
      have a : decide (p.1 ≠ k) = true := by simp [e]
      have b : decide (q.1 ≠ k) = true := by simp [e']
      rw [if_pos a, if_pos b]; exact .cons ⟨h1, h2⟩ ih
theorem KV.keys {kvs : List (κ × V)} {vs : List (κ × Value)} (r : KV kvs vs) : kvs.map (·.1) = vs.map (·.1) := by
  unfold KV at r
  induction r with
  | nil => rfl
  | cons h t ih => rw [List.map_cons, List.map_cons, ih, h.1]
theorem KV.length {kvs : List (κ × V)} {vs : List (κ × Value)} (r : KV kvs vs) : kvs.length = vs.length := Paired.length r
end
abbrev KT (H : Hp) : List (List Key × V) → List (List Key × Addr × Value) → Prop := Paired fun p q => p.1 = q.1 ∧ H q.2.1 = some (.tup (p.1.map kV)) ∧ RelV p.2 q.2.2
theorem KT.val {H : Hp} {kvs : List (List Key × V)} {xs : List (List Key × Addr × Value)} (r : KT H kvs xs) (k : List Key) : RelO (valV kvs k) ((atKey xs k).map (·.2)) := by
  induction r with
  | nil => exact True.intro
  | @cons p q ps qs h t ih =>
    obtain ⟨h1, _, h2⟩ := h
    by_cases e : p.1 = k
    · have e' : q.1 = k := h1.symm.trans e
      have b : atKey (q :: qs) k = some q.2 := by simp [atKey, List.find?_cons, e']
      rw [valV_pos e, b]; exact h2
    · have e' : ¬ q.1 = k := fun z => e (h1.trans z)
      have b : atKey (q :: qs) k = atKey qs k := by simp [atKey, List.find?_cons, e']
      rw [valV_neg e, b]; exact ih
theorem KT.repl {H : Hp} {kvs : List (List Key × V)} {xs : List (List Key × Addr × Value)} (r : KT H kvs xs) (k : List Key) {y : V} {u : Value} (ry : RelV y u) :
    KT H (kvs.map fun kv => if kv.1 = k then (kv.1, y) else kv) (xs.map (putAt k u)) := by
  induction r with
  | nil => exact .nil
  | @cons p q ps qs h t ih =>
    rw [List.map_cons, List.map_cons]
    refine .cons ?_ ih
    obtain ⟨h1, h2, h3⟩ := h
    unfold putAt
    by_cases e : p.1 = k
    · rw [if_pos e, if_pos (h1.symm.trans e)]; exact ⟨h1, h2, ry⟩
    · rw [if_neg e, if_neg (fun z => e (h1.trans z))]; exact ⟨h1, h2, h3⟩
theorem KT.put {H : Hp} {kvs : List (List Key × V)} {xs : List (List Key × Addr × Value)} (r : KT H kvs xs) (k : List Key) {b : Addr} {y : V} {u : Value} (hb : H b = some (.tup (k.map kV))) (ry : RelV y u) :
    KT H (putK kvs k y) (storedH xs k b u) := by
  have e : (kvs.any fun kv => decide (kv.1 = k)) = (atKey xs k).isSome := by
    rw [valV_any, (r.val k).isSome_eq, Option.isSome_map]
  unfold putK storedH
  rw [e]
  by_cases q : (atKey xs k).isSome = true
  · rw [if_pos q, if_pos q]; exact r.repl k ry
  · rw [if_neg q, if_neg q]; exact Paired.snoc r ⟨rfl, hb, ry⟩
theorem KT.keeps {H H' : Hp} {kvs : List (List Key × V)} {xs : List (List Key × Addr × Value)} (r : KT H kvs xs) (ht : ∀ b ys, H b = some (.tup ys) → H' b = some (.tup ys)) : KT H' kvs xs :=
  Paired.mapP r fun _ _ z => ⟨z.1, ht _ _ z.2.1, z.2.2⟩
section
variable {P : Program} {w : World} {H : Hp} {h : Heap} {a : Addr}
end
def DGet (H : Hp) (a : Addr) (y : V) (r : Option V) : Prop :=
  (∃ kvs k, Rd H a (.dK kvs) ∧ y = kV k ∧ r = valV kvs k) ∨ ∃ kvs k b, Rd H a (.dT kvs) ∧ y = .ref b ∧ H b = some (.tup (k.map kV)) ∧ r = valV kvs k
def DPut (H : Hp) (a : Addr) (y v : V) (H' : Hp) : Prop :=
  (∃ kvs k, H a = some (.dK kvs) ∧ y = kV k ∧ kvs.length < sizeLine ∧ H' = upd H a (.dK (putK kvs k v))) ∨
  ∃ kvs k b, H a = some (.dT kvs) ∧ y = .ref b ∧ H b = some (.tup (k.map kV)) ∧ kvs.length < sizeLine ∧ H' = upd H a (.dT (putK kvs k v))
theorem DGet.k {H : Hp} {a : Addr} {kvs : List (Key × V)} {k : Key} (e : H a = some (.dK kvs)) : DGet H a (kV k) (valV kvs k) := .inl ⟨kvs, k, .inl e, rfl, rfl⟩
theorem DGet.t {H : Hp} {a b : Addr} {kvs : List (List Key × V)} {k : List Key} (e : H a = some (.dT kvs)) (eb : H b = some (.tup (k.map kV))) : DGet H a (.ref b) (valV kvs k) := .inr ⟨kvs, k, b, .inl e, rfl, eb, rfl⟩
theorem DPut.k {H : Hp} {a : Addr} {kvs : List (Key × V)} {k : Key} {v : V} (e : H a = some (.dK kvs)) (hl : kvs.length < sizeLine) : DPut H a (kV k) v (upd H a (.dK (putK kvs k v))) := .inl ⟨kvs, k, e, rfl, hl, rfl⟩
theorem DPut.t {H : Hp} {a b : Addr} {kvs : List (List Key × V)} {k : List Key} {v : V} (e : H a = some (.dT kvs)) (eb : H b = some (.tup (k.map kV))) (hl : kvs.length < sizeLine) :
    DPut H a (.ref b) v (upd H a (.dT (putK kvs k v))) := .inr ⟨kvs, k, b, e, rfl, eb, hl, rfl⟩
section
variable {X : Cx} {pins : List (Addr × Obj)} {σ : St} {H : Hp} {s : Shared} {a : Addr} {y v : V} {u r : Value} {o : Option V} {A : Around} {E : Value → Shared → Prop}
theorem Inv.big (I : Inv X pins σ H s) : sysModules < s.heap.objs.size := by
  have h : mainGlobals < s.heap.objs.size := (I.mod.glob.keeps I.bk).lt
  exact Nat.lt_trans (by decide) h
end
section
variable {X : Cx} {pins : List (Addr × Obj)} {σ : St} {H : Hp} {s : Shared} {a : Addr} {kvs : List (Key × V)} {k : Key} {u : Value} {A : Around} {E : Value → Shared → Prop}
end
section
variable {X : Cx} {o i e value : Expr} {pos pos' tpos : Pos} {td ty tv : TE}
end
section
variable {X : Cx} {pos : Pos}
end
section
variable {X : Cx} {pins : List (Addr × Obj)} {σ : St} {H : Hp} {s : Shared} {a : Addr} {y d : V} {u r : Value} {o : Option V} {A : Around} {E : Value → Shared → Prop}
end
section
variable {X : Cx} {o e f : Expr} {apos cpos : Pos} {td ty tx : TE}
end
section
variable {X : Cx} {pins : List (Addr × Obj)} {σ : St} {H : Hp} {s : Shared} {a : Addr} {kvs : List (Key × V)} {A : Around} {E : Value → Shared → Prop}
end
section
variable {X : Cx} {pins : List (Addr × Obj)} {σ : St} {H : Hp} {s : Shared} {a : Addr} {y : V} {u : Value} {A : Around} {E : Value → Shared → Prop}
end
end L2
namespace Att
open PySem PySem.W PySem.Calls PyProof.Rows
section
variable {prog : Program} {w : World} {A : Around} {E : Value → Shared → Prop} {s : Shared} {K : Frag}
end
end Att
namespace L2
open PySem PySem.Spec PyProof.Rows
end L2
namespace L2
open PySem PySem.Spec PyProof.Rows
end L2
namespace L2
open PySem PySem.Spec PyProof.Rows
section
variable {P : Program} {w : World} {K : PySem.W.Frag} {mg : Str → Option Value} {base : Heap}
end
section
variable {X : Cx}
end
section
variable {κ : Type} [DecidableEq κ]
end
end L2
namespace PX
open PySem L2
variable {K : Ck}
/-! ## changeable things -/
/-! ## dicts -/
end PX
namespace PX
open PySem L2
variable {K : Ck}
/-! ## more -/
/-- of lists and tuples: the items -/
def itemsOf (x : PV) (h : AH) : Option (List PV) := match x with | .tup xs => some xs | _ => listOf x h
theorem itemsOf_rep {W : Wd} (w : WOk K W) {x : PV} {v : V} {xs : List PV} (e : itemsOf x W.h = some xs) (r : RepW K W x v) : ∃ a vs, v = .ref a ∧ (SqL K.K W.H a vs ∨ SqT K.K W.H a vs) ∧ RepLW K W xs vs := by
  unfold itemsOf at e
  split at e
  · cases e
    obtain ⟨a, vs, ev, hs, rs⟩ := r
    exact ⟨a, vs, ev, .inr (seqT_up w hs), rs⟩
  · obtain ⟨a, vs, ev, hs, rs⟩ := listOf_rep w e r
    exact ⟨a, vs, ev, .inl hs, rs⟩
def svs : List PV → Option (List V)
  | [] => some []
  | x :: xs => match sv x, svs xs with | some v, some vs => some (v :: vs) | _, _ => none
theorem svs_rep {F : Hp} {m : List Addr} : ∀ {xs : List PV} {us vs : List V}, svs xs = some us → RepL K F m xs vs → vs = us ∧ us.all flatV = true
  | [], _, _, e, r => by cases e; exact ⟨r, rfl⟩
  | x :: xs, us, _, e, ⟨v, r, ev, h, l⟩ => by
    unfold svs at e
    split at e
    · rename_i u us' e1 e2
      cases e
      obtain ⟨h1, h2⟩ := svs_rep e2 l
      have hv : v = u := by cases x <;> cases e1 <;> exact h
      have hf : flatV u = true := by cases x <;> cases e1 <;> rfl
      exact ⟨by rw [ev, hv, h1], by rw [List.all_cons, hf, h2]; rfl⟩
    · cases e
theorem sv_flat {x : PV} {u : V} (e : sv x = some u) : flatV u = true := by cases x <;> cases e <;> rfl
/-- x in xs, plain values -/
def oInL (neg : Bool) : P2 := fun x y h => match sv x, itemsOf y h with | some v, some ys => (match svs ys with | some us => some (.bl (if neg then !inV v us else inV v us), h) | none => none) | _, _ => none
theorem o_inL {neg : Bool} : OpSnd K (rIn K.K neg) (oInL neg) := by
  intro W x y v u Q z h' w rx ry e q
  unfold oInL at e
  split at e
  · rename_i v' ys ev ey
    split at e
    · rename_i us hu
      cases e
      obtain rfl := sv_rep ev rx
      obtain ⟨a, vs, rfl, hs, rs⟩ := itemsOf_rep w ey ry
      obtain ⟨rfl, hf⟩ := svs_rep hu rs
      exact ⟨a, vs, rfl, hs, sv_flat ev, hf, q _ W rfl (.refl w) rfl⟩
    · cases e
  · cases e
def rMax2 : List V → Hp → VK → Prop := fun xs H Q => ∃ i j, xs = [.int i, .int j] ∧ Q (.int (if j > i then j else i)) H
def bMax2 : List PV → AH → Option (PV × AH) := fun xs h => match xs with | [.int i, .int j] => some (.int (if j > i then j else i), h) | _ => none
theorem b_max2 : CbSnd K rMax2 bMax2 := by
  intro W xs vs Q z h' w r e q
  unfold bMax2 at e
  split at e
  · rename_i i j
    cases e
    obtain ⟨v, u, rfl, rv, ru⟩ := rep2 r
    exact ⟨i, j, by rw [show v = _ from rv, show u = _ from ru], q _ W rfl (.refl w) rfl⟩
  · cases e
end PX
namespace PX
open PySem L2
/-! ## loops run: rules for pure proofs -/
theorem dec_T [i : Decidable True] : decide True = true := by simp
theorem dec_F [i : Decidable False] : decide False = false := by simp
theorem ff_eq : (false = true) = False := by simp
theorem tf_eq : (true = false) = False := by simp
theorem le_refl_nat {n : Nat} : (n ≤ n) = True := eq_true (Nat.le_refl n)
theorem forL_inv {g : XG} {s : XS} {xs : List PV} (I : Nat → PSt → AH → Prop) (R : PV → AH → Prop) {ρ : PSt} {h : AH} (h0 : I 0 ρ h)
    (step : ∀ (i : Nat) (x : PV) (ρ : PSt) (h : AH), xs[i]? = some x → I i ρ h → ∃ ρ1 o h', g x ρ = some ρ1 ∧ s ρ1 h = some (o, h') ∧ (match o with | .nx ρ' => I (i + 1) ρ' h' | .ct ρ' => I (i + 1) ρ' h' | .bk _ => False | .rt y => R y h')) :
    (∃ ρ' h', forL g s xs ρ h = some (.nx ρ', h') ∧ I xs.length ρ' h') ∨ ∃ y h', forL g s xs ρ h = some (.rt y, h') ∧ R y h' := by
  have key : ∀ (n i : Nat) (ρ : PSt) (h : AH), i + n = xs.length → I i ρ h → (∃ ρ' h', forL g s (xs.drop i) ρ h = some (.nx ρ', h') ∧ I xs.length ρ' h') ∨ ∃ y h', forL g s (xs.drop i) ρ h = some (.rt y, h') ∧ R y h' := by
    intro n
    induction n with
    | zero =>
      intro i ρ h hi hI
      have : i = xs.length := by omega
      subst this
      rw [List.drop_length]
      exact .inl ⟨ρ, h, rfl, hI⟩
    | succ n ih =>
      intro i ρ h hi hI
      have hlt : i < xs.length := by omega
      obtain ⟨ρ1, o, h', e1, e2, e3⟩ := step i xs[i] ρ h (List.getElem?_eq_getElem hlt) hI
      rw [List.drop_eq_getElem_cons hlt, x_forC, e1, Option.bind_some, e2, x_ob]
      cases o with
      | nx ρ' => exact ih (i + 1) ρ' h' (by omega) e3
      | ct ρ' => exact ih (i + 1) ρ' h' (by omega) e3
      | bk ρ' => exact e3.elim
      | rt y => exact .inr ⟨y, h', rfl, e3⟩
  simpa using key xs.length 0 ρ h (by omega) h0
/-- no way out but the end -/
theorem forL_nx {g : XG} {s : XS} {xs : List PV} (I : Nat → PSt → AH → Prop) {ρ : PSt} {h : AH} (h0 : I 0 ρ h)
    (step : ∀ (i : Nat) (x : PV) (ρ : PSt) (h : AH), xs[i]? = some x → I i ρ h → ∃ ρ1 ρ' h', g x ρ = some ρ1 ∧ (s ρ1 h = some (.nx ρ', h') ∨ s ρ1 h = some (.ct ρ', h')) ∧ I (i + 1) ρ' h') :
    ∃ ρ' h', forL g s xs ρ h = some (.nx ρ', h') ∧ I xs.length ρ' h' := by
  rcases forL_inv I (fun _ _ => False) h0 (fun i x ρ h hx hI => by
    obtain ⟨ρ1, ρ', h', e1, e2, e3⟩ := step i x ρ h hx hI
    rcases e2 with e2 | e2
    · exact ⟨ρ1, .nx ρ', h', e1, e2, e3⟩
    · exact ⟨ρ1, .ct ρ', h', e1, e2, e3⟩) with q | ⟨_, _, _, q⟩
  · exact q
  · exact q.elim
theorem forL_then {β : Type} {g : XG} {s : XS} {xs : List PV} (I : Nat → PSt → AH → Prop) {ρ : PSt} {h : AH} {f : Out → AH → Option β} {r : Option β} (h0 : I 0 ρ h)
    (step : ∀ (i : Nat) (x : PV) (ρ : PSt) (h : AH), xs[i]? = some x → I i ρ h → ∃ ρ1 ρ' h', g x ρ = some ρ1 ∧ (s ρ1 h = some (.nx ρ', h') ∨ s ρ1 h = some (.ct ρ', h')) ∧ I (i + 1) ρ' h')
    (fin : ∀ ρ' h', I xs.length ρ' h' → f (.nx ρ') h' = r) : ob (forL g s xs ρ h) f = r := by
  obtain ⟨ρ', h', e, hI⟩ := forL_nx I h0 step
  rw [e]
  exact fin ρ' h' hI
/-- .. or a way out by return -/
theorem forL_or {β : Type} {g : XG} {s : XS} {xs : List PV} (I : Nat → PSt → AH → Prop) (R : PV → AH → Prop) {ρ : PSt} {h : AH} {f : Out → AH → Option β} {P : Option β → Prop} (h0 : I 0 ρ h)
    (step : ∀ (i : Nat) (x : PV) (ρ : PSt) (h : AH), xs[i]? = some x → I i ρ h → ∃ ρ1 o h', g x ρ = some ρ1 ∧ s ρ1 h = some (o, h') ∧ (match o with | .nx ρ' => I (i + 1) ρ' h' | .ct ρ' => I (i + 1) ρ' h' | .bk _ => False | .rt y => R y h'))
    (fin : ∀ ρ' h', I xs.length ρ' h' → P (f (.nx ρ') h')) (out : ∀ y h', R y h' → P (f (.rt y) h')) : P (ob (forL g s xs ρ h) f) := by
  rcases forL_inv I R h0 step with ⟨ρ', h', e, hI⟩ | ⟨y, h', e, hR⟩
  · rw [e]; exact fin ρ' h' hI
  · rw [e]; exact out y h' hR
theorem whl_succ {c : XT} {s : XS} {n : Nat} {ρ : PSt} {h : AH} : whl c s (n + 1) ρ h = ob (c ρ h) fun k h1 => if k = true then ob (s ρ h1) fun o h2 => (match o with | .nx ρ' => whl c s n ρ' h2 | .ct ρ' => whl c s n ρ' h2 | .bk ρ' => some (.nx ρ', h2) | .rt y => some (.rt y, h2)) else some (.nx ρ, h1) := rfl
theorem rng_len (lo : Int) (n : Nat) : (rngV lo n).length = n := by simp [rngV]
theorem rng_get {lo : Int} {n i : Nat} {x : PV} (h : (rngV lo n)[i]? = some x) : i < n ∧ x = .int (lo + i) := by
  have hl := (List.getElem?_eq_some_iff.mp h).1
  rw [rng_len] at hl
  refine ⟨hl, ?_⟩
  simp [rngV, hl] at h
  exact h.symm
theorem x_iR1i {a : XA} {ρ : PSt} {h h1 : AH} {j : Int} (e : a ρ h = some ([.int j], h1)) (h0 : -1000000000 ≤ j) (h2 : j ≤ 1000000000) : xIR1 a ρ h = some (rngV 0 j.toNat, h1) := by
  unfold xIR1
  rw [e, x_ob]
  show (if _ then _ else _) = _
  rw [if_pos ⟨h0, h2⟩]
theorem x_appO {i : Nat} {e : XE} {ρ : PSt} {h : AH} {xs : List PV} (hx : ρ[i]? = some (.own (.lst xs))) : xAppO i e ρ h = ob (e ρ h) fun x h1 => if xs.length < 100000 then some (.nx (ρ.set i (.own (.lst (xs ++ [x])))), h1) else none := by
  unfold xAppO
  rw [hx]
theorem at_0 {α : Type} {a0 : α} {xs : List α} : atI (a0 :: xs) 0 = some a0 := atI_nat (j := 0) rfl
theorem at_1 {α : Type} {a0 a1 : α} {xs : List α} : atI (a0 :: a1 :: xs) 1 = some a1 := atI_nat (j := 1) rfl
theorem at_2 {α : Type} {a0 a1 a2 : α} {xs : List α} : atI (a0 :: a1 :: a2 :: xs) 2 = some a2 := atI_nat (j := 2) rfl
theorem at_3 {α : Type} {a0 a1 a2 a3 : α} {xs : List α} : atI (a0 :: a1 :: a2 :: a3 :: xs) 3 = some a3 := atI_nat (j := 3) rfl
theorem at_4 {α : Type} {a0 a1 a2 a3 a4 : α} {xs : List α} : atI (a0 :: a1 :: a2 :: a3 :: a4 :: xs) 4 = some a4 := atI_nat (j := 4) rfl
theorem at_5 {α : Type} {a0 a1 a2 a3 a4 a5 : α} {xs : List α} : atI (a0 :: a1 :: a2 :: a3 :: a4 :: a5 :: xs) 5 = some a5 := atI_nat (j := 5) rfl
end PX
namespace PX
open PySem L2
variable {K : Ck}
/-! an index of a list or a tuple -/
def oIxA : P2 := fun x y h => match x with | .tup xs => oIxT (.tup xs) y h | x => oIxL x y h
theorem x_ixA_t {xs : List PV} {i : Int} {h : AH} : oIxA (.tup xs) (.int i) h = (atI xs i).bind fun v => some (v, h) := id (by simp only [oIxA, oIxT]; cases atI xs i <;> rfl)
theorem x_ixA_l {xs : List PV} {i : Int} {h : AH} : oIxA (.lst xs) (.int i) h = (atI xs i).bind fun v => some (v, h) := id (by simp only [oIxA, oIxL]; cases atI xs i <;> rfl)
section
variable {ta : TE} {ea : XE}
/-! what one owns: extend, reverse, len -/
def xExtO (i : Nat) (e : XE) : XS := fun ρ h => match ρ[i]? with
  | some (.own (.lst xs)) => ob (e ρ h) fun x h1 => (match x with | .lst ys => if xs.length + ys.length ≤ 100000 then some (.nx (ρ.set i (.own (.lst (xs ++ ys)))), h1) else none | _ => none)
  | _ => none
theorem snd_extO (i : Nat) (a : SndE K ta ea) : SndS K (tDrop (tBM K.K "list" rExtend (tVar i) (tCons ta tNil))) (xExtO i ea) := by
  intro W0 W ρ σ D o h' g e q
  unfold xExtO at e
  split at e
  · rename_i xs0 hx
    obtain ⟨x, h1, e1, f1⟩ := ob_some e
    split at f1
    · rename_i ys
      split at f1
      · rename_i hlen
        cases f1
        obtain ⟨p, a1, a2, a3, a4, hf, vs, hp, r⟩ := g.own i _ hx
        refine ⟨.ref p, a1, .inl ⟨rfl, _, SqL.of hp⟩, ?_⟩
        refine a W0 W ρ σ _ _ _ g e1 fun v W1 w1 l1 r1 => ?_
        obtain ⟨b, us, rfl, hb, rb⟩ := r1
        refine ⟨p, b, vs, us, rfl, rfl, l1.keep _ _ hp a2, l1.ok.le _ _ hb, by rw [r.len, rb.len]; exact big' hlen, ?_⟩
        have g1 := g.step l1
        obtain ⟨p', b1, b2, b3, b4, b5, vs', b6, b7⟩ := g1.own i _ hx
        rw [a1] at b1
        cases b1
        rw [l1.keep _ _ hp a2] at b6
        cases b6
        exact q (wmut W1 p (.lst (vs ++ us))) σ w1 ⟨l1.fs, l1.pre⟩ (g1.mut hx a1 b2 b3 b5 (fun z => by cases z) ⟨b5, _, upd_same, b7.app rb⟩)
      · cases f1
    · cases f1
  · cases e
def xLenO (i : Nat) : XE := fun ρ h => match ρ[i]? with | some (.own (.lst xs)) => some (.int xs.length, h) | _ => none
theorem snd_lenO (i : Nat) : SndE K (tCB (rLenL K.K) (tCons (tVar i) tNil)) (xLenO i) := by
  intro W0 W ρ σ Q x h' g e q
  unfold xLenO at e
  split at e
  · rename_i xs hx
    cases e
    obtain ⟨p, a1, a2, a3, a4, hf, vs, hp, r⟩ := g.own i _ hx
    refine ⟨.ref p, a1, p, vs, rfl, .inl (SqL.of hp), ?_⟩
    rw [r.len]
    exact q _ W rfl (.refl g.ok) rfl
  · cases e
end
end PX
namespace PX
open PySem L2
variable {K : Ck}
/-! ### list + list, the script among them -/
/-! ### range(lo, hi, step), step above 0 -/
def Itr3 (lo st : Int) (n : Nat) : It := ⟨fun i _ => i < n, fun i H x H' => H' = H ∧ x = .int (lo + i * st), fun i _ => n ≤ i⟩
def szR (a b c : Int) : Nat := if a < b then ((b - a - 1) / c + 1).toNat else 0
def iRng3 (ta : TA) : TI := fun σ H R => ta σ H fun vs H1 => ∃ i j c : Int, vs = [.int i, .int j, .int c] ∧ (0 ≤ i ∧ i < 1000000000 ∧ 0 ≤ j ∧ j < 1000000000 ∧ 0 < c ∧ c < 1000000) ∧ R (Itr3 i c (szR i j c)) H1
def rngS (lo st : Int) (n : Nat) : List PV := (List.range n).map fun (k : Nat) => .int (lo + (k : Int) * st)
def xIR3 (a : XA) : XA := fun ρ h => ob (a ρ h) fun xs h1 => match xs with | [.int i, .int j, .int c] => if 0 ≤ i ∧ i < 1000000000 ∧ 0 ≤ j ∧ j < 1000000000 ∧ 0 < c ∧ c < 1000000 then some (rngS i c (szR i j c), h1) else none | _ => none
theorem it_rngS (W : Wd) (lo st : Int) (n : Nat) : ItOk K W (Itr3 lo st n) (rngS lo st n) := by
  refine ⟨fun i W' l w hi => ?_, fun i W' v' H2 l w hi hy => ?_, fun W' l w => ?_⟩
  · show i < n
    simpa [rngS] using hi
  · obtain ⟨h1, h2⟩ := hy
    have hi : i < n := by simpa [rngS] using hi
    exact ⟨h1, .int (lo + (i : Int) * st), by simp [rngS, hi], h2⟩
  · show n ≤ _
    simp [rngS]
theorem sndi_rng3 {t : TA} {e : XA} (a : SndA K t e) : SndI K (iRng3 t) (xIR3 e) := by
  intro W0 W ρ σ R xs h' g e q
  obtain ⟨ys, h1, e1, f1⟩ := ob_some e
  split at f1
  · rename_i i j c
    split at f1
    · rename_i hj
      cases f1
      refine a W0 W ρ σ _ _ _ g e1 fun vs W1 w1 l1 r1 => ?_
      obtain ⟨v, r, rfl, rv, v2, r2, rfl, rv2, v3, r3, rfl, rv3, rr⟩ := r1
      obtain rfl : r3 = [] := rr
      exact ⟨i, j, c, by rw [show v = .int i from rv, show v2 = .int j from rv2, show v3 = .int c from rv3], hj, q _ W1 w1 l1 (it_rngS W1 i c _)⟩
    · cases f1
  · cases f1
theorem x_iR3i {a : XA} {ρ : PSt} {h h1 : AH} {i j c : Int} (e : a ρ h = some ([.int i, .int j, .int c], h1)) (hc : 0 ≤ i ∧ i < 1000000000 ∧ 0 ≤ j ∧ j < 1000000000 ∧ 0 < c ∧ c < 1000000) : xIR3 a ρ h = some (rngS i c (szR i j c), h1) := by
  unfold xIR3
  rw [e, ob_eq]
  show (if _ then _ else _) = _
  rw [if_pos hc]
end PX
namespace PX
open PySem L2
variable {K : Ck}
/-! ### == and != of nested lists and tuples -/
inductive EqR (H : Hp) : Nat → V → V → Bool → Prop where
  | flat {n : Nat} {x y : V} (fx : flatV x = true) (fy : flatV y = true) : EqR H n x y (eqV x y)
  | same {n : Nat} {a : Addr} : EqR H n (.ref a) (.ref a) true
  | lst {n : Nat} {a b : Addr} {xs ys : List V} {e : Nat → Bool} (ha : H a = some (.lst xs)) (hb : H b = some (.lst ys)) (hl : xs.length = ys.length) (hne : a ≠ b) (he : ∀ j x y, xs[j]? = some x → ys[j]? = some y → EqR H n x y (e j)) : EqR H (n + 1) (.ref a) (.ref b) ((List.range xs.length).all e)
  | lstN {n : Nat} {a b : Addr} {xs ys : List V} (ha : H a = some (.lst xs)) (hb : H b = some (.lst ys)) (hl : xs.length ≠ ys.length) : EqR H (n + 1) (.ref a) (.ref b) false
  | tup {n : Nat} {a b : Addr} {xs ys : List V} {e : Nat → Bool} (ha : H a = some (.tup xs)) (hb : H b = some (.tup ys)) (hne : a ≠ b) (he : ∀ j x y, xs[j]? = some x → ys[j]? = some y → EqR H n x y (e j)) : EqR H (n + 1) (.ref a) (.ref b) ((List.range (min xs.length ys.length)).all e && xs.length == ys.length)
/-- two things of the heap, compared as such -/
inductive RcR (H : Hp) : V → V → Bool → Prop where
  | lst {a b : Addr} {xs ys : List V} {e : Nat → Bool} (ha : H a = some (.lst xs)) (hb : H b = some (.lst ys)) (hl : xs.length = ys.length) (he : ∀ j x y, xs[j]? = some x → ys[j]? = some y → EqR H 40 x y (e j)) : RcR H (.ref a) (.ref b) ((List.range xs.length).all e)
  | lstN {a b : Addr} {xs ys : List V} (ha : H a = some (.lst xs)) (hb : H b = some (.lst ys)) (hl : xs.length ≠ ys.length) : RcR H (.ref a) (.ref b) false
  | tup {a b : Addr} {xs ys : List V} {e : Nat → Bool} (ha : H a = some (.tup xs)) (hb : H b = some (.tup ys)) (he : ∀ j x y, xs[j]? = some x → ys[j]? = some y → EqR H 40 x y (e j)) : RcR H (.ref a) (.ref b) ((List.range (min xs.length ys.length)).all e && xs.length == ys.length)
def rEqD : R2 := fun x y H Q => ∃ b, RcR H x y b ∧ Q (.bl b) H
def rNeD : R2 := fun x y H Q => ∃ b, RcR H x y b ∧ Q (.bl (!b)) H
def allE (f : PV → PV → Option Bool) : List PV → List PV → Option Bool
  | x :: xs, y :: ys => (match f x y, allE f xs ys with | some b, some c => some (b && c) | _, _ => none)
  | _, _ => some true
def pairE (f : PV → PV → Option Bool) (h : AH) (x y : PV) : Option Bool := match x, y with
  | .tup xs, .tup ys => (match allE f xs ys with | some b => some (b && xs.length == ys.length) | none => none)
  | x, y => (match listOf' x h, listOf' y h with | some xs, some ys => if xs.length = ys.length then allE f xs ys else some false | _, _ => none)
def eqP : Nat → AH → PV → PV → Option Bool
  | 0, _, _, _ => none
  | n + 1, h, x, y => match sv x, sv y with
    | some u, some v => some (eqV u v)
    | _, _ => pairE (eqP n h) h x y
theorem eqV_refl : ∀ {v : V}, flatV v = true → eqV v v = true
  | .non, _ => rfl
  | .bl b, _ => by cases b <;> rfl
  | .int i, _ => by simp [eqV]
  | .str s, _ => by simp [eqV]
theorem allE_same {f : PV → PV → Option Bool} {W : Wd} (hf : ∀ x y v b, f x y = some b → RepW K W x v → RepW K W y v → b = true) : ∀ {xs ys : List PV} {vs : List V} {c : Bool}, RepLW K W xs vs → RepLW K W ys vs → allE f xs ys = some c → c = true
  | [], _, _, _, _, _, e => by simp [allE] at e; exact e
  | _ :: _, [], _, _, _, _, e => by simp [allE] at e; exact e
  | x :: xs, y :: ys, _, c, ⟨v, r, e1, h1, l1⟩, ⟨u, q, e2, h2, l2⟩, e => by
    rw [e1] at e2
    cases e2
    unfold allE at e
    cases eb : f x y with
    | none => rw [eb] at e; cases e
    | some b =>
      cases ec : allE f xs ys with
      | none => rw [eb, ec] at e; cases e
      | some c' =>
        rw [eb, ec] at e
        cases e
        rw [hf x y _ b eb h1 h2, allE_same hf l1 l2 ec]; rfl
theorem pairE_same {f : PV → PV → Option Bool} {W : Wd} (w : WOk K W) (hf : ∀ x y v b, f x y = some b → RepW K W x v → RepW K W y v → b = true) {x y : PV} {v : V} {b : Bool} (e : pairE f W.h x y = some b) (rx : RepW K W x v) (ry : RepW K W y v) : b = true := by
  unfold pairE at e
  split at e
  · rename_i xs ys
    obtain ⟨a, vs, ev, ha, ra⟩ := rx
    obtain ⟨a', vs', ev', ha', ra'⟩ := ry
    rw [ev] at ev'
    cases ev'
    rw [ha] at ha'
    cases ha'
    cases ec : allE f xs ys with
    | none => rw [ec] at e; cases e
    | some c =>
      rw [ec] at e
      cases e
      rw [allE_same hf ra ra' ec, ← ra.len, ← ra'.len]
      simp
  · split at e
    · rename_i xs ys hx hy
      obtain ⟨a, vs, ev, ha, ra⟩ := listOf'_rep w hx rx
      obtain ⟨a', vs', ev', ha', ra'⟩ := listOf'_rep w hy ry
      rw [ev] at ev'
      cases ev'
      rw [ha] at ha'
      cases ha'
      rw [if_pos (by rw [← ra.len, ← ra'.len])] at e
      exact allE_same hf ra ra' e
    · cases e
theorem eqP_same {W : Wd} (w : WOk K W) : ∀ (n : Nat) (x y : PV) (v : V) (b : Bool), eqP n W.h x y = some b → RepW K W x v → RepW K W y v → b = true
  | 0, _, _, _, _, e, _, _ => by cases e
  | n + 1, x, y, v, b, e, rx, ry => by
    unfold eqP at e
    split at e
    · rename_i u u' hu hu'
      cases e
      rw [← sv_rep hu rx, ← sv_rep hu' ry]
      exact eqV_refl (by rw [sv_rep hu rx]; exact sv_flat hu)
    · exact pairE_same w (eqP_same w n) e rx ry
theorem allE_ok {f : PV → PV → Option Bool} {W : Wd} {n : Nat} (hf : ∀ x y v u b, f x y = some b → RepW K W x v → RepW K W y u → EqR W.H n v u b) : ∀ {xs ys : List PV} {vs us : List V} {c : Bool}, RepLW K W xs vs → RepLW K W ys us → allE f xs ys = some c →
    ∃ e : Nat → Bool, (∀ j v u, vs[j]? = some v → us[j]? = some u → EqR W.H n v u (e j)) ∧ c = (List.range (min vs.length us.length)).all e
  | [], _, _, _, c, h1, _, e => by
    rw [show _ = [] from h1]
    simp [allE] at e
    exact ⟨fun _ => true, fun j v u hv => by simp at hv, by simp [e]⟩
  | _ :: _, [], _, _, c, _, h2, e => by
    rw [show _ = [] from h2]
    simp [allE] at e
    exact ⟨fun _ => true, fun j v u _ hu => by simp at hu, by simp [e]⟩
  | x :: xs, y :: ys, _, _, c, ⟨v, r, e1, h1, l1⟩, ⟨u, q, e2, h2, l2⟩, e => by
    subst e1 e2
    unfold allE at e
    cases eb : f x y with
    | none => rw [eb] at e; cases e
    | some b =>
      cases ec : allE f xs ys with
      | none => rw [eb, ec] at e; cases e
      | some c' =>
        rw [eb, ec] at e
        cases e
        obtain ⟨e', k1, k2⟩ := allE_ok hf l1 l2 ec
        refine ⟨fun j => match j with | 0 => b | j + 1 => e' j, fun j v' u' hv hu => ?_, ?_⟩
        · cases j with
          | zero =>
            simp at hv hu
            subst hv hu
            exact hf x y _ _ b eb h1 h2
          | succ j => exact k1 j v' u' (by simpa using hv) (by simpa using hu)
        · rw [k2, List.length_cons, List.length_cons, show min (r.length + 1) (q.length + 1) = min r.length q.length + 1 by omega, List.range_succ_eq_map, List.all_cons, List.all_map]
          rfl
theorem eqP_ok {W : Wd} (w : WOk K W) : ∀ (n : Nat) (x y : PV) (v u : V) (b : Bool), eqP n W.h x y = some b → RepW K W x v → RepW K W y u → EqR W.H n v u b
  | 0, _, _, _, _, _, e, _, _ => by cases e
  | n + 1, x, y, v, u, b, e, rx, ry => by
    have e0 := e
    unfold eqP at e
    split at e
    · rename_i v' u' hv hu
      cases e
      rw [sv_rep hv rx, sv_rep hu ry]
      exact .flat (sv_flat hv) (sv_flat hu)
    · unfold pairE at e
      split at e
      · rename_i xs ys _
        obtain ⟨a, vs, ev, ha, ra⟩ := rx
        obtain ⟨a', us, eu, ha', ra'⟩ := ry
        by_cases hab : a = a'
        · subst hab
          have : b = true := eqP_same w (n + 1) _ _ v b e0 ⟨a, vs, ev, ha, ra⟩ (by rw [ev, ← eu]; exact ⟨a, us, eu, ha', ra'⟩)
          rw [this, ev, eu]
          exact .same
        · cases ec : allE (eqP n W.h) xs ys with
          | none => rw [ec] at e; cases e
          | some c =>
            rw [ec] at e
            cases e
            obtain ⟨e', k1, k2⟩ := allE_ok (eqP_ok w n) ra ra' ec
            rw [ev, eu, k2, ← ra.len, ← ra'.len]
            exact .tup (w.le _ _ ha) (w.le _ _ ha') hab k1
      · split at e
        · rename_i xs ys hx hy
          obtain ⟨a, vs, ev, ha, ra⟩ := listOf'_rep w hx rx
          obtain ⟨a', us, eu, ha', ra'⟩ := listOf'_rep w hy ry
          by_cases hab : a = a'
          · subst hab
            have : b = true := eqP_same w (n + 1) _ _ v b e0 rx (by rw [ev, ← eu]; exact ry)
            rw [this, ev, eu]
            exact .same
          · split at e
            · rename_i hl
              obtain ⟨e', k1, k2⟩ := allE_ok (eqP_ok w n) ra ra' e
              have hl' : vs.length = us.length := by rw [ra.len, ra'.len, hl]
              rw [ev, eu, k2, ← hl', Nat.min_self]
              exact .lst ha ha' hl' hab k1
            · rename_i hl
              cases e
              rw [ev, eu]
              exact .lstN ha ha' (by rw [ra.len, ra'.len]; exact hl)
        · cases e
def oEqD : P2 := fun x y h => match pairE (eqP 40 h) h x y with | some b => some (.bl b, h) | none => none
def oNeD : P2 := fun x y h => match pairE (eqP 40 h) h x y with | some b => some (.bl (!b), h) | none => none
theorem pairE_ok {W : Wd} (w : WOk K W) {x y : PV} {v u : V} {b : Bool} (e : pairE (eqP 40 W.h) W.h x y = some b) (rx : RepW K W x v) (ry : RepW K W y u) : RcR W.H v u b := by
  unfold pairE at e
  split at e
  · rename_i xs ys
    obtain ⟨a, vs, ev, ha, ra⟩ := rx
    obtain ⟨a', us, eu, ha', ra'⟩ := ry
    cases ec : allE (eqP 40 W.h) xs ys with
    | none => rw [ec] at e; cases e
    | some c =>
      rw [ec] at e
      cases e
      obtain ⟨e', k1, k2⟩ := allE_ok (eqP_ok w 40) ra ra' ec
      rw [ev, eu, k2, ← ra.len, ← ra'.len]
      exact .tup (w.le _ _ ha) (w.le _ _ ha') k1
  · split at e
    · rename_i xs ys hx hy
      obtain ⟨a, vs, ev, ha, ra⟩ := listOf'_rep w hx rx
      obtain ⟨a', us, eu, ha', ra'⟩ := listOf'_rep w hy ry
      split at e
      · rename_i hl
        obtain ⟨e', k1, k2⟩ := allE_ok (eqP_ok w 40) ra ra' e
        have hl' : vs.length = us.length := by rw [ra.len, ra'.len, hl]
        rw [ev, eu, k2, ← hl', Nat.min_self]
        exact .lst ha ha' hl' k1
      · rename_i hl
        cases e
        rw [ev, eu]
        exact .lstN ha ha' (by rw [ra.len, ra'.len]; exact hl)
    · cases e
theorem o_eqD : OpSnd K rEqD oEqD := by
  intro W x y v u Q z h' w rx ry e q
  unfold oEqD at e
  split at e
  · rename_i b hb
    cases e
    exact ⟨b, pairE_ok w hb rx ry, q _ W rfl (.refl w) rfl⟩
  · cases e
theorem o_neD : OpSnd K rNeD oNeD := by
  intro W x y v u Q z h' w rx ry e q
  unfold oNeD at e
  split at e
  · rename_i b hb
    cases e
    exact ⟨b, pairE_ok w hb rx ry, q _ W rfl (.refl w) rfl⟩
  · cases e
/-! tuple + tuple, both with something in them -/
def oCatT : P2 := fun x y h => match x, y with | .tup xs, .tup ys => if xs ≠ [] ∧ ys ≠ [] ∧ xs.length + ys.length ≤ 100000 then some (.tup (xs ++ ys), h) else none | _, _ => none
theorem o_catT : OpSnd K (rCatT K.K) oCatT := by
  intro W x y v u Q z h' w rx ry e q
  unfold oCatT at e
  split at e
  · rename_i xs ys
    split at e
    · rename_i hc
      cases e
      obtain ⟨a, vs, ev, ha, ra⟩ := rx
      obtain ⟨b, us, eu, hb, rb⟩ := ry
      have n1 : vs ≠ [] := fun z => hc.1 (List.length_eq_zero_iff.mp (by rw [← ra.len, z]; rfl))
      have n2 : us ≠ [] := fun z => hc.2.1 (List.length_eq_zero_iff.mp (by rw [← rb.len, z]; rfl))
      refine ⟨a, b, vs, us, ev, eu, seqT_up w ha, seqT_up w hb, n1, by rw [ra.len, rb.len]; exact big' hc.2.2, fun z => absurd z n2, fun _ p hp => ?_⟩
      have l2 : Le K W (wput W p (.tup (vs ++ us))) := wput_le w hp
      exact q (.ref p) (wput W p (.tup (vs ++ us))) rfl l2 ⟨p, vs ++ us, rfl, upd_same, l2.repL (ra.app rb)⟩
    · cases e
  · cases e
end PX
namespace PX
open PySem L2
variable {K : Ck}
/-! ### a way that is not gone -/
/-! ### o.m(e, ..), the object's class being known -/
/-! ### e.f = v of a changeable object -/
end PX
/-! ## the text and its pure reading, in one word -/
namespace PX
open PySem L2 PySem.Spec PyProof.Rows
section
variable (K : Ck)
def cE (x : XE) : TE := fun σ H Q => ∃ (W0 W : Wd) (ρ : PSt) (y : PV) (h' : AH), W.H = H ∧ Good K W0 W ρ σ ∧ x ρ W.h = some (y, h') ∧ ∀ v W', W'.h = h' → Le K W W' → RepW K W' y v → Q v W'.H
def cO (x : XO) : TE := fun σ H Q => ∃ (W0 W : Wd) (ρ : PSt) (d : Nd) (h' : AH), W.H = H ∧ Good K W0 W ρ σ ∧ x ρ W.h = some (d, h') ∧ ∀ p W', W'.h = h' → Le K W W' → p ∉ W'.m → W.H p = none → d ≠ .dead → NdAt K W'.F W'.H W'.m d p → Q (.ref p) W'.H
def cT (x : XT) : TT := fun σ H Q => ∃ (W0 W : Wd) (ρ : PSt) (y : Bool) (h' : AH), W.H = H ∧ Good K W0 W ρ σ ∧ x ρ W.h = some (y, h') ∧ ∀ W', W'.h = h' → Le K W W' → Q y W'.H
def cA (x : XA) : TA := fun σ H Q => ∃ (W0 W : Wd) (ρ : PSt) (y : List PV) (h' : AH), W.H = H ∧ Good K W0 W ρ σ ∧ x ρ W.h = some (y, h') ∧ ∀ v W', W'.h = h' → Le K W W' → RepLW K W' y v → Q v W'.H
def cP (x : PSt → AH → Option (Option Int × AH)) : TO := fun σ H Q => ∃ (W0 W : Wd) (ρ : PSt) (y : Option Int) (h' : AH), W.H = H ∧ Good K W0 W ρ σ ∧ x ρ W.h = some (y, h') ∧ ∀ W', W'.h = h' → Le K W W' → Q y W'.H
def cI (x : XA) : TI := fun σ H R => ∃ (W0 W : Wd) (ρ : PSt) (y : List PV) (h' : AH), W.H = H ∧ Good K W0 W ρ σ ∧ x ρ W.h = some (y, h') ∧ ∀ J W', W'.h = h' → Le K W W' → ItOk K W' J y → R J W'.H
def cG (y : XG) : TG := fun v σ H Q => ∃ (W0 W : Wd) (ρ ρ' : PSt) (x : PV), W.H = H ∧ Good K W0 W ρ σ ∧ RepW K W x v ∧ y x ρ = some ρ' ∧ ∀ σ', Good K W0 W ρ' σ' → Q σ' W.H
def cS (s : XS) : TS := fun D σ H => ∃ (W0 W : Wd) (ρ : PSt) (o : Out) (h' : AH), W.H = H ∧ Good K W0 W ρ σ ∧ s ρ W.h = some (o, h') ∧ Ends.Ok K W0 W D h' o
def cF (s : XS) : TS := fun D σ H => ∃ (W0 W : Wd) (ρ ρ' : PSt) (h' : AH), W.H = H ∧ Good K W0 W ρ σ ∧ s ρ W.h = some (.nx ρ', h') ∧ ∀ W', W'.h = h' → Lf K W W' → Good K W0 W' ρ' σ → D.nx σ W'.H
end
section
variable {K : Ck}
theorem sE {x : XE} : SndE K (cE K x) x := fun W0 W ρ σ Q y h' g e q => ⟨W0, W, ρ, y, h', rfl, g, e, q⟩
theorem sO {x : XO} : SndO K (cO K x) x := fun W0 W ρ σ Q y h' g e q => ⟨W0, W, ρ, y, h', rfl, g, e, q⟩
theorem sT {x : XT} : SndT K (cT K x) x := fun W0 W ρ σ Q y h' g e q => ⟨W0, W, ρ, y, h', rfl, g, e, q⟩
theorem sA {x : XA} : SndA K (cA K x) x := fun W0 W ρ σ Q y h' g e q => ⟨W0, W, ρ, y, h', rfl, g, e, q⟩
theorem sP {x} : SndP K (cP K x) x := fun W0 W ρ σ Q y h' g e q => ⟨W0, W, ρ, y, h', rfl, g, e, q⟩
theorem sI {x : XA} : SndI K (cI K x) x := fun W0 W ρ σ Q y h' g e q => ⟨W0, W, ρ, y, h', rfl, g, e, q⟩
theorem sG {y : XG} : SndG K (cG K y) y := fun W0 W ρ ρ' σ x v Q g r e q => ⟨W0, W, ρ, ρ', x, rfl, g, r, e, q⟩
theorem sS {s : XS} : SndS K (cS K s) s := fun W0 W ρ σ D o h' g e q => ⟨W0, W, ρ, o, h', rfl, g, e, q⟩
theorem sF {s : XS} : SndF K (cF K s) s := fun W0 W ρ ρ' σ D h' g e q => ⟨W0, W, ρ, ρ', h', rfl, g, e, q⟩
end
abbrev ckX (X : Cx) (A : Nat → Addr) : Ck := ⟨X.K, A⟩
structure ZE (X : Cx) (A : Nat → Addr) (e : Expr) (x : XE) : Prop where of : PE X e (cE (ckX X A) x)
structure ZO (X : Cx) (A : Nat → Addr) (e : Expr) (x : XO) : Prop where of : PE X e (cO (ckX X A) x)
structure ZT (X : Cx) (A : Nat → Addr) (e : Expr) (x : XT) : Prop where of : PT X e (cT (ckX X A) x)
structure ZW (X : Cx) (A : Nat → Addr) (e : Expr) (x : XT) : Prop where of : PW X e (cT (ckX X A) x)
structure ZA (X : Cx) (A : Nat → Addr) (e : List Expr) (n : Nat) (x : XA) : Prop where
  of : PA X e (cA (ckX X A) x)
  len : ∀ ρ h xs h', x ρ h = some (xs, h') → xs.length = n
structure ZP (X : Cx) (A : Nat → Addr) (e : Option Expr) (x : PSt → AH → Option (Option Int × AH)) : Prop where of : PO X e (cP (ckX X A) x)
structure ZI (X : Cx) (A : Nat → Addr) (tg e : Expr) (x : XA) : Prop where of : PI X tg e (cI (ckX X A) x)
structure ZG (X : Cx) (A : Nat → Addr) (e : Expr) (y : XG) : Prop where of : PG X e (cG (ckX X A) y)
structure ZS (X : Cx) (A : Nat → Addr) (e : Stmt) (s : XS) : Prop where of : PS X e (cS (ckX X A) s)
structure ZSs (X : Cx) (A : Nat → Addr) (e : List Stmt) (s : XS) : Prop where of : PSs X e (cS (ckX X A) s)
structure ZF (X : Cx) (A : Nat → Addr) (e : Stmt) (s : XS) : Prop where of : PS X e (cF (ckX X A) s)
structure ZFs (X : Cx) (A : Nat → Addr) (e : List Stmt) (s : XS) : Prop where of : PSs X e (cF (ckX X A) s)
section
variable {X : Cx} {A : Nat → Addr} {e : Expr} {es : List Expr}
theorem wE {t : TE} {x : XE} (p : PE X e t) (s : SndE (ckX X A) t x) : ZE X A e x := ⟨fun pins st σ H Q I ⟨W0, W, ρ, y, h', eh, g, ex, q⟩ => by subst eh; exact p pins st σ _ Q I (s W0 W ρ σ Q y h' g ex q)⟩
theorem wO {t : TE} {x : XO} (p : PE X e t) (s : SndO (ckX X A) t x) : ZO X A e x := ⟨fun pins st σ H Q I ⟨W0, W, ρ, y, h', eh, g, ex, q⟩ => by subst eh; exact p pins st σ _ Q I (s W0 W ρ σ Q y h' g ex q)⟩
theorem wT {t : TT} {x : XT} (p : PT X e t) (s : SndT (ckX X A) t x) : ZT X A e x := ⟨fun pins st σ H Q I ⟨W0, W, ρ, y, h', eh, g, ex, q⟩ => by subst eh; exact p pins st σ _ Q I (s W0 W ρ σ Q y h' g ex q)⟩
theorem wW {t : TT} {x : XT} (p : PW X e t) (s : SndT (ckX X A) t x) : ZW X A e x := ⟨fun wh pins st σ H Q I ⟨W0, W, ρ, y, h', eh, g, ex, q⟩ => by subst eh; exact p wh pins st σ _ Q I (s W0 W ρ σ Q y h' g ex q)⟩
theorem wA {t : TA} {x : XA} {n : Nat} (p : PA X es t) (s : SndA (ckX X A) t x) (l : ∀ ρ h xs h', x ρ h = some (xs, h') → xs.length = n) : ZA X A es n x := ⟨fun pos pins st σ H Q I ⟨W0, W, ρ, y, h', eh, g, ex, q⟩ => by subst eh; exact p pos pins st σ _ Q I (s W0 W ρ σ Q y h' g ex q), l⟩
theorem wP {o : Option Expr} {t : TO} {x} (p : PO X o t) (s : SndP (ckX X A) t x) : ZP X A o x := ⟨fun pins st σ H Q I ⟨W0, W, ρ, y, h', eh, g, ex, q⟩ => by subst eh; exact p pins st σ _ Q I (s W0 W ρ σ Q y h' g ex q)⟩
theorem wI {tg : Expr} {t : TI} {x : XA} (p : PI X tg e t) (s : SndI (ckX X A) t x) : ZI X A tg e x := ⟨fun pins st σ H Q I ⟨W0, W, ρ, y, h', eh, g, ex, q⟩ => by subst eh; exact p pins st σ _ Q I (s W0 W ρ σ Q y h' g ex q)⟩
theorem wG {t : TG} {y : XG} (p : PG X e t) (s : SndG (ckX X A) t y) : ZG X A e y := ⟨fun pins st σ H v u Q I rv ⟨W0, W, ρ, ρ', x, eh, g, r, ex, q⟩ => by subst eh; exact p pins st σ _ v u Q I rv (s W0 W ρ ρ' σ x v Q g r ex q)⟩
theorem wS {st : Stmt} {t : TS} {x : XS} (p : PS X st t) (s : SndS (ckX X A) t x) : ZS X A st x := ⟨fun pins st σ H D I ⟨W0, W, ρ, o, h', eh, g, ex, q⟩ => by subst eh; exact p pins st σ _ D I (s W0 W ρ σ D o h' g ex q)⟩
theorem wSs {st : List Stmt} {t : TS} {x : XS} (p : PSs X st t) (s : SndS (ckX X A) t x) : ZSs X A st x := ⟨fun pins st σ H D I ⟨W0, W, ρ, o, h', eh, g, ex, q⟩ => by subst eh; exact p pins st σ _ D I (s W0 W ρ σ D o h' g ex q)⟩
theorem wF {st : Stmt} {t : TS} {x : XS} (p : PS X st t) (s : SndF (ckX X A) t x) : ZF X A st x := ⟨fun pins st σ H D I ⟨W0, W, ρ, ρ', h', eh, g, ex, q⟩ => by subst eh; exact p pins st σ _ D I (s W0 W ρ ρ' σ D h' g ex q)⟩
theorem wFs {st : List Stmt} {t : TS} {x : XS} (p : PSs X st t) (s : SndF (ckX X A) t x) : ZFs X A st x := ⟨fun pins st σ H D I ⟨W0, W, ρ, ρ', h', eh, g, ex, q⟩ => by subst eh; exact p pins st σ _ D I (s W0 W ρ ρ' σ D h' g ex q)⟩
end
/-- a name that is no special one -/
structure Nm (x : Str) : Prop where
  d : (x == ("__debug__" : Str)) = false
  c : (x == ("__classdict__" : Str)) = false
  n : x ≠ "__name__"
section
variable {X : Cx} {A : Nat → Addr} {a b c o : Expr} {es : List Expr} {xa xb xc : XE} {xo : XO} {aa : XA} {pos p apos : Pos} {x : Str} {n k : Nat}
theorem z_non {j} : ZE X A (.Constant .none j pos) (xC .non) := wE pe_non snd_non
theorem z_bl {b j} : ZE X A (.Constant (.bool b) j pos) (xC (.bl b)) := wE pe_bl snd_bl
theorem z_int {i j} : ZE X A (.Constant (.int i) j pos) (xC (.int i)) := wE pe_int snd_int
theorem z_str {x j} : ZE X A (.Constant (.str x) j pos) (xC (.str x)) := wE pe_str snd_str
theorem z_var {i : Nat} (m : Nm x) (hN : X.N[i]? = some x) (hv : Vis X.env.scope x) : ZE X A (.Name x pos) (xVar i) := wE (pe_var hN hv m.d m.c) (snd_var i)
theorem z_gcls {k : Nat} (m : Nm x) (hg : Gl X x) (hm : X.mg x = some (.ref (A k))) : ZE X A (.Name x pos) (xC (.cls k)) := wE (pe_gref hg hm m.d) (snd_cls (K := ckX X A))
theorem z_gty {n : String} (m : Nm x) (hg : Gl X x) (hm : X.mg x = none) (hv : bootBuiltins x = some (.type n)) : ZE X A (.Name x pos) (xC (.ty n)) := wE (pe_gty hg hm hv m.n m.d) snd_ty
theorem z_fz (h : ZO X A a xo) : ZE X A a (xFz xo) := wE h.of (snd_fz sO)
theorem z_op {op : Operator} {r : R2} {q : P2} (ho : OpR X (binaryOp op) r) (hq : OpSnd (ckX X A) r q) (ha : ZE X A a xa) (hb : ZE X A b xb) : ZE X A (.BinOp a op b pos) (xOp q xa xb) := wE (pe_op ho ha.of hb.of) (snd_op hq sE sE)
theorem z_opO {op : Operator} {r : R2} {q : P2O} (ho : OpR X (binaryOp op) r) (hq : OpSndO (ckX X A) r q) (ha : ZE X A a xa) (hb : ZE X A b xb) : ZO X A (.BinOp a op b pos) (xOpO q xa xb) := wO (pe_op ho ha.of hb.of) (snd_opO hq sE sE)
theorem z_un {op : UnaryOp} {r} {q} (ho : UnR X (unaryOp op) r) (hq : UnSnd (ckX X A) r q) (ha : ZE X A a xa) : ZE X A (.UnaryOp op a pos) (xUn q xa) := wE (pe_un ho ha.of) (snd_un hq sE)
theorem z_cmp {op : CmpOp} {r : R2} {q : P2} (ho : OpR X (compareOp op) r) (hq : OpSnd (ckX X A) r q) (ha : ZE X A a xa) (hb : ZE X A b xb) (hm : behindInMarks op b = false) : ZE X A (.Compare a [op] [b] pos) (xOp q xa xb) := wE (pe_cmpR ho ha.of hb.of hm) (snd_op hq sE sE)
section
variable {ca cb : XT}
theorem zt_cmp {op : CmpOp} {r : R2} {q : P2} (ho : OpR X (compareOp op) r) (hq : OpSnd (ckX X A) r q) (ha : ZE X A a xa) (hb : ZE X A b xb) (hm : behindInMarks op b = false) : ZT X A (.Compare a [op] [b] pos) (xTest (xOp q xa xb)) := wT (pt_cmpR ho ha.of hb.of hm) (snd_test (snd_op hq sE sE))
theorem zt_chain {op op' : CmpOp} {r r' : R2} {q q' : P2} (ho : OpR X (compareOp op) r) (ho' : OpR X (compareOp op') r') (hq : OpSnd (ckX X A) r q) (hq' : OpSnd (ckX X A) r' q') (ha : ZE X A a xa) (hb : ZE X A b xb) (hc : ZE X A c xc) (hm : lastMarks [op, op'] [b, c] = false) : ZT X A (.Compare a [op, op'] [b, c] pos) (xTest (xChain q q' xa xb xc)) := wT (pt_chain ho ho' ha.of hb.of hc.of hm) (snd_test (snd_chain hq hq' sE sE sE))
theorem zt_not (ha : ZT X A a ca) : ZT X A (.UnaryOp .Not a pos) (xNot ca) := wT (pt_not ha.of) (snd_not sT)
theorem zt_val (h : ZE X A a xa) (he : ∀ whole, isTrue a X.env whole = (do let v ← whole; standAt a.pos; holding [v] (truthy v))) : ZT X A a (xTest xa) := wT (pt_val h.of he) (snd_tB sE)
theorem zt_w (h : ZW X A a ca) : ZT X A a ca := ⟨PW.pt h.of⟩
theorem zw_and (ha : ZT X A a ca) (hb : ZW X A (.BoolOp .And (b :: es) pos) cb) : ZW X A (.BoolOp .And (a :: b :: es) pos) (xAnd ca cb) := wW (pw_and ha.of hb.of) (snd_and sT sT)
theorem zw_or (ha : ZT X A a ca) (hb : ZW X A (.BoolOp .Or (b :: es) pos) cb) : ZW X A (.BoolOp .Or (a :: b :: es) pos) (xOr ca cb) := wW (pw_or ha.of hb.of) (snd_or sT sT)
theorem zw_and1 (ha : ZT X A a ca) : ZW X A (.BoolOp .And [a] pos) ca := ⟨pw_and1 ha.of⟩
theorem zw_or1 (ha : ZT X A a ca) : ZW X A (.BoolOp .Or [a] pos) ca := ⟨pw_or1 ha.of⟩
end
theorem za_nil : ZA X A [] 0 xNil := wA pa_nil snd_nil len_nil
theorem za_cons (ha : ZE X A a xa) (hr : ZA X A es n aa) (hs : starEach (a :: es) X.env = (false, eval a X.env) :: starEach es X.env) : ZA X A (a :: es) (n + 1) (xCons xa aa) := wA (pa_cons ha.of hr.of hs) (snd_cons sE sA) (len_cons hr.len)
theorem z_lst (h : ZA X A es n aa) : ZO X A (.List es pos) (xLst aa) := wO (pe_lst h.of) (snd_lst sA)
theorem z_tup {q} (h : ZA X A es n aa) : ZE X A (.Tuple es q pos) (xTup aa) := wE (pe_tup h.of) (snd_tup sA)
theorem zp_no : ZP X A none xNoPart := wP po_none snd_nopart
theorem zp_some (h : ZE X A a xa) : ZP X A (some a) (xPart xa) := wP (po_some h.of) (snd_part sE)
section
variable {lo hi : Option Expr} {xl xh : PSt → AH → Option (Option Int × AH)} {p2 : Pos}
theorem z_sl {r} {q} (hr : SlR X r) (hq : SlSnd (ckX X A) r q) (ha : ZE X A a xa) (hl : ZP X A lo xl) (hh : ZP X A hi xh) : ZE X A (.Subscript a (.Slice lo hi none p2) pos) (xSl q xa xl xh) := wE (pe_slice hr ha.of hl.of hh.of) (snd_sl hq sE sP sP)
theorem z_slO {r} {q} (hr : SlR X r) (hq : SlSndO (ckX X A) r q) (ha : ZE X A a xa) (hl : ZP X A lo xl) (hh : ZP X A hi xh) : ZO X A (.Subscript a (.Slice lo hi none p2) pos) (xSlO q xa xl xh) := wO (pe_slice hr ha.of hl.of hh.of) (snd_slO hq sE sP sP)
end
theorem z_ix {r : R2} {q : P2} (hr : IxR X r) (hq : OpSnd (ckX X A) r q) (ha : ZE X A a xa) (hb : ZE X A b xb) (hs : PlainIx b) : ZE X A (.Subscript a b pos) (xOp q xa xb) := wE (pe_ix hr ha.of hb.of hs) (snd_op hq sE sE)
theorem z_fld {cs : List Nat} {f : Str} (hc : ∀ k ∈ cs, Cls X.K (A k) ∧ NoAttr X.K (A k) f) (ha : ZE X A a xa) (hb : attributeBase a f X.env (eval a X.env) = eval a X.env) : ZE X A (.Attribute a f pos) (xFld cs f xa) := wE (pe_fld ha.of hb) (snd_fld (K := ckX X A) hc sE)
section
variable {f C : Addr} {fd : FuncData} {ps : List Str} {lv : Nat} {fn : Fn}
theorem z_call (F : FnOk X.prog X.w X.K X.mg X.base CX0 lv f fd ps (spE (ckX X A) (n + 1) fn)) (hr : Room lv X.A) (m : Nm x) (hg : Gl X x) (hm : X.mg x = some (.ref f)) (hk : PySem.W.keepIn X.K (.ref f) = true) (hb : Binds X.K fd ps [])
    (ha : ZA X A (a :: es) (n + 1) aa) (he : starEach (a :: es) X.env = (false, eval a X.env) :: starEach es X.env) (hpl : (backTo pos (starEach es X.env)).any (·.1) = false) : ZE X A (.Call (.Name x p) (a :: es) [] pos) (xCall fn aa) :=
  wE (pe_call F hr hg hm hk hb .nil pass0 ha.of m.d he hpl) (snd_call sA ha.len)
theorem z_make {k : Nat} {fi} (M : Mk X.K (A k) f) (F : FnOk X.prog X.w X.K X.mg X.base CX0 lv f fd ps (spI (ckX X A) (n + 1) k fi)) (hr : Room (lv + 1) X.A) (m : Nm x) (hg : Gl X x) (hm : X.mg x = some (.ref (A k))) (hb : Binds X.K fd ps [])
    (ha : ZA X A (a :: es) (n + 1) aa) (he : starEach (a :: es) X.env = (false, eval a X.env) :: starEach es X.env) (hpl : (backTo pos (starEach es X.env)).any (·.1) = false) : ZO X A (.Call (.Name x p) (a :: es) [] pos) (xMake fi aa) :=
  wO (pe_make M F hr hg hm hb .nil pass0 ha.of m.d he hpl) (snd_make (K := ckX X A) (k := k) sA ha.len)
theorem z_makeO {k : Nat} (hm : PySem.W.makesIn X.K (A k) = true) (hi : PySem.W.findIn X.K (.ref (A k)) "__init__" = some (some (.builtin "object.__init__"))) (hk : PySem.W.keepIn X.K (.ref (A k)) = true) (m : Nm x) (hg : Gl X x) (hmg : X.mg x = some (.ref (A k))) : ZO X A (.Call (.Name x p) [] [] pos) (xMakeO k) :=
  wO (pe_makeO hm hi hk hg hmg m.d) (snd_makeO (K := ckX X A))
theorem z_meth0 {m : Str} {fm : Nat → Fn} {pl : Sem Bool} (he : ZE X A o xa) (G : MethsOk X.prog X.w X.K X.mg X.base lv A m (fun k => spE (ckX X A) 1 (fm k))) (hr : Room lv X.A)
    (ht : eval (.Call (.Attribute o m apos) [] [] pos) X.env = (do
      let ov ← eval o X.env
      standAt apos.atName
      let (f, first) ← holding [ov] (getMethod ov m pl)
      callWith pos f first (backTo pos (starEach [] X.env)) (backToKw pos (keywordEach [] X.env)))) : ZE X A (.Call (.Attribute o m apos) [] [] pos) (xMeth m fm xa) :=
  wE (pe_methD0 he.of G hr ht) (snd_meth (K := ckX X A) sE)
end
theorem z_cb {id : String} {r} {q} (hc : CallR X (.builtin id) r) (hq : CbSnd (ckX X A) r q) (m : Nm x) (hg : Gl X x) (hm : X.mg x = none) (hv : bootBuiltins x = some (.builtin id)) (ha : ZA X A (a :: es) n aa) (he : starEach (a :: es) X.env = (false, eval a X.env) :: starEach es X.env) (hpl : (backTo pos (starEach es X.env)).any (·.1) = false) : ZE X A (.Call (.Name x p) (a :: es) [] pos) (xCB q aa) :=
  wE (pe_callB hc hg hm hv ha.of m.n m.d he hpl) (snd_cb hq sA)
theorem z_cty {T : String} {r} {q} (hc : CallR X (.type T) r) (hq : CbSnd (ckX X A) r q) (m : Nm x) (hg : Gl X x) (hm : X.mg x = none) (hv : bootBuiltins x = some (.type T)) (ha : ZA X A (a :: es) n aa) (he : starEach (a :: es) X.env = (false, eval a X.env) :: starEach es X.env) (hpl : (backTo pos (starEach es X.env)).any (·.1) = false) : ZE X A (.Call (.Name x p) (a :: es) [] pos) (xCB q aa) :=
  wE (pe_callTy hc hg hm hv ha.of m.n m.d he hpl) (snd_cb hq sA)
theorem z_ctyO {T : String} {r} {q} (hc : CallR X (.type T) r) (hq : CbSndO (ckX X A) r q) (m : Nm x) (hg : Gl X x) (hm : X.mg x = none) (hv : bootBuiltins x = some (.type T)) (ha : ZA X A (a :: es) n aa) (he : starEach (a :: es) X.env = (false, eval a X.env) :: starEach es X.env) (hpl : (backTo pos (starEach es X.env)).any (·.1) = false) : ZO X A (.Call (.Name x p) (a :: es) [] pos) (xCBO q aa) :=
  wO (pe_callTy hc hg hm hv ha.of m.n m.d he hpl) (snd_cbO hq sA)
section
variable {name : Str} {cpos : Pos} {T id : String} {r : V → List V → Hp → VK → Prop} {cc : PV → AH → Bool} {q : PM}
theorem zs_app {i : Nat} (ho : PE X o (tVar i)) (ha : ZE X A a xa) 
    (hbase : attributeBase o "append" X.env (eval o X.env) = eval o X.env)
    (hfew : ((backTo cpos (starEach [a] X.env)).all (fun x => !x.1) && (backToKw cpos (keywordEach [] X.env)).all (fun x => x.1.isSome)
      && decide ([a].length + ([] : List Keyword).length + (if ([] : List Keyword).isEmpty then 0 else 1) < 30)) = true)
    (hline : (apos.endLine == cpos.line) = true) (hs : starEach [a] X.env = (false, eval a X.env) :: starEach [] X.env) (hplain : (backTo cpos (starEach [] X.env)).any (·.1) = false)
    (hsw : swapsWith (.Call (.Attribute o "append" apos) [a] [] cpos) none pos.line X.env = pure false) :
    ZS X A (.Expr (.Call (.Attribute o "append" apos) [a] [] cpos) pos) (xAppO i xa) :=
  wS (ps_expr (pe_bm PySem.F.plainAttrs_list PySem.F.slot_list_append PySem.F.type_list_append mt_append ho (pa_cons ha.of pa_nil hs) hbase hfew hline hs hplain) hsw) (snd_appO (K := ckX X A) i sE)
end
section
variable {tg : Expr}
theorem zi_list (h : ZE X A a xa) : ZI X A tg a (xIL xa) := wI (pi_list h.of) (sndi_list (K := ckX X A) sE)
theorem zi_rng1 (hg : Gl X "range") (hm : X.mg "range" = none) (ha : ZA X A [a] n aa) (hs : starEach [a] X.env = [(false, eval a X.env)]) : ZI X A tg (.Call (.Name "range" p) [a] [] pos) (xIR1 aa) := wI (pi_range1 hg hm ha.of hs) (sndi_rng1 sA)
end
theorem zg_name {i : Nat} (hN : X.N.Nodup) (hi : X.N[i]? = some x) (hx : Loc X.env.scope x) (hf : X.fn x = true ∨ X.env.scope.names.lookup x = some .local) : ZG X A (.Name x pos) (yName i) := wG (pg_name hN hi hx hf) (sndg_name i)
theorem z_comp {elt iter : Expr} {px : Pos} {scope : Scope} {cpos : Pos} {it : XA} {xe : XE} (ix : List Nat) (fr : List Str) (hc : X.calm = true) (hi : ZI X A (.Name x px) iter it) (hfr : FrOk X scope ix fr)
    (he : ∀ (cl : List (Str × Addr)) (C : Addr) (s₃ : Shared) (H₃ : Hp) (fp : List Addr) (pins : List (Addr × Obj)), ZE (cxC X scope cl C (x :: fr) s₃ H₃ fp pins) A elt xe)
    (hnd : (x :: fr).Nodup) (hkind : scope.kind = .function) (hcell : ∀ y ∈ scope.names, y.2 ≠ .cell)
    (hnames : ∀ y ∈ scope.names, y.2 = .local → scope.names.lookup y.1 = some .local) (hfree0 : ∀ y ∈ scope.names, y.2 = .free → y.1 ∈ fr) (hx : scope.names.lookup x = some .local)
    (hs : ∀ v, foldedSetIterable iter X.env v = pure v) : ZO X A (.ListComp elt [⟨.Name x px, iter, [], 0⟩] scope cpos) (xComp it ix xe) :=
  wO (pe_comp ix fr hc hi.of hfr (te := cE (ckX X A) xe) (fun cl C s₃ H₃ fp pins => (he cl C s₃ H₃ fp pins).of) hnd hkind hcell hnames hfree0 hx hs) (snd_comp (K := ckX X A) ix sI sE)
/-! statements -/
section
variable {st : Stmt} {rest : List Stmt} {s u : XS}
theorem zs_ret (h : ZE X A a xa) : ZS X A (.Return (some a) pos) (xRet xa) := wS (ps_ret h.of) (snd_ret sE)
theorem zs_set {i : Nat} {pos' : Pos} (hN : X.N.Nodup) (hi : X.N[i]? = some x) (hx : Loc X.env.scope x) (h : ZE X A a xa) (hs : swapsWith a (some (.Name x pos')) pos.line X.env = pure false) (hf : X.fn x = true ∨ X.env.scope.names.lookup x = some .local) : ZS X A (.Assign [.Name x pos'] a pos) (xAsg xa (yName i)) :=
  wS (ps_set hN hi hx h.of hs hf) (snd_asg sE (sndg_name i))
theorem zs_setO {i : Nat} {pos' : Pos} (hN : X.N.Nodup) (hi : X.N[i]? = some x) (hx : Loc X.env.scope x) (h : ZO X A a xo) (hs : swapsWith a (some (.Name x pos')) pos.line X.env = pure false) (hf : X.fn x = true ∨ X.env.scope.names.lookup x = some .local) : ZS X A (.Assign [.Name x pos'] a pos) (xAsgO xo i) :=
  wS (ps_set hN hi hx h.of hs hf) (snd_asgO i sO)
theorem zf_fld {cs : List Nat} {f : Str} {pos' : Pos} {i : Nat} (hc : ∀ k ∈ cs, Cls X.K (A k) ∧ NoAttr X.K (A k) f) (ho : PE X o (tVar i)) (h : ZE X A a xa) (hs : swapsWith a (some (.Attribute o f pos')) pos.line X.env = pure false) : ZF X A (.Assign [.Attribute o f pos'] a pos) (xFldO cs i f xa) := wF (ps_fld ho h.of hs) (sndF_fld (K := ckX X A) hc sE)
theorem zs_if {ca : XT} {l m : List Stmt} (hc : ZT X A c ca) (ha : ZSs X A l s) (hb : ZSs X A m u) : ZS X A (.If c l m pos) (xIfS ca s u) := wS (ps_if hc.of ha.of hb.of) (snd_ifS sT sS sS)
theorem zs_for {tg iter : Expr} {it : XA} {y : XG} (hp : PassesOwn (model X.prog X.w) X.A X.env X.xe) (hc : X.calm = true) (hi : ZI X A tg iter it) (hg : ZG X A tg y) (hb : ZSs X A rest s) (hs : ∀ x, foldedSetIterable iter X.env x = pure x) : ZS X A (.For tg iter rest [] pos) (xFor it y s) := wS (ps_for hp hc hi.of hg.of hb.of hs) (snd_for sI sG sS)
theorem zs_while {ca : XT} (fu : Nat) (hp : PassesOwn (model X.prog X.w) X.A X.env X.xe) (hc : ZT X A c ca) (hb : ZSs X A rest s) : ZS X A (.While c rest [] pos) (xWhile fu ca s) := wS (ps_while hp hc.of hb.of) (snd_while fu sT sS)
theorem zss_nil : ZSs X A [] xNext := wSs pss_nil snd_next
theorem zss_one (h : ZS X A st s) : ZSs X A [st] s := ⟨pss_one h.of⟩
theorem zss_cons (h : ZS X A st s) (hr : ZSs X A rest u) : ZSs X A (st :: rest) (xSeq s u) := wSs (pss_cons h.of hr.of) (snd_seq sS sS)
theorem zss_frz (i : Nat) (h : ZSs X A rest s) : ZSs X A rest (xFrz i s) := wSs h.of (snd_frz i sS)
theorem zfs_one (h : ZF X A st s) : ZFs X A [st] s := ⟨pss_one h.of⟩
theorem zfs_cons (h : ZF X A st s) (hr : ZFs X A rest u) : ZFs X A (st :: rest) (xSeq s u) := wFs (pss_cons h.of hr.of) (sndF_seq sF sF)
end
end
section
variable {P : Program} {w : World} {K : PySem.W.Frag} {mg : Str → Option Value} {base : Heap} {A : Nat → Addr}
/-- a def keeps its pure reading -/
theorem zfn {x qual : Str} {st : Stmt} {f : Addr} {fd : FuncData} {N ps : List Str} {k : Nat} {s : XS} (F : Fun K x qual st f fd) (S : FnScope N ps (defScope st))
    (h : ∀ (cdv : Value) (Ar : Around) (outer : List Env) (sh : Shared) (H : Hp) (E : XK), Room k (Ar.deeper (envOfC qual (defScope st) sh.heap.objs.size f cdv)) → ZSs (cxOf CX0 P w K mg base N qual (defScope st) f cdv Ar outer sh H E).nox A (defBody st) s) :
    FnOk P w K mg base CX0 (k + 1) f fd ps (spE ⟨K, A⟩ ps.length (runF N.length s)) :=
  F.ok S (fun _ _ _ _ h => spE_len h) fun cdv Ar outer sh H vs Q E hr hq => ⟨_, (h cdv Ar outer sh H E hr).of, body_snd (K := ⟨K, A⟩) sS hq⟩
theorem zin {x qual : Str} {st : Stmt} {f : Addr} {fd : FuncData} {N ps : List Str} {k kc n : Nat} {s : XS} (F : Fun K x qual st f fd) (S : FnScope N ps (defScope st)) (hn : ps.length = n + 1) (hN : n + 1 ≤ N.length)
    (h : ∀ (cdv : Value) (Ar : Around) (outer : List Env) (sh : Shared) (H : Hp) (E : XK), Room k (Ar.deeper (envOfC qual (defScope st) sh.heap.objs.size f cdv)) → ZFs (cxOf CX0 P w K mg base N qual (defScope st) f cdv Ar outer sh H E).nox A (defBody st) s) :
    FnOk P w K mg base CX0 (k + 1) f fd ps (spI ⟨K, A⟩ n kc (runI N.length kc s)) :=
  F.ok S (fun _ _ _ _ h => (spI_len h).trans hn.symm) fun cdv Ar outer sh H vs Q E hr hq => ⟨_, (h cdv Ar outer sh H E hr).of, init_snd (K := ⟨K, A⟩) hN sF hq⟩
end
end PX
namespace PX
open PySem L2 PySem.Spec PyProof.Rows
section
variable {X : Cx} {A : Nat → Addr} {a b c o i : Expr} {es : List Expr} {xa xb xc xd xk xv : XE} {xo : XO} {aa : XA} {pos p apos cpos pos' : Pos} {x : Str} {n k : Nat}
end
end PX
namespace PX
open PySem L2 PySem.Spec PyProof.Rows
theorem bt_max : bootBuiltins "max" = some (.builtin "max") := by decide +kernel
section
variable {X : Cx} {A : Nat → Addr} {a b c o : Expr} {es : List Expr} {xa xb xc : XE} {pos p apos cpos : Pos} {x : Str} {n k : Nat}
theorem zs_ext {i : Nat} (ho : PE X o (tVar i)) (ha : ZE X A a xa) 
    (hbase : attributeBase o "extend" X.env (eval o X.env) = eval o X.env)
    (hfew : ((backTo cpos (starEach [a] X.env)).all (fun x => !x.1) && (backToKw cpos (keywordEach [] X.env)).all (fun x => x.1.isSome)
      && decide ([a].length + ([] : List Keyword).length + (if ([] : List Keyword).isEmpty then 0 else 1) < 30)) = true)
    (hline : (apos.endLine == cpos.line) = true) (hs : starEach [a] X.env = (false, eval a X.env) :: starEach [] X.env) (hplain : (backTo cpos (starEach [] X.env)).any (·.1) = false)
    (hsw : swapsWith (.Call (.Attribute o "extend" apos) [a] [] cpos) none pos.line X.env = pure false) :
    ZS X A (.Expr (.Call (.Attribute o "extend" apos) [a] [] cpos) pos) (xExtO i xa) :=
  wS (ps_expr (pe_bm PySem.F.plainAttrs_list PySem.F.slot_list_extend PySem.F.type_list_extend mt_extend ho (pa_cons ha.of pa_nil hs) hbase hfew hline hs hplain) hsw) (snd_extO (K := ckX X A) i sE)
theorem z_lenO {i : Nat} (ho : PE X a (tVar i)) (m : Nm x) (hg : Gl X x) (hm : X.mg x = none) (hv : bootBuiltins x = some (.builtin "len")) (he : starEach [a] X.env = (false, eval a X.env) :: starEach [] X.env) (hpl : (backTo pos (starEach [] X.env)).any (·.1) = false) :
    ZE X A (.Call (.Name x p) [a] [] pos) (xLenO i) :=
  wE (pe_callB call_len_seq hg hm hv (pa_cons ho pa_nil he) m.n m.d he hpl) (snd_lenO (K := ckX X A) i)
end
section
theorem szR_is {a b c : Int} (hc : 0 < c) : Builtin.Range.rangeSize a b c = (szR a b c : Int) := by
  unfold Builtin.Range.rangeSize szR
  rw [if_pos hc]
  split
  · have := Int.ediv_nonneg (a := b - a - 1) (b := c) (by omega) (by omega)
    omega
  · rfl
theorem small_st {a b c : Int} (h : 0 ≤ a ∧ a < 1000000000 ∧ 0 ≤ b ∧ b < 1000000000 ∧ 0 < c ∧ c < 1000000) : Builtin.Range.small a b c = true := by
  obtain ⟨h1, h2, h3, h4, h5, h6⟩ := h
  unfold Builtin.Range.small
  have hs : Builtin.Range.rangeSize a b c ≤ 1000000000 ∧ 0 ≤ Builtin.Range.rangeSize a b c := by
    unfold Builtin.Range.rangeSize
    rw [if_pos h5]
    split
    · have := Int.ediv_nonneg (a := b - a - 1) (b := c) (by omega) (by omega)
      have := Int.ediv_le_self c (show (0 : Int) ≤ b - a - 1 by omega)
      omega
    · omega
  simp only [Builtin.Range.rangeFitsLong, Bool.and_eq_true, Bool.or_eq_true, decide_eq_true_eq, beq_iff_eq, show c > 0 from h5, if_true]
  omega
theorem turn_range3 {P : Program} {w : World} {K : PySem.W.Frag} {tg : Expr} (it : Addr) (lo st : Int) (n : Nat) : Turn P w K tg (Itr3 lo st n) [it] it (fun i h => IsRangeIter h it (lo + (i : Nat) * st) ((n : Int) - (i : Nat)) st) where
  mem := by simp
  obj := fun i h st b hb => by
    have e : b = it := by simpa using hb
    subst e
    exact ⟨_, st, fun v z => by
      have z' : Data.fields _ = Data.cell v := z
      cases z'⟩
  keep := fun i h h' st k => k it (by simp) _ st
  item := by
    intro X hP hw hK hc i pins s σ H E I hf st' hg
    subst hP hw hK
    obtain ⟨f0, f1, f2, f3, f4, f5⟩ := hf it (by simp)
    have W := Walks.range (prog := X.prog) (w := X.w) (I.ok.hd hc) it lo st n
    refine W.item i s _ _ hg st' fun v h' tk hv st'' kk => ?_
    obtain ⟨t, rfl⟩ := hv
    have I1 : Inv X pins σ H { s with heap := h', toks := tk } := I.turned (fun b o hb e => kk b o (by simpa using hb) e) f0 f1 f3 f4 f5
    exact ⟨_, rfl, go_of (s := { s with heap := h', toks := tk }) (n := "range_iterator") st'' rfl rfl (by decide) ⟨.int (lo + i * st), H, I1, ⟨t, rfl⟩, ⟨rfl, rfl⟩, st'', fun b hb => (hf b hb).1⟩⟩
  done := by
    intro X hP hw hK hc i pins s σ H E I hf st hg
    subst hP hw hK
    obtain ⟨f0, f1, f2, f3, f4, f5⟩ := hf it (by simp)
    exact wpAny_pyNext_range_end (I.ok.hd hc) st (by have : n ≤ i := hg; omega) fun h' eb => ⟨rfl, I.turned (t' := s.toks) (fun b o hb e => eb b o hb e) f0 f1 f3 f4 f5⟩
  self := fun _ _ _ _ _ st h => wpAny_pyIter_rangeiter st h
variable {X : Cx} {A : Nat → Addr} {tg a b c : Expr} {p pos : Pos} {aa : XA} {n : Nat}
theorem range_it3 {pins : List (Addr × Obj)} {σ : L2.St} {H : Hp} {s : Shared} {R : It → Hp → Prop} {E : Value → Shared → Prop} {lo hi st : Int} {t u v : Tok} {tk : Nat} (I : Inv X pins σ H s) (h : 0 ≤ lo ∧ lo < 1000000000 ∧ 0 ≤ hi ∧ hi < 1000000000 ∧ 0 < st ∧ st < 1000000)
    (q : R (Itr3 lo st (szR lo hi st)) H) : wpAny (model X.prog X.w) X.A (pyIter (.ref s.heap.objs.size)) (PIE X pins σ tg R) E { s with heap := s.heap.push { cls := .type "range", data := .fields #[.int lo t, .int hi u, .int st v] }, toks := tk } := by
  refine wpAny_pyIter_range (IsRange.new ..) (small_st h) ?_
  have I1 : Inv X pins σ H { s with heap := s.heap.push { cls := .type "range", data := .fields #[.int lo t, .int hi u, .int st v] }, toks := tk } := I.kept fun b o e => Heap.get?_push_of_some _ e
  refine ⟨(s.heap.push { cls := .type "range", data := .fields #[.int lo t, .int hi u, .int st v] }).objs.size, [(s.heap.push { cls := .type "range", data := .fields #[.int lo t, .int hi u, .int st v] }).objs.size], _, _, H, rfl,
    I1.kept (t' := tk) fun b o e => Heap.get?_push_of_some _ e, turn_range3 _ lo st (szR lo hi st), ?_, fun b hb => ?_, q⟩
  · have e1 : lo + ((0 : Nat) : Int) * st = lo := by simp
    have e2 : ((szR lo hi st : Nat) : Int) - ((0 : Nat) : Int) = Builtin.Range.rangeSize lo hi st := by rw [szR_is h.2.2.2.2.1]; omega
    show IsRangeIter _ _ (lo + ((0 : Nat) : Int) * st) (((szR lo hi st : Nat) : Int) - ((0 : Nat) : Int)) st
    rw [e1, e2]
    exact Heap.get?_push_size _ rfl
  · have e : b = (s.heap.push { cls := .type "range", data := .fields #[.int lo t, .int hi u, .int st v] }).objs.size := by simpa using hb
    subst e
    exact I1.fpOk (Nat.le_refl _) (I1.hok.fresh (Nat.le_refl _))
theorem pi_range3 {ta : TA} (hg : Gl X "range") (hm : X.mg "range" = none) (ha : PA X [a, b, c] ta) (hs : starEach [a, b, c] X.env = [(false, eval a X.env), (false, eval b X.env), (false, eval c X.env)]) (hs2 : starEach [b, c] X.env = [(false, eval b X.env), (false, eval c X.env)]) :
    PI X tg (.Call (.Name "range" p) [a, b, c] [] pos) (iRng3 ta) := by
  intro pins s σ H R I h
  refine Call_ (ld_blt I hg hm boot_range (PyProof.Rows.callWith_type1 (thn (ha pos pins s σ H _ I h) fun us s1 ⟨vs, H1, I1, r1, q1⟩ => ?_) (by rw [hs, hs2]) (by rw [hs2]; rfl)))
  obtain ⟨i, j, k, e, hc, q⟩ := q1
  subst e
  cases r1 with
  | cons r rr =>
    cases rr with
    | cons r' rr =>
      cases rr with
      | cons r'' rr =>
        cases rr
        obtain ⟨t, rfl⟩ := r
        obtain ⟨t', rfl⟩ := r'
        obtain ⟨t'', rfl⟩ := r''
        exact call_range_3 (by omega) (range_it3 I1 hc q) (Or.inl (PyProof.noPylong_small (by omega)))
theorem zi_rng3 (hg : Gl X "range") (hm : X.mg "range" = none) (ha : ZA X A [a, b, c] n aa) (hs : starEach [a, b, c] X.env = [(false, eval a X.env), (false, eval b X.env), (false, eval c X.env)]) (hs2 : starEach [b, c] X.env = [(false, eval b X.env), (false, eval c X.env)]) : ZI X A tg (.Call (.Name "range" p) [a, b, c] [] pos) (xIR3 aa) := wI (pi_range3 hg hm ha.of hs hs2) (sndi_rng3 sA)
end
section
theorem vals_at {xs : List V} {its : List Value} (r : Vals xs its) {j : Nat} (hj : j < its.toArray.size) : ∃ x, xs[j]? = some x ∧ RelV x its.toArray[j] := by
  have hl := r.length
  have j1 : j < its.length := by simpa using hj
  have x1 : xs[j]? = some xs[j] := List.getElem?_eq_getElem (by omega)
  obtain ⟨u1, q1, w1⟩ := r.get x1
  have g1 : its.toArray[j] = u1 := by
    have := List.getElem?_eq_getElem j1
    rw [q1] at this
    simpa using (Option.some.inj this).symm
  exact ⟨_, x1, by rw [g1]; exact w1⟩
variable {X : Cx}
theorem eqAt_R {pins : List (Addr × Obj)} {σ : L2.St} {H : Hp} {s : Shared} (I : Inv X pins σ H s) {n : Nat} {x y : V} {b : Bool} (r : EqR H n x y b) : ∀ {A : Around} {u v : Value}, RelV x u → RelV y v → A.units + n < cLine → SeqAt.EqAt A s u v b := by
  induction r with
  | flat fx fy => exact fun rx ry _ => eqAt_V rx ry fx fy
  | same =>
    intro A u v rx ry _
    cases rx
    cases ry
    exact SeqAt.EqAt.same _
  | @lst n a b xs ys e ha hb hl hne he ih =>
    intro A u v rx ry hu
    cases rx
    cases ry
    obtain ⟨i1, n1, r1, e1, z1⟩ := I.lst ha
    obtain ⟨i2, n2, r2, e2, z2⟩ := I.lst hb
    have l1 := r1.length
    have l2 := r2.length
    rw [show xs.length = i1.toArray.size by simp only [List.size_toArray]; omega]
    refine SeqAt.EqAt.of_refs hne (SeqAt.RcAt.lists ⟨_, e1, rfl, n1, rfl⟩ ⟨_, e2, rfl, n2, rfl⟩ (by simp only [List.size_toArray]; omega) (by omega) fun j j1 j2 => ?_)
    obtain ⟨x1, q1, w1⟩ := vals_at r1 j1
    obtain ⟨y1, q2, w2⟩ := vals_at r2 j2
    exact ih j x1 y1 q1 q2 w1 w2 (by show A.units + 1 + n < cLine; omega)
  | @lstN n a b xs ys ha hb hl =>
    intro A u v rx ry hu
    cases rx
    cases ry
    obtain ⟨i1, n1, r1, e1, z1⟩ := I.lst ha
    obtain ⟨i2, n2, r2, e2, z2⟩ := I.lst hb
    have l1 := r1.length
    have l2 := r2.length
    have hne : a ≠ b := fun z => by subst z; rw [ha] at hb; cases hb; exact hl rfl
    exact SeqAt.EqAt.of_refs hne (SeqAt.RcAt.lists_lengths ⟨_, e1, rfl, n1, rfl⟩ ⟨_, e2, rfl, n2, rfl⟩ (by simp only [List.size_toArray, bne_iff_ne]; omega) (by omega))
  | @tup n a b xs ys e ha hb hne he ih =>
    intro A u v rx ry hu
    cases rx
    cases ry
    obtain ⟨i1, r1, p1, z1⟩ := I.tuple (SqT.of ha)
    obtain ⟨i2, r2, p2, z2⟩ := I.tuple (SqT.of hb)
    have l1 := r1.length
    have l2 := r2.length
    rw [show xs.length = i1.toArray.size by simp only [List.size_toArray]; omega, show ys.length = i2.toArray.size by simp only [List.size_toArray]; omega]
    refine SeqAt.EqAt.of_refs hne (SeqAt.RcAt.tuples p1 p2 (by omega) fun j j1 j2 => ?_)
    obtain ⟨x1, q1, w1⟩ := vals_at r1 j1
    obtain ⟨y1, q2, w2⟩ := vals_at r2 j2
    exact ih j x1 y1 q1 q2 w1 w2 (by show A.units + 1 + n < cLine; omega)
theorem op_eqD (hu : X.A.units + 60 < cLine) : OpR X (compareOp .Eq) rEqD := by
  intro pins s σ H x y v u Q I rx ry h
  obtain ⟨b, hb, q⟩ := h
  cases hb with
  | @lst a b xs ys e ha hb hl he =>
    cases rx
    cases ry
    obtain ⟨i1, n1, r1, e1, z1⟩ := I.lst ha
    obtain ⟨i2, n2, r2, e2, z2⟩ := I.lst hb
    have l1 := r1.length
    have l2 := r2.length
    rw [show xs.length = i1.toArray.size by simp only [List.size_toArray]; omega] at q
    refine SeqAt.RcAt.lists ⟨_, e1, rfl, n1, rfl⟩ ⟨_, e2, rfl, n2, rfl⟩ (by simp only [List.size_toArray]; omega) (by omega) (fun j j1 j2 => ?_) _ _ _ _ ⟨.bl _, H, I, rfl, q⟩
    obtain ⟨x1, q1, w1⟩ := vals_at r1 j1
    obtain ⟨y1, q2, w2⟩ := vals_at r2 j2
    exact eqAt_R I (he j x1 y1 q1 q2) w1 w2 (by show X.A.units + 1 + 40 < cLine; omega)
  | @lstN a b xs ys ha hb hl =>
    cases rx
    cases ry
    obtain ⟨i1, n1, r1, e1, z1⟩ := I.lst ha
    obtain ⟨i2, n2, r2, e2, z2⟩ := I.lst hb
    have l1 := r1.length
    have l2 := r2.length
    exact SeqAt.RcAt.lists_lengths ⟨_, e1, rfl, n1, rfl⟩ ⟨_, e2, rfl, n2, rfl⟩ (by simp only [List.size_toArray, bne_iff_ne]; omega) (by omega) _ _ _ _ ⟨.bl _, H, I, rfl, q⟩
  | @tup a b xs ys e ha hb he =>
    cases rx
    cases ry
    obtain ⟨i1, r1, p1, z1⟩ := I.tuple (SqT.of ha)
    obtain ⟨i2, r2, p2, z2⟩ := I.tuple (SqT.of hb)
    have l1 := r1.length
    have l2 := r2.length
    rw [show xs.length = i1.toArray.size by simp only [List.size_toArray]; omega, show ys.length = i2.toArray.size by simp only [List.size_toArray]; omega] at q
    refine SeqAt.RcAt.tuples p1 p2 (by omega) (fun j j1 j2 => ?_) _ _ _ _ ⟨.bl _, H, I, rfl, q⟩
    obtain ⟨x1, q1, w1⟩ := vals_at r1 j1
    obtain ⟨y1, q2, w2⟩ := vals_at r2 j2
    exact eqAt_R I (he j x1 y1 q1 q2) w1 w2 (by show X.A.units + 1 + 40 < cLine; omega)
theorem op_neD (hu : X.A.units + 60 < cLine) : OpR X (compareOp .NotEq) rNeD := by
  intro pins s σ H x y v u Q I rx ry h
  obtain ⟨b, hb, q⟩ := h
  cases hb with
  | @lst a b xs ys e ha hb hl he =>
    cases rx
    cases ry
    obtain ⟨i1, n1, r1, e1, z1⟩ := I.lst ha
    obtain ⟨i2, n2, r2, e2, z2⟩ := I.lst hb
    have l1 := r1.length
    have l2 := r2.length
    rw [show xs.length = i1.toArray.size by simp only [List.size_toArray]; omega] at q
    refine SeqAt.RcNeAt.lists ⟨_, e1, rfl, n1, rfl⟩ ⟨_, e2, rfl, n2, rfl⟩ (by simp only [List.size_toArray]; omega) (by omega) (fun j j1 j2 => ?_) _ _ _ _ ⟨.bl _, H, I, rfl, q⟩
    obtain ⟨x1, q1, w1⟩ := vals_at r1 j1
    obtain ⟨y1, q2, w2⟩ := vals_at r2 j2
    exact eqAt_R I (he j x1 y1 q1 q2) w1 w2 (by show X.A.units + 1 + 40 < cLine; omega)
  | @lstN a b xs ys ha hb hl =>
    cases rx
    cases ry
    obtain ⟨i1, n1, r1, e1, z1⟩ := I.lst ha
    obtain ⟨i2, n2, r2, e2, z2⟩ := I.lst hb
    have l1 := r1.length
    have l2 := r2.length
    exact SeqAt.RcNeAt.lists_lengths ⟨_, e1, rfl, n1, rfl⟩ ⟨_, e2, rfl, n2, rfl⟩ (by simp only [List.size_toArray, bne_iff_ne]; omega) (by omega) _ _ _ _ ⟨.bl _, H, I, rfl, q⟩
  | @tup a b xs ys e ha hb he =>
    cases rx
    cases ry
    obtain ⟨i1, r1, p1, z1⟩ := I.tuple (SqT.of ha)
    obtain ⟨i2, r2, p2, z2⟩ := I.tuple (SqT.of hb)
    have l1 := r1.length
    have l2 := r2.length
    rw [show xs.length = i1.toArray.size by simp only [List.size_toArray]; omega, show ys.length = i2.toArray.size by simp only [List.size_toArray]; omega] at q
    refine SeqAt.RcNeAt.tuples p1 p2 (by omega) (fun j j1 j2 => ?_) _ _ _ _ ⟨.bl _, H, I, rfl, q⟩
    obtain ⟨x1, q1, w1⟩ := vals_at r1 j1
    obtain ⟨y1, q2, w2⟩ := vals_at r2 j2
    exact eqAt_R I (he j x1 y1 q1 q2) w1 w2 (by show X.A.units + 1 + 40 < cLine; omega)
theorem room60 {k : Nat} {A : Around} (r : Room k A) : A.units + 60 < cLine := by have := r.un; omega
end
end PX
namespace PX
open PySem L2 PySem.Spec PyProof.Rows
section
variable {X : Cx} {A : Nat → Addr} {o e : Expr} {es : List Expr} {xa xb : XE} {aa : XA} {pos apos pos' : Pos} {m f : Str} {n k kc : Nat} {pl : Sem Bool} {p : Fn} {fa : Addr} {fd : FuncData} {ps : List Str}
end
end PX
namespace My
open PySem L2 PX
theorem slen_0 : ("" : Str).length = 0 := by decide +kernel
theorem slen_1 : ("abc" : Str).length = 3 := by decide +kernel
theorem slen_2 : ("abcdefgh" : Str).length = 8 := by decide +kernel
theorem slen_3 : ("abcdefghijklmnopqrstuvwxyz" : Str).length = 26 := by decide +kernel
theorem slen_4 : ("either" : Str).length = 6 := by decide +kernel
theorem slen_5 : ("guard" : Str).length = 5 := by decide +kernel
theorem slen_6 : ("if" : Str).length = 2 := by decide +kernel
theorem slen_7 : ("jump" : Str).length = 4 := by decide +kernel
theorem slen_8 : ("lay" : Str).length = 3 := by decide +kernel
theorem slen_9 : ("less" : Str).length = 4 := by decide +kernel
theorem slen_10 : ("let" : Str).length = 3 := by decide +kernel
theorem slen_11 : ("minus" : Str).length = 5 := by decide +kernel
theorem slen_12 : ("plus" : Str).length = 4 := by decide +kernel
theorem slen_13 : ("put" : Str).length = 3 := by decide +kernel
theorem slen_14 : ("reckon" : Str).length = 6 := by decide +kernel
theorem slen_15 : ("same" : Str).length = 4 := by decide +kernel
theorem slen_16 : ("settle" : Str).length = 6 := by decide +kernel
theorem slen_17 : ("take" : Str).length = 4 := by decide +kernel
theorem slen_18 : ("throw" : Str).length = 5 := by decide +kernel
theorem slen_19 : ("times" : Str).length = 5 := by decide +kernel
theorem slen_20 : ("try" : Str).length = 3 := by decide +kernel
theorem slen_21 : ("unless" : Str).length = 6 := by decide +kernel
theorem slen_22 : ("wait" : Str).length = 4 := by decide +kernel
theorem mv_Part_long {f : Nat → Fn} {h : AH} : methK "long" f (.ins 0 [] []) h = f 0 [.ins 0 [] []] h := methK_at (by decide +kernel)
theorem fv_Let_slot {v0 v1 : PV} {h : AH} : fldV [1, 2, 3, 4, 5, 7, 8] "slot" (.ins 1 ["slot", "number"] [v0, v1]) h = some (v0, h) := fldV_at (by decide) (by decide +kernel) (by rw [show List.idxOf ("slot" : Str) ["slot", "number"] = 0 by decide +kernel]; rfl)
theorem fv_Let_number {v0 v1 : PV} {h : AH} : fldV [1] "number" (.ins 1 ["slot", "number"] [v0, v1]) h = some (v1, h) := fldV_at (by decide) (by decide +kernel) (by rw [show List.idxOf ("number" : Str) ["slot", "number"] = 1 by decide +kernel]; rfl)
theorem mv_Let_long {v0 v1 : PV} {f : Nat → Fn} {h : AH} : methK "long" f (.ins 1 ["slot", "number"] [v0, v1]) h = f 1 [.ins 1 ["slot", "number"] [v0, v1]] h := methK_at (by decide +kernel)
theorem iv_Let_slot {x : PV} {ρ : PSt} {h : AH} : fldK [1, 2, 3, 4, 5, 7, 8] 0 "slot" (.own (.ins 1 [] []) :: ρ) x h = some (.nx (.own (.ins 1 ["slot"] [x]) :: ρ), h) := fldK_0 (by decide) (by decide) (by decide +kernel)
theorem iv_Let_number {v0 : PV} {x : PV} {ρ : PSt} {h : AH} : fldK [1] 0 "number" (.own (.ins 1 ["slot"] [v0]) :: ρ) x h = some (.nx (.own (.ins 1 ["slot", "number"] [v0, x]) :: ρ), h) := fldK_0 (by decide) (by decide) (by decide +kernel)
theorem fv_Reckon_word {v0 v1 v2 v3 : PV} {h : AH} : fldV [2] "word" (.ins 2 ["word", "slot", "one", "other"] [v0, v1, v2, v3]) h = some (v0, h) := fldV_at (by decide) (by decide +kernel) (by rw [show List.idxOf ("word" : Str) ["word", "slot", "one", "other"] = 0 by decide +kernel]; rfl)
theorem fv_Reckon_slot {v0 v1 v2 v3 : PV} {h : AH} : fldV [1, 2, 3, 4, 5, 7, 8] "slot" (.ins 2 ["word", "slot", "one", "other"] [v0, v1, v2, v3]) h = some (v1, h) := fldV_at (by decide) (by decide +kernel) (by rw [show List.idxOf ("slot" : Str) ["word", "slot", "one", "other"] = 1 by decide +kernel]; rfl)
theorem fv_Reckon_one {v0 v1 v2 v3 : PV} {h : AH} : fldV [2] "one" (.ins 2 ["word", "slot", "one", "other"] [v0, v1, v2, v3]) h = some (v2, h) := fldV_at (by decide) (by decide +kernel) (by rw [show List.idxOf ("one" : Str) ["word", "slot", "one", "other"] = 2 by decide +kernel]; rfl)
theorem fv_Reckon_other {v0 v1 v2 v3 : PV} {h : AH} : fldV [2] "other" (.ins 2 ["word", "slot", "one", "other"] [v0, v1, v2, v3]) h = some (v3, h) := fldV_at (by decide) (by decide +kernel) (by rw [show List.idxOf ("other" : Str) ["word", "slot", "one", "other"] = 3 by decide +kernel]; rfl)
theorem mv_Reckon_long {v0 v1 v2 v3 : PV} {f : Nat → Fn} {h : AH} : methK "long" f (.ins 2 ["word", "slot", "one", "other"] [v0, v1, v2, v3]) h = f 2 [.ins 2 ["word", "slot", "one", "other"] [v0, v1, v2, v3]] h := methK_at (by decide +kernel)
theorem iv_Reckon_word {x : PV} {ρ : PSt} {h : AH} : fldK [2] 0 "word" (.own (.ins 2 [] []) :: ρ) x h = some (.nx (.own (.ins 2 ["word"] [x]) :: ρ), h) := fldK_0 (by decide) (by decide) (by decide +kernel)
theorem iv_Reckon_slot {v0 : PV} {x : PV} {ρ : PSt} {h : AH} : fldK [1, 2, 3, 4, 5, 7, 8] 0 "slot" (.own (.ins 2 ["word"] [v0]) :: ρ) x h = some (.nx (.own (.ins 2 ["word", "slot"] [v0, x]) :: ρ), h) := fldK_0 (by decide) (by decide) (by decide +kernel)
theorem iv_Reckon_one {v0 v1 : PV} {x : PV} {ρ : PSt} {h : AH} : fldK [2] 0 "one" (.own (.ins 2 ["word", "slot"] [v0, v1]) :: ρ) x h = some (.nx (.own (.ins 2 ["word", "slot", "one"] [v0, v1, x]) :: ρ), h) := fldK_0 (by decide) (by decide) (by decide +kernel)
theorem iv_Reckon_other {v0 v1 v2 : PV} {x : PV} {ρ : PSt} {h : AH} : fldK [2] 0 "other" (.own (.ins 2 ["word", "slot", "one"] [v0, v1, v2]) :: ρ) x h = some (.nx (.own (.ins 2 ["word", "slot", "one", "other"] [v0, v1, v2, x]) :: ρ), h) := fldK_0 (by decide) (by decide) (by decide +kernel)
theorem fv_Take_slot {v0 v1 : PV} {h : AH} : fldV [1, 2, 3, 4, 5, 7, 8] "slot" (.ins 3 ["slot", "place"] [v0, v1]) h = some (v0, h) := fldV_at (by decide) (by decide +kernel) (by rw [show List.idxOf ("slot" : Str) ["slot", "place"] = 0 by decide +kernel]; rfl)
theorem fv_Take_place {v0 v1 : PV} {h : AH} : fldV [3, 4] "place" (.ins 3 ["slot", "place"] [v0, v1]) h = some (v1, h) := fldV_at (by decide) (by decide +kernel) (by rw [show List.idxOf ("place" : Str) ["slot", "place"] = 1 by decide +kernel]; rfl)
theorem mv_Take_long {v0 v1 : PV} {f : Nat → Fn} {h : AH} : methK "long" f (.ins 3 ["slot", "place"] [v0, v1]) h = f 3 [.ins 3 ["slot", "place"] [v0, v1]] h := methK_at (by decide +kernel)
theorem iv_Take_slot {x : PV} {ρ : PSt} {h : AH} : fldK [1, 2, 3, 4, 5, 7, 8] 0 "slot" (.own (.ins 3 [] []) :: ρ) x h = some (.nx (.own (.ins 3 ["slot"] [x]) :: ρ), h) := fldK_0 (by decide) (by decide) (by decide +kernel)
theorem iv_Take_place {v0 : PV} {x : PV} {ρ : PSt} {h : AH} : fldK [3, 4] 0 "place" (.own (.ins 3 ["slot"] [v0]) :: ρ) x h = some (.nx (.own (.ins 3 ["slot", "place"] [v0, x]) :: ρ), h) := fldK_0 (by decide) (by decide) (by decide +kernel)
theorem fv_Put_place {v0 v1 : PV} {h : AH} : fldV [3, 4] "place" (.ins 4 ["place", "slot"] [v0, v1]) h = some (v0, h) := fldV_at (by decide) (by decide +kernel) (by rw [show List.idxOf ("place" : Str) ["place", "slot"] = 0 by decide +kernel]; rfl)
theorem fv_Put_slot {v0 v1 : PV} {h : AH} : fldV [1, 2, 3, 4, 5, 7, 8] "slot" (.ins 4 ["place", "slot"] [v0, v1]) h = some (v1, h) := fldV_at (by decide) (by decide +kernel) (by rw [show List.idxOf ("slot" : Str) ["place", "slot"] = 1 by decide +kernel]; rfl)
theorem mv_Put_long {v0 v1 : PV} {f : Nat → Fn} {h : AH} : methK "long" f (.ins 4 ["place", "slot"] [v0, v1]) h = f 4 [.ins 4 ["place", "slot"] [v0, v1]] h := methK_at (by decide +kernel)
theorem iv_Put_place {x : PV} {ρ : PSt} {h : AH} : fldK [3, 4] 0 "place" (.own (.ins 4 [] []) :: ρ) x h = some (.nx (.own (.ins 4 ["place"] [x]) :: ρ), h) := fldK_0 (by decide) (by decide) (by decide +kernel)
theorem iv_Put_slot {v0 : PV} {x : PV} {ρ : PSt} {h : AH} : fldK [1, 2, 3, 4, 5, 7, 8] 0 "slot" (.own (.ins 4 ["place"] [v0]) :: ρ) x h = some (.nx (.own (.ins 4 ["place", "slot"] [v0, x]) :: ρ), h) := fldK_0 (by decide) (by decide) (by decide +kernel)
theorem fv_If_slot {v0 v1 v2 : PV} {h : AH} : fldV [1, 2, 3, 4, 5, 7, 8] "slot" (.ins 5 ["slot", "parts", "others"] [v0, v1, v2]) h = some (v0, h) := fldV_at (by decide) (by decide +kernel) (by rw [show List.idxOf ("slot" : Str) ["slot", "parts", "others"] = 0 by decide +kernel]; rfl)
theorem fv_If_parts {v0 v1 v2 : PV} {h : AH} : fldV [5, 6, 7] "parts" (.ins 5 ["slot", "parts", "others"] [v0, v1, v2]) h = some (v1, h) := fldV_at (by decide) (by decide +kernel) (by rw [show List.idxOf ("parts" : Str) ["slot", "parts", "others"] = 1 by decide +kernel]; rfl)
theorem fv_If_others {v0 v1 v2 : PV} {h : AH} : fldV [5, 6, 7] "others" (.ins 5 ["slot", "parts", "others"] [v0, v1, v2]) h = some (v2, h) := fldV_at (by decide) (by decide +kernel) (by rw [show List.idxOf ("others" : Str) ["slot", "parts", "others"] = 2 by decide +kernel]; rfl)
theorem mv_If_long {v0 v1 v2 : PV} {f : Nat → Fn} {h : AH} : methK "long" f (.ins 5 ["slot", "parts", "others"] [v0, v1, v2]) h = f 5 [.ins 5 ["slot", "parts", "others"] [v0, v1, v2]] h := methK_at (by decide +kernel)
theorem iv_If_slot {x : PV} {ρ : PSt} {h : AH} : fldK [1, 2, 3, 4, 5, 7, 8] 0 "slot" (.own (.ins 5 [] []) :: ρ) x h = some (.nx (.own (.ins 5 ["slot"] [x]) :: ρ), h) := fldK_0 (by decide) (by decide) (by decide +kernel)
theorem iv_If_parts {v0 : PV} {x : PV} {ρ : PSt} {h : AH} : fldK [5, 6, 7] 0 "parts" (.own (.ins 5 ["slot"] [v0]) :: ρ) x h = some (.nx (.own (.ins 5 ["slot", "parts"] [v0, x]) :: ρ), h) := fldK_0 (by decide) (by decide) (by decide +kernel)
theorem iv_If_others {v0 v1 : PV} {x : PV} {ρ : PSt} {h : AH} : fldK [5, 6, 7] 0 "others" (.own (.ins 5 ["slot", "parts"] [v0, v1]) :: ρ) x h = some (.nx (.own (.ins 5 ["slot", "parts", "others"] [v0, v1, x]) :: ρ), h) := fldK_0 (by decide) (by decide) (by decide +kernel)
theorem fv_Either_parts {v0 v1 : PV} {h : AH} : fldV [5, 6, 7] "parts" (.ins 6 ["parts", "others"] [v0, v1]) h = some (v0, h) := fldV_at (by decide) (by decide +kernel) (by rw [show List.idxOf ("parts" : Str) ["parts", "others"] = 0 by decide +kernel]; rfl)
theorem fv_Either_others {v0 v1 : PV} {h : AH} : fldV [5, 6, 7] "others" (.ins 6 ["parts", "others"] [v0, v1]) h = some (v1, h) := fldV_at (by decide) (by decide +kernel) (by rw [show List.idxOf ("others" : Str) ["parts", "others"] = 1 by decide +kernel]; rfl)
theorem mv_Either_long {v0 v1 : PV} {f : Nat → Fn} {h : AH} : methK "long" f (.ins 6 ["parts", "others"] [v0, v1]) h = f 6 [.ins 6 ["parts", "others"] [v0, v1]] h := methK_at (by decide +kernel)
theorem iv_Either_parts {x : PV} {ρ : PSt} {h : AH} : fldK [5, 6, 7] 0 "parts" (.own (.ins 6 [] []) :: ρ) x h = some (.nx (.own (.ins 6 ["parts"] [x]) :: ρ), h) := fldK_0 (by decide) (by decide) (by decide +kernel)
theorem iv_Either_others {v0 : PV} {x : PV} {ρ : PSt} {h : AH} : fldK [5, 6, 7] 0 "others" (.own (.ins 6 ["parts"] [v0]) :: ρ) x h = some (.nx (.own (.ins 6 ["parts", "others"] [v0, x]) :: ρ), h) := fldK_0 (by decide) (by decide) (by decide +kernel)
theorem fv_Try_parts {v0 v1 v2 v3 : PV} {h : AH} : fldV [5, 6, 7] "parts" (.ins 7 ["parts", "name", "slot", "others"] [v0, v1, v2, v3]) h = some (v0, h) := fldV_at (by decide) (by decide +kernel) (by rw [show List.idxOf ("parts" : Str) ["parts", "name", "slot", "others"] = 0 by decide +kernel]; rfl)
theorem fv_Try_name {v0 v1 v2 v3 : PV} {h : AH} : fldV [7, 8] "name" (.ins 7 ["parts", "name", "slot", "others"] [v0, v1, v2, v3]) h = some (v1, h) := fldV_at (by decide) (by decide +kernel) (by rw [show List.idxOf ("name" : Str) ["parts", "name", "slot", "others"] = 1 by decide +kernel]; rfl)
theorem fv_Try_slot {v0 v1 v2 v3 : PV} {h : AH} : fldV [1, 2, 3, 4, 5, 7, 8] "slot" (.ins 7 ["parts", "name", "slot", "others"] [v0, v1, v2, v3]) h = some (v2, h) := fldV_at (by decide) (by decide +kernel) (by rw [show List.idxOf ("slot" : Str) ["parts", "name", "slot", "others"] = 2 by decide +kernel]; rfl)
theorem fv_Try_others {v0 v1 v2 v3 : PV} {h : AH} : fldV [5, 6, 7] "others" (.ins 7 ["parts", "name", "slot", "others"] [v0, v1, v2, v3]) h = some (v3, h) := fldV_at (by decide) (by decide +kernel) (by rw [show List.idxOf ("others" : Str) ["parts", "name", "slot", "others"] = 3 by decide +kernel]; rfl)
theorem mv_Try_long {v0 v1 v2 v3 : PV} {f : Nat → Fn} {h : AH} : methK "long" f (.ins 7 ["parts", "name", "slot", "others"] [v0, v1, v2, v3]) h = f 7 [.ins 7 ["parts", "name", "slot", "others"] [v0, v1, v2, v3]] h := methK_at (by decide +kernel)
theorem iv_Try_parts {x : PV} {ρ : PSt} {h : AH} : fldK [5, 6, 7] 0 "parts" (.own (.ins 7 [] []) :: ρ) x h = some (.nx (.own (.ins 7 ["parts"] [x]) :: ρ), h) := fldK_0 (by decide) (by decide) (by decide +kernel)
theorem iv_Try_name {v0 : PV} {x : PV} {ρ : PSt} {h : AH} : fldK [7, 8] 0 "name" (.own (.ins 7 ["parts"] [v0]) :: ρ) x h = some (.nx (.own (.ins 7 ["parts", "name"] [v0, x]) :: ρ), h) := fldK_0 (by decide) (by decide) (by decide +kernel)
theorem iv_Try_slot {v0 v1 : PV} {x : PV} {ρ : PSt} {h : AH} : fldK [1, 2, 3, 4, 5, 7, 8] 0 "slot" (.own (.ins 7 ["parts", "name"] [v0, v1]) :: ρ) x h = some (.nx (.own (.ins 7 ["parts", "name", "slot"] [v0, v1, x]) :: ρ), h) := fldK_0 (by decide) (by decide) (by decide +kernel)
theorem iv_Try_others {v0 v1 v2 : PV} {x : PV} {ρ : PSt} {h : AH} : fldK [5, 6, 7] 0 "others" (.own (.ins 7 ["parts", "name", "slot"] [v0, v1, v2]) :: ρ) x h = some (.nx (.own (.ins 7 ["parts", "name", "slot", "others"] [v0, v1, v2, x]) :: ρ), h) := fldK_0 (by decide) (by decide) (by decide +kernel)
theorem fv_Throw_name {v0 v1 : PV} {h : AH} : fldV [7, 8] "name" (.ins 8 ["name", "slot"] [v0, v1]) h = some (v0, h) := fldV_at (by decide) (by decide +kernel) (by rw [show List.idxOf ("name" : Str) ["name", "slot"] = 0 by decide +kernel]; rfl)
theorem fv_Throw_slot {v0 v1 : PV} {h : AH} : fldV [1, 2, 3, 4, 5, 7, 8] "slot" (.ins 8 ["name", "slot"] [v0, v1]) h = some (v1, h) := fldV_at (by decide) (by decide +kernel) (by rw [show List.idxOf ("slot" : Str) ["name", "slot"] = 1 by decide +kernel]; rfl)
theorem mv_Throw_long {v0 v1 : PV} {f : Nat → Fn} {h : AH} : methK "long" f (.ins 8 ["name", "slot"] [v0, v1]) h = f 8 [.ins 8 ["name", "slot"] [v0, v1]] h := methK_at (by decide +kernel)
theorem iv_Throw_name {x : PV} {ρ : PSt} {h : AH} : fldK [7, 8] 0 "name" (.own (.ins 8 [] []) :: ρ) x h = some (.nx (.own (.ins 8 ["name"] [x]) :: ρ), h) := fldK_0 (by decide) (by decide) (by decide +kernel)
theorem iv_Throw_slot {v0 : PV} {x : PV} {ρ : PSt} {h : AH} : fldK [1, 2, 3, 4, 5, 7, 8] 0 "slot" (.own (.ins 8 ["name"] [v0]) :: ρ) x h = some (.nx (.own (.ins 8 ["name", "slot"] [v0, x]) :: ρ), h) := fldK_0 (by decide) (by decide) (by decide +kernel)
theorem mv_Wait_long {f : Nat → Fn} {h : AH} : methK "long" f (.ins 9 [] []) h = f 9 [.ins 9 [] []] h := methK_at (by decide +kernel)
section
local macro_rules | `(tactic| walk_at "px") => `(tactic| simp only [x_ob, x_obN, x_obA, x_var0, x_varS, x_c, x_op, x_opO, x_un, x_oB, x_chain, x_test, x_andV, x_orV, x_notV, x_and, x_or, x_not, x_if, x_nil, x_cons, x_tup, x_lst, x_fz, x_fzL, x_fzI, x_loc, x_call, x_cb, x_cbO, x_bm, x_isStr, x_make, x_makeO, x_next, x_seq, x_sqN, x_sqR, x_sqB, x_sqC, x_break, x_cont, x_drop, x_ret, x_retN, x_ifS, x_asg, x_asgO, x_name, x_yNil, x_yCons, x_yTup, x_frz, x_fz0, x_fzS, x_fvO, x_fvV, x_fvN, x_for, x_frN, x_frC, x_frB, x_frR, x_fnR, x_fnN, x_inK, x_i, x_ic, x_fld, x_fldO, x_meth, x_neg, mulOkR, mulOkL, powOk, x_eqI, x_eqS, x_eqB, x_neI, x_neS, x_isN, x_notN, x_addS, x_in1, x_ixL, x_ixR, x_ixT, x_ixS, x_slL, x_slR, x_cat, x_rep, x_sl, x_slO, x_part, x_nopart, x_lenL, x_lenT, x_lenR, x_lenS, x_int1i, x_int1b, x_strI, x_listL, x_listT, x_comp, x_ite, Option.bind_some, Option.bind_none, List.set_cons_zero, List.set_cons_succ, List.length_cons, List.length_nil, decide_eq_true_eq, Bool.not_eq_true', decide_eq_false_iff_not, if_true, if_false, ite_true, ite_false, and_self, Int.reducePow, Int.reduceToNat, Int.reduceLT, Int.reduceLE, Int.reduceNeg, Int.reduceAdd, Int.reduceSub, Nat.reduceLT, Nat.reduceLeDiff, Nat.reduceAdd, true_and, and_true, reduceIte, Nat.reduceEqDiff, le_refl_nat, eq_self, at_0, at_1, at_2, at_3, at_4, at_5, dec_T, dec_F, ff_eq, tf_eq, Int.reduceEq, Nat.reduceEqDiff, Bool.not_true, Bool.not_false, slen_0, slen_1, slen_2, slen_3, slen_4, slen_5, slen_6, slen_7, slen_8, slen_9, slen_10, slen_11, slen_12, slen_13, slen_14, slen_15, slen_16, slen_17, slen_18, slen_19, slen_20, slen_21, slen_22, mv_Part_long, fv_Let_slot, fv_Let_number, mv_Let_long, iv_Let_slot, iv_Let_number, fv_Reckon_word, fv_Reckon_slot, fv_Reckon_one, fv_Reckon_other, mv_Reckon_long, iv_Reckon_word, iv_Reckon_slot, iv_Reckon_one, iv_Reckon_other, fv_Take_slot, fv_Take_place, mv_Take_long, iv_Take_slot, iv_Take_place, fv_Put_place, fv_Put_slot, mv_Put_long, iv_Put_place, iv_Put_slot, fv_If_slot, fv_If_parts, fv_If_others, mv_If_long, iv_If_slot, iv_If_parts, iv_If_others, fv_Either_parts, fv_Either_others, mv_Either_long, iv_Either_parts, iv_Either_others, fv_Try_parts, fv_Try_name, fv_Try_slot, fv_Try_others, mv_Try_long, iv_Try_parts, iv_Try_name, iv_Try_slot, iv_Try_others, fv_Throw_name, fv_Throw_slot, mv_Throw_long, iv_Throw_name, iv_Throw_slot, mv_Wait_long, x_ixA_t, x_ixA_l])
def isaTb : List (Nat × Nat × Bool) := [(1, 5, false), (1, 6, false), (1, 7, false), (2, 5, false), (2, 6, false), (2, 7, false), (3, 5, false), (3, 6, false), (3, 7, false), (4, 5, false), (4, 6, false), (4, 7, false), (8, 5, false), (8, 6, false), (8, 7, false), (9, 5, false), (9, 6, false), (9, 7, false), (1, 1, true), (2, 1, false), (2, 2, true), (3, 1, false), (3, 2, false), (3, 3, true), (4, 1, false), (4, 2, false), (4, 3, false), (4, 4, true), (8, 1, false), (8, 2, false), (8, 3, false), (8, 4, false), (8, 8, true), (9, 1, false), (9, 2, false), (9, 3, false), (9, 4, false), (9, 8, false), (9, 9, true), (5, 5, true), (6, 5, false), (6, 6, true), (7, 5, false), (7, 6, false), (7, 7, true)]
structure Fa (ck : Ck) : Prop where
  fl_slot : ∀ k ∈ ([1, 2, 3, 4, 5, 7, 8] : List Nat), Cls ck.K (ck.A k) ∧ NoAttr ck.K (ck.A k) "slot"
  fl_number : ∀ k ∈ ([1] : List Nat), Cls ck.K (ck.A k) ∧ NoAttr ck.K (ck.A k) "number"
  fl_word : ∀ k ∈ ([2] : List Nat), Cls ck.K (ck.A k) ∧ NoAttr ck.K (ck.A k) "word"
  fl_one : ∀ k ∈ ([2] : List Nat), Cls ck.K (ck.A k) ∧ NoAttr ck.K (ck.A k) "one"
  fl_other : ∀ k ∈ ([2] : List Nat), Cls ck.K (ck.A k) ∧ NoAttr ck.K (ck.A k) "other"
  fl_place : ∀ k ∈ ([3, 4] : List Nat), Cls ck.K (ck.A k) ∧ NoAttr ck.K (ck.A k) "place"
  fl_name : ∀ k ∈ ([7, 8] : List Nat), Cls ck.K (ck.A k) ∧ NoAttr ck.K (ck.A k) "name"
  fl_parts : ∀ k ∈ ([5, 6, 7] : List Nat), Cls ck.K (ck.A k) ∧ NoAttr ck.K (ck.A k) "parts"
  fl_others : ∀ k ∈ ([5, 6, 7] : List Nat), Cls ck.K (ck.A k) ∧ NoAttr ck.K (ck.A k) "others"
  isa : ∀ r ∈ isaTb, ∀ (H : Hp) (a dx : Addr) (fs : List (Str × V)), H a = some (.ins (ck.A r.1) dx fs) → IsI ck.K H (.ref a) (.ref (ck.A r.2.1)) r.2.2
noncomputable def p_Let___init__ : List PV → AH → Option (Nd × AH) := runI 3 1 (xSeq (xFldO [1, 2, 3, 4, 5, 7, 8] 0 "slot" (xVar 1)) (xFldO [1] 0 "number" (xVar 2)))
noncomputable def p_Reckon___init__ : List PV → AH → Option (Nd × AH) := runI 5 2 (xSeq (xFldO [2] 0 "word" (xVar 1)) (xSeq (xFldO [1, 2, 3, 4, 5, 7, 8] 0 "slot" (xVar 2)) (xSeq (xFldO [2] 0 "one" (xVar 3)) (xFldO [2] 0 "other" (xVar 4)))))
noncomputable def p_Take___init__ : List PV → AH → Option (Nd × AH) := runI 3 3 (xSeq (xFldO [1, 2, 3, 4, 5, 7, 8] 0 "slot" (xVar 1)) (xFldO [3, 4] 0 "place" (xVar 2)))
noncomputable def p_Put___init__ : List PV → AH → Option (Nd × AH) := runI 3 4 (xSeq (xFldO [3, 4] 0 "place" (xVar 1)) (xFldO [1, 2, 3, 4, 5, 7, 8] 0 "slot" (xVar 2)))
noncomputable def p_If___init__ : List PV → AH → Option (Nd × AH) := runI 4 5 (xSeq (xFldO [1, 2, 3, 4, 5, 7, 8] 0 "slot" (xVar 1)) (xSeq (xFldO [5, 6, 7] 0 "parts" (xFz (xCBO (bListOf) (xCons (xVar 2) (xNil))))) (xFldO [5, 6, 7] 0 "others" (xFz (xCBO (bListOf) (xCons (xVar 3) (xNil)))))))
noncomputable def p_Either___init__ : List PV → AH → Option (Nd × AH) := runI 3 6 (xSeq (xFldO [5, 6, 7] 0 "parts" (xFz (xCBO (bListOf) (xCons (xVar 1) (xNil))))) (xFldO [5, 6, 7] 0 "others" (xFz (xCBO (bListOf) (xCons (xVar 2) (xNil))))))
noncomputable def p_Try___init__ : List PV → AH → Option (Nd × AH) := runI 5 7 (xSeq (xFldO [5, 6, 7] 0 "parts" (xFz (xCBO (bListOf) (xCons (xVar 1) (xNil))))) (xSeq (xFldO [7, 8] 0 "name" (xVar 2)) (xSeq (xFldO [1, 2, 3, 4, 5, 7, 8] 0 "slot" (xVar 3)) (xFldO [5, 6, 7] 0 "others" (xFz (xCBO (bListOf) (xCons (xVar 4) (xNil))))))))
noncomputable def p_Throw___init__ : List PV → AH → Option (Nd × AH) := runI 3 8 (xSeq (xFldO [7, 8] 0 "name" (xVar 1)) (xFldO [1, 2, 3, 4, 5, 7, 8] 0 "slot" (xVar 2)))
noncomputable def p_Part_long : Fn := runF 1 (xRet (xC (.int 0)))
noncomputable def p_Let_long : Fn := runF 1 (xRet (xC (.int 1)))
noncomputable def p_Reckon_long : Fn := runF 1 (xRet (xC (.int 1)))
noncomputable def p_Take_long : Fn := runF 1 (xRet (xC (.int 1)))
noncomputable def p_Put_long : Fn := runF 1 (xRet (xC (.int 1)))
noncomputable def p_Throw_long : Fn := runF 1 (xRet (xC (.int 1)))
noncomputable def p_Wait_long : Fn := runF 1 (xRet (xC (.int 1)))
mutual
noncomputable def p_long : Nat → Nat → Fn
  | 0, _ => fun _ _ => none
  | n + 1, k => match k with | 0 => p_Part_long | 1 => p_Let_long | 2 => p_Reckon_long | 3 => p_Take_long | 4 => p_Put_long | 5 => p_If_long n | 6 => p_Either_long n | 7 => p_Try_long n | 8 => p_Throw_long | 9 => p_Wait_long | _ => fun _ _ => none
noncomputable def p_list_long : Nat → Fn
  | 0 => fun _ _ => none
  | n + 1 => runF 1 (xRet (xCB (bSum) (xCons (xFz (xComp (xIL (xVar 0)) [] (xMeth "long" (p_long n) (xVar 0)))) (xNil))))
noncomputable def p_If_long : Nat → Fn
  | 0 => fun _ _ => none
  | n + 1 => runF 1 (xRet (xOp oAdd (xOp oAdd (xC (.int 2)) (xCall (p_list_long n) (xCons (xFld [5, 6, 7] "parts" (xVar 0)) (xNil)))) (xCall (p_list_long n) (xCons (xFld [5, 6, 7] "others" (xVar 0)) (xNil)))))
noncomputable def p_Either_long : Nat → Fn
  | 0 => fun _ _ => none
  | n + 1 => runF 1 (xRet (xOp oAdd (xOp oAdd (xC (.int 3)) (xCall (p_list_long n) (xCons (xFld [5, 6, 7] "parts" (xVar 0)) (xNil)))) (xCall (p_list_long n) (xCons (xFld [5, 6, 7] "others" (xVar 0)) (xNil)))))
noncomputable def p_Try_long : Nat → Fn
  | 0 => fun _ _ => none
  | n + 1 => runF 1 (xRet (xOp oAdd (xOp oAdd (xC (.int 3)) (xCall (p_list_long n) (xCons (xFld [5, 6, 7] "parts" (xVar 0)) (xNil)))) (xCall (p_list_long n) (xCons (xFld [5, 6, 7] "others" (xVar 0)) (xNil)))))
end
noncomputable def p_plain_rows : Fn := runF 1 (xSeq (xIfS (xTest (xCB (bIsi isaTb) (xCons (xVar 0) (xCons (xC (.cls 1)) (xNil))))) (xRet (xFz (xLst (xCons (xTup (xCons (xC (.str "let")) (xCons (xFld [1, 2, 3, 4, 5, 7, 8] "slot" (xVar 0)) (xCons (xFld [1] "number" (xVar 0)) (xNil))))) (xNil))))) (xNext)) (xSeq (xIfS (xTest (xCB (bIsi isaTb) (xCons (xVar 0) (xCons (xC (.cls 2)) (xNil))))) (xRet (xFz (xLst (xCons (xTup (xCons (xFld [2] "word" (xVar 0)) (xCons (xFld [1, 2, 3, 4, 5, 7, 8] "slot" (xVar 0)) (xCons (xFld [2] "one" (xVar 0)) (xCons (xFld [2] "other" (xVar 0)) (xNil)))))) (xNil))))) (xNext)) (xSeq (xIfS (xTest (xCB (bIsi isaTb) (xCons (xVar 0) (xCons (xC (.cls 3)) (xNil))))) (xRet (xFz (xLst (xCons (xTup (xCons (xC (.str "take")) (xCons (xFld [1, 2, 3, 4, 5, 7, 8] "slot" (xVar 0)) (xCons (xFld [3, 4] "place" (xVar 0)) (xNil))))) (xNil))))) (xNext)) (xSeq (xIfS (xTest (xCB (bIsi isaTb) (xCons (xVar 0) (xCons (xC (.cls 4)) (xNil))))) (xRet (xFz (xLst (xCons (xTup (xCons (xC (.str "put")) (xCons (xFld [3, 4] "place" (xVar 0)) (xCons (xFld [1, 2, 3, 4, 5, 7, 8] "slot" (xVar 0)) (xNil))))) (xNil))))) (xNext)) (xSeq (xIfS (xTest (xCB (bIsi isaTb) (xCons (xVar 0) (xCons (xC (.cls 8)) (xNil))))) (xRet (xFz (xLst (xCons (xTup (xCons (xC (.str "throw")) (xCons (xFld [7, 8] "name" (xVar 0)) (xCons (xFld [1, 2, 3, 4, 5, 7, 8] "slot" (xVar 0)) (xNil))))) (xNil))))) (xNext)) (xSeq (xIfS (xTest (xCB (bIsi isaTb) (xCons (xVar 0) (xCons (xC (.cls 9)) (xNil))))) (xRet (xFz (xLst (xCons (xTup (xCons (xC (.str "wait")) (xNil))) (xNil))))) (xNext)) (xRet (xFz (xLst (xNil))))))))))
noncomputable def p_first_row : Fn := runF 2 (xSeq (xIfS (xTest (xCB (bIsi isaTb) (xCons (xVar 0) (xCons (xC (.cls 5)) (xNil))))) (xRet (xTup (xCons (xC (.str "unless")) (xCons (xFld [1, 2, 3, 4, 5, 7, 8] "slot" (xVar 0)) (xCons (xVar 1) (xNil)))))) (xNext)) (xSeq (xIfS (xTest (xCB (bIsi isaTb) (xCons (xVar 0) (xCons (xC (.cls 6)) (xNil))))) (xRet (xTup (xCons (xC (.str "either")) (xCons (xVar 1) (xNil))))) (xNext)) (xRet (xTup (xCons (xC (.str "guard")) (xCons (xFld [7, 8] "name" (xVar 0)) (xCons (xFld [1, 2, 3, 4, 5, 7, 8] "slot" (xVar 0)) (xCons (xVar 1) (xNil)))))))))
noncomputable def p_rows_between : Fn := runF 2 (xSeq (xIfS (xTest (xCB (bIsi isaTb) (xCons (xVar 0) (xCons (xC (.cls 5)) (xNil))))) (xRet (xFz (xLst (xCons (xTup (xCons (xC (.str "jump")) (xCons (xVar 1) (xNil)))) (xNil))))) (xNext)) (xRet (xFz (xLst (xCons (xTup (xCons (xC (.str "settle")) (xNil))) (xCons (xTup (xCons (xC (.str "jump")) (xCons (xVar 1) (xNil)))) (xNil)))))))
mutual
noncomputable def p_list_rows : Nat → Fn
  | 0 => fun _ _ => none
  | n + 1 => runF 4 (xSeq (xAsgO (xLst (xNil)) 2) (xSeq (xFor (xIL (xVar 0)) (yName 3) (xExtO 2 (xCall (p_part_rows n) (xCons (xVar 3) (xCons (xOp oAdd (xVar 1) (xLenO 2)) (xNil)))))) (xFrz 2 (xRet (xVar 2)))))
noncomputable def p_part_rows : Nat → Fn
  | 0 => fun _ _ => none
  | n + 1 => runF 2 (xSeq (xIfS (xOr (xTest (xCB (bIsi isaTb) (xCons (xVar 0) (xCons (xC (.cls 5)) (xNil))))) (xOr (xTest (xCB (bIsi isaTb) (xCons (xVar 0) (xCons (xC (.cls 6)) (xNil))))) (xTest (xCB (bIsi isaTb) (xCons (xVar 0) (xCons (xC (.cls 7)) (xNil))))))) (xRet (xCall (p_sided_rows n) (xCons (xVar 0) (xCons (xVar 1) (xNil))))) (xNext)) (xRet (xCall p_plain_rows (xCons (xVar 0) (xNil)))))
noncomputable def p_sided_rows : Nat → Fn
  | 0 => fun _ _ => none
  | n + 1 => runF 6 (xSeq (xAsg (xOp oAdd (xVar 1) (xMeth "long" (p_long 20) (xVar 0))) (yName 2)) (xSeq (xAsg (xOp oSub (xVar 2) (xCall (p_list_long 20) (xCons (xFld [5, 6, 7] "others" (xVar 0)) (xNil)))) (yName 3)) (xSeq (xAsg (xCall (p_list_rows n) (xCons (xFld [5, 6, 7] "parts" (xVar 0)) (xCons (xOp oAdd (xVar 1) (xC (.int 1))) (xNil)))) (yName 4)) (xSeq (xAsg (xCall (p_list_rows n) (xCons (xFld [5, 6, 7] "others" (xVar 0)) (xCons (xVar 3) (xNil)))) (yName 5)) (xRet (xFz (xOpO oCat (xFz (xOpO oCat (xFz (xOpO oCat (xFz (xLst (xCons (xCall p_first_row (xCons (xVar 0) (xCons (xVar 3) (xNil)))) (xNil)))) (xVar 4))) (xCall p_rows_between (xCons (xVar 0) (xCons (xVar 2) (xNil)))))) (xVar 5))))))))
end
noncomputable def p_rows_of : Fn := runF 1 (xRet (xFz (xOpO oCat (xCall (p_list_rows 20) (xCons (xVar 0) (xCons (xC (.int 0)) (xNil)))) (xFz (xLst (xCons (xTup (xCons (xC (.str "lay")) (xNil))) (xNil)))))))
noncomputable def p__law_mixed : Fn := runF 1 (xRet (xOp oMod (xOp oMul (xVar 0) (xC (.int 48271))) (xC (.int 999999999989))))
noncomputable def p__law_wide : Fn := runF 1 (xRet (xOp oMod (xOp oMul (xVar 0) (xC (.int 982451653))) (xOp oPow (xC (.int 2)) (xC (.int 64)))))
noncomputable def p__law_names : Fn := runF 10 (xSeq (xAsg (xC (.str "abcdefghijklmnopqrstuvwxyz")) (yName 1)) (xSeq (xAsg (xCall p__law_mixed (xCons (xVar 0) (xNil))) (yName 2)) (xSeq (xAsg (xOp oAdd (xC (.int 1)) (xOp oMod (xVar 2) (xC (.int 8)))) (yName 3)) (xSeq (xAsg (xOp oMod (xOp oDiv (xVar 2) (xC (.int 8))) (xVar 3)) (yName 4)) (xSeq (xAsgO (xLst (xNil)) 5) (xSeq (xFor (xIR1 (xCons (xC (.int 3)) (xNil))) (yName 6) (xSeq (xAsg (xC (.str "")) (yName 7)) (xSeq (xFor (xIR1 (xCons (xVar 3) (xNil))) (yName 8) (xSeq (xAsg (xOp oAdd (xOp oDiv (xOp oDiv (xVar 2) (xC (.int 64))) (xOp oAdd (xOp oMul (xVar 8) (xVar 8)) (xC (.int 1)))) (xVar 8)) (yName 9)) (xSeq (xIfS (xTest (xOp (oEq) (xVar 8) (xVar 4))) (xAsg (xOp oAdd (xVar 9) (xVar 6)) (yName 9)) (xNext)) (xAsg (xOp oAddS (xVar 7) (xOp (oIxS) (xVar 1) (xOp oMod (xVar 9) (xC (.int 26))))) (yName 7))))) (xAppO 5 (xVar 7))))) (xFrz 5 (xRet (xVar 5)))))))))
noncomputable def p__law_plain : Fn := runF 11 (xSeq (xAsg (xSl oSlS (xC (.str "abcdefgh")) (xNoPart) (xPart (xOp (oIxL) (xFz (xLst (xCons (xC (.int 2)) (xCons (xC (.int 3)) (xCons (xC (.int 8)) (xNil)))))) (xOp oMod (xVar 0) (xC (.int 3)))))) (yName 2)) (xSeq (xAsg (xCB (bLenS) (xCons (xVar 2) (xNil))) (yName 3)) (xSeq (xAsg (xOp oDiv (xVar 0) (xC (.int 33))) (yName 4)) (xSeq (xAsg (xOp (oIxS) (xVar 2) (xOp oMod (xVar 4) (xVar 3))) (yName 5)) (xSeq (xAsg (xOp (oIxS) (xVar 2) (xOp oMod (xOp oDiv (xVar 4) (xVar 3)) (xVar 3))) (yName 6)) (xSeq (xAsg (xOp (oIxS) (xVar 2) (xOp oMod (xOp oDiv (xOp oDiv (xVar 4) (xVar 3)) (xVar 3)) (xVar 3))) (yName 7)) (xSeq (xAsg (xOp oMod (xOp oDiv (xVar 0) (xC (.int 3))) (xC (.int 11))) (yName 8)) (xSeq (xIfS (xTest (xOp (oEq) (xVar 8) (xC (.int 0)))) (xRet (xFz (xLst (xCons (xTup (xCons (xC (.str "let")) (xCons (xVar 5) (xCons (xCall p__law_wide (xCons (xVar 1) (xNil))) (xNil))))) (xNil))))) (xNext)) (xSeq (xIfS (xTest (xOp (oLt) (xVar 8) (xC (.int 3)))) (xRet (xFz (xLst (xCons (xTup (xCons (xC (.str "let")) (xCons (xVar 5) (xCons (xOp oMod (xOp oDiv (xVar 4) (xC (.int 1000))) (xC (.int 4))) (xNil))))) (xNil))))) (xNext)) (xSeq (xIfS (xTest (xOp (oLt) (xVar 8) (xC (.int 5)))) (xSeq (xAsg (xOp (oIxL) (xFz (xLst (xCons (xC (.str "plus")) (xCons (xC (.str "minus")) (xCons (xC (.str "times")) (xCons (xC (.str "less")) (xCons (xC (.str "same")) (xNil)))))))) (xOp oMod (xOp oDiv (xVar 4) (xC (.int 1000))) (xC (.int 5)))) (yName 9)) (xRet (xFz (xLst (xCons (xTup (xCons (xC (.str "reckon")) (xCons (xVar 9) (xCons (xVar 5) (xCons (xVar 6) (xCons (xVar 7) (xNil))))))) (xNil)))))) (xNext)) (xSeq (xIfS (xTest (xOp (oLt) (xVar 8) (xC (.int 7)))) (xRet (xFz (xLst (xCons (xTup (xCons (xC (.str "take")) (xCons (xVar 5) (xCons (xVar 6) (xNil))))) (xNil))))) (xNext)) (xSeq (xIfS (xTest (xOp (oLt) (xVar 8) (xC (.int 9)))) (xRet (xFz (xLst (xCons (xTup (xCons (xC (.str "put")) (xCons (xVar 5) (xCons (xVar 6) (xNil))))) (xNil))))) (xNext)) (xSeq (xAsg (xOp (oIxL) (xFz (xLst (xCons (xC (.str "plus")) (xCons (xC (.str "minus")) (xCons (xC (.str "times")) (xNil)))))) (xOp oMod (xOp oDiv (xVar 4) (xC (.int 1000))) (xC (.int 3)))) (yName 9)) (xSeq (xAsg (xFz (xLst (xCons (xTup (xCons (xC (.str "let")) (xCons (xVar 5) (xCons (xOp oMod (xOp oDiv (xVar 4) (xC (.int 3000))) (xC (.int 3))) (xNil))))) (xCons (xTup (xCons (xC (.str "take")) (xCons (xVar 6) (xCons (xVar 5) (xNil))))) (xNil))))) (yName 10)) (xRet (xFz (xOpO oCat (xVar 10) (xFz (xLst (xCons (xTup (xCons (xC (.str "reckon")) (xCons (xVar 9) (xCons (xVar 6) (xCons (xVar 6) (xCons (xVar 7) (xNil))))))) (xCons (xTup (xCons (xC (.str "put")) (xCons (xVar 5) (xCons (xVar 6) (xNil))))) (xNil))))))))))))))))))))))
noncomputable def p__law_sided : Fn := runF 8 (xSeq (xAsg (xC (.str "abc")) (yName 4)) (xSeq (xAsg (xOp (oIxS) (xVar 4) (xOp oMod (xOp oDiv (xVar 0) (xC (.int 9))) (xC (.int 3)))) (yName 5)) (xSeq (xAsg (xOp oMod (xVar 0) (xC (.int 3))) (yName 6)) (xSeq (xIfS (xTest (xOp (oEq) (xVar 6) (xC (.int 0)))) (xRet (xTup (xCons (xC (.str "if")) (xCons (xVar 5) (xCons (xVar 1) (xCons (xVar 2) (xNil))))))) (xNext)) (xSeq (xAsg (xTup (xCons (xC (.str "wait")) (xNil))) (yName 7)) (xSeq (xIfS (xTest (xOp (oEq) (xVar 6) (xC (.int 2)))) (xAsg (xTup (xCons (xC (.str "throw")) (xCons (xOp (oIxL) (xVar 3) (xOp oMod (xOp oDiv (xVar 0) (xC (.int 27))) (xC (.int 3)))) (xCons (xVar 5) (xNil))))) (yName 7)) (xNext)) (xSeq (xIfS (xTest (xOp (oEq) (xOp oMod (xOp oDiv (xVar 0) (xC (.int 3))) (xC (.int 3))) (xC (.int 1)))) (xAsg (xFz (xOpO oCat (xVar 1) (xFz (xLst (xCons (xVar 7) (xNil)))))) (yName 1)) (xNext)) (xSeq (xIfS (xTest (xOp (oEq) (xOp oMod (xOp oDiv (xVar 0) (xC (.int 3))) (xC (.int 3))) (xC (.int 2)))) (xAsg (xFz (xOpO oCat (xVar 1) (xFz (xLst (xCons (xTup (xCons (xC (.str "if")) (xCons (xVar 5) (xCons (xFz (xLst (xCons (xVar 7) (xNil)))) (xCons (xFz (xLst (xNil))) (xNil)))))) (xNil)))))) (yName 1)) (xNext)) (xSeq (xIfS (xTest (xOp (oEq) (xVar 6) (xC (.int 1)))) (xRet (xTup (xCons (xC (.str "either")) (xCons (xVar 1) (xCons (xVar 2) (xNil)))))) (xNext)) (xRet (xTup (xCons (xC (.str "try")) (xCons (xVar 1) (xCons (xOp (oIxL) (xVar 3) (xOp oMod (xOp oDiv (xVar 0) (xC (.int 81))) (xC (.int 3)))) (xCons (xOp (oIxS) (xVar 4) (xOp oMod (xOp oDiv (xVar 0) (xC (.int 243))) (xC (.int 3)))) (xCons (xVar 2) (xNil)))))))))))))))))
noncomputable def p__law_tree : Nat → Fn
  | 0 => fun _ _ => none
  | n + 1 => runF 12 (xSeq (xAsgO (xLst (xNil)) 3) (xSeq (xAsg (xC (.int 0)) (yName 4)) (xSeq (xWhile 1000 (xTest (xOp (oLt) (xVar 4) (xCB (bLenL) (xCons (xVar 0) (xNil))))) (xSeq (xAsg (xOp (oIxL) (xVar 0) (xVar 4)) (yName 5)) (xSeq (xAsg (xCall p__law_mixed (xCons (xVar 5) (xNil))) (yName 6)) (xSeq (xAsg (xOp oAdd (xVar 4) (xC (.int 1))) (yName 4)) (xIfS (xOr (xTest (xOp (oEq) (xVar 1) (xC (.int 0)))) (xTest (xOp (oLt) (xOp oMod (xVar 6) (xC (.int 11))) (xC (.int 6))))) (xFrz 3 (xAsgO (xOpO oCat (xVar 3) (xCall p__law_plain (xCons (xOp oDiv (xVar 6) (xC (.int 11))) (xCons (xVar 5) (xNil))))) 3)) (xIfS (xTest (xOp (oEq) (xOp oMod (xVar 6) (xC (.int 11))) (xC (.int 6)))) (xSeq (xAsg (xFz (xLst (xCons (xTup (xCons (xC (.str "wait")) (xNil))) (xCons (xTup (xCons (xC (.str "throw")) (xCons (xOp (oIxL) (xVar 2) (xOp oMod (xOp oDiv (xVar 6) (xC (.int 33))) (xC (.int 3)))) (xCons (xOp (oIxS) (xC (.str "abc")) (xOp oMod (xOp oDiv (xVar 6) (xC (.int 99))) (xC (.int 3)))) (xNil))))) (xNil))))) (yName 7)) (xAppO 3 (xOp (oIxL) (xVar 7) (xOp oDiv (xOp oMod (xOp oDiv (xVar 6) (xC (.int 11))) (xC (.int 3))) (xC (.int 2)))))) (xSeq (xAsg (xOp oMod (xOp oDiv (xVar 6) (xC (.int 11))) (xC (.int 4))) (yName 8)) (xSeq (xAsg (xOp oMod (xOp oDiv (xVar 6) (xC (.int 44))) (xC (.int 3))) (yName 9)) (xSeq (xAsg (xCall (p__law_tree n) (xCons (xFz (xSlO oSlL (xVar 0) (xPart (xVar 4)) (xPart (xOp oAdd (xVar 4) (xVar 8))))) (xCons (xOp oSub (xVar 1) (xC (.int 1))) (xCons (xVar 2) (xNil))))) (yName 10)) (xSeq (xAsg (xCall (p__law_tree n) (xCons (xFz (xSlO oSlL (xVar 0) (xPart (xOp oAdd (xVar 4) (xVar 8))) (xPart (xOp oAdd (xOp oAdd (xVar 4) (xVar 8)) (xVar 9))))) (xCons (xOp oSub (xVar 1) (xC (.int 1))) (xCons (xVar 2) (xNil))))) (yName 11)) (xSeq (xAsg (xOp oAdd (xOp oAdd (xVar 4) (xVar 8)) (xVar 9)) (yName 4)) (xAppO 3 (xCall p__law_sided (xCons (xOp oDiv (xVar 6) (xC (.int 132))) (xCons (xVar 10) (xCons (xVar 11) (xCons (xVar 2) (xNil)))))))))))))))))) (xFrz 3 (xRet (xVar 3))))))
noncomputable def p__law_made : Nat → Fn
  | 0 => fun _ _ => none
  | n + 1 => runF 3 (xSeq (xAsgO (xLst (xNil)) 1) (xSeq (xFor (xIL (xVar 0)) (yName 2) (xIfS (xTest (xOp (oEq) (xOp (oIxT) (xVar 2) (xC (.int 0))) (xC (.str "let")))) (xAppO 1 (xFz (xMake p_Let___init__ (xCons (xOp (oIxT) (xVar 2) (xC (.int 1))) (xCons (xOp (oIxT) (xVar 2) (xC (.int 2))) (xNil)))))) (xIfS (xTest (xOp (oEq) (xOp (oIxT) (xVar 2) (xC (.int 0))) (xC (.str "reckon")))) (xAppO 1 (xFz (xMake p_Reckon___init__ (xCons (xOp (oIxT) (xVar 2) (xC (.int 1))) (xCons (xOp (oIxT) (xVar 2) (xC (.int 2))) (xCons (xOp (oIxT) (xVar 2) (xC (.int 3))) (xCons (xOp (oIxT) (xVar 2) (xC (.int 4))) (xNil)))))))) (xIfS (xTest (xOp (oEq) (xOp (oIxT) (xVar 2) (xC (.int 0))) (xC (.str "take")))) (xAppO 1 (xFz (xMake p_Take___init__ (xCons (xOp (oIxT) (xVar 2) (xC (.int 1))) (xCons (xOp (oIxT) (xVar 2) (xC (.int 2))) (xNil)))))) (xIfS (xTest (xOp (oEq) (xOp (oIxT) (xVar 2) (xC (.int 0))) (xC (.str "put")))) (xAppO 1 (xFz (xMake p_Put___init__ (xCons (xOp (oIxT) (xVar 2) (xC (.int 1))) (xCons (xOp (oIxT) (xVar 2) (xC (.int 2))) (xNil)))))) (xIfS (xTest (xOp (oEq) (xOp (oIxT) (xVar 2) (xC (.int 0))) (xC (.str "if")))) (xAppO 1 (xFz (xMake p_If___init__ (xCons (xOp (oIxT) (xVar 2) (xC (.int 1))) (xCons (xCall (p__law_made n) (xCons (xOp (oIxT) (xVar 2) (xC (.int 2))) (xNil))) (xCons (xCall (p__law_made n) (xCons (xOp (oIxT) (xVar 2) (xC (.int 3))) (xNil))) (xNil))))))) (xIfS (xTest (xOp (oEq) (xOp (oIxT) (xVar 2) (xC (.int 0))) (xC (.str "either")))) (xAppO 1 (xFz (xMake p_Either___init__ (xCons (xCall (p__law_made n) (xCons (xOp (oIxT) (xVar 2) (xC (.int 1))) (xNil))) (xCons (xCall (p__law_made n) (xCons (xOp (oIxT) (xVar 2) (xC (.int 2))) (xNil))) (xNil)))))) (xIfS (xTest (xOp (oEq) (xOp (oIxT) (xVar 2) (xC (.int 0))) (xC (.str "try")))) (xAppO 1 (xFz (xMake p_Try___init__ (xCons (xCall (p__law_made n) (xCons (xOp (oIxT) (xVar 2) (xC (.int 1))) (xNil))) (xCons (xOp (oIxT) (xVar 2) (xC (.int 2))) (xCons (xOp (oIxT) (xVar 2) (xC (.int 3))) (xCons (xCall (p__law_made n) (xCons (xOp (oIxT) (xVar 2) (xC (.int 4))) (xNil))) (xNil)))))))) (xIfS (xTest (xOp (oEq) (xOp (oIxT) (xVar 2) (xC (.int 0))) (xC (.str "throw")))) (xAppO 1 (xFz (xMake p_Throw___init__ (xCons (xOp (oIxT) (xVar 2) (xC (.int 1))) (xCons (xOp (oIxT) (xVar 2) (xC (.int 2))) (xNil)))))) (xAppO 1 (xFz (xMakeO 9)))))))))))) (xFrz 1 (xRet (xVar 1)))))
noncomputable def p__law_ahead : Fn := runF 4 (xSeq (xFor (xIR1 (xCons (xCB (bLenL) (xCons (xVar 0) (xNil))) (xNil))) (yName 1) (xSeq (xAsg (xOp (oIxL) (xVar 0) (xVar 1)) (yName 2)) (xSeq (xIfS (xOr (xNot (xTest (xCB (bIsi isaTb) (xCons (xVar 2) (xCons (xC (.ty "tuple")) (xNil)))))) (xTest (xOp (oEq) (xCB (bLenL) (xCons (xVar 2) (xNil))) (xC (.int 0))))) (xRet (xC (.bl false))) (xNext)) (xIfS (xTest (xOp (oInL false) (xOp (oIxT) (xVar 2) (xC (.int 0))) (xTup (xCons (xC (.str "unless")) (xCons (xC (.str "either")) (xCons (xC (.str "guard")) (xCons (xC (.str "jump")) (xNil)))))))) (xSeq (xAsg (xOp (oIxT) (xVar 2) (xUn oNeg (xC (.int 1)))) (yName 3)) (xIfS (xOr (xNot (xTest (xCB (bIsi isaTb) (xCons (xVar 3) (xCons (xC (.ty "int")) (xNil)))))) (xOr (xTest (xCB (bIsi isaTb) (xCons (xVar 3) (xCons (xC (.ty "bool")) (xNil))))) (xNot (xTest (xChain (oLt) (oLt) (xVar 1) (xVar 3) (xCB (bLenL) (xCons (xVar 0) (xNil)))))))) (xRet (xC (.bl false))) (xNext))) (xNext))))) (xRet (xOp (oEqD) (xOp (oIxL) (xVar 0) (xUn oNeg (xC (.int 1)))) (xTup (xCons (xC (.str "lay")) (xNil))))))
noncomputable def p__law_one_back : Fn := runF 1 (xSeq (xIfS (xAnd (xTest (xOp (oInL false) (xOp (oIxT) (xVar 0) (xC (.int 0))) (xTup (xCons (xC (.str "plus")) (xCons (xC (.str "minus")) (xCons (xC (.str "times")) (xCons (xC (.str "less")) (xCons (xC (.str "same")) (xNil))))))))) (xTest (xOp (oEq) (xCB (bLenL) (xCons (xVar 0) (xNil))) (xC (.int 4))))) (xRet (xOp oCatT (xTup (xCons (xC (.str "reckon")) (xNil))) (xVar 0))) (xNext)) (xRet (xVar 0)))
noncomputable def p__law_joined : Fn := runF 3 (xSeq (xIfS (xTest (xOp (oEq) (xOp (oIxT) (xVar 0) (xC (.int 0))) (xC (.str "unless")))) (xRet (xTup (xCons (xC (.str "if")) (xCons (xOp (oIxT) (xVar 0) (xC (.int 1))) (xCons (xVar 1) (xCons (xVar 2) (xNil))))))) (xNext)) (xSeq (xIfS (xTest (xOp (oEq) (xOp (oIxT) (xVar 0) (xC (.int 0))) (xC (.str "either")))) (xRet (xTup (xCons (xC (.str "either")) (xCons (xVar 1) (xCons (xVar 2) (xNil)))))) (xNext)) (xRet (xTup (xCons (xC (.str "try")) (xCons (xVar 1) (xCons (xOp (oIxT) (xVar 0) (xC (.int 1))) (xCons (xOp (oIxT) (xVar 0) (xC (.int 2))) (xCons (xVar 2) (xNil))))))))))
noncomputable def p__law_back : Nat → Fn
  | 0 => fun _ _ => none
  | n + 1 => runF 10 (xSeq (xAsgO (xLst (xNil)) 3) (xSeq (xWhile 1000 (xTest (xOp (oLt) (xVar 1) (xVar 2))) (xSeq (xAsg (xOp (oIxL) (xVar 0) (xVar 1)) (yName 4)) (xIfS (xTest (xOp (oInL true) (xOp (oIxT) (xVar 4) (xC (.int 0))) (xTup (xCons (xC (.str "unless")) (xCons (xC (.str "either")) (xCons (xC (.str "guard")) (xNil))))))) (xSeq (xAppO 3 (xCall p__law_one_back (xCons (xVar 4) (xNil)))) (xAsg (xOp oAdd (xVar 1) (xC (.int 1))) (yName 1))) (xSeq (xAsg (xOp (oIxT) (xVar 4) (xUn oNeg (xC (.int 1)))) (yName 5)) (xSeq (xAsg (xOp oSub (xOp oSub (xVar 5) (xC (.int 1))) (xCB (bInt1) (xCons (xOp (oNe) (xOp (oIxT) (xVar 4) (xC (.int 0))) (xC (.str "unless"))) (xNil)))) (yName 6)) (xSeq (xIfS (xOr (xTest (xOp (oGt) (xVar 5) (xVar 2))) (xOr (xTest (xOp (oLe) (xVar 6) (xVar 1))) (xTest (xOp (oNe) (xOp (oIxT) (xOp (oIxL) (xVar 0) (xOp oSub (xVar 5) (xC (.int 1)))) (xC (.int 0))) (xC (.str "jump")))))) (xRet (xC .non)) (xNext)) (xSeq (xAsg (xOp (oIxT) (xOp (oIxL) (xVar 0) (xOp oSub (xVar 5) (xC (.int 1)))) (xC (.int 1))) (yName 7)) (xSeq (xIfS (xOr (xNot (xTest (xChain (oLe) (oLe) (xVar 5) (xVar 7) (xVar 2)))) (xAnd (xTest (xOp (oNe) (xOp (oIxT) (xVar 4) (xC (.int 0))) (xC (.str "unless")))) (xTest (xOp (oNeD) (xOp (oIxL) (xVar 0) (xVar 6)) (xTup (xCons (xC (.str "settle")) (xNil))))))) (xRet (xC .non)) (xNext)) (xSeq (xAsg (xCall (p__law_back n) (xCons (xVar 0) (xCons (xOp oAdd (xVar 1) (xC (.int 1))) (xCons (xVar 6) (xNil))))) (yName 8)) (xSeq (xAsg (xCall (p__law_back n) (xCons (xVar 0) (xCons (xVar 5) (xCons (xVar 7) (xNil))))) (yName 9)) (xSeq (xAppO 3 (xCall p__law_joined (xCons (xVar 4) (xCons (xVar 8) (xCons (xVar 9) (xNil)))))) (xAsg (xVar 7) (yName 1))))))))))))) (xFrz 3 (xRet (xVar 3)))))
noncomputable def p_law : Fn := runF 5 (xSeq (xAsg (xCall p__law_names (xCons (xCB (bSum) (xCons (xFz (xSlO oSlL (xVar 0) (xNoPart) (xPart (xC (.int 1))))) (xNil))) (xNil))) (yName 1)) (xSeq (xFor (xIR3 (xCons (xC (.int 0)) (xCons (xCB (bMax2) (xCons (xC (.int 1)) (xCons (xCB (bLenL) (xCons (xVar 0) (xNil))) (xNil)))) (xCons (xC (.int 12)) (xNil))))) (yName 2) (xSeq (xAsg (xCall (p__law_tree 5) (xCons (xFz (xSlO oSlL (xVar 0) (xPart (xVar 2)) (xPart (xOp oAdd (xVar 2) (xC (.int 12)))))) (xCons (xC (.int 3)) (xCons (xVar 1) (xNil))))) (yName 3)) (xSeq (xAsg (xCall p_rows_of (xCons (xCall (p__law_made 7) (xCons (xVar 3) (xNil))) (xNil))) (yName 4)) (xSeq (xIfS (xOr (xNot (xTest (xCB (bIsi isaTb) (xCons (xVar 4) (xCons (xC (.ty "list")) (xNil)))))) (xOr (xTest (xOp (oEq) (xCB (bLenL) (xCons (xVar 4) (xNil))) (xC (.int 0)))) (xNot (xTest (xCall p__law_ahead (xCons (xVar 4) (xNil))))))) (xRet (xC (.bl false))) (xNext)) (xIfS (xTest (xOp (oNeD) (xCall (p__law_back 7) (xCons (xVar 4) (xCons (xC (.int 0)) (xCons (xOp oSub (xCB (bLenL) (xCons (xVar 4) (xNil))) (xC (.int 1))) (xNil))))) (xVar 3))) (xRet (xC (.bl false))) (xNext)))))) (xRet (xC (.bl true)))))
/-- a part -/
inductive T where
  | base
  | let_ (r : Str) (n : Int)
  | reckon (w r s t : Str)
  | take (r s : Str)
  | put (s t : Str)
  | if_ (r : Str) (a b : List T)
  | either (a b : List T)
  | try_ (a : List T) (nm r : Str) (b : List T)
  | throw (nm r : Str)
  | wait
def kd : T → Nat
  | .base => 0 | .let_ .. => 1 | .reckon .. => 2 | .take .. => 3 | .put .. => 4 | .if_ .. => 5 | .either .. => 6 | .try_ .. => 7 | .throw .. => 8 | .wait => 9
mutual
def longT : T → Int
  | .base => 0
  | .if_ _ a b => 2 + (longL a).sum + (longL b).sum
  | .either a b => 3 + (longL a).sum + (longL b).sum
  | .try_ a _ _ b => 3 + (longL a).sum + (longL b).sum
  | _ => 1
def longL : List T → List Int
  | [] => []
  | t :: r => longT t :: longL r
end
mutual
def depT : T → Nat
  | .if_ _ a b => 1 + max (depL a) (depL b)
  | .either a b => 1 + max (depL a) (depL b)
  | .try_ a _ _ b => 1 + max (depL a) (depL b)
  | _ => 0
def depL : List T → Nat
  | [] => 0
  | t :: r => max (depT t) (depL r)
end
mutual
def wT : T → Nat
  | .if_ _ a b => 40 + wL a + wL b
  | .either a b => 40 + wL a + wL b
  | .try_ a _ _ b => 40 + wL a + wL b
  | _ => 10
def wL : List T → Nat
  | [] => 0
  | t :: r => 5 + wT t + wL r
end
theorem dep_mem : ∀ {ts : List T} {t : T}, t ∈ ts → depT t ≤ depL ts
  | u :: r, t, h => by
    show depT t ≤ max (depT u) (depL r)
    rcases List.mem_cons.mp h with rfl | h
    · omega
    · have := dep_mem h
      omega
theorem w_mem : ∀ {ts : List T} {t : T}, t ∈ ts → wT t ≤ wL ts
  | u :: r, t, h => by
    show wT t ≤ 5 + wT u + wL r
    rcases List.mem_cons.mp h with rfl | h
    · omega
    · have := w_mem h
      omega
theorem w_count : ∀ ts : List T, 5 * ts.length ≤ wL ts
  | [] => Nat.le_refl _
  | t :: r => by
    have := w_count r
    show 5 * (r.length + 1) ≤ 5 + wT t + wL r
    omega
theorem mod_in (a : Int) {b : Int} (h : 0 < b) : 0 ≤ a % b ∧ a % b < b := ⟨Int.emod_nonneg a (by omega), Int.emod_lt_of_pos a h⟩
mutual
def partV : T → PV
  | .base => .ins 0 [] []
  | .let_ r n => .ins 1 ["slot", "number"] [.str r, .int n]
  | .reckon w r s t => .ins 2 ["word", "slot", "one", "other"] [.str w, .str r, .str s, .str t]
  | .take r s => .ins 3 ["slot", "place"] [.str r, .str s]
  | .put s t => .ins 4 ["place", "slot"] [.str s, .str t]
  | .if_ r a b => .ins 5 ["slot", "parts", "others"] [.str r, .lst (partVs a), .lst (partVs b)]
  | .either a b => .ins 6 ["parts", "others"] [.lst (partVs a), .lst (partVs b)]
  | .try_ a nm r b => .ins 7 ["parts", "name", "slot", "others"] [.lst (partVs a), .str nm, .str r, .lst (partVs b)]
  | .throw nm r => .ins 8 ["name", "slot"] [.str nm, .str r]
  | .wait => .ins 9 [] []
def partVs : List T → List PV
  | [] => []
  | t :: r => partV t :: partVs r
end
theorem partVs_map : ∀ ts : List T, partVs ts = ts.map partV
  | [] => rfl
  | t :: r => by show partV t :: partVs r = _; rw [partVs_map r]; rfl
section
variable {h : AH}
theorem x_iLv {i : Nat} {ρ : PSt} {xs : List PV} (e : xVar i ρ h = some (.lst xs, h)) : xIL (xVar i) ρ h = some (xs, h) := x_iL e
theorem insOf_part (t : T) : ∃ ns xs, partV t = .ins (kd t) ns xs ∧ ("long" : Str) ∉ ns := by
  cases t
  all_goals exact ⟨_, _, rfl, by decide +kernel⟩
theorem meth_part {f : Nat → Fn} (t : T) : methK "long" f (partV t) h = f (kd t) [partV t] h := by
  obtain ⟨ns, xs, e, h2⟩ := insOf_part t
  rw [e]
  exact methK_at h2
def LongOk (n : Nat) : Prop := ∀ (h : AH) (t : T), 3 * depT t + 1 ≤ n → wT t ≤ 100000 → p_long n (kd t) [partV t] h = some (.int (longT t), h)
theorem list_long_eq {n : Nat} (G : LongOk n) {ts : List T} (hd : 3 * depL ts + 1 ≤ n) (hw : wL ts ≤ 100000) : p_list_long (n + 1) [.lst (partVs ts)] h = some (.int (longL ts).sum, h) := by
  unfold p_list_long
  rw [run_eq]
  show ob (xRet _ [.val (.lst (partVs ts))] h) fnK = _
  have wc := w_count ts
  walk_at "px"
  rw [x_iLv rfl, x_ob, partVs_map]
  rw [if_pos (by rw [List.length_map]; omega)]
  have e : cmpL (xMeth "long" (p_long n) (xVar 0)) (innP [] [PVar.val (PV.lst (ts.map partV))]) (ts.map partV) h = some ((longL ts).map PV.int, h) := by
    have : ∀ us : List T, (∀ t ∈ us, t ∈ ts) → cmpL (xMeth "long" (p_long n) (xVar 0)) (innP [] [PVar.val (PV.lst (ts.map partV))]) (us.map partV) h = some ((longL us).map PV.int, h) := by
      intro us
      induction us with
      | nil => intro _; rfl
      | cons t r ih =>
        intro hm
        have ht := hm t List.mem_cons_self
        have e1 : xMeth "long" (p_long n) (xVar 0) (innP [] [PVar.val (PV.lst (ts.map partV))] (partV t)) h = some (.int (longT t), h) := by
          show xMeth "long" (p_long n) (xVar 0) [.val (partV t)] h = _
          rw [x_meth, x_var0, x_ob, meth_part t]
          have := dep_mem ht
          have := w_mem ht
          exact G h t (by omega) (by omega)
        show ob (xMeth "long" (p_long n) (xVar 0) (innP [] [PVar.val (PV.lst (ts.map partV))] (partV t)) h) _ = _
        rw [e1, x_ob, ih fun u hu => hm u (List.mem_cons_of_mem _ hu)]
        rfl
    exact this ts fun _ h => h
  rw [e]
  walk_at "px"
  show ob (bSum [.lst ((longL ts).map PV.int)] h) _ = _
  unfold bSum listOf'
  simp only [intsOf_map]
  rfl
theorem long_if {n : Nat} (G : LongOk n) {r : Str} {x y : List T} (hd : 3 * depT (.if_ r x y) + 1 ≤ n + 3) (hw : wT (.if_ r x y) ≤ 100000) : p_If_long (n + 2) [partV (.if_ r x y)] h = some (.int (longT (.if_ r x y)), h) := by
  have hd : 3 * (1 + max (depL x) (depL y)) + 1 ≤ n + 3 := hd
  have hw : 40 + wL x + wL y ≤ 100000 := hw
  unfold p_If_long
  rw [run_eq]
  show ob (xRet _ [.val (.ins 5 ["slot", "parts", "others"] [.str r, .lst (partVs x), .lst (partVs y)])] h) fnK = _
  walk_at "px"
  rw [list_long_eq G (ts := x) (by omega) (by omega)]
  walk_at "px"
  rw [list_long_eq G (ts := y) (by omega) (by omega)]
  walk_at "px"
  rfl
theorem long_either {n : Nat} (G : LongOk n) {x y : List T} (hd : 3 * depT (.either x y) + 1 ≤ n + 3) (hw : wT (.either x y) ≤ 100000) : p_Either_long (n + 2) [partV (.either x y)] h = some (.int (longT (.either x y)), h) := by
  have hd : 3 * (1 + max (depL x) (depL y)) + 1 ≤ n + 3 := hd
  have hw : 40 + wL x + wL y ≤ 100000 := hw
  unfold p_Either_long
  rw [run_eq]
  show ob (xRet _ [.val (.ins 6 ["parts", "others"] [.lst (partVs x), .lst (partVs y)])] h) fnK = _
  walk_at "px"
  rw [list_long_eq G (ts := x) (by omega) (by omega)]
  walk_at "px"
  rw [list_long_eq G (ts := y) (by omega) (by omega)]
  walk_at "px"
  rfl
theorem long_try {n : Nat} (G : LongOk n) {nm r : Str} {x y : List T} (hd : 3 * depT (.try_ x nm r y) + 1 ≤ n + 3) (hw : wT (.try_ x nm r y) ≤ 100000) : p_Try_long (n + 2) [partV (.try_ x nm r y)] h = some (.int (longT (.try_ x nm r y)), h) := by
  have hd : 3 * (1 + max (depL x) (depL y)) + 1 ≤ n + 3 := hd
  have hw : 40 + wL x + wL y ≤ 100000 := hw
  unfold p_Try_long
  rw [run_eq]
  show ob (xRet _ [.val (.ins 7 ["parts", "name", "slot", "others"] [.lst (partVs x), .str nm, .str r, .lst (partVs y)])] h) fnK = _
  walk_at "px"
  rw [list_long_eq G (ts := x) (by omega) (by omega)]
  walk_at "px"
  rw [list_long_eq G (ts := y) (by omega) (by omega)]
  walk_at "px"
  rfl
theorem long_ok : ∀ n : Nat, LongOk n
  | 0 => fun h t hd => by omega
  | n + 1 => fun h t hd hw => by
    cases t with
    | base => rfl
    | let_ r m => rfl
    | reckon w r s u => rfl
    | take r s => rfl
    | put r s => rfl
    | throw nm r => rfl
    | wait => rfl
    | if_ r x y =>
      have h1 : 3 * (1 + max (depL x) (depL y)) + 1 ≤ n + 1 := hd
      obtain ⟨m, rfl⟩ : ∃ m, n = m + 2 := ⟨n - 2, by omega⟩
      exact long_if (long_ok m) hd hw
    | either x y =>
      have h1 : 3 * (1 + max (depL x) (depL y)) + 1 ≤ n + 1 := hd
      obtain ⟨m, rfl⟩ : ∃ m, n = m + 2 := ⟨n - 2, by omega⟩
      exact long_either (long_ok m) hd hw
    | try_ x nm r y =>
      have h1 : 3 * (1 + max (depL x) (depL y)) + 1 ≤ n + 1 := hd
      obtain ⟨m, rfl⟩ : ∃ m, n = m + 2 := ⟨n - 2, by omega⟩
      exact long_try (long_ok m) hd hw
end
def w5 : List Str := ["plus", "minus", "times", "less", "same"]
mutual
def isaAll : T → Prop
  | .base => False
  | .reckon w _ _ _ => w ∈ w5
  | .if_ _ a b => isaAllL a ∧ isaAllL b
  | .either a b => isaAllL a ∧ isaAllL b
  | .try_ a _ _ b => isaAllL a ∧ isaAllL b
  | _ => True
def isaAllL : List T → Prop
  | [] => True
  | t :: r => isaAll t ∧ isaAllL r
end
/-! ### the rows -/
def jumpV (k : Int) : PV := .tup [.str "jump", .int k]
def settleV : PV := .tup [.str "settle"]
def layV : PV := .tup [.str "lay"]
mutual
def rowsT (f : Int) : T → List PV
  | .base => []
  | .let_ r n => [.tup [.str "let", .str r, .int n]]
  | .reckon w r s t => [.tup [.str w, .str r, .str s, .str t]]
  | .take r s => [.tup [.str "take", .str r, .str s]]
  | .put s t => [.tup [.str "put", .str s, .str t]]
  | .throw nm r => [.tup [.str "throw", .str nm, .str r]]
  | .wait => [.tup [.str "wait"]]
  | .if_ r a b => [.tup [.str "unless", .str r, .int (f + longT (.if_ r a b) - (longL b).sum)]] ++ rowsL (f + 1) a ++ [jumpV (f + longT (.if_ r a b))] ++ rowsL (f + longT (.if_ r a b) - (longL b).sum) b
  | .either a b => [.tup [.str "either", .int (f + longT (.either a b) - (longL b).sum)]] ++ rowsL (f + 1) a ++ [settleV, jumpV (f + longT (.either a b))] ++ rowsL (f + longT (.either a b) - (longL b).sum) b
  | .try_ a nm r b => [.tup [.str "guard", .str nm, .str r, .int (f + longT (.try_ a nm r b) - (longL b).sum)]] ++ rowsL (f + 1) a ++ [settleV, jumpV (f + longT (.try_ a nm r b))] ++ rowsL (f + longT (.try_ a nm r b) - (longL b).sum) b
def rowsL (f : Int) : List T → List PV
  | [] => []
  | t :: r => rowsT f t ++ rowsL (f + (rowsT f t).length) r
end
mutual
theorem rowsT_len (f : Int) : ∀ t : T, (rowsT f t).length ≤ wT t
  | .base => by show 0 ≤ 10; omega
  | .let_ .. => by show 1 ≤ 10; omega
  | .reckon .. => by show 1 ≤ 10; omega
  | .take .. => by show 1 ≤ 10; omega
  | .put .. => by show 1 ≤ 10; omega
  | .throw .. => by show 1 ≤ 10; omega
  | .wait => by show 1 ≤ 10; omega
  | .if_ r a b => by
    have h1 := rowsL_len (f + 1) a
    have h2 := rowsL_len (f + longT (.if_ r a b) - (longL b).sum) b
    show ([_] ++ rowsL (f + 1) a ++ [_] ++ rowsL (f + longT (.if_ r a b) - (longL b).sum) b).length ≤ 40 + wL a + wL b
    simp only [List.length_append, List.length_cons, List.length_nil]
    omega
  | .either a b => by
    have h1 := rowsL_len (f + 1) a
    have h2 := rowsL_len (f + longT (.either a b) - (longL b).sum) b
    show ([_] ++ rowsL (f + 1) a ++ [_, _] ++ rowsL (f + longT (.either a b) - (longL b).sum) b).length ≤ 40 + wL a + wL b
    simp only [List.length_append, List.length_cons, List.length_nil]
    omega
  | .try_ a nm r b => by
    have h1 := rowsL_len (f + 1) a
    have h2 := rowsL_len (f + longT (.try_ a nm r b) - (longL b).sum) b
    show ([_] ++ rowsL (f + 1) a ++ [_, _] ++ rowsL (f + longT (.try_ a nm r b) - (longL b).sum) b).length ≤ 40 + wL a + wL b
    simp only [List.length_append, List.length_cons, List.length_nil]
    omega
theorem rowsL_len (f : Int) : ∀ ts : List T, (rowsL f ts).length ≤ wL ts
  | [] => Nat.le_refl _
  | t :: r => by
    have h1 := rowsT_len f t
    have h2 := rowsL_len (f + (rowsT f t).length) r
    show (rowsT f t ++ rowsL (f + (rowsT f t).length) r).length ≤ 5 + wT t + wL r
    rw [List.length_append]
    omega
end
theorem rowsL_app : ∀ (ts us : List T) (f : Int), rowsL f (ts ++ us) = rowsL f ts ++ rowsL (f + (rowsL f ts).length) us
  | [], us, f => by simp [rowsL]
  | t :: r, us, f => by
    show rowsT f t ++ rowsL (f + (rowsT f t).length) (r ++ us) = (rowsT f t ++ rowsL (f + (rowsT f t).length) r) ++ _
    rw [rowsL_app r us, List.append_assoc]
    simp only [rowsL, List.length_append]
    congr 3
    omega
theorem wL_app : ∀ (ts us : List T), wL (ts ++ us) = wL ts + wL us
  | [], us => by simp [wL]
  | t :: r, us => by
    have := wL_app r us
    show 5 + wT t + wL (r ++ us) = 5 + wT t + wL r + wL us
    omega
section
variable {h : AH}
theorem x_extO {i : Nat} {e : XE} {ρ : PSt} {xs : List PV} (hx : ρ[i]? = some (.own (.lst xs))) {ys : List PV} {h1 : AH} (he : e ρ h = some (.lst ys, h1)) (hl : xs.length + ys.length ≤ 100000) : xExtO i e ρ h = some (.nx (ρ.set i (.own (.lst (xs ++ ys)))), h1) := by
  unfold xExtO
  rw [hx]
  show ob (e ρ h) _ = _
  rw [he, x_ob]
  show (if _ then _ else _) = _
  rw [if_pos hl]
def RowsOk (n : Nat) : Prop := ∀ (h : AH) (t : T) (f : Int), 3 * depT t + 2 ≤ n → wT t ≤ 50000 → depT t ≤ 4 → isaAll t → p_part_rows n [partV t, .int f] h = some (.lst (rowsT f t), h)
theorem isaAllL_mem : ∀ {ts : List T} {t : T}, isaAllL ts → t ∈ ts → isaAll t
  | u :: r, t, h, hm => by
    rcases List.mem_cons.mp hm with e | e
    · rw [e]; exact h.1
    · exact isaAllL_mem h.2 e
theorem list_rows_eq {n : Nat} (G : RowsOk n) {ts : List T} {f : Int} (hd : 3 * depL ts + 2 ≤ n) (hw : wL ts ≤ 50000) (h2 : depL ts ≤ 4) (ia : isaAllL ts) : p_list_rows (n + 1) [.lst (partVs ts), .int f] h = some (.lst (rowsL f ts), h) := by
  unfold p_list_rows
  rw [run_eq]
  show ob (xSeq _ _ [.val (.lst (partVs ts)), .val (.int f), .no, .no] h) fnK = _
  walk_at "px"
  rw [x_iLv rfl, x_ob, partVs_map]
  refine forL_then (fun i ρ h1 => h1 = h ∧ ∃ v, ρ = [.val (.lst (ts.map partV)), .val (.int f), .own (.lst (rowsL f (ts.take i))), v]) ⟨rfl, .no, rfl⟩ ?_ ?_
  · intro i x ρ h1 hx ⟨e1, v, e2⟩
    subst e1; subst e2
    rw [List.getElem?_map] at hx
    cases ht : ts[i]? with
    | none => rw [ht] at hx; cases hx
    | some t =>
      rw [ht] at hx; cases hx
      have hm : t ∈ ts := List.mem_of_getElem? ht
      have d1 := dep_mem hm
      have w1 := w_mem hm
      have hlt : i < ts.length := (List.getElem?_eq_some_iff.mp ht).1
      have e3 : ts.take (i + 1) = ts.take i ++ [t] := by rw [List.take_add_one, ht]; rfl
      have e4 : rowsL f (ts.take (i + 1)) = rowsL f (ts.take i) ++ rowsT (f + (rowsL f (ts.take i)).length) t := by
        rw [e3, rowsL_app]; simp [rowsL]
      have l1 := rowsL_len f (ts.take i)
      have l2 := rowsT_len (f + (rowsL f (ts.take i)).length) t
      have l3 : wL (ts.take i) ≤ wL ts := by
        have := wL_app (ts.take i) (ts.drop i)
        rw [List.take_append_drop] at this
        omega
      refine ⟨_, [.val (.lst (ts.map partV)), .val (.int f), .own (.lst (rowsL f (ts.take (i + 1)))), .val (partV t)], h1, rfl, .inl ?_, rfl, _, rfl⟩
      rw [e4]
      refine (x_extO (xs := rowsL f (ts.take i)) rfl (ys := rowsT (f + (rowsL f (ts.take i)).length) t) (h1 := h1) ?_ (by omega)).trans rfl
      have : xLenO 2 ([.val (.lst (ts.map partV)), .val (.int f), .own (.lst (rowsL f (ts.take i))), .val (partV t)] : PSt) h1 = some (.int (rowsL f (ts.take i)).length, h1) := rfl
      show xCall _ _ [.val (.lst (ts.map partV)), .val (.int f), .own (.lst (rowsL f (ts.take i))), .val (partV t)] h1 = _
      simp only [x_ob, x_obA, x_call, x_cons, x_nil, x_var0, x_varS, x_op, this, x_i]
      exact G h1 t _ (by omega) (by omega) (by omega) (isaAllL_mem ia hm)
  · intro ρ' h' ⟨e1, v, e2⟩
    subst e1; subst e2
    rw [List.length_map, List.take_length]
    rfl
theorem long_at (t : T) (h2 : depT t ≤ 4) (hw : wT t ≤ 50000) : p_long 20 (kd t) [partV t] h = some (.int (longT t), h) := long_ok 20 h t (by omega) (by omega)
theorem list_long_at (ts : List T) (h2 : depL ts ≤ 4) (hw : wL ts ≤ 50000) : p_list_long 20 [.lst (partVs ts)] h = some (.int (longL ts).sum, h) := list_long_eq (long_ok 19) (by omega) (by omega)
theorem is_5 {ns xs} : bIsi isaTb [.ins 5 ns xs, .cls 5] h = some (.bl true, h) := rfl
theorem is_65 {ns xs} : bIsi isaTb [.ins 6 ns xs, .cls 5] h = some (.bl false, h) := rfl
theorem is_66 {ns xs} : bIsi isaTb [.ins 6 ns xs, .cls 6] h = some (.bl true, h) := rfl
theorem is_75 {ns xs} : bIsi isaTb [.ins 7 ns xs, .cls 5] h = some (.bl false, h) := rfl
theorem is_76 {ns xs} : bIsi isaTb [.ins 7 ns xs, .cls 6] h = some (.bl false, h) := rfl
theorem is_77 {ns xs} : bIsi isaTb [.ins 7 ns xs, .cls 7] h = some (.bl true, h) := rfl
local macro_rules | `(tactic| walk_at "pi") => `(tactic| simp only [x_ob, x_obN, x_obA, x_var0, x_varS, x_c, x_op, x_opO, x_un, x_oB, x_chain, x_test, x_andV, x_orV, x_notV, x_and, x_or, x_not, x_if, x_nil, x_cons, x_tup, x_lst, x_fz, x_fzL, x_fzI, x_loc, x_call, x_cb, x_cbO, x_bm, x_isStr, x_make, x_makeO, x_next, x_seq, x_sqN, x_sqR, x_sqB, x_sqC, x_break, x_cont, x_drop, x_ret, x_retN, x_ifS, x_asg, x_asgO, x_name, x_yNil, x_yCons, x_yTup, x_frz, x_fz0, x_fzS, x_fvO, x_fvV, x_fvN, x_for, x_frN, x_frC, x_frB, x_frR, x_fnR, x_fnN, x_inK, x_i, x_ic, x_fld, x_fldO, x_meth, x_neg, mulOkR, mulOkL, powOk, x_eqI, x_eqS, x_eqB, x_neI, x_neS, x_isN, x_notN, x_addS, x_in1, x_ixL, x_ixR, x_ixT, x_ixS, x_slL, x_slR, x_cat, x_rep, x_sl, x_slO, x_part, x_nopart, x_lenL, x_lenT, x_lenR, x_lenS, x_int1i, x_int1b, x_strI, x_listL, x_listT, x_comp, x_ite, Option.bind_some, Option.bind_none, List.set_cons_zero, List.set_cons_succ, List.length_cons, List.length_nil, decide_eq_true_eq, Bool.not_eq_true', decide_eq_false_iff_not, if_true, if_false, ite_true, ite_false, and_self, Int.reducePow, Int.reduceToNat, Int.reduceLT, Int.reduceLE, Int.reduceNeg, Int.reduceAdd, Int.reduceSub, Nat.reduceLT, Nat.reduceLeDiff, Nat.reduceAdd, true_and, and_true, reduceIte, Nat.reduceEqDiff, le_refl_nat, eq_self, at_0, at_1, at_2, at_3, at_4, at_5, dec_T, dec_F, ff_eq, tf_eq, Int.reduceEq, Nat.reduceEqDiff, Bool.not_true, Bool.not_false, slen_0, slen_1, slen_2, slen_3, slen_4, slen_5, slen_6, slen_7, slen_8, slen_9, slen_10, slen_11, slen_12, slen_13, slen_14, slen_15, slen_16, slen_17, slen_18, slen_19, slen_20, slen_21, slen_22, mv_Part_long, fv_Let_slot, fv_Let_number, mv_Let_long, iv_Let_slot, iv_Let_number, fv_Reckon_word, fv_Reckon_slot, fv_Reckon_one, fv_Reckon_other, mv_Reckon_long, iv_Reckon_word, iv_Reckon_slot, iv_Reckon_one, iv_Reckon_other, fv_Take_slot, fv_Take_place, mv_Take_long, iv_Take_slot, iv_Take_place, fv_Put_place, fv_Put_slot, mv_Put_long, iv_Put_place, iv_Put_slot, fv_If_slot, fv_If_parts, fv_If_others, mv_If_long, iv_If_slot, iv_If_parts, iv_If_others, fv_Either_parts, fv_Either_others, mv_Either_long, iv_Either_parts, iv_Either_others, fv_Try_parts, fv_Try_name, fv_Try_slot, fv_Try_others, mv_Try_long, iv_Try_parts, iv_Try_name, iv_Try_slot, iv_Try_others, fv_Throw_name, fv_Throw_slot, mv_Throw_long, iv_Throw_name, iv_Throw_slot, mv_Wait_long, x_ixA_t, x_ixA_l, is_5, is_65, is_66, is_75, is_76, is_77])
theorem first_5 {r x y k : PV} : p_first_row [.ins 5 ["slot", "parts", "others"] [r, x, y], k] h = some (.tup [.str "unless", r, k], h) := by
  unfold p_first_row
  rw [run_eq]
  show ob (xSeq _ _ [.val (.ins 5 ["slot", "parts", "others"] [r, x, y]), .val k] h) fnK = _
  walk_at "pi"
theorem first_6 {x y k : PV} : p_first_row [.ins 6 ["parts", "others"] [x, y], k] h = some (.tup [.str "either", k], h) := by
  unfold p_first_row
  rw [run_eq]
  show ob (xSeq _ _ [.val (.ins 6 ["parts", "others"] [x, y]), .val k] h) fnK = _
  walk_at "pi"
theorem first_7 {nm r x y k : PV} : p_first_row [.ins 7 ["parts", "name", "slot", "others"] [x, nm, r, y], k] h = some (.tup [.str "guard", nm, r, k], h) := by
  unfold p_first_row
  rw [run_eq]
  show ob (xSeq _ _ [.val (.ins 7 ["parts", "name", "slot", "others"] [x, nm, r, y]), .val k] h) fnK = _
  walk_at "pi"
theorem between_5 {ns xs} {k : Int} : p_rows_between [.ins 5 ns xs, .int k] h = some (.lst [jumpV k], h) := rfl
theorem between_6 {ns xs} {k : Int} : p_rows_between [.ins 6 ns xs, .int k] h = some (.lst [settleV, jumpV k], h) := rfl
theorem between_7 {ns xs} {k : Int} : p_rows_between [.ins 7 ns xs, .int k] h = some (.lst [settleV, jumpV k], h) := rfl
local macro_rules | `(tactic| walk_at "pj") => `(tactic| simp only [x_ob, x_obN, x_obA, x_var0, x_varS, x_c, x_op, x_opO, x_un, x_oB, x_chain, x_test, x_andV, x_orV, x_notV, x_and, x_or, x_not, x_if, x_nil, x_cons, x_tup, x_lst, x_fz, x_fzL, x_fzI, x_loc, x_call, x_cb, x_cbO, x_bm, x_isStr, x_make, x_makeO, x_next, x_seq, x_sqN, x_sqR, x_sqB, x_sqC, x_break, x_cont, x_drop, x_ret, x_retN, x_ifS, x_asg, x_asgO, x_name, x_yNil, x_yCons, x_yTup, x_frz, x_fz0, x_fzS, x_fvO, x_fvV, x_fvN, x_for, x_frN, x_frC, x_frB, x_frR, x_fnR, x_fnN, x_inK, x_i, x_ic, x_fld, x_fldO, x_meth, x_neg, mulOkR, mulOkL, powOk, x_eqI, x_eqS, x_eqB, x_neI, x_neS, x_isN, x_notN, x_addS, x_in1, x_ixL, x_ixR, x_ixT, x_ixS, x_slL, x_slR, x_cat, x_rep, x_sl, x_slO, x_part, x_nopart, x_lenL, x_lenT, x_lenR, x_lenS, x_int1i, x_int1b, x_strI, x_listL, x_listT, x_comp, x_ite, Option.bind_some, Option.bind_none, List.set_cons_zero, List.set_cons_succ, List.length_cons, List.length_nil, decide_eq_true_eq, Bool.not_eq_true', decide_eq_false_iff_not, if_true, if_false, ite_true, ite_false, and_self, Int.reducePow, Int.reduceToNat, Int.reduceLT, Int.reduceLE, Int.reduceNeg, Int.reduceAdd, Int.reduceSub, Nat.reduceLT, Nat.reduceLeDiff, Nat.reduceAdd, true_and, and_true, reduceIte, Nat.reduceEqDiff, le_refl_nat, eq_self, at_0, at_1, at_2, at_3, at_4, at_5, dec_T, dec_F, ff_eq, tf_eq, Int.reduceEq, Nat.reduceEqDiff, Bool.not_true, Bool.not_false, slen_0, slen_1, slen_2, slen_3, slen_4, slen_5, slen_6, slen_7, slen_8, slen_9, slen_10, slen_11, slen_12, slen_13, slen_14, slen_15, slen_16, slen_17, slen_18, slen_19, slen_20, slen_21, slen_22, mv_Part_long, fv_Let_slot, fv_Let_number, mv_Let_long, iv_Let_slot, iv_Let_number, fv_Reckon_word, fv_Reckon_slot, fv_Reckon_one, fv_Reckon_other, mv_Reckon_long, iv_Reckon_word, iv_Reckon_slot, iv_Reckon_one, iv_Reckon_other, fv_Take_slot, fv_Take_place, mv_Take_long, iv_Take_slot, iv_Take_place, fv_Put_place, fv_Put_slot, mv_Put_long, iv_Put_place, iv_Put_slot, fv_If_slot, fv_If_parts, fv_If_others, mv_If_long, iv_If_slot, iv_If_parts, iv_If_others, fv_Either_parts, fv_Either_others, mv_Either_long, iv_Either_parts, iv_Either_others, fv_Try_parts, fv_Try_name, fv_Try_slot, fv_Try_others, mv_Try_long, iv_Try_parts, iv_Try_name, iv_Try_slot, iv_Try_others, fv_Throw_name, fv_Throw_slot, mv_Throw_long, iv_Throw_name, iv_Throw_slot, mv_Wait_long, x_ixA_t, x_ixA_l, first_5, first_6, first_7, between_5, between_6, between_7])
theorem sided_if {n : Nat} (G : RowsOk n) {r : Str} {a b : List T} {f : Int} (hd : 3 * depT (.if_ r a b) + 2 ≤ n + 3) (hw : wT (.if_ r a b) ≤ 50000) (h2 : depT (.if_ r a b) ≤ 4) (ia : isaAll (.if_ r a b)) : p_sided_rows (n + 2) [partV (.if_ r a b), .int f] h = some (.lst (rowsT f (.if_ r a b)), h) := by
  have el := long_at (h := h) (.if_ r a b) h2 hw
  have hd : 3 * (1 + max (depL a) (depL b)) + 2 ≤ n + 3 := hd
  have hw : 40 + wL a + wL b ≤ 50000 := hw
  have h2 : 1 + max (depL a) (depL b) ≤ 4 := h2
  have ea := list_rows_eq (h := h) G (ts := a) (f := f + 1) (by omega) (by omega) (by omega) ia.1
  have eb := list_rows_eq (h := h) G (ts := b) (f := f + longT (.if_ r a b) - (longL b).sum) (by omega) (by omega) (by omega) ia.2
  have eo := list_long_at (h := h) b (by omega) (by omega)
  have la := rowsL_len (f + 1) a
  have lb := rowsL_len (f + longT (.if_ r a b) - (longL b).sum) b
  unfold p_sided_rows
  rw [run_eq]
  show ob (xSeq _ _ [.val (.ins 5 ["slot", "parts", "others"] [.str r, .lst (partVs a), .lst (partVs b)]), .val (.int f), .no, .no, .no, .no] h) fnK = _
  walk_at "px"
  rw [show p_long 20 5 [.ins 5 ["slot", "parts", "others"] [.str r, .lst (partVs a), .lst (partVs b)]] h = _ from el]
  walk_at "px"
  rw [eo]
  walk_at "px"
  rw [ea]
  walk_at "px"
  rw [eb]
  walk_at "pj"
  rw [if_pos (by omega)]
  rw [if_pos (by simp only [List.length_append, List.length_cons, List.length_nil]; omega)]
  rw [if_pos (by simp only [List.length_append, List.length_cons, List.length_nil]; omega)]
  rfl
theorem sided_either {n : Nat} (G : RowsOk n)  {a b : List T} {f : Int} (hd : 3 * depT (.either a b) + 2 ≤ n + 3) (hw : wT (.either a b) ≤ 50000) (h2 : depT (.either a b) ≤ 4) (ia : isaAll (.either a b)) : p_sided_rows (n + 2) [partV (.either a b), .int f] h = some (.lst (rowsT f (.either a b)), h) := by
  have el := long_at (h := h) (.either a b) h2 hw
  have hd : 3 * (1 + max (depL a) (depL b)) + 2 ≤ n + 3 := hd
  have hw : 40 + wL a + wL b ≤ 50000 := hw
  have h2 : 1 + max (depL a) (depL b) ≤ 4 := h2
  have ea := list_rows_eq (h := h) G (ts := a) (f := f + 1) (by omega) (by omega) (by omega) ia.1
  have eb := list_rows_eq (h := h) G (ts := b) (f := f + longT (.either a b) - (longL b).sum) (by omega) (by omega) (by omega) ia.2
  have eo := list_long_at (h := h) b (by omega) (by omega)
  have la := rowsL_len (f + 1) a
  have lb := rowsL_len (f + longT (.either a b) - (longL b).sum) b
  unfold p_sided_rows
  rw [run_eq]
  show ob (xSeq _ _ [.val (.ins 6 ["parts", "others"] [.lst (partVs a), .lst (partVs b)]), .val (.int f), .no, .no, .no, .no] h) fnK = _
  walk_at "px"
  rw [show p_long 20 6 [.ins 6 ["parts", "others"] [.lst (partVs a), .lst (partVs b)]] h = _ from el]
  walk_at "px"
  rw [eo]
  walk_at "px"
  rw [ea]
  walk_at "px"
  rw [eb]
  walk_at "pj"
  rw [if_pos (by omega)]
  rw [if_pos (by simp only [List.length_append, List.length_cons, List.length_nil]; omega)]
  rw [if_pos (by simp only [List.length_append, List.length_cons, List.length_nil]; omega)]
  rfl
theorem sided_try {n : Nat} (G : RowsOk n) {nm r : Str} {a b : List T} {f : Int} (hd : 3 * depT (.try_ a nm r b) + 2 ≤ n + 3) (hw : wT (.try_ a nm r b) ≤ 50000) (h2 : depT (.try_ a nm r b) ≤ 4) (ia : isaAll (.try_ a nm r b)) : p_sided_rows (n + 2) [partV (.try_ a nm r b), .int f] h = some (.lst (rowsT f (.try_ a nm r b)), h) := by
  have el := long_at (h := h) (.try_ a nm r b) h2 hw
  have hd : 3 * (1 + max (depL a) (depL b)) + 2 ≤ n + 3 := hd
  have hw : 40 + wL a + wL b ≤ 50000 := hw
  have h2 : 1 + max (depL a) (depL b) ≤ 4 := h2
  have ea := list_rows_eq (h := h) G (ts := a) (f := f + 1) (by omega) (by omega) (by omega) ia.1
  have eb := list_rows_eq (h := h) G (ts := b) (f := f + longT (.try_ a nm r b) - (longL b).sum) (by omega) (by omega) (by omega) ia.2
  have eo := list_long_at (h := h) b (by omega) (by omega)
  have la := rowsL_len (f + 1) a
  have lb := rowsL_len (f + longT (.try_ a nm r b) - (longL b).sum) b
  unfold p_sided_rows
  rw [run_eq]
  show ob (xSeq _ _ [.val (.ins 7 ["parts", "name", "slot", "others"] [.lst (partVs a), .str nm, .str r, .lst (partVs b)]), .val (.int f), .no, .no, .no, .no] h) fnK = _
  walk_at "px"
  rw [show p_long 20 7 [.ins 7 ["parts", "name", "slot", "others"] [.lst (partVs a), .str nm, .str r, .lst (partVs b)]] h = _ from el]
  walk_at "px"
  rw [eo]
  walk_at "px"
  rw [ea]
  walk_at "px"
  rw [eb]
  walk_at "pj"
  rw [if_pos (by omega)]
  rw [if_pos (by simp only [List.length_append, List.length_cons, List.length_nil]; omega)]
  rw [if_pos (by simp only [List.length_append, List.length_cons, List.length_nil]; omega)]
  rfl
theorem rows_ok : ∀ n : Nat, RowsOk n
  | 0 => fun h t f hd => by omega
  | n + 1 => fun h t f hd hw h2 ia => by
    unfold p_part_rows
    rw [run_eq]
    show ob (xSeq _ _ [.val (partV t), .val (.int f)] h) fnK = _
    cases t with
    | if_ r a b =>
      have h1 : 3 * (1 + max (depL a) (depL b)) + 2 ≤ n + 1 := hd
      obtain ⟨m, rfl⟩ : ∃ m, n = m + 2 := ⟨n - 2, by omega⟩
      have e := sided_if (h := h) (f := f) (rows_ok m) hd hw h2 ia
      show ob (xSeq _ _ [.val (.ins 5 ["slot", "parts", "others"] [.str r, .lst (partVs a), .lst (partVs b)]), .val (.int f)] h) fnK = _
      walk_at "pi"
      exact congrArg (ob · _) e |>.trans rfl
    | either a b =>
      have h1 : 3 * (1 + max (depL a) (depL b)) + 2 ≤ n + 1 := hd
      obtain ⟨m, rfl⟩ : ∃ m, n = m + 2 := ⟨n - 2, by omega⟩
      have e := sided_either (h := h) (f := f) (rows_ok m) hd hw h2 ia
      show ob (xSeq _ _ [.val (.ins 6 ["parts", "others"] [.lst (partVs a), .lst (partVs b)]), .val (.int f)] h) fnK = _
      walk_at "pi"
      exact congrArg (ob · _) e |>.trans rfl
    | try_ a nm r b =>
      have h1 : 3 * (1 + max (depL a) (depL b)) + 2 ≤ n + 1 := hd
      obtain ⟨m, rfl⟩ : ∃ m, n = m + 2 := ⟨n - 2, by omega⟩
      have e := sided_try (h := h) (f := f) (rows_ok m) hd hw h2 ia
      show ob (xSeq _ _ [.val (.ins 7 ["parts", "name", "slot", "others"] [.lst (partVs a), .str nm, .str r, .lst (partVs b)]), .val (.int f)] h) fnK = _
      walk_at "pi"
      exact congrArg (ob · _) e |>.trans rfl
    | _ => first | exact ia.elim | rfl
end
section
variable {h : AH}
theorem rows_of_eq (ts : List T) (hd : depL ts ≤ 4) (hw : wL ts ≤ 50000) (ia : isaAllL ts) : p_rows_of [.lst (partVs ts)] h = some (.lst (rowsL 0 ts ++ [layV]), h) := by
  have e := list_rows_eq (h := h) (rows_ok 19) (ts := ts) (f := 0) (by omega) hw hd ia
  have l := rowsL_len 0 ts
  unfold p_rows_of
  rw [run_eq]
  show ob (xRet _ [.val (.lst (partVs ts))] h) fnK = _
  walk_at "px"
  rw [e]
  walk_at "px"
  rw [if_pos (by omega)]
  rfl
end
/-! ### how many rows, and what they are made of -/
mutual
theorem rowsT_long (f : Int) : ∀ t : T, ((rowsT f t).length : Int) = longT t
  | .base => rfl
  | .let_ .. => rfl
  | .reckon .. => rfl
  | .take .. => rfl
  | .put .. => rfl
  | .throw .. => rfl
  | .wait => rfl
  | .if_ r a b => by
    have h1 := rowsL_long (f + 1) a
    have h2 := rowsL_long (f + longT (.if_ r a b) - (longL b).sum) b
    show ((([_] ++ rowsL (f + 1) a ++ [_] ++ rowsL (f + longT (.if_ r a b) - (longL b).sum) b).length : Nat) : Int) = 2 + (longL a).sum + (longL b).sum
    simp only [List.length_append, List.length_cons, List.length_nil]
    omega
  | .either a b => by
    have h1 := rowsL_long (f + 1) a
    have h2 := rowsL_long (f + longT (.either a b) - (longL b).sum) b
    show ((([_] ++ rowsL (f + 1) a ++ [_, _] ++ rowsL (f + longT (.either a b) - (longL b).sum) b).length : Nat) : Int) = 3 + (longL a).sum + (longL b).sum
    simp only [List.length_append, List.length_cons, List.length_nil]
    omega
  | .try_ a nm r b => by
    have h1 := rowsL_long (f + 1) a
    have h2 := rowsL_long (f + longT (.try_ a nm r b) - (longL b).sum) b
    show ((([_] ++ rowsL (f + 1) a ++ [_, _] ++ rowsL (f + longT (.try_ a nm r b) - (longL b).sum) b).length : Nat) : Int) = 3 + (longL a).sum + (longL b).sum
    simp only [List.length_append, List.length_cons, List.length_nil]
    omega
theorem rowsL_long (f : Int) : ∀ ts : List T, ((rowsL f ts).length : Int) = (longL ts).sum
  | [] => rfl
  | t :: r => by
    have h1 := rowsT_long f t
    have h2 := rowsL_long (f + (rowsT f t).length) r
    show (((rowsT f t ++ rowsL (f + (rowsT f t).length) r).length : Nat) : Int) = (longT t :: longL r).sum
    rw [List.length_append, List.sum_cons]
    omega
end
/-! ### signs -/
def signAt (z : Str) (i : Int) : Str := ⟨#[(z.cps.toList[i.toNat]?).getD 0]⟩
theorem at_sign {z : Str} {i : Int} (h0 : 0 ≤ i) (h : i < z.cps.toList.length) : atI z.cps.toList i = some ((z.cps.toList[i.toNat]?).getD 0) := by
  obtain ⟨j, rfl⟩ : ∃ j : Nat, i = (j : Int) := ⟨i.toNat, by omega⟩
  have hl : j < z.cps.toList.length := by omega
  rw [atI_nat (List.getElem?_eq_getElem hl), Int.toNat_natCast, List.getElem?_eq_getElem hl]; rfl
theorem at_26 (k : Int) : atI ("abcdefghijklmnopqrstuvwxyz" : Str).cps.toList (k % 26) = some ((("abcdefghijklmnopqrstuvwxyz" : Str).cps.toList[(k % 26).toNat]?).getD 0) :=
  at_sign (mod_in k (by decide)).1 (by rw [show ("abcdefghijklmnopqrstuvwxyz" : Str).cps.toList.length = 26 by decide +kernel]; exact (mod_in k (by decide)).2)
def mixV (c : Int) : Int := c * 48271 % 999999999989
section
variable {h : AH}
theorem mixed_eq (c : Int) : p__law_mixed [.int c] h = some (.int (mixV c), h) := by
  unfold p__law_mixed
  rw [run_eq]
  show ob (xRet _ [.val (.int c)] h) fnK = _
  walk_at "px"
  rfl
/-! ### names -/
theorem app_len (a b : Str) : (a ++ b).length = a.length + b.length := by
  show (a.cps ++ b.cps).size = _
  simp [Str.length]
def nameStep (m at' tn : Int) (k : Nat) : Str := signAt "abcdefghijklmnopqrstuvwxyz" ((if (k : Int) = at' then m / 64 / ((k : Int) * k + 1) + k + tn else m / 64 / ((k : Int) * k + 1) + k) % 26)
def nameGo (m at' tn : Int) : Nat → Str
  | 0 => ""
  | k + 1 => nameGo m at' tn k ++ nameStep m at' tn k
theorem go_len (m at' tn : Int) : ∀ k : Nat, (nameGo m at' tn k).length = k
  | 0 => by show ("" : Str).length = 0; decide +kernel
  | k + 1 => by
    show (nameGo m at' tn k ++ nameStep m at' tn k).length = _
    rw [app_len, go_len m at' tn k]; rfl
def nameV (c tn : Int) : Str := nameGo (mixV c) (mixV c / 8 % (1 + mixV c % 8)) tn (1 + mixV c % 8).toNat
theorem names_eq (c : Int) : p__law_names [.int c] h = some (.lst ((List.range 3).map fun i : Nat => .str (nameV c i)), h) := by
  unfold p__law_names
  rw [run_eq]
  show ob (xSeq _ _ [.val (.int c), .no, .no, .no, .no, .no, .no, .no, .no, .no] h) fnK = _
  have b := mod_in (mixV c) (show (0 : Int) < 8 by decide)
  walk_at "px"
  simp only [mixed_eq]
  walk_at "px"
  unfold nameV
  generalize hm : mixV c = m at *
  rw [if_pos (by omega)]
  generalize hz : 1 + m % 8 = sz at *
  rw [x_iR1i (j := 3) (h1 := h) (by walk_at "px") (by omega) (by omega), x_ob]
  refine forL_then (fun i ρ h1 => ∃ c6 c7 c8 c9 : PVar, ρ = [.val (.int c), .val (.str "abcdefghijklmnopqrstuvwxyz"), .val (.int m), .val (.int sz), .val (.int (m / 8 % sz)), .own (.lst ((List.range i).map fun i : Nat => .str (nameGo m (m / 8 % sz) i sz.toNat))), c6, c7, c8, c9] ∧ h1 = h) ⟨.no, .no, .no, .no, rfl, rfl⟩ ?_ ?_
  · rintro t x ρ h1 hx ⟨c6, c7, c8, c9, rfl, rfl⟩
    obtain ⟨ht, rfl⟩ := rng_get hx
    rw [Int.zero_add]
    have hex : ∃ d8 d9 : PVar, xSeq (xAsg (xC (.str "")) (yName 7)) (xSeq (xFor (xIR1 (xCons (xVar 3) (xNil))) (yName 8) (xSeq (xAsg (xOp oAdd (xOp oDiv (xOp oDiv (xVar 2) (xC (.int 64))) (xOp oAdd (xOp oMul (xVar 8) (xVar 8)) (xC (.int 1)))) (xVar 8)) (yName 9)) (xSeq (xIfS (xTest (xOp (oEq) (xVar 8) (xVar 4))) (xAsg (xOp oAdd (xVar 9) (xVar 6)) (yName 9)) (xNext)) (xAsg (xOp oAddS (xVar 7) (xOp (oIxS) (xVar 1) (xOp oMod (xVar 9) (xC (.int 26))))) (yName 7))))) (xAppO 5 (xVar 7)))
        [.val (.int c), .val (.str "abcdefghijklmnopqrstuvwxyz"), .val (.int m), .val (.int sz), .val (.int (m / 8 % sz)), .own (.lst ((List.range t).map fun i : Nat => .str (nameGo m (m / 8 % sz) i sz.toNat))), .val (.int t), c7, c8, c9] h1 =
        some (.nx [.val (.int c), .val (.str "abcdefghijklmnopqrstuvwxyz"), .val (.int m), .val (.int sz), .val (.int (m / 8 % sz)), .own (.lst ((List.range (t + 1)).map fun i : Nat => .str (nameGo m (m / 8 % sz) i sz.toNat))), .val (.int t), .val (.str (nameGo m (m / 8 % sz) t sz.toNat)), d8, d9], h1) := by
      walk_at "px"
      rw [x_iR1i (j := sz) (h1 := h1) (by walk_at "px") (by omega) (by omega), x_ob]
      refine forL_or (P := fun (q : Option (Out × AH)) => ∃ d8 d9 : PVar, q = some (.nx [.val (.int c), .val (.str "abcdefghijklmnopqrstuvwxyz"), .val (.int m), .val (.int sz), .val (.int (m / 8 % sz)), .own (.lst ((List.range (t + 1)).map fun i : Nat => .str (nameGo m (m / 8 % sz) i sz.toNat))), .val (.int t), .val (.str (nameGo m (m / 8 % sz) t sz.toNat)), d8, d9], h1)) (fun i ρ h2 => ∃ d8 d9 : PVar, ρ = [.val (.int c), .val (.str "abcdefghijklmnopqrstuvwxyz"), .val (.int m), .val (.int sz), .val (.int (m / 8 % sz)), .own (.lst ((List.range t).map fun i : Nat => .str (nameGo m (m / 8 % sz) i sz.toNat))), .val (.int t), .val (.str (nameGo m (m / 8 % sz) t i)), d8, d9] ∧ h2 = h1) (fun _ _ => False) ⟨c8, c9, rfl, rfl⟩ ?_ ?_ (fun _ _ q => q.elim)
      · rintro i x ρ h2 hx ⟨d8, d9, rfl, rfl⟩
        obtain ⟨hi, rfl⟩ := rng_get hx
        rw [Int.zero_add]
        have hmu : MulOk (i : Int) (i : Int) := .inl ⟨by omega, by omega⟩
        have hp : 0 < (i : Int) * i + 1 := by have := Int.mul_nonneg (show (0 : Int) ≤ i by omega) (show (0 : Int) ≤ i by omega); omega
        refine ⟨_, .nx [.val (.int c), .val (.str "abcdefghijklmnopqrstuvwxyz"), .val (.int m), .val (.int sz), .val (.int (m / 8 % sz)), .own (.lst ((List.range t).map fun i : Nat => .str (nameGo m (m / 8 % sz) i sz.toNat))), .val (.int t), .val (.str (nameGo m (m / 8 % sz) t (i + 1))), .val (.int i), .val (.int (if (i : Int) = m / 8 % sz then m / 64 / ((i : Int) * i + 1) + i + t else m / 64 / ((i : Int) * i + 1) + i))], h2, rfl, ?_, _, _, rfl, rfl⟩
        walk_at "px"
        have hq : (i : Int) * i ≤ 7 * 7 := Int.mul_le_mul (by omega) (by omega) (by omega) (by omega)
        rw [if_pos hmu, if_pos ⟨hp, by omega⟩]
        split
        · rename_i hk
          rw [at_26, Option.bind_some]
          simp only [x_ob, x_addS, sgn]
          rw [if_pos (by rw [go_len]; show i + 1 ≤ 100000; omega)]
          simp only [x_ob, Option.bind_some, nameGo, nameStep, if_pos hk]
          rfl
        · rename_i hk
          rw [at_26, Option.bind_some]
          simp only [x_ob, x_addS, sgn]
          rw [if_pos (by rw [go_len]; show i + 1 ≤ 100000; omega)]
          simp only [x_ob, Option.bind_some, nameGo, nameStep, if_neg hk]
          rfl
      · rintro ρ' h' ⟨d8, d9, rfl, rfl⟩
        rw [rng_len]
        refine ⟨d8, d9, ?_⟩
        walk_at "px"
        rw [x_appO rfl]
        walk_at "px"
        rw [if_pos (by simp; omega), List.range_succ, List.map_append]
        rfl
    obtain ⟨d8, d9, e⟩ := hex
    exact ⟨_, _, h1, rfl, .inl e, _, _, _, _, rfl, rfl⟩
  · rintro ρ' h' ⟨c6, c7, c8, c9, rfl, rfl⟩
    walk_at "px"
    rw [rng_len]
    all_goals rfl
end
section
variable {h : AH}
theorem init_Let {a b : PV} : p_Let___init__ [a, b] h = some (.ins 1 ["slot", "number"] [a, b], h) := by
  unfold p_Let___init__
  rw [runI_eq]
  show ob (xSeq _ _ [.own (.ins 1 [] []), .val a, .val b] h) inK = _
  walk_at "px"
theorem init_Reckon {a b c d : PV} : p_Reckon___init__ [a, b, c, d] h = some (.ins 2 ["word", "slot", "one", "other"] [a, b, c, d], h) := by
  unfold p_Reckon___init__
  rw [runI_eq]
  show ob (xSeq _ _ [.own (.ins 2 [] []), .val a, .val b, .val c, .val d] h) inK = _
  walk_at "px"
theorem init_Take {a b : PV} : p_Take___init__ [a, b] h = some (.ins 3 ["slot", "place"] [a, b], h) := by
  unfold p_Take___init__
  rw [runI_eq]
  show ob (xSeq _ _ [.own (.ins 3 [] []), .val a, .val b] h) inK = _
  walk_at "px"
theorem init_Put {a b : PV} : p_Put___init__ [a, b] h = some (.ins 4 ["place", "slot"] [a, b], h) := by
  unfold p_Put___init__
  rw [runI_eq]
  show ob (xSeq _ _ [.own (.ins 4 [] []), .val a, .val b] h) inK = _
  walk_at "px"
theorem init_Throw {a b : PV} : p_Throw___init__ [a, b] h = some (.ins 8 ["name", "slot"] [a, b], h) := by
  unfold p_Throw___init__
  rw [runI_eq]
  show ob (xSeq _ _ [.own (.ins 8 [] []), .val a, .val b] h) inK = _
  walk_at "px"
theorem init_If {r a b : PV} {xs ys : List PV} (ha : bListOf [a] h = some (.lst xs, h)) (hb : bListOf [b] h = some (.lst ys, h)) : p_If___init__ [r, a, b] h = some (.ins 5 ["slot", "parts", "others"] [r, .lst xs, .lst ys], h) := by
  unfold p_If___init__
  rw [runI_eq]
  show ob (xSeq _ _ [.own (.ins 5 [] []), .val r, .val a, .val b] h) inK = _
  walk_at "px"
  rw [ha]
  walk_at "px"
  rw [hb]
  walk_at "px"
theorem init_Either {a b : PV} {xs ys : List PV} (ha : bListOf [a] h = some (.lst xs, h)) (hb : bListOf [b] h = some (.lst ys, h)) : p_Either___init__ [a, b] h = some (.ins 6 ["parts", "others"] [.lst xs, .lst ys], h) := by
  unfold p_Either___init__
  rw [runI_eq]
  show ob (xSeq _ _ [.own (.ins 6 [] []), .val a, .val b] h) inK = _
  walk_at "px"
  rw [ha]
  walk_at "px"
  rw [hb]
  walk_at "px"
theorem init_Try {a nm r b : PV} {xs ys : List PV} (ha : bListOf [a] h = some (.lst xs, h)) (hb : bListOf [b] h = some (.lst ys, h)) : p_Try___init__ [a, nm, r, b] h = some (.ins 7 ["parts", "name", "slot", "others"] [.lst xs, nm, r, .lst ys], h) := by
  unfold p_Try___init__
  rw [runI_eq]
  show ob (xSeq _ _ [.own (.ins 7 [] []), .val a, .val nm, .val r, .val b] h) inK = _
  walk_at "px"
  rw [ha]
  walk_at "px"
  rw [hb]
  walk_at "px"
end
theorem sn_0 : (("reckon" : Str) = "let") = False := eq_false (by decide +kernel)
theorem sn_1 : (("take" : Str) = "let") = False := eq_false (by decide +kernel)
theorem sn_2 : (("take" : Str) = "reckon") = False := eq_false (by decide +kernel)
theorem sn_3 : (("put" : Str) = "let") = False := eq_false (by decide +kernel)
theorem sn_4 : (("put" : Str) = "reckon") = False := eq_false (by decide +kernel)
theorem sn_5 : (("put" : Str) = "take") = False := eq_false (by decide +kernel)
theorem sn_6 : (("if" : Str) = "let") = False := eq_false (by decide +kernel)
theorem sn_7 : (("if" : Str) = "reckon") = False := eq_false (by decide +kernel)
theorem sn_8 : (("if" : Str) = "take") = False := eq_false (by decide +kernel)
theorem sn_9 : (("if" : Str) = "put") = False := eq_false (by decide +kernel)
theorem sn_10 : (("either" : Str) = "let") = False := eq_false (by decide +kernel)
theorem sn_11 : (("either" : Str) = "reckon") = False := eq_false (by decide +kernel)
theorem sn_12 : (("either" : Str) = "take") = False := eq_false (by decide +kernel)
theorem sn_13 : (("either" : Str) = "put") = False := eq_false (by decide +kernel)
theorem sn_14 : (("either" : Str) = "if") = False := eq_false (by decide +kernel)
theorem sn_15 : (("try" : Str) = "let") = False := eq_false (by decide +kernel)
theorem sn_16 : (("try" : Str) = "reckon") = False := eq_false (by decide +kernel)
theorem sn_17 : (("try" : Str) = "take") = False := eq_false (by decide +kernel)
theorem sn_18 : (("try" : Str) = "put") = False := eq_false (by decide +kernel)
theorem sn_19 : (("try" : Str) = "if") = False := eq_false (by decide +kernel)
theorem sn_20 : (("try" : Str) = "either") = False := eq_false (by decide +kernel)
theorem sn_21 : (("throw" : Str) = "let") = False := eq_false (by decide +kernel)
theorem sn_22 : (("throw" : Str) = "reckon") = False := eq_false (by decide +kernel)
theorem sn_23 : (("throw" : Str) = "take") = False := eq_false (by decide +kernel)
theorem sn_24 : (("throw" : Str) = "put") = False := eq_false (by decide +kernel)
theorem sn_25 : (("throw" : Str) = "if") = False := eq_false (by decide +kernel)
theorem sn_26 : (("throw" : Str) = "either") = False := eq_false (by decide +kernel)
theorem sn_27 : (("throw" : Str) = "try") = False := eq_false (by decide +kernel)
theorem sn_28 : (("wait" : Str) = "let") = False := eq_false (by decide +kernel)
theorem sn_29 : (("wait" : Str) = "reckon") = False := eq_false (by decide +kernel)
theorem sn_30 : (("wait" : Str) = "take") = False := eq_false (by decide +kernel)
theorem sn_31 : (("wait" : Str) = "put") = False := eq_false (by decide +kernel)
theorem sn_32 : (("wait" : Str) = "if") = False := eq_false (by decide +kernel)
theorem sn_33 : (("wait" : Str) = "either") = False := eq_false (by decide +kernel)
theorem sn_34 : (("wait" : Str) = "try") = False := eq_false (by decide +kernel)
theorem sn_35 : (("wait" : Str) = "throw") = False := eq_false (by decide +kernel)
theorem sn_36 : (("either" : Str) = "unless") = False := eq_false (by decide +kernel)
theorem sn_37 : (("guard" : Str) = "unless") = False := eq_false (by decide +kernel)
theorem sn_38 : (("guard" : Str) = "either") = False := eq_false (by decide +kernel)
/-! ### while, the heap left as it is -/
theorem whl_nx {c : XT} {s : XS} (I : Nat → PSt → AH → Prop) (E : PSt → AH → Prop)
    (step : ∀ m ρ h, I m ρ h → (c ρ h = some (false, h) ∧ E ρ h) ∨ ∃ ρ' m', c ρ h = some (true, h) ∧ s ρ h = some (.nx ρ', h) ∧ m' < m ∧ I m' ρ' h) :
    ∀ (fuel m : Nat) (ρ : PSt) (h : AH), m < fuel → I m ρ h → ∃ ρ', whl c s fuel ρ h = some (.nx ρ', h) ∧ E ρ' h
  | 0, _, _, _, hm, _ => by omega
  | fuel + 1, m, ρ, h, hm, hI => by
    rw [whl_succ]
    rcases step m ρ h hI with ⟨e1, e2⟩ | ⟨ρ', m', e1, e2, e3, e4⟩
    · rw [e1, x_ob]
      exact ⟨ρ, rfl, e2⟩
    · obtain ⟨ρ2, q1, q2⟩ := whl_nx I E step fuel m' ρ' h (by omega) e4
      rw [e1, x_ob, if_pos rfl, e2, x_ob]
      exact ⟨ρ2, q1, q2⟩
/-! ### the tree as the law writes it -/
mutual
def treeV : T → PV
  | .base => .tup []
  | .let_ r n => .tup [.str "let", .str r, .int n]
  | .reckon w r s t => .tup [.str "reckon", .str w, .str r, .str s, .str t]
  | .take r s => .tup [.str "take", .str r, .str s]
  | .put s t => .tup [.str "put", .str s, .str t]
  | .if_ r a b => .tup [.str "if", .str r, .lst (treeVs a), .lst (treeVs b)]
  | .either a b => .tup [.str "either", .lst (treeVs a), .lst (treeVs b)]
  | .try_ a nm r b => .tup [.str "try", .lst (treeVs a), .str nm, .str r, .lst (treeVs b)]
  | .throw nm r => .tup [.str "throw", .str nm, .str r]
  | .wait => .tup [.str "wait"]
def treeVs : List T → List PV
  | [] => []
  | t :: r => treeV t :: treeVs r
end
theorem treeVs_map : ∀ ts : List T, treeVs ts = ts.map treeV
  | [] => rfl
  | t :: r => by show treeV t :: treeVs r = _; rw [treeVs_map r]; rfl
theorem treeVs_app (a b : List T) : treeVs (a ++ b) = treeVs a ++ treeVs b := by rw [treeVs_map, treeVs_map, treeVs_map, List.map_append]
theorem treeVs_len (a : List T) : (treeVs a).length = a.length := by rw [treeVs_map, List.length_map]
theorem partVs_app (a b : List T) : partVs (a ++ b) = partVs a ++ partVs b := by rw [partVs_map, partVs_map, partVs_map, List.map_append]
theorem partVs_len (a : List T) : (partVs a).length = a.length := by rw [partVs_map, List.length_map]
theorem isaAllL_app : ∀ {a b : List T}, isaAllL a → isaAllL b → isaAllL (a ++ b)
  | [], _, _, h => h
  | t :: r, _, h, k => ⟨h.1, isaAllL_app h.2 k⟩
theorem depL_app : ∀ (a b : List T), depL (a ++ b) = max (depL a) (depL b)
  | [], b => by simp [depL]
  | t :: r, b => by
    show max (depT t) (depL (r ++ b)) = max (max (depT t) (depL r)) (depL b)
    rw [depL_app r b]; omega
section
variable {h : AH}
local macro_rules | `(tactic| walk_at "ps") => `(tactic| simp only [x_ob, x_obN, x_obA, x_var0, x_varS, x_c, x_op, x_opO, x_un, x_oB, x_chain, x_test, x_andV, x_orV, x_notV, x_and, x_or, x_not, x_if, x_nil, x_cons, x_tup, x_lst, x_fz, x_fzL, x_fzI, x_loc, x_call, x_cb, x_cbO, x_bm, x_isStr, x_make, x_makeO, x_next, x_seq, x_sqN, x_sqR, x_sqB, x_sqC, x_break, x_cont, x_drop, x_ret, x_retN, x_ifS, x_asg, x_asgO, x_name, x_yNil, x_yCons, x_yTup, x_frz, x_fz0, x_fzS, x_fvO, x_fvV, x_fvN, x_for, x_frN, x_frC, x_frB, x_frR, x_fnR, x_fnN, x_inK, x_i, x_ic, x_fld, x_fldO, x_meth, x_neg, mulOkR, mulOkL, powOk, x_eqI, x_eqS, x_eqB, x_neI, x_neS, x_isN, x_notN, x_addS, x_in1, x_ixL, x_ixR, x_ixT, x_ixS, x_slL, x_slR, x_cat, x_rep, x_sl, x_slO, x_part, x_nopart, x_lenL, x_lenT, x_lenR, x_lenS, x_int1i, x_int1b, x_strI, x_listL, x_listT, x_comp, x_ite, Option.bind_some, Option.bind_none, List.set_cons_zero, List.set_cons_succ, List.length_cons, List.length_nil, decide_eq_true_eq, Bool.not_eq_true', decide_eq_false_iff_not, if_true, if_false, ite_true, ite_false, and_self, Int.reducePow, Int.reduceToNat, Int.reduceLT, Int.reduceLE, Int.reduceNeg, Int.reduceAdd, Int.reduceSub, Nat.reduceLT, Nat.reduceLeDiff, Nat.reduceAdd, true_and, and_true, reduceIte, Nat.reduceEqDiff, le_refl_nat, eq_self, at_0, at_1, at_2, at_3, at_4, at_5, dec_T, dec_F, ff_eq, tf_eq, Int.reduceEq, Nat.reduceEqDiff, Bool.not_true, Bool.not_false, slen_0, slen_1, slen_2, slen_3, slen_4, slen_5, slen_6, slen_7, slen_8, slen_9, slen_10, slen_11, slen_12, slen_13, slen_14, slen_15, slen_16, slen_17, slen_18, slen_19, slen_20, slen_21, slen_22, mv_Part_long, fv_Let_slot, fv_Let_number, mv_Let_long, iv_Let_slot, iv_Let_number, fv_Reckon_word, fv_Reckon_slot, fv_Reckon_one, fv_Reckon_other, mv_Reckon_long, iv_Reckon_word, iv_Reckon_slot, iv_Reckon_one, iv_Reckon_other, fv_Take_slot, fv_Take_place, mv_Take_long, iv_Take_slot, iv_Take_place, fv_Put_place, fv_Put_slot, mv_Put_long, iv_Put_place, iv_Put_slot, fv_If_slot, fv_If_parts, fv_If_others, mv_If_long, iv_If_slot, iv_If_parts, iv_If_others, fv_Either_parts, fv_Either_others, mv_Either_long, iv_Either_parts, iv_Either_others, fv_Try_parts, fv_Try_name, fv_Try_slot, fv_Try_others, mv_Try_long, iv_Try_parts, iv_Try_name, iv_Try_slot, iv_Try_others, fv_Throw_name, fv_Throw_slot, mv_Throw_long, iv_Throw_name, iv_Throw_slot, mv_Wait_long, x_ixA_t, x_ixA_l, sn_0, sn_1, sn_2, sn_3, sn_4, sn_5, sn_6, sn_7, sn_8, sn_9, sn_10, sn_11, sn_12, sn_13, sn_14, sn_15, sn_16, sn_17, sn_18, sn_19, sn_20, sn_21, sn_22, sn_23, sn_24, sn_25, sn_26, sn_27, sn_28, sn_29, sn_30, sn_31, sn_32, sn_33, sn_34, sn_35, sn_36, sn_37, sn_38, init_Let, init_Reckon, init_Take, init_Put, init_Throw])
def MadeOk (n : Nat) : Prop := ∀ (h : AH) (ts : List T), depL ts + 1 ≤ n → wL ts ≤ 50000 → isaAllL ts → p__law_made n [.lst (treeVs ts)] h = some (.lst (partVs ts), h)
theorem made_ok : ∀ n : Nat, MadeOk n
  | 0 => fun h ts hd => by omega
  | n + 1 => fun h ts hd hw ia => by
    have G := made_ok n
    unfold p__law_made
    rw [run_eq]
    show ob (xSeq _ _ [.val (.lst (treeVs ts)), .no, .no] h) fnK = _
    walk_at "px"
    rw [x_iLv rfl, x_ob, treeVs_map]
    refine forL_then (fun i ρ h1 => h1 = h ∧ ∃ v, ρ = [.val (.lst (ts.map treeV)), .own (.lst (partVs (ts.take i))), v]) ⟨rfl, .no, rfl⟩ ?_ ?_
    · rintro i x ρ h1 hx ⟨rfl, v, rfl⟩
      rw [List.getElem?_map] at hx
      obtain ⟨t, ht, rfl⟩ := Option.map_eq_some_iff.mp hx
      have hm : t ∈ ts := List.mem_of_getElem? ht
      have d1 := dep_mem hm
      have w1 := w_mem hm
      have it := isaAllL_mem ia hm
      have hlt : i < ts.length := (List.getElem?_eq_some_iff.mp ht).1
      have wc := w_count ts
      have e3 : ts.take (i + 1) = ts.take i ++ [t] := by rw [List.take_add_one, ht]; rfl
      have hlen : (partVs (ts.take i)).length < 100000 := by rw [partVs_len, List.length_take]; omega
      refine ⟨_, [.val (.lst (ts.map treeV)), .own (.lst (partVs (ts.take (i + 1)))), .val (treeV t)], h1, rfl, .inl ?_, rfl, _, rfl⟩
      rw [e3, partVs_app]
      cases t with
      | base => exact it.elim
      | let_ r m =>
        show xIfS _ _ _ [.val (.lst (ts.map treeV)), .own (.lst (partVs (ts.take i))), .val (.tup [.str "let", .str r, .int m])] h1 = _
        walk_at "ps"
        rw [x_appO rfl]
        walk_at "ps"
        rw [if_pos hlen]
        rfl
      | reckon w r s u =>
        show xIfS _ _ _ [.val (.lst (ts.map treeV)), .own (.lst (partVs (ts.take i))), .val (.tup [.str "reckon", .str w, .str r, .str s, .str u])] h1 = _
        walk_at "ps"
        rw [x_appO rfl]
        walk_at "ps"
        rw [if_pos hlen]
        rfl
      | take r s =>
        show xIfS _ _ _ [.val (.lst (ts.map treeV)), .own (.lst (partVs (ts.take i))), .val (.tup [.str "take", .str r, .str s])] h1 = _
        walk_at "ps"
        rw [x_appO rfl]
        walk_at "ps"
        rw [if_pos hlen]
        rfl
      | put r s =>
        show xIfS _ _ _ [.val (.lst (ts.map treeV)), .own (.lst (partVs (ts.take i))), .val (.tup [.str "put", .str r, .str s])] h1 = _
        walk_at "ps"
        rw [x_appO rfl]
        walk_at "ps"
        rw [if_pos hlen]
        rfl
      | throw nm r =>
        show xIfS _ _ _ [.val (.lst (ts.map treeV)), .own (.lst (partVs (ts.take i))), .val (.tup [.str "throw", .str nm, .str r])] h1 = _
        walk_at "ps"
        rw [x_appO rfl]
        walk_at "ps"
        rw [if_pos hlen]
        rfl
      | wait =>
        show xIfS _ _ _ [.val (.lst (ts.map treeV)), .own (.lst (partVs (ts.take i))), .val (.tup [.str "wait"])] h1 = _
        walk_at "ps"
        rw [x_appO rfl]
        walk_at "ps"
        rw [if_pos hlen]
        rfl
      | if_ r a b =>
        have d2 : 1 + max (depL a) (depL b) ≤ depL ts := d1
        have w2 : 40 + wL a + wL b ≤ wL ts := w1
        show xIfS _ _ _ [.val (.lst (ts.map treeV)), .own (.lst (partVs (ts.take i))), .val (.tup [.str "if", .str r, .lst (treeVs a), .lst (treeVs b)])] h1 = _
        walk_at "ps"
        rw [x_appO rfl]
        walk_at "ps"
        rw [G h1 a (by omega) (by omega) it.1]
        walk_at "ps"
        rw [G h1 b (by omega) (by omega) it.2]
        walk_at "ps"
        rw [init_If x_listL x_listL]
        walk_at "ps"
        rw [if_pos hlen]
        rfl
      | either a b =>
        have d2 : 1 + max (depL a) (depL b) ≤ depL ts := d1
        have w2 : 40 + wL a + wL b ≤ wL ts := w1
        show xIfS _ _ _ [.val (.lst (ts.map treeV)), .own (.lst (partVs (ts.take i))), .val (.tup [.str "either", .lst (treeVs a), .lst (treeVs b)])] h1 = _
        walk_at "ps"
        rw [x_appO rfl]
        walk_at "ps"
        rw [G h1 a (by omega) (by omega) it.1]
        walk_at "ps"
        rw [G h1 b (by omega) (by omega) it.2]
        walk_at "ps"
        rw [init_Either x_listL x_listL]
        walk_at "ps"
        rw [if_pos hlen]
        rfl
      | try_ a nm r b =>
        have d2 : 1 + max (depL a) (depL b) ≤ depL ts := d1
        have w2 : 40 + wL a + wL b ≤ wL ts := w1
        show xIfS _ _ _ [.val (.lst (ts.map treeV)), .own (.lst (partVs (ts.take i))), .val (.tup [.str "try", .lst (treeVs a), .str nm, .str r, .lst (treeVs b)])] h1 = _
        walk_at "ps"
        rw [x_appO rfl]
        walk_at "ps"
        rw [G h1 a (by omega) (by omega) it.1]
        walk_at "ps"
        rw [G h1 b (by omega) (by omega) it.2]
        walk_at "ps"
        rw [init_Try x_listL x_listL]
        walk_at "ps"
        rw [if_pos hlen]
        rfl
    · rintro ρ' h' ⟨rfl, v, rfl⟩
      rw [List.length_map, List.take_length]
      rfl
end
/-! ### where rows lead to -/
def heads4 : List Str := ["unless", "either", "guard", "jump"]
theorem get_app {α : Type} {A B : List α} {j : Nat} {x : α} (h : (A ++ B)[j]? = some x) : (j < A.length ∧ A[j]? = some x) ∨ (A.length ≤ j ∧ B[j - A.length]? = some x) := by
  by_cases hj : j < A.length
  · rw [List.getElem?_append_left hj] at h; exact .inl ⟨hj, h⟩
  · rw [List.getElem?_append_right (by omega)] at h; exact .inr ⟨by omega, h⟩
def RowOk (k hi : Int) (x : PV) : Prop := ∃ (w : Str) (rest : List PV), x = .tup (.str w :: rest) ∧ (w ∈ heads4 → ∃ (init : List PV) (t : Int), (.str w :: rest) = init ++ [.int t] ∧ k < t ∧ t ≤ hi)
theorem RowOk.plain {k hi : Int} (w : Str) (rest : List PV) (h : w ∉ heads4) : RowOk k hi (.tup (.str w :: rest)) := ⟨w, rest, rfl, fun z => absurd z h⟩
theorem RowOk.lead {k hi t : Int} (w : Str) (init : List PV) (h1 : k < t) (h2 : t ≤ hi) : RowOk k hi (.tup (.str w :: (init ++ [.int t]))) := ⟨w, _, rfl, fun _ => ⟨.str w :: init, t, rfl, h1, h2⟩⟩
theorem RowOk.mono {k k' hi hi' : Int} {x : PV} (h : RowOk k hi x) (h1 : k' ≤ k) (h2 : hi ≤ hi') : RowOk k' hi' x := by
  obtain ⟨w, rest, e, f⟩ := h
  exact ⟨w, rest, e, fun z => let ⟨i, t, e1, e2, e3⟩ := f z; ⟨i, t, e1, by omega, by omega⟩⟩
mutual
theorem longT_pos : ∀ t : T, 0 ≤ longT t
  | .base => by show (0 : Int) ≤ 0; omega
  | .let_ .. => by show (0 : Int) ≤ 1; omega
  | .reckon .. => by show (0 : Int) ≤ 1; omega
  | .take .. => by show (0 : Int) ≤ 1; omega
  | .put .. => by show (0 : Int) ≤ 1; omega
  | .throw .. => by show (0 : Int) ≤ 1; omega
  | .wait => by show (0 : Int) ≤ 1; omega
  | .if_ r a b => by have := long_pos a; have := long_pos b; show 0 ≤ 2 + (longL a).sum + (longL b).sum; omega
  | .either a b => by have := long_pos a; have := long_pos b; show 0 ≤ 3 + (longL a).sum + (longL b).sum; omega
  | .try_ a nm r b => by have := long_pos a; have := long_pos b; show 0 ≤ 3 + (longL a).sum + (longL b).sum; omega
theorem long_pos : ∀ ts : List T, 0 ≤ (longL ts).sum
  | [] => by show (0 : Int) ≤ 0; omega
  | t :: r => by have := longT_pos t; have := long_pos r; show 0 ≤ (longT t :: longL r).sum; rw [List.sum_cons]; omega
end
mutual
theorem rowsT_ok (f : Int) : ∀ (t : T), isaAll t → ∀ (j : Nat) (x : PV), (rowsT f t)[j]? = some x → RowOk (f + j) (f + longT t) x
  | .base, ia, _, _, _ => ia.elim
  | .let_ .., _, j, x, h => by
    obtain ⟨rfl, rfl⟩ : j = 0 ∧ x = _ := by cases j with | zero => exact ⟨rfl, by simpa [rowsT] using h.symm⟩ | succ j => simp [rowsT] at h
    exact .plain _ _ (by decide +kernel)
  | .reckon w .., ia, j, x, h => by
    obtain ⟨rfl, rfl⟩ : j = 0 ∧ x = _ := by cases j with | zero => exact ⟨rfl, by simpa [rowsT] using h.symm⟩ | succ j => simp [rowsT] at h
    refine .plain _ _ ?_
    have ia : w ∈ w5 := ia
    simp only [w5, List.mem_cons, List.not_mem_nil, or_false] at ia
    rcases ia with rfl | rfl | rfl | rfl | rfl <;> decide +kernel
  | .take .., _, j, x, h => by
    obtain ⟨rfl, rfl⟩ : j = 0 ∧ x = _ := by cases j with | zero => exact ⟨rfl, by simpa [rowsT] using h.symm⟩ | succ j => simp [rowsT] at h
    exact .plain _ _ (by decide +kernel)
  | .put .., _, j, x, h => by
    obtain ⟨rfl, rfl⟩ : j = 0 ∧ x = _ := by cases j with | zero => exact ⟨rfl, by simpa [rowsT] using h.symm⟩ | succ j => simp [rowsT] at h
    exact .plain _ _ (by decide +kernel)
  | .throw .., _, j, x, h => by
    obtain ⟨rfl, rfl⟩ : j = 0 ∧ x = _ := by cases j with | zero => exact ⟨rfl, by simpa [rowsT] using h.symm⟩ | succ j => simp [rowsT] at h
    exact .plain _ _ (by decide +kernel)
  | .wait, _, j, x, h => by
    obtain ⟨rfl, rfl⟩ : j = 0 ∧ x = _ := by cases j with | zero => exact ⟨rfl, by simpa [rowsT] using h.symm⟩ | succ j => simp [rowsT] at h
    exact .plain _ _ (by decide +kernel)
  | .if_ r a b, ia, j, x, h => by
    have la := rowsL_long (f + 1) a
    have pa := long_pos a
    have pb := long_pos b
    have hL : longT (.if_ r a b) = 2 + (longL a).sum + (longL b).sum := rfl
    simp only [rowsT] at h
    rcases get_app h with ⟨h1, h2⟩ | ⟨h1, h2⟩
    · rcases get_app h2 with ⟨h3, h4⟩ | ⟨h3, h4⟩
      · rcases get_app h4 with ⟨h5, h6⟩ | ⟨h5, h6⟩
        · obtain ⟨rfl, rfl⟩ : j = 0 ∧ x = _ := by cases j with | zero => exact ⟨rfl, by simpa using h6.symm⟩ | succ j => simp at h5
          exact .lead "unless" [.str r] (by omega) (by omega)
        · simp only [List.length_cons, List.length_nil] at h5 h6
          exact (rowsL_ok (f + 1) a ia.1 _ x h6).mono (by omega) (by omega)
      · simp only [List.length_append, List.length_cons, List.length_nil] at h3 h4
        obtain ⟨q, rfl⟩ : j - (0 + 1 + (rowsL (f + 1) a).length) = 0 ∧ x = _ := by
          cases e : j - (0 + 1 + (rowsL (f + 1) a).length) with
          | zero => rw [e] at h4; exact ⟨rfl, by simpa using h4.symm⟩
          | succ i => rw [e] at h4; simp at h4
        exact .lead "jump" [] (by omega) (by omega)
    · simp only [List.length_append, List.length_cons, List.length_nil] at h1 h2
      exact (rowsL_ok _ b ia.2 _ x h2).mono (by omega) (by omega)
  | .either a b, ia, j, x, h => by
    have la := rowsL_long (f + 1) a
    have pa := long_pos a
    have pb := long_pos b
    have hL : longT (.either a b) = 3 + (longL a).sum + (longL b).sum := rfl
    simp only [rowsT] at h
    rcases get_app h with ⟨h1, h2⟩ | ⟨h1, h2⟩
    · rcases get_app h2 with ⟨h3, h4⟩ | ⟨h3, h4⟩
      · rcases get_app h4 with ⟨h5, h6⟩ | ⟨h5, h6⟩
        · obtain ⟨rfl, rfl⟩ : j = 0 ∧ x = _ := by cases j with | zero => exact ⟨rfl, by simpa using h6.symm⟩ | succ j => simp at h5
          exact .lead "either" [] (by omega) (by omega)
        · simp only [List.length_cons, List.length_nil] at h5 h6
          exact (rowsL_ok (f + 1) a ia.1 _ x h6).mono (by omega) (by omega)
      · simp only [List.length_append, List.length_cons, List.length_nil] at h3 h4
        cases e : j - (0 + 1 + (rowsL (f + 1) a).length) with
        | zero =>
          rw [e] at h4
          obtain rfl : x = settleV := by simpa using h4.symm
          exact .plain _ _ (by decide +kernel)
        | succ i =>
          rw [e] at h4
          obtain ⟨q, rfl⟩ : i = 0 ∧ x = _ := by
            cases i with
            | zero => exact ⟨rfl, by simpa using h4.symm⟩
            | succ i => simp at h4
          exact .lead "jump" [] (by omega) (by omega)
    · simp only [List.length_append, List.length_cons, List.length_nil] at h1 h2
      exact (rowsL_ok _ b ia.2 _ x h2).mono (by omega) (by omega)
  | .try_ a nm r b, ia, j, x, h => by
    have la := rowsL_long (f + 1) a
    have pa := long_pos a
    have pb := long_pos b
    have hL : longT (.try_ a nm r b) = 3 + (longL a).sum + (longL b).sum := rfl
    simp only [rowsT] at h
    rcases get_app h with ⟨h1, h2⟩ | ⟨h1, h2⟩
    · rcases get_app h2 with ⟨h3, h4⟩ | ⟨h3, h4⟩
      · rcases get_app h4 with ⟨h5, h6⟩ | ⟨h5, h6⟩
        · obtain ⟨rfl, rfl⟩ : j = 0 ∧ x = _ := by cases j with | zero => exact ⟨rfl, by simpa using h6.symm⟩ | succ j => simp at h5
          exact .lead "guard" [.str nm, .str r] (by omega) (by omega)
        · simp only [List.length_cons, List.length_nil] at h5 h6
          exact (rowsL_ok (f + 1) a ia.1 _ x h6).mono (by omega) (by omega)
      · simp only [List.length_append, List.length_cons, List.length_nil] at h3 h4
        cases e : j - (0 + 1 + (rowsL (f + 1) a).length) with
        | zero =>
          rw [e] at h4
          obtain rfl : x = settleV := by simpa using h4.symm
          exact .plain _ _ (by decide +kernel)
        | succ i =>
          rw [e] at h4
          obtain ⟨q, rfl⟩ : i = 0 ∧ x = _ := by
            cases i with
            | zero => exact ⟨rfl, by simpa using h4.symm⟩
            | succ i => simp at h4
          exact .lead "jump" [] (by omega) (by omega)
    · simp only [List.length_append, List.length_cons, List.length_nil] at h1 h2
      exact (rowsL_ok _ b ia.2 _ x h2).mono (by omega) (by omega)
theorem rowsL_ok (f : Int) : ∀ (ts : List T), isaAllL ts → ∀ (j : Nat) (x : PV), (rowsL f ts)[j]? = some x → RowOk (f + j) (f + (longL ts).sum) x
  | [], _, j, x, h => by simp [rowsL] at h
  | t :: r, ia, j, x, h => by
    have lt := rowsT_long f t
    have p := long_pos r
    have pt := longT_pos t
    show RowOk (f + j) (f + (longT t :: longL r).sum) x
    rw [List.sum_cons]
    rcases get_app (show (rowsT f t ++ rowsL (f + (rowsT f t).length) r)[j]? = some x from h) with ⟨h1, h2⟩ | ⟨h1, h2⟩
    · exact (rowsT_ok f t ia.1 j x h2).mono (by omega) (by omega)
    · exact (rowsL_ok _ r ia.2 _ x h2).mono (by omega) (by omega)
end
section
variable {h : AH}
theorem tt_1 {i : Int} : bIsi isaTb [.int i, .ty "int"] h = some (.bl true, h) := rfl
theorem tt_2 {i : Int} : bIsi isaTb [.int i, .ty "bool"] h = some (.bl false, h) := rfl
theorem tt_3 {xs} : bIsi isaTb [.tup xs, .ty "tuple"] h = some (.bl true, h) := rfl
theorem tt_4 {xs} : bIsi isaTb [.lst xs, .ty "list"] h = some (.bl true, h) := rfl
theorem x_inS {neg : Bool} {w : Str} {ws : List Str} : oInL neg (.str w) (.tup (ws.map .str)) h = some (.bl (if neg then !decide (w ∈ ws) else decide (w ∈ ws)), h) := by
  have e : ∀ ws : List Str, svs (ws.map PV.str) = some (ws.map V.str) := by
    intro ws
    induction ws with
    | nil => rfl
    | cons a r ih => show (match sv (.str a), svs (r.map .str) with | some v, some vs => some (v :: vs) | _, _ => none) = _; rw [ih]; rfl
  have e2 : ∀ ws : List Str, inV (.str w) (ws.map V.str) = decide (w ∈ ws) := by
    intro ws
    unfold inV
    induction ws with
    | nil => simp
    | cons a r ih =>
      rw [List.map_cons, List.any_cons, ih]
      by_cases ha : w = a
      · subst ha; simp [eqV]
      · have : ¬ a = w := fun z => ha z.symm
        simp [eqV, ha, this]
  unfold oInL itemsOf
  simp only [sv, e, e2]
local macro_rules | `(tactic| walk_at "pa") => `(tactic| simp only [x_ob, x_obN, x_obA, x_var0, x_varS, x_c, x_op, x_opO, x_un, x_oB, x_chain, x_test, x_andV, x_orV, x_notV, x_and, x_or, x_not, x_if, x_nil, x_cons, x_tup, x_lst, x_fz, x_fzL, x_fzI, x_loc, x_call, x_cb, x_cbO, x_bm, x_isStr, x_make, x_makeO, x_next, x_seq, x_sqN, x_sqR, x_sqB, x_sqC, x_break, x_cont, x_drop, x_ret, x_retN, x_ifS, x_asg, x_asgO, x_name, x_yNil, x_yCons, x_yTup, x_frz, x_fz0, x_fzS, x_fvO, x_fvV, x_fvN, x_for, x_frN, x_frC, x_frB, x_frR, x_fnR, x_fnN, x_inK, x_i, x_ic, x_fld, x_fldO, x_meth, x_neg, mulOkR, mulOkL, powOk, x_eqI, x_eqS, x_eqB, x_neI, x_neS, x_isN, x_notN, x_addS, x_in1, x_ixL, x_ixR, x_ixT, x_ixS, x_slL, x_slR, x_cat, x_rep, x_sl, x_slO, x_part, x_nopart, x_lenL, x_lenT, x_lenR, x_lenS, x_int1i, x_int1b, x_strI, x_listL, x_listT, x_comp, x_ite, Option.bind_some, Option.bind_none, List.set_cons_zero, List.set_cons_succ, List.length_cons, List.length_nil, decide_eq_true_eq, Bool.not_eq_true', decide_eq_false_iff_not, if_true, if_false, ite_true, ite_false, and_self, Int.reducePow, Int.reduceToNat, Int.reduceLT, Int.reduceLE, Int.reduceNeg, Int.reduceAdd, Int.reduceSub, Nat.reduceLT, Nat.reduceLeDiff, Nat.reduceAdd, true_and, and_true, reduceIte, Nat.reduceEqDiff, le_refl_nat, eq_self, at_0, at_1, at_2, at_3, at_4, at_5, dec_T, dec_F, ff_eq, tf_eq, Int.reduceEq, Nat.reduceEqDiff, Bool.not_true, Bool.not_false, slen_0, slen_1, slen_2, slen_3, slen_4, slen_5, slen_6, slen_7, slen_8, slen_9, slen_10, slen_11, slen_12, slen_13, slen_14, slen_15, slen_16, slen_17, slen_18, slen_19, slen_20, slen_21, slen_22, mv_Part_long, fv_Let_slot, fv_Let_number, mv_Let_long, iv_Let_slot, iv_Let_number, fv_Reckon_word, fv_Reckon_slot, fv_Reckon_one, fv_Reckon_other, mv_Reckon_long, iv_Reckon_word, iv_Reckon_slot, iv_Reckon_one, iv_Reckon_other, fv_Take_slot, fv_Take_place, mv_Take_long, iv_Take_slot, iv_Take_place, fv_Put_place, fv_Put_slot, mv_Put_long, iv_Put_place, iv_Put_slot, fv_If_slot, fv_If_parts, fv_If_others, mv_If_long, iv_If_slot, iv_If_parts, iv_If_others, fv_Either_parts, fv_Either_others, mv_Either_long, iv_Either_parts, iv_Either_others, fv_Try_parts, fv_Try_name, fv_Try_slot, fv_Try_others, mv_Try_long, iv_Try_parts, iv_Try_name, iv_Try_slot, iv_Try_others, fv_Throw_name, fv_Throw_slot, mv_Throw_long, iv_Throw_name, iv_Throw_slot, mv_Wait_long, x_ixA_t, x_ixA_l, tt_1, tt_2, tt_3, tt_4])
theorem ahead_eq (ts : List T) (hw : wL ts ≤ 50000) (ia : isaAllL ts) : p__law_ahead [.lst (rowsL 0 ts ++ [layV])] h = some (.bl true, h) := by
  have hl := rowsL_len 0 ts
  have hlong := rowsL_long 0 ts
  unfold p__law_ahead
  rw [run_eq]
  show ob (xSeq _ _ [.val (.lst (rowsL 0 ts ++ [layV])), .no, .no, .no] h) fnK = _
  walk_at "pa"
  rw [x_iR1i (j := ((rowsL 0 ts ++ [layV]).length : Int)) (h1 := h) (by walk_at "pa") (by omega) (by simp; omega), x_ob]
  refine forL_then (fun i ρ h1 => h1 = h ∧ ∃ c1 c2 c3 : PVar, ρ = [.val (.lst (rowsL 0 ts ++ [layV])), c1, c2, c3]) ⟨rfl, .no, .no, .no, rfl⟩ ?_ ?_
  · rintro i x ρ h1 hx ⟨rfl, c1, c2, c3, rfl⟩
    obtain ⟨hi, rfl⟩ := rng_get hx
    rw [Int.zero_add]
    have hi : i < (rowsL 0 ts ++ [layV]).length := by omega
    have hrow : RowOk (i : Int) ((rowsL 0 ts).length : Int) (rowsL 0 ts ++ [layV])[i] := by
      have e := List.getElem?_eq_getElem hi
      rcases get_app e with ⟨h2, h3⟩ | ⟨h2, h3⟩
      · have := rowsL_ok 0 ts ia i _ h3
        rw [hlong]
        exact this.mono (by omega) (by omega)
      · obtain hx : (rowsL 0 ts ++ [layV])[i] = layV := by
          cases e2 : i - (rowsL 0 ts).length with
          | zero => rw [e2] at h3; simpa using h3.symm
          | succ n => rw [e2] at h3; simp at h3
        rw [hx]
        exact .plain _ _ (by decide +kernel)
    obtain ⟨w, rest, e1, e2⟩ := hrow
    have eat : atI (rowsL 0 ts ++ [layV]) (i : Int) = some (.tup (.str w :: rest)) := atI_nat (by rw [List.getElem?_eq_getElem hi, e1])
    have hin := x_inS (h := h1) (neg := false) (w := w) (ws := heads4)
    have hin : oInL false (.str w) (.tup [.str "unless", .str "either", .str "guard", .str "jump"]) h1 = some (.bl (decide (w ∈ heads4)), h1) := by rw [show PV.tup [.str "unless", .str "either", .str "guard", .str "jump"] = .tup (heads4.map .str) from rfl, hin]; rfl
    by_cases hw4 : w ∈ heads4
    · obtain ⟨init, t, e3, e4, e5⟩ := e2 hw4
      refine ⟨_, [.val (.lst (rowsL 0 ts ++ [layV])), .val (.int i), .val (.tup (.str w :: rest)), .val (.int t)], h1, rfl, .inl ?_, rfl, _, _, _, rfl⟩
      (try walk_at "pa")
      rw [eat]
      (try walk_at "pa")
      rw [hin, decide_eq_true hw4]
      have hne : ¬ ((rest.length : Int) + 1 = 0) := by omega
      (try walk_at "pa")
      rw [e3, atI_last]
      have e7 : t < ((rowsL 0 ts ++ [layV]).length : Int) := by rw [List.length_append]; simp; omega
      rw [if_neg (by omega)]
      (try walk_at "pa")
      rw [if_pos e4, if_neg (fun z => z e7)]
    · refine ⟨_, [.val (.lst (rowsL 0 ts ++ [layV])), .val (.int i), .val (.tup (.str w :: rest)), c3], h1, rfl, .inl ?_, rfl, _, _, _, rfl⟩
      (try walk_at "pa")
      rw [eat]
      (try walk_at "pa")
      rw [hin, decide_eq_false hw4]
      (try walk_at "pa")
      rw [if_neg (by omega)]
  · rintro ρ' h' ⟨rfl, c1, c2, c3, rfl⟩
    (try walk_at "pa")
    rw [atI_last]
    rfl
/-! ### the rows read back -/
theorem at_mid {A B : List PV} {x : PV} {k : Int} (hk : k = A.length) : atI (A ++ x :: B) k = some x := by
  subst hk
  exact atI_nat (by simp)
theorem x_ins {w : Str} {ws : List Str} {b : Bool} (hb : (!decide (w ∈ ws)) = b) : oInL true (.str w) (.tup (ws.map .str)) h = some (.bl b, h) := by rw [x_inS, ← hb]; rfl
def heads3 : List Str := ["unless", "either", "guard"]
theorem one_back_eq (t : T) (ia : isaAll t) (f : Int) (hk : kd t ≠ 5 ∧ kd t ≠ 6 ∧ kd t ≠ 7) : ∃ (w : Str) (rest : List PV), rowsT f t = [.tup (.str w :: rest)] ∧ w ∉ heads3 ∧ p__law_one_back [.tup (.str w :: rest)] h = some (treeV t, h) := by
  have key : ∀ (w : Str) (rest : List PV), w ∉ w5 → p__law_one_back [.tup (.str w :: rest)] h = some (.tup (.str w :: rest), h) := fun w rest hw => by
    unfold p__law_one_back
    rw [run_eq]
    show ob (xSeq _ _ [.val (.tup (.str w :: rest))] h) fnK = _
    have hin : oInL false (.str w) (.tup [.str "plus", .str "minus", .str "times", .str "less", .str "same"]) h = some (.bl false, h) := by
      rw [show PV.tup [.str "plus", .str "minus", .str "times", .str "less", .str "same"] = .tup (w5.map .str) from rfl, x_inS, decide_eq_false hw]; rfl
    (try walk_at "pa")
    rw [hin]
    (try walk_at "pa")
  have rck : ∀ (w : Str) (a b c : PV), w ∈ w5 → p__law_one_back [.tup [.str w, a, b, c]] h = some (.tup [.str "reckon", .str w, a, b, c], h) := fun w a b c hw => by
    unfold p__law_one_back
    rw [run_eq]
    show ob (xSeq _ _ [.val (.tup [.str w, a, b, c])] h) fnK = _
    have hin : oInL false (.str w) (.tup [.str "plus", .str "minus", .str "times", .str "less", .str "same"]) h = some (.bl true, h) := by
      rw [show PV.tup [.str "plus", .str "minus", .str "times", .str "less", .str "same"] = .tup (w5.map .str) from rfl, x_inS, decide_eq_true hw]; rfl
    (try walk_at "pa")
    rw [hin]
    (try walk_at "pa")
    rfl
  cases t with
  | base => exact ia.elim
  | if_ r a b => exact absurd rfl hk.1
  | either a b => exact absurd rfl hk.2.1
  | try_ a nm r b => exact absurd rfl hk.2.2
  | let_ r n => exact ⟨_, _, rfl, by decide +kernel, key _ _ (by decide +kernel)⟩
  | take r s => exact ⟨_, _, rfl, by decide +kernel, key _ _ (by decide +kernel)⟩
  | put r s => exact ⟨_, _, rfl, by decide +kernel, key _ _ (by decide +kernel)⟩
  | throw nm r => exact ⟨_, _, rfl, by decide +kernel, key _ _ (by decide +kernel)⟩
  | wait => exact ⟨_, _, rfl, by decide +kernel, key _ _ (by decide +kernel)⟩
  | reckon w r s u =>
    refine ⟨_, _, rfl, ?_, rck _ _ _ _ ia⟩
    have ia : w ∈ w5 := ia
    simp only [w5, List.mem_cons, List.not_mem_nil, or_false] at ia
    rcases ia with rfl | rfl | rfl | rfl | rfl <;> decide +kernel
end
section
variable {h : AH}
local macro_rules | `(tactic| walk_at "ps") => `(tactic| simp only [x_ob, x_obN, x_obA, x_var0, x_varS, x_c, x_op, x_opO, x_un, x_oB, x_chain, x_test, x_andV, x_orV, x_notV, x_and, x_or, x_not, x_if, x_nil, x_cons, x_tup, x_lst, x_fz, x_fzL, x_fzI, x_loc, x_call, x_cb, x_cbO, x_bm, x_isStr, x_make, x_makeO, x_next, x_seq, x_sqN, x_sqR, x_sqB, x_sqC, x_break, x_cont, x_drop, x_ret, x_retN, x_ifS, x_asg, x_asgO, x_name, x_yNil, x_yCons, x_yTup, x_frz, x_fz0, x_fzS, x_fvO, x_fvV, x_fvN, x_for, x_frN, x_frC, x_frB, x_frR, x_fnR, x_fnN, x_inK, x_i, x_ic, x_fld, x_fldO, x_meth, x_neg, mulOkR, mulOkL, powOk, x_eqI, x_eqS, x_eqB, x_neI, x_neS, x_isN, x_notN, x_addS, x_in1, x_ixL, x_ixR, x_ixT, x_ixS, x_slL, x_slR, x_cat, x_rep, x_sl, x_slO, x_part, x_nopart, x_lenL, x_lenT, x_lenR, x_lenS, x_int1i, x_int1b, x_strI, x_listL, x_listT, x_comp, x_ite, Option.bind_some, Option.bind_none, List.set_cons_zero, List.set_cons_succ, List.length_cons, List.length_nil, decide_eq_true_eq, Bool.not_eq_true', decide_eq_false_iff_not, if_true, if_false, ite_true, ite_false, and_self, Int.reducePow, Int.reduceToNat, Int.reduceLT, Int.reduceLE, Int.reduceNeg, Int.reduceAdd, Int.reduceSub, Nat.reduceLT, Nat.reduceLeDiff, Nat.reduceAdd, true_and, and_true, reduceIte, Nat.reduceEqDiff, le_refl_nat, eq_self, at_0, at_1, at_2, at_3, at_4, at_5, dec_T, dec_F, ff_eq, tf_eq, Int.reduceEq, Nat.reduceEqDiff, Bool.not_true, Bool.not_false, slen_0, slen_1, slen_2, slen_3, slen_4, slen_5, slen_6, slen_7, slen_8, slen_9, slen_10, slen_11, slen_12, slen_13, slen_14, slen_15, slen_16, slen_17, slen_18, slen_19, slen_20, slen_21, slen_22, mv_Part_long, fv_Let_slot, fv_Let_number, mv_Let_long, iv_Let_slot, iv_Let_number, fv_Reckon_word, fv_Reckon_slot, fv_Reckon_one, fv_Reckon_other, mv_Reckon_long, iv_Reckon_word, iv_Reckon_slot, iv_Reckon_one, iv_Reckon_other, fv_Take_slot, fv_Take_place, mv_Take_long, iv_Take_slot, iv_Take_place, fv_Put_place, fv_Put_slot, mv_Put_long, iv_Put_place, iv_Put_slot, fv_If_slot, fv_If_parts, fv_If_others, mv_If_long, iv_If_slot, iv_If_parts, iv_If_others, fv_Either_parts, fv_Either_others, mv_Either_long, iv_Either_parts, iv_Either_others, fv_Try_parts, fv_Try_name, fv_Try_slot, fv_Try_others, mv_Try_long, iv_Try_parts, iv_Try_name, iv_Try_slot, iv_Try_others, fv_Throw_name, fv_Throw_slot, mv_Throw_long, iv_Throw_name, iv_Throw_slot, mv_Wait_long, x_ixA_t, x_ixA_l, sn_0, sn_1, sn_2, sn_3, sn_4, sn_5, sn_6, sn_7, sn_8, sn_9, sn_10, sn_11, sn_12, sn_13, sn_14, sn_15, sn_16, sn_17, sn_18, sn_19, sn_20, sn_21, sn_22, sn_23, sn_24, sn_25, sn_26, sn_27, sn_28, sn_29, sn_30, sn_31, sn_32, sn_33, sn_34, sn_35, sn_36, sn_37, sn_38])
theorem deq {α : Type} [DecidableEq α] (a : α) : decide (a = a) = true := by simp
def BackOk (n : Nat) : Prop := ∀ (h : AH) (ts : List T) (pre post R : List PV) (p : Int), p = pre.length → R = pre ++ rowsL p ts ++ post → depL ts + 1 ≤ n → wL ts ≤ 4000 → isaAllL ts →
  p__law_back n [.lst R, .int p, .int (p + (rowsL p ts).length)] h = some (.lst (treeVs ts), h)
theorem back_ok : ∀ n : Nat, BackOk n
  | 0 => fun h ts pre post R p _ _ hd => by omega
  | n + 1 => fun h ts pre post R p hp hR hd hw ia => by
    have G := back_ok n
    unfold p__law_back
    rw [run_eq]
    show ob (xSeq _ _ [.val (.lst R), .val (.int p), .val (.int (p + (rowsL p ts).length)), .no, .no, .no, .no, .no, .no, .no] h) fnK = _
    have wc := w_count ts
    walk_at "px"
    generalize he : p + ((rowsL p ts).length : Int) = e at *
    have step : ∀ (m : Nat) (ρ : PSt) (h1 : AH), (fun m ρ h1 => h1 = h ∧ ∃ (us vs : List T) (c4 c5 c6 c7 c8 c9 : PVar), ts = us ++ vs ∧ m = vs.length ∧ ρ = [.val (.lst R), .val (.int (p + (rowsL p us).length)), .val (.int e), .own (.lst (treeVs us)), c4, c5, c6, c7, c8, c9]) m ρ h1 → ((xTest (xOp (oLt) (xVar 1) (xVar 2))) ρ h1 = some (false, h1) ∧ (fun ρ h1 => ∃ (c4 c5 c6 c7 c8 c9 : PVar) (at' : Int), ρ = [.val (.lst R), .val (.int at'), .val (.int e), .own (.lst (treeVs ts)), c4, c5, c6, c7, c8, c9]) ρ h1) ∨ ∃ ρ' m', (xTest (xOp (oLt) (xVar 1) (xVar 2))) ρ h1 = some (true, h1) ∧ (xSeq (xAsg (xOp (oIxL) (xVar 0) (xVar 1)) (yName 4)) (xIfS (xTest (xOp (oInL true) (xOp (oIxT) (xVar 4) (xC (.int 0))) (xTup (xCons (xC (.str "unless")) (xCons (xC (.str "either")) (xCons (xC (.str "guard")) (xNil))))))) (xSeq (xAppO 3 (xCall p__law_one_back (xCons (xVar 4) (xNil)))) (xAsg (xOp oAdd (xVar 1) (xC (.int 1))) (yName 1))) (xSeq (xAsg (xOp (oIxT) (xVar 4) (xUn oNeg (xC (.int 1)))) (yName 5)) (xSeq (xAsg (xOp oSub (xOp oSub (xVar 5) (xC (.int 1))) (xCB (bInt1) (xCons (xOp (oNe) (xOp (oIxT) (xVar 4) (xC (.int 0))) (xC (.str "unless"))) (xNil)))) (yName 6)) (xSeq (xIfS (xOr (xTest (xOp (oGt) (xVar 5) (xVar 2))) (xOr (xTest (xOp (oLe) (xVar 6) (xVar 1))) (xTest (xOp (oNe) (xOp (oIxT) (xOp (oIxL) (xVar 0) (xOp oSub (xVar 5) (xC (.int 1)))) (xC (.int 0))) (xC (.str "jump")))))) (xRet (xC .non)) (xNext)) (xSeq (xAsg (xOp (oIxT) (xOp (oIxL) (xVar 0) (xOp oSub (xVar 5) (xC (.int 1)))) (xC (.int 1))) (yName 7)) (xSeq (xIfS (xOr (xNot (xTest (xChain (oLe) (oLe) (xVar 5) (xVar 7) (xVar 2)))) (xAnd (xTest (xOp (oNe) (xOp (oIxT) (xVar 4) (xC (.int 0))) (xC (.str "unless")))) (xTest (xOp (oNeD) (xOp (oIxL) (xVar 0) (xVar 6)) (xTup (xCons (xC (.str "settle")) (xNil))))))) (xRet (xC .non)) (xNext)) (xSeq (xAsg (xCall (p__law_back n) (xCons (xVar 0) (xCons (xOp oAdd (xVar 1) (xC (.int 1))) (xCons (xVar 6) (xNil))))) (yName 8)) (xSeq (xAsg (xCall (p__law_back n) (xCons (xVar 0) (xCons (xVar 5) (xCons (xVar 7) (xNil))))) (yName 9)) (xSeq (xAppO 3 (xCall p__law_joined (xCons (xVar 4) (xCons (xVar 8) (xCons (xVar 9) (xNil)))))) (xAsg (xVar 7) (yName 1)))))))))))) ρ h1 = some (.nx ρ', h1) ∧ m' < m ∧ (fun m ρ h1 => h1 = h ∧ ∃ (us vs : List T) (c4 c5 c6 c7 c8 c9 : PVar), ts = us ++ vs ∧ m = vs.length ∧ ρ = [.val (.lst R), .val (.int (p + (rowsL p us).length)), .val (.int e), .own (.lst (treeVs us)), c4, c5, c6, c7, c8, c9]) m' ρ' h1 := by
      rintro m ρ h1 ⟨rfl, us, vs, c4, c5, c6, c7, c8, c9, hts, hm, rfl⟩
      cases vs with
      | nil =>
        rw [List.append_nil] at hts
        subst hts
        refine .inl ⟨?_, _, _, _, _, _, _, _, rfl⟩
        walk_at "px"
        rw [he, decide_eq_false (by omega)]
      | cons t vs =>
      have hm' : t ∈ ts := by rw [hts]; simp
      have d1 := dep_mem hm'
      have w1 := w_mem hm'
      have it := isaAllL_mem ia hm'
      have hus : us.length < 100000 := by have := congrArg List.length hts; rw [List.length_append] at this; omega
      have htl : (treeVs us).length < 100000 := by rw [treeVs_len]; exact hus
      obtain ⟨q, hqe⟩ : ∃ q : Int, q = p + ((rowsL p us).length : Int) := ⟨_, rfl⟩
      obtain ⟨pre', hpe⟩ : ∃ pre' : List PV, pre' = pre ++ rowsL p us := ⟨_, rfl⟩
      have hq : (pre'.length : Int) = q := by rw [hpe, hqe, List.length_append]; omega
      have hsp : rowsL p ts = rowsL p us ++ (rowsT q t ++ rowsL (q + (rowsT q t).length) vs) := by rw [hts, rowsL_app, ← hqe]; rfl
      obtain ⟨post', hpo⟩ : ∃ post' : List PV, post' = rowsL (q + (rowsT q t).length) vs ++ post := ⟨_, rfl⟩
      have hR : R = pre' ++ rowsT q t ++ post' := by rw [hR, hsp, hpe, hpo]; simp
      have lt := rowsT_long q t
      have eend : q + longT t ≤ e := by rw [← he, hsp, ← lt]; simp only [List.length_append]; omega
      have e9 : p + ((rowsL p (us ++ [t])).length : Int) = q + longT t := by
        rw [rowsL_app, ← hqe]
        show p + ((rowsL p us ++ (rowsT q t ++ [])).length : Int) = _
        rw [List.append_nil, List.length_append, ← lt]; omega
      rw [← hqe]
      have plain : kd t ≠ 5 ∧ kd t ≠ 6 ∧ kd t ≠ 7 → longT t = 1 → ((xSeq (xAsg (xOp (oIxL) (xVar 0) (xVar 1)) (yName 4)) (xIfS (xTest (xOp (oInL true) (xOp (oIxT) (xVar 4) (xC (.int 0))) (xTup (xCons (xC (.str "unless")) (xCons (xC (.str "either")) (xCons (xC (.str "guard")) (xNil))))))) (xSeq (xAppO 3 (xCall p__law_one_back (xCons (xVar 4) (xNil)))) (xAsg (xOp oAdd (xVar 1) (xC (.int 1))) (yName 1))) (xSeq (xAsg (xOp (oIxT) (xVar 4) (xUn oNeg (xC (.int 1)))) (yName 5)) (xSeq (xAsg (xOp oSub (xOp oSub (xVar 5) (xC (.int 1))) (xCB (bInt1) (xCons (xOp (oNe) (xOp (oIxT) (xVar 4) (xC (.int 0))) (xC (.str "unless"))) (xNil)))) (yName 6)) (xSeq (xIfS (xOr (xTest (xOp (oGt) (xVar 5) (xVar 2))) (xOr (xTest (xOp (oLe) (xVar 6) (xVar 1))) (xTest (xOp (oNe) (xOp (oIxT) (xOp (oIxL) (xVar 0) (xOp oSub (xVar 5) (xC (.int 1)))) (xC (.int 0))) (xC (.str "jump")))))) (xRet (xC .non)) (xNext)) (xSeq (xAsg (xOp (oIxT) (xOp (oIxL) (xVar 0) (xOp oSub (xVar 5) (xC (.int 1)))) (xC (.int 1))) (yName 7)) (xSeq (xIfS (xOr (xNot (xTest (xChain (oLe) (oLe) (xVar 5) (xVar 7) (xVar 2)))) (xAnd (xTest (xOp (oNe) (xOp (oIxT) (xVar 4) (xC (.int 0))) (xC (.str "unless")))) (xTest (xOp (oNeD) (xOp (oIxL) (xVar 0) (xVar 6)) (xTup (xCons (xC (.str "settle")) (xNil))))))) (xRet (xC .non)) (xNext)) (xSeq (xAsg (xCall (p__law_back n) (xCons (xVar 0) (xCons (xOp oAdd (xVar 1) (xC (.int 1))) (xCons (xVar 6) (xNil))))) (yName 8)) (xSeq (xAsg (xCall (p__law_back n) (xCons (xVar 0) (xCons (xVar 5) (xCons (xVar 7) (xNil))))) (yName 9)) (xSeq (xAppO 3 (xCall p__law_joined (xCons (xVar 4) (xCons (xVar 8) (xCons (xVar 9) (xNil)))))) (xAsg (xVar 7) (yName 1)))))))))))) [.val (.lst R), .val (.int q), .val (.int e), .own (.lst (treeVs us)), c4, c5, c6, c7, c8, c9] h1 = some (.nx [.val (.lst R), .val (.int (q + 1)), .val (.int e), .own (.lst (treeVs (us ++ [t]))), .val ((rowsT q t)[0]?.getD .non), c5, c6, c7, c8, c9], h1)) := fun hk hl1 => by
        obtain ⟨w, rest, o1, o2, o3⟩ := one_back_eq (h := h1) t it q hk
        have r0 : atI R q = some (.tup (.str w :: rest)) := by rw [hR, o1]; simp only [List.append_assoc, List.cons_append, List.nil_append]; exact at_mid hq.symm
        have hin : oInL true (.str w) (.tup [.str "unless", .str "either", .str "guard"]) h1 = some (.bl true, h1) := x_ins (ws := heads3) (by rw [decide_eq_false o2]; rfl)
        (try walk_at "ps")
        rw [r0]
        (try walk_at "ps")
        rw [hin]
        (try walk_at "ps")
        rw [x_appO rfl]
        (try walk_at "ps")
        rw [o3]
        (try walk_at "ps")
        rw [if_pos htl, o1, treeVs_app]
        rfl
      have fin : kd t ≠ 5 ∧ kd t ≠ 6 ∧ kd t ≠ 7 → longT t = 1 → ∃ ρ' m', (xTest (xOp (oLt) (xVar 1) (xVar 2))) [.val (.lst R), .val (.int q), .val (.int e), .own (.lst (treeVs us)), c4, c5, c6, c7, c8, c9] h1 = some (true, h1) ∧ (xSeq (xAsg (xOp (oIxL) (xVar 0) (xVar 1)) (yName 4)) (xIfS (xTest (xOp (oInL true) (xOp (oIxT) (xVar 4) (xC (.int 0))) (xTup (xCons (xC (.str "unless")) (xCons (xC (.str "either")) (xCons (xC (.str "guard")) (xNil))))))) (xSeq (xAppO 3 (xCall p__law_one_back (xCons (xVar 4) (xNil)))) (xAsg (xOp oAdd (xVar 1) (xC (.int 1))) (yName 1))) (xSeq (xAsg (xOp (oIxT) (xVar 4) (xUn oNeg (xC (.int 1)))) (yName 5)) (xSeq (xAsg (xOp oSub (xOp oSub (xVar 5) (xC (.int 1))) (xCB (bInt1) (xCons (xOp (oNe) (xOp (oIxT) (xVar 4) (xC (.int 0))) (xC (.str "unless"))) (xNil)))) (yName 6)) (xSeq (xIfS (xOr (xTest (xOp (oGt) (xVar 5) (xVar 2))) (xOr (xTest (xOp (oLe) (xVar 6) (xVar 1))) (xTest (xOp (oNe) (xOp (oIxT) (xOp (oIxL) (xVar 0) (xOp oSub (xVar 5) (xC (.int 1)))) (xC (.int 0))) (xC (.str "jump")))))) (xRet (xC .non)) (xNext)) (xSeq (xAsg (xOp (oIxT) (xOp (oIxL) (xVar 0) (xOp oSub (xVar 5) (xC (.int 1)))) (xC (.int 1))) (yName 7)) (xSeq (xIfS (xOr (xNot (xTest (xChain (oLe) (oLe) (xVar 5) (xVar 7) (xVar 2)))) (xAnd (xTest (xOp (oNe) (xOp (oIxT) (xVar 4) (xC (.int 0))) (xC (.str "unless")))) (xTest (xOp (oNeD) (xOp (oIxL) (xVar 0) (xVar 6)) (xTup (xCons (xC (.str "settle")) (xNil))))))) (xRet (xC .non)) (xNext)) (xSeq (xAsg (xCall (p__law_back n) (xCons (xVar 0) (xCons (xOp oAdd (xVar 1) (xC (.int 1))) (xCons (xVar 6) (xNil))))) (yName 8)) (xSeq (xAsg (xCall (p__law_back n) (xCons (xVar 0) (xCons (xVar 5) (xCons (xVar 7) (xNil))))) (yName 9)) (xSeq (xAppO 3 (xCall p__law_joined (xCons (xVar 4) (xCons (xVar 8) (xCons (xVar 9) (xNil)))))) (xAsg (xVar 7) (yName 1)))))))))))) [.val (.lst R), .val (.int q), .val (.int e), .own (.lst (treeVs us)), c4, c5, c6, c7, c8, c9] h1 = some (.nx ρ', h1) ∧ m' < m ∧ h1 = h1 ∧ ∃ (us vs : List T) (c4 c5 c6 c7 c8 c9 : PVar), ts = us ++ vs ∧ m' = vs.length ∧ ρ' = [.val (.lst R), .val (.int (p + (rowsL p us).length)), .val (.int e), .own (.lst (treeVs us)), c4, c5, c6, c7, c8, c9] := fun hk hl1 => by
        refine ⟨_, vs.length, ?_, plain hk hl1, by rw [hm]; simp, rfl, us ++ [t], vs, _, _, _, _, _, _, by rw [hts]; simp, rfl, by rw [e9, hl1]⟩
        walk_at "ps"
        rw [decide_eq_true (show q < e by omega)]
      cases t with
      | base => exact it.elim
      | let_ r m => exact .inr (fin ⟨by simp [kd], by simp [kd], by simp [kd]⟩ rfl)
      | reckon w r s u => exact .inr (fin ⟨by simp [kd], by simp [kd], by simp [kd]⟩ rfl)
      | take r s => exact .inr (fin ⟨by simp [kd], by simp [kd], by simp [kd]⟩ rfl)
      | put r s => exact .inr (fin ⟨by simp [kd], by simp [kd], by simp [kd]⟩ rfl)
      | throw nm r => exact .inr (fin ⟨by simp [kd], by simp [kd], by simp [kd]⟩ rfl)
      | wait => exact .inr (fin ⟨by simp [kd], by simp [kd], by simp [kd]⟩ rfl)
      | if_ r a b =>
        have d2 : 1 + max (depL a) (depL b) ≤ depL ts := d1
        have w2 : 40 + wL a + wL b ≤ wL ts := w1
        have hA := rowsL_long (q + 1) a
        have hB := rowsL_long (q + longT (.if_ r a b) - (longL b).sum) b
        have hL : longT (.if_ r a b) = 2 + (longL a).sum + (longL b).sum := rfl
        have pa := long_pos a
        have pb := long_pos b
        have eR : R = pre' ++ ([.tup [.str "unless", .str r, .int (q + longT (.if_ r a b) - (longL b).sum)]] ++ rowsL (q + 1) a ++ [jumpV (q + longT (.if_ r a b))] ++ rowsL (q + longT (.if_ r a b) - (longL b).sum) b) ++ post' := hR
        generalize hbe : q + longT (.if_ r a b) = behind at *
        generalize hse : behind - (longL b).sum = second at *
        have hsec : second = q + 2 + (longL a).sum := by omega
        have r0 : atI R q = some (.tup [.str "unless", .str r, .int second]) := by rw [eR]; simp only [List.append_assoc, List.cons_append, List.nil_append]; exact at_mid hq.symm
        have r1 : atI R (second - 1) = some (jumpV behind) := by
          rw [eR, show pre' ++ ([PV.tup [.str "unless", .str r, .int second]] ++ rowsL (q + 1) a ++ [jumpV (behind)] ++ rowsL second b) ++ post' = (pre' ++ PV.tup [.str "unless", .str r, .int second] :: (rowsL (q + 1) a)) ++ jumpV behind :: (rowsL second b ++ post') by simp]
          exact at_mid (by simp; omega)
        have ba : p__law_back n [.lst R, .int (q + 1), .int (second - 1)] h1 = some (.lst (treeVs a), h1) := by
          have := G h1 a (pre' ++ [.tup [.str "unless", .str r, .int second]]) ([jumpV (behind)] ++ rowsL second b ++ post') R (q + 1) (by simp; omega) (by rw [eR]; simp) (by omega) (by omega) it.1
          rw [hA, show q + 1 + (longL a).sum = (second - 1) by omega] at this
          exact this
        have bb : p__law_back n [.lst R, .int second, .int behind] h1 = some (.lst (treeVs b), h1) := by
          have := G h1 b (pre' ++ [.tup [.str "unless", .str r, .int second]] ++ rowsL (q + 1) a ++ [jumpV (behind)]) post' R second (by simp; omega) (by rw [eR]; simp) (by omega) (by omega) it.2
          rw [hB, show second + (longL b).sum = behind by omega] at this
          exact this
        have hin : oInL true (.str "unless") (.tup [.str "unless", .str "either", .str "guard"]) h1 = some (.bl false, h1) := x_ins (ws := heads3) (by decide +kernel)
        have jn : p__law_joined [.tup [.str "unless", .str r, .int second], .lst (treeVs a), .lst (treeVs b)] h1 = some (treeV (.if_ r a b), h1) := by
          unfold p__law_joined
          rw [run_eq]
          show ob (xSeq _ _ [.val (.tup [.str "unless", .str r, .int second]), .val (.lst (treeVs a)), .val (.lst (treeVs b))] h1) fnK = _
          (try walk_at "ps")
          rfl
        have lT : longT (.if_ r a b) = behind - q := by omega
        refine .inr ⟨[.val (.lst R), .val (.int behind), .val (.int e), .own (.lst (treeVs (us ++ [.if_ r a b]))), .val (.tup [.str "unless", .str r, .int second]), .val (.int second), .val (.int (second - 1)), .val (.int behind), .val (.lst (treeVs a)), .val (.lst (treeVs b))], vs.length, ?_, ?_, by rw [hm]; simp, rfl, us ++ [.if_ r a b], vs, _, _, _, _, _, _, by rw [hts]; simp, rfl, by rw [e9]⟩
        · walk_at "ps"
          rw [decide_eq_true (show q < e by omega)]
        · (try walk_at "ps")
          rw [r0]
          (try walk_at "ps")
          rw [hin]
          (try walk_at "ps")
          rw [show atI [.str "unless", .str r, PV.int second] (-1) = some (.int second) from atI_last (α := PV) [.str "unless", .str r] (.int second)]
          (try walk_at "ps")
          (try simp only [Int.sub_zero])
          rw [if_neg (by omega), if_neg (by omega), r1]
          simp only [jumpV]
          (try walk_at "ps")
          have hle1 : second ≤ behind := by omega
          have hle2 : behind ≤ e := by omega
          (try simp only [deq])
          (try walk_at "ps")
          rw [if_pos hle1]
          (try walk_at "ps")
          rw [if_neg (fun z => z hle2)]
          rw [ba]
          (try walk_at "ps")
          rw [bb]
          (try walk_at "ps")
          rw [x_appO rfl]
          (try walk_at "ps")
          rw [jn]
          (try walk_at "ps")
          rw [if_pos htl, treeVs_app]
          rfl
      | either a b =>
        have d2 : 1 + max (depL a) (depL b) ≤ depL ts := d1
        have w2 : 40 + wL a + wL b ≤ wL ts := w1
        have hA := rowsL_long (q + 1) a
        have hB := rowsL_long (q + longT (.either a b) - (longL b).sum) b
        have hL : longT (.either a b) = 3 + (longL a).sum + (longL b).sum := rfl
        have pa := long_pos a
        have pb := long_pos b
        have eR : R = pre' ++ ([.tup [.str "either", .int (q + longT (.either a b) - (longL b).sum)]] ++ rowsL (q + 1) a ++ [settleV, jumpV (q + longT (.either a b))] ++ rowsL (q + longT (.either a b) - (longL b).sum) b) ++ post' := hR
        generalize hbe : q + longT (.either a b) = behind at *
        generalize hse : behind - (longL b).sum = second at *
        have hsec : second = q + 3 + (longL a).sum := by omega
        have r0 : atI R q = some (.tup [.str "either", .int second]) := by rw [eR]; simp only [List.append_assoc, List.cons_append, List.nil_append]; exact at_mid hq.symm
        have r1 : atI R (second - 1) = some (jumpV behind) := by
          rw [eR, show pre' ++ ([PV.tup [.str "either", .int second]] ++ rowsL (q + 1) a ++ [settleV, jumpV (behind)] ++ rowsL second b) ++ post' = (pre' ++ PV.tup [.str "either", .int second] :: (rowsL (q + 1) a ++ [settleV])) ++ jumpV behind :: (rowsL second b ++ post') by simp]
          exact at_mid (by simp; omega)
        have r2 : atI R (second - 1 - 1) = some settleV := by
          rw [eR, show pre' ++ ([PV.tup [.str "either", .int second]] ++ rowsL (q + 1) a ++ [settleV, jumpV (behind)] ++ rowsL second b) ++ post' = (pre' ++ PV.tup [.str "either", .int second] :: rowsL (q + 1) a) ++ settleV :: (jumpV behind :: (rowsL second b ++ post')) by simp]
          exact at_mid (by simp; omega)
        have ba : p__law_back n [.lst R, .int (q + 1), .int (second - 1 - 1)] h1 = some (.lst (treeVs a), h1) := by
          have := G h1 a (pre' ++ [.tup [.str "either", .int second]]) ([settleV, jumpV (behind)] ++ rowsL second b ++ post') R (q + 1) (by simp; omega) (by rw [eR]; simp) (by omega) (by omega) it.1
          rw [hA, show q + 1 + (longL a).sum = (second - 1 - 1) by omega] at this
          exact this
        have bb : p__law_back n [.lst R, .int second, .int behind] h1 = some (.lst (treeVs b), h1) := by
          have := G h1 b (pre' ++ [.tup [.str "either", .int second]] ++ rowsL (q + 1) a ++ [settleV, jumpV (behind)]) post' R second (by simp; omega) (by rw [eR]; simp) (by omega) (by omega) it.2
          rw [hB, show second + (longL b).sum = behind by omega] at this
          exact this
        have hin : oInL true (.str "either") (.tup [.str "unless", .str "either", .str "guard"]) h1 = some (.bl false, h1) := x_ins (ws := heads3) (by decide +kernel)
        have jn : p__law_joined [.tup [.str "either", .int second], .lst (treeVs a), .lst (treeVs b)] h1 = some (treeV (.either a b), h1) := by
          unfold p__law_joined
          rw [run_eq]
          show ob (xSeq _ _ [.val (.tup [.str "either", .int second]), .val (.lst (treeVs a)), .val (.lst (treeVs b))] h1) fnK = _
          (try walk_at "ps")
          rfl
        have lT : longT (.either a b) = behind - q := by omega
        refine .inr ⟨[.val (.lst R), .val (.int behind), .val (.int e), .own (.lst (treeVs (us ++ [.either a b]))), .val (.tup [.str "either", .int second]), .val (.int second), .val (.int (second - 1 - 1)), .val (.int behind), .val (.lst (treeVs a)), .val (.lst (treeVs b))], vs.length, ?_, ?_, by rw [hm]; simp, rfl, us ++ [.either a b], vs, _, _, _, _, _, _, by rw [hts]; simp, rfl, by rw [e9]⟩
        · walk_at "ps"
          rw [decide_eq_true (show q < e by omega)]
        · (try walk_at "ps")
          rw [r0]
          (try walk_at "ps")
          rw [hin]
          (try walk_at "ps")
          rw [show atI [.str "either", PV.int second] (-1) = some (.int second) from atI_last (α := PV) [.str "either"] (.int second)]
          (try walk_at "ps")
          (try simp only [Int.sub_zero])
          rw [if_neg (by omega), if_neg (by omega), r1]
          simp only [jumpV]
          (try walk_at "ps")
          have hle1 : second ≤ behind := by omega
          have hle2 : behind ≤ e := by omega
          (try simp only [deq])
          (try walk_at "ps")
          rw [if_pos hle1]
          (try walk_at "ps")
          rw [if_neg (fun z => z hle2)]
          rw [r2]
          (try walk_at "ps")
          rw [show oNeD settleV (.tup [.str "settle"]) h1 = some (.bl false, h1) from rfl]
          (try walk_at "ps")
          rw [ba]
          (try walk_at "ps")
          rw [bb]
          (try walk_at "ps")
          rw [x_appO rfl]
          (try walk_at "ps")
          rw [jn]
          (try walk_at "ps")
          rw [if_pos htl, treeVs_app]
          rfl
      | try_ a nm r b =>
        have d2 : 1 + max (depL a) (depL b) ≤ depL ts := d1
        have w2 : 40 + wL a + wL b ≤ wL ts := w1
        have hA := rowsL_long (q + 1) a
        have hB := rowsL_long (q + longT (.try_ a nm r b) - (longL b).sum) b
        have hL : longT (.try_ a nm r b) = 3 + (longL a).sum + (longL b).sum := rfl
        have pa := long_pos a
        have pb := long_pos b
        have eR : R = pre' ++ ([.tup [.str "guard", .str nm, .str r, .int (q + longT (.try_ a nm r b) - (longL b).sum)]] ++ rowsL (q + 1) a ++ [settleV, jumpV (q + longT (.try_ a nm r b))] ++ rowsL (q + longT (.try_ a nm r b) - (longL b).sum) b) ++ post' := hR
        generalize hbe : q + longT (.try_ a nm r b) = behind at *
        generalize hse : behind - (longL b).sum = second at *
        have hsec : second = q + 3 + (longL a).sum := by omega
        have r0 : atI R q = some (.tup [.str "guard", .str nm, .str r, .int second]) := by rw [eR]; simp only [List.append_assoc, List.cons_append, List.nil_append]; exact at_mid hq.symm
        have r1 : atI R (second - 1) = some (jumpV behind) := by
          rw [eR, show pre' ++ ([PV.tup [.str "guard", .str nm, .str r, .int second]] ++ rowsL (q + 1) a ++ [settleV, jumpV (behind)] ++ rowsL second b) ++ post' = (pre' ++ PV.tup [.str "guard", .str nm, .str r, .int second] :: (rowsL (q + 1) a ++ [settleV])) ++ jumpV behind :: (rowsL second b ++ post') by simp]
          exact at_mid (by simp; omega)
        have r2 : atI R (second - 1 - 1) = some settleV := by
          rw [eR, show pre' ++ ([PV.tup [.str "guard", .str nm, .str r, .int second]] ++ rowsL (q + 1) a ++ [settleV, jumpV (behind)] ++ rowsL second b) ++ post' = (pre' ++ PV.tup [.str "guard", .str nm, .str r, .int second] :: rowsL (q + 1) a) ++ settleV :: (jumpV behind :: (rowsL second b ++ post')) by simp]
          exact at_mid (by simp; omega)
        have ba : p__law_back n [.lst R, .int (q + 1), .int (second - 1 - 1)] h1 = some (.lst (treeVs a), h1) := by
          have := G h1 a (pre' ++ [.tup [.str "guard", .str nm, .str r, .int second]]) ([settleV, jumpV (behind)] ++ rowsL second b ++ post') R (q + 1) (by simp; omega) (by rw [eR]; simp) (by omega) (by omega) it.1
          rw [hA, show q + 1 + (longL a).sum = (second - 1 - 1) by omega] at this
          exact this
        have bb : p__law_back n [.lst R, .int second, .int behind] h1 = some (.lst (treeVs b), h1) := by
          have := G h1 b (pre' ++ [.tup [.str "guard", .str nm, .str r, .int second]] ++ rowsL (q + 1) a ++ [settleV, jumpV (behind)]) post' R second (by simp; omega) (by rw [eR]; simp) (by omega) (by omega) it.2
          rw [hB, show second + (longL b).sum = behind by omega] at this
          exact this
        have hin : oInL true (.str "guard") (.tup [.str "unless", .str "either", .str "guard"]) h1 = some (.bl false, h1) := x_ins (ws := heads3) (by decide +kernel)
        have jn : p__law_joined [.tup [.str "guard", .str nm, .str r, .int second], .lst (treeVs a), .lst (treeVs b)] h1 = some (treeV (.try_ a nm r b), h1) := by
          unfold p__law_joined
          rw [run_eq]
          show ob (xSeq _ _ [.val (.tup [.str "guard", .str nm, .str r, .int second]), .val (.lst (treeVs a)), .val (.lst (treeVs b))] h1) fnK = _
          (try walk_at "ps")
          rfl
        have lT : longT (.try_ a nm r b) = behind - q := by omega
        refine .inr ⟨[.val (.lst R), .val (.int behind), .val (.int e), .own (.lst (treeVs (us ++ [.try_ a nm r b]))), .val (.tup [.str "guard", .str nm, .str r, .int second]), .val (.int second), .val (.int (second - 1 - 1)), .val (.int behind), .val (.lst (treeVs a)), .val (.lst (treeVs b))], vs.length, ?_, ?_, by rw [hm]; simp, rfl, us ++ [.try_ a nm r b], vs, _, _, _, _, _, _, by rw [hts]; simp, rfl, by rw [e9]⟩
        · walk_at "ps"
          rw [decide_eq_true (show q < e by omega)]
        · (try walk_at "ps")
          rw [r0]
          (try walk_at "ps")
          rw [hin]
          (try walk_at "ps")
          rw [show atI [.str "guard", .str nm, .str r, PV.int second] (-1) = some (.int second) from atI_last (α := PV) [.str "guard", .str nm, .str r] (.int second)]
          (try walk_at "ps")
          (try simp only [Int.sub_zero])
          rw [if_neg (by omega), if_neg (by omega), r1]
          simp only [jumpV]
          (try walk_at "ps")
          have hle1 : second ≤ behind := by omega
          have hle2 : behind ≤ e := by omega
          (try simp only [deq])
          (try walk_at "ps")
          rw [if_pos hle1]
          (try walk_at "ps")
          rw [if_neg (fun z => z hle2)]
          rw [r2]
          (try walk_at "ps")
          rw [show oNeD settleV (.tup [.str "settle"]) h1 = some (.bl false, h1) from rfl]
          (try walk_at "ps")
          rw [ba]
          (try walk_at "ps")
          rw [bb]
          (try walk_at "ps")
          rw [x_appO rfl]
          (try walk_at "ps")
          rw [jn]
          (try walk_at "ps")
          rw [if_pos htl, treeVs_app]
          rfl
    obtain ⟨ρ', e1, c4, c5, c6, c7, c8, c9, at', rfl⟩ := whl_nx (fun m ρ h1 => h1 = h ∧ ∃ (us vs : List T) (c4 c5 c6 c7 c8 c9 : PVar), ts = us ++ vs ∧ m = vs.length ∧ ρ = [.val (.lst R), .val (.int (p + (rowsL p us).length)), .val (.int e), .own (.lst (treeVs us)), c4, c5, c6, c7, c8, c9]) (fun ρ h1 => ∃ (c4 c5 c6 c7 c8 c9 : PVar) (at' : Int), ρ = [.val (.lst R), .val (.int at'), .val (.int e), .own (.lst (treeVs ts)), c4, c5, c6, c7, c8, c9]) step 1000 ts.length [.val (.lst R), .val (.int p), .val (.int e), .own (.lst []), .no, .no, .no, .no, .no, .no] h (by omega) ⟨rfl, [], ts, .no, .no, .no, .no, .no, .no, rfl, rfl, by simp [rowsL, treeVs]⟩
    rw [show xWhile 1000 (xTest (xOp (oLt) (xVar 1) (xVar 2))) (xSeq (xAsg (xOp (oIxL) (xVar 0) (xVar 1)) (yName 4)) (xIfS (xTest (xOp (oInL true) (xOp (oIxT) (xVar 4) (xC (.int 0))) (xTup (xCons (xC (.str "unless")) (xCons (xC (.str "either")) (xCons (xC (.str "guard")) (xNil))))))) (xSeq (xAppO 3 (xCall p__law_one_back (xCons (xVar 4) (xNil)))) (xAsg (xOp oAdd (xVar 1) (xC (.int 1))) (yName 1))) (xSeq (xAsg (xOp (oIxT) (xVar 4) (xUn oNeg (xC (.int 1)))) (yName 5)) (xSeq (xAsg (xOp oSub (xOp oSub (xVar 5) (xC (.int 1))) (xCB (bInt1) (xCons (xOp (oNe) (xOp (oIxT) (xVar 4) (xC (.int 0))) (xC (.str "unless"))) (xNil)))) (yName 6)) (xSeq (xIfS (xOr (xTest (xOp (oGt) (xVar 5) (xVar 2))) (xOr (xTest (xOp (oLe) (xVar 6) (xVar 1))) (xTest (xOp (oNe) (xOp (oIxT) (xOp (oIxL) (xVar 0) (xOp oSub (xVar 5) (xC (.int 1)))) (xC (.int 0))) (xC (.str "jump")))))) (xRet (xC .non)) (xNext)) (xSeq (xAsg (xOp (oIxT) (xOp (oIxL) (xVar 0) (xOp oSub (xVar 5) (xC (.int 1)))) (xC (.int 1))) (yName 7)) (xSeq (xIfS (xOr (xNot (xTest (xChain (oLe) (oLe) (xVar 5) (xVar 7) (xVar 2)))) (xAnd (xTest (xOp (oNe) (xOp (oIxT) (xVar 4) (xC (.int 0))) (xC (.str "unless")))) (xTest (xOp (oNeD) (xOp (oIxL) (xVar 0) (xVar 6)) (xTup (xCons (xC (.str "settle")) (xNil))))))) (xRet (xC .non)) (xNext)) (xSeq (xAsg (xCall (p__law_back n) (xCons (xVar 0) (xCons (xOp oAdd (xVar 1) (xC (.int 1))) (xCons (xVar 6) (xNil))))) (yName 8)) (xSeq (xAsg (xCall (p__law_back n) (xCons (xVar 0) (xCons (xVar 5) (xCons (xVar 7) (xNil))))) (yName 9)) (xSeq (xAppO 3 (xCall p__law_joined (xCons (xVar 4) (xCons (xVar 8) (xCons (xVar 9) (xNil)))))) (xAsg (xVar 7) (yName 1)))))))))))) [.val (.lst R), .val (.int p), .val (.int e), .own (.lst []), .no, .no, .no, .no, .no, .no] h = _ from e1]
    walk_at "px"
end
section
variable {h : AH}
local macro_rules | `(tactic| walk_at "ps") => `(tactic| simp only [x_ob, x_obN, x_obA, x_var0, x_varS, x_c, x_op, x_opO, x_un, x_oB, x_chain, x_test, x_andV, x_orV, x_notV, x_and, x_or, x_not, x_if, x_nil, x_cons, x_tup, x_lst, x_fz, x_fzL, x_fzI, x_loc, x_call, x_cb, x_cbO, x_bm, x_isStr, x_make, x_makeO, x_next, x_seq, x_sqN, x_sqR, x_sqB, x_sqC, x_break, x_cont, x_drop, x_ret, x_retN, x_ifS, x_asg, x_asgO, x_name, x_yNil, x_yCons, x_yTup, x_frz, x_fz0, x_fzS, x_fvO, x_fvV, x_fvN, x_for, x_frN, x_frC, x_frB, x_frR, x_fnR, x_fnN, x_inK, x_i, x_ic, x_fld, x_fldO, x_meth, x_neg, mulOkR, mulOkL, powOk, x_eqI, x_eqS, x_eqB, x_neI, x_neS, x_isN, x_notN, x_addS, x_in1, x_ixL, x_ixR, x_ixT, x_ixS, x_slL, x_slR, x_cat, x_rep, x_sl, x_slO, x_part, x_nopart, x_lenL, x_lenT, x_lenR, x_lenS, x_int1i, x_int1b, x_strI, x_listL, x_listT, x_comp, x_ite, Option.bind_some, Option.bind_none, List.set_cons_zero, List.set_cons_succ, List.length_cons, List.length_nil, decide_eq_true_eq, Bool.not_eq_true', decide_eq_false_iff_not, if_true, if_false, ite_true, ite_false, and_self, Int.reducePow, Int.reduceToNat, Int.reduceLT, Int.reduceLE, Int.reduceNeg, Int.reduceAdd, Int.reduceSub, Nat.reduceLT, Nat.reduceLeDiff, Nat.reduceAdd, true_and, and_true, reduceIte, Nat.reduceEqDiff, le_refl_nat, eq_self, at_0, at_1, at_2, at_3, at_4, at_5, dec_T, dec_F, ff_eq, tf_eq, Int.reduceEq, Nat.reduceEqDiff, Bool.not_true, Bool.not_false, slen_0, slen_1, slen_2, slen_3, slen_4, slen_5, slen_6, slen_7, slen_8, slen_9, slen_10, slen_11, slen_12, slen_13, slen_14, slen_15, slen_16, slen_17, slen_18, slen_19, slen_20, slen_21, slen_22, mv_Part_long, fv_Let_slot, fv_Let_number, mv_Let_long, iv_Let_slot, iv_Let_number, fv_Reckon_word, fv_Reckon_slot, fv_Reckon_one, fv_Reckon_other, mv_Reckon_long, iv_Reckon_word, iv_Reckon_slot, iv_Reckon_one, iv_Reckon_other, fv_Take_slot, fv_Take_place, mv_Take_long, iv_Take_slot, iv_Take_place, fv_Put_place, fv_Put_slot, mv_Put_long, iv_Put_place, iv_Put_slot, fv_If_slot, fv_If_parts, fv_If_others, mv_If_long, iv_If_slot, iv_If_parts, iv_If_others, fv_Either_parts, fv_Either_others, mv_Either_long, iv_Either_parts, iv_Either_others, fv_Try_parts, fv_Try_name, fv_Try_slot, fv_Try_others, mv_Try_long, iv_Try_parts, iv_Try_name, iv_Try_slot, iv_Try_others, fv_Throw_name, fv_Throw_slot, mv_Throw_long, iv_Throw_name, iv_Throw_slot, mv_Wait_long, x_ixA_t, x_ixA_l, sn_0, sn_1, sn_2, sn_3, sn_4, sn_5, sn_6, sn_7, sn_8, sn_9, sn_10, sn_11, sn_12, sn_13, sn_14, sn_15, sn_16, sn_17, sn_18, sn_19, sn_20, sn_21, sn_22, sn_23, sn_24, sn_25, sn_26, sn_27, sn_28, sn_29, sn_30, sn_31, sn_32, sn_33, sn_34, sn_35, sn_36, sn_37, sn_38])
theorem at_in {α : Type} (xs : List α) (i n : Int) (hn : xs.length = n) (h0 : 0 ≤ i) (h1 : i < n) : ∃ x, atI xs i = some x ∧ x ∈ xs := by
  obtain ⟨j, rfl⟩ : ∃ j : Nat, i = (j : Int) := ⟨i.toNat, by omega⟩
  have hj : j < xs.length := by omega
  exact ⟨xs[j], atI_nat (List.getElem?_eq_getElem hj), List.getElem_mem hj⟩
theorem wide_ex (c : Int) : ∃ k : Int, p__law_wide [.int c] h = some (.int k, h) := by
  unfold p__law_wide
  rw [run_eq]
  show ∃ k, ob (xRet _ [.val (.int c)] h) fnK = _
  walk_at "px"
  exact ⟨_, rfl⟩
theorem letters_ex (m : Int) : ∃ (L : Int) (z : Str), atI [PV.int 2, PV.int 3, PV.int 8] (m % 3) = some (.int L) ∧ oSlS (.str "abcdefgh") none (some L) h = some (.str z, h) ∧ (z.length : Int) = L ∧ 0 < L ∧ L ≤ 8 ∧ (z.cps.toList.length : Int) = L := by
  have b : m % 3 = 0 ∨ m % 3 = 1 ∨ m % 3 = 2 := by omega
  rcases b with e | e | e
  · exact ⟨2, "ab", by rw [e]; exact at_0, rfl, by decide +kernel, by decide, by decide, by decide +kernel⟩
  · exact ⟨3, "abc", by rw [e]; exact at_1, rfl, by decide +kernel, by decide, by decide, by decide +kernel⟩
  · exact ⟨8, "abcdefgh", by rw [e]; exact at_2, rfl, by decide +kernel, by decide, by decide, by decide +kernel⟩
structure Pl (ts : List T) (w d : Nat) : Prop where
  w : wL ts ≤ w
  d : depL ts ≤ d
  isa : isaAllL ts
theorem plain_ex (m c : Int) : ∃ ts, Pl ts 100 0 ∧ p__law_plain [.int m, .int c] h = some (.lst (treeVs ts), h) := by
  unfold p__law_plain
  rw [run_eq]
  show ∃ ts, Pl ts 100 0 ∧ ob (xSeq _ _ [.val (.int m), .val (.int c), .no, .no, .no, .no, .no, .no, .no, .no, .no] h) fnK = _
  obtain ⟨wd, ew⟩ := wide_ex (h := h) c
  obtain ⟨L, z, e1, e2, e3, e4, e5, e6⟩ := letters_ex (h := h) m
  have ix : ∀ k : Int, ∃ n, atI z.cps.toList (k % L) = some n := fun k => by
    obtain ⟨x, hx, _⟩ := at_in z.cps.toList (k % L) L e6 (mod_in k e4).1 (mod_in k e4).2
    exact ⟨x, hx⟩
  have hz : z.length ≤ 100000 := by omega
  have hL : 0 < L ∧ L < 1073741824 := by omega
  obtain ⟨n1, i1⟩ := ix (m / 33)
  obtain ⟨n2, i2⟩ := ix (m / 33 / L)
  obtain ⟨n3, i3⟩ := ix (m / 33 / L / L)
  have m5 := mod_in (m / 33 / 1000) (show (0 : Int) < 5 by decide)
  have m3 := mod_in (m / 33 / 1000) (show (0 : Int) < 3 by decide)
  obtain ⟨x5, a5, j5⟩ := at_in (w5.map PV.str) (m / 33 / 1000 % 5) 5 rfl m5.1 m5.2
  obtain ⟨w5', hw5, rfl⟩ := List.mem_map.mp j5
  obtain ⟨x3, a3, j3⟩ := at_in ((["plus", "minus", "times"] : List Str).map PV.str) (m / 33 / 1000 % 3) 3 rfl m3.1 m3.2
  obtain ⟨w3', hw3, rfl⟩ := List.mem_map.mp j3
  have hw3 : w3' ∈ w5 := by
    simp only [List.mem_cons, List.not_mem_nil, or_false] at hw3
    rcases hw3 with rfl | rfl | rfl <;> simp [w5]
  have a5 : atI [PV.str "plus", PV.str "minus", PV.str "times", PV.str "less", PV.str "same"] (m / 33 / 1000 % 5) = some (.str w5') := a5
  have a3 : atI [PV.str "plus", PV.str "minus", PV.str "times"] (m / 33 / 1000 % 3) = some (.str w3') := a3
  (try walk_at "px")
  rw [e1]
  (try walk_at "px")
  rw [e2]
  (try walk_at "px")
  rw [if_pos hz]
  (try walk_at "px")
  rw [e3]
  (try simp only [e4, hL, and_self, if_true])
  rw [i1, i2, i3]
  simp only [Option.bind_some, hz, if_true, x_ob, ew, a5, a3]
  (try walk_at "px")
  simp only [sgn]
  generalize (⟨#[n1]⟩ : Str) = s1
  generalize (⟨#[n2]⟩ : Str) = s2
  generalize (⟨#[n3]⟩ : Str) = s3
  split
  · exact ⟨[.let_ s1 wd], ⟨by show 5 + 10 + 0 ≤ 100; omega, by show max 0 0 ≤ 0; omega, trivial, trivial⟩, rfl⟩
  split
  · exact ⟨[.let_ s1 _], ⟨by show 5 + 10 + 0 ≤ 100; omega, by show max 0 0 ≤ 0; omega, trivial, trivial⟩, rfl⟩
  split
  · exact ⟨[.reckon w5' s1 s2 s3], ⟨by show 5 + 10 + 0 ≤ 100; omega, by show max 0 0 ≤ 0; omega, hw5, trivial⟩, rfl⟩
  split
  · exact ⟨[.take s1 s2], ⟨by show 5 + 10 + 0 ≤ 100; omega, by show max 0 0 ≤ 0; omega, trivial, trivial⟩, rfl⟩
  split
  · exact ⟨[.put s1 s2], ⟨by show 5 + 10 + 0 ≤ 100; omega, by show max 0 0 ≤ 0; omega, trivial, trivial⟩, rfl⟩
  · exact ⟨[.let_ s1 _, .take s2 s1, .reckon w3' s2 s2 s3, .put s1 s2], ⟨by show 5 + 10 + (5 + 10 + (5 + 10 + (5 + 10 + 0))) ≤ 100; omega, by show max 0 (max 0 (max 0 (max 0 0))) ≤ 0; omega, trivial, trivial, hw3, trivial, trivial⟩, rfl⟩
theorem at_abc (k : Int) : ∃ n, atI ("abc" : Str).cps.toList (k % 3) = some n := by
  obtain ⟨x, hx, _⟩ := at_in ("abc" : Str).cps.toList (k % 3) 3 (by decide +kernel) (mod_in k (by decide)).1 (mod_in k (by decide)).2
  exact ⟨x, hx⟩
theorem at_names (a b d : Str) (k : Int) : ∃ s : Str, atI [PV.str a, PV.str b, PV.str d] (k % 3) = some (.str s) := by
  obtain ⟨x, hx, hm⟩ := at_in [PV.str a, PV.str b, PV.str d] (k % 3) 3 rfl (mod_in k (by decide)).1 (mod_in k (by decide)).2
  simp only [List.mem_cons, List.not_mem_nil, or_false] at hm
  rcases hm with rfl | rfl | rfl <;> exact ⟨_, hx⟩
theorem sided_ex (m : Int) (one other : List T) (a b d : Str) (ho : wL one ≤ 4000) (io : isaAllL one) (ir : isaAllL other) : ∃ t, wT t ≤ 40 + wL one + wL other + 80 ∧ depT t ≤ 1 + max (max (depL one) 1) (depL other) ∧ isaAll t ∧
    p__law_sided [.int m, .lst (treeVs one), .lst (treeVs other), .lst [.str a, .str b, .str d]] h = some (treeV t, h) := by
  unfold p__law_sided
  rw [run_eq]
  show ∃ t, wT t ≤ 40 + wL one + wL other + 80 ∧ depT t ≤ 1 + max (max (depL one) 1) (depL other) ∧ isaAll t ∧ ob (xSeq _ _ [.val (.int m), .val (.lst (treeVs one)), .val (.lst (treeVs other)), .val (.lst [.str a, .str b, .str d]), .no, .no, .no, .no] h) fnK = _
  obtain ⟨n1, i1⟩ := at_abc (m / 9)
  obtain ⟨n2, i2⟩ := at_abc (m / 243)
  obtain ⟨s3, i3⟩ := at_names a b d (m / 27)
  obtain ⟨s4, i4⟩ := at_names a b d (m / 81)
  have wc := w_count one
  have hlen : (treeVs one).length + 1 ≤ 100000 := by rw [treeVs_len]; omega
  have habc : ("abc" : Str).length = 3 := by decide +kernel
  (try walk_at "px")
  rw [i1]
  simp only [Option.bind_some, habc, sgn]
  (try walk_at "px")
  rw [i2, i3, i4]
  simp only [Option.bind_some, habc, sgn, x_ob]
  (try walk_at "px")
  generalize (⟨#[n1]⟩ : Str) = s1
  generalize (⟨#[n2]⟩ : Str) = s2
  have hl9 : (treeVs one).length ≤ 99999 := by omega
  have b3 : m % 3 = 0 ∨ m % 3 = 1 ∨ m % 3 = 2 := by omega
  have c3 : m / 3 % 3 = 0 ∨ m / 3 % 3 = 1 ∨ m / 3 % 3 = 2 := by omega
  rcases b3 with e | e | e
  · rw [if_pos e]
    exact ⟨.if_ s1 one other, by show 40 + wL one + wL other ≤ _; omega, by show 1 + max (depL one) (depL other) ≤ _; omega, ⟨io, ir⟩, rfl⟩
  · simp only [e, Int.reduceEq, if_true, if_false]
    rcases c3 with f | f | f
    · simp only [f, hl9, Int.reduceEq, if_true, if_false]
      refine ⟨.either one other, ?_, ?_, ⟨io, ir⟩, rfl⟩
      · show 40 + wL one + wL other ≤ _
        show 40 + (wL one) + wL other ≤ _
        omega
      · show 1 + max (depL one) (depL other) ≤ _
        show 1 + max (depL one) (depL other) ≤ _
        omega
    · simp only [f, hl9, Int.reduceEq, if_true, if_false]
      refine ⟨.either (one ++ [.wait]) other, ?_, ?_, ⟨isaAllL_app (b := [.wait]) io ⟨trivial, trivial⟩, ir⟩, by simp only [treeV, treeVs_app]; rfl⟩
      · show 40 + wL (one ++ [.wait]) + wL other ≤ _
        rw [wL_app]; show 40 + (wL one + (5 + 10 + 0)) + wL other ≤ _
        omega
      · show 1 + max (depL (one ++ [.wait])) (depL other) ≤ _
        rw [depL_app]; show 1 + max (max (depL one) (max 0 0)) (depL other) ≤ _
        omega
    · simp only [f, hl9, Int.reduceEq, if_true, if_false]
      refine ⟨.either (one ++ [.if_ s1 [.wait] []]) other, ?_, ?_, ⟨isaAllL_app (b := [.if_ s1 [.wait] []]) io ⟨⟨⟨trivial, trivial⟩, trivial⟩, trivial⟩, ir⟩, by simp only [treeV, treeVs_app]; rfl⟩
      · show 40 + wL (one ++ [.if_ s1 [.wait] []]) + wL other ≤ _
        rw [wL_app]; show 40 + (wL one + (5 + (40 + (5 + 10 + 0) + 0) + 0)) + wL other ≤ _
        omega
      · show 1 + max (depL (one ++ [.if_ s1 [.wait] []])) (depL other) ≤ _
        rw [depL_app]; show 1 + max (max (depL one) (max (1 + max (max 0 0) 0) 0)) (depL other) ≤ _
        omega
  · simp only [e, Int.reduceEq, if_true, if_false]
    rcases c3 with f | f | f
    · simp only [f, hl9, Int.reduceEq, if_true, if_false]
      refine ⟨.try_ one s4 s2 other, ?_, ?_, ⟨io, ir⟩, rfl⟩
      · show 40 + wL one + wL other ≤ _
        show 40 + (wL one) + wL other ≤ _
        omega
      · show 1 + max (depL one) (depL other) ≤ _
        show 1 + max (depL one) (depL other) ≤ _
        omega
    · simp only [f, hl9, Int.reduceEq, if_true, if_false]
      refine ⟨.try_ (one ++ [.throw s3 s1]) s4 s2 other, ?_, ?_, ⟨isaAllL_app (b := [.throw s3 s1]) io ⟨trivial, trivial⟩, ir⟩, by simp only [treeV, treeVs_app]; rfl⟩
      · show 40 + wL (one ++ [.throw s3 s1]) + wL other ≤ _
        rw [wL_app]; show 40 + (wL one + (5 + 10 + 0)) + wL other ≤ _
        omega
      · show 1 + max (depL (one ++ [.throw s3 s1])) (depL other) ≤ _
        rw [depL_app]; show 1 + max (max (depL one) (max 0 0)) (depL other) ≤ _
        omega
    · simp only [f, hl9, Int.reduceEq, if_true, if_false]
      refine ⟨.try_ (one ++ [.if_ s1 [.throw s3 s1] []]) s4 s2 other, ?_, ?_, ⟨isaAllL_app (b := [.if_ s1 [.throw s3 s1] []]) io ⟨⟨⟨trivial, trivial⟩, trivial⟩, trivial⟩, ir⟩, by simp only [treeV, treeVs_app]; rfl⟩
      · show 40 + wL (one ++ [.if_ s1 [.throw s3 s1] []]) + wL other ≤ _
        rw [wL_app]; show 40 + (wL one + (5 + (40 + (5 + 10 + 0) + 0) + 0)) + wL other ≤ _
        omega
      · show 1 + max (depL (one ++ [.if_ s1 [.throw s3 s1] []])) (depL other) ≤ _
        rw [depL_app]; show 1 + max (max (depL one) (max (1 + max (max 0 0) 0) 0)) (depL other) ≤ _
        omega
theorem cut_ints (cs : List Int) (lo hi : Option Int) : cutP (cs.map PV.int) lo hi = (cutP cs lo hi).map .int := by
  unfold cutP
  rw [List.length_map, List.map_take, List.map_drop]
theorem cut_len (cs : List Int) (i j : Nat) (hij : i ≤ j) : (cutP cs (some (i : Int)) (some (j : Int))).length = min j cs.length - min i cs.length := by
  unfold cutP
  rw [HT.sIx_nat, HT.sIx_nat, List.length_take, List.length_drop]
  omega
end
section
variable {h : AH}
local macro_rules | `(tactic| walk_at "ps") => `(tactic| simp only [x_ob, x_obN, x_obA, x_var0, x_varS, x_c, x_op, x_opO, x_un, x_oB, x_chain, x_test, x_andV, x_orV, x_notV, x_and, x_or, x_not, x_if, x_nil, x_cons, x_tup, x_lst, x_fz, x_fzL, x_fzI, x_loc, x_call, x_cb, x_cbO, x_bm, x_isStr, x_make, x_makeO, x_next, x_seq, x_sqN, x_sqR, x_sqB, x_sqC, x_break, x_cont, x_drop, x_ret, x_retN, x_ifS, x_asg, x_asgO, x_name, x_yNil, x_yCons, x_yTup, x_frz, x_fz0, x_fzS, x_fvO, x_fvV, x_fvN, x_for, x_frN, x_frC, x_frB, x_frR, x_fnR, x_fnN, x_inK, x_i, x_ic, x_fld, x_fldO, x_meth, x_neg, mulOkR, mulOkL, powOk, x_eqI, x_eqS, x_eqB, x_neI, x_neS, x_isN, x_notN, x_addS, x_in1, x_ixL, x_ixR, x_ixT, x_ixS, x_slL, x_slR, x_cat, x_rep, x_sl, x_slO, x_part, x_nopart, x_lenL, x_lenT, x_lenR, x_lenS, x_int1i, x_int1b, x_strI, x_listL, x_listT, x_comp, x_ite, Option.bind_some, Option.bind_none, List.set_cons_zero, List.set_cons_succ, List.length_cons, List.length_nil, decide_eq_true_eq, Bool.not_eq_true', decide_eq_false_iff_not, if_true, if_false, ite_true, ite_false, and_self, Int.reducePow, Int.reduceToNat, Int.reduceLT, Int.reduceLE, Int.reduceNeg, Int.reduceAdd, Int.reduceSub, Nat.reduceLT, Nat.reduceLeDiff, Nat.reduceAdd, true_and, and_true, reduceIte, Nat.reduceEqDiff, le_refl_nat, eq_self, at_0, at_1, at_2, at_3, at_4, at_5, dec_T, dec_F, ff_eq, tf_eq, Int.reduceEq, Nat.reduceEqDiff, Bool.not_true, Bool.not_false, slen_0, slen_1, slen_2, slen_3, slen_4, slen_5, slen_6, slen_7, slen_8, slen_9, slen_10, slen_11, slen_12, slen_13, slen_14, slen_15, slen_16, slen_17, slen_18, slen_19, slen_20, slen_21, slen_22, mv_Part_long, fv_Let_slot, fv_Let_number, mv_Let_long, iv_Let_slot, iv_Let_number, fv_Reckon_word, fv_Reckon_slot, fv_Reckon_one, fv_Reckon_other, mv_Reckon_long, iv_Reckon_word, iv_Reckon_slot, iv_Reckon_one, iv_Reckon_other, fv_Take_slot, fv_Take_place, mv_Take_long, iv_Take_slot, iv_Take_place, fv_Put_place, fv_Put_slot, mv_Put_long, iv_Put_place, iv_Put_slot, fv_If_slot, fv_If_parts, fv_If_others, mv_If_long, iv_If_slot, iv_If_parts, iv_If_others, fv_Either_parts, fv_Either_others, mv_Either_long, iv_Either_parts, iv_Either_others, fv_Try_parts, fv_Try_name, fv_Try_slot, fv_Try_others, mv_Try_long, iv_Try_parts, iv_Try_name, iv_Try_slot, iv_Try_others, fv_Throw_name, fv_Throw_slot, mv_Throw_long, iv_Throw_name, iv_Throw_slot, mv_Wait_long, x_ixA_t, x_ixA_l, sn_0, sn_1, sn_2, sn_3, sn_4, sn_5, sn_6, sn_7, sn_8, sn_9, sn_10, sn_11, sn_12, sn_13, sn_14, sn_15, sn_16, sn_17, sn_18, sn_19, sn_20, sn_21, sn_22, sn_23, sn_24, sn_25, sn_26, sn_27, sn_28, sn_29, sn_30, sn_31, sn_32, sn_33, sn_34, sn_35, sn_36, sn_37, sn_38])
theorem tree_ex (a b c : Str) : ∀ (n d : Nat) (h : AH) (cells : List Int), d + 1 ≤ n → cells.length ≤ 12 → ∃ ts, Pl ts (200 * cells.length) (d + 1) ∧ p__law_tree n [.lst (cells.map .int), .int (d : Int), .lst [.str a, .str b, .str c]] h = some (.lst (treeVs ts), h)
  | 0, _, _, _, hn, _ => by omega
  | n + 1, d, h, cells, hn, hl => by
    have G := tree_ex a b c n
    unfold p__law_tree
    rw [run_eq]
    show ∃ ts, Pl ts (200 * cells.length) (d + 1) ∧ ob (xSeq _ _ [.val (.lst (cells.map .int)), .val (.int (d : Int)), .val (.lst [.str a, .str b, .str c]), .no, .no, .no, .no, .no, .no, .no, .no, .no] h) fnK = _
    walk_at "px"
    have step : ∀ (m : Nat) (ρ : PSt) (h1 : AH), (fun m ρ h1 => h1 = h ∧ ∃ (k : Nat) (ts : List T) (c5 c6 c7 c8 c9 c10 c11 : PVar), m = cells.length - k ∧ wL ts ≤ 200 * min k cells.length ∧ depL ts ≤ d + 1 ∧ isaAllL ts ∧ ρ = [.val (.lst (cells.map .int)), .val (.int (d : Int)), .val (.lst [.str a, .str b, .str c]), .own (.lst (treeVs ts)), .val (.int (k : Int)), c5, c6, c7, c8, c9, c10, c11]) m ρ h1 → ((xTest (xOp (oLt) (xVar 4) (xCB (bLenL) (xCons (xVar 0) (xNil))))) ρ h1 = some (false, h1) ∧ (fun ρ h1 => ∃ (k : Nat) (ts : List T) (c5 c6 c7 c8 c9 c10 c11 : PVar), wL ts ≤ 200 * cells.length ∧ depL ts ≤ d + 1 ∧ isaAllL ts ∧ ρ = [.val (.lst (cells.map .int)), .val (.int (d : Int)), .val (.lst [.str a, .str b, .str c]), .own (.lst (treeVs ts)), .val (.int (k : Int)), c5, c6, c7, c8, c9, c10, c11]) ρ h1) ∨ ∃ ρ' m', (xTest (xOp (oLt) (xVar 4) (xCB (bLenL) (xCons (xVar 0) (xNil))))) ρ h1 = some (true, h1) ∧ (xSeq (xAsg (xOp (oIxL) (xVar 0) (xVar 4)) (yName 5)) (xSeq (xAsg (xCall p__law_mixed (xCons (xVar 5) (xNil))) (yName 6)) (xSeq (xAsg (xOp oAdd (xVar 4) (xC (.int 1))) (yName 4)) (xIfS (xOr (xTest (xOp (oEq) (xVar 1) (xC (.int 0)))) (xTest (xOp (oLt) (xOp oMod (xVar 6) (xC (.int 11))) (xC (.int 6))))) (xFrz 3 (xAsgO (xOpO oCat (xVar 3) (xCall p__law_plain (xCons (xOp oDiv (xVar 6) (xC (.int 11))) (xCons (xVar 5) (xNil))))) 3)) (xIfS (xTest (xOp (oEq) (xOp oMod (xVar 6) (xC (.int 11))) (xC (.int 6)))) (xSeq (xAsg (xFz (xLst (xCons (xTup (xCons (xC (.str "wait")) (xNil))) (xCons (xTup (xCons (xC (.str "throw")) (xCons (xOp (oIxL) (xVar 2) (xOp oMod (xOp oDiv (xVar 6) (xC (.int 33))) (xC (.int 3)))) (xCons (xOp (oIxS) (xC (.str "abc")) (xOp oMod (xOp oDiv (xVar 6) (xC (.int 99))) (xC (.int 3)))) (xNil))))) (xNil))))) (yName 7)) (xAppO 3 (xOp (oIxL) (xVar 7) (xOp oDiv (xOp oMod (xOp oDiv (xVar 6) (xC (.int 11))) (xC (.int 3))) (xC (.int 2)))))) (xSeq (xAsg (xOp oMod (xOp oDiv (xVar 6) (xC (.int 11))) (xC (.int 4))) (yName 8)) (xSeq (xAsg (xOp oMod (xOp oDiv (xVar 6) (xC (.int 44))) (xC (.int 3))) (yName 9)) (xSeq (xAsg (xCall (p__law_tree n) (xCons (xFz (xSlO oSlL (xVar 0) (xPart (xVar 4)) (xPart (xOp oAdd (xVar 4) (xVar 8))))) (xCons (xOp oSub (xVar 1) (xC (.int 1))) (xCons (xVar 2) (xNil))))) (yName 10)) (xSeq (xAsg (xCall (p__law_tree n) (xCons (xFz (xSlO oSlL (xVar 0) (xPart (xOp oAdd (xVar 4) (xVar 8))) (xPart (xOp oAdd (xOp oAdd (xVar 4) (xVar 8)) (xVar 9))))) (xCons (xOp oSub (xVar 1) (xC (.int 1))) (xCons (xVar 2) (xNil))))) (yName 11)) (xSeq (xAsg (xOp oAdd (xOp oAdd (xVar 4) (xVar 8)) (xVar 9)) (yName 4)) (xAppO 3 (xCall p__law_sided (xCons (xOp oDiv (xVar 6) (xC (.int 132))) (xCons (xVar 10) (xCons (xVar 11) (xCons (xVar 2) (xNil))))))))))))))))) ρ h1 = some (.nx ρ', h1) ∧ m' < m ∧ (fun m ρ h1 => h1 = h ∧ ∃ (k : Nat) (ts : List T) (c5 c6 c7 c8 c9 c10 c11 : PVar), m = cells.length - k ∧ wL ts ≤ 200 * min k cells.length ∧ depL ts ≤ d + 1 ∧ isaAllL ts ∧ ρ = [.val (.lst (cells.map .int)), .val (.int (d : Int)), .val (.lst [.str a, .str b, .str c]), .own (.lst (treeVs ts)), .val (.int (k : Int)), c5, c6, c7, c8, c9, c10, c11]) m' ρ' h1 := by
      rintro m ρ h1 ⟨rfl, k, ts, c5, c6, c7, c8, c9, c10, c11, hm, q1, q2, q3, rfl⟩
      by_cases hk : k < cells.length
      · right
        have hc : (xTest (xOp (oLt) (xVar 4) (xCB (bLenL) (xCons (xVar 0) (xNil))))) [.val (.lst (cells.map .int)), .val (.int (d : Int)), .val (.lst [.str a, .str b, .str c]), .own (.lst (treeVs ts)), .val (.int (k : Int)), c5, c6, c7, c8, c9, c10, c11] h1 = some (true, h1) := by
          walk_at "px"
          rw [List.length_map, decide_eq_true (by omega)]
        obtain ⟨cell, hcell⟩ : ∃ cell, cells[k]? = some cell := ⟨_, List.getElem?_eq_getElem hk⟩
        have r0 : atI (cells.map PV.int) (k : Int) = some (.int cell) := atI_nat (by rw [List.getElem?_map, hcell]; rfl)
        have wc := w_count ts
        have hlen : (treeVs ts).length < 50000 := by rw [treeVs_len]; omega
        generalize hx : mixV cell = x
        have e0 : p__law_mixed [.int cell] h1 = some (.int x, h1) := by rw [mixed_eq, hx]
        by_cases b1 : d = 0 ∨ x % 11 < 6
        · obtain ⟨ps, pp, ep⟩ := plain_ex (h := h1) (x / 11) cell
          refine ⟨[.val (.lst (cells.map .int)), .val (.int (d : Int)), .val (.lst [.str a, .str b, .str c]), .own (.lst (treeVs (ts ++ ps))), .val (.int ((k + 1 : Nat) : Int)), .val (.int cell), .val (.int x), c7, c8, c9, c10, c11], cells.length - (k + 1), hc, ?_, by omega, rfl, k + 1, ts ++ ps, _, _, _, _, _, _, _, rfl, ?_, ?_, isaAllL_app q3 pp.isa, rfl⟩
          · (try walk_at "px")
            rw [r0]
            (try walk_at "px")
            rw [e0]
            (try walk_at "px")
            rw [ep]
            have hcat : oCat (.lst (treeVs ts)) (.lst (treeVs ps)) h1 = some (.lst (treeVs (ts ++ ps)), h1) := by
              have := w_count ps
              have := pp.w
              rw [x_cat, if_pos (by rw [treeVs_len, treeVs_len]; omega), treeVs_app]
            have hpl := w_count ps
            have hpw := pp.w
            have hle : (treeVs ts).length + (treeVs ps).length ≤ 100000 := by rw [treeVs_len ps]; omega
            (try walk_at "px")
            by_cases hd0 : (d : Int) = 0
            · rw [if_pos hd0, if_pos hle, treeVs_app]; rfl
            · rw [if_neg hd0, if_pos (by rcases b1 with b1 | b1; exact absurd (by omega) hd0; exact b1), if_pos hle, treeVs_app]; rfl
          · have := pp.w; rw [wL_app]; omega
          · have := pp.d; rw [depL_app]; omega
        · have hd0 : ¬ (d : Int) = 0 := fun z => b1 (.inl (by omega))
          have hb6 : ¬ x % 11 < 6 := fun z => b1 (.inr z)
          by_cases b2 : x % 11 = 6
          · obtain ⟨s1, i1⟩ := at_names a b c (x / 33)
            obtain ⟨n2, i2⟩ := at_abc (x / 99)
            obtain ⟨t, ht, ht1, ht2, ht3⟩ : ∃ t : T, atI [PV.tup [PV.str "wait"], PV.tup [PV.str "throw", PV.str s1, sgn n2]] (x / 11 % 3 / 2) = some (treeV t) ∧ wT t = 10 ∧ depT t = 0 ∧ isaAll t := by
              have : x / 11 % 3 / 2 = 0 ∨ x / 11 % 3 / 2 = 1 := by omega
              rcases this with e | e
              · exact ⟨.wait, by rw [e]; exact at_0, rfl, rfl, trivial⟩
              · exact ⟨.throw s1 ⟨#[n2]⟩, by rw [e]; exact at_1, rfl, rfl, trivial⟩
            refine ⟨[.val (.lst (cells.map .int)), .val (.int (d : Int)), .val (.lst [.str a, .str b, .str c]), .own (.lst (treeVs (ts ++ [t]))), .val (.int ((k + 1 : Nat) : Int)), .val (.int cell), .val (.int x), .val (.lst [.tup [.str "wait"], .tup [.str "throw", .str s1, sgn n2]]), c8, c9, c10, c11], cells.length - (k + 1), hc, ?_, by omega, rfl, k + 1, ts ++ [t], _, _, _, _, _, _, _, rfl, ?_, ?_, isaAllL_app q3 ⟨ht3, trivial⟩, rfl⟩
            · (try walk_at "px")
              rw [r0]
              (try walk_at "px")
              rw [e0]
              (try walk_at "px")
              rw [if_neg hd0, if_neg hb6, if_pos b2, i1]
              (try walk_at "px")
              rw [i2]
              (try walk_at "px")
              rw [x_appO rfl]
              (try walk_at "px")
              rw [ht]
              (try walk_at "px")
              rw [if_pos (by omega), treeVs_app]
              rfl
            · rw [wL_app]
              show wL ts + (5 + wT t + 0) ≤ _
              omega
            · rw [depL_app]
              show max (depL ts) (max (depT t) 0) ≤ _
              omega
          · obtain ⟨d', rfl⟩ : ∃ d', d = d' + 1 := ⟨d - 1, by omega⟩
            obtain ⟨u, hu⟩ : ∃ u : Nat, x / 11 % 4 = (u : Int) := ⟨(x / 11 % 4).toNat, by omega⟩
            obtain ⟨v, hv⟩ : ∃ v : Nat, x / 44 % 3 = (v : Int) := ⟨(x / 44 % 3).toNat, by omega⟩
            have l1 := cut_len cells (k + 1) (k + 1 + u) (by omega)
            have l2 := cut_len cells (k + 1 + u) (k + 1 + u + v) (by omega)
            obtain ⟨one, p1, g1⟩ := G d' h1 (cutP cells (some ((k + 1 : Nat) : Int)) (some ((k + 1 + u : Nat) : Int))) (by omega) (by omega)
            obtain ⟨oth, p2, g2⟩ := G d' h1 (cutP cells (some ((k + 1 + u : Nat) : Int)) (some ((k + 1 + u + v : Nat) : Int))) (by omega) (by omega)
            have w1 := p1.w
            have w2 := p2.w
            rw [l1] at w1
            rw [l2] at w2
            obtain ⟨t, t1, t2, t3, t4⟩ := sided_ex (h := h1) (x / 132) one oth a b c (by omega) p1.isa p2.isa
            have dd1 := p1.d
            have dd2 := p2.d
            refine ⟨[.val (.lst (cells.map .int)), .val (.int ((d' + 1 : Nat) : Int)), .val (.lst [.str a, .str b, .str c]), .own (.lst (treeVs (ts ++ [t]))), .val (.int ((k + 1 + u + v : Nat) : Int)), .val (.int cell), .val (.int x), c7, .val (.int (u : Int)), .val (.int (v : Int)), .val (.lst (treeVs one)), .val (.lst (treeVs oth))], cells.length - (k + 1 + u + v), hc, ?_, by omega, rfl, k + 1 + u + v, ts ++ [t], _, _, _, _, _, _, _, rfl, ?_, ?_, isaAllL_app q3 ⟨t3, trivial⟩, rfl⟩
            · (try walk_at "px")
              rw [r0]
              (try walk_at "px")
              rw [e0]
              (try walk_at "px")
              rw [if_neg hd0, if_neg hb6, if_neg b2, hu, hv]
              rw [show ((d' + 1 : Nat) : Int) - 1 = (d' : Int) by omega, show (k : Int) + 1 + (u : Int) + (v : Int) = ((k + 1 + u + v : Nat) : Int) by omega, show (k : Int) + 1 + (u : Int) = ((k + 1 + u : Nat) : Int) by omega, show (k : Int) + 1 = ((k + 1 : Nat) : Int) by omega]
              rw [cut_ints, cut_ints, g1]
              (try walk_at "px")
              rw [g2]
              (try walk_at "px")
              rw [x_appO rfl]
              (try walk_at "px")
              rw [t4]
              (try walk_at "px")
              rw [if_pos (by omega), treeVs_app]
              rfl
            · rw [wL_app]
              show wL ts + (5 + wT t + 0) ≤ _
              omega
            · rw [depL_app]
              show max (depL ts) (max (depT t) 0) ≤ _
              omega
      · left
        refine ⟨?_, k, ts, c5, c6, c7, c8, c9, c10, c11, by omega, q2, q3, rfl⟩
        walk_at "px"
        rw [List.length_map, decide_eq_false (by omega)]
    obtain ⟨ρ', e1, k, ts, c5, c6, c7, c8, c9, c10, c11, q1, q2, q3, rfl⟩ := whl_nx (fun m ρ h1 => h1 = h ∧ ∃ (k : Nat) (ts : List T) (c5 c6 c7 c8 c9 c10 c11 : PVar), m = cells.length - k ∧ wL ts ≤ 200 * min k cells.length ∧ depL ts ≤ d + 1 ∧ isaAllL ts ∧ ρ = [.val (.lst (cells.map .int)), .val (.int (d : Int)), .val (.lst [.str a, .str b, .str c]), .own (.lst (treeVs ts)), .val (.int (k : Int)), c5, c6, c7, c8, c9, c10, c11]) (fun ρ h1 => ∃ (k : Nat) (ts : List T) (c5 c6 c7 c8 c9 c10 c11 : PVar), wL ts ≤ 200 * cells.length ∧ depL ts ≤ d + 1 ∧ isaAllL ts ∧ ρ = [.val (.lst (cells.map .int)), .val (.int (d : Int)), .val (.lst [.str a, .str b, .str c]), .own (.lst (treeVs ts)), .val (.int (k : Int)), c5, c6, c7, c8, c9, c10, c11]) step 1000 cells.length [.val (.lst (cells.map .int)), .val (.int (d : Int)), .val (.lst [.str a, .str b, .str c]), .own (.lst []), .val (.int (0 : Int)), .no, .no, .no, .no, .no, .no, .no] h (by omega) ⟨rfl, 0, [], .no, .no, .no, .no, .no, .no, .no, rfl, by show 0 ≤ _; omega, by show 0 ≤ _; omega, trivial, rfl⟩
    refine ⟨ts, ⟨q1, q2, q3⟩, ?_⟩
    rw [show xWhile 1000 (xTest (xOp (oLt) (xVar 4) (xCB (bLenL) (xCons (xVar 0) (xNil))))) (xSeq (xAsg (xOp (oIxL) (xVar 0) (xVar 4)) (yName 5)) (xSeq (xAsg (xCall p__law_mixed (xCons (xVar 5) (xNil))) (yName 6)) (xSeq (xAsg (xOp oAdd (xVar 4) (xC (.int 1))) (yName 4)) (xIfS (xOr (xTest (xOp (oEq) (xVar 1) (xC (.int 0)))) (xTest (xOp (oLt) (xOp oMod (xVar 6) (xC (.int 11))) (xC (.int 6))))) (xFrz 3 (xAsgO (xOpO oCat (xVar 3) (xCall p__law_plain (xCons (xOp oDiv (xVar 6) (xC (.int 11))) (xCons (xVar 5) (xNil))))) 3)) (xIfS (xTest (xOp (oEq) (xOp oMod (xVar 6) (xC (.int 11))) (xC (.int 6)))) (xSeq (xAsg (xFz (xLst (xCons (xTup (xCons (xC (.str "wait")) (xNil))) (xCons (xTup (xCons (xC (.str "throw")) (xCons (xOp (oIxL) (xVar 2) (xOp oMod (xOp oDiv (xVar 6) (xC (.int 33))) (xC (.int 3)))) (xCons (xOp (oIxS) (xC (.str "abc")) (xOp oMod (xOp oDiv (xVar 6) (xC (.int 99))) (xC (.int 3)))) (xNil))))) (xNil))))) (yName 7)) (xAppO 3 (xOp (oIxL) (xVar 7) (xOp oDiv (xOp oMod (xOp oDiv (xVar 6) (xC (.int 11))) (xC (.int 3))) (xC (.int 2)))))) (xSeq (xAsg (xOp oMod (xOp oDiv (xVar 6) (xC (.int 11))) (xC (.int 4))) (yName 8)) (xSeq (xAsg (xOp oMod (xOp oDiv (xVar 6) (xC (.int 44))) (xC (.int 3))) (yName 9)) (xSeq (xAsg (xCall (p__law_tree n) (xCons (xFz (xSlO oSlL (xVar 0) (xPart (xVar 4)) (xPart (xOp oAdd (xVar 4) (xVar 8))))) (xCons (xOp oSub (xVar 1) (xC (.int 1))) (xCons (xVar 2) (xNil))))) (yName 10)) (xSeq (xAsg (xCall (p__law_tree n) (xCons (xFz (xSlO oSlL (xVar 0) (xPart (xOp oAdd (xVar 4) (xVar 8))) (xPart (xOp oAdd (xOp oAdd (xVar 4) (xVar 8)) (xVar 9))))) (xCons (xOp oSub (xVar 1) (xC (.int 1))) (xCons (xVar 2) (xNil))))) (yName 11)) (xSeq (xAsg (xOp oAdd (xOp oAdd (xVar 4) (xVar 8)) (xVar 9)) (yName 4)) (xAppO 3 (xCall p__law_sided (xCons (xOp oDiv (xVar 6) (xC (.int 132))) (xCons (xVar 10) (xCons (xVar 11) (xCons (xVar 2) (xNil))))))))))))))))) [.val (.lst (cells.map .int)), .val (.int (d : Int)), .val (.lst [.str a, .str b, .str c]), .own (.lst []), .val (.int (0 : Int)), .no, .no, .no, .no, .no, .no, .no] h = _ from e1]
    walk_at "px"
end
section
variable {h : AH}
theorem eqF {n : Nat} {x : PV} {v : V} (hs : sv x = some v) : eqP (n + 1) h x x = some true := by
  unfold eqP
  rw [hs]
  show some (eqV v v) = _
  rw [eqV_refl (sv_flat hs)]
theorem eqTu {n : Nat} {xs : List PV} (e : allE (eqP n h) xs xs = some true) : eqP (n + 1) h (.tup xs) (.tup xs) = some true := by
  unfold eqP
  show pairE (eqP n h) h (.tup xs) (.tup xs) = _
  unfold pairE
  show (match allE (eqP n h) xs xs with | some b => some (b && xs.length == xs.length) | none => none) = _
  rw [e]
  simp
theorem eqLi {n : Nat} {xs : List PV} (e : allE (eqP n h) xs xs = some true) : eqP (n + 1) h (.lst xs) (.lst xs) = some true := by
  unfold eqP
  show pairE (eqP n h) h (.lst xs) (.lst xs) = _
  unfold pairE
  show (if xs.length = xs.length then allE (eqP n h) xs xs else some false) = _
  rw [if_pos rfl, e]
theorem allE_cons {f : PV → PV → Option Bool} {x : PV} {xs : List PV} (e1 : f x x = some true) (e2 : allE f xs xs = some true) : allE f (x :: xs) (x :: xs) = some true := by
  show (match f x x, allE f xs xs with | some b, some c => some (b && c) | _, _ => none) = _
  rw [e1, e2]; rfl
theorem allE_nil {f : PV → PV → Option Bool} : allE f [] [] = some true := rfl
mutual
theorem eq_T (h : AH) : ∀ (t : T) (n : Nat), 2 * depT t + 2 ≤ n → eqP n h (treeV t) (treeV t) = some true
  | .base, n, hn => by obtain ⟨m, rfl⟩ : ∃ m, n = m + 1 + 1 := ⟨n - 2, by omega⟩; exact eqTu allE_nil
  | .let_ r k, n, hn => by obtain ⟨m, rfl⟩ : ∃ m, n = m + 1 + 1 := ⟨n - 2, by omega⟩; exact eqTu (allE_cons (eqF rfl) (allE_cons (eqF rfl) (allE_cons (eqF rfl) allE_nil)))
  | .reckon w r s u, n, hn => by obtain ⟨m, rfl⟩ : ∃ m, n = m + 1 + 1 := ⟨n - 2, by omega⟩; exact eqTu (allE_cons (eqF rfl) (allE_cons (eqF rfl) (allE_cons (eqF rfl) (allE_cons (eqF rfl) (allE_cons (eqF rfl) allE_nil)))))
  | .take r s, n, hn => by obtain ⟨m, rfl⟩ : ∃ m, n = m + 1 + 1 := ⟨n - 2, by omega⟩; exact eqTu (allE_cons (eqF rfl) (allE_cons (eqF rfl) (allE_cons (eqF rfl) allE_nil)))
  | .put r s, n, hn => by obtain ⟨m, rfl⟩ : ∃ m, n = m + 1 + 1 := ⟨n - 2, by omega⟩; exact eqTu (allE_cons (eqF rfl) (allE_cons (eqF rfl) (allE_cons (eqF rfl) allE_nil)))
  | .throw r s, n, hn => by obtain ⟨m, rfl⟩ : ∃ m, n = m + 1 + 1 := ⟨n - 2, by omega⟩; exact eqTu (allE_cons (eqF rfl) (allE_cons (eqF rfl) (allE_cons (eqF rfl) allE_nil)))
  | .wait, n, hn => by obtain ⟨m, rfl⟩ : ∃ m, n = m + 1 + 1 := ⟨n - 2, by omega⟩; exact eqTu (allE_cons (eqF rfl) allE_nil)
  | .if_ r a b, n, hn => by
    have hn : 2 * (1 + max (depL a) (depL b)) + 2 ≤ n := hn
    obtain ⟨m, rfl⟩ : ∃ m, n = m + 1 + 1 := ⟨n - 2, by omega⟩
    exact eqTu (allE_cons (eqF rfl) (allE_cons (eqF rfl) (allE_cons (eqLi (eq_L h a m (by omega))) (allE_cons (eqLi (eq_L h b m (by omega))) allE_nil))))
  | .either a b, n, hn => by
    have hn : 2 * (1 + max (depL a) (depL b)) + 2 ≤ n := hn
    obtain ⟨m, rfl⟩ : ∃ m, n = m + 1 + 1 := ⟨n - 2, by omega⟩
    exact eqTu (allE_cons (eqF rfl) (allE_cons (eqLi (eq_L h a m (by omega))) (allE_cons (eqLi (eq_L h b m (by omega))) allE_nil)))
  | .try_ a nm r b, n, hn => by
    have hn : 2 * (1 + max (depL a) (depL b)) + 2 ≤ n := hn
    obtain ⟨m, rfl⟩ : ∃ m, n = m + 1 + 1 := ⟨n - 2, by omega⟩
    exact eqTu (allE_cons (eqF rfl) (allE_cons (eqLi (eq_L h a m (by omega))) (allE_cons (eqF rfl) (allE_cons (eqF rfl) (allE_cons (eqLi (eq_L h b m (by omega))) allE_nil)))))
theorem eq_L (h : AH) : ∀ (ts : List T) (n : Nat), 2 * depL ts + 2 ≤ n → allE (eqP n h) (treeVs ts) (treeVs ts) = some true
  | [], _, _ => allE_nil
  | t :: r, n, hn => by
    have hn : 2 * max (depT t) (depL r) + 2 ≤ n := hn
    exact allE_cons (eq_T h t n (by omega)) (eq_L h r n (by omega))
end
theorem ne_tree (ts : List T) (hd : depL ts ≤ 10) : oNeD (.lst (treeVs ts)) (.lst (treeVs ts)) h = some (.bl false, h) := by
  unfold oNeD
  have : pairE (eqP 40 h) h (.lst (treeVs ts)) (.lst (treeVs ts)) = some true := by
    unfold pairE
    show (if (treeVs ts).length = (treeVs ts).length then allE (eqP 40 h) (treeVs ts) (treeVs ts) else some false) = _
    rw [if_pos rfl, eq_L h ts 40 (by omega)]
  rw [this]; rfl
local macro_rules | `(tactic| walk_at "pa") => `(tactic| simp only [x_ob, x_obN, x_obA, x_var0, x_varS, x_c, x_op, x_opO, x_un, x_oB, x_chain, x_test, x_andV, x_orV, x_notV, x_and, x_or, x_not, x_if, x_nil, x_cons, x_tup, x_lst, x_fz, x_fzL, x_fzI, x_loc, x_call, x_cb, x_cbO, x_bm, x_isStr, x_make, x_makeO, x_next, x_seq, x_sqN, x_sqR, x_sqB, x_sqC, x_break, x_cont, x_drop, x_ret, x_retN, x_ifS, x_asg, x_asgO, x_name, x_yNil, x_yCons, x_yTup, x_frz, x_fz0, x_fzS, x_fvO, x_fvV, x_fvN, x_for, x_frN, x_frC, x_frB, x_frR, x_fnR, x_fnN, x_inK, x_i, x_ic, x_fld, x_fldO, x_meth, x_neg, mulOkR, mulOkL, powOk, x_eqI, x_eqS, x_eqB, x_neI, x_neS, x_isN, x_notN, x_addS, x_in1, x_ixL, x_ixR, x_ixT, x_ixS, x_slL, x_slR, x_cat, x_rep, x_sl, x_slO, x_part, x_nopart, x_lenL, x_lenT, x_lenR, x_lenS, x_int1i, x_int1b, x_strI, x_listL, x_listT, x_comp, x_ite, Option.bind_some, Option.bind_none, List.set_cons_zero, List.set_cons_succ, List.length_cons, List.length_nil, decide_eq_true_eq, Bool.not_eq_true', decide_eq_false_iff_not, if_true, if_false, ite_true, ite_false, and_self, Int.reducePow, Int.reduceToNat, Int.reduceLT, Int.reduceLE, Int.reduceNeg, Int.reduceAdd, Int.reduceSub, Nat.reduceLT, Nat.reduceLeDiff, Nat.reduceAdd, true_and, and_true, reduceIte, Nat.reduceEqDiff, le_refl_nat, eq_self, at_0, at_1, at_2, at_3, at_4, at_5, dec_T, dec_F, ff_eq, tf_eq, Int.reduceEq, Nat.reduceEqDiff, Bool.not_true, Bool.not_false, slen_0, slen_1, slen_2, slen_3, slen_4, slen_5, slen_6, slen_7, slen_8, slen_9, slen_10, slen_11, slen_12, slen_13, slen_14, slen_15, slen_16, slen_17, slen_18, slen_19, slen_20, slen_21, slen_22, mv_Part_long, fv_Let_slot, fv_Let_number, mv_Let_long, iv_Let_slot, iv_Let_number, fv_Reckon_word, fv_Reckon_slot, fv_Reckon_one, fv_Reckon_other, mv_Reckon_long, iv_Reckon_word, iv_Reckon_slot, iv_Reckon_one, iv_Reckon_other, fv_Take_slot, fv_Take_place, mv_Take_long, iv_Take_slot, iv_Take_place, fv_Put_place, fv_Put_slot, mv_Put_long, iv_Put_place, iv_Put_slot, fv_If_slot, fv_If_parts, fv_If_others, mv_If_long, iv_If_slot, iv_If_parts, iv_If_others, fv_Either_parts, fv_Either_others, mv_Either_long, iv_Either_parts, iv_Either_others, fv_Try_parts, fv_Try_name, fv_Try_slot, fv_Try_others, mv_Try_long, iv_Try_parts, iv_Try_name, iv_Try_slot, iv_Try_others, fv_Throw_name, fv_Throw_slot, mv_Throw_long, iv_Throw_name, iv_Throw_slot, mv_Wait_long, x_ixA_t, x_ixA_l, tt_1, tt_2, tt_3, tt_4])
theorem law_eq (ns : List Int) (hl : ns.length ≤ 63) : ∃ h', p_law [.scr ns] h = some (.bl true, h') := by
  unfold p_law
  rw [run_eq]
  show ∃ h', ob (xSeq _ _ [.val (.scr ns), .no, .no, .no, .no] h) fnK = _
  refine ⟨h, ?_⟩
  (try walk_at "px")
  have hs : bSum [.lst (cutP (ns.map PV.int) none (some 1))] h = some (.int (cutP ns none (some 1)).sum, h) := by
    rw [cut_ints]
    unfold bSum listOf'
    simp only [intsOf_map]
  rw [hs]
  (try walk_at "px")
  rw [names_eq]
  (try walk_at "px")
  generalize (cutP ns none (some 1)).sum = d1
  rw [show (List.range 3).map (fun i : Nat => PV.str (nameV d1 i)) = [.str (nameV d1 0), .str (nameV d1 1), .str (nameV d1 2)] from rfl]
  generalize nameV d1 0 = na
  generalize nameV d1 1 = nb
  generalize nameV d1 2 = nc
  have hmax : bMax2 [.int 1, .int (ns.length : Int)] h = some (.int (max 1 (ns.length : Int)), h) := by
    unfold bMax2
    show some (PV.int (if (ns.length : Int) > 1 then (ns.length : Int) else 1), h) = _
    congr 3
    split <;> omega
  rw [x_iR3i (i := 0) (j := max 1 (ns.length : Int)) (c := 12) (h1 := h) (by (try walk_at "px"); rw [hmax]; (try walk_at "px")) (by omega), x_ob]
  refine forL_then (fun i ρ h1 => h1 = h ∧ ∃ c2 c3 c4 : PVar, ρ = [.val (.scr ns), .val (.lst [.str na, .str nb, .str nc]), c2, c3, c4]) ⟨rfl, .no, .no, .no, rfl⟩ ?_ ?_
  · rintro i x ρ h1 hx ⟨rfl, c2, c3, c4, rfl⟩
    obtain ⟨k, rfl⟩ : ∃ k : Nat, x = .int (0 + (k : Int) * 12) := by
      unfold rngS at hx
      rw [List.getElem?_map] at hx
      obtain ⟨j, hj, rfl⟩ := Option.map_eq_some_iff.mp hx
      exact ⟨j, rfl⟩
    have hcl := cut_len ns (k * 12) (k * 12 + 12) (by omega)
    have e1 : cutP (ns.map PV.int) (some (0 + (k : Int) * 12)) (some (0 + (k : Int) * 12 + 12)) = (cutP ns (some ((k * 12 : Nat) : Int)) (some ((k * 12 + 12 : Nat) : Int))).map .int := by
      rw [cut_ints, show (0 : Int) + (k : Int) * 12 = ((k * 12 : Nat) : Int) by omega, show ((k * 12 : Nat) : Int) + 12 = ((k * 12 + 12 : Nat) : Int) by omega]
    obtain ⟨ts, pl, et⟩ := tree_ex na nb nc 5 3 h1 (cutP ns (some ((k * 12 : Nat) : Int)) (some ((k * 12 + 12 : Nat) : Int))) (by omega) (by omega)
    have et : p__law_tree 5 [.lst ((cutP ns (some ((k * 12 : Nat) : Int)) (some ((k * 12 + 12 : Nat) : Int))).map .int), .int 3, .lst [.str na, .str nb, .str nc]] h1 = some (.lst (treeVs ts), h1) := et
    have w1 := pl.w
    have d1 := pl.d
    have em := made_ok 7 h1 ts (by omega) (by omega) pl.isa
    have er := rows_of_eq (h := h1) ts (by omega) (by omega) pl.isa
    have ea := ahead_eq (h := h1) ts (by omega) pl.isa
    have eb := back_ok 7 h1 ts [] [layV] (rowsL 0 ts ++ [layV]) 0 rfl rfl (by omega) (by omega) pl.isa
    have en := ne_tree (h := h1) ts (by omega)
    refine ⟨_, [.val (.scr ns), .val (.lst [.str na, .str nb, .str nc]), .val (.int (0 + (k : Int) * 12)), .val (.lst (treeVs ts)), .val (.lst (rowsL 0 ts ++ [layV]))], h1, rfl, .inl ?_, rfl, _, _, _, rfl⟩
    (try walk_at "pa")
    rw [e1, et]
    (try walk_at "pa")
    rw [em]
    (try walk_at "pa")
    rw [er]
    (try walk_at "pa")
    rw [if_neg (by simp; omega), ea]
    (try walk_at "pa")
    rw [show ((rowsL 0 ts ++ [layV]).length : Int) - 1 = 0 + ((rowsL 0 ts).length : Int) by simp, eb]
    (try walk_at "pa")
    rw [en]
    (try walk_at "pa")
  · rintro ρ' h' ⟨rfl, c2, c3, c4, rfl⟩
    (try walk_at "pa")
end
end
/-! ### the text by places -/
def top (i : Nat) : Stmt := PySem.Challenge.pw_retryhall_k13_whole_rows_forward.main.body.getD i (.Pass ⟨0, 0, 0, 0⟩)
abbrev s_Let___init__ : Stmt := inClass (top 4) 0
abbrev s_Reckon___init__ : Stmt := inClass (top 5) 0
abbrev s_Take___init__ : Stmt := inClass (top 6) 0
abbrev s_Put___init__ : Stmt := inClass (top 7) 0
abbrev s_If___init__ : Stmt := inClass (top 8) 0
abbrev s_Either___init__ : Stmt := inClass (top 9) 0
abbrev s_Try___init__ : Stmt := inClass (top 10) 0
abbrev s_Throw___init__ : Stmt := inClass (top 11) 0
abbrev s_Part_long : Stmt := inClass (top 3) 1
abbrev s_Let_long : Stmt := inClass (top 4) 2
abbrev s_Reckon_long : Stmt := inClass (top 5) 2
abbrev s_Take_long : Stmt := inClass (top 6) 2
abbrev s_Put_long : Stmt := inClass (top 7) 2
abbrev s_Throw_long : Stmt := inClass (top 11) 2
abbrev s_Wait_long : Stmt := inClass (top 12) 1
abbrev s_list_long : Stmt := top 2
abbrev s_If_long : Stmt := inClass (top 8) 2
abbrev s_Either_long : Stmt := inClass (top 9) 2
abbrev s_Try_long : Stmt := inClass (top 10) 2
abbrev s_plain_rows : Stmt := top 17
abbrev s_first_row : Stmt := top 19
abbrev s_rows_between : Stmt := top 20
abbrev s_list_rows : Stmt := top 15
abbrev s_part_rows : Stmt := top 16
abbrev s_sided_rows : Stmt := top 18
abbrev s_rows_of : Stmt := top 14
abbrev s__law_mixed : Stmt := top 22
abbrev s__law_wide : Stmt := top 23
abbrev s__law_names : Stmt := top 24
abbrev s__law_plain : Stmt := top 25
abbrev s__law_sided : Stmt := top 26
abbrev s__law_tree : Stmt := top 27
abbrev s__law_made : Stmt := top 28
abbrev s__law_ahead : Stmt := top 29
abbrev s__law_one_back : Stmt := top 30
abbrev s__law_joined : Stmt := top 32
abbrev s__law_back : Stmt := top 31
abbrev s_law : Stmt := top 33
theorem sc_Let___init__ : FnScope ["self", "slot", "number"] ["self", "slot", "number"] (defScope s_Let___init__) := ⟨rfl, rfl, rfl, by decide +kernel, rfl, by decide +kernel, by decide +kernel⟩
theorem sc_Reckon___init__ : FnScope ["self", "word", "slot", "one", "other"] ["self", "word", "slot", "one", "other"] (defScope s_Reckon___init__) := ⟨rfl, rfl, rfl, by decide +kernel, rfl, by decide +kernel, by decide +kernel⟩
theorem sc_Take___init__ : FnScope ["self", "slot", "place"] ["self", "slot", "place"] (defScope s_Take___init__) := ⟨rfl, rfl, rfl, by decide +kernel, rfl, by decide +kernel, by decide +kernel⟩
theorem sc_Put___init__ : FnScope ["self", "place", "slot"] ["self", "place", "slot"] (defScope s_Put___init__) := ⟨rfl, rfl, rfl, by decide +kernel, rfl, by decide +kernel, by decide +kernel⟩
theorem sc_If___init__ : FnScope ["self", "slot", "parts", "others"] ["self", "slot", "parts", "others"] (defScope s_If___init__) := ⟨rfl, rfl, rfl, by decide +kernel, rfl, by decide +kernel, by decide +kernel⟩
theorem sc_Either___init__ : FnScope ["self", "parts", "others"] ["self", "parts", "others"] (defScope s_Either___init__) := ⟨rfl, rfl, rfl, by decide +kernel, rfl, by decide +kernel, by decide +kernel⟩
theorem sc_Try___init__ : FnScope ["self", "parts", "name", "slot", "others"] ["self", "parts", "name", "slot", "others"] (defScope s_Try___init__) := ⟨rfl, rfl, rfl, by decide +kernel, rfl, by decide +kernel, by decide +kernel⟩
theorem sc_Throw___init__ : FnScope ["self", "name", "slot"] ["self", "name", "slot"] (defScope s_Throw___init__) := ⟨rfl, rfl, rfl, by decide +kernel, rfl, by decide +kernel, by decide +kernel⟩
theorem sc_Part_long : FnScope ["self"] ["self"] (defScope s_Part_long) := ⟨rfl, rfl, rfl, by decide +kernel, rfl, by decide +kernel, by decide +kernel⟩
theorem sc_Let_long : FnScope ["self"] ["self"] (defScope s_Let_long) := ⟨rfl, rfl, rfl, by decide +kernel, rfl, by decide +kernel, by decide +kernel⟩
theorem sc_Reckon_long : FnScope ["self"] ["self"] (defScope s_Reckon_long) := ⟨rfl, rfl, rfl, by decide +kernel, rfl, by decide +kernel, by decide +kernel⟩
theorem sc_Take_long : FnScope ["self"] ["self"] (defScope s_Take_long) := ⟨rfl, rfl, rfl, by decide +kernel, rfl, by decide +kernel, by decide +kernel⟩
theorem sc_Put_long : FnScope ["self"] ["self"] (defScope s_Put_long) := ⟨rfl, rfl, rfl, by decide +kernel, rfl, by decide +kernel, by decide +kernel⟩
theorem sc_Throw_long : FnScope ["self"] ["self"] (defScope s_Throw_long) := ⟨rfl, rfl, rfl, by decide +kernel, rfl, by decide +kernel, by decide +kernel⟩
theorem sc_Wait_long : FnScope ["self"] ["self"] (defScope s_Wait_long) := ⟨rfl, rfl, rfl, by decide +kernel, rfl, by decide +kernel, by decide +kernel⟩
theorem sc_list_long : FnScope ["parts"] ["parts"] (defScope s_list_long) := ⟨rfl, rfl, rfl, by decide +kernel, rfl, by decide +kernel, by decide +kernel⟩
theorem sc_If_long : FnScope ["self"] ["self"] (defScope s_If_long) := ⟨rfl, rfl, rfl, by decide +kernel, rfl, by decide +kernel, by decide +kernel⟩
theorem sc_Either_long : FnScope ["self"] ["self"] (defScope s_Either_long) := ⟨rfl, rfl, rfl, by decide +kernel, rfl, by decide +kernel, by decide +kernel⟩
theorem sc_Try_long : FnScope ["self"] ["self"] (defScope s_Try_long) := ⟨rfl, rfl, rfl, by decide +kernel, rfl, by decide +kernel, by decide +kernel⟩
theorem sc_plain_rows : FnScope ["part"] ["part"] (defScope s_plain_rows) := ⟨rfl, rfl, rfl, by decide +kernel, rfl, by decide +kernel, by decide +kernel⟩
theorem sc_first_row : FnScope ["part", "second"] ["part", "second"] (defScope s_first_row) := ⟨rfl, rfl, rfl, by decide +kernel, rfl, by decide +kernel, by decide +kernel⟩
theorem sc_rows_between : FnScope ["part", "behind"] ["part", "behind"] (defScope s_rows_between) := ⟨rfl, rfl, rfl, by decide +kernel, rfl, by decide +kernel, by decide +kernel⟩
theorem sc_list_rows : FnScope ["parts", "first", "rows", "part"] ["parts", "first"] (defScope s_list_rows) := ⟨rfl, rfl, rfl, by decide +kernel, rfl, by decide +kernel, by decide +kernel⟩
theorem sc_part_rows : FnScope ["part", "first"] ["part", "first"] (defScope s_part_rows) := ⟨rfl, rfl, rfl, by decide +kernel, rfl, by decide +kernel, by decide +kernel⟩
theorem sc_sided_rows : FnScope ["part", "first", "behind", "second", "inner", "outer"] ["part", "first"] (defScope s_sided_rows) := ⟨rfl, rfl, rfl, by decide +kernel, rfl, by decide +kernel, by decide +kernel⟩
theorem sc_rows_of : FnScope ["deed"] ["deed"] (defScope s_rows_of) := ⟨rfl, rfl, rfl, by decide +kernel, rfl, by decide +kernel, by decide +kernel⟩
theorem sc__law_mixed : FnScope ["_law_cell"] ["_law_cell"] (defScope s__law_mixed) := ⟨rfl, rfl, rfl, by decide +kernel, rfl, by decide +kernel, by decide +kernel⟩
theorem sc__law_wide : FnScope ["_law_cell"] ["_law_cell"] (defScope s__law_wide) := ⟨rfl, rfl, rfl, by decide +kernel, rfl, by decide +kernel, by decide +kernel⟩
theorem sc__law_names : FnScope ["_law_cell", "_law_letters", "_law_mixed_here", "_law_size", "_law_at", "_law_names_here", "_law_turn", "_law_name", "_law_k", "_law_sign"] ["_law_cell"] (defScope s__law_names) := ⟨rfl, rfl, rfl, by decide +kernel, rfl, by decide +kernel, by decide +kernel⟩
theorem sc__law_plain : FnScope ["_law_mixed_here", "_law_cell", "_law_letters", "_law_many", "_law_rest", "_law_one", "_law_other", "_law_third", "_law_way", "_law_word", "_law_tree_here"] ["_law_mixed_here", "_law_cell"] (defScope s__law_plain) := ⟨rfl, rfl, rfl, by decide +kernel, rfl, by decide +kernel, by decide +kernel⟩
theorem sc__law_sided : FnScope ["_law_mixed_here", "_law_one", "_law_other", "_law_names_here", "_law_letters", "_law_slot", "_law_way", "_law_stop"] ["_law_mixed_here", "_law_one", "_law_other", "_law_names_here"] (defScope s__law_sided) := ⟨rfl, rfl, rfl, by decide +kernel, rfl, by decide +kernel, by decide +kernel⟩
theorem sc__law_tree : FnScope ["_law_cells", "_law_depth", "_law_names_here", "_law_tree_here", "_law_at", "_law_cell", "_law_mixed_here", "_law_stops", "_law_many", "_law_more", "_law_one", "_law_other"] ["_law_cells", "_law_depth", "_law_names_here"] (defScope s__law_tree) := ⟨rfl, rfl, rfl, by decide +kernel, rfl, by decide +kernel, by decide +kernel⟩
theorem sc__law_made : FnScope ["_law_tree_here", "_law_made_here", "_law_part"] ["_law_tree_here"] (defScope s__law_made) := ⟨rfl, rfl, rfl, by decide +kernel, rfl, by decide +kernel, by decide +kernel⟩
theorem sc__law_ahead : FnScope ["_law_rows", "_law_k", "_law_row", "_law_target"] ["_law_rows"] (defScope s__law_ahead) := ⟨rfl, rfl, rfl, by decide +kernel, rfl, by decide +kernel, by decide +kernel⟩
theorem sc__law_one_back : FnScope ["_law_row"] ["_law_row"] (defScope s__law_one_back) := ⟨rfl, rfl, rfl, by decide +kernel, rfl, by decide +kernel, by decide +kernel⟩
theorem sc__law_joined : FnScope ["_law_row", "_law_one", "_law_other"] ["_law_row", "_law_one", "_law_other"] (defScope s__law_joined) := ⟨rfl, rfl, rfl, by decide +kernel, rfl, by decide +kernel, by decide +kernel⟩
theorem sc__law_back : FnScope ["_law_rows", "_law_at", "_law_end", "_law_tree_here", "_law_row", "_law_second", "_law_close", "_law_last", "_law_one", "_law_other"] ["_law_rows", "_law_at", "_law_end"] (defScope s__law_back) := ⟨rfl, rfl, rfl, by decide +kernel, rfl, by decide +kernel, by decide +kernel⟩
theorem sc_law : FnScope ["_law_script", "_law_names_here", "_law_at", "_law_tree_here", "_law_rows"] ["_law_script"] (defScope s_law) := ⟨rfl, rfl, rfl, by decide +kernel, rfl, by decide +kernel, by decide +kernel⟩
structure Ads where
  A : Nat → Addr
  a_Let___init__ : Addr
  d_Let___init__ : FuncData
  a_Reckon___init__ : Addr
  d_Reckon___init__ : FuncData
  a_Take___init__ : Addr
  d_Take___init__ : FuncData
  a_Put___init__ : Addr
  d_Put___init__ : FuncData
  a_If___init__ : Addr
  d_If___init__ : FuncData
  a_Either___init__ : Addr
  d_Either___init__ : FuncData
  a_Try___init__ : Addr
  d_Try___init__ : FuncData
  a_Throw___init__ : Addr
  d_Throw___init__ : FuncData
  a_Part_long : Addr
  d_Part_long : FuncData
  a_Let_long : Addr
  d_Let_long : FuncData
  a_Reckon_long : Addr
  d_Reckon_long : FuncData
  a_Take_long : Addr
  d_Take_long : FuncData
  a_Put_long : Addr
  d_Put_long : FuncData
  a_Throw_long : Addr
  d_Throw_long : FuncData
  a_Wait_long : Addr
  d_Wait_long : FuncData
  a_list_long : Addr
  d_list_long : FuncData
  a_If_long : Addr
  d_If_long : FuncData
  a_Either_long : Addr
  d_Either_long : FuncData
  a_Try_long : Addr
  d_Try_long : FuncData
  a_plain_rows : Addr
  d_plain_rows : FuncData
  a_first_row : Addr
  d_first_row : FuncData
  a_rows_between : Addr
  d_rows_between : FuncData
  a_list_rows : Addr
  d_list_rows : FuncData
  a_part_rows : Addr
  d_part_rows : FuncData
  a_sided_rows : Addr
  d_sided_rows : FuncData
  a_rows_of : Addr
  d_rows_of : FuncData
  a__law_mixed : Addr
  d__law_mixed : FuncData
  a__law_wide : Addr
  d__law_wide : FuncData
  a__law_names : Addr
  d__law_names : FuncData
  a__law_plain : Addr
  d__law_plain : FuncData
  a__law_sided : Addr
  d__law_sided : FuncData
  a__law_tree : Addr
  d__law_tree : FuncData
  a__law_made : Addr
  d__law_made : FuncData
  a__law_ahead : Addr
  d__law_ahead : FuncData
  a__law_one_back : Addr
  d__law_one_back : FuncData
  a__law_joined : Addr
  d__law_joined : FuncData
  a__law_back : Addr
  d__law_back : FuncData
  a_law : Addr
  d_law : FuncData
abbrev ckOf (K : PySem.W.Frag) (t : Ads) : Ck := ⟨K, t.A⟩
structure Txt (K : PySem.W.Frag) (mg : Str → Option Value) (t : Ads) : Prop where
  F_Let___init__ : Fun K "__init__" "Let.__init__" s_Let___init__ t.a_Let___init__ t.d_Let___init__
  b_Let___init__ : Binds K t.d_Let___init__ ["self", "slot", "number"] []
  F_Reckon___init__ : Fun K "__init__" "Reckon.__init__" s_Reckon___init__ t.a_Reckon___init__ t.d_Reckon___init__
  b_Reckon___init__ : Binds K t.d_Reckon___init__ ["self", "word", "slot", "one", "other"] []
  F_Take___init__ : Fun K "__init__" "Take.__init__" s_Take___init__ t.a_Take___init__ t.d_Take___init__
  b_Take___init__ : Binds K t.d_Take___init__ ["self", "slot", "place"] []
  F_Put___init__ : Fun K "__init__" "Put.__init__" s_Put___init__ t.a_Put___init__ t.d_Put___init__
  b_Put___init__ : Binds K t.d_Put___init__ ["self", "place", "slot"] []
  F_If___init__ : Fun K "__init__" "If.__init__" s_If___init__ t.a_If___init__ t.d_If___init__
  b_If___init__ : Binds K t.d_If___init__ ["self", "slot", "parts", "others"] []
  F_Either___init__ : Fun K "__init__" "Either.__init__" s_Either___init__ t.a_Either___init__ t.d_Either___init__
  b_Either___init__ : Binds K t.d_Either___init__ ["self", "parts", "others"] []
  F_Try___init__ : Fun K "__init__" "Try.__init__" s_Try___init__ t.a_Try___init__ t.d_Try___init__
  b_Try___init__ : Binds K t.d_Try___init__ ["self", "parts", "name", "slot", "others"] []
  F_Throw___init__ : Fun K "__init__" "Throw.__init__" s_Throw___init__ t.a_Throw___init__ t.d_Throw___init__
  b_Throw___init__ : Binds K t.d_Throw___init__ ["self", "name", "slot"] []
  F_Part_long : Fun K "long" "Part.long" s_Part_long t.a_Part_long t.d_Part_long
  b_Part_long : Binds K t.d_Part_long ["self"] []
  F_Let_long : Fun K "long" "Let.long" s_Let_long t.a_Let_long t.d_Let_long
  b_Let_long : Binds K t.d_Let_long ["self"] []
  F_Reckon_long : Fun K "long" "Reckon.long" s_Reckon_long t.a_Reckon_long t.d_Reckon_long
  b_Reckon_long : Binds K t.d_Reckon_long ["self"] []
  F_Take_long : Fun K "long" "Take.long" s_Take_long t.a_Take_long t.d_Take_long
  b_Take_long : Binds K t.d_Take_long ["self"] []
  F_Put_long : Fun K "long" "Put.long" s_Put_long t.a_Put_long t.d_Put_long
  b_Put_long : Binds K t.d_Put_long ["self"] []
  F_Throw_long : Fun K "long" "Throw.long" s_Throw_long t.a_Throw_long t.d_Throw_long
  b_Throw_long : Binds K t.d_Throw_long ["self"] []
  F_Wait_long : Fun K "long" "Wait.long" s_Wait_long t.a_Wait_long t.d_Wait_long
  b_Wait_long : Binds K t.d_Wait_long ["self"] []
  F_list_long : Fun K "list_long" "list_long" s_list_long t.a_list_long t.d_list_long
  b_list_long : Binds K t.d_list_long ["parts"] []
  m_list_long : mg "list_long" = some (.ref t.a_list_long)
  F_If_long : Fun K "long" "If.long" s_If_long t.a_If_long t.d_If_long
  b_If_long : Binds K t.d_If_long ["self"] []
  F_Either_long : Fun K "long" "Either.long" s_Either_long t.a_Either_long t.d_Either_long
  b_Either_long : Binds K t.d_Either_long ["self"] []
  F_Try_long : Fun K "long" "Try.long" s_Try_long t.a_Try_long t.d_Try_long
  b_Try_long : Binds K t.d_Try_long ["self"] []
  F_plain_rows : Fun K "plain_rows" "plain_rows" s_plain_rows t.a_plain_rows t.d_plain_rows
  b_plain_rows : Binds K t.d_plain_rows ["part"] []
  m_plain_rows : mg "plain_rows" = some (.ref t.a_plain_rows)
  F_first_row : Fun K "first_row" "first_row" s_first_row t.a_first_row t.d_first_row
  b_first_row : Binds K t.d_first_row ["part", "second"] []
  m_first_row : mg "first_row" = some (.ref t.a_first_row)
  F_rows_between : Fun K "rows_between" "rows_between" s_rows_between t.a_rows_between t.d_rows_between
  b_rows_between : Binds K t.d_rows_between ["part", "behind"] []
  m_rows_between : mg "rows_between" = some (.ref t.a_rows_between)
  F_list_rows : Fun K "list_rows" "list_rows" s_list_rows t.a_list_rows t.d_list_rows
  b_list_rows : Binds K t.d_list_rows ["parts", "first"] []
  m_list_rows : mg "list_rows" = some (.ref t.a_list_rows)
  F_part_rows : Fun K "part_rows" "part_rows" s_part_rows t.a_part_rows t.d_part_rows
  b_part_rows : Binds K t.d_part_rows ["part", "first"] []
  m_part_rows : mg "part_rows" = some (.ref t.a_part_rows)
  F_sided_rows : Fun K "sided_rows" "sided_rows" s_sided_rows t.a_sided_rows t.d_sided_rows
  b_sided_rows : Binds K t.d_sided_rows ["part", "first"] []
  m_sided_rows : mg "sided_rows" = some (.ref t.a_sided_rows)
  F_rows_of : Fun K "rows_of" "rows_of" s_rows_of t.a_rows_of t.d_rows_of
  b_rows_of : Binds K t.d_rows_of ["deed"] []
  m_rows_of : mg "rows_of" = some (.ref t.a_rows_of)
  F__law_mixed : Fun K "_law_mixed" "_law_mixed" s__law_mixed t.a__law_mixed t.d__law_mixed
  b__law_mixed : Binds K t.d__law_mixed ["_law_cell"] []
  m__law_mixed : mg "_law_mixed" = some (.ref t.a__law_mixed)
  F__law_wide : Fun K "_law_wide" "_law_wide" s__law_wide t.a__law_wide t.d__law_wide
  b__law_wide : Binds K t.d__law_wide ["_law_cell"] []
  m__law_wide : mg "_law_wide" = some (.ref t.a__law_wide)
  F__law_names : Fun K "_law_names" "_law_names" s__law_names t.a__law_names t.d__law_names
  b__law_names : Binds K t.d__law_names ["_law_cell"] []
  m__law_names : mg "_law_names" = some (.ref t.a__law_names)
  F__law_plain : Fun K "_law_plain" "_law_plain" s__law_plain t.a__law_plain t.d__law_plain
  b__law_plain : Binds K t.d__law_plain ["_law_mixed_here", "_law_cell"] []
  m__law_plain : mg "_law_plain" = some (.ref t.a__law_plain)
  F__law_sided : Fun K "_law_sided" "_law_sided" s__law_sided t.a__law_sided t.d__law_sided
  b__law_sided : Binds K t.d__law_sided ["_law_mixed_here", "_law_one", "_law_other", "_law_names_here"] []
  m__law_sided : mg "_law_sided" = some (.ref t.a__law_sided)
  F__law_tree : Fun K "_law_tree" "_law_tree" s__law_tree t.a__law_tree t.d__law_tree
  b__law_tree : Binds K t.d__law_tree ["_law_cells", "_law_depth", "_law_names_here"] []
  m__law_tree : mg "_law_tree" = some (.ref t.a__law_tree)
  F__law_made : Fun K "_law_made" "_law_made" s__law_made t.a__law_made t.d__law_made
  b__law_made : Binds K t.d__law_made ["_law_tree_here"] []
  m__law_made : mg "_law_made" = some (.ref t.a__law_made)
  F__law_ahead : Fun K "_law_ahead" "_law_ahead" s__law_ahead t.a__law_ahead t.d__law_ahead
  b__law_ahead : Binds K t.d__law_ahead ["_law_rows"] []
  m__law_ahead : mg "_law_ahead" = some (.ref t.a__law_ahead)
  F__law_one_back : Fun K "_law_one_back" "_law_one_back" s__law_one_back t.a__law_one_back t.d__law_one_back
  b__law_one_back : Binds K t.d__law_one_back ["_law_row"] []
  m__law_one_back : mg "_law_one_back" = some (.ref t.a__law_one_back)
  F__law_joined : Fun K "_law_joined" "_law_joined" s__law_joined t.a__law_joined t.d__law_joined
  b__law_joined : Binds K t.d__law_joined ["_law_row", "_law_one", "_law_other"] []
  m__law_joined : mg "_law_joined" = some (.ref t.a__law_joined)
  F__law_back : Fun K "_law_back" "_law_back" s__law_back t.a__law_back t.d__law_back
  b__law_back : Binds K t.d__law_back ["_law_rows", "_law_at", "_law_end"] []
  m__law_back : mg "_law_back" = some (.ref t.a__law_back)
  F_law : Fun K "law" "law" s_law t.a_law t.d_law
  b_law : Binds K t.d_law ["_law_script"] []
  m_law : mg "law" = some (.ref t.a_law)
  m_Part : mg "Part" = some (.ref (t.A 0))
  mk_Part : PySem.W.makesIn K (t.A 0) = true
  io_Part : PySem.W.findIn K (.ref (t.A 0)) "__init__" = some (some (.builtin "object.__init__"))
  kp_Part : PySem.W.keepIn K (.ref (t.A 0)) = true
  m_Let : mg "Let" = some (.ref (t.A 1))
  mk_Let : Mk K (t.A 1) t.a_Let___init__
  m_Reckon : mg "Reckon" = some (.ref (t.A 2))
  mk_Reckon : Mk K (t.A 2) t.a_Reckon___init__
  m_Take : mg "Take" = some (.ref (t.A 3))
  mk_Take : Mk K (t.A 3) t.a_Take___init__
  m_Put : mg "Put" = some (.ref (t.A 4))
  mk_Put : Mk K (t.A 4) t.a_Put___init__
  m_If : mg "If" = some (.ref (t.A 5))
  mk_If : Mk K (t.A 5) t.a_If___init__
  m_Either : mg "Either" = some (.ref (t.A 6))
  mk_Either : Mk K (t.A 6) t.a_Either___init__
  m_Try : mg "Try" = some (.ref (t.A 7))
  mk_Try : Mk K (t.A 7) t.a_Try___init__
  m_Throw : mg "Throw" = some (.ref (t.A 8))
  mk_Throw : Mk K (t.A 8) t.a_Throw___init__
  m_Wait : mg "Wait" = some (.ref (t.A 9))
  mk_Wait : PySem.W.makesIn K (t.A 9) = true
  io_Wait : PySem.W.findIn K (.ref (t.A 9)) "__init__" = some (some (.builtin "object.__init__"))
  kp_Wait : PySem.W.keepIn K (.ref (t.A 9)) = true
  me_Part_long : Meth K (t.A 0) "long" t.a_Part_long
  me_Let_long : Meth K (t.A 1) "long" t.a_Let_long
  me_Reckon_long : Meth K (t.A 2) "long" t.a_Reckon_long
  me_Take_long : Meth K (t.A 3) "long" t.a_Take_long
  me_Put_long : Meth K (t.A 4) "long" t.a_Put_long
  me_If_long : Meth K (t.A 5) "long" t.a_If_long
  me_Either_long : Meth K (t.A 6) "long" t.a_Either_long
  me_Try_long : Meth K (t.A 7) "long" t.a_Try_long
  me_Throw_long : Meth K (t.A 8) "long" t.a_Throw_long
  me_Wait_long : Meth K (t.A 9) "long" t.a_Wait_long
  mx_long : ∀ c, 10 ≤ c → Meth K (t.A c) "long" t.a_Part_long
  cl : ∀ k, Cls K (t.A k)
  fa : Fa (ckOf K t)
  z_bool : mg "bool" = none
  z_int : mg "int" = none
  z_isinstance : mg "isinstance" = none
  z_len : mg "len" = none
  z_list : mg "list" = none
  z_max : mg "max" = none
  z_range : mg "range" = none
  z_sum : mg "sum" = none
  z_tuple : mg "tuple" = none
theorem nm_Either : Nm "Either" := ⟨by decide +kernel, by decide +kernel, by decide +kernel⟩
theorem nm_If : Nm "If" := ⟨by decide +kernel, by decide +kernel, by decide +kernel⟩
theorem nm_Let : Nm "Let" := ⟨by decide +kernel, by decide +kernel, by decide +kernel⟩
theorem nm_Put : Nm "Put" := ⟨by decide +kernel, by decide +kernel, by decide +kernel⟩
theorem nm_Reckon : Nm "Reckon" := ⟨by decide +kernel, by decide +kernel, by decide +kernel⟩
theorem nm_Take : Nm "Take" := ⟨by decide +kernel, by decide +kernel, by decide +kernel⟩
theorem nm_Throw : Nm "Throw" := ⟨by decide +kernel, by decide +kernel, by decide +kernel⟩
theorem nm_Try : Nm "Try" := ⟨by decide +kernel, by decide +kernel, by decide +kernel⟩
theorem nm_Wait : Nm "Wait" := ⟨by decide +kernel, by decide +kernel, by decide +kernel⟩
theorem nm__law_ahead : Nm "_law_ahead" := ⟨by decide +kernel, by decide +kernel, by decide +kernel⟩
theorem nm__law_at : Nm "_law_at" := ⟨by decide +kernel, by decide +kernel, by decide +kernel⟩
theorem nm__law_back : Nm "_law_back" := ⟨by decide +kernel, by decide +kernel, by decide +kernel⟩
theorem nm__law_cell : Nm "_law_cell" := ⟨by decide +kernel, by decide +kernel, by decide +kernel⟩
theorem nm__law_cells : Nm "_law_cells" := ⟨by decide +kernel, by decide +kernel, by decide +kernel⟩
theorem nm__law_close : Nm "_law_close" := ⟨by decide +kernel, by decide +kernel, by decide +kernel⟩
theorem nm__law_depth : Nm "_law_depth" := ⟨by decide +kernel, by decide +kernel, by decide +kernel⟩
theorem nm__law_end : Nm "_law_end" := ⟨by decide +kernel, by decide +kernel, by decide +kernel⟩
theorem nm__law_joined : Nm "_law_joined" := ⟨by decide +kernel, by decide +kernel, by decide +kernel⟩
theorem nm__law_k : Nm "_law_k" := ⟨by decide +kernel, by decide +kernel, by decide +kernel⟩
theorem nm__law_last : Nm "_law_last" := ⟨by decide +kernel, by decide +kernel, by decide +kernel⟩
theorem nm__law_letters : Nm "_law_letters" := ⟨by decide +kernel, by decide +kernel, by decide +kernel⟩
theorem nm__law_made : Nm "_law_made" := ⟨by decide +kernel, by decide +kernel, by decide +kernel⟩
theorem nm__law_made_here : Nm "_law_made_here" := ⟨by decide +kernel, by decide +kernel, by decide +kernel⟩
theorem nm__law_many : Nm "_law_many" := ⟨by decide +kernel, by decide +kernel, by decide +kernel⟩
theorem nm__law_mixed : Nm "_law_mixed" := ⟨by decide +kernel, by decide +kernel, by decide +kernel⟩
theorem nm__law_mixed_here : Nm "_law_mixed_here" := ⟨by decide +kernel, by decide +kernel, by decide +kernel⟩
theorem nm__law_more : Nm "_law_more" := ⟨by decide +kernel, by decide +kernel, by decide +kernel⟩
theorem nm__law_name : Nm "_law_name" := ⟨by decide +kernel, by decide +kernel, by decide +kernel⟩
theorem nm__law_names : Nm "_law_names" := ⟨by decide +kernel, by decide +kernel, by decide +kernel⟩
theorem nm__law_names_here : Nm "_law_names_here" := ⟨by decide +kernel, by decide +kernel, by decide +kernel⟩
theorem nm__law_one : Nm "_law_one" := ⟨by decide +kernel, by decide +kernel, by decide +kernel⟩
theorem nm__law_one_back : Nm "_law_one_back" := ⟨by decide +kernel, by decide +kernel, by decide +kernel⟩
theorem nm__law_other : Nm "_law_other" := ⟨by decide +kernel, by decide +kernel, by decide +kernel⟩
theorem nm__law_part : Nm "_law_part" := ⟨by decide +kernel, by decide +kernel, by decide +kernel⟩
theorem nm__law_plain : Nm "_law_plain" := ⟨by decide +kernel, by decide +kernel, by decide +kernel⟩
theorem nm__law_rest : Nm "_law_rest" := ⟨by decide +kernel, by decide +kernel, by decide +kernel⟩
theorem nm__law_row : Nm "_law_row" := ⟨by decide +kernel, by decide +kernel, by decide +kernel⟩
theorem nm__law_rows : Nm "_law_rows" := ⟨by decide +kernel, by decide +kernel, by decide +kernel⟩
theorem nm__law_script : Nm "_law_script" := ⟨by decide +kernel, by decide +kernel, by decide +kernel⟩
theorem nm__law_second : Nm "_law_second" := ⟨by decide +kernel, by decide +kernel, by decide +kernel⟩
theorem nm__law_sided : Nm "_law_sided" := ⟨by decide +kernel, by decide +kernel, by decide +kernel⟩
theorem nm__law_sign : Nm "_law_sign" := ⟨by decide +kernel, by decide +kernel, by decide +kernel⟩
theorem nm__law_size : Nm "_law_size" := ⟨by decide +kernel, by decide +kernel, by decide +kernel⟩
theorem nm__law_slot : Nm "_law_slot" := ⟨by decide +kernel, by decide +kernel, by decide +kernel⟩
theorem nm__law_stop : Nm "_law_stop" := ⟨by decide +kernel, by decide +kernel, by decide +kernel⟩
theorem nm__law_stops : Nm "_law_stops" := ⟨by decide +kernel, by decide +kernel, by decide +kernel⟩
theorem nm__law_target : Nm "_law_target" := ⟨by decide +kernel, by decide +kernel, by decide +kernel⟩
theorem nm__law_third : Nm "_law_third" := ⟨by decide +kernel, by decide +kernel, by decide +kernel⟩
theorem nm__law_tree : Nm "_law_tree" := ⟨by decide +kernel, by decide +kernel, by decide +kernel⟩
theorem nm__law_tree_here : Nm "_law_tree_here" := ⟨by decide +kernel, by decide +kernel, by decide +kernel⟩
theorem nm__law_turn : Nm "_law_turn" := ⟨by decide +kernel, by decide +kernel, by decide +kernel⟩
theorem nm__law_way : Nm "_law_way" := ⟨by decide +kernel, by decide +kernel, by decide +kernel⟩
theorem nm__law_wide : Nm "_law_wide" := ⟨by decide +kernel, by decide +kernel, by decide +kernel⟩
theorem nm__law_word : Nm "_law_word" := ⟨by decide +kernel, by decide +kernel, by decide +kernel⟩
theorem nm_behind : Nm "behind" := ⟨by decide +kernel, by decide +kernel, by decide +kernel⟩
theorem nm_bool : Nm "bool" := ⟨by decide +kernel, by decide +kernel, by decide +kernel⟩
theorem nm_deed : Nm "deed" := ⟨by decide +kernel, by decide +kernel, by decide +kernel⟩
theorem nm_first : Nm "first" := ⟨by decide +kernel, by decide +kernel, by decide +kernel⟩
theorem nm_first_row : Nm "first_row" := ⟨by decide +kernel, by decide +kernel, by decide +kernel⟩
theorem nm_inner : Nm "inner" := ⟨by decide +kernel, by decide +kernel, by decide +kernel⟩
theorem nm_int : Nm "int" := ⟨by decide +kernel, by decide +kernel, by decide +kernel⟩
theorem nm_isinstance : Nm "isinstance" := ⟨by decide +kernel, by decide +kernel, by decide +kernel⟩
theorem nm_len : Nm "len" := ⟨by decide +kernel, by decide +kernel, by decide +kernel⟩
theorem nm_list : Nm "list" := ⟨by decide +kernel, by decide +kernel, by decide +kernel⟩
theorem nm_list_long : Nm "list_long" := ⟨by decide +kernel, by decide +kernel, by decide +kernel⟩
theorem nm_list_rows : Nm "list_rows" := ⟨by decide +kernel, by decide +kernel, by decide +kernel⟩
theorem nm_max : Nm "max" := ⟨by decide +kernel, by decide +kernel, by decide +kernel⟩
theorem nm_name : Nm "name" := ⟨by decide +kernel, by decide +kernel, by decide +kernel⟩
theorem nm_number : Nm "number" := ⟨by decide +kernel, by decide +kernel, by decide +kernel⟩
theorem nm_one : Nm "one" := ⟨by decide +kernel, by decide +kernel, by decide +kernel⟩
theorem nm_other : Nm "other" := ⟨by decide +kernel, by decide +kernel, by decide +kernel⟩
theorem nm_others : Nm "others" := ⟨by decide +kernel, by decide +kernel, by decide +kernel⟩
theorem nm_outer : Nm "outer" := ⟨by decide +kernel, by decide +kernel, by decide +kernel⟩
theorem nm_part : Nm "part" := ⟨by decide +kernel, by decide +kernel, by decide +kernel⟩
theorem nm_part_rows : Nm "part_rows" := ⟨by decide +kernel, by decide +kernel, by decide +kernel⟩
theorem nm_parts : Nm "parts" := ⟨by decide +kernel, by decide +kernel, by decide +kernel⟩
theorem nm_place : Nm "place" := ⟨by decide +kernel, by decide +kernel, by decide +kernel⟩
theorem nm_plain_rows : Nm "plain_rows" := ⟨by decide +kernel, by decide +kernel, by decide +kernel⟩
theorem nm_rows : Nm "rows" := ⟨by decide +kernel, by decide +kernel, by decide +kernel⟩
theorem nm_rows_between : Nm "rows_between" := ⟨by decide +kernel, by decide +kernel, by decide +kernel⟩
theorem nm_rows_of : Nm "rows_of" := ⟨by decide +kernel, by decide +kernel, by decide +kernel⟩
theorem nm_second : Nm "second" := ⟨by decide +kernel, by decide +kernel, by decide +kernel⟩
theorem nm_self : Nm "self" := ⟨by decide +kernel, by decide +kernel, by decide +kernel⟩
theorem nm_sided_rows : Nm "sided_rows" := ⟨by decide +kernel, by decide +kernel, by decide +kernel⟩
theorem nm_slot : Nm "slot" := ⟨by decide +kernel, by decide +kernel, by decide +kernel⟩
theorem nm_sum : Nm "sum" := ⟨by decide +kernel, by decide +kernel, by decide +kernel⟩
theorem nm_tuple : Nm "tuple" := ⟨by decide +kernel, by decide +kernel, by decide +kernel⟩
theorem nm_word : Nm "word" := ⟨by decide +kernel, by decide +kernel, by decide +kernel⟩

section
variable {P : Program} {w : World} {K : PySem.W.Frag} {mg : Str → Option Value} {base : Heap} {t : Ads}
theorem none_sp {n : Nat} {ck : Ck} {vs : List V} {H : Hp} {Q : VK} {E : XK} (h : spE ck n (fun _ _ => none) vs H Q E) : False := by
  obtain ⟨_, _, _, _, _, _, _, _, q, _⟩ := h
  cases q
theorem none_ok {f : Addr} {fd : FuncData} {ps : List Str} {k n : Nat} {ck : Ck} : FnOk P w K mg base CX0 k f fd ps (spE ck n fun _ _ => none) := ⟨fun vs H Q E h => (none_sp h).elim, fun A outer s H args us vs Q E _ _ _ _ h => (none_sp h).elim⟩
theorem ok_Let___init__ (T : Txt K mg t)  : FnOk P w K mg base CX0 (0 + 1) t.a_Let___init__ t.d_Let___init__ ["self", "slot", "number"] (spI (ckOf K t) 2 1 p_Let___init__) := by
  have fa := T.fa
  exact zin T.F_Let___init__ sc_Let___init__ rfl (by decide) fun cdv Ar outer sh H E hr => (zfs_cons (zf_fld fa.fl_slot (pe_var (i := 0) rfl (Or.inl rfl) nm_self.d nm_self.c) (z_var (i := 1) nm_slot rfl (Or.inl rfl)) rfl) (zfs_one (zf_fld fa.fl_number (pe_var (i := 0) rfl (Or.inl rfl) nm_self.d nm_self.c) (z_var (i := 2) nm_number rfl (Or.inl rfl)) rfl)))
theorem ok_Reckon___init__ (T : Txt K mg t)  : FnOk P w K mg base CX0 (0 + 1) t.a_Reckon___init__ t.d_Reckon___init__ ["self", "word", "slot", "one", "other"] (spI (ckOf K t) 4 2 p_Reckon___init__) := by
  have fa := T.fa
  exact zin T.F_Reckon___init__ sc_Reckon___init__ rfl (by decide) fun cdv Ar outer sh H E hr => (zfs_cons (zf_fld fa.fl_word (pe_var (i := 0) rfl (Or.inl rfl) nm_self.d nm_self.c) (z_var (i := 1) nm_word rfl (Or.inl rfl)) rfl) (zfs_cons (zf_fld fa.fl_slot (pe_var (i := 0) rfl (Or.inl rfl) nm_self.d nm_self.c) (z_var (i := 2) nm_slot rfl (Or.inl rfl)) rfl) (zfs_cons (zf_fld fa.fl_one (pe_var (i := 0) rfl (Or.inl rfl) nm_self.d nm_self.c) (z_var (i := 3) nm_one rfl (Or.inl rfl)) rfl) (zfs_one (zf_fld fa.fl_other (pe_var (i := 0) rfl (Or.inl rfl) nm_self.d nm_self.c) (z_var (i := 4) nm_other rfl (Or.inl rfl)) rfl)))))
theorem ok_Take___init__ (T : Txt K mg t)  : FnOk P w K mg base CX0 (0 + 1) t.a_Take___init__ t.d_Take___init__ ["self", "slot", "place"] (spI (ckOf K t) 2 3 p_Take___init__) := by
  have fa := T.fa
  exact zin T.F_Take___init__ sc_Take___init__ rfl (by decide) fun cdv Ar outer sh H E hr => (zfs_cons (zf_fld fa.fl_slot (pe_var (i := 0) rfl (Or.inl rfl) nm_self.d nm_self.c) (z_var (i := 1) nm_slot rfl (Or.inl rfl)) rfl) (zfs_one (zf_fld fa.fl_place (pe_var (i := 0) rfl (Or.inl rfl) nm_self.d nm_self.c) (z_var (i := 2) nm_place rfl (Or.inl rfl)) rfl)))
theorem ok_Put___init__ (T : Txt K mg t)  : FnOk P w K mg base CX0 (0 + 1) t.a_Put___init__ t.d_Put___init__ ["self", "place", "slot"] (spI (ckOf K t) 2 4 p_Put___init__) := by
  have fa := T.fa
  exact zin T.F_Put___init__ sc_Put___init__ rfl (by decide) fun cdv Ar outer sh H E hr => (zfs_cons (zf_fld fa.fl_place (pe_var (i := 0) rfl (Or.inl rfl) nm_self.d nm_self.c) (z_var (i := 1) nm_place rfl (Or.inl rfl)) rfl) (zfs_one (zf_fld fa.fl_slot (pe_var (i := 0) rfl (Or.inl rfl) nm_self.d nm_self.c) (z_var (i := 2) nm_slot rfl (Or.inl rfl)) rfl)))
theorem ok_If___init__ (T : Txt K mg t)  : FnOk P w K mg base CX0 (0 + 1) t.a_If___init__ t.d_If___init__ ["self", "slot", "parts", "others"] (spI (ckOf K t) 3 5 p_If___init__) := by
  have fa := T.fa
  exact zin T.F_If___init__ sc_If___init__ rfl (by decide) fun cdv Ar outer sh H E hr => (zfs_cons (zf_fld fa.fl_slot (pe_var (i := 0) rfl (Or.inl rfl) nm_self.d nm_self.c) (z_var (i := 1) nm_slot rfl (Or.inl rfl)) rfl) (zfs_cons (zf_fld fa.fl_parts (pe_var (i := 0) rfl (Or.inl rfl) nm_self.d nm_self.c) (z_fz (z_ctyO call_list_of b_listOf nm_list rfl T.z_list bt_list (za_cons (z_var (i := 2) nm_parts rfl (Or.inl rfl)) za_nil rfl) rfl rfl)) rfl) (zfs_one (zf_fld fa.fl_others (pe_var (i := 0) rfl (Or.inl rfl) nm_self.d nm_self.c) (z_fz (z_ctyO call_list_of b_listOf nm_list rfl T.z_list bt_list (za_cons (z_var (i := 3) nm_others rfl (Or.inl rfl)) za_nil rfl) rfl rfl)) rfl))))
theorem ok_Either___init__ (T : Txt K mg t)  : FnOk P w K mg base CX0 (0 + 1) t.a_Either___init__ t.d_Either___init__ ["self", "parts", "others"] (spI (ckOf K t) 2 6 p_Either___init__) := by
  have fa := T.fa
  exact zin T.F_Either___init__ sc_Either___init__ rfl (by decide) fun cdv Ar outer sh H E hr => (zfs_cons (zf_fld fa.fl_parts (pe_var (i := 0) rfl (Or.inl rfl) nm_self.d nm_self.c) (z_fz (z_ctyO call_list_of b_listOf nm_list rfl T.z_list bt_list (za_cons (z_var (i := 1) nm_parts rfl (Or.inl rfl)) za_nil rfl) rfl rfl)) rfl) (zfs_one (zf_fld fa.fl_others (pe_var (i := 0) rfl (Or.inl rfl) nm_self.d nm_self.c) (z_fz (z_ctyO call_list_of b_listOf nm_list rfl T.z_list bt_list (za_cons (z_var (i := 2) nm_others rfl (Or.inl rfl)) za_nil rfl) rfl rfl)) rfl)))
theorem ok_Try___init__ (T : Txt K mg t)  : FnOk P w K mg base CX0 (0 + 1) t.a_Try___init__ t.d_Try___init__ ["self", "parts", "name", "slot", "others"] (spI (ckOf K t) 4 7 p_Try___init__) := by
  have fa := T.fa
  exact zin T.F_Try___init__ sc_Try___init__ rfl (by decide) fun cdv Ar outer sh H E hr => (zfs_cons (zf_fld fa.fl_parts (pe_var (i := 0) rfl (Or.inl rfl) nm_self.d nm_self.c) (z_fz (z_ctyO call_list_of b_listOf nm_list rfl T.z_list bt_list (za_cons (z_var (i := 1) nm_parts rfl (Or.inl rfl)) za_nil rfl) rfl rfl)) rfl) (zfs_cons (zf_fld fa.fl_name (pe_var (i := 0) rfl (Or.inl rfl) nm_self.d nm_self.c) (z_var (i := 2) nm_name rfl (Or.inl rfl)) rfl) (zfs_cons (zf_fld fa.fl_slot (pe_var (i := 0) rfl (Or.inl rfl) nm_self.d nm_self.c) (z_var (i := 3) nm_slot rfl (Or.inl rfl)) rfl) (zfs_one (zf_fld fa.fl_others (pe_var (i := 0) rfl (Or.inl rfl) nm_self.d nm_self.c) (z_fz (z_ctyO call_list_of b_listOf nm_list rfl T.z_list bt_list (za_cons (z_var (i := 4) nm_others rfl (Or.inl rfl)) za_nil rfl) rfl rfl)) rfl)))))
theorem ok_Throw___init__ (T : Txt K mg t)  : FnOk P w K mg base CX0 (0 + 1) t.a_Throw___init__ t.d_Throw___init__ ["self", "name", "slot"] (spI (ckOf K t) 2 8 p_Throw___init__) := by
  have fa := T.fa
  exact zin T.F_Throw___init__ sc_Throw___init__ rfl (by decide) fun cdv Ar outer sh H E hr => (zfs_cons (zf_fld fa.fl_name (pe_var (i := 0) rfl (Or.inl rfl) nm_self.d nm_self.c) (z_var (i := 1) nm_name rfl (Or.inl rfl)) rfl) (zfs_one (zf_fld fa.fl_slot (pe_var (i := 0) rfl (Or.inl rfl) nm_self.d nm_self.c) (z_var (i := 2) nm_slot rfl (Or.inl rfl)) rfl)))
theorem ok_Part_long (T : Txt K mg t)  : FnOk P w K mg base CX0 (0 + 1) t.a_Part_long t.d_Part_long ["self"] (spE (ckOf K t) 1 p_Part_long) := by
  have fa := T.fa
  exact zfn T.F_Part_long sc_Part_long fun cdv Ar outer sh H E hr => (zss_one (zs_ret z_int))
theorem ok_Let_long (T : Txt K mg t)  : FnOk P w K mg base CX0 (0 + 1) t.a_Let_long t.d_Let_long ["self"] (spE (ckOf K t) 1 p_Let_long) := by
  have fa := T.fa
  exact zfn T.F_Let_long sc_Let_long fun cdv Ar outer sh H E hr => (zss_one (zs_ret z_int))
theorem ok_Reckon_long (T : Txt K mg t)  : FnOk P w K mg base CX0 (0 + 1) t.a_Reckon_long t.d_Reckon_long ["self"] (spE (ckOf K t) 1 p_Reckon_long) := by
  have fa := T.fa
  exact zfn T.F_Reckon_long sc_Reckon_long fun cdv Ar outer sh H E hr => (zss_one (zs_ret z_int))
theorem ok_Take_long (T : Txt K mg t)  : FnOk P w K mg base CX0 (0 + 1) t.a_Take_long t.d_Take_long ["self"] (spE (ckOf K t) 1 p_Take_long) := by
  have fa := T.fa
  exact zfn T.F_Take_long sc_Take_long fun cdv Ar outer sh H E hr => (zss_one (zs_ret z_int))
theorem ok_Put_long (T : Txt K mg t)  : FnOk P w K mg base CX0 (0 + 1) t.a_Put_long t.d_Put_long ["self"] (spE (ckOf K t) 1 p_Put_long) := by
  have fa := T.fa
  exact zfn T.F_Put_long sc_Put_long fun cdv Ar outer sh H E hr => (zss_one (zs_ret z_int))
theorem ok_Throw_long (T : Txt K mg t)  : FnOk P w K mg base CX0 (0 + 1) t.a_Throw_long t.d_Throw_long ["self"] (spE (ckOf K t) 1 p_Throw_long) := by
  have fa := T.fa
  exact zfn T.F_Throw_long sc_Throw_long fun cdv Ar outer sh H E hr => (zss_one (zs_ret z_int))
theorem ok_Wait_long (T : Txt K mg t)  : FnOk P w K mg base CX0 (0 + 1) t.a_Wait_long t.d_Wait_long ["self"] (spE (ckOf K t) 1 p_Wait_long) := by
  have fa := T.fa
  exact zfn T.F_Wait_long sc_Wait_long fun cdv Ar outer sh H E hr => (zss_one (zs_ret z_int))
structure Grp0 (P : Program) (w : World) (K : PySem.W.Frag) (mg : Str → Option Value) (base : Heap) (t : Ads) (n : Nat) : Prop where
  f_list_long : FnOk P w K mg base CX0 (n + 1) t.a_list_long t.d_list_long ["parts"] (spE (ckOf K t) 1 (p_list_long n))
  f_If_long : FnOk P w K mg base CX0 (n + 1) t.a_If_long t.d_If_long ["self"] (spE (ckOf K t) 1 (p_If_long n))
  f_Either_long : FnOk P w K mg base CX0 (n + 1) t.a_Either_long t.d_Either_long ["self"] (spE (ckOf K t) 1 (p_Either_long n))
  f_Try_long : FnOk P w K mg base CX0 (n + 1) t.a_Try_long t.d_Try_long ["self"] (spE (ckOf K t) 1 (p_Try_long n))
  m_long : MethsOk P w K mg base (n + 1) t.A "long" (fun k => spE (ckOf K t) 1 (p_long n k))
theorem grp0_ok (T : Txt K mg t)  (G_Let_long : FnOk P w K mg base CX0 (1) t.a_Let_long t.d_Let_long ["self"] (spE (ckOf K t) 1 p_Let_long)) (G_Part_long : FnOk P w K mg base CX0 (1) t.a_Part_long t.d_Part_long ["self"] (spE (ckOf K t) 1 p_Part_long)) (G_Put_long : FnOk P w K mg base CX0 (1) t.a_Put_long t.d_Put_long ["self"] (spE (ckOf K t) 1 p_Put_long)) (G_Reckon_long : FnOk P w K mg base CX0 (1) t.a_Reckon_long t.d_Reckon_long ["self"] (spE (ckOf K t) 1 p_Reckon_long)) (G_Take_long : FnOk P w K mg base CX0 (1) t.a_Take_long t.d_Take_long ["self"] (spE (ckOf K t) 1 p_Take_long)) (G_Throw_long : FnOk P w K mg base CX0 (1) t.a_Throw_long t.d_Throw_long ["self"] (spE (ckOf K t) 1 p_Throw_long)) (G_Wait_long : FnOk P w K mg base CX0 (1) t.a_Wait_long t.d_Wait_long ["self"] (spE (ckOf K t) 1 p_Wait_long)) : ∀ n, Grp0 P w K mg base t n
  | 0 => ⟨none_ok, none_ok, none_ok, none_ok, fun c => ⟨T.cl c, match c with | 0 => ⟨_, _, _, T.me_Part_long, none_ok, T.b_Part_long⟩ | 1 => ⟨_, _, _, T.me_Let_long, none_ok, T.b_Let_long⟩ | 2 => ⟨_, _, _, T.me_Reckon_long, none_ok, T.b_Reckon_long⟩ | 3 => ⟨_, _, _, T.me_Take_long, none_ok, T.b_Take_long⟩ | 4 => ⟨_, _, _, T.me_Put_long, none_ok, T.b_Put_long⟩ | 5 => ⟨_, _, _, T.me_If_long, none_ok, T.b_If_long⟩ | 6 => ⟨_, _, _, T.me_Either_long, none_ok, T.b_Either_long⟩ | 7 => ⟨_, _, _, T.me_Try_long, none_ok, T.b_Try_long⟩ | 8 => ⟨_, _, _, T.me_Throw_long, none_ok, T.b_Throw_long⟩ | 9 => ⟨_, _, _, T.me_Wait_long, none_ok, T.b_Wait_long⟩ | c + 10 => ⟨_, _, _, T.mx_long (c + 10) (by omega), none_ok, T.b_Part_long⟩⟩⟩
  | n + 1 => by
    have fa := T.fa
    have I := grp0_ok T G_Let_long G_Part_long G_Put_long G_Reckon_long G_Take_long G_Throw_long G_Wait_long n
    have G_list_long := I.f_list_long
    have G_If_long := I.f_If_long
    have G_Either_long := I.f_Either_long
    have G_Try_long := I.f_Try_long
    have G_long := I.m_long
    exact ⟨zfn T.F_list_long sc_list_long fun cdv Ar outer sh H E hr => (zss_one (zs_ret (z_cb (call_sum rfl) b_sum nm_sum rfl T.z_sum bt_sum (za_cons (z_fz (z_comp [] [] rfl (zi_list (z_var (i := 0) nm_parts rfl (Or.inl rfl))) True.intro (fun _ _ _ _ _ _ => (z_meth0 (z_var (i := 0) nm_part rfl (Or.inl rfl)) G_long (hr.mono (by omega)) rfl)) (by decide +kernel) rfl (by decide +kernel) (by decide +kernel) (by decide +kernel) rfl (fun _ => rfl))) za_nil rfl) rfl rfl))),
      zfn T.F_If_long sc_If_long fun cdv Ar outer sh H E hr => (zss_one (zs_ret (z_op op_add o_add (z_op op_add o_add z_int (z_call G_list_long (hr.mono (by omega)) nm_list_long rfl T.m_list_long T.F_list_long.kp T.b_list_long (za_cons (z_fld fa.fl_parts (z_var (i := 0) nm_self rfl (Or.inl rfl)) rfl) za_nil rfl) rfl rfl)) (z_call G_list_long (hr.mono (by omega)) nm_list_long rfl T.m_list_long T.F_list_long.kp T.b_list_long (za_cons (z_fld fa.fl_others (z_var (i := 0) nm_self rfl (Or.inl rfl)) rfl) za_nil rfl) rfl rfl)))),
      zfn T.F_Either_long sc_Either_long fun cdv Ar outer sh H E hr => (zss_one (zs_ret (z_op op_add o_add (z_op op_add o_add z_int (z_call G_list_long (hr.mono (by omega)) nm_list_long rfl T.m_list_long T.F_list_long.kp T.b_list_long (za_cons (z_fld fa.fl_parts (z_var (i := 0) nm_self rfl (Or.inl rfl)) rfl) za_nil rfl) rfl rfl)) (z_call G_list_long (hr.mono (by omega)) nm_list_long rfl T.m_list_long T.F_list_long.kp T.b_list_long (za_cons (z_fld fa.fl_others (z_var (i := 0) nm_self rfl (Or.inl rfl)) rfl) za_nil rfl) rfl rfl)))),
      zfn T.F_Try_long sc_Try_long fun cdv Ar outer sh H E hr => (zss_one (zs_ret (z_op op_add o_add (z_op op_add o_add z_int (z_call G_list_long (hr.mono (by omega)) nm_list_long rfl T.m_list_long T.F_list_long.kp T.b_list_long (za_cons (z_fld fa.fl_parts (z_var (i := 0) nm_self rfl (Or.inl rfl)) rfl) za_nil rfl) rfl rfl)) (z_call G_list_long (hr.mono (by omega)) nm_list_long rfl T.m_list_long T.F_list_long.kp T.b_list_long (za_cons (z_fld fa.fl_others (z_var (i := 0) nm_self rfl (Or.inl rfl)) rfl) za_nil rfl) rfl rfl)))),
      fun c => ⟨T.cl c, match c with | 0 => ⟨_, _, _, T.me_Part_long, G_Part_long.mono (by omega), T.b_Part_long⟩ | 1 => ⟨_, _, _, T.me_Let_long, G_Let_long.mono (by omega), T.b_Let_long⟩ | 2 => ⟨_, _, _, T.me_Reckon_long, G_Reckon_long.mono (by omega), T.b_Reckon_long⟩ | 3 => ⟨_, _, _, T.me_Take_long, G_Take_long.mono (by omega), T.b_Take_long⟩ | 4 => ⟨_, _, _, T.me_Put_long, G_Put_long.mono (by omega), T.b_Put_long⟩ | 5 => ⟨_, _, _, T.me_If_long, I.f_If_long.mono (by omega), T.b_If_long⟩ | 6 => ⟨_, _, _, T.me_Either_long, I.f_Either_long.mono (by omega), T.b_Either_long⟩ | 7 => ⟨_, _, _, T.me_Try_long, I.f_Try_long.mono (by omega), T.b_Try_long⟩ | 8 => ⟨_, _, _, T.me_Throw_long, G_Throw_long.mono (by omega), T.b_Throw_long⟩ | 9 => ⟨_, _, _, T.me_Wait_long, G_Wait_long.mono (by omega), T.b_Wait_long⟩ | c + 10 => ⟨_, _, _, T.mx_long (c + 10) (by omega), none_ok, T.b_Part_long⟩⟩⟩
theorem ok_plain_rows (T : Txt K mg t)  : FnOk P w K mg base CX0 (0 + 1) t.a_plain_rows t.d_plain_rows ["part"] (spE (ckOf K t) 1 p_plain_rows) := by
  have fa := T.fa
  exact zfn T.F_plain_rows sc_plain_rows fun cdv Ar outer sh H E hr => (zss_cons (zs_if (zt_val (z_cb call_isinst (b_isi (K := ckX _ _) fa.isa) nm_isinstance rfl T.z_isinstance bt_isinstance (za_cons (z_var (i := 0) nm_part rfl (Or.inl rfl)) (za_cons (z_gcls nm_Let rfl T.m_Let) za_nil rfl) rfl) rfl rfl) (fun _ => rfl)) (zss_one (zs_ret (z_fz (z_lst (za_cons (z_tup (za_cons z_str (za_cons (z_fld fa.fl_slot (z_var (i := 0) nm_part rfl (Or.inl rfl)) rfl) (za_cons (z_fld fa.fl_number (z_var (i := 0) nm_part rfl (Or.inl rfl)) rfl) za_nil rfl) rfl) rfl)) za_nil rfl))))) zss_nil) (zss_cons (zs_if (zt_val (z_cb call_isinst (b_isi (K := ckX _ _) fa.isa) nm_isinstance rfl T.z_isinstance bt_isinstance (za_cons (z_var (i := 0) nm_part rfl (Or.inl rfl)) (za_cons (z_gcls nm_Reckon rfl T.m_Reckon) za_nil rfl) rfl) rfl rfl) (fun _ => rfl)) (zss_one (zs_ret (z_fz (z_lst (za_cons (z_tup (za_cons (z_fld fa.fl_word (z_var (i := 0) nm_part rfl (Or.inl rfl)) rfl) (za_cons (z_fld fa.fl_slot (z_var (i := 0) nm_part rfl (Or.inl rfl)) rfl) (za_cons (z_fld fa.fl_one (z_var (i := 0) nm_part rfl (Or.inl rfl)) rfl) (za_cons (z_fld fa.fl_other (z_var (i := 0) nm_part rfl (Or.inl rfl)) rfl) za_nil rfl) rfl) rfl) rfl)) za_nil rfl))))) zss_nil) (zss_cons (zs_if (zt_val (z_cb call_isinst (b_isi (K := ckX _ _) fa.isa) nm_isinstance rfl T.z_isinstance bt_isinstance (za_cons (z_var (i := 0) nm_part rfl (Or.inl rfl)) (za_cons (z_gcls nm_Take rfl T.m_Take) za_nil rfl) rfl) rfl rfl) (fun _ => rfl)) (zss_one (zs_ret (z_fz (z_lst (za_cons (z_tup (za_cons z_str (za_cons (z_fld fa.fl_slot (z_var (i := 0) nm_part rfl (Or.inl rfl)) rfl) (za_cons (z_fld fa.fl_place (z_var (i := 0) nm_part rfl (Or.inl rfl)) rfl) za_nil rfl) rfl) rfl)) za_nil rfl))))) zss_nil) (zss_cons (zs_if (zt_val (z_cb call_isinst (b_isi (K := ckX _ _) fa.isa) nm_isinstance rfl T.z_isinstance bt_isinstance (za_cons (z_var (i := 0) nm_part rfl (Or.inl rfl)) (za_cons (z_gcls nm_Put rfl T.m_Put) za_nil rfl) rfl) rfl rfl) (fun _ => rfl)) (zss_one (zs_ret (z_fz (z_lst (za_cons (z_tup (za_cons z_str (za_cons (z_fld fa.fl_place (z_var (i := 0) nm_part rfl (Or.inl rfl)) rfl) (za_cons (z_fld fa.fl_slot (z_var (i := 0) nm_part rfl (Or.inl rfl)) rfl) za_nil rfl) rfl) rfl)) za_nil rfl))))) zss_nil) (zss_cons (zs_if (zt_val (z_cb call_isinst (b_isi (K := ckX _ _) fa.isa) nm_isinstance rfl T.z_isinstance bt_isinstance (za_cons (z_var (i := 0) nm_part rfl (Or.inl rfl)) (za_cons (z_gcls nm_Throw rfl T.m_Throw) za_nil rfl) rfl) rfl rfl) (fun _ => rfl)) (zss_one (zs_ret (z_fz (z_lst (za_cons (z_tup (za_cons z_str (za_cons (z_fld fa.fl_name (z_var (i := 0) nm_part rfl (Or.inl rfl)) rfl) (za_cons (z_fld fa.fl_slot (z_var (i := 0) nm_part rfl (Or.inl rfl)) rfl) za_nil rfl) rfl) rfl)) za_nil rfl))))) zss_nil) (zss_cons (zs_if (zt_val (z_cb call_isinst (b_isi (K := ckX _ _) fa.isa) nm_isinstance rfl T.z_isinstance bt_isinstance (za_cons (z_var (i := 0) nm_part rfl (Or.inl rfl)) (za_cons (z_gcls nm_Wait rfl T.m_Wait) za_nil rfl) rfl) rfl rfl) (fun _ => rfl)) (zss_one (zs_ret (z_fz (z_lst (za_cons (z_tup (za_cons z_str za_nil rfl)) za_nil rfl))))) zss_nil) (zss_one (zs_ret (z_fz (z_lst za_nil))))))))))
theorem ok_first_row (T : Txt K mg t)  : FnOk P w K mg base CX0 (0 + 1) t.a_first_row t.d_first_row ["part", "second"] (spE (ckOf K t) 2 p_first_row) := by
  have fa := T.fa
  exact zfn T.F_first_row sc_first_row fun cdv Ar outer sh H E hr => (zss_cons (zs_if (zt_val (z_cb call_isinst (b_isi (K := ckX _ _) fa.isa) nm_isinstance rfl T.z_isinstance bt_isinstance (za_cons (z_var (i := 0) nm_part rfl (Or.inl rfl)) (za_cons (z_gcls nm_If rfl T.m_If) za_nil rfl) rfl) rfl rfl) (fun _ => rfl)) (zss_one (zs_ret (z_tup (za_cons z_str (za_cons (z_fld fa.fl_slot (z_var (i := 0) nm_part rfl (Or.inl rfl)) rfl) (za_cons (z_var (i := 1) nm_second rfl (Or.inl rfl)) za_nil rfl) rfl) rfl)))) zss_nil) (zss_cons (zs_if (zt_val (z_cb call_isinst (b_isi (K := ckX _ _) fa.isa) nm_isinstance rfl T.z_isinstance bt_isinstance (za_cons (z_var (i := 0) nm_part rfl (Or.inl rfl)) (za_cons (z_gcls nm_Either rfl T.m_Either) za_nil rfl) rfl) rfl rfl) (fun _ => rfl)) (zss_one (zs_ret (z_tup (za_cons z_str (za_cons (z_var (i := 1) nm_second rfl (Or.inl rfl)) za_nil rfl) rfl)))) zss_nil) (zss_one (zs_ret (z_tup (za_cons z_str (za_cons (z_fld fa.fl_name (z_var (i := 0) nm_part rfl (Or.inl rfl)) rfl) (za_cons (z_fld fa.fl_slot (z_var (i := 0) nm_part rfl (Or.inl rfl)) rfl) (za_cons (z_var (i := 1) nm_second rfl (Or.inl rfl)) za_nil rfl) rfl) rfl) rfl))))))
theorem ok_rows_between (T : Txt K mg t)  : FnOk P w K mg base CX0 (0 + 1) t.a_rows_between t.d_rows_between ["part", "behind"] (spE (ckOf K t) 2 p_rows_between) := by
  have fa := T.fa
  exact zfn T.F_rows_between sc_rows_between fun cdv Ar outer sh H E hr => (zss_cons (zs_if (zt_val (z_cb call_isinst (b_isi (K := ckX _ _) fa.isa) nm_isinstance rfl T.z_isinstance bt_isinstance (za_cons (z_var (i := 0) nm_part rfl (Or.inl rfl)) (za_cons (z_gcls nm_If rfl T.m_If) za_nil rfl) rfl) rfl rfl) (fun _ => rfl)) (zss_one (zs_ret (z_fz (z_lst (za_cons (z_tup (za_cons z_str (za_cons (z_var (i := 1) nm_behind rfl (Or.inl rfl)) za_nil rfl) rfl)) za_nil rfl))))) zss_nil) (zss_one (zs_ret (z_fz (z_lst (za_cons (z_tup (za_cons z_str za_nil rfl)) (za_cons (z_tup (za_cons z_str (za_cons (z_var (i := 1) nm_behind rfl (Or.inl rfl)) za_nil rfl) rfl)) za_nil rfl) rfl))))))
structure Grp1 (P : Program) (w : World) (K : PySem.W.Frag) (mg : Str → Option Value) (base : Heap) (t : Ads) (n : Nat) : Prop where
  f_list_rows : FnOk P w K mg base CX0 (n + 22) t.a_list_rows t.d_list_rows ["parts", "first"] (spE (ckOf K t) 2 (p_list_rows n))
  f_part_rows : FnOk P w K mg base CX0 (n + 22) t.a_part_rows t.d_part_rows ["part", "first"] (spE (ckOf K t) 2 (p_part_rows n))
  f_sided_rows : FnOk P w K mg base CX0 (n + 22) t.a_sided_rows t.d_sided_rows ["part", "first"] (spE (ckOf K t) 2 (p_sided_rows n))
theorem grp1_ok (T : Txt K mg t) (G_first_row : FnOk P w K mg base CX0 (1) t.a_first_row t.d_first_row ["part", "second"] (spE (ckOf K t) 2 p_first_row)) (G_list_long : FnOk P w K mg base CX0 (21) t.a_list_long t.d_list_long ["parts"] (spE (ckOf K t) 1 (p_list_long 20))) (G_plain_rows : FnOk P w K mg base CX0 (1) t.a_plain_rows t.d_plain_rows ["part"] (spE (ckOf K t) 1 p_plain_rows)) (G_rows_between : FnOk P w K mg base CX0 (1) t.a_rows_between t.d_rows_between ["part", "behind"] (spE (ckOf K t) 2 p_rows_between))  (G_long : MethsOk P w K mg base 21 t.A "long" (fun k => spE (ckOf K t) 1 (p_long 20 k))) : ∀ n, Grp1 P w K mg base t n
  | 0 => ⟨none_ok, none_ok, none_ok⟩
  | n + 1 => by
    have fa := T.fa
    have I := grp1_ok T G_first_row G_list_long G_plain_rows G_rows_between G_long n
    have G_list_rows := I.f_list_rows
    have G_part_rows := I.f_part_rows
    have G_sided_rows := I.f_sided_rows
    exact ⟨zfn T.F_list_rows sc_list_rows fun cdv Ar outer sh H E hr => (zss_cons (zs_setO (i := 2) sc_list_rows.nd rfl (Or.inl rfl) (z_lst za_nil) rfl (Or.inl rfl)) (zss_cons (zs_for PassesOwn.never rfl (zi_list (z_var (i := 0) nm_parts rfl (Or.inl rfl))) (zg_name (i := 3) sc_list_rows.nd rfl (Or.inl rfl) (Or.inl rfl)) (zss_one (zs_ext (pe_var (i := 2) rfl (Or.inl rfl) nm_rows.d nm_rows.c) (z_call G_part_rows (hr.mono (by omega)) nm_part_rows rfl T.m_part_rows T.F_part_rows.kp T.b_part_rows (za_cons (z_var (i := 3) nm_part rfl (Or.inl rfl)) (za_cons (z_op op_add o_add (z_var (i := 1) nm_first rfl (Or.inl rfl)) (z_lenO (pe_var (i := 2) rfl (Or.inl rfl) nm_rows.d nm_rows.c) nm_len rfl T.z_len bt_len rfl rfl)) za_nil rfl) rfl) rfl rfl) rfl rfl rfl rfl rfl rfl)) (fun _ => rfl)) (zss_frz 2 (zss_one (zs_ret (z_var (i := 2) nm_rows rfl (Or.inl rfl))))))),
      zfn T.F_part_rows sc_part_rows fun cdv Ar outer sh H E hr => (zss_cons (zs_if (zt_w (zw_or (zt_val (z_cb call_isinst (b_isi (K := ckX _ _) fa.isa) nm_isinstance rfl T.z_isinstance bt_isinstance (za_cons (z_var (i := 0) nm_part rfl (Or.inl rfl)) (za_cons (z_gcls nm_If rfl T.m_If) za_nil rfl) rfl) rfl rfl) (fun _ => rfl)) (zw_or (zt_val (z_cb call_isinst (b_isi (K := ckX _ _) fa.isa) nm_isinstance rfl T.z_isinstance bt_isinstance (za_cons (z_var (i := 0) nm_part rfl (Or.inl rfl)) (za_cons (z_gcls nm_Either rfl T.m_Either) za_nil rfl) rfl) rfl rfl) (fun _ => rfl)) (zw_or1 (zt_val (z_cb call_isinst (b_isi (K := ckX _ _) fa.isa) nm_isinstance rfl T.z_isinstance bt_isinstance (za_cons (z_var (i := 0) nm_part rfl (Or.inl rfl)) (za_cons (z_gcls nm_Try rfl T.m_Try) za_nil rfl) rfl) rfl rfl) (fun _ => rfl)))))) (zss_one (zs_ret (z_call G_sided_rows (hr.mono (by omega)) nm_sided_rows rfl T.m_sided_rows T.F_sided_rows.kp T.b_sided_rows (za_cons (z_var (i := 0) nm_part rfl (Or.inl rfl)) (za_cons (z_var (i := 1) nm_first rfl (Or.inl rfl)) za_nil rfl) rfl) rfl rfl))) zss_nil) (zss_one (zs_ret (z_call G_plain_rows (hr.mono (by omega)) nm_plain_rows rfl T.m_plain_rows T.F_plain_rows.kp T.b_plain_rows (za_cons (z_var (i := 0) nm_part rfl (Or.inl rfl)) za_nil rfl) rfl rfl)))),
      zfn T.F_sided_rows sc_sided_rows fun cdv Ar outer sh H E hr => (zss_cons (zs_set (i := 2) sc_sided_rows.nd rfl (Or.inl rfl) (z_op op_add o_add (z_var (i := 1) nm_first rfl (Or.inl rfl)) (z_meth0 (z_var (i := 0) nm_part rfl (Or.inl rfl)) G_long (hr.mono (by omega)) rfl)) rfl (Or.inl rfl)) (zss_cons (zs_set (i := 3) sc_sided_rows.nd rfl (Or.inl rfl) (z_op op_sub o_sub (z_var (i := 2) nm_behind rfl (Or.inl rfl)) (z_call G_list_long (hr.mono (by omega)) nm_list_long rfl T.m_list_long T.F_list_long.kp T.b_list_long (za_cons (z_fld fa.fl_others (z_var (i := 0) nm_part rfl (Or.inl rfl)) rfl) za_nil rfl) rfl rfl)) rfl (Or.inl rfl)) (zss_cons (zs_set (i := 4) sc_sided_rows.nd rfl (Or.inl rfl) (z_call G_list_rows (hr.mono (by omega)) nm_list_rows rfl T.m_list_rows T.F_list_rows.kp T.b_list_rows (za_cons (z_fld fa.fl_parts (z_var (i := 0) nm_part rfl (Or.inl rfl)) rfl) (za_cons (z_op op_add o_add (z_var (i := 1) nm_first rfl (Or.inl rfl)) z_int) za_nil rfl) rfl) rfl rfl) rfl (Or.inl rfl)) (zss_cons (zs_set (i := 5) sc_sided_rows.nd rfl (Or.inl rfl) (z_call G_list_rows (hr.mono (by omega)) nm_list_rows rfl T.m_list_rows T.F_list_rows.kp T.b_list_rows (za_cons (z_fld fa.fl_others (z_var (i := 0) nm_part rfl (Or.inl rfl)) rfl) (za_cons (z_var (i := 3) nm_second rfl (Or.inl rfl)) za_nil rfl) rfl) rfl rfl) rfl (Or.inl rfl)) (zss_one (zs_ret (z_fz (z_opO op_cat o_cat (z_fz (z_opO op_cat o_cat (z_fz (z_opO op_cat o_cat (z_fz (z_lst (za_cons (z_call G_first_row (hr.mono (by omega)) nm_first_row rfl T.m_first_row T.F_first_row.kp T.b_first_row (za_cons (z_var (i := 0) nm_part rfl (Or.inl rfl)) (za_cons (z_var (i := 3) nm_second rfl (Or.inl rfl)) za_nil rfl) rfl) rfl rfl) za_nil rfl))) (z_var (i := 4) nm_inner rfl (Or.inl rfl)))) (z_call G_rows_between (hr.mono (by omega)) nm_rows_between rfl T.m_rows_between T.F_rows_between.kp T.b_rows_between (za_cons (z_var (i := 0) nm_part rfl (Or.inl rfl)) (za_cons (z_var (i := 2) nm_behind rfl (Or.inl rfl)) za_nil rfl) rfl) rfl rfl))) (z_var (i := 5) nm_outer rfl (Or.inl rfl))))))))))⟩
theorem ok_rows_of (T : Txt K mg t) (G_list_rows : FnOk P w K mg base CX0 (42) t.a_list_rows t.d_list_rows ["parts", "first"] (spE (ckOf K t) 2 (p_list_rows 20))) : FnOk P w K mg base CX0 (42 + 1) t.a_rows_of t.d_rows_of ["deed"] (spE (ckOf K t) 1 p_rows_of) := by
  have fa := T.fa
  exact zfn T.F_rows_of sc_rows_of fun cdv Ar outer sh H E hr => (zss_one (zs_ret (z_fz (z_opO op_cat o_cat (z_call G_list_rows (hr.mono (by omega)) nm_list_rows rfl T.m_list_rows T.F_list_rows.kp T.b_list_rows (za_cons (z_var (i := 0) nm_deed rfl (Or.inl rfl)) (za_cons z_int za_nil rfl) rfl) rfl rfl) (z_fz (z_lst (za_cons (z_tup (za_cons z_str za_nil rfl)) za_nil rfl)))))))
theorem ok__law_mixed (T : Txt K mg t)  : FnOk P w K mg base CX0 (0 + 1) t.a__law_mixed t.d__law_mixed ["_law_cell"] (spE (ckOf K t) 1 p__law_mixed) := by
  have fa := T.fa
  exact zfn T.F__law_mixed sc__law_mixed fun cdv Ar outer sh H E hr => (zss_one (zs_ret (z_op op_mod o_mod (z_op op_mul o_mul (z_var (i := 0) nm__law_cell rfl (Or.inl rfl)) z_int) z_int)))
theorem ok__law_wide (T : Txt K mg t)  : FnOk P w K mg base CX0 (0 + 1) t.a__law_wide t.d__law_wide ["_law_cell"] (spE (ckOf K t) 1 p__law_wide) := by
  have fa := T.fa
  exact zfn T.F__law_wide sc__law_wide fun cdv Ar outer sh H E hr => (zss_one (zs_ret (z_op op_mod o_mod (z_op op_mul o_mul (z_var (i := 0) nm__law_cell rfl (Or.inl rfl)) z_int) (z_op op_pow o_pow z_int z_int))))
theorem ok__law_names (T : Txt K mg t) (G__law_mixed : FnOk P w K mg base CX0 (1) t.a__law_mixed t.d__law_mixed ["_law_cell"] (spE (ckOf K t) 1 p__law_mixed)) : FnOk P w K mg base CX0 (1 + 1) t.a__law_names t.d__law_names ["_law_cell"] (spE (ckOf K t) 1 p__law_names) := by
  have fa := T.fa
  exact zfn T.F__law_names sc__law_names fun cdv Ar outer sh H E hr => (zss_cons (zs_set (i := 1) sc__law_names.nd rfl (Or.inl rfl) z_str rfl (Or.inl rfl)) (zss_cons (zs_set (i := 2) sc__law_names.nd rfl (Or.inl rfl) (z_call G__law_mixed (hr.mono (by omega)) nm__law_mixed rfl T.m__law_mixed T.F__law_mixed.kp T.b__law_mixed (za_cons (z_var (i := 0) nm__law_cell rfl (Or.inl rfl)) za_nil rfl) rfl rfl) rfl (Or.inl rfl)) (zss_cons (zs_set (i := 3) sc__law_names.nd rfl (Or.inl rfl) (z_op op_add o_add z_int (z_op op_mod o_mod (z_var (i := 2) nm__law_mixed_here rfl (Or.inl rfl)) z_int)) rfl (Or.inl rfl)) (zss_cons (zs_set (i := 4) sc__law_names.nd rfl (Or.inl rfl) (z_op op_mod o_mod (z_op op_fdiv o_div (z_var (i := 2) nm__law_mixed_here rfl (Or.inl rfl)) z_int) (z_var (i := 3) nm__law_size rfl (Or.inl rfl))) rfl (Or.inl rfl)) (zss_cons (zs_setO (i := 5) sc__law_names.nd rfl (Or.inl rfl) (z_lst za_nil) rfl (Or.inl rfl)) (zss_cons (zs_for PassesOwn.never rfl (zi_rng1 rfl T.z_range (za_cons z_int za_nil rfl) rfl) (zg_name (i := 6) sc__law_names.nd rfl (Or.inl rfl) (Or.inl rfl)) (zss_cons (zs_set (i := 7) sc__law_names.nd rfl (Or.inl rfl) z_str rfl (Or.inl rfl)) (zss_cons (zs_for PassesOwn.never rfl (zi_rng1 rfl T.z_range (za_cons (z_var (i := 3) nm__law_size rfl (Or.inl rfl)) za_nil rfl) rfl) (zg_name (i := 8) sc__law_names.nd rfl (Or.inl rfl) (Or.inl rfl)) (zss_cons (zs_set (i := 9) sc__law_names.nd rfl (Or.inl rfl) (z_op op_add o_add (z_op op_fdiv o_div (z_op op_fdiv o_div (z_var (i := 2) nm__law_mixed_here rfl (Or.inl rfl)) z_int) (z_op op_add o_add (z_op op_mul o_mul (z_var (i := 8) nm__law_k rfl (Or.inl rfl)) (z_var (i := 8) nm__law_k rfl (Or.inl rfl))) z_int)) (z_var (i := 8) nm__law_k rfl (Or.inl rfl))) rfl (Or.inl rfl)) (zss_cons (zs_if (zt_cmp op_eq o_eq (z_var (i := 8) nm__law_k rfl (Or.inl rfl)) (z_var (i := 4) nm__law_at rfl (Or.inl rfl)) (nomark _)) (zss_one (zs_set (i := 9) sc__law_names.nd rfl (Or.inl rfl) (z_op op_add o_add (z_var (i := 9) nm__law_sign rfl (Or.inl rfl)) (z_var (i := 6) nm__law_turn rfl (Or.inl rfl))) rfl (Or.inl rfl))) zss_nil) (zss_one (zs_set (i := 7) sc__law_names.nd rfl (Or.inl rfl) (z_op op_add_str o_addS (z_var (i := 7) nm__law_name rfl (Or.inl rfl)) (z_ix ix_str o_ixS (z_var (i := 1) nm__law_letters rfl (Or.inl rfl)) (z_op op_mod o_mod (z_var (i := 9) nm__law_sign rfl (Or.inl rfl)) z_int) (fun _ _ => rfl))) rfl (Or.inl rfl))))) (fun _ => rfl)) (zss_one (zs_app (pe_var (i := 5) rfl (Or.inl rfl) nm__law_names_here.d nm__law_names_here.c) (z_var (i := 7) nm__law_name rfl (Or.inl rfl)) rfl rfl rfl rfl rfl rfl)))) (fun _ => rfl)) (zss_frz 5 (zss_one (zs_ret (z_var (i := 5) nm__law_names_here rfl (Or.inl rfl)))))))))))
theorem ok__law_plain (T : Txt K mg t) (G__law_wide : FnOk P w K mg base CX0 (1) t.a__law_wide t.d__law_wide ["_law_cell"] (spE (ckOf K t) 1 p__law_wide)) : FnOk P w K mg base CX0 (1 + 1) t.a__law_plain t.d__law_plain ["_law_mixed_here", "_law_cell"] (spE (ckOf K t) 2 p__law_plain) := by
  have fa := T.fa
  exact zfn T.F__law_plain sc__law_plain fun cdv Ar outer sh H E hr => (zss_cons (zs_set (i := 2) sc__law_plain.nd rfl (Or.inl rfl) (z_sl sl_str o_slS z_str zp_no (zp_some (z_ix ix_list o_ixL (z_fz (z_lst (za_cons z_int (za_cons z_int (za_cons z_int za_nil rfl) rfl) rfl))) (z_op op_mod o_mod (z_var (i := 0) nm__law_mixed_here rfl (Or.inl rfl)) z_int) (fun _ _ => rfl)))) rfl (Or.inl rfl)) (zss_cons (zs_set (i := 3) sc__law_plain.nd rfl (Or.inl rfl) (z_cb call_len_str b_lenS nm_len rfl T.z_len bt_len (za_cons (z_var (i := 2) nm__law_letters rfl (Or.inl rfl)) za_nil rfl) rfl rfl) rfl (Or.inl rfl)) (zss_cons (zs_set (i := 4) sc__law_plain.nd rfl (Or.inl rfl) (z_op op_fdiv o_div (z_var (i := 0) nm__law_mixed_here rfl (Or.inl rfl)) z_int) rfl (Or.inl rfl)) (zss_cons (zs_set (i := 5) sc__law_plain.nd rfl (Or.inl rfl) (z_ix ix_str o_ixS (z_var (i := 2) nm__law_letters rfl (Or.inl rfl)) (z_op op_mod o_mod (z_var (i := 4) nm__law_rest rfl (Or.inl rfl)) (z_var (i := 3) nm__law_many rfl (Or.inl rfl))) (fun _ _ => rfl)) rfl (Or.inl rfl)) (zss_cons (zs_set (i := 6) sc__law_plain.nd rfl (Or.inl rfl) (z_ix ix_str o_ixS (z_var (i := 2) nm__law_letters rfl (Or.inl rfl)) (z_op op_mod o_mod (z_op op_fdiv o_div (z_var (i := 4) nm__law_rest rfl (Or.inl rfl)) (z_var (i := 3) nm__law_many rfl (Or.inl rfl))) (z_var (i := 3) nm__law_many rfl (Or.inl rfl))) (fun _ _ => rfl)) rfl (Or.inl rfl)) (zss_cons (zs_set (i := 7) sc__law_plain.nd rfl (Or.inl rfl) (z_ix ix_str o_ixS (z_var (i := 2) nm__law_letters rfl (Or.inl rfl)) (z_op op_mod o_mod (z_op op_fdiv o_div (z_op op_fdiv o_div (z_var (i := 4) nm__law_rest rfl (Or.inl rfl)) (z_var (i := 3) nm__law_many rfl (Or.inl rfl))) (z_var (i := 3) nm__law_many rfl (Or.inl rfl))) (z_var (i := 3) nm__law_many rfl (Or.inl rfl))) (fun _ _ => rfl)) rfl (Or.inl rfl)) (zss_cons (zs_set (i := 8) sc__law_plain.nd rfl (Or.inl rfl) (z_op op_mod o_mod (z_op op_fdiv o_div (z_var (i := 0) nm__law_mixed_here rfl (Or.inl rfl)) z_int) z_int) rfl (Or.inl rfl)) (zss_cons (zs_if (zt_cmp op_eq o_eq (z_var (i := 8) nm__law_way rfl (Or.inl rfl)) z_int (nomark _)) (zss_one (zs_ret (z_fz (z_lst (za_cons (z_tup (za_cons z_str (za_cons (z_var (i := 5) nm__law_one rfl (Or.inl rfl)) (za_cons (z_call G__law_wide (hr.mono (by omega)) nm__law_wide rfl T.m__law_wide T.F__law_wide.kp T.b__law_wide (za_cons (z_var (i := 1) nm__law_cell rfl (Or.inl rfl)) za_nil rfl) rfl rfl) za_nil rfl) rfl) rfl)) za_nil rfl))))) zss_nil) (zss_cons (zs_if (zt_cmp op_lt o_lt (z_var (i := 8) nm__law_way rfl (Or.inl rfl)) z_int (nomark _)) (zss_one (zs_ret (z_fz (z_lst (za_cons (z_tup (za_cons z_str (za_cons (z_var (i := 5) nm__law_one rfl (Or.inl rfl)) (za_cons (z_op op_mod o_mod (z_op op_fdiv o_div (z_var (i := 4) nm__law_rest rfl (Or.inl rfl)) z_int) z_int) za_nil rfl) rfl) rfl)) za_nil rfl))))) zss_nil) (zss_cons (zs_if (zt_cmp op_lt o_lt (z_var (i := 8) nm__law_way rfl (Or.inl rfl)) z_int (nomark _)) (zss_cons (zs_set (i := 9) sc__law_plain.nd rfl (Or.inl rfl) (z_ix ix_list o_ixL (z_fz (z_lst (za_cons z_str (za_cons z_str (za_cons z_str (za_cons z_str (za_cons z_str za_nil rfl) rfl) rfl) rfl) rfl))) (z_op op_mod o_mod (z_op op_fdiv o_div (z_var (i := 4) nm__law_rest rfl (Or.inl rfl)) z_int) z_int) (fun _ _ => rfl)) rfl (Or.inl rfl)) (zss_one (zs_ret (z_fz (z_lst (za_cons (z_tup (za_cons z_str (za_cons (z_var (i := 9) nm__law_word rfl (Or.inl rfl)) (za_cons (z_var (i := 5) nm__law_one rfl (Or.inl rfl)) (za_cons (z_var (i := 6) nm__law_other rfl (Or.inl rfl)) (za_cons (z_var (i := 7) nm__law_third rfl (Or.inl rfl)) za_nil rfl) rfl) rfl) rfl) rfl)) za_nil rfl)))))) zss_nil) (zss_cons (zs_if (zt_cmp op_lt o_lt (z_var (i := 8) nm__law_way rfl (Or.inl rfl)) z_int (nomark _)) (zss_one (zs_ret (z_fz (z_lst (za_cons (z_tup (za_cons z_str (za_cons (z_var (i := 5) nm__law_one rfl (Or.inl rfl)) (za_cons (z_var (i := 6) nm__law_other rfl (Or.inl rfl)) za_nil rfl) rfl) rfl)) za_nil rfl))))) zss_nil) (zss_cons (zs_if (zt_cmp op_lt o_lt (z_var (i := 8) nm__law_way rfl (Or.inl rfl)) z_int (nomark _)) (zss_one (zs_ret (z_fz (z_lst (za_cons (z_tup (za_cons z_str (za_cons (z_var (i := 5) nm__law_one rfl (Or.inl rfl)) (za_cons (z_var (i := 6) nm__law_other rfl (Or.inl rfl)) za_nil rfl) rfl) rfl)) za_nil rfl))))) zss_nil) (zss_cons (zs_set (i := 9) sc__law_plain.nd rfl (Or.inl rfl) (z_ix ix_list o_ixL (z_fz (z_lst (za_cons z_str (za_cons z_str (za_cons z_str za_nil rfl) rfl) rfl))) (z_op op_mod o_mod (z_op op_fdiv o_div (z_var (i := 4) nm__law_rest rfl (Or.inl rfl)) z_int) z_int) (fun _ _ => rfl)) rfl (Or.inl rfl)) (zss_cons (zs_set (i := 10) sc__law_plain.nd rfl (Or.inl rfl) (z_fz (z_lst (za_cons (z_tup (za_cons z_str (za_cons (z_var (i := 5) nm__law_one rfl (Or.inl rfl)) (za_cons (z_op op_mod o_mod (z_op op_fdiv o_div (z_var (i := 4) nm__law_rest rfl (Or.inl rfl)) z_int) z_int) za_nil rfl) rfl) rfl)) (za_cons (z_tup (za_cons z_str (za_cons (z_var (i := 6) nm__law_other rfl (Or.inl rfl)) (za_cons (z_var (i := 5) nm__law_one rfl (Or.inl rfl)) za_nil rfl) rfl) rfl)) za_nil rfl) rfl))) rfl (Or.inl rfl)) (zss_one (zs_ret (z_fz (z_opO op_cat o_cat (z_var (i := 10) nm__law_tree_here rfl (Or.inl rfl)) (z_fz (z_lst (za_cons (z_tup (za_cons z_str (za_cons (z_var (i := 9) nm__law_word rfl (Or.inl rfl)) (za_cons (z_var (i := 6) nm__law_other rfl (Or.inl rfl)) (za_cons (z_var (i := 6) nm__law_other rfl (Or.inl rfl)) (za_cons (z_var (i := 7) nm__law_third rfl (Or.inl rfl)) za_nil rfl) rfl) rfl) rfl) rfl)) (za_cons (z_tup (za_cons z_str (za_cons (z_var (i := 5) nm__law_one rfl (Or.inl rfl)) (za_cons (z_var (i := 6) nm__law_other rfl (Or.inl rfl)) za_nil rfl) rfl) rfl)) za_nil rfl) rfl)))))))))))))))))))))
theorem ok__law_sided (T : Txt K mg t)  : FnOk P w K mg base CX0 (0 + 1) t.a__law_sided t.d__law_sided ["_law_mixed_here", "_law_one", "_law_other", "_law_names_here"] (spE (ckOf K t) 4 p__law_sided) := by
  have fa := T.fa
  exact zfn T.F__law_sided sc__law_sided fun cdv Ar outer sh H E hr => (zss_cons (zs_set (i := 4) sc__law_sided.nd rfl (Or.inl rfl) z_str rfl (Or.inl rfl)) (zss_cons (zs_set (i := 5) sc__law_sided.nd rfl (Or.inl rfl) (z_ix ix_str o_ixS (z_var (i := 4) nm__law_letters rfl (Or.inl rfl)) (z_op op_mod o_mod (z_op op_fdiv o_div (z_var (i := 0) nm__law_mixed_here rfl (Or.inl rfl)) z_int) z_int) (fun _ _ => rfl)) rfl (Or.inl rfl)) (zss_cons (zs_set (i := 6) sc__law_sided.nd rfl (Or.inl rfl) (z_op op_mod o_mod (z_var (i := 0) nm__law_mixed_here rfl (Or.inl rfl)) z_int) rfl (Or.inl rfl)) (zss_cons (zs_if (zt_cmp op_eq o_eq (z_var (i := 6) nm__law_way rfl (Or.inl rfl)) z_int (nomark _)) (zss_one (zs_ret (z_tup (za_cons z_str (za_cons (z_var (i := 5) nm__law_slot rfl (Or.inl rfl)) (za_cons (z_var (i := 1) nm__law_one rfl (Or.inl rfl)) (za_cons (z_var (i := 2) nm__law_other rfl (Or.inl rfl)) za_nil rfl) rfl) rfl) rfl)))) zss_nil) (zss_cons (zs_set (i := 7) sc__law_sided.nd rfl (Or.inl rfl) (z_tup (za_cons z_str za_nil rfl)) rfl (Or.inl rfl)) (zss_cons (zs_if (zt_cmp op_eq o_eq (z_var (i := 6) nm__law_way rfl (Or.inl rfl)) z_int (nomark _)) (zss_one (zs_set (i := 7) sc__law_sided.nd rfl (Or.inl rfl) (z_tup (za_cons z_str (za_cons (z_ix ix_list o_ixL (z_var (i := 3) nm__law_names_here rfl (Or.inl rfl)) (z_op op_mod o_mod (z_op op_fdiv o_div (z_var (i := 0) nm__law_mixed_here rfl (Or.inl rfl)) z_int) z_int) (fun _ _ => rfl)) (za_cons (z_var (i := 5) nm__law_slot rfl (Or.inl rfl)) za_nil rfl) rfl) rfl)) rfl (Or.inl rfl))) zss_nil) (zss_cons (zs_if (zt_cmp op_eq o_eq (z_op op_mod o_mod (z_op op_fdiv o_div (z_var (i := 0) nm__law_mixed_here rfl (Or.inl rfl)) z_int) z_int) z_int (nomark _)) (zss_one (zs_set (i := 1) sc__law_sided.nd rfl (Or.inl rfl) (z_fz (z_opO op_cat o_cat (z_var (i := 1) nm__law_one rfl (Or.inl rfl)) (z_fz (z_lst (za_cons (z_var (i := 7) nm__law_stop rfl (Or.inl rfl)) za_nil rfl))))) rfl (Or.inl rfl))) zss_nil) (zss_cons (zs_if (zt_cmp op_eq o_eq (z_op op_mod o_mod (z_op op_fdiv o_div (z_var (i := 0) nm__law_mixed_here rfl (Or.inl rfl)) z_int) z_int) z_int (nomark _)) (zss_one (zs_set (i := 1) sc__law_sided.nd rfl (Or.inl rfl) (z_fz (z_opO op_cat o_cat (z_var (i := 1) nm__law_one rfl (Or.inl rfl)) (z_fz (z_lst (za_cons (z_tup (za_cons z_str (za_cons (z_var (i := 5) nm__law_slot rfl (Or.inl rfl)) (za_cons (z_fz (z_lst (za_cons (z_var (i := 7) nm__law_stop rfl (Or.inl rfl)) za_nil rfl))) (za_cons (z_fz (z_lst za_nil)) za_nil rfl) rfl) rfl) rfl)) za_nil rfl))))) rfl (Or.inl rfl))) zss_nil) (zss_cons (zs_if (zt_cmp op_eq o_eq (z_var (i := 6) nm__law_way rfl (Or.inl rfl)) z_int (nomark _)) (zss_one (zs_ret (z_tup (za_cons z_str (za_cons (z_var (i := 1) nm__law_one rfl (Or.inl rfl)) (za_cons (z_var (i := 2) nm__law_other rfl (Or.inl rfl)) za_nil rfl) rfl) rfl)))) zss_nil) (zss_one (zs_ret (z_tup (za_cons z_str (za_cons (z_var (i := 1) nm__law_one rfl (Or.inl rfl)) (za_cons (z_ix ix_list o_ixL (z_var (i := 3) nm__law_names_here rfl (Or.inl rfl)) (z_op op_mod o_mod (z_op op_fdiv o_div (z_var (i := 0) nm__law_mixed_here rfl (Or.inl rfl)) z_int) z_int) (fun _ _ => rfl)) (za_cons (z_ix ix_str o_ixS (z_var (i := 4) nm__law_letters rfl (Or.inl rfl)) (z_op op_mod o_mod (z_op op_fdiv o_div (z_var (i := 0) nm__law_mixed_here rfl (Or.inl rfl)) z_int) z_int) (fun _ _ => rfl)) (za_cons (z_var (i := 2) nm__law_other rfl (Or.inl rfl)) za_nil rfl) rfl) rfl) rfl) rfl)))))))))))))
structure Grp2 (P : Program) (w : World) (K : PySem.W.Frag) (mg : Str → Option Value) (base : Heap) (t : Ads) (n : Nat) : Prop where
  f__law_tree : FnOk P w K mg base CX0 (n + 3) t.a__law_tree t.d__law_tree ["_law_cells", "_law_depth", "_law_names_here"] (spE (ckOf K t) 3 (p__law_tree n))
theorem grp2_ok (T : Txt K mg t) (G__law_mixed : FnOk P w K mg base CX0 (1) t.a__law_mixed t.d__law_mixed ["_law_cell"] (spE (ckOf K t) 1 p__law_mixed)) (G__law_plain : FnOk P w K mg base CX0 (2) t.a__law_plain t.d__law_plain ["_law_mixed_here", "_law_cell"] (spE (ckOf K t) 2 p__law_plain)) (G__law_sided : FnOk P w K mg base CX0 (1) t.a__law_sided t.d__law_sided ["_law_mixed_here", "_law_one", "_law_other", "_law_names_here"] (spE (ckOf K t) 4 p__law_sided))  : ∀ n, Grp2 P w K mg base t n
  | 0 => ⟨none_ok⟩
  | n + 1 => by
    have fa := T.fa
    have I := grp2_ok T G__law_mixed G__law_plain G__law_sided n
    have G__law_tree := I.f__law_tree
    exact ⟨zfn T.F__law_tree sc__law_tree fun cdv Ar outer sh H E hr => (zss_cons (zs_setO (i := 3) sc__law_tree.nd rfl (Or.inl rfl) (z_lst za_nil) rfl (Or.inl rfl)) (zss_cons (zs_set (i := 4) sc__law_tree.nd rfl (Or.inl rfl) z_int rfl (Or.inl rfl)) (zss_cons (zs_while 1000 PassesOwn.never (zt_cmp op_lt o_lt (z_var (i := 4) nm__law_at rfl (Or.inl rfl)) (z_cb call_len_seq b_lenL nm_len rfl T.z_len bt_len (za_cons (z_var (i := 0) nm__law_cells rfl (Or.inl rfl)) za_nil rfl) rfl rfl) (nomark _)) (zss_cons (zs_set (i := 5) sc__law_tree.nd rfl (Or.inl rfl) (z_ix ix_list o_ixL (z_var (i := 0) nm__law_cells rfl (Or.inl rfl)) (z_var (i := 4) nm__law_at rfl (Or.inl rfl)) (fun _ _ => rfl)) rfl (Or.inl rfl)) (zss_cons (zs_set (i := 6) sc__law_tree.nd rfl (Or.inl rfl) (z_call G__law_mixed (hr.mono (by omega)) nm__law_mixed rfl T.m__law_mixed T.F__law_mixed.kp T.b__law_mixed (za_cons (z_var (i := 5) nm__law_cell rfl (Or.inl rfl)) za_nil rfl) rfl rfl) rfl (Or.inl rfl)) (zss_cons (zs_set (i := 4) sc__law_tree.nd rfl (Or.inl rfl) (z_op op_add o_add (z_var (i := 4) nm__law_at rfl (Or.inl rfl)) z_int) rfl (Or.inl rfl)) (zss_one (zs_if (zt_w (zw_or (zt_cmp op_eq o_eq (z_var (i := 1) nm__law_depth rfl (Or.inl rfl)) z_int (nomark _)) (zw_or1 (zt_cmp op_lt o_lt (z_op op_mod o_mod (z_var (i := 6) nm__law_mixed_here rfl (Or.inl rfl)) z_int) z_int (nomark _))))) (zss_frz 3 (zss_one (zs_setO (i := 3) sc__law_tree.nd rfl (Or.inl rfl) (z_opO op_cat o_cat (z_var (i := 3) nm__law_tree_here rfl (Or.inl rfl)) (z_call G__law_plain (hr.mono (by omega)) nm__law_plain rfl T.m__law_plain T.F__law_plain.kp T.b__law_plain (za_cons (z_op op_fdiv o_div (z_var (i := 6) nm__law_mixed_here rfl (Or.inl rfl)) z_int) (za_cons (z_var (i := 5) nm__law_cell rfl (Or.inl rfl)) za_nil rfl) rfl) rfl rfl)) rfl (Or.inl rfl)))) (zss_one (zs_if (zt_cmp op_eq o_eq (z_op op_mod o_mod (z_var (i := 6) nm__law_mixed_here rfl (Or.inl rfl)) z_int) z_int (nomark _)) (zss_cons (zs_set (i := 7) sc__law_tree.nd rfl (Or.inl rfl) (z_fz (z_lst (za_cons (z_tup (za_cons z_str za_nil rfl)) (za_cons (z_tup (za_cons z_str (za_cons (z_ix ix_list o_ixL (z_var (i := 2) nm__law_names_here rfl (Or.inl rfl)) (z_op op_mod o_mod (z_op op_fdiv o_div (z_var (i := 6) nm__law_mixed_here rfl (Or.inl rfl)) z_int) z_int) (fun _ _ => rfl)) (za_cons (z_ix ix_str o_ixS z_str (z_op op_mod o_mod (z_op op_fdiv o_div (z_var (i := 6) nm__law_mixed_here rfl (Or.inl rfl)) z_int) z_int) (fun _ _ => rfl)) za_nil rfl) rfl) rfl)) za_nil rfl) rfl))) rfl (Or.inl rfl)) (zss_one (zs_app (pe_var (i := 3) rfl (Or.inl rfl) nm__law_tree_here.d nm__law_tree_here.c) (z_ix ix_list o_ixL (z_var (i := 7) nm__law_stops rfl (Or.inl rfl)) (z_op op_fdiv o_div (z_op op_mod o_mod (z_op op_fdiv o_div (z_var (i := 6) nm__law_mixed_here rfl (Or.inl rfl)) z_int) z_int) z_int) (fun _ _ => rfl)) rfl rfl rfl rfl rfl rfl))) (zss_cons (zs_set (i := 8) sc__law_tree.nd rfl (Or.inl rfl) (z_op op_mod o_mod (z_op op_fdiv o_div (z_var (i := 6) nm__law_mixed_here rfl (Or.inl rfl)) z_int) z_int) rfl (Or.inl rfl)) (zss_cons (zs_set (i := 9) sc__law_tree.nd rfl (Or.inl rfl) (z_op op_mod o_mod (z_op op_fdiv o_div (z_var (i := 6) nm__law_mixed_here rfl (Or.inl rfl)) z_int) z_int) rfl (Or.inl rfl)) (zss_cons (zs_set (i := 10) sc__law_tree.nd rfl (Or.inl rfl) (z_call G__law_tree (hr.mono (by omega)) nm__law_tree rfl T.m__law_tree T.F__law_tree.kp T.b__law_tree (za_cons (z_fz (z_slO sl_list o_slL (z_var (i := 0) nm__law_cells rfl (Or.inl rfl)) (zp_some (z_var (i := 4) nm__law_at rfl (Or.inl rfl))) (zp_some (z_op op_add o_add (z_var (i := 4) nm__law_at rfl (Or.inl rfl)) (z_var (i := 8) nm__law_many rfl (Or.inl rfl)))))) (za_cons (z_op op_sub o_sub (z_var (i := 1) nm__law_depth rfl (Or.inl rfl)) z_int) (za_cons (z_var (i := 2) nm__law_names_here rfl (Or.inl rfl)) za_nil rfl) rfl) rfl) rfl rfl) rfl (Or.inl rfl)) (zss_cons (zs_set (i := 11) sc__law_tree.nd rfl (Or.inl rfl) (z_call G__law_tree (hr.mono (by omega)) nm__law_tree rfl T.m__law_tree T.F__law_tree.kp T.b__law_tree (za_cons (z_fz (z_slO sl_list o_slL (z_var (i := 0) nm__law_cells rfl (Or.inl rfl)) (zp_some (z_op op_add o_add (z_var (i := 4) nm__law_at rfl (Or.inl rfl)) (z_var (i := 8) nm__law_many rfl (Or.inl rfl)))) (zp_some (z_op op_add o_add (z_op op_add o_add (z_var (i := 4) nm__law_at rfl (Or.inl rfl)) (z_var (i := 8) nm__law_many rfl (Or.inl rfl))) (z_var (i := 9) nm__law_more rfl (Or.inl rfl)))))) (za_cons (z_op op_sub o_sub (z_var (i := 1) nm__law_depth rfl (Or.inl rfl)) z_int) (za_cons (z_var (i := 2) nm__law_names_here rfl (Or.inl rfl)) za_nil rfl) rfl) rfl) rfl rfl) rfl (Or.inl rfl)) (zss_cons (zs_set (i := 4) sc__law_tree.nd rfl (Or.inl rfl) (z_op op_add o_add (z_op op_add o_add (z_var (i := 4) nm__law_at rfl (Or.inl rfl)) (z_var (i := 8) nm__law_many rfl (Or.inl rfl))) (z_var (i := 9) nm__law_more rfl (Or.inl rfl))) rfl (Or.inl rfl)) (zss_one (zs_app (pe_var (i := 3) rfl (Or.inl rfl) nm__law_tree_here.d nm__law_tree_here.c) (z_call G__law_sided (hr.mono (by omega)) nm__law_sided rfl T.m__law_sided T.F__law_sided.kp T.b__law_sided (za_cons (z_op op_fdiv o_div (z_var (i := 6) nm__law_mixed_here rfl (Or.inl rfl)) z_int) (za_cons (z_var (i := 10) nm__law_one rfl (Or.inl rfl)) (za_cons (z_var (i := 11) nm__law_other rfl (Or.inl rfl)) (za_cons (z_var (i := 2) nm__law_names_here rfl (Or.inl rfl)) za_nil rfl) rfl) rfl) rfl) rfl rfl) rfl rfl rfl rfl rfl rfl))))))))))))))) (zss_frz 3 (zss_one (zs_ret (z_var (i := 3) nm__law_tree_here rfl (Or.inl rfl))))))))⟩
structure Grp3 (P : Program) (w : World) (K : PySem.W.Frag) (mg : Str → Option Value) (base : Heap) (t : Ads) (n : Nat) : Prop where
  f__law_made : FnOk P w K mg base CX0 (n + 3) t.a__law_made t.d__law_made ["_law_tree_here"] (spE (ckOf K t) 1 (p__law_made n))
theorem grp3_ok (T : Txt K mg t) (G_Either___init__ : FnOk P w K mg base CX0 (1) t.a_Either___init__ t.d_Either___init__ ["self", "parts", "others"] (spI (ckOf K t) 2 6 p_Either___init__)) (G_If___init__ : FnOk P w K mg base CX0 (1) t.a_If___init__ t.d_If___init__ ["self", "slot", "parts", "others"] (spI (ckOf K t) 3 5 p_If___init__)) (G_Let___init__ : FnOk P w K mg base CX0 (1) t.a_Let___init__ t.d_Let___init__ ["self", "slot", "number"] (spI (ckOf K t) 2 1 p_Let___init__)) (G_Put___init__ : FnOk P w K mg base CX0 (1) t.a_Put___init__ t.d_Put___init__ ["self", "place", "slot"] (spI (ckOf K t) 2 4 p_Put___init__)) (G_Reckon___init__ : FnOk P w K mg base CX0 (1) t.a_Reckon___init__ t.d_Reckon___init__ ["self", "word", "slot", "one", "other"] (spI (ckOf K t) 4 2 p_Reckon___init__)) (G_Take___init__ : FnOk P w K mg base CX0 (1) t.a_Take___init__ t.d_Take___init__ ["self", "slot", "place"] (spI (ckOf K t) 2 3 p_Take___init__)) (G_Throw___init__ : FnOk P w K mg base CX0 (1) t.a_Throw___init__ t.d_Throw___init__ ["self", "name", "slot"] (spI (ckOf K t) 2 8 p_Throw___init__)) (G_Try___init__ : FnOk P w K mg base CX0 (1) t.a_Try___init__ t.d_Try___init__ ["self", "parts", "name", "slot", "others"] (spI (ckOf K t) 4 7 p_Try___init__))  : ∀ n, Grp3 P w K mg base t n
  | 0 => ⟨none_ok⟩
  | n + 1 => by
    have fa := T.fa
    have I := grp3_ok T G_Either___init__ G_If___init__ G_Let___init__ G_Put___init__ G_Reckon___init__ G_Take___init__ G_Throw___init__ G_Try___init__ n
    have G__law_made := I.f__law_made
    exact ⟨zfn T.F__law_made sc__law_made fun cdv Ar outer sh H E hr => (zss_cons (zs_setO (i := 1) sc__law_made.nd rfl (Or.inl rfl) (z_lst za_nil) rfl (Or.inl rfl)) (zss_cons (zs_for PassesOwn.never rfl (zi_list (z_var (i := 0) nm__law_tree_here rfl (Or.inl rfl))) (zg_name (i := 2) sc__law_made.nd rfl (Or.inl rfl) (Or.inl rfl)) (zss_one (zs_if (zt_cmp op_eq o_eq (z_ix ix_tup o_ixT (z_var (i := 2) nm__law_part rfl (Or.inl rfl)) z_int (fun _ _ => rfl)) z_str (nomark _)) (zss_one (zs_app (pe_var (i := 1) rfl (Or.inl rfl) nm__law_made_here.d nm__law_made_here.c) (z_fz (z_make T.mk_Let G_Let___init__ (hr.mono (by omega)) nm_Let rfl T.m_Let T.b_Let___init__ (za_cons (z_ix ix_tup o_ixT (z_var (i := 2) nm__law_part rfl (Or.inl rfl)) z_int (fun _ _ => rfl)) (za_cons (z_ix ix_tup o_ixT (z_var (i := 2) nm__law_part rfl (Or.inl rfl)) z_int (fun _ _ => rfl)) za_nil rfl) rfl) rfl rfl)) rfl rfl rfl rfl rfl rfl)) (zss_one (zs_if (zt_cmp op_eq o_eq (z_ix ix_tup o_ixT (z_var (i := 2) nm__law_part rfl (Or.inl rfl)) z_int (fun _ _ => rfl)) z_str (nomark _)) (zss_one (zs_app (pe_var (i := 1) rfl (Or.inl rfl) nm__law_made_here.d nm__law_made_here.c) (z_fz (z_make T.mk_Reckon G_Reckon___init__ (hr.mono (by omega)) nm_Reckon rfl T.m_Reckon T.b_Reckon___init__ (za_cons (z_ix ix_tup o_ixT (z_var (i := 2) nm__law_part rfl (Or.inl rfl)) z_int (fun _ _ => rfl)) (za_cons (z_ix ix_tup o_ixT (z_var (i := 2) nm__law_part rfl (Or.inl rfl)) z_int (fun _ _ => rfl)) (za_cons (z_ix ix_tup o_ixT (z_var (i := 2) nm__law_part rfl (Or.inl rfl)) z_int (fun _ _ => rfl)) (za_cons (z_ix ix_tup o_ixT (z_var (i := 2) nm__law_part rfl (Or.inl rfl)) z_int (fun _ _ => rfl)) za_nil rfl) rfl) rfl) rfl) rfl rfl)) rfl rfl rfl rfl rfl rfl)) (zss_one (zs_if (zt_cmp op_eq o_eq (z_ix ix_tup o_ixT (z_var (i := 2) nm__law_part rfl (Or.inl rfl)) z_int (fun _ _ => rfl)) z_str (nomark _)) (zss_one (zs_app (pe_var (i := 1) rfl (Or.inl rfl) nm__law_made_here.d nm__law_made_here.c) (z_fz (z_make T.mk_Take G_Take___init__ (hr.mono (by omega)) nm_Take rfl T.m_Take T.b_Take___init__ (za_cons (z_ix ix_tup o_ixT (z_var (i := 2) nm__law_part rfl (Or.inl rfl)) z_int (fun _ _ => rfl)) (za_cons (z_ix ix_tup o_ixT (z_var (i := 2) nm__law_part rfl (Or.inl rfl)) z_int (fun _ _ => rfl)) za_nil rfl) rfl) rfl rfl)) rfl rfl rfl rfl rfl rfl)) (zss_one (zs_if (zt_cmp op_eq o_eq (z_ix ix_tup o_ixT (z_var (i := 2) nm__law_part rfl (Or.inl rfl)) z_int (fun _ _ => rfl)) z_str (nomark _)) (zss_one (zs_app (pe_var (i := 1) rfl (Or.inl rfl) nm__law_made_here.d nm__law_made_here.c) (z_fz (z_make T.mk_Put G_Put___init__ (hr.mono (by omega)) nm_Put rfl T.m_Put T.b_Put___init__ (za_cons (z_ix ix_tup o_ixT (z_var (i := 2) nm__law_part rfl (Or.inl rfl)) z_int (fun _ _ => rfl)) (za_cons (z_ix ix_tup o_ixT (z_var (i := 2) nm__law_part rfl (Or.inl rfl)) z_int (fun _ _ => rfl)) za_nil rfl) rfl) rfl rfl)) rfl rfl rfl rfl rfl rfl)) (zss_one (zs_if (zt_cmp op_eq o_eq (z_ix ix_tup o_ixT (z_var (i := 2) nm__law_part rfl (Or.inl rfl)) z_int (fun _ _ => rfl)) z_str (nomark _)) (zss_one (zs_app (pe_var (i := 1) rfl (Or.inl rfl) nm__law_made_here.d nm__law_made_here.c) (z_fz (z_make T.mk_If G_If___init__ (hr.mono (by omega)) nm_If rfl T.m_If T.b_If___init__ (za_cons (z_ix ix_tup o_ixT (z_var (i := 2) nm__law_part rfl (Or.inl rfl)) z_int (fun _ _ => rfl)) (za_cons (z_call G__law_made (hr.mono (by omega)) nm__law_made rfl T.m__law_made T.F__law_made.kp T.b__law_made (za_cons (z_ix ix_tup o_ixT (z_var (i := 2) nm__law_part rfl (Or.inl rfl)) z_int (fun _ _ => rfl)) za_nil rfl) rfl rfl) (za_cons (z_call G__law_made (hr.mono (by omega)) nm__law_made rfl T.m__law_made T.F__law_made.kp T.b__law_made (za_cons (z_ix ix_tup o_ixT (z_var (i := 2) nm__law_part rfl (Or.inl rfl)) z_int (fun _ _ => rfl)) za_nil rfl) rfl rfl) za_nil rfl) rfl) rfl) rfl rfl)) rfl rfl rfl rfl rfl rfl)) (zss_one (zs_if (zt_cmp op_eq o_eq (z_ix ix_tup o_ixT (z_var (i := 2) nm__law_part rfl (Or.inl rfl)) z_int (fun _ _ => rfl)) z_str (nomark _)) (zss_one (zs_app (pe_var (i := 1) rfl (Or.inl rfl) nm__law_made_here.d nm__law_made_here.c) (z_fz (z_make T.mk_Either G_Either___init__ (hr.mono (by omega)) nm_Either rfl T.m_Either T.b_Either___init__ (za_cons (z_call G__law_made (hr.mono (by omega)) nm__law_made rfl T.m__law_made T.F__law_made.kp T.b__law_made (za_cons (z_ix ix_tup o_ixT (z_var (i := 2) nm__law_part rfl (Or.inl rfl)) z_int (fun _ _ => rfl)) za_nil rfl) rfl rfl) (za_cons (z_call G__law_made (hr.mono (by omega)) nm__law_made rfl T.m__law_made T.F__law_made.kp T.b__law_made (za_cons (z_ix ix_tup o_ixT (z_var (i := 2) nm__law_part rfl (Or.inl rfl)) z_int (fun _ _ => rfl)) za_nil rfl) rfl rfl) za_nil rfl) rfl) rfl rfl)) rfl rfl rfl rfl rfl rfl)) (zss_one (zs_if (zt_cmp op_eq o_eq (z_ix ix_tup o_ixT (z_var (i := 2) nm__law_part rfl (Or.inl rfl)) z_int (fun _ _ => rfl)) z_str (nomark _)) (zss_one (zs_app (pe_var (i := 1) rfl (Or.inl rfl) nm__law_made_here.d nm__law_made_here.c) (z_fz (z_make T.mk_Try G_Try___init__ (hr.mono (by omega)) nm_Try rfl T.m_Try T.b_Try___init__ (za_cons (z_call G__law_made (hr.mono (by omega)) nm__law_made rfl T.m__law_made T.F__law_made.kp T.b__law_made (za_cons (z_ix ix_tup o_ixT (z_var (i := 2) nm__law_part rfl (Or.inl rfl)) z_int (fun _ _ => rfl)) za_nil rfl) rfl rfl) (za_cons (z_ix ix_tup o_ixT (z_var (i := 2) nm__law_part rfl (Or.inl rfl)) z_int (fun _ _ => rfl)) (za_cons (z_ix ix_tup o_ixT (z_var (i := 2) nm__law_part rfl (Or.inl rfl)) z_int (fun _ _ => rfl)) (za_cons (z_call G__law_made (hr.mono (by omega)) nm__law_made rfl T.m__law_made T.F__law_made.kp T.b__law_made (za_cons (z_ix ix_tup o_ixT (z_var (i := 2) nm__law_part rfl (Or.inl rfl)) z_int (fun _ _ => rfl)) za_nil rfl) rfl rfl) za_nil rfl) rfl) rfl) rfl) rfl rfl)) rfl rfl rfl rfl rfl rfl)) (zss_one (zs_if (zt_cmp op_eq o_eq (z_ix ix_tup o_ixT (z_var (i := 2) nm__law_part rfl (Or.inl rfl)) z_int (fun _ _ => rfl)) z_str (nomark _)) (zss_one (zs_app (pe_var (i := 1) rfl (Or.inl rfl) nm__law_made_here.d nm__law_made_here.c) (z_fz (z_make T.mk_Throw G_Throw___init__ (hr.mono (by omega)) nm_Throw rfl T.m_Throw T.b_Throw___init__ (za_cons (z_ix ix_tup o_ixT (z_var (i := 2) nm__law_part rfl (Or.inl rfl)) z_int (fun _ _ => rfl)) (za_cons (z_ix ix_tup o_ixT (z_var (i := 2) nm__law_part rfl (Or.inl rfl)) z_int (fun _ _ => rfl)) za_nil rfl) rfl) rfl rfl)) rfl rfl rfl rfl rfl rfl)) (zss_one (zs_app (pe_var (i := 1) rfl (Or.inl rfl) nm__law_made_here.d nm__law_made_here.c) (z_fz (z_makeO T.mk_Wait T.io_Wait T.kp_Wait nm_Wait rfl T.m_Wait)) rfl rfl rfl rfl rfl rfl)))))))))))))))))) (fun _ => rfl)) (zss_frz 1 (zss_one (zs_ret (z_var (i := 1) nm__law_made_here rfl (Or.inl rfl)))))))⟩
theorem ok__law_ahead (T : Txt K mg t)  : FnOk P w K mg base CX0 (0 + 1) t.a__law_ahead t.d__law_ahead ["_law_rows"] (spE (ckOf K t) 1 p__law_ahead) := by
  have fa := T.fa
  exact zfn T.F__law_ahead sc__law_ahead fun cdv Ar outer sh H E hr => (zss_cons (zs_for PassesOwn.never rfl (zi_rng1 rfl T.z_range (za_cons (z_cb call_len_seq b_lenL nm_len rfl T.z_len bt_len (za_cons (z_var (i := 0) nm__law_rows rfl (Or.inl rfl)) za_nil rfl) rfl rfl) za_nil rfl) rfl) (zg_name (i := 1) sc__law_ahead.nd rfl (Or.inl rfl) (Or.inl rfl)) (zss_cons (zs_set (i := 2) sc__law_ahead.nd rfl (Or.inl rfl) (z_ix ix_list o_ixL (z_var (i := 0) nm__law_rows rfl (Or.inl rfl)) (z_var (i := 1) nm__law_k rfl (Or.inl rfl)) (fun _ _ => rfl)) rfl (Or.inl rfl)) (zss_cons (zs_if (zt_w (zw_or (zt_not (zt_val (z_cb call_isinst (b_isi (K := ckX _ _) fa.isa) nm_isinstance rfl T.z_isinstance bt_isinstance (za_cons (z_var (i := 2) nm__law_row rfl (Or.inl rfl)) (za_cons (z_gty nm_tuple rfl T.z_tuple bt_tuple) za_nil rfl) rfl) rfl rfl) (fun _ => rfl))) (zw_or1 (zt_cmp op_eq o_eq (z_cb call_len_seq b_lenL nm_len rfl T.z_len bt_len (za_cons (z_var (i := 2) nm__law_row rfl (Or.inl rfl)) za_nil rfl) rfl rfl) z_int (nomark _))))) (zss_one (zs_ret z_bl)) zss_nil) (zss_one (zs_if (zt_cmp op_in_seq o_inL (z_ix ix_tup o_ixT (z_var (i := 2) nm__law_row rfl (Or.inl rfl)) z_int (fun _ _ => rfl)) (z_tup (za_cons z_str (za_cons z_str (za_cons z_str (za_cons z_str za_nil rfl) rfl) rfl) rfl)) (by with_unfolding_all rfl)) (zss_cons (zs_set (i := 3) sc__law_ahead.nd rfl (Or.inl rfl) (z_ix ix_tup o_ixT (z_var (i := 2) nm__law_row rfl (Or.inl rfl)) (z_un un_neg o_neg z_int) (fun _ _ => rfl)) rfl (Or.inl rfl)) (zss_one (zs_if (zt_w (zw_or (zt_not (zt_val (z_cb call_isinst (b_isi (K := ckX _ _) fa.isa) nm_isinstance rfl T.z_isinstance bt_isinstance (za_cons (z_var (i := 3) nm__law_target rfl (Or.inl rfl)) (za_cons (z_gty nm_int rfl T.z_int bt_int) za_nil rfl) rfl) rfl rfl) (fun _ => rfl))) (zw_or (zt_val (z_cb call_isinst (b_isi (K := ckX _ _) fa.isa) nm_isinstance rfl T.z_isinstance bt_isinstance (za_cons (z_var (i := 3) nm__law_target rfl (Or.inl rfl)) (za_cons (z_gty nm_bool rfl T.z_bool bt_bool) za_nil rfl) rfl) rfl rfl) (fun _ => rfl)) (zw_or1 (zt_not (zt_chain op_lt op_lt o_lt o_lt (z_var (i := 1) nm__law_k rfl (Or.inl rfl)) (z_var (i := 3) nm__law_target rfl (Or.inl rfl)) (z_cb call_len_seq b_lenL nm_len rfl T.z_len bt_len (za_cons (z_var (i := 0) nm__law_rows rfl (Or.inl rfl)) za_nil rfl) rfl rfl) (by with_unfolding_all rfl))))))) (zss_one (zs_ret z_bl)) zss_nil))) zss_nil)))) (fun _ => rfl)) (zss_one (zs_ret (z_cmp (op_eqD (room60 hr)) o_eqD (z_ix ix_list o_ixL (z_var (i := 0) nm__law_rows rfl (Or.inl rfl)) (z_un un_neg o_neg z_int) (fun _ _ => rfl)) (z_tup (za_cons z_str za_nil rfl)) (nomark _)))))
theorem ok__law_one_back (T : Txt K mg t)  : FnOk P w K mg base CX0 (0 + 1) t.a__law_one_back t.d__law_one_back ["_law_row"] (spE (ckOf K t) 1 p__law_one_back) := by
  have fa := T.fa
  exact zfn T.F__law_one_back sc__law_one_back fun cdv Ar outer sh H E hr => (zss_cons (zs_if (zt_w (zw_and (zt_cmp op_in_seq o_inL (z_ix ix_tup o_ixT (z_var (i := 0) nm__law_row rfl (Or.inl rfl)) z_int (fun _ _ => rfl)) (z_tup (za_cons z_str (za_cons z_str (za_cons z_str (za_cons z_str (za_cons z_str za_nil rfl) rfl) rfl) rfl) rfl)) (by with_unfolding_all rfl)) (zw_and1 (zt_cmp op_eq o_eq (z_cb call_len_seq b_lenL nm_len rfl T.z_len bt_len (za_cons (z_var (i := 0) nm__law_row rfl (Or.inl rfl)) za_nil rfl) rfl rfl) z_int (nomark _))))) (zss_one (zs_ret (z_op op_catT o_catT (z_tup (za_cons z_str za_nil rfl)) (z_var (i := 0) nm__law_row rfl (Or.inl rfl))))) zss_nil) (zss_one (zs_ret (z_var (i := 0) nm__law_row rfl (Or.inl rfl)))))
theorem ok__law_joined (T : Txt K mg t)  : FnOk P w K mg base CX0 (0 + 1) t.a__law_joined t.d__law_joined ["_law_row", "_law_one", "_law_other"] (spE (ckOf K t) 3 p__law_joined) := by
  have fa := T.fa
  exact zfn T.F__law_joined sc__law_joined fun cdv Ar outer sh H E hr => (zss_cons (zs_if (zt_cmp op_eq o_eq (z_ix ix_tup o_ixT (z_var (i := 0) nm__law_row rfl (Or.inl rfl)) z_int (fun _ _ => rfl)) z_str (nomark _)) (zss_one (zs_ret (z_tup (za_cons z_str (za_cons (z_ix ix_tup o_ixT (z_var (i := 0) nm__law_row rfl (Or.inl rfl)) z_int (fun _ _ => rfl)) (za_cons (z_var (i := 1) nm__law_one rfl (Or.inl rfl)) (za_cons (z_var (i := 2) nm__law_other rfl (Or.inl rfl)) za_nil rfl) rfl) rfl) rfl)))) zss_nil) (zss_cons (zs_if (zt_cmp op_eq o_eq (z_ix ix_tup o_ixT (z_var (i := 0) nm__law_row rfl (Or.inl rfl)) z_int (fun _ _ => rfl)) z_str (nomark _)) (zss_one (zs_ret (z_tup (za_cons z_str (za_cons (z_var (i := 1) nm__law_one rfl (Or.inl rfl)) (za_cons (z_var (i := 2) nm__law_other rfl (Or.inl rfl)) za_nil rfl) rfl) rfl)))) zss_nil) (zss_one (zs_ret (z_tup (za_cons z_str (za_cons (z_var (i := 1) nm__law_one rfl (Or.inl rfl)) (za_cons (z_ix ix_tup o_ixT (z_var (i := 0) nm__law_row rfl (Or.inl rfl)) z_int (fun _ _ => rfl)) (za_cons (z_ix ix_tup o_ixT (z_var (i := 0) nm__law_row rfl (Or.inl rfl)) z_int (fun _ _ => rfl)) (za_cons (z_var (i := 2) nm__law_other rfl (Or.inl rfl)) za_nil rfl) rfl) rfl) rfl) rfl))))))
structure Grp4 (P : Program) (w : World) (K : PySem.W.Frag) (mg : Str → Option Value) (base : Heap) (t : Ads) (n : Nat) : Prop where
  f__law_back : FnOk P w K mg base CX0 (n + 2) t.a__law_back t.d__law_back ["_law_rows", "_law_at", "_law_end"] (spE (ckOf K t) 3 (p__law_back n))
theorem grp4_ok (T : Txt K mg t) (G__law_joined : FnOk P w K mg base CX0 (1) t.a__law_joined t.d__law_joined ["_law_row", "_law_one", "_law_other"] (spE (ckOf K t) 3 p__law_joined)) (G__law_one_back : FnOk P w K mg base CX0 (1) t.a__law_one_back t.d__law_one_back ["_law_row"] (spE (ckOf K t) 1 p__law_one_back))  : ∀ n, Grp4 P w K mg base t n
  | 0 => ⟨none_ok⟩
  | n + 1 => by
    have fa := T.fa
    have I := grp4_ok T G__law_joined G__law_one_back n
    have G__law_back := I.f__law_back
    exact ⟨zfn T.F__law_back sc__law_back fun cdv Ar outer sh H E hr => (zss_cons (zs_setO (i := 3) sc__law_back.nd rfl (Or.inl rfl) (z_lst za_nil) rfl (Or.inl rfl)) (zss_cons (zs_while 1000 PassesOwn.never (zt_cmp op_lt o_lt (z_var (i := 1) nm__law_at rfl (Or.inl rfl)) (z_var (i := 2) nm__law_end rfl (Or.inl rfl)) (nomark _)) (zss_cons (zs_set (i := 4) sc__law_back.nd rfl (Or.inl rfl) (z_ix ix_list o_ixL (z_var (i := 0) nm__law_rows rfl (Or.inl rfl)) (z_var (i := 1) nm__law_at rfl (Or.inl rfl)) (fun _ _ => rfl)) rfl (Or.inl rfl)) (zss_one (zs_if (zt_cmp op_notIn_seq o_inL (z_ix ix_tup o_ixT (z_var (i := 4) nm__law_row rfl (Or.inl rfl)) z_int (fun _ _ => rfl)) (z_tup (za_cons z_str (za_cons z_str (za_cons z_str za_nil rfl) rfl) rfl)) (by with_unfolding_all rfl)) (zss_cons (zs_app (pe_var (i := 3) rfl (Or.inl rfl) nm__law_tree_here.d nm__law_tree_here.c) (z_call G__law_one_back (hr.mono (by omega)) nm__law_one_back rfl T.m__law_one_back T.F__law_one_back.kp T.b__law_one_back (za_cons (z_var (i := 4) nm__law_row rfl (Or.inl rfl)) za_nil rfl) rfl rfl) rfl rfl rfl rfl rfl rfl) (zss_one (zs_set (i := 1) sc__law_back.nd rfl (Or.inl rfl) (z_op op_add o_add (z_var (i := 1) nm__law_at rfl (Or.inl rfl)) z_int) rfl (Or.inl rfl)))) (zss_cons (zs_set (i := 5) sc__law_back.nd rfl (Or.inl rfl) (z_ix ix_tup o_ixT (z_var (i := 4) nm__law_row rfl (Or.inl rfl)) (z_un un_neg o_neg z_int) (fun _ _ => rfl)) rfl (Or.inl rfl)) (zss_cons (zs_set (i := 6) sc__law_back.nd rfl (Or.inl rfl) (z_op op_sub o_sub (z_op op_sub o_sub (z_var (i := 5) nm__law_second rfl (Or.inl rfl)) z_int) (z_cty call_int1 b_int1 nm_int rfl T.z_int bt_int (za_cons (z_cmp op_ne o_ne (z_ix ix_tup o_ixT (z_var (i := 4) nm__law_row rfl (Or.inl rfl)) z_int (fun _ _ => rfl)) z_str (nomark _)) za_nil rfl) rfl rfl)) rfl (Or.inl rfl)) (zss_cons (zs_if (zt_w (zw_or (zt_cmp op_gt o_gt (z_var (i := 5) nm__law_second rfl (Or.inl rfl)) (z_var (i := 2) nm__law_end rfl (Or.inl rfl)) (nomark _)) (zw_or (zt_cmp op_le o_le (z_var (i := 6) nm__law_close rfl (Or.inl rfl)) (z_var (i := 1) nm__law_at rfl (Or.inl rfl)) (nomark _)) (zw_or1 (zt_cmp op_ne o_ne (z_ix ix_tup o_ixT (z_ix ix_list o_ixL (z_var (i := 0) nm__law_rows rfl (Or.inl rfl)) (z_op op_sub o_sub (z_var (i := 5) nm__law_second rfl (Or.inl rfl)) z_int) (fun _ _ => rfl)) z_int (fun _ _ => rfl)) z_str (nomark _)))))) (zss_one (zs_ret z_non)) zss_nil) (zss_cons (zs_set (i := 7) sc__law_back.nd rfl (Or.inl rfl) (z_ix ix_tup o_ixT (z_ix ix_list o_ixL (z_var (i := 0) nm__law_rows rfl (Or.inl rfl)) (z_op op_sub o_sub (z_var (i := 5) nm__law_second rfl (Or.inl rfl)) z_int) (fun _ _ => rfl)) z_int (fun _ _ => rfl)) rfl (Or.inl rfl)) (zss_cons (zs_if (zt_w (zw_or (zt_not (zt_chain op_le op_le o_le o_le (z_var (i := 5) nm__law_second rfl (Or.inl rfl)) (z_var (i := 7) nm__law_last rfl (Or.inl rfl)) (z_var (i := 2) nm__law_end rfl (Or.inl rfl)) (by with_unfolding_all rfl))) (zw_or1 (zt_w (zw_and (zt_cmp op_ne o_ne (z_ix ix_tup o_ixT (z_var (i := 4) nm__law_row rfl (Or.inl rfl)) z_int (fun _ _ => rfl)) z_str (nomark _)) (zw_and1 (zt_cmp (op_neD (room60 hr)) o_neD (z_ix ix_list o_ixL (z_var (i := 0) nm__law_rows rfl (Or.inl rfl)) (z_var (i := 6) nm__law_close rfl (Or.inl rfl)) (fun _ _ => rfl)) (z_tup (za_cons z_str za_nil rfl)) (nomark _)))))))) (zss_one (zs_ret z_non)) zss_nil) (zss_cons (zs_set (i := 8) sc__law_back.nd rfl (Or.inl rfl) (z_call G__law_back (hr.mono (by omega)) nm__law_back rfl T.m__law_back T.F__law_back.kp T.b__law_back (za_cons (z_var (i := 0) nm__law_rows rfl (Or.inl rfl)) (za_cons (z_op op_add o_add (z_var (i := 1) nm__law_at rfl (Or.inl rfl)) z_int) (za_cons (z_var (i := 6) nm__law_close rfl (Or.inl rfl)) za_nil rfl) rfl) rfl) rfl rfl) rfl (Or.inl rfl)) (zss_cons (zs_set (i := 9) sc__law_back.nd rfl (Or.inl rfl) (z_call G__law_back (hr.mono (by omega)) nm__law_back rfl T.m__law_back T.F__law_back.kp T.b__law_back (za_cons (z_var (i := 0) nm__law_rows rfl (Or.inl rfl)) (za_cons (z_var (i := 5) nm__law_second rfl (Or.inl rfl)) (za_cons (z_var (i := 7) nm__law_last rfl (Or.inl rfl)) za_nil rfl) rfl) rfl) rfl rfl) rfl (Or.inl rfl)) (zss_cons (zs_app (pe_var (i := 3) rfl (Or.inl rfl) nm__law_tree_here.d nm__law_tree_here.c) (z_call G__law_joined (hr.mono (by omega)) nm__law_joined rfl T.m__law_joined T.F__law_joined.kp T.b__law_joined (za_cons (z_var (i := 4) nm__law_row rfl (Or.inl rfl)) (za_cons (z_var (i := 8) nm__law_one rfl (Or.inl rfl)) (za_cons (z_var (i := 9) nm__law_other rfl (Or.inl rfl)) za_nil rfl) rfl) rfl) rfl rfl) rfl rfl rfl rfl rfl rfl) (zss_one (zs_set (i := 1) sc__law_back.nd rfl (Or.inl rfl) (z_var (i := 7) nm__law_last rfl (Or.inl rfl)) rfl (Or.inl rfl))))))))))))))) (zss_frz 3 (zss_one (zs_ret (z_var (i := 3) nm__law_tree_here rfl (Or.inl rfl)))))))⟩
theorem ok_law (T : Txt K mg t) (G__law_ahead : FnOk P w K mg base CX0 (1) t.a__law_ahead t.d__law_ahead ["_law_rows"] (spE (ckOf K t) 1 p__law_ahead)) (G__law_back : FnOk P w K mg base CX0 (9) t.a__law_back t.d__law_back ["_law_rows", "_law_at", "_law_end"] (spE (ckOf K t) 3 (p__law_back 7))) (G__law_made : FnOk P w K mg base CX0 (10) t.a__law_made t.d__law_made ["_law_tree_here"] (spE (ckOf K t) 1 (p__law_made 7))) (G__law_names : FnOk P w K mg base CX0 (2) t.a__law_names t.d__law_names ["_law_cell"] (spE (ckOf K t) 1 p__law_names)) (G__law_tree : FnOk P w K mg base CX0 (8) t.a__law_tree t.d__law_tree ["_law_cells", "_law_depth", "_law_names_here"] (spE (ckOf K t) 3 (p__law_tree 5))) (G_rows_of : FnOk P w K mg base CX0 (43) t.a_rows_of t.d_rows_of ["deed"] (spE (ckOf K t) 1 p_rows_of)) : FnOk P w K mg base CX0 (43 + 1) t.a_law t.d_law ["_law_script"] (spE (ckOf K t) 1 p_law) := by
  have fa := T.fa
  exact zfn T.F_law sc_law fun cdv Ar outer sh H E hr => (zss_cons (zs_set (i := 1) sc_law.nd rfl (Or.inl rfl) (z_call G__law_names (hr.mono (by omega)) nm__law_names rfl T.m__law_names T.F__law_names.kp T.b__law_names (za_cons (z_cb (call_sum rfl) b_sum nm_sum rfl T.z_sum bt_sum (za_cons (z_fz (z_slO sl_list o_slL (z_var (i := 0) nm__law_script rfl (Or.inl rfl)) zp_no (zp_some z_int))) za_nil rfl) rfl rfl) za_nil rfl) rfl rfl) rfl (Or.inl rfl)) (zss_cons (zs_for PassesOwn.never rfl (zi_rng3 rfl T.z_range (za_cons z_int (za_cons (z_cb (call_max2 rfl) b_max2 nm_max rfl T.z_max bt_max (za_cons z_int (za_cons (z_cb call_len_seq b_lenL nm_len rfl T.z_len bt_len (za_cons (z_var (i := 0) nm__law_script rfl (Or.inl rfl)) za_nil rfl) rfl rfl) za_nil rfl) rfl) rfl rfl) (za_cons z_int za_nil rfl) rfl) rfl) rfl rfl) (zg_name (i := 2) sc_law.nd rfl (Or.inl rfl) (Or.inl rfl)) (zss_cons (zs_set (i := 3) sc_law.nd rfl (Or.inl rfl) (z_call G__law_tree (hr.mono (by omega)) nm__law_tree rfl T.m__law_tree T.F__law_tree.kp T.b__law_tree (za_cons (z_fz (z_slO sl_list o_slL (z_var (i := 0) nm__law_script rfl (Or.inl rfl)) (zp_some (z_var (i := 2) nm__law_at rfl (Or.inl rfl))) (zp_some (z_op op_add o_add (z_var (i := 2) nm__law_at rfl (Or.inl rfl)) z_int)))) (za_cons z_int (za_cons (z_var (i := 1) nm__law_names_here rfl (Or.inl rfl)) za_nil rfl) rfl) rfl) rfl rfl) rfl (Or.inl rfl)) (zss_cons (zs_set (i := 4) sc_law.nd rfl (Or.inl rfl) (z_call G_rows_of (hr.mono (by omega)) nm_rows_of rfl T.m_rows_of T.F_rows_of.kp T.b_rows_of (za_cons (z_call G__law_made (hr.mono (by omega)) nm__law_made rfl T.m__law_made T.F__law_made.kp T.b__law_made (za_cons (z_var (i := 3) nm__law_tree_here rfl (Or.inl rfl)) za_nil rfl) rfl rfl) za_nil rfl) rfl rfl) rfl (Or.inl rfl)) (zss_cons (zs_if (zt_w (zw_or (zt_not (zt_val (z_cb call_isinst (b_isi (K := ckX _ _) fa.isa) nm_isinstance rfl T.z_isinstance bt_isinstance (za_cons (z_var (i := 4) nm__law_rows rfl (Or.inl rfl)) (za_cons (z_gty nm_list rfl T.z_list bt_list) za_nil rfl) rfl) rfl rfl) (fun _ => rfl))) (zw_or (zt_cmp op_eq o_eq (z_cb call_len_seq b_lenL nm_len rfl T.z_len bt_len (za_cons (z_var (i := 4) nm__law_rows rfl (Or.inl rfl)) za_nil rfl) rfl rfl) z_int (nomark _)) (zw_or1 (zt_not (zt_val (z_call G__law_ahead (hr.mono (by omega)) nm__law_ahead rfl T.m__law_ahead T.F__law_ahead.kp T.b__law_ahead (za_cons (z_var (i := 4) nm__law_rows rfl (Or.inl rfl)) za_nil rfl) rfl rfl) (fun _ => rfl))))))) (zss_one (zs_ret z_bl)) zss_nil) (zss_one (zs_if (zt_cmp (op_neD (room60 hr)) o_neD (z_call G__law_back (hr.mono (by omega)) nm__law_back rfl T.m__law_back T.F__law_back.kp T.b__law_back (za_cons (z_var (i := 4) nm__law_rows rfl (Or.inl rfl)) (za_cons z_int (za_cons (z_op op_sub o_sub (z_cb call_len_seq b_lenL nm_len rfl T.z_len bt_len (za_cons (z_var (i := 4) nm__law_rows rfl (Or.inl rfl)) za_nil rfl) rfl rfl) z_int) za_nil rfl) rfl) rfl) rfl rfl) (z_var (i := 3) nm__law_tree_here rfl (Or.inl rfl)) (nomark _)) (zss_one (zs_ret z_bl)) zss_nil))))) (fun _ => rfl)) (zss_one (zs_ret z_bl))))
def spLaw (K : PySem.W.Frag) : Sp := fun vs H Q _ => ∃ (a : Addr) (ns : List Int), vs = [.ref a] ∧ SqL K H a (ns.map V.int) ∧ ns.length ≤ 63 ∧ ∀ H', Q (.bl true) H'
theorem law_sp {A : Nat → Addr} : ∀ vs H Q E, spLaw K vs H Q E → spE ⟨K, A⟩ 1 p_law vs H Q E := by
  rintro _ H Q E ⟨a, ns, rfl, hS, hl, q⟩
  obtain ⟨h', e⟩ := law_eq (h := []) ns hl
  exact ⟨⟨H, H, [], []⟩, [.scr ns], .bl true, h', rfl, ⟨Same.refl _, rfl, List.nodup_nil, fun n d a e => by simp at e⟩, ⟨.ref a, [], rfl, ⟨a, rfl, hS⟩, rfl⟩, rfl, e, fun v W' _ _ rv => by rw [show v = _ from rv]; exact q _⟩
end
theorem all_mk {l : PySem.W.OpenLaw} {w : World} {K : PySem.W.Frag} {h : Heap} {mg : Str → Option Value} {fa CPart CLet CReckon CTake CPut CIf CEither CTry CThrow CWait f1 f2 f3 f4 f5 f6 f7 f8 f9 f10 f11 f12 f13 f14 f15 f16 f17 f18 f19 f20 f21 f22 f23 f24 f25 f26 f27 f28 f29 f30 f31 f32 f33 f34 f35 f36 f37 f38 : Addr} (X : K.In h) (G : h.Ns mainGlobals mg) (hfa : mg "law" = some (.ref fa))
    {od1 an1 : Option Addr} {sl1 : Array (Option Value)} {oc1 kV1 dc1 pm1 cd1 ct1 : Value} {od2 an2 : Option Addr} {sl2 : Array (Option Value)} {oc2 kV2 dc2 pm2 cd2 ct2 : Value} {od3 an3 : Option Addr} {sl3 : Array (Option Value)} {oc3 kV3 dc3 pm3 cd3 ct3 : Value} {od4 an4 : Option Addr} {sl4 : Array (Option Value)} {oc4 kV4 dc4 pm4 cd4 ct4 : Value} {od5 an5 : Option Addr} {sl5 : Array (Option Value)} {oc5 kV5 dc5 pm5 cd5 ct5 : Value} {od6 an6 : Option Addr} {sl6 : Array (Option Value)} {oc6 kV6 dc6 pm6 cd6 ct6 : Value} {od7 an7 : Option Addr} {sl7 : Array (Option Value)} {oc7 kV7 dc7 pm7 cd7 ct7 : Value} {od8 an8 : Option Addr} {sl8 : Array (Option Value)} {oc8 kV8 dc8 pm8 cd8 ct8 : Value} {od9 an9 : Option Addr} {sl9 : Array (Option Value)} {oc9 kV9 dc9 pm9 cd9 ct9 : Value} {od10 an10 : Option Addr} {sl10 : Array (Option Value)} {oc10 kV10 dc10 pm10 cd10 ct10 : Value} {od11 an11 : Option Addr} {sl11 : Array (Option Value)} {oc11 kV11 dc11 pm11 cd11 ct11 : Value} {od12 an12 : Option Addr} {sl12 : Array (Option Value)} {oc12 kV12 dc12 pm12 cd12 ct12 : Value} {od13 an13 : Option Addr} {sl13 : Array (Option Value)} {oc13 kV13 dc13 pm13 cd13 ct13 : Value} {od14 an14 : Option Addr} {sl14 : Array (Option Value)} {oc14 kV14 dc14 pm14 cd14 ct14 : Value} {od15 an15 : Option Addr} {sl15 : Array (Option Value)} {oc15 kV15 dc15 pm15 cd15 ct15 : Value} {od16 an16 : Option Addr} {sl16 : Array (Option Value)} {oc16 kV16 dc16 pm16 cd16 ct16 : Value} {od17 an17 : Option Addr} {sl17 : Array (Option Value)} {oc17 kV17 dc17 pm17 cd17 ct17 : Value} {od18 an18 : Option Addr} {sl18 : Array (Option Value)} {oc18 kV18 dc18 pm18 cd18 ct18 : Value} {od19 an19 : Option Addr} {sl19 : Array (Option Value)} {oc19 kV19 dc19 pm19 cd19 ct19 : Value} {od20 an20 : Option Addr} {sl20 : Array (Option Value)} {oc20 kV20 dc20 pm20 cd20 ct20 : Value} {od21 an21 : Option Addr} {sl21 : Array (Option Value)} {oc21 kV21 dc21 pm21 cd21 ct21 : Value} {od22 an22 : Option Addr} {sl22 : Array (Option Value)} {oc22 kV22 dc22 pm22 cd22 ct22 : Value} {od23 an23 : Option Addr} {sl23 : Array (Option Value)} {oc23 kV23 dc23 pm23 cd23 ct23 : Value} {od24 an24 : Option Addr} {sl24 : Array (Option Value)} {oc24 kV24 dc24 pm24 cd24 ct24 : Value} {od25 an25 : Option Addr} {sl25 : Array (Option Value)} {oc25 kV25 dc25 pm25 cd25 ct25 : Value} {od26 an26 : Option Addr} {sl26 : Array (Option Value)} {oc26 kV26 dc26 pm26 cd26 ct26 : Value} {od27 an27 : Option Addr} {sl27 : Array (Option Value)} {oc27 kV27 dc27 pm27 cd27 ct27 : Value} {od28 an28 : Option Addr} {sl28 : Array (Option Value)} {oc28 kV28 dc28 pm28 cd28 ct28 : Value} {od29 an29 : Option Addr} {sl29 : Array (Option Value)} {oc29 kV29 dc29 pm29 cd29 ct29 : Value} {od30 an30 : Option Addr} {sl30 : Array (Option Value)} {oc30 kV30 dc30 pm30 cd30 ct30 : Value} {od31 an31 : Option Addr} {sl31 : Array (Option Value)} {oc31 kV31 dc31 pm31 cd31 ct31 : Value} {od32 an32 : Option Addr} {sl32 : Array (Option Value)} {oc32 kV32 dc32 pm32 cd32 ct32 : Value} {od33 an33 : Option Addr} {sl33 : Array (Option Value)} {oc33 kV33 dc33 pm33 cd33 ct33 : Value} {od34 an34 : Option Addr} {sl34 : Array (Option Value)} {oc34 kV34 dc34 pm34 cd34 ct34 : Value} {od35 an35 : Option Addr} {sl35 : Array (Option Value)} {oc35 kV35 dc35 pm35 cd35 ct35 : Value} {od36 an36 : Option Addr} {sl36 : Array (Option Value)} {oc36 kV36 dc36 pm36 cd36 ct36 : Value} {od37 an37 : Option Addr} {sl37 : Array (Option Value)} {oc37 kV37 dc37 pm37 cd37 ct37 : Value} {od38 an38 : Option Addr} {sl38 : Array (Option Value)} {oc38 kV38 dc38 pm38 cd38 ct38 : Value}
    (nCPart : PySem.W.nsIn K mainGlobals "Part" = some (some (.ref CPart)))
    (nCLet : PySem.W.nsIn K mainGlobals "Let" = some (some (.ref CLet)))
    (nCReckon : PySem.W.nsIn K mainGlobals "Reckon" = some (some (.ref CReckon)))
    (nCTake : PySem.W.nsIn K mainGlobals "Take" = some (some (.ref CTake)))
    (nCPut : PySem.W.nsIn K mainGlobals "Put" = some (some (.ref CPut)))
    (nCIf : PySem.W.nsIn K mainGlobals "If" = some (some (.ref CIf)))
    (nCEither : PySem.W.nsIn K mainGlobals "Either" = some (some (.ref CEither)))
    (nCTry : PySem.W.nsIn K mainGlobals "Try" = some (some (.ref CTry)))
    (nCThrow : PySem.W.nsIn K mainGlobals "Throw" = some (some (.ref CThrow)))
    (nCWait : PySem.W.nsIn K mainGlobals "Wait" = some (some (.ref CWait)))
    (fi_Let___init__ : PySem.W.findIn K (.ref CLet) "__init__" = some (some (.ref f1)))
    (fi_Reckon___init__ : PySem.W.findIn K (.ref CReckon) "__init__" = some (some (.ref f2)))
    (fi_Take___init__ : PySem.W.findIn K (.ref CTake) "__init__" = some (some (.ref f3)))
    (fi_Put___init__ : PySem.W.findIn K (.ref CPut) "__init__" = some (some (.ref f4)))
    (fi_If___init__ : PySem.W.findIn K (.ref CIf) "__init__" = some (some (.ref f5)))
    (fi_Either___init__ : PySem.W.findIn K (.ref CEither) "__init__" = some (some (.ref f6)))
    (fi_Try___init__ : PySem.W.findIn K (.ref CTry) "__init__" = some (some (.ref f7)))
    (fi_Throw___init__ : PySem.W.findIn K (.ref CThrow) "__init__" = some (some (.ref f8)))
    (fi_Part_long : PySem.W.findIn K (.ref CPart) "long" = some (some (.ref f9)))
    (fi_Let_long : PySem.W.findIn K (.ref CLet) "long" = some (some (.ref f10)))
    (fi_Reckon_long : PySem.W.findIn K (.ref CReckon) "long" = some (some (.ref f11)))
    (fi_Take_long : PySem.W.findIn K (.ref CTake) "long" = some (some (.ref f12)))
    (fi_Put_long : PySem.W.findIn K (.ref CPut) "long" = some (some (.ref f13)))
    (fi_If_long : PySem.W.findIn K (.ref CIf) "long" = some (some (.ref f17)))
    (fi_Either_long : PySem.W.findIn K (.ref CEither) "long" = some (some (.ref f18)))
    (fi_Try_long : PySem.W.findIn K (.ref CTry) "long" = some (some (.ref f19)))
    (fi_Throw_long : PySem.W.findIn K (.ref CThrow) "long" = some (some (.ref f14)))
    (fi_Wait_long : PySem.W.findIn K (.ref CWait) "long" = some (some (.ref f15)))
    (i1 : PySem.W.isFn K (.ref f1) = true)
    (l1 : K.lookup f1 = some ⟨oc1, od1, .func (PySem.W.fnOf "__init__" "Let.__init__" (defArgs s_Let___init__) (defBody s_Let___init__) (defScope s_Let___init__) .none kV1 dc1 pm1 an1 cd1 ct1), sl1⟩)
    (c1 : PySem.W.codeIn K cd1 "Let.__init__" = true)
    (k1 : PySem.W.keepIn K (.ref f1) = true)
    (i2 : PySem.W.isFn K (.ref f2) = true)
    (l2 : K.lookup f2 = some ⟨oc2, od2, .func (PySem.W.fnOf "__init__" "Reckon.__init__" (defArgs s_Reckon___init__) (defBody s_Reckon___init__) (defScope s_Reckon___init__) .none kV2 dc2 pm2 an2 cd2 ct2), sl2⟩)
    (c2 : PySem.W.codeIn K cd2 "Reckon.__init__" = true)
    (k2 : PySem.W.keepIn K (.ref f2) = true)
    (i3 : PySem.W.isFn K (.ref f3) = true)
    (l3 : K.lookup f3 = some ⟨oc3, od3, .func (PySem.W.fnOf "__init__" "Take.__init__" (defArgs s_Take___init__) (defBody s_Take___init__) (defScope s_Take___init__) .none kV3 dc3 pm3 an3 cd3 ct3), sl3⟩)
    (c3 : PySem.W.codeIn K cd3 "Take.__init__" = true)
    (k3 : PySem.W.keepIn K (.ref f3) = true)
    (i4 : PySem.W.isFn K (.ref f4) = true)
    (l4 : K.lookup f4 = some ⟨oc4, od4, .func (PySem.W.fnOf "__init__" "Put.__init__" (defArgs s_Put___init__) (defBody s_Put___init__) (defScope s_Put___init__) .none kV4 dc4 pm4 an4 cd4 ct4), sl4⟩)
    (c4 : PySem.W.codeIn K cd4 "Put.__init__" = true)
    (k4 : PySem.W.keepIn K (.ref f4) = true)
    (i5 : PySem.W.isFn K (.ref f5) = true)
    (l5 : K.lookup f5 = some ⟨oc5, od5, .func (PySem.W.fnOf "__init__" "If.__init__" (defArgs s_If___init__) (defBody s_If___init__) (defScope s_If___init__) .none kV5 dc5 pm5 an5 cd5 ct5), sl5⟩)
    (c5 : PySem.W.codeIn K cd5 "If.__init__" = true)
    (k5 : PySem.W.keepIn K (.ref f5) = true)
    (i6 : PySem.W.isFn K (.ref f6) = true)
    (l6 : K.lookup f6 = some ⟨oc6, od6, .func (PySem.W.fnOf "__init__" "Either.__init__" (defArgs s_Either___init__) (defBody s_Either___init__) (defScope s_Either___init__) .none kV6 dc6 pm6 an6 cd6 ct6), sl6⟩)
    (c6 : PySem.W.codeIn K cd6 "Either.__init__" = true)
    (k6 : PySem.W.keepIn K (.ref f6) = true)
    (i7 : PySem.W.isFn K (.ref f7) = true)
    (l7 : K.lookup f7 = some ⟨oc7, od7, .func (PySem.W.fnOf "__init__" "Try.__init__" (defArgs s_Try___init__) (defBody s_Try___init__) (defScope s_Try___init__) .none kV7 dc7 pm7 an7 cd7 ct7), sl7⟩)
    (c7 : PySem.W.codeIn K cd7 "Try.__init__" = true)
    (k7 : PySem.W.keepIn K (.ref f7) = true)
    (i8 : PySem.W.isFn K (.ref f8) = true)
    (l8 : K.lookup f8 = some ⟨oc8, od8, .func (PySem.W.fnOf "__init__" "Throw.__init__" (defArgs s_Throw___init__) (defBody s_Throw___init__) (defScope s_Throw___init__) .none kV8 dc8 pm8 an8 cd8 ct8), sl8⟩)
    (c8 : PySem.W.codeIn K cd8 "Throw.__init__" = true)
    (k8 : PySem.W.keepIn K (.ref f8) = true)
    (i9 : PySem.W.isFn K (.ref f9) = true)
    (l9 : K.lookup f9 = some ⟨oc9, od9, .func (PySem.W.fnOf "long" "Part.long" (defArgs s_Part_long) (defBody s_Part_long) (defScope s_Part_long) .none kV9 dc9 pm9 an9 cd9 ct9), sl9⟩)
    (c9 : PySem.W.codeIn K cd9 "Part.long" = true)
    (k9 : PySem.W.keepIn K (.ref f9) = true)
    (i10 : PySem.W.isFn K (.ref f10) = true)
    (l10 : K.lookup f10 = some ⟨oc10, od10, .func (PySem.W.fnOf "long" "Let.long" (defArgs s_Let_long) (defBody s_Let_long) (defScope s_Let_long) .none kV10 dc10 pm10 an10 cd10 ct10), sl10⟩)
    (c10 : PySem.W.codeIn K cd10 "Let.long" = true)
    (k10 : PySem.W.keepIn K (.ref f10) = true)
    (i11 : PySem.W.isFn K (.ref f11) = true)
    (l11 : K.lookup f11 = some ⟨oc11, od11, .func (PySem.W.fnOf "long" "Reckon.long" (defArgs s_Reckon_long) (defBody s_Reckon_long) (defScope s_Reckon_long) .none kV11 dc11 pm11 an11 cd11 ct11), sl11⟩)
    (c11 : PySem.W.codeIn K cd11 "Reckon.long" = true)
    (k11 : PySem.W.keepIn K (.ref f11) = true)
    (i12 : PySem.W.isFn K (.ref f12) = true)
    (l12 : K.lookup f12 = some ⟨oc12, od12, .func (PySem.W.fnOf "long" "Take.long" (defArgs s_Take_long) (defBody s_Take_long) (defScope s_Take_long) .none kV12 dc12 pm12 an12 cd12 ct12), sl12⟩)
    (c12 : PySem.W.codeIn K cd12 "Take.long" = true)
    (k12 : PySem.W.keepIn K (.ref f12) = true)
    (i13 : PySem.W.isFn K (.ref f13) = true)
    (l13 : K.lookup f13 = some ⟨oc13, od13, .func (PySem.W.fnOf "long" "Put.long" (defArgs s_Put_long) (defBody s_Put_long) (defScope s_Put_long) .none kV13 dc13 pm13 an13 cd13 ct13), sl13⟩)
    (c13 : PySem.W.codeIn K cd13 "Put.long" = true)
    (k13 : PySem.W.keepIn K (.ref f13) = true)
    (i14 : PySem.W.isFn K (.ref f14) = true)
    (l14 : K.lookup f14 = some ⟨oc14, od14, .func (PySem.W.fnOf "long" "Throw.long" (defArgs s_Throw_long) (defBody s_Throw_long) (defScope s_Throw_long) .none kV14 dc14 pm14 an14 cd14 ct14), sl14⟩)
    (c14 : PySem.W.codeIn K cd14 "Throw.long" = true)
    (k14 : PySem.W.keepIn K (.ref f14) = true)
    (i15 : PySem.W.isFn K (.ref f15) = true)
    (l15 : K.lookup f15 = some ⟨oc15, od15, .func (PySem.W.fnOf "long" "Wait.long" (defArgs s_Wait_long) (defBody s_Wait_long) (defScope s_Wait_long) .none kV15 dc15 pm15 an15 cd15 ct15), sl15⟩)
    (c15 : PySem.W.codeIn K cd15 "Wait.long" = true)
    (k15 : PySem.W.keepIn K (.ref f15) = true)
    (a16 : PySem.W.nsIn K mainGlobals "list_long" = some (some (.ref f16)))
    (l16 : K.lookup f16 = some ⟨oc16, od16, .func (PySem.W.fnOf "list_long" "list_long" (defArgs s_list_long) (defBody s_list_long) (defScope s_list_long) .none kV16 dc16 pm16 an16 cd16 ct16), sl16⟩)
    (c16 : PySem.W.codeIn K cd16 "list_long" = true)
    (k16 : PySem.W.keepIn K (.ref f16) = true)
    (i17 : PySem.W.isFn K (.ref f17) = true)
    (l17 : K.lookup f17 = some ⟨oc17, od17, .func (PySem.W.fnOf "long" "If.long" (defArgs s_If_long) (defBody s_If_long) (defScope s_If_long) .none kV17 dc17 pm17 an17 cd17 ct17), sl17⟩)
    (c17 : PySem.W.codeIn K cd17 "If.long" = true)
    (k17 : PySem.W.keepIn K (.ref f17) = true)
    (i18 : PySem.W.isFn K (.ref f18) = true)
    (l18 : K.lookup f18 = some ⟨oc18, od18, .func (PySem.W.fnOf "long" "Either.long" (defArgs s_Either_long) (defBody s_Either_long) (defScope s_Either_long) .none kV18 dc18 pm18 an18 cd18 ct18), sl18⟩)
    (c18 : PySem.W.codeIn K cd18 "Either.long" = true)
    (k18 : PySem.W.keepIn K (.ref f18) = true)
    (i19 : PySem.W.isFn K (.ref f19) = true)
    (l19 : K.lookup f19 = some ⟨oc19, od19, .func (PySem.W.fnOf "long" "Try.long" (defArgs s_Try_long) (defBody s_Try_long) (defScope s_Try_long) .none kV19 dc19 pm19 an19 cd19 ct19), sl19⟩)
    (c19 : PySem.W.codeIn K cd19 "Try.long" = true)
    (k19 : PySem.W.keepIn K (.ref f19) = true)
    (a20 : PySem.W.nsIn K mainGlobals "plain_rows" = some (some (.ref f20)))
    (l20 : K.lookup f20 = some ⟨oc20, od20, .func (PySem.W.fnOf "plain_rows" "plain_rows" (defArgs s_plain_rows) (defBody s_plain_rows) (defScope s_plain_rows) .none kV20 dc20 pm20 an20 cd20 ct20), sl20⟩)
    (c20 : PySem.W.codeIn K cd20 "plain_rows" = true)
    (k20 : PySem.W.keepIn K (.ref f20) = true)
    (a21 : PySem.W.nsIn K mainGlobals "first_row" = some (some (.ref f21)))
    (l21 : K.lookup f21 = some ⟨oc21, od21, .func (PySem.W.fnOf "first_row" "first_row" (defArgs s_first_row) (defBody s_first_row) (defScope s_first_row) .none kV21 dc21 pm21 an21 cd21 ct21), sl21⟩)
    (c21 : PySem.W.codeIn K cd21 "first_row" = true)
    (k21 : PySem.W.keepIn K (.ref f21) = true)
    (a22 : PySem.W.nsIn K mainGlobals "rows_between" = some (some (.ref f22)))
    (l22 : K.lookup f22 = some ⟨oc22, od22, .func (PySem.W.fnOf "rows_between" "rows_between" (defArgs s_rows_between) (defBody s_rows_between) (defScope s_rows_between) .none kV22 dc22 pm22 an22 cd22 ct22), sl22⟩)
    (c22 : PySem.W.codeIn K cd22 "rows_between" = true)
    (k22 : PySem.W.keepIn K (.ref f22) = true)
    (a23 : PySem.W.nsIn K mainGlobals "list_rows" = some (some (.ref f23)))
    (l23 : K.lookup f23 = some ⟨oc23, od23, .func (PySem.W.fnOf "list_rows" "list_rows" (defArgs s_list_rows) (defBody s_list_rows) (defScope s_list_rows) .none kV23 dc23 pm23 an23 cd23 ct23), sl23⟩)
    (c23 : PySem.W.codeIn K cd23 "list_rows" = true)
    (k23 : PySem.W.keepIn K (.ref f23) = true)
    (a24 : PySem.W.nsIn K mainGlobals "part_rows" = some (some (.ref f24)))
    (l24 : K.lookup f24 = some ⟨oc24, od24, .func (PySem.W.fnOf "part_rows" "part_rows" (defArgs s_part_rows) (defBody s_part_rows) (defScope s_part_rows) .none kV24 dc24 pm24 an24 cd24 ct24), sl24⟩)
    (c24 : PySem.W.codeIn K cd24 "part_rows" = true)
    (k24 : PySem.W.keepIn K (.ref f24) = true)
    (a25 : PySem.W.nsIn K mainGlobals "sided_rows" = some (some (.ref f25)))
    (l25 : K.lookup f25 = some ⟨oc25, od25, .func (PySem.W.fnOf "sided_rows" "sided_rows" (defArgs s_sided_rows) (defBody s_sided_rows) (defScope s_sided_rows) .none kV25 dc25 pm25 an25 cd25 ct25), sl25⟩)
    (c25 : PySem.W.codeIn K cd25 "sided_rows" = true)
    (k25 : PySem.W.keepIn K (.ref f25) = true)
    (a26 : PySem.W.nsIn K mainGlobals "rows_of" = some (some (.ref f26)))
    (l26 : K.lookup f26 = some ⟨oc26, od26, .func (PySem.W.fnOf "rows_of" "rows_of" (defArgs s_rows_of) (defBody s_rows_of) (defScope s_rows_of) .none kV26 dc26 pm26 an26 cd26 ct26), sl26⟩)
    (c26 : PySem.W.codeIn K cd26 "rows_of" = true)
    (k26 : PySem.W.keepIn K (.ref f26) = true)
    (a27 : PySem.W.nsIn K mainGlobals "_law_mixed" = some (some (.ref f27)))
    (l27 : K.lookup f27 = some ⟨oc27, od27, .func (PySem.W.fnOf "_law_mixed" "_law_mixed" (defArgs s__law_mixed) (defBody s__law_mixed) (defScope s__law_mixed) .none kV27 dc27 pm27 an27 cd27 ct27), sl27⟩)
    (c27 : PySem.W.codeIn K cd27 "_law_mixed" = true)
    (k27 : PySem.W.keepIn K (.ref f27) = true)
    (a28 : PySem.W.nsIn K mainGlobals "_law_wide" = some (some (.ref f28)))
    (l28 : K.lookup f28 = some ⟨oc28, od28, .func (PySem.W.fnOf "_law_wide" "_law_wide" (defArgs s__law_wide) (defBody s__law_wide) (defScope s__law_wide) .none kV28 dc28 pm28 an28 cd28 ct28), sl28⟩)
    (c28 : PySem.W.codeIn K cd28 "_law_wide" = true)
    (k28 : PySem.W.keepIn K (.ref f28) = true)
    (a29 : PySem.W.nsIn K mainGlobals "_law_names" = some (some (.ref f29)))
    (l29 : K.lookup f29 = some ⟨oc29, od29, .func (PySem.W.fnOf "_law_names" "_law_names" (defArgs s__law_names) (defBody s__law_names) (defScope s__law_names) .none kV29 dc29 pm29 an29 cd29 ct29), sl29⟩)
    (c29 : PySem.W.codeIn K cd29 "_law_names" = true)
    (k29 : PySem.W.keepIn K (.ref f29) = true)
    (a30 : PySem.W.nsIn K mainGlobals "_law_plain" = some (some (.ref f30)))
    (l30 : K.lookup f30 = some ⟨oc30, od30, .func (PySem.W.fnOf "_law_plain" "_law_plain" (defArgs s__law_plain) (defBody s__law_plain) (defScope s__law_plain) .none kV30 dc30 pm30 an30 cd30 ct30), sl30⟩)
    (c30 : PySem.W.codeIn K cd30 "_law_plain" = true)
    (k30 : PySem.W.keepIn K (.ref f30) = true)
    (a31 : PySem.W.nsIn K mainGlobals "_law_sided" = some (some (.ref f31)))
    (l31 : K.lookup f31 = some ⟨oc31, od31, .func (PySem.W.fnOf "_law_sided" "_law_sided" (defArgs s__law_sided) (defBody s__law_sided) (defScope s__law_sided) .none kV31 dc31 pm31 an31 cd31 ct31), sl31⟩)
    (c31 : PySem.W.codeIn K cd31 "_law_sided" = true)
    (k31 : PySem.W.keepIn K (.ref f31) = true)
    (a32 : PySem.W.nsIn K mainGlobals "_law_tree" = some (some (.ref f32)))
    (l32 : K.lookup f32 = some ⟨oc32, od32, .func (PySem.W.fnOf "_law_tree" "_law_tree" (defArgs s__law_tree) (defBody s__law_tree) (defScope s__law_tree) .none kV32 dc32 pm32 an32 cd32 ct32), sl32⟩)
    (c32 : PySem.W.codeIn K cd32 "_law_tree" = true)
    (k32 : PySem.W.keepIn K (.ref f32) = true)
    (a33 : PySem.W.nsIn K mainGlobals "_law_made" = some (some (.ref f33)))
    (l33 : K.lookup f33 = some ⟨oc33, od33, .func (PySem.W.fnOf "_law_made" "_law_made" (defArgs s__law_made) (defBody s__law_made) (defScope s__law_made) .none kV33 dc33 pm33 an33 cd33 ct33), sl33⟩)
    (c33 : PySem.W.codeIn K cd33 "_law_made" = true)
    (k33 : PySem.W.keepIn K (.ref f33) = true)
    (a34 : PySem.W.nsIn K mainGlobals "_law_ahead" = some (some (.ref f34)))
    (l34 : K.lookup f34 = some ⟨oc34, od34, .func (PySem.W.fnOf "_law_ahead" "_law_ahead" (defArgs s__law_ahead) (defBody s__law_ahead) (defScope s__law_ahead) .none kV34 dc34 pm34 an34 cd34 ct34), sl34⟩)
    (c34 : PySem.W.codeIn K cd34 "_law_ahead" = true)
    (k34 : PySem.W.keepIn K (.ref f34) = true)
    (a35 : PySem.W.nsIn K mainGlobals "_law_one_back" = some (some (.ref f35)))
    (l35 : K.lookup f35 = some ⟨oc35, od35, .func (PySem.W.fnOf "_law_one_back" "_law_one_back" (defArgs s__law_one_back) (defBody s__law_one_back) (defScope s__law_one_back) .none kV35 dc35 pm35 an35 cd35 ct35), sl35⟩)
    (c35 : PySem.W.codeIn K cd35 "_law_one_back" = true)
    (k35 : PySem.W.keepIn K (.ref f35) = true)
    (a36 : PySem.W.nsIn K mainGlobals "_law_joined" = some (some (.ref f36)))
    (l36 : K.lookup f36 = some ⟨oc36, od36, .func (PySem.W.fnOf "_law_joined" "_law_joined" (defArgs s__law_joined) (defBody s__law_joined) (defScope s__law_joined) .none kV36 dc36 pm36 an36 cd36 ct36), sl36⟩)
    (c36 : PySem.W.codeIn K cd36 "_law_joined" = true)
    (k36 : PySem.W.keepIn K (.ref f36) = true)
    (a37 : PySem.W.nsIn K mainGlobals "_law_back" = some (some (.ref f37)))
    (l37 : K.lookup f37 = some ⟨oc37, od37, .func (PySem.W.fnOf "_law_back" "_law_back" (defArgs s__law_back) (defBody s__law_back) (defScope s__law_back) .none kV37 dc37 pm37 an37 cd37 ct37), sl37⟩)
    (c37 : PySem.W.codeIn K cd37 "_law_back" = true)
    (k37 : PySem.W.keepIn K (.ref f37) = true)
    (a38 : PySem.W.nsIn K mainGlobals "law" = some (some (.ref f38)))
    (l38 : K.lookup f38 = some ⟨oc38, od38, .func (PySem.W.fnOf "law" "law" (defArgs s_law) (defBody s_law) (defScope s_law) .none kV38 dc38 pm38 an38 cd38 ct38), sl38⟩)
    (c38 : PySem.W.codeIn K cd38 "law" = true)
    (k38 : PySem.W.keepIn K (.ref f38) = true)
    (pgPart : PySem.W.plainGet K CPart Str.empty = true)
    (hdPart : PySem.W.hasDictIn K CPart = true)
    (poPart : PySem.W.plainOver K CPart = true)
    (saPart : PySem.W.findIn K (.ref CPart) "__setattr__" = some (some (.builtin "object.__setattr__")))
    (mkPart : PySem.W.makesIn K CPart = true)
    (kcPart : PySem.W.keepIn K (.ref CPart) = true)
    (ioPart : PySem.W.findIn K (.ref CPart) "__init__" = some (some (.builtin "object.__init__")))
    (pgLet : PySem.W.plainGet K CLet Str.empty = true)
    (hdLet : PySem.W.hasDictIn K CLet = true)
    (poLet : PySem.W.plainOver K CLet = true)
    (saLet : PySem.W.findIn K (.ref CLet) "__setattr__" = some (some (.builtin "object.__setattr__")))
    (mkLet : PySem.W.makesIn K CLet = true)
    (kcLet : PySem.W.keepIn K (.ref CLet) = true)
    (haLet : PySem.W.findIn K (.ref CLet) "__class__" = some (some (.builtin "object.__class__")))
    (hmLet : PySem.W.mroIn K CLet (.type "object") = some true)
    (pgReckon : PySem.W.plainGet K CReckon Str.empty = true)
    (hdReckon : PySem.W.hasDictIn K CReckon = true)
    (poReckon : PySem.W.plainOver K CReckon = true)
    (saReckon : PySem.W.findIn K (.ref CReckon) "__setattr__" = some (some (.builtin "object.__setattr__")))
    (mkReckon : PySem.W.makesIn K CReckon = true)
    (kcReckon : PySem.W.keepIn K (.ref CReckon) = true)
    (haReckon : PySem.W.findIn K (.ref CReckon) "__class__" = some (some (.builtin "object.__class__")))
    (hmReckon : PySem.W.mroIn K CReckon (.type "object") = some true)
    (pgTake : PySem.W.plainGet K CTake Str.empty = true)
    (hdTake : PySem.W.hasDictIn K CTake = true)
    (poTake : PySem.W.plainOver K CTake = true)
    (saTake : PySem.W.findIn K (.ref CTake) "__setattr__" = some (some (.builtin "object.__setattr__")))
    (mkTake : PySem.W.makesIn K CTake = true)
    (kcTake : PySem.W.keepIn K (.ref CTake) = true)
    (haTake : PySem.W.findIn K (.ref CTake) "__class__" = some (some (.builtin "object.__class__")))
    (hmTake : PySem.W.mroIn K CTake (.type "object") = some true)
    (pgPut : PySem.W.plainGet K CPut Str.empty = true)
    (hdPut : PySem.W.hasDictIn K CPut = true)
    (poPut : PySem.W.plainOver K CPut = true)
    (saPut : PySem.W.findIn K (.ref CPut) "__setattr__" = some (some (.builtin "object.__setattr__")))
    (mkPut : PySem.W.makesIn K CPut = true)
    (kcPut : PySem.W.keepIn K (.ref CPut) = true)
    (haPut : PySem.W.findIn K (.ref CPut) "__class__" = some (some (.builtin "object.__class__")))
    (hmPut : PySem.W.mroIn K CPut (.type "object") = some true)
    (pgIf : PySem.W.plainGet K CIf Str.empty = true)
    (hdIf : PySem.W.hasDictIn K CIf = true)
    (poIf : PySem.W.plainOver K CIf = true)
    (saIf : PySem.W.findIn K (.ref CIf) "__setattr__" = some (some (.builtin "object.__setattr__")))
    (mkIf : PySem.W.makesIn K CIf = true)
    (kcIf : PySem.W.keepIn K (.ref CIf) = true)
    (haIf : PySem.W.findIn K (.ref CIf) "__class__" = some (some (.builtin "object.__class__")))
    (hmIf : PySem.W.mroIn K CIf (.type "object") = some true)
    (pgEither : PySem.W.plainGet K CEither Str.empty = true)
    (hdEither : PySem.W.hasDictIn K CEither = true)
    (poEither : PySem.W.plainOver K CEither = true)
    (saEither : PySem.W.findIn K (.ref CEither) "__setattr__" = some (some (.builtin "object.__setattr__")))
    (mkEither : PySem.W.makesIn K CEither = true)
    (kcEither : PySem.W.keepIn K (.ref CEither) = true)
    (haEither : PySem.W.findIn K (.ref CEither) "__class__" = some (some (.builtin "object.__class__")))
    (hmEither : PySem.W.mroIn K CEither (.type "object") = some true)
    (pgTry : PySem.W.plainGet K CTry Str.empty = true)
    (hdTry : PySem.W.hasDictIn K CTry = true)
    (poTry : PySem.W.plainOver K CTry = true)
    (saTry : PySem.W.findIn K (.ref CTry) "__setattr__" = some (some (.builtin "object.__setattr__")))
    (mkTry : PySem.W.makesIn K CTry = true)
    (kcTry : PySem.W.keepIn K (.ref CTry) = true)
    (haTry : PySem.W.findIn K (.ref CTry) "__class__" = some (some (.builtin "object.__class__")))
    (hmTry : PySem.W.mroIn K CTry (.type "object") = some true)
    (pgThrow : PySem.W.plainGet K CThrow Str.empty = true)
    (hdThrow : PySem.W.hasDictIn K CThrow = true)
    (poThrow : PySem.W.plainOver K CThrow = true)
    (saThrow : PySem.W.findIn K (.ref CThrow) "__setattr__" = some (some (.builtin "object.__setattr__")))
    (mkThrow : PySem.W.makesIn K CThrow = true)
    (kcThrow : PySem.W.keepIn K (.ref CThrow) = true)
    (haThrow : PySem.W.findIn K (.ref CThrow) "__class__" = some (some (.builtin "object.__class__")))
    (hmThrow : PySem.W.mroIn K CThrow (.type "object") = some true)
    (pgWait : PySem.W.plainGet K CWait Str.empty = true)
    (hdWait : PySem.W.hasDictIn K CWait = true)
    (poWait : PySem.W.plainOver K CWait = true)
    (saWait : PySem.W.findIn K (.ref CWait) "__setattr__" = some (some (.builtin "object.__setattr__")))
    (mkWait : PySem.W.makesIn K CWait = true)
    (kcWait : PySem.W.keepIn K (.ref CWait) = true)
    (ioWait : PySem.W.findIn K (.ref CWait) "__init__" = some (some (.builtin "object.__init__")))
    (haWait : PySem.W.findIn K (.ref CWait) "__class__" = some (some (.builtin "object.__class__")))
    (hmWait : PySem.W.mroIn K CWait (.type "object") = some true)
    (naLet_slot : PySem.W.findIn K (.ref CLet) "slot" = some none)
    (naReckon_slot : PySem.W.findIn K (.ref CReckon) "slot" = some none)
    (naTake_slot : PySem.W.findIn K (.ref CTake) "slot" = some none)
    (naPut_slot : PySem.W.findIn K (.ref CPut) "slot" = some none)
    (naIf_slot : PySem.W.findIn K (.ref CIf) "slot" = some none)
    (naTry_slot : PySem.W.findIn K (.ref CTry) "slot" = some none)
    (naThrow_slot : PySem.W.findIn K (.ref CThrow) "slot" = some none)
    (naLet_number : PySem.W.findIn K (.ref CLet) "number" = some none)
    (naReckon_word : PySem.W.findIn K (.ref CReckon) "word" = some none)
    (naReckon_one : PySem.W.findIn K (.ref CReckon) "one" = some none)
    (naReckon_other : PySem.W.findIn K (.ref CReckon) "other" = some none)
    (naTake_place : PySem.W.findIn K (.ref CTake) "place" = some none)
    (naPut_place : PySem.W.findIn K (.ref CPut) "place" = some none)
    (naTry_name : PySem.W.findIn K (.ref CTry) "name" = some none)
    (naThrow_name : PySem.W.findIn K (.ref CThrow) "name" = some none)
    (naIf_parts : PySem.W.findIn K (.ref CIf) "parts" = some none)
    (naEither_parts : PySem.W.findIn K (.ref CEither) "parts" = some none)
    (naTry_parts : PySem.W.findIn K (.ref CTry) "parts" = some none)
    (naIf_others : PySem.W.findIn K (.ref CIf) "others" = some none)
    (naEither_others : PySem.W.findIn K (.ref CEither) "others" = some none)
    (naTry_others : PySem.W.findIn K (.ref CTry) "others" = some none)
    (sb1_5 : PySem.W.subIn K (.ref CLet) (.ref CIf) = some false)
    (ne1_5 : (CLet == CIf) = false)
    (sb1_6 : PySem.W.subIn K (.ref CLet) (.ref CEither) = some false)
    (ne1_6 : (CLet == CEither) = false)
    (sb1_7 : PySem.W.subIn K (.ref CLet) (.ref CTry) = some false)
    (ne1_7 : (CLet == CTry) = false)
    (sb2_5 : PySem.W.subIn K (.ref CReckon) (.ref CIf) = some false)
    (ne2_5 : (CReckon == CIf) = false)
    (sb2_6 : PySem.W.subIn K (.ref CReckon) (.ref CEither) = some false)
    (ne2_6 : (CReckon == CEither) = false)
    (sb2_7 : PySem.W.subIn K (.ref CReckon) (.ref CTry) = some false)
    (ne2_7 : (CReckon == CTry) = false)
    (sb3_5 : PySem.W.subIn K (.ref CTake) (.ref CIf) = some false)
    (ne3_5 : (CTake == CIf) = false)
    (sb3_6 : PySem.W.subIn K (.ref CTake) (.ref CEither) = some false)
    (ne3_6 : (CTake == CEither) = false)
    (sb3_7 : PySem.W.subIn K (.ref CTake) (.ref CTry) = some false)
    (ne3_7 : (CTake == CTry) = false)
    (sb4_5 : PySem.W.subIn K (.ref CPut) (.ref CIf) = some false)
    (ne4_5 : (CPut == CIf) = false)
    (sb4_6 : PySem.W.subIn K (.ref CPut) (.ref CEither) = some false)
    (ne4_6 : (CPut == CEither) = false)
    (sb4_7 : PySem.W.subIn K (.ref CPut) (.ref CTry) = some false)
    (ne4_7 : (CPut == CTry) = false)
    (sb8_5 : PySem.W.subIn K (.ref CThrow) (.ref CIf) = some false)
    (ne8_5 : (CThrow == CIf) = false)
    (sb8_6 : PySem.W.subIn K (.ref CThrow) (.ref CEither) = some false)
    (ne8_6 : (CThrow == CEither) = false)
    (sb8_7 : PySem.W.subIn K (.ref CThrow) (.ref CTry) = some false)
    (ne8_7 : (CThrow == CTry) = false)
    (sb9_5 : PySem.W.subIn K (.ref CWait) (.ref CIf) = some false)
    (ne9_5 : (CWait == CIf) = false)
    (sb9_6 : PySem.W.subIn K (.ref CWait) (.ref CEither) = some false)
    (ne9_6 : (CWait == CEither) = false)
    (sb9_7 : PySem.W.subIn K (.ref CWait) (.ref CTry) = some false)
    (ne9_7 : (CWait == CTry) = false)
    (sb2_1 : PySem.W.subIn K (.ref CReckon) (.ref CLet) = some false)
    (ne2_1 : (CReckon == CLet) = false)
    (sb3_1 : PySem.W.subIn K (.ref CTake) (.ref CLet) = some false)
    (ne3_1 : (CTake == CLet) = false)
    (sb3_2 : PySem.W.subIn K (.ref CTake) (.ref CReckon) = some false)
    (ne3_2 : (CTake == CReckon) = false)
    (sb4_1 : PySem.W.subIn K (.ref CPut) (.ref CLet) = some false)
    (ne4_1 : (CPut == CLet) = false)
    (sb4_2 : PySem.W.subIn K (.ref CPut) (.ref CReckon) = some false)
    (ne4_2 : (CPut == CReckon) = false)
    (sb4_3 : PySem.W.subIn K (.ref CPut) (.ref CTake) = some false)
    (ne4_3 : (CPut == CTake) = false)
    (sb8_1 : PySem.W.subIn K (.ref CThrow) (.ref CLet) = some false)
    (ne8_1 : (CThrow == CLet) = false)
    (sb8_2 : PySem.W.subIn K (.ref CThrow) (.ref CReckon) = some false)
    (ne8_2 : (CThrow == CReckon) = false)
    (sb8_3 : PySem.W.subIn K (.ref CThrow) (.ref CTake) = some false)
    (ne8_3 : (CThrow == CTake) = false)
    (sb8_4 : PySem.W.subIn K (.ref CThrow) (.ref CPut) = some false)
    (ne8_4 : (CThrow == CPut) = false)
    (sb9_1 : PySem.W.subIn K (.ref CWait) (.ref CLet) = some false)
    (ne9_1 : (CWait == CLet) = false)
    (sb9_2 : PySem.W.subIn K (.ref CWait) (.ref CReckon) = some false)
    (ne9_2 : (CWait == CReckon) = false)
    (sb9_3 : PySem.W.subIn K (.ref CWait) (.ref CTake) = some false)
    (ne9_3 : (CWait == CTake) = false)
    (sb9_4 : PySem.W.subIn K (.ref CWait) (.ref CPut) = some false)
    (ne9_4 : (CWait == CPut) = false)
    (sb9_8 : PySem.W.subIn K (.ref CWait) (.ref CThrow) = some false)
    (ne9_8 : (CWait == CThrow) = false)
    (sb6_5 : PySem.W.subIn K (.ref CEither) (.ref CIf) = some false)
    (ne6_5 : (CEither == CIf) = false)
    (sb7_5 : PySem.W.subIn K (.ref CTry) (.ref CIf) = some false)
    (ne7_5 : (CTry == CIf) = false)
    (sb7_6 : PySem.W.subIn K (.ref CTry) (.ref CEither) = some false)
    (ne7_6 : (CTry == CEither) = false)
    (ty1 : PySem.W.typeIn K (.ref CLet) = some (.type "type"))
    (ty2 : PySem.W.typeIn K (.ref CReckon) = some (.type "type"))
    (ty3 : PySem.W.typeIn K (.ref CTake) = some (.type "type"))
    (ty4 : PySem.W.typeIn K (.ref CPut) = some (.type "type"))
    (ty5 : PySem.W.typeIn K (.ref CIf) = some (.type "type"))
    (ty6 : PySem.W.typeIn K (.ref CEither) = some (.type "type"))
    (ty7 : PySem.W.typeIn K (.ref CTry) = some (.type "type"))
    (ty8 : PySem.W.typeIn K (.ref CThrow) = some (.type "type"))
    (hn : PySem.W.specialIn K (.builtin "object.__class__") "__get__" = some (some (.builtin "getset_descriptor.__get__")))
    (htk : PySem.W.takesIn K (.builtin "object.__class__") = some true)
    (z1 : PySem.W.nsIn K mainGlobals "bool" = some none)
    (z2 : PySem.W.nsIn K mainGlobals "int" = some none)
    (z3 : PySem.W.nsIn K mainGlobals "isinstance" = some none)
    (z4 : PySem.W.nsIn K mainGlobals "len" = some none)
    (z5 : PySem.W.nsIn K mainGlobals "list" = some none)
    (z6 : PySem.W.nsIn K mainGlobals "max" = some none)
    (z7 : PySem.W.nsIn K mainGlobals "range" = some none)
    (z8 : PySem.W.nsIn K mainGlobals "sum" = some none)
    (z9 : PySem.W.nsIn K mainGlobals "tuple" = some none) :
    ∃ fd : FuncData, (∀ (s : Shared) (v : Value), BindsTo s fd ⟨[v], []⟩ [("_law_script", v)]) ∧ ∀ base : Heap, K.In base → base.Ns mainGlobals mg → FnOk l.prog w K mg base CX0 44 fa fd ["_law_script"] (spLaw K) := by
  have e := hfa.symm.trans (PySem.W.mg_of X G a38)
  cases e
  have F1 := fun_mk (st := s_Let___init__) l1 c1 k1
  have b1 := F1.binds (ps := ["self", "slot", "number"]) fun _ _ _ _ _ _ us hl => match us, hl with | [_, _, _], _ => rfl
  have F2 := fun_mk (st := s_Reckon___init__) l2 c2 k2
  have b2 := F2.binds (ps := ["self", "word", "slot", "one", "other"]) fun _ _ _ _ _ _ us hl => match us, hl with | [_, _, _, _, _], _ => rfl
  have F3 := fun_mk (st := s_Take___init__) l3 c3 k3
  have b3 := F3.binds (ps := ["self", "slot", "place"]) fun _ _ _ _ _ _ us hl => match us, hl with | [_, _, _], _ => rfl
  have F4 := fun_mk (st := s_Put___init__) l4 c4 k4
  have b4 := F4.binds (ps := ["self", "place", "slot"]) fun _ _ _ _ _ _ us hl => match us, hl with | [_, _, _], _ => rfl
  have F5 := fun_mk (st := s_If___init__) l5 c5 k5
  have b5 := F5.binds (ps := ["self", "slot", "parts", "others"]) fun _ _ _ _ _ _ us hl => match us, hl with | [_, _, _, _], _ => rfl
  have F6 := fun_mk (st := s_Either___init__) l6 c6 k6
  have b6 := F6.binds (ps := ["self", "parts", "others"]) fun _ _ _ _ _ _ us hl => match us, hl with | [_, _, _], _ => rfl
  have F7 := fun_mk (st := s_Try___init__) l7 c7 k7
  have b7 := F7.binds (ps := ["self", "parts", "name", "slot", "others"]) fun _ _ _ _ _ _ us hl => match us, hl with | [_, _, _, _, _], _ => rfl
  have F8 := fun_mk (st := s_Throw___init__) l8 c8 k8
  have b8 := F8.binds (ps := ["self", "name", "slot"]) fun _ _ _ _ _ _ us hl => match us, hl with | [_, _, _], _ => rfl
  have F9 := fun_mk (st := s_Part_long) l9 c9 k9
  have b9 := F9.binds (ps := ["self"]) fun _ _ _ _ _ _ us hl => match us, hl with | [_], _ => rfl
  have F10 := fun_mk (st := s_Let_long) l10 c10 k10
  have b10 := F10.binds (ps := ["self"]) fun _ _ _ _ _ _ us hl => match us, hl with | [_], _ => rfl
  have F11 := fun_mk (st := s_Reckon_long) l11 c11 k11
  have b11 := F11.binds (ps := ["self"]) fun _ _ _ _ _ _ us hl => match us, hl with | [_], _ => rfl
  have F12 := fun_mk (st := s_Take_long) l12 c12 k12
  have b12 := F12.binds (ps := ["self"]) fun _ _ _ _ _ _ us hl => match us, hl with | [_], _ => rfl
  have F13 := fun_mk (st := s_Put_long) l13 c13 k13
  have b13 := F13.binds (ps := ["self"]) fun _ _ _ _ _ _ us hl => match us, hl with | [_], _ => rfl
  have F14 := fun_mk (st := s_Throw_long) l14 c14 k14
  have b14 := F14.binds (ps := ["self"]) fun _ _ _ _ _ _ us hl => match us, hl with | [_], _ => rfl
  have F15 := fun_mk (st := s_Wait_long) l15 c15 k15
  have b15 := F15.binds (ps := ["self"]) fun _ _ _ _ _ _ us hl => match us, hl with | [_], _ => rfl
  have F16 := fun_mk (st := s_list_long) l16 c16 k16
  have b16 := F16.binds (ps := ["parts"]) fun _ _ _ _ _ _ us hl => match us, hl with | [_], _ => rfl
  have F17 := fun_mk (st := s_If_long) l17 c17 k17
  have b17 := F17.binds (ps := ["self"]) fun _ _ _ _ _ _ us hl => match us, hl with | [_], _ => rfl
  have F18 := fun_mk (st := s_Either_long) l18 c18 k18
  have b18 := F18.binds (ps := ["self"]) fun _ _ _ _ _ _ us hl => match us, hl with | [_], _ => rfl
  have F19 := fun_mk (st := s_Try_long) l19 c19 k19
  have b19 := F19.binds (ps := ["self"]) fun _ _ _ _ _ _ us hl => match us, hl with | [_], _ => rfl
  have F20 := fun_mk (st := s_plain_rows) l20 c20 k20
  have b20 := F20.binds (ps := ["part"]) fun _ _ _ _ _ _ us hl => match us, hl with | [_], _ => rfl
  have F21 := fun_mk (st := s_first_row) l21 c21 k21
  have b21 := F21.binds (ps := ["part", "second"]) fun _ _ _ _ _ _ us hl => match us, hl with | [_, _], _ => rfl
  have F22 := fun_mk (st := s_rows_between) l22 c22 k22
  have b22 := F22.binds (ps := ["part", "behind"]) fun _ _ _ _ _ _ us hl => match us, hl with | [_, _], _ => rfl
  have F23 := fun_mk (st := s_list_rows) l23 c23 k23
  have b23 := F23.binds (ps := ["parts", "first"]) fun _ _ _ _ _ _ us hl => match us, hl with | [_, _], _ => rfl
  have F24 := fun_mk (st := s_part_rows) l24 c24 k24
  have b24 := F24.binds (ps := ["part", "first"]) fun _ _ _ _ _ _ us hl => match us, hl with | [_, _], _ => rfl
  have F25 := fun_mk (st := s_sided_rows) l25 c25 k25
  have b25 := F25.binds (ps := ["part", "first"]) fun _ _ _ _ _ _ us hl => match us, hl with | [_, _], _ => rfl
  have F26 := fun_mk (st := s_rows_of) l26 c26 k26
  have b26 := F26.binds (ps := ["deed"]) fun _ _ _ _ _ _ us hl => match us, hl with | [_], _ => rfl
  have F27 := fun_mk (st := s__law_mixed) l27 c27 k27
  have b27 := F27.binds (ps := ["_law_cell"]) fun _ _ _ _ _ _ us hl => match us, hl with | [_], _ => rfl
  have F28 := fun_mk (st := s__law_wide) l28 c28 k28
  have b28 := F28.binds (ps := ["_law_cell"]) fun _ _ _ _ _ _ us hl => match us, hl with | [_], _ => rfl
  have F29 := fun_mk (st := s__law_names) l29 c29 k29
  have b29 := F29.binds (ps := ["_law_cell"]) fun _ _ _ _ _ _ us hl => match us, hl with | [_], _ => rfl
  have F30 := fun_mk (st := s__law_plain) l30 c30 k30
  have b30 := F30.binds (ps := ["_law_mixed_here", "_law_cell"]) fun _ _ _ _ _ _ us hl => match us, hl with | [_, _], _ => rfl
  have F31 := fun_mk (st := s__law_sided) l31 c31 k31
  have b31 := F31.binds (ps := ["_law_mixed_here", "_law_one", "_law_other", "_law_names_here"]) fun _ _ _ _ _ _ us hl => match us, hl with | [_, _, _, _], _ => rfl
  have F32 := fun_mk (st := s__law_tree) l32 c32 k32
  have b32 := F32.binds (ps := ["_law_cells", "_law_depth", "_law_names_here"]) fun _ _ _ _ _ _ us hl => match us, hl with | [_, _, _], _ => rfl
  have F33 := fun_mk (st := s__law_made) l33 c33 k33
  have b33 := F33.binds (ps := ["_law_tree_here"]) fun _ _ _ _ _ _ us hl => match us, hl with | [_], _ => rfl
  have F34 := fun_mk (st := s__law_ahead) l34 c34 k34
  have b34 := F34.binds (ps := ["_law_rows"]) fun _ _ _ _ _ _ us hl => match us, hl with | [_], _ => rfl
  have F35 := fun_mk (st := s__law_one_back) l35 c35 k35
  have b35 := F35.binds (ps := ["_law_row"]) fun _ _ _ _ _ _ us hl => match us, hl with | [_], _ => rfl
  have F36 := fun_mk (st := s__law_joined) l36 c36 k36
  have b36 := F36.binds (ps := ["_law_row", "_law_one", "_law_other"]) fun _ _ _ _ _ _ us hl => match us, hl with | [_, _, _], _ => rfl
  have F37 := fun_mk (st := s__law_back) l37 c37 k37
  have b37 := F37.binds (ps := ["_law_rows", "_law_at", "_law_end"]) fun _ _ _ _ _ _ us hl => match us, hl with | [_, _, _], _ => rfl
  have F38 := fun_mk (st := s_law) l38 c38 k38
  have b38 := F38.binds (ps := ["_law_script"]) fun _ _ _ _ _ _ us hl => match us, hl with | [_], _ => rfl
  let AA : Nat → Addr := fun k => match k with | 0 => CPart | 1 => CLet | 2 => CReckon | 3 => CTake | 4 => CPut | 5 => CIf | 6 => CEither | 7 => CTry | 8 => CThrow | 9 => CWait | _ => CPart
  have CL : ∀ k, Cls K (AA k) := fun k => match k with | 0 => ⟨pgPart, hdPart, poPart, saPart⟩ | 1 => ⟨pgLet, hdLet, poLet, saLet⟩ | 2 => ⟨pgReckon, hdReckon, poReckon, saReckon⟩ | 3 => ⟨pgTake, hdTake, poTake, saTake⟩ | 4 => ⟨pgPut, hdPut, poPut, saPut⟩ | 5 => ⟨pgIf, hdIf, poIf, saIf⟩ | 6 => ⟨pgEither, hdEither, poEither, saEither⟩ | 7 => ⟨pgTry, hdTry, poTry, saTry⟩ | 8 => ⟨pgThrow, hdThrow, poThrow, saThrow⟩ | 9 => ⟨pgWait, hdWait, poWait, saWait⟩ | _ + 10 => ⟨pgPart, hdPart, poPart, saPart⟩
  have TY1 : ∀ (H : Hp) (a dx : Addr) (fs : List (Str × V)), H a = some (.ins CLet dx fs) → TyOf K H (.ref a) (.ref CLet) := fun H a dx fs e => .ins e (CL 1) haLet hn htk hmLet
  have TY2 : ∀ (H : Hp) (a dx : Addr) (fs : List (Str × V)), H a = some (.ins CReckon dx fs) → TyOf K H (.ref a) (.ref CReckon) := fun H a dx fs e => .ins e (CL 2) haReckon hn htk hmReckon
  have TY3 : ∀ (H : Hp) (a dx : Addr) (fs : List (Str × V)), H a = some (.ins CTake dx fs) → TyOf K H (.ref a) (.ref CTake) := fun H a dx fs e => .ins e (CL 3) haTake hn htk hmTake
  have TY4 : ∀ (H : Hp) (a dx : Addr) (fs : List (Str × V)), H a = some (.ins CPut dx fs) → TyOf K H (.ref a) (.ref CPut) := fun H a dx fs e => .ins e (CL 4) haPut hn htk hmPut
  have TY5 : ∀ (H : Hp) (a dx : Addr) (fs : List (Str × V)), H a = some (.ins CIf dx fs) → TyOf K H (.ref a) (.ref CIf) := fun H a dx fs e => .ins e (CL 5) haIf hn htk hmIf
  have TY6 : ∀ (H : Hp) (a dx : Addr) (fs : List (Str × V)), H a = some (.ins CEither dx fs) → TyOf K H (.ref a) (.ref CEither) := fun H a dx fs e => .ins e (CL 6) haEither hn htk hmEither
  have TY7 : ∀ (H : Hp) (a dx : Addr) (fs : List (Str × V)), H a = some (.ins CTry dx fs) → TyOf K H (.ref a) (.ref CTry) := fun H a dx fs e => .ins e (CL 7) haTry hn htk hmTry
  have TY8 : ∀ (H : Hp) (a dx : Addr) (fs : List (Str × V)), H a = some (.ins CThrow dx fs) → TyOf K H (.ref a) (.ref CThrow) := fun H a dx fs e => .ins e (CL 8) haThrow hn htk hmThrow
  have TY9 : ∀ (H : Hp) (a dx : Addr) (fs : List (Str × V)), H a = some (.ins CWait dx fs) → TyOf K H (.ref a) (.ref CWait) := fun H a dx fs e => .ins e (CL 9) haWait hn htk hmWait
  have T : Txt K mg ⟨AA, f1, PySem.W.fnOf "__init__" "Let.__init__" (defArgs s_Let___init__) (defBody s_Let___init__) (defScope s_Let___init__) .none kV1 dc1 pm1 an1 cd1 ct1, f2, PySem.W.fnOf "__init__" "Reckon.__init__" (defArgs s_Reckon___init__) (defBody s_Reckon___init__) (defScope s_Reckon___init__) .none kV2 dc2 pm2 an2 cd2 ct2, f3, PySem.W.fnOf "__init__" "Take.__init__" (defArgs s_Take___init__) (defBody s_Take___init__) (defScope s_Take___init__) .none kV3 dc3 pm3 an3 cd3 ct3, f4, PySem.W.fnOf "__init__" "Put.__init__" (defArgs s_Put___init__) (defBody s_Put___init__) (defScope s_Put___init__) .none kV4 dc4 pm4 an4 cd4 ct4, f5, PySem.W.fnOf "__init__" "If.__init__" (defArgs s_If___init__) (defBody s_If___init__) (defScope s_If___init__) .none kV5 dc5 pm5 an5 cd5 ct5, f6, PySem.W.fnOf "__init__" "Either.__init__" (defArgs s_Either___init__) (defBody s_Either___init__) (defScope s_Either___init__) .none kV6 dc6 pm6 an6 cd6 ct6, f7, PySem.W.fnOf "__init__" "Try.__init__" (defArgs s_Try___init__) (defBody s_Try___init__) (defScope s_Try___init__) .none kV7 dc7 pm7 an7 cd7 ct7, f8, PySem.W.fnOf "__init__" "Throw.__init__" (defArgs s_Throw___init__) (defBody s_Throw___init__) (defScope s_Throw___init__) .none kV8 dc8 pm8 an8 cd8 ct8, f9, PySem.W.fnOf "long" "Part.long" (defArgs s_Part_long) (defBody s_Part_long) (defScope s_Part_long) .none kV9 dc9 pm9 an9 cd9 ct9, f10, PySem.W.fnOf "long" "Let.long" (defArgs s_Let_long) (defBody s_Let_long) (defScope s_Let_long) .none kV10 dc10 pm10 an10 cd10 ct10, f11, PySem.W.fnOf "long" "Reckon.long" (defArgs s_Reckon_long) (defBody s_Reckon_long) (defScope s_Reckon_long) .none kV11 dc11 pm11 an11 cd11 ct11, f12, PySem.W.fnOf "long" "Take.long" (defArgs s_Take_long) (defBody s_Take_long) (defScope s_Take_long) .none kV12 dc12 pm12 an12 cd12 ct12, f13, PySem.W.fnOf "long" "Put.long" (defArgs s_Put_long) (defBody s_Put_long) (defScope s_Put_long) .none kV13 dc13 pm13 an13 cd13 ct13, f14, PySem.W.fnOf "long" "Throw.long" (defArgs s_Throw_long) (defBody s_Throw_long) (defScope s_Throw_long) .none kV14 dc14 pm14 an14 cd14 ct14, f15, PySem.W.fnOf "long" "Wait.long" (defArgs s_Wait_long) (defBody s_Wait_long) (defScope s_Wait_long) .none kV15 dc15 pm15 an15 cd15 ct15, f16, PySem.W.fnOf "list_long" "list_long" (defArgs s_list_long) (defBody s_list_long) (defScope s_list_long) .none kV16 dc16 pm16 an16 cd16 ct16, f17, PySem.W.fnOf "long" "If.long" (defArgs s_If_long) (defBody s_If_long) (defScope s_If_long) .none kV17 dc17 pm17 an17 cd17 ct17, f18, PySem.W.fnOf "long" "Either.long" (defArgs s_Either_long) (defBody s_Either_long) (defScope s_Either_long) .none kV18 dc18 pm18 an18 cd18 ct18, f19, PySem.W.fnOf "long" "Try.long" (defArgs s_Try_long) (defBody s_Try_long) (defScope s_Try_long) .none kV19 dc19 pm19 an19 cd19 ct19, f20, PySem.W.fnOf "plain_rows" "plain_rows" (defArgs s_plain_rows) (defBody s_plain_rows) (defScope s_plain_rows) .none kV20 dc20 pm20 an20 cd20 ct20, f21, PySem.W.fnOf "first_row" "first_row" (defArgs s_first_row) (defBody s_first_row) (defScope s_first_row) .none kV21 dc21 pm21 an21 cd21 ct21, f22, PySem.W.fnOf "rows_between" "rows_between" (defArgs s_rows_between) (defBody s_rows_between) (defScope s_rows_between) .none kV22 dc22 pm22 an22 cd22 ct22, f23, PySem.W.fnOf "list_rows" "list_rows" (defArgs s_list_rows) (defBody s_list_rows) (defScope s_list_rows) .none kV23 dc23 pm23 an23 cd23 ct23, f24, PySem.W.fnOf "part_rows" "part_rows" (defArgs s_part_rows) (defBody s_part_rows) (defScope s_part_rows) .none kV24 dc24 pm24 an24 cd24 ct24, f25, PySem.W.fnOf "sided_rows" "sided_rows" (defArgs s_sided_rows) (defBody s_sided_rows) (defScope s_sided_rows) .none kV25 dc25 pm25 an25 cd25 ct25, f26, PySem.W.fnOf "rows_of" "rows_of" (defArgs s_rows_of) (defBody s_rows_of) (defScope s_rows_of) .none kV26 dc26 pm26 an26 cd26 ct26, f27, PySem.W.fnOf "_law_mixed" "_law_mixed" (defArgs s__law_mixed) (defBody s__law_mixed) (defScope s__law_mixed) .none kV27 dc27 pm27 an27 cd27 ct27, f28, PySem.W.fnOf "_law_wide" "_law_wide" (defArgs s__law_wide) (defBody s__law_wide) (defScope s__law_wide) .none kV28 dc28 pm28 an28 cd28 ct28, f29, PySem.W.fnOf "_law_names" "_law_names" (defArgs s__law_names) (defBody s__law_names) (defScope s__law_names) .none kV29 dc29 pm29 an29 cd29 ct29, f30, PySem.W.fnOf "_law_plain" "_law_plain" (defArgs s__law_plain) (defBody s__law_plain) (defScope s__law_plain) .none kV30 dc30 pm30 an30 cd30 ct30, f31, PySem.W.fnOf "_law_sided" "_law_sided" (defArgs s__law_sided) (defBody s__law_sided) (defScope s__law_sided) .none kV31 dc31 pm31 an31 cd31 ct31, f32, PySem.W.fnOf "_law_tree" "_law_tree" (defArgs s__law_tree) (defBody s__law_tree) (defScope s__law_tree) .none kV32 dc32 pm32 an32 cd32 ct32, f33, PySem.W.fnOf "_law_made" "_law_made" (defArgs s__law_made) (defBody s__law_made) (defScope s__law_made) .none kV33 dc33 pm33 an33 cd33 ct33, f34, PySem.W.fnOf "_law_ahead" "_law_ahead" (defArgs s__law_ahead) (defBody s__law_ahead) (defScope s__law_ahead) .none kV34 dc34 pm34 an34 cd34 ct34, f35, PySem.W.fnOf "_law_one_back" "_law_one_back" (defArgs s__law_one_back) (defBody s__law_one_back) (defScope s__law_one_back) .none kV35 dc35 pm35 an35 cd35 ct35, f36, PySem.W.fnOf "_law_joined" "_law_joined" (defArgs s__law_joined) (defBody s__law_joined) (defScope s__law_joined) .none kV36 dc36 pm36 an36 cd36 ct36, f37, PySem.W.fnOf "_law_back" "_law_back" (defArgs s__law_back) (defBody s__law_back) (defScope s__law_back) .none kV37 dc37 pm37 an37 cd37 ct37, fa, PySem.W.fnOf "law" "law" (defArgs s_law) (defBody s_law) (defScope s_law) .none kV38 dc38 pm38 an38 cd38 ct38⟩ := ⟨F1, b1, F2, b2, F3, b3, F4, b4, F5, b5, F6, b6, F7, b7, F8, b8, F9, b9, F10, b10, F11, b11, F12, b12, F13, b13, F14, b14, F15, b15, F16, b16, PySem.W.mg_of X G a16, F17, b17, F18, b18, F19, b19, F20, b20, PySem.W.mg_of X G a20, F21, b21, PySem.W.mg_of X G a21, F22, b22, PySem.W.mg_of X G a22, F23, b23, PySem.W.mg_of X G a23, F24, b24, PySem.W.mg_of X G a24, F25, b25, PySem.W.mg_of X G a25, F26, b26, PySem.W.mg_of X G a26, F27, b27, PySem.W.mg_of X G a27, F28, b28, PySem.W.mg_of X G a28, F29, b29, PySem.W.mg_of X G a29, F30, b30, PySem.W.mg_of X G a30, F31, b31, PySem.W.mg_of X G a31, F32, b32, PySem.W.mg_of X G a32, F33, b33, PySem.W.mg_of X G a33, F34, b34, PySem.W.mg_of X G a34, F35, b35, PySem.W.mg_of X G a35, F36, b36, PySem.W.mg_of X G a36, F37, b37, PySem.W.mg_of X G a37, F38, b38, PySem.W.mg_of X G a38, PySem.W.mg_of X G nCPart, mkPart, ioPart, kcPart, PySem.W.mg_of X G nCLet, ⟨mkLet, fi_Let___init__, i1, kcLet⟩, PySem.W.mg_of X G nCReckon, ⟨mkReckon, fi_Reckon___init__, i2, kcReckon⟩, PySem.W.mg_of X G nCTake, ⟨mkTake, fi_Take___init__, i3, kcTake⟩, PySem.W.mg_of X G nCPut, ⟨mkPut, fi_Put___init__, i4, kcPut⟩, PySem.W.mg_of X G nCIf, ⟨mkIf, fi_If___init__, i5, kcIf⟩, PySem.W.mg_of X G nCEither, ⟨mkEither, fi_Either___init__, i6, kcEither⟩, PySem.W.mg_of X G nCTry, ⟨mkTry, fi_Try___init__, i7, kcTry⟩, PySem.W.mg_of X G nCThrow, ⟨mkThrow, fi_Throw___init__, i8, kcThrow⟩, PySem.W.mg_of X G nCWait, mkWait, ioWait, kcWait, ⟨fi_Part_long, i9, k9⟩, ⟨fi_Let_long, i10, k10⟩, ⟨fi_Reckon_long, i11, k11⟩, ⟨fi_Take_long, i12, k12⟩, ⟨fi_Put_long, i13, k13⟩, ⟨fi_If_long, i17, k17⟩, ⟨fi_Either_long, i18, k18⟩, ⟨fi_Try_long, i19, k19⟩, ⟨fi_Throw_long, i14, k14⟩, ⟨fi_Wait_long, i15, k15⟩, (fun c hc => match c, hc with | 0, hc => absurd hc (by decide) | 1, hc => absurd hc (by decide) | 2, hc => absurd hc (by decide) | 3, hc => absurd hc (by decide) | 4, hc => absurd hc (by decide) | 5, hc => absurd hc (by decide) | 6, hc => absurd hc (by decide) | 7, hc => absurd hc (by decide) | 8, hc => absurd hc (by decide) | 9, hc => absurd hc (by decide) | _ + 10, _ => ⟨fi_Part_long, i9, k9⟩), CL, ⟨all_cons ⟨CL 1, naLet_slot⟩ (all_cons ⟨CL 2, naReckon_slot⟩ (all_cons ⟨CL 3, naTake_slot⟩ (all_cons ⟨CL 4, naPut_slot⟩ (all_cons ⟨CL 5, naIf_slot⟩ (all_cons ⟨CL 7, naTry_slot⟩ (all_cons ⟨CL 8, naThrow_slot⟩ (fun k hk => absurd hk (by simp)))))))), all_cons ⟨CL 1, naLet_number⟩ (fun k hk => absurd hk (by simp)), all_cons ⟨CL 2, naReckon_word⟩ (fun k hk => absurd hk (by simp)), all_cons ⟨CL 2, naReckon_one⟩ (fun k hk => absurd hk (by simp)), all_cons ⟨CL 2, naReckon_other⟩ (fun k hk => absurd hk (by simp)), all_cons ⟨CL 3, naTake_place⟩ (all_cons ⟨CL 4, naPut_place⟩ (fun k hk => absurd hk (by simp))), all_cons ⟨CL 7, naTry_name⟩ (all_cons ⟨CL 8, naThrow_name⟩ (fun k hk => absurd hk (by simp))), all_cons ⟨CL 5, naIf_parts⟩ (all_cons ⟨CL 6, naEither_parts⟩ (all_cons ⟨CL 7, naTry_parts⟩ (fun k hk => absurd hk (by simp)))), all_cons ⟨CL 5, naIf_others⟩ (all_cons ⟨CL 6, naEither_others⟩ (all_cons ⟨CL 7, naTry_others⟩ (fun k hk => absurd hk (by simp)))), all_cons (fun H p dx fs e => ⟨_, _, TY1 H p dx fs e, rfl, kit_nsub ne1_5 hmIf ty5 sb1_5⟩) (all_cons (fun H p dx fs e => ⟨_, _, TY1 H p dx fs e, rfl, kit_nsub ne1_6 hmEither ty6 sb1_6⟩) (all_cons (fun H p dx fs e => ⟨_, _, TY1 H p dx fs e, rfl, kit_nsub ne1_7 hmTry ty7 sb1_7⟩) (all_cons (fun H p dx fs e => ⟨_, _, TY2 H p dx fs e, rfl, kit_nsub ne2_5 hmIf ty5 sb2_5⟩) (all_cons (fun H p dx fs e => ⟨_, _, TY2 H p dx fs e, rfl, kit_nsub ne2_6 hmEither ty6 sb2_6⟩) (all_cons (fun H p dx fs e => ⟨_, _, TY2 H p dx fs e, rfl, kit_nsub ne2_7 hmTry ty7 sb2_7⟩) (all_cons (fun H p dx fs e => ⟨_, _, TY3 H p dx fs e, rfl, kit_nsub ne3_5 hmIf ty5 sb3_5⟩) (all_cons (fun H p dx fs e => ⟨_, _, TY3 H p dx fs e, rfl, kit_nsub ne3_6 hmEither ty6 sb3_6⟩) (all_cons (fun H p dx fs e => ⟨_, _, TY3 H p dx fs e, rfl, kit_nsub ne3_7 hmTry ty7 sb3_7⟩) (all_cons (fun H p dx fs e => ⟨_, _, TY4 H p dx fs e, rfl, kit_nsub ne4_5 hmIf ty5 sb4_5⟩) (all_cons (fun H p dx fs e => ⟨_, _, TY4 H p dx fs e, rfl, kit_nsub ne4_6 hmEither ty6 sb4_6⟩) (all_cons (fun H p dx fs e => ⟨_, _, TY4 H p dx fs e, rfl, kit_nsub ne4_7 hmTry ty7 sb4_7⟩) (all_cons (fun H p dx fs e => ⟨_, _, TY8 H p dx fs e, rfl, kit_nsub ne8_5 hmIf ty5 sb8_5⟩) (all_cons (fun H p dx fs e => ⟨_, _, TY8 H p dx fs e, rfl, kit_nsub ne8_6 hmEither ty6 sb8_6⟩) (all_cons (fun H p dx fs e => ⟨_, _, TY8 H p dx fs e, rfl, kit_nsub ne8_7 hmTry ty7 sb8_7⟩) (all_cons (fun H p dx fs e => ⟨_, _, TY9 H p dx fs e, rfl, kit_nsub ne9_5 hmIf ty5 sb9_5⟩) (all_cons (fun H p dx fs e => ⟨_, _, TY9 H p dx fs e, rfl, kit_nsub ne9_6 hmEither ty6 sb9_6⟩) (all_cons (fun H p dx fs e => ⟨_, _, TY9 H p dx fs e, rfl, kit_nsub ne9_7 hmTry ty7 sb9_7⟩) (all_cons (fun H p dx fs e => ⟨_, _, TY1 H p dx fs e, rfl, kit_self⟩) (all_cons (fun H p dx fs e => ⟨_, _, TY2 H p dx fs e, rfl, kit_nsub ne2_1 hmLet ty1 sb2_1⟩) (all_cons (fun H p dx fs e => ⟨_, _, TY2 H p dx fs e, rfl, kit_self⟩) (all_cons (fun H p dx fs e => ⟨_, _, TY3 H p dx fs e, rfl, kit_nsub ne3_1 hmLet ty1 sb3_1⟩) (all_cons (fun H p dx fs e => ⟨_, _, TY3 H p dx fs e, rfl, kit_nsub ne3_2 hmReckon ty2 sb3_2⟩) (all_cons (fun H p dx fs e => ⟨_, _, TY3 H p dx fs e, rfl, kit_self⟩) (all_cons (fun H p dx fs e => ⟨_, _, TY4 H p dx fs e, rfl, kit_nsub ne4_1 hmLet ty1 sb4_1⟩) (all_cons (fun H p dx fs e => ⟨_, _, TY4 H p dx fs e, rfl, kit_nsub ne4_2 hmReckon ty2 sb4_2⟩) (all_cons (fun H p dx fs e => ⟨_, _, TY4 H p dx fs e, rfl, kit_nsub ne4_3 hmTake ty3 sb4_3⟩) (all_cons (fun H p dx fs e => ⟨_, _, TY4 H p dx fs e, rfl, kit_self⟩) (all_cons (fun H p dx fs e => ⟨_, _, TY8 H p dx fs e, rfl, kit_nsub ne8_1 hmLet ty1 sb8_1⟩) (all_cons (fun H p dx fs e => ⟨_, _, TY8 H p dx fs e, rfl, kit_nsub ne8_2 hmReckon ty2 sb8_2⟩) (all_cons (fun H p dx fs e => ⟨_, _, TY8 H p dx fs e, rfl, kit_nsub ne8_3 hmTake ty3 sb8_3⟩) (all_cons (fun H p dx fs e => ⟨_, _, TY8 H p dx fs e, rfl, kit_nsub ne8_4 hmPut ty4 sb8_4⟩) (all_cons (fun H p dx fs e => ⟨_, _, TY8 H p dx fs e, rfl, kit_self⟩) (all_cons (fun H p dx fs e => ⟨_, _, TY9 H p dx fs e, rfl, kit_nsub ne9_1 hmLet ty1 sb9_1⟩) (all_cons (fun H p dx fs e => ⟨_, _, TY9 H p dx fs e, rfl, kit_nsub ne9_2 hmReckon ty2 sb9_2⟩) (all_cons (fun H p dx fs e => ⟨_, _, TY9 H p dx fs e, rfl, kit_nsub ne9_3 hmTake ty3 sb9_3⟩) (all_cons (fun H p dx fs e => ⟨_, _, TY9 H p dx fs e, rfl, kit_nsub ne9_4 hmPut ty4 sb9_4⟩) (all_cons (fun H p dx fs e => ⟨_, _, TY9 H p dx fs e, rfl, kit_nsub ne9_8 hmThrow ty8 sb9_8⟩) (all_cons (fun H p dx fs e => ⟨_, _, TY9 H p dx fs e, rfl, kit_self⟩) (all_cons (fun H p dx fs e => ⟨_, _, TY5 H p dx fs e, rfl, kit_self⟩) (all_cons (fun H p dx fs e => ⟨_, _, TY6 H p dx fs e, rfl, kit_nsub ne6_5 hmIf ty5 sb6_5⟩) (all_cons (fun H p dx fs e => ⟨_, _, TY6 H p dx fs e, rfl, kit_self⟩) (all_cons (fun H p dx fs e => ⟨_, _, TY7 H p dx fs e, rfl, kit_nsub ne7_5 hmIf ty5 sb7_5⟩) (all_cons (fun H p dx fs e => ⟨_, _, TY7 H p dx fs e, rfl, kit_nsub ne7_6 hmEither ty6 sb7_6⟩) (all_cons (fun H p dx fs e => ⟨_, _, TY7 H p dx fs e, rfl, kit_self⟩) (fun k hk => absurd hk (by simp))))))))))))))))))))))))))))))))))))))))))))))⟩, PySem.W.mg_none_of X G z1, PySem.W.mg_none_of X G z2, PySem.W.mg_none_of X G z3, PySem.W.mg_none_of X G z4, PySem.W.mg_none_of X G z5, PySem.W.mg_none_of X G z6, PySem.W.mg_none_of X G z7, PySem.W.mg_none_of X G z8, PySem.W.mg_none_of X G z9⟩
  refine ⟨PySem.W.fnOf "law" "law" (defArgs s_law) (defBody s_law) (defScope s_law) .none kV38 dc38 pm38 an38 cd38 ct38, fun s v => .of_eq rfl, fun base _ _ => ?_⟩
  have G_Let___init__ := ok_Let___init__ (P := l.prog) (w := w) (base := base) T 
  have G_Reckon___init__ := ok_Reckon___init__ (P := l.prog) (w := w) (base := base) T 
  have G_Take___init__ := ok_Take___init__ (P := l.prog) (w := w) (base := base) T 
  have G_Put___init__ := ok_Put___init__ (P := l.prog) (w := w) (base := base) T 
  have G_If___init__ := ok_If___init__ (P := l.prog) (w := w) (base := base) T 
  have G_Either___init__ := ok_Either___init__ (P := l.prog) (w := w) (base := base) T 
  have G_Try___init__ := ok_Try___init__ (P := l.prog) (w := w) (base := base) T 
  have G_Throw___init__ := ok_Throw___init__ (P := l.prog) (w := w) (base := base) T 
  have G_Part_long := ok_Part_long (P := l.prog) (w := w) (base := base) T 
  have G_Let_long := ok_Let_long (P := l.prog) (w := w) (base := base) T 
  have G_Reckon_long := ok_Reckon_long (P := l.prog) (w := w) (base := base) T 
  have G_Take_long := ok_Take_long (P := l.prog) (w := w) (base := base) T 
  have G_Put_long := ok_Put_long (P := l.prog) (w := w) (base := base) T 
  have G_Throw_long := ok_Throw_long (P := l.prog) (w := w) (base := base) T 
  have G_Wait_long := ok_Wait_long (P := l.prog) (w := w) (base := base) T 
  have GR0 := grp0_ok (P := l.prog) (w := w) (base := base) T G_Let_long G_Part_long G_Put_long G_Reckon_long G_Take_long G_Throw_long G_Wait_long 20
  have G_list_long := GR0.f_list_long
  have G_If_long := GR0.f_If_long
  have G_Either_long := GR0.f_Either_long
  have G_Try_long := GR0.f_Try_long
  have G_long := GR0.m_long
  have G_plain_rows := ok_plain_rows (P := l.prog) (w := w) (base := base) T 
  have G_first_row := ok_first_row (P := l.prog) (w := w) (base := base) T 
  have G_rows_between := ok_rows_between (P := l.prog) (w := w) (base := base) T 
  have GR1 := grp1_ok (P := l.prog) (w := w) (base := base) T G_first_row G_list_long G_plain_rows G_rows_between G_long 20
  have G_list_rows := GR1.f_list_rows
  have G_part_rows := GR1.f_part_rows
  have G_sided_rows := GR1.f_sided_rows
  have G_rows_of := ok_rows_of (P := l.prog) (w := w) (base := base) T G_list_rows
  have G__law_mixed := ok__law_mixed (P := l.prog) (w := w) (base := base) T 
  have G__law_wide := ok__law_wide (P := l.prog) (w := w) (base := base) T 
  have G__law_names := ok__law_names (P := l.prog) (w := w) (base := base) T G__law_mixed
  have G__law_plain := ok__law_plain (P := l.prog) (w := w) (base := base) T G__law_wide
  have G__law_sided := ok__law_sided (P := l.prog) (w := w) (base := base) T 
  have GR2 := grp2_ok (P := l.prog) (w := w) (base := base) T G__law_mixed G__law_plain G__law_sided 5
  have G__law_tree := GR2.f__law_tree
  have GR3 := grp3_ok (P := l.prog) (w := w) (base := base) T G_Either___init__ G_If___init__ G_Let___init__ G_Put___init__ G_Reckon___init__ G_Take___init__ G_Throw___init__ G_Try___init__ 7
  have G__law_made := GR3.f__law_made
  have G__law_ahead := ok__law_ahead (P := l.prog) (w := w) (base := base) T 
  have G__law_one_back := ok__law_one_back (P := l.prog) (w := w) (base := base) T 
  have G__law_joined := ok__law_joined (P := l.prog) (w := w) (base := base) T 
  have GR4 := grp4_ok (P := l.prog) (w := w) (base := base) T G__law_joined G__law_one_back 7
  have G__law_back := GR4.f__law_back
  have G_law := ok_law (P := l.prog) (w := w) (base := base) T G__law_ahead G__law_back G__law_made G__law_names G__law_tree G_rows_of
  exact G_law.imp law_sp
theorem walk {l : PySem.W.OpenLaw} {q : Program} {loose : List Str} {XP : (Str → Option Value) → Heap → Prop} {YP : World → Heap → Prop} {d : DefRec} {K : Params → PySem.W.Frag} (hn : l.most = some 63) (hdf : d.params.defaults = [])
    (hY : ∀ (w : World) (h : Heap), YP w h → (K w.params).In h)
    (F : ∀ (w : World) (mg : Str → Option Value) (fa : Addr) (h : Heap), (K w.params).In h → h.Ns mainGlobals mg → mg d.name = some (.ref fa) →
      ∃ fd : FuncData, (∀ (s : Shared) (u : Value), BindsTo s fd ⟨[u], []⟩ [("_law_script", u)]) ∧ ∀ base : Heap, (K w.params).In base → base.Ns mainGlobals mg → FnOk l.prog w (K w.params) mg base CX0 44 fa fd ["_law_script"] (spLaw (K w.params))) :
    PySem.W.WalkO q loose XP YP l.row.toRowW d [] (fun f vs => PySem.call f vs) :=
  L2.walk_of (n := 63) (k := 44) (x := "_law_script") (CX := fun _ => CX0) (sp := fun w => spLaw (K w.params)) hn (by decide) hdf ⟨rfl, by decide, by decide⟩ hY F (fun _ _ a ns hl _ hS => ⟨a, ns, rfl, hS, hl, fun _ => rfl⟩) fun _ _ _ _ _ z => z
end My
def PySem.W.Fast.tw5801969637379499409 : Unit := ()
def PySem.W.Fast.tw5799571251586862866 : Unit := ()
def PySem.W.Fast.tw12383826803133142348 : Unit := ()
def PySem.W.Fast.tw14069048201886276939 : Unit := ()
def PySem.W.Fast.tw17008245235827749587 : Unit := ()
def PySem.W.Fast.tw7050730746262528974 : Unit := ()
def PySem.W.Fast.tw1026733902347264919 : Unit := ()
def PySem.W.Fast.tw17443667552813134375 : Unit := ()
def PySem.W.Fast.tw2070169848714662291 : Unit := ()
def PySem.W.Fast.tw2532829949016136535 : Unit := ()
def PySem.W.Fast.tw11347957156266617643 : Unit := ()
def PySem.W.Fast.tw17212149286665278779 : Unit := ()
def PySem.W.Fast.tw13742484264569271259 : Unit := ()
def PySem.W.Fast.tw404853861569123384 : Unit := ()
def PySem.W.Fast.tw5113596222167057529 : Unit := ()
def PySem.W.Fast.tw3211184512036767355 : Unit := ()
def PySem.W.Fast.tw11356290557386442496 : Unit := ()
def PySem.W.Fast.tw10770611882529067273 : Unit := ()
def PySem.W.Fast.tw4369195434911956943 : Unit := ()
def PySem.W.Fast.tw17155659037328508312 : Unit := ()
def PySem.W.Fast.tw1651481585590105110 : Unit := ()
def PySem.W.Fast.tw15984204433583978463 : Unit := ()
def PySem.W.Fast.tw10504431914685947799 : Unit := ()
def PySem.W.Fast.tw7628428485474295088 : Unit := ()
def PySem.W.Fast.tw857054180931319633 : Unit := ()
def PySem.W.Fast.tw157230394476304809 : Unit := ()
def PySem.W.Fast.tw17525467039826170261 : Unit := ()
def PySem.W.Fast.tw13206767644718499915 : Unit := ()
def PySem.W.Fast.tw2311618326131444628 : Unit := ()
def PySem.W.Fast.tw9551505618361569956 : Unit := ()
def PySem.W.Fast.tw8089053328747726450 : Unit := ()
def PySem.W.Fast.tw9733033654912129313 : Unit := ()
def PySem.W.Fast.tw14178521296953094130 : Unit := ()
def PySem.W.Fast.tw15699326842896754845 : Unit := ()
def PySem.W.Fast.tw8341898190916899244 : Unit := ()
def PySem.W.Fast.tw5872334341009796433 : Unit := ()
def PySem.W.Fast.tw10229289472855520807 : Unit := ()
def PySem.W.Fast.tw14226391995337630534 : Unit := ()
def PySem.W.Fast.tw2985438242853271182 : Unit := ()
def PySem.W.Fast.tw11650899838152896606 : Unit := ()
def PySem.W.Fast.tw18393720425027667204 : Unit := ()
def PySem.W.Fast.tw10481582020938410316 : Unit := ()
def PySem.W.Fast.tw15133140020879721970 : Unit := ()
def PySem.W.Fast.tw5291878611513767198 : Unit := ()
def PySem.W.Fast.tw17780444561120963886 : Unit := ()
def PySem.W.Fast.tw1708010037990986802 : Unit := ()
def PySem.W.Fast.tw11495122423110474151 : Unit := ()
def PySem.W.Fast.tw986179343109317037 : Unit := ()
def PySem.W.Fast.tw17036453175368386720 : Unit := ()
def PySem.W.Fast.tw2578679185613028454 : Unit := ()
def PySem.W.Fast.tw14606236680335759050 : Unit := ()
def PySem.W.Fast.tw2846899927332673453 : Unit := ()
def PySem.W.Fast.tw681543651717935099 : Unit := ()
def PySem.W.Fast.tw16561610966840756581 : Unit := ()
def PySem.W.Fast.tw16323796285532763084 : Unit := ()
def PySem.W.Fast.tw17476254968641876753 : Unit := ()
def PySem.W.Fast.tw12932461889075988106 : Unit := ()
def PySem.W.Fast.tw13387968925483796415 : Unit := ()
def PySem.W.Fast.tw4426060633108245872 : Unit := ()
def PySem.W.Fast.tw7010226861914313083 : Unit := ()
def PySem.W.Fast.tw1561919750372969470 : Unit := ()
def PySem.W.Fast.tw3939493109570208964 : Unit := ()
def PySem.W.Fast.tw1884857749481438166 : Unit := ()
def PySem.W.Fast.tw10357076188695859495 : Unit := ()
def PySem.W.Fast.tw2841149376858001974 : Unit := ()
def PySem.W.Fast.tw15554508810053990732 : Unit := ()
def PySem.W.Fast.tw4306521048002111624 : Unit := ()
def PySem.W.Fast.tw12956930327668580469 : Unit := ()
def PySem.W.Fast.tw8175914388052417831 : Unit := ()
def PySem.W.Fast.tw14784750768905143374 : Unit := ()
def PySem.W.Fast.tw8678734124982875191 : Unit := ()
def PySem.W.Fast.tw16458950401146871469 : Unit := ()
def PySem.W.Fast.tw16395068750444607462 : Unit := ()
def PySem.W.Fast.tw4545588644503014190 : Unit := ()
def PySem.W.Fast.tw7155361439499569374 : Unit := ()
def PySem.W.Fast.tw11736703679433678770 : Unit := ()
def PySem.W.Fast.tw1044868933800361120 : Unit := ()
def PySem.W.Fast.tw2589454002890542541 : Unit := ()
def PySem.W.Fast.tw18183821284636982552 : Unit := ()
def PySem.W.Fast.tw14214611479543130107 : Unit := ()
def PySem.W.Fast.tw8534958106276067204 : Unit := ()
def PySem.W.Fast.tw15648603279371708461 : Unit := ()
def PySem.W.Fast.tw5267931210810841895 : Unit := ()
def PySem.W.Fast.tw7910095618509472579 : Unit := ()
def PySem.W.Fast.tw15266550575712019857 : Unit := ()
def PySem.W.Fast.tw16913174592587135800 : Unit := ()
def PySem.W.Fast.tw10483642912099624238 : Unit := ()
def PySem.W.Fast.tw9692461274632686155 : Unit := ()
def PySem.W.Fast.tw7734675333622321819 : Unit := ()
def PySem.W.Fast.tw5352787204482576 : Unit := ()
def PySem.W.Fast.tw4980922806782117028 : Unit := ()
def PySem.W.Fast.tw2538720443962153089 : Unit := ()
def PySem.W.Fast.tw9697530345539950499 : Unit := ()
def PySem.W.Fast.tw7886585680268185397 : Unit := ()
def PySem.W.Fast.tw5156952035891653349 : Unit := ()
def PySem.W.Fast.tw8274258280832699234 : Unit := ()
def PySem.W.Fast.tw4358056807387060537 : Unit := ()
def PySem.W.Fast.tw17923475250969655507 : Unit := ()
def PySem.W.Fast.tw5570670470086652117 : Unit := ()
def PySem.W.Fast.tw13794700294675056688 : Unit := ()
def PySem.W.Fast.tw12839928024544082862 : Unit := ()
def PySem.W.Fast.tw10045626001698541048 : Unit := ()
def PySem.W.Fast.tw5689013441958166998 : Unit := ()
def PySem.W.Fast.tw16040431610482704059 : Unit := ()
def PySem.W.Fast.tw1530968821968696840 : Unit := ()
def PySem.W.Fast.tw15260428946860712248 : Unit := ()
def PySem.W.Fast.tw3191261608521281773 : Unit := ()
def PySem.W.Fast.tw4663360157604736402 : Unit := ()
def PySem.W.Fast.tw2835874540358033285 : Unit := ()
def PySem.W.Fast.tw1542608420983296049 : Unit := ()
def PySem.W.Fast.tw13170615903170304443 : Unit := ()
def PySem.W.Fast.tw1749422518478087324 : Unit := ()
def PySem.W.Fast.tw3657267139080052271 : Unit := ()
def PySem.W.Fast.tw6474933747114988826 : Unit := ()
def PySem.W.Fast.tw13550738118675799267 : Unit := ()
def PySem.W.Fast.tw13973200521014948943 : Unit := ()
def PySem.W.Fast.tw5978627820212764623 : Unit := ()
def PySem.W.Fast.tw5644965198651625087 : Unit := ()
def PySem.W.Fast.tw1927512070427977377 : Unit := ()
def PySem.W.Fast.tw8051695346580104066 : Unit := ()
def PySem.W.Fast.tw8514366736961946229 : Unit := ()
def PySem.W.Fast.tw13401233260397511806 : Unit := ()
def PySem.W.Fast.tw9068001557546115079 : Unit := ()
def PySem.W.Fast.tw6561794228537743367 : Unit := ()
def PySem.W.Fast.tw12579575136075001659 : Unit := ()
def PySem.W.Fast.tw11419860831743153704 : Unit := ()
def PySem.W.Fast.tw16362067824586075871 : Unit := ()
def PySem.W.Fast.tw1379959844660277201 : Unit := ()
def PySem.W.Fast.tw12411691214323918667 : Unit := ()
def PySem.W.Fast.tw10009481235890141218 : Unit := ()
def PySem.W.Fast.tw9867994684676072278 : Unit := ()
def PySem.W.Fast.tw797168135206581927 : Unit := ()
def PySem.W.Fast.tw7399843848342019949 : Unit := ()
def PySem.W.Fast.tw4744328346760691450 : Unit := ()
def PySem.W.Fast.tw10878860333661105 : Unit := ()
def PySem.W.Fast.tw3150683481208528723 : Unit := ()
def PySem.W.Fast.tw14057455630491388511 : Unit := ()
def PySem.W.Fast.tw3761791904215344105 : Unit := ()
def PySem.W.Fast.tw17850084627059099232 : Unit := ()
def PySem.W.Fast.tw11584676178330367266 : Unit := ()
def PySem.W.Fast.tw13520325228236456263 : Unit := ()
def PySem.W.Fast.tw1553412287877680748 : Unit := ()
def PySem.W.Fast.tw2573562829807260409 : Unit := ()
def PySem.W.Fast.tw13740238017682044942 : Unit := ()
def PySem.W.Fast.tw14821870894176939951 : Unit := ()
def PySem.W.Fast.tw14103035511286801688 : Unit := ()
def PySem.W.Fast.tw17856835733230465519 : Unit := ()
def PySem.W.Fast.tw10861650240121042405 : Unit := ()
def PySem.W.Fast.tw11520335442821150587 : Unit := ()
def PySem.W.Fast.tw14616924791055701834 : Unit := ()
def PySem.W.Fast.tw485904570395318121 : Unit := ()
def PySem.W.Fast.tw2358548198241111731 : Unit := ()
def PySem.W.Fast.tw11135322310023368449 : Unit := ()
def PySem.W.Fast.tw5526550910819572960 : Unit := ()
def PySem.W.Fast.tw12430819439602360975 : Unit := ()
def PySem.W.Fast.tw14247701088836590270 : Unit := ()
def PySem.W.Fast.tw7499099172439975418 : Unit := ()
def PySem.W.Fast.tw11000597917205811886 : Unit := ()
def PySem.W.Fast.tw8987649006049832298 : Unit := ()
def PySem.W.Fast.tw14232722813381137944 : Unit := ()
def PySem.W.Fast.tw17413447577523783108 : Unit := ()
def PySem.W.Fast.tw1097573257129170887 : Unit := ()
def PySem.W.Fast.tw4544666819484334305 : Unit := ()
def PySem.W.Fast.tw11335097509970254293 : Unit := ()
def PySem.W.Fast.tw14587767014272726574 : Unit := ()
def PySem.W.Fast.tw11579616061461861988 : Unit := ()
def PySem.W.Fast.tw5194854663493093222 : Unit := ()
def PySem.W.Fast.tw3426402231656863150 : Unit := ()
def PySem.W.Fast.tw14430310986040831131 : Unit := ()
def PySem.W.Fast.tw3782241153719143750 : Unit := ()
def PySem.W.Fast.tw16144833307219541999 : Unit := ()
def PySem.W.Fast.tw5172532261717578072 : Unit := ()
def PySem.W.Fast.tw9347200990450329980 : Unit := ()
def PySem.W.Fast.tw8635489470543670753 : Unit := ()
def PySem.W.Fast.tw10090864893216720793 : Unit := ()
def PySem.W.Fast.tw2367673387243209073 : Unit := ()
def PySem.W.Fast.tw10742274022161907332 : Unit := ()
def PySem.W.Fast.tw7257708734368496800 : Unit := ()
def PySem.W.Fast.tw9306562803430399669 : Unit := ()
def PySem.W.Fast.tw12443190243957670398 : Unit := ()
def PySem.W.Fast.tw12477739182052702712 : Unit := ()
def PySem.W.Fast.tw16393972523432164322 : Unit := ()
def PySem.W.Fast.tw4450179500700279504 : Unit := ()
def PySem.W.Fast.tw1240586904876852709 : Unit := ()
def PySem.W.Fast.tw8695955009340805937 : Unit := ()
def PySem.W.Fast.tw17726117241900354080 : Unit := ()
def PySem.W.Fast.tw6125841186014056200 : Unit := ()
def PySem.W.Fast.tw16150728677880206212 : Unit := ()
def PySem.W.Fast.tw18116411527810308706 : Unit := ()
def PySem.W.Fast.tw2063051539785194734 : Unit := ()
def PySem.W.Fast.tw9518236798993387474 : Unit := ()
def PySem.W.Fast.tw13111848587646441916 : Unit := ()
def PySem.W.Fast.tw9532601146276733607 : Unit := ()
def PySem.W.Fast.tw7829708347701655087 : Unit := ()
def PySem.W.Fast.tw6013095596826623484 : Unit := ()
def PySem.W.Fast.tw1219928577442746915 : Unit := ()
def PySem.W.Fast.tw1605929651320046135 : Unit := ()
def PySem.W.Fast.tw4776986834357858659 : Unit := ()
def PySem.W.Fast.tw152492541259843615 : Unit := ()
def PySem.W.Fast.tw9743398625744621545 : Unit := ()
def PySem.W.Fast.tw14235191228213896973 : Unit := ()
def PySem.W.Fast.tw10894689265780571798 : Unit := ()
def PySem.W.Fast.tw6946504938096514588 : Unit := ()
def PySem.W.Fast.tw15903902140167267047 : Unit := ()
def PySem.W.Fast.tw10436780248196390314 : Unit := ()
def PySem.W.Fast.tw13004471292443252384 : Unit := ()
def PySem.W.Fast.tw513237980237466423 : Unit := ()
def PySem.W.Fast.tw9405997658231918495 : Unit := ()
def PySem.W.Fast.tw10547372495140766338 : Unit := ()
def PySem.W.Fast.tw17506987621117078802 : Unit := ()
def PySem.W.Fast.tw18219979542361376327 : Unit := ()
def PySem.W.Fast.tw16163464979043613757 : Unit := ()
def PySem.W.Fast.tw2436863188665326640 : Unit := ()
def PySem.W.Fast.tw6952765232847999266 : Unit := ()
def PySem.W.Fast.tw11229436872258153810 : Unit := ()
def PySem.W.Fast.tw18127644300794688446 : Unit := ()
def PySem.W.Fast.tw11782069989428164519 : Unit := ()
def PySem.W.Fast.tw13098009028007964485 : Unit := ()
def PySem.W.Fast.tw2956693777250024658 : Unit := ()
def PySem.W.Fast.tw1050814408232472827 : Unit := ()
def PySem.W.Fast.tw16983395745614143646 : Unit := ()
def PySem.W.Fast.tw5951705612095658096 : Unit := ()
def PySem.W.Fast.tw16456894409270668101 : Unit := ()
def PySem.W.Fast.tw15284696762848866572 : Unit := ()
def PySem.W.Fast.tw7511318953290666571 : Unit := ()
def PySem.W.Fast.tw4094380576562749442 : Unit := ()
def PySem.W.Fast.tw10656745561581524065 : Unit := ()
def PySem.W.Fast.tw13030799372449772239 : Unit := ()
def PySem.W.Fast.tw3914706979408288129 : Unit := ()
def PySem.W.Fast.tw9915434152628851023 : Unit := ()
def PySem.W.Fast.tw9721572604653514420 : Unit := ()
def PySem.W.Fast.tw7294270446741584266 : Unit := ()
def PySem.W.Fast.tw16592157597214134865 : Unit := ()
def PySem.W.Fast.tw14718637626631817371 : Unit := ()
def PySem.W.Fast.tw11292998563699223000 : Unit := ()
def PySem.W.Fast.tw14527409762662525972 : Unit := ()
def PySem.W.Fast.tw6478117021329090449 : Unit := ()
def PySem.W.Fast.tw14765851376060612721 : Unit := ()
def PySem.W.Fast.tw8589975213243912898 : Unit := ()
def PySem.W.Fast.tw14843599139767975804 : Unit := ()
def PySem.W.Fast.tw2412982636932138915 : Unit := ()
def PySem.W.Fast.tw17526951244171084739 : Unit := ()
def PySem.W.Fast.tw3145226279242864725 : Unit := ()
def PySem.W.Fast.tw2220116973268350044 : Unit := ()
def PySem.W.Fast.tw14036725071771034333 : Unit := ()
def PySem.W.Fast.tw8437380257084738614 : Unit := ()
def PySem.W.Fast.tw2367152377889619023 : Unit := ()
def PySem.W.Fast.tw271473813529878775 : Unit := ()
def PySem.W.Fast.tw13721956899148415174 : Unit := ()
def PySem.W.Fast.tw4186814909834556856 : Unit := ()
def PySem.W.Fast.tw6829505812976708774 : Unit := ()
def PySem.W.Fast.tw16778444132972838495 : Unit := ()
def PySem.W.Fast.tw8078043394214656554 : Unit := ()
def PySem.W.Fast.tw2095456512773848697 : Unit := ()
def PySem.W.Fast.tw5656482481902501921 : Unit := ()
def PySem.W.Fast.tw12017590249450836 : Unit := ()
def PySem.W.Fast.tw15707042548215031218 : Unit := ()
def PySem.W.Fast.tw8541376875805552641 : Unit := ()
def PySem.W.Fast.tw2151880144139913471 : Unit := ()
def PySem.W.Fast.tw15002675689377073274 : Unit := ()
def PySem.W.Fast.tw7146193446653261167 : Unit := ()
def PySem.W.Fast.tw9448253837132893724 : Unit := ()
def PySem.W.Fast.tw12801287265408830646 : Unit := ()
def PySem.W.Fast.tw995854958198824495 : Unit := ()
def PySem.W.Fast.tw16350493203726940482 : Unit := ()
def PySem.W.Fast.tw15848982640246153892 : Unit := ()
def PySem.W.Fast.tw17759161147746935476 : Unit := ()
def PySem.W.Fast.tw12530598371179983422 : Unit := ()
def PySem.W.Fast.tw17615910354183379153 : Unit := ()
def PySem.W.Fast.tw1148370978762376852 : Unit := ()
def PySem.W.Fast.tw842945862767393414 : Unit := ()
def PySem.W.Fast.tw13321451555017402631 : Unit := ()
def PySem.W.Fast.tw18411764067867147650 : Unit := ()
def PySem.W.Fast.tw10403352393996909961 : Unit := ()
def PySem.W.Fast.tw1467309658855114203 : Unit := ()
def PySem.W.Fast.tw6049402147432579593 : Unit := ()
def PySem.W.Fast.tw16754381408133698738 : Unit := ()
def PySem.W.Fast.tw2738324596190954470 : Unit := ()
def PySem.W.Fast.tw9287193492232343143 : Unit := ()
def PySem.W.Fast.tw5495019055455599415 : Unit := ()
def PySem.W.Fast.tw14950034119202544556 : Unit := ()
def PySem.W.Fast.tw553143964766748946 : Unit := ()
def PySem.W.Fast.tw16196616442382424008 : Unit := ()
def PySem.W.Fast.tw9643661365476221113 : Unit := ()
def PySem.W.Fast.tw1192215524647893181 : Unit := ()
def PySem.W.Fast.tw16187988676140554506 : Unit := ()
def PySem.W.Fast.tw9441143588699590922 : Unit := ()
def PySem.W.Fast.tw7094139168948223916 : Unit := ()
def PySem.W.Fast.tw9929384439290500143 : Unit := ()
def PySem.W.Fast.tw14383989258881239103 : Unit := ()
def PySem.W.Fast.tw11989348880373953777 : Unit := ()
def PySem.W.Fast.tw8751993273062490880 : Unit := ()
def PySem.W.Fast.tw5354263839969250374 : Unit := ()
def PySem.W.Fast.tw11853838900034417928 : Unit := ()
def PySem.W.Fast.tw12149727241831369397 : Unit := ()
def PySem.W.Fast.tw11492779070624961302 : Unit := ()
def PySem.W.Fast.tw6876357806781349345 : Unit := ()
def PySem.W.Fast.tw12924628439261236174 : Unit := ()
def PySem.W.Fast.tw11529236927465092570 : Unit := ()
def PySem.W.Fast.tw5157252543749328208 : Unit := ()
def PySem.W.Fast.tw14408342565117610809 : Unit := ()
def PySem.W.Fast.tw4072200006332459636 : Unit := ()
def PySem.W.Fast.tw13530066685561486791 : Unit := ()
def PySem.W.Fast.tw11288919396298156759 : Unit := ()
def PySem.W.Fast.tw5143732063736282736 : Unit := ()
def PySem.W.Fast.tw15069929663584703827 : Unit := ()
def PySem.W.Fast.tw7270353352033909514 : Unit := ()
def PySem.W.Fast.tw6762221464324513976 : Unit := ()
def PySem.W.Fast.tw11150655453968652006 : Unit := ()
def PySem.W.Fast.tw8048775770845172532 : Unit := ()
def PySem.W.Fast.tw18145825470362731753 : Unit := ()
def PySem.W.Fast.tw6399487885619359454 : Unit := ()
def PySem.W.Fast.tw358663069148176187 : Unit := ()
def PySem.W.Fast.tw4893970993683697805 : Unit := ()
def PySem.W.Fast.tw14628014370672750762 : Unit := ()
def PySem.W.Fast.tw1857539509553820961 : Unit := ()
def PySem.W.Fast.tw15931401380558149473 : Unit := ()
def PySem.W.Fast.tw16148791215374821685 : Unit := ()
def PySem.W.Fast.tw8100870210468778973 : Unit := ()
def PySem.W.Fast.tw13989645043401678343 : Unit := ()
def PySem.W.Fast.tw54193877265999217 : Unit := ()
def PySem.W.Fast.tw4632664327979013690 : Unit := ()
def PySem.W.Fast.tw17919168539833122110 : Unit := ()
def PySem.W.Fast.tw2205116723427774598 : Unit := ()
def PySem.W.Fast.tw913198050469249368 : Unit := ()
def PySem.W.Fast.tw10382626210840264818 : Unit := ()
def PySem.W.Fast.tw14415603694707510241 : Unit := ()
def PySem.W.Fast.tw17670141011190383092 : Unit := ()
def PySem.W.Fast.tw9844985554855740537 : Unit := ()
def PySem.W.Fast.tw1724845428391490309 : Unit := ()
def PySem.W.Fast.tw10017001771664082815 : Unit := ()
def PySem.W.Fast.tw5896965605354440054 : Unit := ()
def PySem.W.Fast.tw6570287291170368167 : Unit := ()
def PySem.W.Fast.tw10874386430686822871 : Unit := ()
def PySem.W.Fast.tw7298589281479175303 : Unit := ()
def PySem.W.Fast.tw16036048512484118747 : Unit := ()
def PySem.W.Fast.tw6355651065062059815 : Unit := ()
def PySem.W.Fast.tw5873238262845714021 : Unit := ()
def PySem.W.Fast.tw5910862154111452985 : Unit := ()
def PySem.W.Fast.tw7887456108663954892 : Unit := ()
def PySem.W.Fast.tw15838909217818035469 : Unit := ()
def PySem.W.Fast.tw495286412734240517 : Unit := ()
def PySem.W.Fast.tw14311288789440593662 : Unit := ()
def PySem.W.Fast.tw1814033330185203162 : Unit := ()
def PySem.W.Fast.tw8739026436905593658 : Unit := ()
def PySem.W.Fast.tw3908504322587655246 : Unit := ()
def PySem.W.Fast.tw1063744100859113563 : Unit := ()
def PySem.W.Fast.tw980623118829728686 : Unit := ()
def PySem.W.Fast.tw12566617748208505761 : Unit := ()
def PySem.W.Fast.tw12223390274898684134 : Unit := ()
def PySem.W.Fast.tw12520855127848688002 : Unit := ()
def PySem.W.Fast.tw3229416376923676567 : Unit := ()
def PySem.W.Fast.tw11253926216734323346 : Unit := ()
def PySem.W.Fast.tw17800829345100287503 : Unit := ()
def PySem.W.Fast.tw3268013618151431606 : Unit := ()
def PySem.W.Fast.tw3591269937546659556 : Unit := ()
def PySem.W.Fast.tw7645373616721371168 : Unit := ()
def PySem.W.Fast.tw3760799827855769516 : Unit := ()
def PySem.W.Fast.tw16658331454915699191 : Unit := ()
def PySem.W.Fast.tw7978856135631323552 : Unit := ()
def PySem.W.Fast.tw6802456792284252347 : Unit := ()
def PySem.W.Fast.tw14070627712053212387 : Unit := ()
def PySem.W.Fast.tw12721538333046703627 : Unit := ()
def PySem.W.Fast.tw4926771201097407242 : Unit := ()
def PySem.W.Fast.tw12252149767687579041 : Unit := ()
def PySem.W.Fast.tw4080161447817120916 : Unit := ()
def PySem.W.Fast.tw6389750964069941046 : Unit := ()
def PySem.W.Fast.tw16188965551470086497 : Unit := ()
def PySem.W.Fast.tw17866069506141259429 : Unit := ()
def PySem.W.Fast.tw16995458237173795810 : Unit := ()
def PySem.W.Fast.tw12050982005130575668 : Unit := ()
def PySem.W.Fast.tw13770652910445986930 : Unit := ()
def PySem.W.Fast.tw3163897203491798397 : Unit := ()
def PySem.W.Fast.tw6398132515042233173 : Unit := ()
def PySem.W.Fast.tw16088571927115761625 : Unit := ()
def PySem.W.Fast.tw4005595155625572394 : Unit := ()
def PySem.W.Fast.tw1781021443435394620 : Unit := ()
def PySem.W.Fast.tw9619742729764084989 : Unit := ()
def PySem.W.Fast.tw9489577441514318791 : Unit := ()
def PySem.W.Fast.tw15123344918975012889 : Unit := ()
def PySem.W.Fast.tw14685724659637950822 : Unit := ()
def PySem.W.Fast.tw11729886902602626130 : Unit := ()
def PySem.W.Fast.tw15693923784359163517 : Unit := ()
def PySem.W.Fast.tw10912965705840874047 : Unit := ()
def PySem.W.Fast.tw5787161375364194910 : Unit := ()
def PySem.W.Fast.tw16014735970855606352 : Unit := ()
def PySem.W.Fast.tw15282855386991034969 : Unit := ()
def PySem.W.Fast.tw16314854890945073554 : Unit := ()
def PySem.W.Fast.tw14889406450525554947 : Unit := ()
def PySem.W.Fast.tw2377087248922142972 : Unit := ()
def PySem.W.Fast.tw17600435222054603963 : Unit := ()
def PySem.W.Fast.tw15261706682796910850 : Unit := ()
def PySem.W.Fast.tw8110023290487099985 : Unit := ()
def PySem.W.Fast.tw9761452329889359616 : Unit := ()
def PySem.W.Fast.tw14630075250067657094 : Unit := ()
def PySem.W.Fast.tw72716007693977788 : Unit := ()
def PySem.W.Fast.tw7340527297622794567 : Unit := ()
def PySem.W.Fast.tw3592978817944542443 : Unit := ()
def PySem.W.Fast.tw5942285357052969439 : Unit := ()
def PySem.W.Fast.tw6223739841854013838 : Unit := ()
def PySem.W.Fast.tw9473801024208545506 : Unit := ()
def PySem.W.Fast.tw7666713820035155114 : Unit := ()
def PySem.W.Fast.tw8954288348687932068 : Unit := ()
def PySem.W.Fast.tw3561393504257510789 : Unit := ()
def PySem.W.Fast.tw8692954327696856314 : Unit := ()
def PySem.W.Fast.tw13272586506904994416 : Unit := ()
def PySem.W.Fast.tw14173702085492095399 : Unit := ()
def PySem.W.Fast.tw5830805787741065050 : Unit := ()
def PySem.W.Fast.tw6405126499277355084 : Unit := ()
def PySem.W.Fast.tw5852149263505791870 : Unit := ()
def PySem.W.Fast.tw12399673219546090486 : Unit := ()
def PySem.W.Fast.tw10890858148666791600 : Unit := ()
def PySem.W.Fast.tw17121803039425648610 : Unit := ()
def PySem.W.Fast.tw5787608002051309939 : Unit := ()
def PySem.W.Fast.tw5255917653214205524 : Unit := ()
def PySem.W.Fast.tw10732661539092463674 : Unit := ()
def PySem.W.Fast.tw15638837146467826995 : Unit := ()
def PySem.W.Fast.tw13904522470195010871 : Unit := ()
def PySem.W.Fast.tw10152775947560734917 : Unit := ()
def PySem.W.Fast.tw4466040090304430030 : Unit := ()
def PySem.W.Fast.tw5250593444585271096 : Unit := ()
def PySem.W.Fast.tw9530711864099540316 : Unit := ()
def PySem.W.Fast.tw9070525656440430128 : Unit := ()
def PySem.W.Fast.tw8164820572065759419 : Unit := ()
def PySem.W.Fast.tw16622580300391789091 : Unit := ()
def PySem.W.Fast.tw1725512969873770833 : Unit := ()
def PySem.W.Fast.tw16689178346419066697 : Unit := ()
def PySem.W.Fast.tw10198748898676455984 : Unit := ()
def PySem.W.Fast.tw16380183067800210038 : Unit := ()
def PySem.W.Fast.tw17158794654879352622 : Unit := ()
def PySem.W.Fast.tw401388406358761147 : Unit := ()
def PySem.W.Fast.tw12558079697194447992 : Unit := ()
def PySem.W.Fast.tw1543690712043339776 : Unit := ()
def PySem.W.Fast.tw10371629097197958747 : Unit := ()
def PySem.W.Fast.tw4320232165202059846 : Unit := ()
def PySem.W.Fast.tw9924225744242094888 : Unit := ()
def PySem.W.Fast.tw18239750414359200749 : Unit := ()
def PySem.W.Fast.tw11933905054546035653 : Unit := ()
def PySem.W.Fast.tw12877485040663779347 : Unit := ()
def PySem.W.Fast.tw11094847198630183161 : Unit := ()
def PySem.W.Fast.tw1698996575650993778 : Unit := ()
def PySem.W.Fast.tw2700473673767478095 : Unit := ()
def PySem.W.Fast.tw5758752177342995900 : Unit := ()
def PySem.W.Fast.tw16724866579470993047 : Unit := ()
def PySem.W.Fast.tw6728957212632028281 : Unit := ()
def PySem.W.Fast.tw14240996034331294060 : Unit := ()
def PySem.W.Fast.tw10886903627256394564 : Unit := ()
def PySem.W.Fast.tw4539920799158466814 : Unit := ()
def PySem.W.Fast.tw15885148508108958234 : Unit := ()
def PySem.W.Fast.tw4844732357543827624 : Unit := ()
def PySem.W.Fast.tw5675420639260517903 : Unit := ()
def PySem.W.Fast.tw10402088404460871386 : Unit := ()
def PySem.W.Fast.tw3498865835141556633 : Unit := ()
def PySem.W.Fast.tw10859210423251395991 : Unit := ()
def PySem.W.Fast.tw9180270998251562134 : Unit := ()
def PySem.W.Fast.tw9979857417556377159 : Unit := ()
def PySem.W.Fast.tw8192987625480714860 : Unit := ()
def PySem.W.Fast.tw13524398540982401280 : Unit := ()
def PySem.W.Fast.tw9859885758791336019 : Unit := ()
def PySem.W.Fast.tw2617978647562264220 : Unit := ()
open PySem PySem.W PyProof.Rows
set_option maxRecDepth 100000 in
set_option maxHeartbeats 0 in
theorem PySem.Challenge.cw_retryhall_k13_whole_rows_forward_holds : PySem.Challenge.rw_retryhall_k13_whole_rows_forward.Holds := by
  w_on; o_law; k_head; (case hw => w_witness2)
  k_fill
  refine My.walk (l := PySem.Challenge.rw_retryhall_k13_whole_rows_forward) rfl rfl (fun w h Y => PySem.W.kIn_of Y) ?F
  case F =>
    intro w mg fa h KX G hmg
    refine' My.all_mk KX G hmg ?nCPart ?nCLet ?nCReckon ?nCTake ?nCPut ?nCIf ?nCEither ?nCTry ?nCThrow ?nCWait ?fi_Let___init__ ?fi_Reckon___init__ ?fi_Take___init__ ?fi_Put___init__ ?fi_If___init__ ?fi_Either___init__ ?fi_Try___init__ ?fi_Throw___init__ ?fi_Part_long ?fi_Let_long ?fi_Reckon_long ?fi_Take_long ?fi_Put_long ?fi_If_long ?fi_Either_long ?fi_Try_long ?fi_Throw_long ?fi_Wait_long ?i1 ?l1 ?c1 ?k1 ?i2 ?l2 ?c2 ?k2 ?i3 ?l3 ?c3 ?k3 ?i4 ?l4 ?c4 ?k4 ?i5 ?l5 ?c5 ?k5 ?i6 ?l6 ?c6 ?k6 ?i7 ?l7 ?c7 ?k7 ?i8 ?l8 ?c8 ?k8 ?i9 ?l9 ?c9 ?k9 ?i10 ?l10 ?c10 ?k10 ?i11 ?l11 ?c11 ?k11 ?i12 ?l12 ?c12 ?k12 ?i13 ?l13 ?c13 ?k13 ?i14 ?l14 ?c14 ?k14 ?i15 ?l15 ?c15 ?k15 ?a16 ?l16 ?c16 ?k16 ?i17 ?l17 ?c17 ?k17 ?i18 ?l18 ?c18 ?k18 ?i19 ?l19 ?c19 ?k19 ?a20 ?l20 ?c20 ?k20 ?a21 ?l21 ?c21 ?k21 ?a22 ?l22 ?c22 ?k22 ?a23 ?l23 ?c23 ?k23 ?a24 ?l24 ?c24 ?k24 ?a25 ?l25 ?c25 ?k25 ?a26 ?l26 ?c26 ?k26 ?a27 ?l27 ?c27 ?k27 ?a28 ?l28 ?c28 ?k28 ?a29 ?l29 ?c29 ?k29 ?a30 ?l30 ?c30 ?k30 ?a31 ?l31 ?c31 ?k31 ?a32 ?l32 ?c32 ?k32 ?a33 ?l33 ?c33 ?k33 ?a34 ?l34 ?c34 ?k34 ?a35 ?l35 ?c35 ?k35 ?a36 ?l36 ?c36 ?k36 ?a37 ?l37 ?c37 ?k37 ?a38 ?l38 ?c38 ?k38 ?pgPart ?hdPart ?poPart ?saPart ?mkPart ?kcPart ?ioPart ?pgLet ?hdLet ?poLet ?saLet ?mkLet ?kcLet ?haLet ?hmLet ?pgReckon ?hdReckon ?poReckon ?saReckon ?mkReckon ?kcReckon ?haReckon ?hmReckon ?pgTake ?hdTake ?poTake ?saTake ?mkTake ?kcTake ?haTake ?hmTake ?pgPut ?hdPut ?poPut ?saPut ?mkPut ?kcPut ?haPut ?hmPut ?pgIf ?hdIf ?poIf ?saIf ?mkIf ?kcIf ?haIf ?hmIf ?pgEither ?hdEither ?poEither ?saEither ?mkEither ?kcEither ?haEither ?hmEither ?pgTry ?hdTry ?poTry ?saTry ?mkTry ?kcTry ?haTry ?hmTry ?pgThrow ?hdThrow ?poThrow ?saThrow ?mkThrow ?kcThrow ?haThrow ?hmThrow ?pgWait ?hdWait ?poWait ?saWait ?mkWait ?kcWait ?ioWait ?haWait ?hmWait ?naLet_slot ?naReckon_slot ?naTake_slot ?naPut_slot ?naIf_slot ?naTry_slot ?naThrow_slot ?naLet_number ?naReckon_word ?naReckon_one ?naReckon_other ?naTake_place ?naPut_place ?naTry_name ?naThrow_name ?naIf_parts ?naEither_parts ?naTry_parts ?naIf_others ?naEither_others ?naTry_others ?sb1_5 ?ne1_5 ?sb1_6 ?ne1_6 ?sb1_7 ?ne1_7 ?sb2_5 ?ne2_5 ?sb2_6 ?ne2_6 ?sb2_7 ?ne2_7 ?sb3_5 ?ne3_5 ?sb3_6 ?ne3_6 ?sb3_7 ?ne3_7 ?sb4_5 ?ne4_5 ?sb4_6 ?ne4_6 ?sb4_7 ?ne4_7 ?sb8_5 ?ne8_5 ?sb8_6 ?ne8_6 ?sb8_7 ?ne8_7 ?sb9_5 ?ne9_5 ?sb9_6 ?ne9_6 ?sb9_7 ?ne9_7 ?sb2_1 ?ne2_1 ?sb3_1 ?ne3_1 ?sb3_2 ?ne3_2 ?sb4_1 ?ne4_1 ?sb4_2 ?ne4_2 ?sb4_3 ?ne4_3 ?sb8_1 ?ne8_1 ?sb8_2 ?ne8_2 ?sb8_3 ?ne8_3 ?sb8_4 ?ne8_4 ?sb9_1 ?ne9_1 ?sb9_2 ?ne9_2 ?sb9_3 ?ne9_3 ?sb9_4 ?ne9_4 ?sb9_8 ?ne9_8 ?sb6_5 ?ne6_5 ?sb7_5 ?ne7_5 ?sb7_6 ?ne7_6 ?ty1 ?ty2 ?ty3 ?ty4 ?ty5 ?ty6 ?ty7 ?ty8 ?hn ?htk ?z1 ?z2 ?z3 ?z4 ?z5 ?z6 ?z7 ?z8 ?z9
    (case nCPart => k_is)
    (case nCLet => k_is)
    (case nCReckon => k_is)
    (case nCTake => k_is)
    (case nCPut => k_is)
    (case nCIf => k_is)
    (case nCEither => k_is)
    (case nCTry => k_is)
    (case nCThrow => k_is)
    (case nCWait => k_is)
    (case fi_Let___init__ => k_is)
    (case fi_Reckon___init__ => k_is)
    (case fi_Take___init__ => k_is)
    (case fi_Put___init__ => k_is)
    (case fi_If___init__ => k_is)
    (case fi_Either___init__ => k_is)
    (case fi_Try___init__ => k_is)
    (case fi_Throw___init__ => k_is)
    (case fi_Part_long => k_is)
    (case fi_Let_long => k_is)
    (case fi_Reckon_long => k_is)
    (case fi_Take_long => k_is)
    (case fi_Put_long => k_is)
    (case fi_If_long => k_is)
    (case fi_Either_long => k_is)
    (case fi_Try_long => k_is)
    (case fi_Throw_long => k_is)
    (case fi_Wait_long => k_is)
    (case i1 => k_is)
    (case l1 => k_is)
    (case c1 => k_is)
    (case k1 => k_is)
    (case i2 => k_is)
    (case l2 => k_is)
    (case c2 => k_is)
    (case k2 => k_is)
    (case i3 => k_is)
    (case l3 => k_is)
    (case c3 => k_is)
    (case k3 => k_is)
    (case i4 => k_is)
    (case l4 => k_is)
    (case c4 => k_is)
    (case k4 => k_is)
    (case i5 => k_is)
    (case l5 => k_is)
    (case c5 => k_is)
    (case k5 => k_is)
    (case i6 => k_is)
    (case l6 => k_is)
    (case c6 => k_is)
    (case k6 => k_is)
    (case i7 => k_is)
    (case l7 => k_is)
    (case c7 => k_is)
    (case k7 => k_is)
    (case i8 => k_is)
    (case l8 => k_is)
    (case c8 => k_is)
    (case k8 => k_is)
    (case i9 => k_is)
    (case l9 => k_is)
    (case c9 => k_is)
    (case k9 => k_is)
    (case i10 => k_is)
    (case l10 => k_is)
    (case c10 => k_is)
    (case k10 => k_is)
    (case i11 => k_is)
    (case l11 => k_is)
    (case c11 => k_is)
    (case k11 => k_is)
    (case i12 => k_is)
    (case l12 => k_is)
    (case c12 => k_is)
    (case k12 => k_is)
    (case i13 => k_is)
    (case l13 => k_is)
    (case c13 => k_is)
    (case k13 => k_is)
    (case i14 => k_is)
    (case l14 => k_is)
    (case c14 => k_is)
    (case k14 => k_is)
    (case i15 => k_is)
    (case l15 => k_is)
    (case c15 => k_is)
    (case k15 => k_is)
    (case a16 => k_is)
    (case l16 => k_is)
    (case c16 => k_is)
    (case k16 => k_is)
    (case i17 => k_is)
    (case l17 => k_is)
    (case c17 => k_is)
    (case k17 => k_is)
    (case i18 => k_is)
    (case l18 => k_is)
    (case c18 => k_is)
    (case k18 => k_is)
    (case i19 => k_is)
    (case l19 => k_is)
    (case c19 => k_is)
    (case k19 => k_is)
    (case a20 => k_is)
    (case l20 => k_is)
    (case c20 => k_is)
    (case k20 => k_is)
    (case a21 => k_is)
    (case l21 => k_is)
    (case c21 => k_is)
    (case k21 => k_is)
    (case a22 => k_is)
    (case l22 => k_is)
    (case c22 => k_is)
    (case k22 => k_is)
    (case a23 => k_is)
    (case l23 => k_is)
    (case c23 => k_is)
    (case k23 => k_is)
    (case a24 => k_is)
    (case l24 => k_is)
    (case c24 => k_is)
    (case k24 => k_is)
    (case a25 => k_is)
    (case l25 => k_is)
    (case c25 => k_is)
    (case k25 => k_is)
    (case a26 => k_is)
    (case l26 => k_is)
    (case c26 => k_is)
    (case k26 => k_is)
    (case a27 => k_is)
    (case l27 => k_is)
    (case c27 => k_is)
    (case k27 => k_is)
    (case a28 => k_is)
    (case l28 => k_is)
    (case c28 => k_is)
    (case k28 => k_is)
    (case a29 => k_is)
    (case l29 => k_is)
    (case c29 => k_is)
    (case k29 => k_is)
    (case a30 => k_is)
    (case l30 => k_is)
    (case c30 => k_is)
    (case k30 => k_is)
    (case a31 => k_is)
    (case l31 => k_is)
    (case c31 => k_is)
    (case k31 => k_is)
    (case a32 => k_is)
    (case l32 => k_is)
    (case c32 => k_is)
    (case k32 => k_is)
    (case a33 => k_is)
    (case l33 => k_is)
    (case c33 => k_is)
    (case k33 => k_is)
    (case a34 => k_is)
    (case l34 => k_is)
    (case c34 => k_is)
    (case k34 => k_is)
    (case a35 => k_is)
    (case l35 => k_is)
    (case c35 => k_is)
    (case k35 => k_is)
    (case a36 => k_is)
    (case l36 => k_is)
    (case c36 => k_is)
    (case k36 => k_is)
    (case a37 => k_is)
    (case l37 => k_is)
    (case c37 => k_is)
    (case k37 => k_is)
    (case a38 => k_is)
    (case l38 => k_is)
    (case c38 => k_is)
    (case k38 => k_is)
    (case pgPart => k_is)
    (case hdPart => k_is)
    (case poPart => k_is)
    (case saPart => k_is)
    (case mkPart => k_is)
    (case kcPart => k_is)
    (case ioPart => k_is)
    (case pgLet => k_is)
    (case hdLet => k_is)
    (case poLet => k_is)
    (case saLet => k_is)
    (case mkLet => k_is)
    (case kcLet => k_is)
    (case haLet => k_is)
    (case hmLet => k_is)
    (case pgReckon => k_is)
    (case hdReckon => k_is)
    (case poReckon => k_is)
    (case saReckon => k_is)
    (case mkReckon => k_is)
    (case kcReckon => k_is)
    (case haReckon => k_is)
    (case hmReckon => k_is)
    (case pgTake => k_is)
    (case hdTake => k_is)
    (case poTake => k_is)
    (case saTake => k_is)
    (case mkTake => k_is)
    (case kcTake => k_is)
    (case haTake => k_is)
    (case hmTake => k_is)
    (case pgPut => k_is)
    (case hdPut => k_is)
    (case poPut => k_is)
    (case saPut => k_is)
    (case mkPut => k_is)
    (case kcPut => k_is)
    (case haPut => k_is)
    (case hmPut => k_is)
    (case pgIf => k_is)
    (case hdIf => k_is)
    (case poIf => k_is)
    (case saIf => k_is)
    (case mkIf => k_is)
    (case kcIf => k_is)
    (case haIf => k_is)
    (case hmIf => k_is)
    (case pgEither => k_is)
    (case hdEither => k_is)
    (case poEither => k_is)
    (case saEither => k_is)
    (case mkEither => k_is)
    (case kcEither => k_is)
    (case haEither => k_is)
    (case hmEither => k_is)
    (case pgTry => k_is)
    (case hdTry => k_is)
    (case poTry => k_is)
    (case saTry => k_is)
    (case mkTry => k_is)
    (case kcTry => k_is)
    (case haTry => k_is)
    (case hmTry => k_is)
    (case pgThrow => k_is)
    (case hdThrow => k_is)
    (case poThrow => k_is)
    (case saThrow => k_is)
    (case mkThrow => k_is)
    (case kcThrow => k_is)
    (case haThrow => k_is)
    (case hmThrow => k_is)
    (case pgWait => k_is)
    (case hdWait => k_is)
    (case poWait => k_is)
    (case saWait => k_is)
    (case mkWait => k_is)
    (case kcWait => k_is)
    (case ioWait => k_is)
    (case haWait => k_is)
    (case hmWait => k_is)
    (case naLet_slot => k_is)
    (case naReckon_slot => k_is)
    (case naTake_slot => k_is)
    (case naPut_slot => k_is)
    (case naIf_slot => k_is)
    (case naTry_slot => k_is)
    (case naThrow_slot => k_is)
    (case naLet_number => k_is)
    (case naReckon_word => k_is)
    (case naReckon_one => k_is)
    (case naReckon_other => k_is)
    (case naTake_place => k_is)
    (case naPut_place => k_is)
    (case naTry_name => k_is)
    (case naThrow_name => k_is)
    (case naIf_parts => k_is)
    (case naEither_parts => k_is)
    (case naTry_parts => k_is)
    (case naIf_others => k_is)
    (case naEither_others => k_is)
    (case naTry_others => k_is)
    (case sb1_5 => k_is)
    (case ne1_5 => decide)
    (case sb1_6 => k_is)
    (case ne1_6 => decide)
    (case sb1_7 => k_is)
    (case ne1_7 => decide)
    (case sb2_5 => k_is)
    (case ne2_5 => decide)
    (case sb2_6 => k_is)
    (case ne2_6 => decide)
    (case sb2_7 => k_is)
    (case ne2_7 => decide)
    (case sb3_5 => k_is)
    (case ne3_5 => decide)
    (case sb3_6 => k_is)
    (case ne3_6 => decide)
    (case sb3_7 => k_is)
    (case ne3_7 => decide)
    (case sb4_5 => k_is)
    (case ne4_5 => decide)
    (case sb4_6 => k_is)
    (case ne4_6 => decide)
    (case sb4_7 => k_is)
    (case ne4_7 => decide)
    (case sb8_5 => k_is)
    (case ne8_5 => decide)
    (case sb8_6 => k_is)
    (case ne8_6 => decide)
    (case sb8_7 => k_is)
    (case ne8_7 => decide)
    (case sb9_5 => k_is)
    (case ne9_5 => decide)
    (case sb9_6 => k_is)
    (case ne9_6 => decide)
    (case sb9_7 => k_is)
    (case ne9_7 => decide)
    (case sb2_1 => k_is)
    (case ne2_1 => decide)
    (case sb3_1 => k_is)
    (case ne3_1 => decide)
    (case sb3_2 => k_is)
    (case ne3_2 => decide)
    (case sb4_1 => k_is)
    (case ne4_1 => decide)
    (case sb4_2 => k_is)
    (case ne4_2 => decide)
    (case sb4_3 => k_is)
    (case ne4_3 => decide)
    (case sb8_1 => k_is)
    (case ne8_1 => decide)
    (case sb8_2 => k_is)
    (case ne8_2 => decide)
    (case sb8_3 => k_is)
    (case ne8_3 => decide)
    (case sb8_4 => k_is)
    (case ne8_4 => decide)
    (case sb9_1 => k_is)
    (case ne9_1 => decide)
    (case sb9_2 => k_is)
    (case ne9_2 => decide)
    (case sb9_3 => k_is)
    (case ne9_3 => decide)
    (case sb9_4 => k_is)
    (case ne9_4 => decide)
    (case sb9_8 => k_is)
    (case ne9_8 => decide)
    (case sb6_5 => k_is)
    (case ne6_5 => decide)
    (case sb7_5 => k_is)
    (case ne7_5 => decide)
    (case sb7_6 => k_is)
    (case ne7_6 => decide)
    (case ty1 => k_is)
    (case ty2 => k_is)
    (case ty3 => k_is)
    (case ty4 => k_is)
    (case ty5 => k_is)
    (case ty6 => k_is)
    (case ty7 => k_is)
    (case ty8 => k_is)
    (case hn => k_is)
    (case htk => k_is)
    (case z1 => k_is)
    (case z2 => k_is)
    (case z3 => k_is)
    (case z4 => k_is)
    (case z5 => k_is)
    (case z6 => k_is)
    (case z7 => k_is)
    (case z8 => k_is)
    (case z9 => k_is)

