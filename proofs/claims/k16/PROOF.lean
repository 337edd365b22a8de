import PyProof.Rows.All
import Wide.All
import OpenK.AllK
import Wide.FinOn
import Lean
import PyProof.EqAt
import PyProof.EqKinds
import PyProof.TupleCall
import PySem.Challenge.RW_retryhall_k16_alone_plain_parts
set_option Elab.async false
set_option linter.all false
set_option maxRecDepth 100000
set_option maxHeartbeats 4000000
namespace L2
open PySem PySem.Spec PyProof.Rows
abbrev Key := Sum Int Str
def yrj : Key -> Value -> Bool
 | .inl k, v => Value.isInt k v
 | .inr x, v => Value.isStrOf x v
def yGp (w : World) : Key -> Int
 | .inl k => hashInt k
 | .inr x => hashStr w x
theorem ybH : ∀ {k : Key} {v : Value}, yrj k v = true -> (∃ i t, k = Sum.inl i /\ v = Value.int i t) \/ (∃ x t, k = Sum.inr x /\ v = Value.str x t)
 | .inl i, v, h => by
  obtain ⟨t, e⟩ := Value.isInt_shape (k := i) (v := v) h
  exact .inl ⟨i, t, rfl, e⟩
 | .inr x, v, h => by
  obtain ⟨t, e⟩ := Value.isStrOf_shape (x := x) (v := v) h
  exact .inr ⟨x, t, rfl, e⟩
theorem yuw (i : Int) (t : Tok) : yrj (.inl i) (.int i t) = true := by simp [yrj, Value.isInt]
theorem yux (x : Str) (t : Tok) : yrj (.inr x) (.str x t) = true := by simp [yrj, Value.isStrOf]
theorem yBL (a b : Int) : decide ((Sum.inl a : Key) = Sum.inl b) = (a == b) := by
  by_cases e : a = b
  . subst e; simp
  . have h : ¬ (Sum.inl a : Key) = Sum.inl b := fun q => e (Sum.inl.inj q)
    rw [decide_eq_false h]
    exact (beq_eq_false_iff_ne.mpr e).symm
theorem yBM (a b : Str) : decide ((Sum.inr a : Key) = Sum.inr b) = decide (a = b) := by
  by_cases e : a = b
  . subst e; simp
  . have h : ¬ (Sum.inr a : Key) = Sum.inr b := fun q => e (Sum.inr.inj q)
    rw [decide_eq_false h, decide_eq_false e]
theorem yBN (a : Int) (b : Str) : decide ((Sum.inl a : Key) = Sum.inr b) = false := decide_eq_false (fun q => nomatch q)
theorem yBO (a : Str) (b : Int) : decide ((Sum.inr a : Key) = Sum.inl b) = false := decide_eq_false (fun q => nomatch q)
def ycZ (prog : Program) (w : World) : PySem.KeyKind prog w Key where
  is := yrj
  hash := yGp w
  inj := fun v a b ha hb => by
    rcases ybH ha with ⟨i, t, rfl, rfl⟩ | ⟨x, t, rfl, rfl⟩
    . rcases ybH hb with ⟨j, u, rfl, e⟩ | ⟨y, u, rfl, e⟩
      . injection e with e1 _; rw [e1]
      . exact nomatch e
    . rcases ybH hb with ⟨j, u, rfl, e⟩ | ⟨y, u, rfl, e⟩
      . exact nomatch e
      . injection e with e1 _; rw [e1]
  byValue := fun k v h => by
    rcases ybH h with ⟨i, t, rfl, rfl⟩ | ⟨x, t, rfl, rfl⟩ <;> rfl
  pyHash := fun hv h => by
    rcases ybH hv with ⟨i, t, rfl, rfl⟩ | ⟨x, t, rfl, rfl⟩
    . exact wpAny_pyHash_int h
    . exact wpAny_pyHash_str h
  eqBool := fun hu hv h => by
    rcases ybH hu with ⟨i, t, rfl, rfl⟩ | ⟨x, t, rfl, rfl⟩
    . rcases ybH hv with ⟨j, u, rfl, rfl⟩ | ⟨y, u, rfl, rfl⟩
      . rw [yBL] at h; exact wpAny_eqBool_int h
      . rw [yBN] at h; exact SeqAt.EqAt.int_str i t y u _ _ _ _ h
    . rcases ybH hv with ⟨j, u, rfl, rfl⟩ | ⟨y, u, rfl, rfl⟩
      . rw [yBO] at h; exact SeqAt.EqAt.str_int x t j u _ _ _ _ h
      . rw [yBM] at h; exact wpAny_eqBool_str h
  «strs» := fun k x t v h => by
    rcases ybH h with ⟨i, u, rfl, e⟩ | ⟨y, u, rfl, e⟩
    . exact nomatch e
    . injection e with e1 _
      subst e1
      cases v <;> rfl
theorem yrk (prog : Program) (w : World) (i : Int) (t : Tok) : (ycZ prog w).is (.inl i) (.int i t) = true := yuw i t
theorem yrl (prog : Program) (w : World) (x : Str) (t : Tok) : (ycZ prog w).is (.inr x) (.str x t) = true := yux x t
end L2
namespace L2
open PySem PySem.Spec PyProof.Rows
inductive V where
 | non | bl (b : Bool) | int (i : Int) | str (x : Str) | byt (b : Array UInt8) | flt (b : UInt64) | ref (a : Addr) | ty (n : String)
 deriving DecidableEq
def RelV : V -> Value -> Prop
 | .non, u => u = Value.none
 | .bl b, u => u = Value.bool b
 | .int i, u => ∃ t, u = Value.int i t
 | .str x, u => ∃ t, u = Value.str x t
 | .byt b, u => ∃ t, u = Value.bytes b t
 | .flt b, u => ∃ t, u = Value.float b t
 | .ref a, u => u = Value.ref a
 | .ty n, u => u = Value.type n
abbrev Vals : List V -> List Value -> Prop := Paired RelV
theorem Vals.length {xs : List V} {us : List Value} (r : Vals xs us) : xs.length = us.length := Paired.length r
theorem Vals.get : ∀ {xs : List V} {us : List Value} {i : Nat} {x : V}, Vals xs us -> xs[i]? = some x -> ∃ u, us[i]? = some u /\ RelV x u
 | _, _, _, _, .nil, e => by simp at e
 | _, _, 0, _, .cons r _, e => by simp at e; subst e; exact ⟨_, rfl, r⟩
 | _, _, i + 1, x, .cons _ t, e => by
  obtain ⟨u, h1, h2⟩ := Vals.get (i := i) (x := x) t (by simpa using e)
  exact ⟨u, by simpa using h1, h2⟩
theorem Vals.set {x : V} {u : Value} (r : RelV x u) : ∀ {xs : List V} {us : List Value} (i : Nat), Vals xs us -> Vals (xs.set i x) (us.set i u)
 | _, _, _, .nil => .nil
 | _, _, 0, .cons _ t => .cons r t
 | _, _, i + 1, .cons q t => .cons q (Vals.set r i t)
theorem Vals.append : ∀ {xs ys : List V} {us ws : List Value}, Vals xs us -> Vals ys ws -> Vals (xs ++ ys) (us ++ ws)
 | _, _, _, _, .nil, s => s
 | _, _, _, _, .cons r t, s => .cons r (Vals.append t s)
theorem Vals.take : ∀ {xs : List V} {us : List Value} (n : Nat), Vals xs us -> Vals (xs.take n) (us.take n)
 | _, _, 0, _ => .nil
 | _, _, _ + 1, .nil => .nil
 | _, _, n + 1, .cons r t => .cons r (Vals.take n t)
theorem Vals.drop : ∀ {xs : List V} {us : List Value} (n : Nat), Vals xs us -> Vals (xs.drop n) (us.drop n)
 | _, _, 0, r => r
 | _, _, _ + 1, .nil => .nil
 | _, _, n + 1, .cons _ t => Vals.drop n t
def RelO : Option V -> Option Value -> Prop
 | some v, some u => RelV v u
 | none, none => True
 | _, _ => False
def KV {κ : Type} : List (κ × V) -> List (κ × Value) -> Prop := Paired fun (p : κ × V) (q : κ × Value) => p.1 = q.1 /\ RelV p.2 q.2
def kV : Key -> V
 | .inl i => .int i
 | .inr x => .str x
inductive HO where
 | lst (xs : List V)
 | tup (xs : List V)
 | dK (kvs : List (Key × V)) | dT (kvs : List (List Key × V))
 | set (S : Int -> Bool) (n : Nat)
 | ins (C dx : Addr) (fs : List (Str × V))
 | own (x : Addr)
 | xd (fs : List (Str × V))
 | met (f x : Addr)
 | rng (lo hi : Int)
 | frz (o : Obj) (u : HO)
 | tbl (ps : Array Value)
 | ext (φ : Heap -> Prop)
abbrev Hp := Addr -> Option HO
def upd (H : Hp) (a : Addr) (o : HO) : Hp := fun b => if b = a then some o else H b
theorem yK {H : Hp} {a : Addr} {o : HO} : upd H a o a = some o := by unfold upd; rw [if_pos rfl]
theorem yU {H : Hp} {a b : Addr} {o : HO} (h : b ≠ a) : upd H a o b = H b := by unfold upd; rw [if_neg h]
theorem yEx {H : Hp} {a b : Addr} {o u : HO} (h : H a = some o) (h' : H b = some u) (d : o ≠ u) : a ≠ b := by
 intro e; subst e; rw [h] at h'; exact d (Option.some.inj h')
theorem ycb {H : Hp} {a b : Addr} {o : HO} (h : H a = some o) (h' : H b = none) : a ≠ b := by
 intro e; subst e; rw [h] at h'; cases h'
section
variable (P : Program) (w : World)
def ObjOk (H : Hp) (h : Heap) (a : Addr) : HO -> Prop
  | .lst xs => xs.length <= sizeLine /\ ∃ (its : List Value) (n : Nat), Vals xs its /\ h.get? a = some { cls := .type "list", data := .seq its.toArray n }
  | .tup xs => xs.length <= sizeLine /\ ∃ its : List Value, Vals xs its /\ IsTup h a its.toArray
  | .dK kvs => kvs.length <= sizeLine /\ (a == sysModules) = false /\ ∃ vs, KV kvs vs /\ h.DictOf (ycZ P w) a vs
  | .dT kvs => kvs.length <= sizeLine /\ (a == sysModules) = false /\ ∃ xs : List (List Key × Addr × Value),
      Paired (fun (p : List Key × V) (q : List Key × Addr × Value) => p.1 = q.1 /\ H q.2.1 = some (.tup (p.1.map kV)) /\ RelV p.2 q.2.2) kvs xs /\
      ∃ o es ep, h.get? a = some o /\ o.ExactDict /\ o.data = .dict es ep /\ es.toList = xs.map (entryOfKey (tupleKind (ycZ P w))) /\ (xs.map (·.1)).Nodup
  | .set S n => h.SetOf (intKind P w) a S n
  | .ins C dx fs => H dx = some (.own a) /\ fs.length <= 1000 /\ dx ≠ a /\ h.get? a = some (PySem.W.instObj C dx) /\
      ∃ mA, h.Ns1 dx mA /\ (∀ f, RelO (fs.lookup f) (mA f)) /\ PySem.Within mA (fs.map (·.1))
  | .own _ => ∃ o, h.get? a = some o
  | .xd fs => ∃ mA, h.Ns1 a mA /\ ∀ f, RelO (fs.lookup f) (mA f)
  | .rng lo hi => ∃ t u v, h.get? a = some { cls := .type "range", data := .fields #[.int lo t, .int hi u, .int 1 v] }
  | .frz o u => h.get? a = some o /\ ObjOk H h a u
  | .tbl ps => h.get? a = some { cls := .none, data := .fields ps }
  | .met f x => h.get? a = some (PySem.W.methodObj (.ref f) (.ref x))
  | .ext φ => φ h /\ (∃ o, h.get? a = some o) /\ ∀ h1 h2 : Heap, φ h1 -> (∀ o, h1.get? a = some o -> h2.get? a = some o) -> φ h2
def HOk (H : Hp) (h : Heap) : Prop := ∀ a o, H a = some o -> ObjOk P w H h a o
end
section
variable {P : Program} {w : World} {H H' : Hp} {h h' : Heap} {a : Addr} {o : HO}
theorem ObjOk.lt (x : ObjOk P w H h a o) : a < h.objs.size := by
 cases o with
 | lst xs => obtain ⟨_, _, _, _, e⟩ := x; exact Heap.lt_size e
 | tup xs => obtain ⟨_, _, _, p⟩ := x; exact p.lt
 | dK kvs => obtain ⟨_, _, _, _, o, _, _, e, _⟩ := x; exact Heap.lt_size e
 | dT kvs => obtain ⟨_, _, _, _, o, _, _, e, _⟩ := x; exact Heap.lt_size e
 | set S n => obtain ⟨o, _, _, _, e, _⟩ := x; exact Heap.lt_size e
 | ins C dx fs => obtain ⟨_, _, _, e, _⟩ := x; exact Heap.lt_size e
 | own y => obtain ⟨_, e⟩ := x; exact Heap.lt_size e
 | xd fs => obtain ⟨_, ⟨_, _, _, e, _⟩, _⟩ := x; exact Heap.lt_size e
 | rng lo hi => obtain ⟨_, _, _, e⟩ := x; exact Heap.lt_size e
 | frz ob u => obtain ⟨e, _⟩ := x; exact Heap.lt_size e
 | tbl ps => exact Heap.lt_size (show h.get? a = some _ from x)
 | met f y => exact Heap.lt_size (show h.get? a = some _ from x)
 | ext φ => obtain ⟨_, ⟨_, e⟩, _⟩ := x; exact Heap.lt_size e
theorem Paired.mapP {α β : Type} {F G : α -> β -> Prop} : ∀ {l₁ : List α} {l₂ : List β}, Paired F l₁ l₂ -> (∀ a b, F a b -> G a b) -> Paired G l₁ l₂
 | _, _, .nil, _ => .nil
 | _, _, .cons r t, f => .cons (f _ _ r) (Paired.mapP t f)
theorem ObjOk.stay (x : ObjOk P w H h a o) (k : ∀ b u, (b = a \/ H b = some (.own a)) -> h.get? b = some u -> h'.get? b = some u)
  (ho : ∀ b, H b = some (.own a) -> H' b = some (.own a)) (ht : ∀ b xs, H b = some (.tup xs) -> H' b = some (.tup xs)) : ObjOk P w H' h' a o := by
 induction o with
 | lst xs => obtain ⟨z, its, n, r, e⟩ := x; exact ⟨z, its, n, r, k _ _ (.inl rfl) e⟩
 | tup xs => obtain ⟨z, its, r, ob, e, c⟩ := x; exact ⟨z, its, r, ob, k _ _ (.inl rfl) e, c⟩
 | dK kvs => obtain ⟨z, y, vs, r, ob, es, ep, e, c⟩ := x; exact ⟨z, y, vs, r, ob, es, ep, k _ _ (.inl rfl) e, c⟩
 | dT kvs =>
  obtain ⟨z, y, xs, r, ob, es, ep, e, c⟩ := x
  exact ⟨z, y, xs, Paired.mapP r fun p q z => ⟨z.1, ht _ _ z.2.1, z.2.2⟩, ob, es, ep, k _ _ (.inl rfl) e, c⟩
 | set S n => obtain ⟨ob, es, ep, t, e, c⟩ := x; exact ⟨ob, es, ep, t, k _ _ (.inl rfl) e, c⟩
 | ins C dx fs =>
  obtain ⟨d, z, ne, e, mA, ⟨od, es, ep, e2, c⟩, r⟩ := x
  exact ⟨ho _ d, z, ne, k _ _ (.inl rfl) e, mA, ⟨od, es, ep, k _ _ (.inr d) e2, c⟩, r⟩
 | own y => obtain ⟨ob, e⟩ := x; exact ⟨ob, k _ _ (.inl rfl) e⟩
 | xd fs => obtain ⟨mA, ⟨od, es, ep, e, c⟩, r⟩ := x; exact ⟨mA, ⟨od, es, ep, k _ _ (.inl rfl) e, c⟩, r⟩
 | rng lo hi => obtain ⟨t, u, v, e⟩ := x; exact ⟨t, u, v, k _ _ (.inl rfl) e⟩
 | frz ob u ih => obtain ⟨e, q⟩ := x; exact ⟨k _ _ (.inl rfl) e, ih q⟩
 | tbl ps =>
  have e : h.get? a = some { cls := .none, data := .fields ps } := x
  show h'.get? a = some { cls := .none, data := .fields ps }
  exact k a _ (.inl rfl) e
 | met f y =>
  have e : h.get? a = some (PySem.W.methodObj (.ref f) (.ref y)) := x
  show h'.get? a = some (PySem.W.methodObj (.ref f) (.ref y))
  exact k a _ (.inl rfl) e
 | ext φ => obtain ⟨p, ⟨o, e⟩, st⟩ := x; exact ⟨st _ _ p fun o q => k _ _ (.inl rfl) q, ⟨o, k _ _ (.inl rfl) e⟩, st⟩
theorem HOk.lt (x : HOk P w H h) (e : H a = some o) : a < h.objs.size := (x a o e).lt
theorem HOk.fresh (x : HOk P w H h) (e : h.objs.size <= a) : H a = none := by
 cases q : H a with
 | none => rfl
 | some u => exact absurd (Nat.lt_of_lt_of_le (x.lt q) e) (Nat.lt_irrefl _)
theorem HOk.kept (x : HOk P w H h) (k : ∀ b u, h.get? b = some u -> h'.get? b = some u) : HOk P w H h' := fun a o e =>
 (x a o e).stay (fun b u _ q => k b u q) (fun _ q => q) fun _ _ q => q
theorem HOk.laid (x : HOk P w H h) (k : ∀ b u, h.get? b = some u -> h'.get? b = some u) (hp : h.objs.size <= a) (new : ObjOk P w (upd H a o) h' a o) : HOk P w (upd H a o) h' := fun b u e => by
  have hn := x.fresh hp
  by_cases hb : b = a
  . subst hb; rw [yK] at e; cases e; exact new
  . rw [yU hb] at e
    exact (x b u e).stay (fun c v _ q => k c v q) (fun c q => by rw [yU (ycb q hn)]; exact q) fun c xs q => by rw [yU (ycb q hn)]; exact q
end
def Rd (H : Hp) (a : Addr) (u : HO) : Prop := H a = some u \/ ∃ o, H a = some (.frz o u)
theorem Rd.ok {P : Program} {w : World} {H : Hp} {h : Heap} {a : Addr} {u : HO} (r : Rd H a u) (x : HOk P w H h) : ObjOk P w H h a u := by
  rcases r with r | ⟨o, r⟩
  . exact x a u r
  . obtain ⟨_, q⟩ := x a _ r
    exact q
def Mut : Option HO -> Prop
 | some (.lst _) => True
 | some (.dK _) => True
 | some (.dT _) => True
 | some (.set _ _) => True
 | some (.ins _ _ _) => True
 | some (.ext _) => True
 | _ => False
section
variable {P : Program} {w : World} {H : Hp} {h h' : Heap} {x e : Addr} {o' : HO}
theorem HOk.write (ok : HOk P w H h) (mu : Mut (H x)) (he : e = x \/ H e = some (.own x)) (k : ∀ b u, b ≠ e -> h.get? b = some u -> h'.get? b = some u) (heo : ∃ u, h'.get? e = some u)
    (new : ObjOk P w (upd H x o') h' x o') : HOk P w (upd H x o') h' := fun b u q => by
  have nown : ∀ c y, H c = some (.own y) -> c ≠ x := fun c y r z => by subst z; rw [r] at mu; exact mu
  have ntup : ∀ c xs, H c = some (.tup xs) -> c ≠ x := fun c xs r z => by subst z; rw [r] at mu; exact mu
  by_cases hb : b = x
  . subst hb; rw [yK] at q; cases q; exact new
  . rw [yU hb] at q
    by_cases hbe : b = e
    . have q' : H b = some (.own x) := by
        rcases he with z | z
        . exact absurd (hbe.trans z) hb
        . rw [hbe]; exact z
      rw [q] at q'; cases q'
      obtain ⟨v, hv⟩ := heo
      exact ⟨v, by rw [hbe]; exact hv⟩
    . refine (ok b u q).stay (fun c v hc r => k c v ?_ r) (fun c r => by rw [yU (nown c b r)]; exact r) fun c xs r => by rw [yU (ntup c xs r)]; exact r
      rcases hc with rfl | hc
      . exact hbe
      . rintro rfl
        rcases he with z | z
        . exact nown c b hc z
        . rw [hc] at z; cases z; exact hb rfl
end
structure Un (fs ex : List Addr) (H H' : Hp) (h h' : Heap) : Prop where
 keep : ∀ b o, h.get? b = some o -> H b = none -> b ∉ fs -> b ∉ ex -> h'.get? b = some o
 slot : ∀ b o, h.get? b = some o -> H b = none -> b ∈ fs -> b ∉ ex -> ∃ sl, h'.get? b = some { o with slots := sl }
 free : ∀ b o, h.get? b = some o -> H b = none -> b ∉ ex -> H' b = none
 there : ∀ b o, h.get? b = some o -> b ∉ ex -> ∃ o', h'.get? b = some o'
 tups : ∀ b xs, H b = some (.tup xs) -> H' b = some (.tup xs)
 frzs : ∀ b o u, H b = some (.frz o u) -> H' b = some (.frz o u)
 tbls : ∀ b ps, H b = some (.tbl ps) -> ∃ more, H' b = some (.tbl (ps ++ more))
section
variable {fs fs' ex ex' : List Addr} {H H1 H2 : Hp} {h h1 h2 h' : Heap} {a x e : Addr} {o : HO}
theorem Un.any (u : Un fs ex H H1 h h1) {b : Addr} {ob : Obj} (q : h.get? b = some ob) (n : H b = none) (hx : b ∉ ex) : ∃ sl, h1.get? b = some { ob with slots := sl } := by
  by_cases hb : b ∈ fs
  . exact u.slot b ob q n hb hx
  . exact ⟨ob.slots, u.keep b ob q n hb hx⟩
theorem Un.kept (k : ∀ b u, h.get? b = some u -> h'.get? b = some u) : Un fs ex H H h h' :=
 ⟨fun b ob q _ _ _ => k b ob q, fun b ob q _ _ _ => ⟨ob.slots, k b ob q⟩, fun _ _ _ n _ => n, fun b ob q _ => ⟨ob, k b ob q⟩, fun _ _ q => q, fun _ _ _ q => q, fun _ ps q => ⟨#[], by rw [q]; simp⟩⟩
theorem Un.refl : Un fs ex H H h h := Un.kept fun _ _ q => q
theorem Un.laid (k : ∀ b u, h.get? b = some u -> h'.get? b = some u) (hp : h.objs.size <= a) (hn : H a = none) : Un fs ex H (upd H a o) h h' where
 keep := fun b u q _ _ _ => k b u q
 slot := fun b u q _ _ _ => ⟨u.slots, k b u q⟩
 free := fun b u q n _ => by rw [yU (Nat.ne_of_lt (Nat.lt_of_lt_of_le (Heap.lt_size q) hp))]; exact n
 there := fun b u q _ => ⟨u, k b u q⟩
 tups := fun b xs q => by rw [yU (ycb q hn)]; exact q
 frzs := fun b u xs q => by rw [yU (ycb q hn)]; exact q
 tbls := fun b ps q => ⟨#[], by rw [yU (ycb q hn), q]; simp⟩
theorem Un.write (mu : Mut (H x)) (he : e = x \/ H e = some (.own x)) (k : ∀ b u, b ≠ e -> h.get? b = some u -> h'.get? b = some u) (heo : ∃ u, h'.get? e = some u) : Un fs ex H (upd H x o) h h' := by
  have hx : ∀ b, H b = none -> b ≠ x := fun b n z => by subst z; rw [n] at mu; exact mu
  have hb : ∀ b, H b = none -> b ≠ e := fun b n z => by
    subst z
    rcases he with r | r
    . exact hx b n r
    . rw [n] at r; cases r
  have hm : ∀ b u, H b = some u -> ¬ Mut (some u) -> b ≠ x := fun b u q nm z => by subst z; rw [q] at mu; exact nm mu
  refine ⟨fun b u q n _ _ => k b u (hb b n) q, fun b u q n _ _ => ⟨u.slots, k b u (hb b n) q⟩, fun b u q n _ => by rw [yU (hx b n)]; exact n, fun b u q _ => ?_,
    fun b xs q => by rw [yU (hm b _ q fun z => z)]; exact q, fun b u xs q => by rw [yU (hm b _ q fun z => z)]; exact q, fun b ps q => ⟨#[], by rw [yU (hm b _ q fun z => z), q]; simp⟩⟩
  by_cases hbe : b = e
  . subst hbe; exact heo
  . exact ⟨u, k b u hbe q⟩
end
def trk (h : Heap) (H : Hp) : List Addr := (List.range h.objs.size).filter fun a => (H a).isSome
def ywL (h : Heap) (H : Hp) : Heap := PySem.W.hideAll h (trk h H)
theorem yuy (h : Heap) (H : Hp) : (ywL h H).objs.size = h.objs.size := PySem.W.hideAll_size _ _
theorem ywM {h : Heap} {H : Hp} {b : Addr} {o : Obj} (e : h.get? b = some o) (n : H b = none) : (ywL h H).get? b = some o :=
 PySem.W.hideAll_get _ e fun hm => by
  have q : (H b).isSome = true := (List.mem_filter.mp hm).2
  rw [n] at q; simp at q
theorem yzt {h : Heap} {H : Hp} {b : Addr} {o : Obj} (e : (ywL h H).get? b = some o) : h.get? b = some o /\ H b = none := by
 have e' : h.get? b = some o := PySem.W.of_hideAll (trk h H) e
 refine ⟨e', ?_⟩
 cases q : H b with
 | none => rfl
 | some x =>
  have hm : b ∈ trk h H := List.mem_filter.mpr ⟨List.mem_range.mpr (Heap.lt_size e'), by simp [q]⟩
  have z : (ywL h H).get? b = none := PySem.W.hideAll_none (trk h H) hm
  rw [z] at e; cases e
def yzu (g h : Heap) (L : Addr) : List (Addr × Obj) := (List.range h.objs.size).filterMap fun a => if a = L \/ (g.get? a).isSome = true then none else (h.get? a).map fun o => (a, o)
def rest (g h : Heap) (L d : Addr) : List (Addr × Obj) := (yzu g h L).filter fun p => decide (p.1 ≠ d)
end L2
namespace L2
open PySem PySem.Spec PyProof.Rows
structure Mod (K : PySem.W.Frag) (mg : Str -> Option Value) (base : Heap) : Prop where
 kin : K.In base
 glob : base.Ns mainGlobals mg
 blt : ∃ mb, base.Ns builtinsNs mb /\ ∀ x : Str, x ≠ "__name__" -> mb x = bootBuiltins x
 nolimit : base.NoLimit
structure Cx where
 prog : Program
 w : World
 K : PySem.W.Frag
 mg : Str -> Option Value
 base : Heap
 A : Around
 N : List Str
 s₀ : Shared
 H₀ : Hp
 env : Env
 outer : List Env
 stack : List Env
 ex : List Addr
 fn : Str -> Bool
 calm : Bool
 pn : List (Addr × Obj)
 xe : Value -> Shared -> Prop
def frs (l : List Env) : List Addr := l.filterMap (·.frame)
abbrev Cx.fs (X : Cx) : List Addr := frs X.outer
def Vis (sc : Scope) (x : Str) : Prop := sc.names.lookup x = some .local \/ sc.names.lookup x = some .cell \/ sc.names.lookup x = some .free
def Loc (sc : Scope) (x : Str) : Prop := sc.names.lookup x = some .local \/ sc.names.lookup x = some .cell
def Look (env : Env) (h : Heap) (m : Str -> Option Value) (x : Str) (u : Value) : Prop :=
 (env.kindOf x = some .local /\ m x = some u) \/ ((env.kindOf x = some .cell \/ env.kindOf x = some .free) /\ ∃ c, env.cells.lookup x = some c /\ h.IsCell c (some u))
structure Cx.Ok (X : Cx) : Prop where
 mod : Mod X.K X.mg X.base
 kind : X.env.scope.kind = .function
 glob : X.env.globals = mainGlobals
 blt : X.env.builtins = builtinsNs
 above : X.s₀.heap.objs.size <= X.env.locals
 inj : ∀ x y c, X.env.cells.lookup x = some c -> X.env.cells.lookup y = some c -> x = y
 has : ∀ x, (X.env.kindOf x = some .cell \/ X.env.kindOf x = some .free) -> ∃ c, X.env.cells.lookup x = some c
 cab : ∀ x c, X.fn x = true -> X.env.cells.lookup x = some c -> X.s₀.heap.objs.size <= c
 hd : X.calm = true -> X.A.handled = none
 frames : X.A.frames = some X.stack
 stk : X.stack = X.outer \/ (X.stack = X.env :: X.outer /\ X.env.frame = some X.env.locals)
 exf : ∀ b ∈ X.ex, b ≠ X.env.locals /\ ∀ x c, X.env.cells.lookup x = some c -> c ≠ b
 bs : ∀ b o, X.base.get? b = some o -> X.s₀.heap.get? b = some o /\ X.H₀ b = none
 bsz : X.base.objs.size <= X.s₀.heap.objs.size
 noex : ∀ b o, X.base.get? b = some o -> b ∉ X.ex
 exfs : ∀ b ∈ X.ex, b ∉ X.fs
 funs : X.s₀.heap.FunFrames X.base X.outer
 frf : ∀ b ∈ X.fs, X.H₀ b = none
structure Inv (X : Cx) (pins : List (Addr × Obj)) (σ : List (Option V)) (H : Hp) (s : Shared) : Prop where
 ok : X.Ok
 os : s.os = X.s₀.os
 bare : AllBare s.gens
 base : Un X.fs X.ex X.H₀ H X.s₀.heap s.heap
 loc : ∃ m, s.heap.Ns X.env.locals m /\ ∀ (i : Nat) (x : Str) (v : V), X.N[i]? = some x -> σ[i]? = some (some v) -> Vis X.env.scope x -> ∃ u, RelV v u /\ Look X.env s.heap m x u
 cell : ∀ x c, X.env.cells.lookup x = some c -> ∃ v, s.heap.IsCell c v
 free : H X.env.locals = none
 freeC : ∀ x c, X.env.cells.lookup x = some c -> H c = none
 pin : ∀ p ∈ X.pn ++ pins, s.heap.get? p.1 = some p.2 /\ H p.1 = none /\ p.1 ≠ X.env.locals /\ p.1 ∉ X.fs /\ ∀ v, p.2.data ≠ .cell v
 hok : HOk X.prog X.w H s.heap
 len : σ.length = X.N.length
section
variable {X : Cx} {pins : List (Addr × Obj)} {σ : List (Option V)} {H H' : Hp} {s : Shared} {h' : Heap}
theorem Cx.Ok.nofr (ok : X.Ok) {b : Addr} {o : Obj} (e : X.base.get? b = some o) : b ∉ X.fs := fun hb => by
 have := (ok.funs.mem hb).1
 rw [e] at this; cases this
theorem Inv.bs (I : Inv X pins σ H s) : ∀ b o, X.base.get? b = some o -> s.heap.get? b = some o /\ H b = none := fun b o e =>
 ⟨I.base.keep b o (I.ok.bs b o e).1 (I.ok.bs b o e).2 (I.ok.nofr e) (I.ok.noex b o e), I.base.free b o (I.ok.bs b o e).1 (I.ok.bs b o e).2 (I.ok.noex b o e)⟩
theorem Inv.bk (I : Inv X pins σ H s) : ∀ b o, X.base.get? b = some o -> s.heap.get? b = some o := fun b o e => (I.bs b o e).1
theorem Inv.mod (I : Inv X pins σ H s) : Mod X.K X.mg X.base := I.ok.mod
theorem Inv.kIn (I : Inv X pins σ H s) : X.K.In s.heap := I.ok.mod.kin.keeps I.bk
theorem Inv.lt (I : Inv X pins σ H s) : X.env.locals < s.heap.objs.size := let ⟨_, hn, _⟩ := I.loc; hn.lt
theorem Inv.sz (I : Inv X pins σ H s) : X.s₀.heap.objs.size <= s.heap.objs.size := Nat.le_trans I.ok.above (Nat.le_of_lt I.lt)
theorem Inv.nofs (I : Inv X pins σ H s) {a : Addr} (h : s.heap.objs.size <= a) : a ∉ X.fs := fun hb => by
 obtain ⟨_, o, ho, _⟩ := I.ok.funs.mem hb
 exact absurd (Nat.lt_of_lt_of_le (Heap.lt_size ho) (Nat.le_trans I.sz h)) (Nat.lt_irrefl _)
theorem Inv.cne (I : Inv X pins σ H s) : ∀ x c, X.env.cells.lookup x = some c -> c ≠ X.env.locals := fun x c e z => by
 obtain ⟨v, o, ho, hd⟩ := I.cell x c e
 obtain ⟨m, ⟨o', es, ep, ho', hd', _⟩, _⟩ := I.loc
 rw [z, ho'] at ho; cases ho; rw [hd'] at hd; cases hd
theorem Inv.funs (I : Inv X pins σ H s) : s.heap.FunFrames X.base X.outer := by
 have all : ∀ (l : List Env), (∀ b ∈ frs l, b ∈ X.fs) -> X.s₀.heap.FunFrames X.base l -> s.heap.FunFrames X.base l := by
  intro l
  induction l with
  | nil => intro _ _; trivial
  | cons env r ih =>
   intro hs hl
   obtain ⟨hk, ⟨L, o, hf, hn, ho, hd⟩, hr⟩ := hl
   have hL : L ∈ X.fs := hs L (by unfold frs; rw [List.filterMap_cons, hf]; exact List.mem_cons_self)
   obtain ⟨sl, e⟩ := I.base.slot L o ho (I.ok.frf L hL) hL fun z => I.ok.exfs L z hL
   exact ⟨hk, ⟨L, _, hf, hn, e, hd⟩, ih (fun b hb => hs b (by unfold frs; rw [List.filterMap_cons, hf]; exact List.mem_cons_of_mem _ hb)) hr⟩
 exact all X.outer (fun _ hb => hb) I.ok.funs
theorem Inv.stack (I : Inv X pins σ H s) : s.heap.FunFrames X.base X.stack := by
  rcases I.ok.stk with e | ⟨e, hf⟩
  . rw [e]; exact I.funs
  . rw [e]
    obtain ⟨m, hn, _⟩ := I.loc
    refine .cons (by rw [I.ok.kind]; decide) hf hn ?_ I.funs
    exact Heap.get?_none_of_le (Nat.le_trans I.ok.bsz I.ok.above)
theorem Inv.stkSub (I : Inv X pins σ H s) : ∀ b ∈ frs X.stack, b ∈ X.env.locals :: X.fs := fun b hb => by
  rcases I.ok.stk with e | ⟨e, hf⟩
  . rw [e] at hb; exact List.mem_cons_of_mem _ hb
  . rw [e] at hb
    unfold frs at hb
    rw [List.filterMap_cons, hf] at hb
    exact hb
theorem Inv.stkFree (I : Inv X pins σ H s) : ∀ b ∈ frs X.stack, H b = none := fun b hb => by
  rcases List.mem_cons.mp (I.stkSub b hb) with e | hb
  . rw [e]; exact I.free
  . obtain ⟨_, o, ho, _⟩ := I.ok.funs.mem hb
    exact I.base.free b o ho (I.ok.frf b hb) fun z => I.ok.exfs b z hb
theorem Inv.step {g' : Array GenState} {t' : Nat} {d' : Drawn} {ch : List Addr} (I : Inv X pins σ H s)
    (hch : ∀ b ∈ ch, (b ∈ X.ex \/ X.s₀.heap.objs.size <= b) /\ b ≠ X.env.locals /\ (∀ x c, X.env.cells.lookup x = some c -> c ≠ b) /\ ∀ p ∈ X.pn ++ pins, p.1 ≠ b)
    (keep : ∀ b o, b ≠ X.env.locals -> b ∉ X.fs -> b ∉ ch -> s.heap.get? b = some o -> H b = none -> h'.get? b = some o)
    (slot : ∀ b o, b ≠ X.env.locals -> b ∈ X.fs -> b ∉ ch -> s.heap.get? b = some o -> H b = none -> ∃ sl, h'.get? b = some { o with slots := sl }) (free : ∀ b o, b ∉ ch -> s.heap.get? b = some o -> H b = none -> H' b = none)
    (there : ∀ b o, b ∉ ch -> s.heap.get? b = some o -> ∃ o', h'.get? b = some o')
    (tups : ∀ b xs, H b = some (.tup xs) -> H' b = some (.tup xs)) (frzs : ∀ b o u, H b = some (.frz o u) -> H' b = some (.frz o u)) (tbls : ∀ b ps, H b = some (.tbl ps) -> ∃ more, H' b = some (.tbl (ps ++ more)))
    (ns : ∀ m, s.heap.Ns X.env.locals m -> h'.Ns X.env.locals m) (hok : HOk X.prog X.w H' h') (hg : AllBare g') :
    Inv X pins σ H' { s with heap := h', gens := g', drawn := d', toks := t' } := by
  have neL : ∀ b o, X.s₀.heap.get? b = some o -> b ≠ X.env.locals := fun b o e => Nat.ne_of_lt (Nat.lt_of_lt_of_le (Heap.lt_size e) I.ok.above)
  have neC : ∀ b o, X.s₀.heap.get? b = some o -> b ∉ X.ex -> b ∉ ch := fun b o e hx hb => by
    rcases (hch b hb).1 with z | z
    . exact hx z
    . exact absurd (Nat.lt_of_lt_of_le (Heap.lt_size e) z) (Nat.lt_irrefl _)
  have cellK : ∀ x c, X.env.cells.lookup x = some c -> ∀ v, s.heap.IsCell c v -> h'.IsCell c v := fun x c e v ⟨o, ho, hd⟩ => by
    have nch : c ∉ ch := fun z => (hch c z).2.2.1 x c e rfl
    by_cases hc : c ∈ X.fs
    . obtain ⟨sl, q⟩ := slot c o (I.cne x c e) hc nch ho (I.freeC x c e)
      exact ⟨_, q, hd⟩
    . exact ⟨o, keep c o (I.cne x c e) hc nch ho (I.freeC x c e), hd⟩
  refine ⟨I.ok, I.os, hg, ⟨fun b o e n hb hx => ?_, fun b o e n hb hx => ?_, fun b o e n hx => ?_, fun b o e hx => ?_, fun b xs e => tups b xs (I.base.tups b xs e), fun b o xs e => frzs b o xs (I.base.frzs b o xs e), fun b ps e => ?_⟩, ?_, fun x c e => ?_, ?_, fun x c e => ?_, fun p hp => ?_, hok, I.len⟩
  . exact keep b o (neL b o e) hb (neC b o e hx) (I.base.keep b o e n hb hx) (I.base.free b o e n hx)
  . obtain ⟨sl, e1⟩ := I.base.slot b o e n hb hx
    obtain ⟨sl', e2⟩ := slot b _ (neL b o e) hb (neC b o e hx) e1 (I.base.free b o e n hx)
    exact ⟨sl', e2⟩
  . obtain ⟨o', e1⟩ := I.base.there b o e hx
    exact free b o' (neC b o e hx) e1 (I.base.free b o e n hx)
  . obtain ⟨o', e1⟩ := I.base.there b o e hx
    exact there b o' (neC b o e hx) e1
  . obtain ⟨m1, e1⟩ := I.base.tbls b ps e
    obtain ⟨m2, e2⟩ := tbls b _ e1
    exact ⟨m1 ++ m2, by rw [e2, Array.append_assoc]⟩
  . obtain ⟨m, hn, hl⟩ := I.loc
    refine ⟨m, ns m hn, fun i x v e1 e2 e3 => ?_⟩
    obtain ⟨u, r, l⟩ := hl i x v e1 e2 e3
    refine ⟨u, r, ?_⟩
    rcases l with l | ⟨k, c, e, z⟩
    . exact .inl l
    . exact .inr ⟨k, c, e, cellK x c e _ z⟩
  . obtain ⟨v, z⟩ := I.cell x c e
    exact ⟨v, cellK x c e v z⟩
  . obtain ⟨m, ⟨o, _, _, ho, _⟩, _⟩ := I.loc
    exact free _ o (fun z => (hch _ z).2.1 rfl) ho I.free
  . obtain ⟨v, o, ho, hd⟩ := I.cell x c e
    exact free c o (fun z => (hch c z).2.2.1 x c e rfl) ho (I.freeC x c e)
  . obtain ⟨e, n, ne, nf, d⟩ := I.pin p hp
    have nch : p.1 ∉ ch := fun z => (hch p.1 z).2.2.2 p hp rfl
    exact ⟨keep p.1 p.2 ne nf nch e n, free p.1 p.2 nch e n, ne, nf, d⟩
theorem Inv.un {t' : Nat} (I : Inv X pins σ H s) (u : Un X.fs [] H H' s.heap h') (hok : HOk X.prog X.w H' h') : Inv X pins σ H' { s with heap := h', toks := t' } := by
 obtain ⟨m, ⟨o, es, ep, ho, r⟩, _⟩ := id I.loc
 obtain ⟨sl, hL⟩ := u.any ho I.free (by simp)
 exact I.step (g' := s.gens) (d' := s.drawn) (ch := []) (fun _ z => nomatch z) (fun b o _ hb _ e n => u.keep b o e n hb (by simp)) (fun b o _ hb _ e n => u.slot b o e n hb (by simp)) (fun b o _ e n => u.free b o e n (by simp)) (fun b o _ e => u.there b o e (by simp)) u.tups u.frzs u.tbls (fun m' hm => by
  obtain ⟨o', es', ep', ho', r'⟩ := hm
  rw [ho] at ho'; cases ho'
  exact ⟨_, es', ep', hL, r'⟩) hok I.bare
theorem Inv.call {g' : Array GenState} {t' : Nat} {d' : Drawn} {ch : List Addr} (I : Inv X pins σ H s) (u : Un (frs X.stack) ch H H' s.heap h') (hok : HOk X.prog X.w H' h') (hg : AllBare g')
  (hch : ∀ b ∈ ch, (b ∈ X.ex \/ X.s₀.heap.objs.size <= b) /\ b ≠ X.env.locals /\ (∀ x c, X.env.cells.lookup x = some c -> c ≠ b) /\ ∀ p ∈ X.pn ++ pins, p.1 ≠ b) :
  Inv X pins σ H' { s with heap := h', gens := g', drawn := d', toks := t' } := by
 obtain ⟨m, ⟨o, es, ep, ho, r⟩, _⟩ := id I.loc
 obtain ⟨sl, hL⟩ := u.any ho I.free fun z => (hch _ z).2.1 rfl
 exact I.step (ch := ch) hch (fun b o hL hb hc e n => u.keep b o e n (fun z => (List.mem_cons.mp (I.stkSub b z)).elim hL hb) hc) (fun b o _ _ hc e n => u.any e n hc) (fun b o hc e n => u.free b o e n hc) (fun b o hc e => u.there b o e hc) u.tups u.frzs u.tbls (fun m' hm => by
  obtain ⟨o', es', ep', ho', r'⟩ := hm
  rw [ho] at ho'; cases ho'
  exact ⟨_, es', ep', hL, r'⟩) hok hg
theorem Inv.turned {t' : Nat} {it : Addr} (I : Inv X pins σ H s) (k : ∀ b o, b ≠ it -> s.heap.get? b = some o -> h'.get? b = some o) (hn : H it = none) (hL : it ≠ X.env.locals)
    (h1 : it ∈ X.ex \/ X.s₀.heap.objs.size <= it) (h2 : ∀ x c, X.env.cells.lookup x = some c -> c ≠ it) (h3 : ∀ p ∈ X.pn ++ pins, p.1 ≠ it) : Inv X pins σ H { s with heap := h', toks := t' } := by
  have nit : ∀ b u, H b = some u -> b ≠ it := fun b u e z => by rw [z, hn] at e; cases e
  refine I.step (g' := s.gens) (d' := s.drawn) (ch := [it]) (fun b hb => ?_) (fun b o _ _ hc e _ => k b o (fun z => hc (by simp [z])) e) (fun b o _ _ hc e _ => ⟨o.slots, k b o (fun z => hc (by simp [z])) e⟩) (fun _ _ _ _ n => n)
    (fun b o hc e => ⟨o, k b o (fun z => hc (by simp [z])) e⟩) (fun _ _ e => e) (fun _ _ _ e => e) (fun b ps e => ⟨#[], by rw [e]; simp⟩) (fun m hm => ?_) (fun b u e => ?_) I.bare
  . have e : b = it := by simpa using hb
    subst e
    exact ⟨h1, hL, h2, h3⟩
  . obtain ⟨o, es, ep, ho, r⟩ := hm
    exact ⟨o, es, ep, k _ o (Ne.symm hL) ho, r⟩
  . refine (I.hok b u e).stay (fun c v hc q => k c v ?_ q) (fun _ q => q) fun _ _ q => q
    rcases hc with z | z
    . rw [z]; exact nit b u e
    . exact nit c _ z
theorem Inv.tok (I : Inv X pins σ H s) (t : Nat) : Inv X pins σ H { s with toks := t } := I.un (h' := s.heap) (t' := t) Un.refl I.hok
theorem Inv.kept {t' : Nat} (I : Inv X pins σ H s) (k : ∀ b u, s.heap.get? b = some u -> h'.get? b = some u) : Inv X pins σ H { s with heap := h', toks := t' } := I.un (Un.kept k) (I.hok.kept k)
theorem Inv.laid {a : Addr} {o : HO} {t' : Nat} (I : Inv X pins σ H s) (k : ∀ b u, s.heap.get? b = some u -> h'.get? b = some u) (hp : s.heap.objs.size <= a) (new : ObjOk X.prog X.w (upd H a o) h' a o) :
  Inv X pins σ (upd H a o) { s with heap := h', toks := t' } := I.un (Un.laid k hp (I.hok.fresh hp)) (I.hok.laid k hp new)
theorem Inv.write {x e : Addr} {o : HO} {t' : Nat} (I : Inv X pins σ H s) (mu : Mut (H x)) (he : e = x \/ H e = some (.own x)) (k : ∀ b u, b ≠ e -> s.heap.get? b = some u -> h'.get? b = some u) (heo : ∃ u, h'.get? e = some u)
  (new : ObjOk X.prog X.w (upd H x o) h' x o) : Inv X pins σ (upd H x o) { s with heap := h', toks := t' } := I.un (Un.write mu he k heo) (I.hok.write mu he k heo new)
theorem Inv.pins_of {pins' : List (Addr × Obj)} (I : Inv X pins σ H s) (h : ∀ p ∈ pins', s.heap.get? p.1 = some p.2 /\ H p.1 = none /\ p.1 ≠ X.env.locals /\ p.1 ∉ X.fs /\ ∀ v, p.2.data ≠ .cell v) : Inv X pins' σ H s :=
 ⟨I.ok, I.os, I.bare, I.base, I.loc, I.cell, I.free, I.freeC, fun p hp => (List.mem_append.mp hp).elim (fun z => I.pin p (List.mem_append_left _ z)) (h p), I.hok, I.len⟩
theorem ysx {N : List Str} (hN : N.Nodup) {i j : Nat} {x : Str} (a : N[i]? = some x) (b : N[j]? = some x) : i = j := by
 obtain ⟨h1, e1⟩ := List.getElem?_eq_some_iff.mp a
 obtain ⟨h2, e2⟩ := List.getElem?_eq_some_iff.mp b
 exact (List.getElem_inj hN).mp (e1.trans e2.symm)
theorem yuz {M : Model} {A : Around} {E : Value -> Shared -> Prop} {i : Nat} {x : Str} {v : V} {u : Value} {Q : Unit -> Shared -> Prop} (I : Inv X pins σ H s) (hN : X.N.Nodup) (hi : X.N[i]? = some x) (hx : Loc X.env.scope x) (r : RelV v u)
    (h : ∀ s', Inv X pins (σ.set i (some v)) H s' -> (∃ a, Heap.SameBut a s.heap s'.heap /\ (a = X.env.locals \/ X.env.cells.lookup x = some a)) -> Q () s') (hf : X.fn x = true \/ X.env.scope.names.lookup x = some .local := by first | exact .inl rfl | exact .inr rfl | assumption) : wpAny M A (storeName X.env x u) Q E s := by
  obtain ⟨m, hn, hl⟩ := id I.loc
  have hcls : (X.env.scope.kind == .class || (X.env.scope.kind == .module && X.env.locals != X.env.globals)) = false := by rw [I.ok.kind]; rfl
  have hiσ : i < σ.length := by rw [I.len]; exact (List.getElem?_eq_some_iff.mp hi).1
  have cne := I.cne
  have tracked : ∀ {a : Addr} {h' : Heap}, (∃ o, s.heap.get? a = some o /\ H a = none) -> Heap.SameBut a s.heap h' -> HOk X.prog X.w H h' := fun {a h'} ha hs b ob e => by
    obtain ⟨_, _, hfree⟩ := ha
    refine (I.hok b ob e).stay (fun c w' hc q => (hs.2 c ?_).trans q) (fun _ q => q) fun _ _ q => q
    rintro rfl
    rcases hc with rfl | hc
    . rw [hfree] at e; cases e
    . rw [hfree] at hc; cases hc
  rcases hx with hk | hk
  . refine wpAny_storeName_local hk hn (fun h' hn' hs => ?_) hcls
    obtain ⟨oL, _, _, hoL, _⟩ := id hn
    refine h _ ⟨I.ok, I.os, I.bare, ⟨fun b o e n hb hx => ?_, fun b o e n hb hx => ?_, I.base.free, fun b o e hx => ?_, I.base.tups, I.base.frzs, I.base.tbls⟩, ⟨_, hn', fun j y v' e1 e2 e3 => ?_⟩, fun y c e => ?_, I.free, I.freeC, fun p hp => ?_, tracked ⟨oL, hoL, I.free⟩ hs, by simpa using I.len⟩ ⟨_, hs, .inl rfl⟩
    . exact (hs.2 b (Nat.ne_of_lt (Nat.lt_of_lt_of_le (Heap.lt_size e) I.ok.above))).trans (I.base.keep b o e n hb hx)
    . obtain ⟨sl, e1⟩ := I.base.slot b o e n hb hx
      exact ⟨sl, (hs.2 b (Nat.ne_of_lt (Nat.lt_of_lt_of_le (Heap.lt_size e) I.ok.above))).trans e1⟩
    . obtain ⟨o', e1⟩ := I.base.there b o e hx
      exact ⟨o', (hs.2 b (Nat.ne_of_lt (Nat.lt_of_lt_of_le (Heap.lt_size e) I.ok.above))).trans e1⟩
    . by_cases hj : j = i
      . subst hj
        rw [hi] at e1; cases e1
        rw [List.getElem?_set_self hiσ] at e2
        cases e2
        exact ⟨u, r, .inl ⟨hk, by simp⟩⟩
      . rw [List.getElem?_set_ne (Ne.symm hj)] at e2
        obtain ⟨u', r', q⟩ := hl j y v' e1 e2 e3
        refine ⟨u', r', ?_⟩
        rcases q with ⟨k, e⟩ | ⟨k, c, e, z⟩
        . refine .inl ⟨k, ?_⟩
          have : y ≠ x := fun e => hj (ysx hN e1 (e ▸ hi))
          simp [this, e]
        . exact .inr ⟨k, c, e, z.sameBut hs (cne y c e)⟩
    . obtain ⟨w', z⟩ := I.cell y c e
      exact ⟨w', z.sameBut hs (cne y c e)⟩
    . obtain ⟨e, n, ne, nf, d⟩ := I.pin p hp
      exact ⟨(hs.2 p.1 ne).trans e, n, ne, nf, d⟩
  . have hfn : X.fn x = true := by
      rcases hf with z | z
      . exact z
      . rw [z] at hk; cases hk
    obtain ⟨c, hc⟩ := I.ok.has x (.inl hk)
    obtain ⟨w', z⟩ := I.cell x c hc
    refine wpAny_storeName_cell I.ok.kind hk hc z (fun h' hc' hs => ?_)
    obtain ⟨oc, hoc, hocd⟩ := id z
    refine h { s with heap := h' } ⟨I.ok, I.os, I.bare, ⟨fun b o e n hb hx => ?_, fun b o e n hb hx => ?_, I.base.free, fun b o e hx => ?_, I.base.tups, I.base.frzs, I.base.tbls⟩, ⟨m, hn.sameBut hs (Ne.symm (cne x c hc)), fun j y v' e1 e2 e3 => ?_⟩, fun y c' e => ?_, I.free, I.freeC, fun p hp => ?_, tracked ⟨oc, hoc, I.freeC x c hc⟩ hs, by simpa using I.len⟩ ⟨c, hs, .inr hc⟩
    . exact (hs.2 b (Nat.ne_of_lt (Nat.lt_of_lt_of_le (Heap.lt_size e) (I.ok.cab x c hfn hc)))).trans (I.base.keep b o e n hb hx)
    . obtain ⟨sl, e1⟩ := I.base.slot b o e n hb hx
      exact ⟨sl, (hs.2 b (Nat.ne_of_lt (Nat.lt_of_lt_of_le (Heap.lt_size e) (I.ok.cab x c hfn hc)))).trans e1⟩
    . obtain ⟨o', e1⟩ := I.base.there b o e hx
      exact ⟨o', (hs.2 b (Nat.ne_of_lt (Nat.lt_of_lt_of_le (Heap.lt_size e) (I.ok.cab x c hfn hc)))).trans e1⟩
    . by_cases hj : j = i
      . subst hj
        rw [hi] at e1; cases e1
        rw [List.getElem?_set_self hiσ] at e2
        cases e2
        exact ⟨u, r, .inr ⟨.inl hk, c, hc, hc'⟩⟩
      . rw [List.getElem?_set_ne (Ne.symm hj)] at e2
        obtain ⟨u', r', q⟩ := hl j y v' e1 e2 e3
        refine ⟨u', r', ?_⟩
        rcases q with q | ⟨k, c', e, z'⟩
        . exact .inl q
        . refine .inr ⟨k, c', e, z'.sameBut hs ?_⟩
          rintro rfl
          exact hj (ysx hN e1 (I.ok.inj _ _ _ e hc ▸ hi))
    . by_cases hcc : c' = c
      . subst hcc; exact ⟨_, hc'⟩
      . obtain ⟨w2, z2⟩ := I.cell y c' e
        exact ⟨w2, z2.sameBut hs hcc⟩
    . obtain ⟨e, n, ne, nf, d⟩ := I.pin p hp
      refine ⟨(hs.2 p.1 ?_).trans e, n, ne, nf, d⟩
      intro q
      rw [q, hoc] at e
      have q' : oc = p.2 := Option.some.inj e
      exact d w' (by rw [<- q']; exact hocd)
theorem ysy {M : Model} {A : Around} {E : Value -> Shared -> Prop} {i : Nat} {x : Str} {v : V} {u : Value} {Q : Unit -> Shared -> Prop} (I : Inv X pins σ H s) (hN : X.N.Nodup) (hi : X.N[i]? = some x) (hx : Loc X.env.scope x) (r : RelV v u)
  (h : ∀ s', Inv X pins (σ.set i (some v)) H s' -> Q () s') (hf : X.fn x = true \/ X.env.scope.names.lookup x = some .local := by first | exact .inl rfl | exact .inr rfl | assumption) : wpAny M A (storeName X.env x u) Q E s :=
 yuz I hN hi hx r (fun s' I' _ => h s' I') hf
theorem Inv.call' {s' : Shared} {ch : List Addr} (I : Inv X pins σ H s) (ho : s'.os = s.os) (u : Un (frs X.stack) ch H H' s.heap s'.heap) (hok : HOk X.prog X.w H' s'.heap) (hg : AllBare s'.gens)
  (hch : ∀ b ∈ ch, (b ∈ X.ex \/ X.s₀.heap.objs.size <= b) /\ b ≠ X.env.locals /\ (∀ x c, X.env.cells.lookup x = some c -> c ≠ b) /\ ∀ p ∈ X.pn ++ pins, p.1 ≠ b) : Inv X pins σ H' s' := by
 obtain ⟨h', g', d', t', o'⟩ := s'
 have e : o' = s.os := ho
 subst e
 exact I.call (g' := g') (t' := t') (d' := d') u hok hg hch
end
abbrev XK := Value -> Option Addr -> Hp -> Prop
abbrev St := List (Option V)
abbrev VK := V -> Hp -> Prop
abbrev TE := St -> Hp -> VK -> Prop
abbrev TT := St -> Hp -> (Bool -> Hp -> Prop) -> Prop
abbrev TA := St -> Hp -> (List V -> Hp -> Prop) -> Prop
structure Ends where
 nx : St -> Hp -> Prop
 rt : VK
 bk : St -> Hp -> Prop := fun _ _ => False
 ct : St -> Hp -> Prop := fun _ _ => False
abbrev TS := Ends -> St -> Hp -> Prop
def EP (X : Cx) (pins : List (Addr × Obj)) (σ : St) (Q : VK) (u : Value) (s' : Shared) : Prop := ∃ v H', Inv X pins σ H' s' /\ RelV v u /\ Q v H'
def TP (X : Cx) (pins : List (Addr × Obj)) (σ : St) (Q : Bool -> Hp -> Prop) (b : Bool) (s' : Shared) : Prop := ∃ H', Inv X pins σ H' s' /\ Q b H'
def AP (X : Cx) (pins : List (Addr × Obj)) (σ : St) (Q : List V -> Hp -> Prop) (us : List Value) (s' : Shared) : Prop := ∃ vs H', Inv X pins σ H' s' /\ Vals vs us /\ Q vs H'
def SP (X : Cx) (pins : List (Addr × Obj)) (D : Ends) (f : Flow) (s' : Shared) : Prop :=
 match f with
 | .next => ∃ σ' H', Inv X pins σ' H' s' /\ D.nx σ' H'
 | .brk => ∃ σ' H', Inv X pins σ' H' s' /\ D.bk σ' H'
 | .cont => ∃ σ' H', Inv X pins σ' H' s' /\ D.ct σ' H'
 | .ret u => ∃ v σ' H', Inv X pins σ' H' s' /\ RelV v u /\ D.rt v H'
def PE (X : Cx) (e : Expr) (t : TE) : Prop :=
 ∀ (pins : List (Addr × Obj)) (s : Shared) (σ : St) (H : Hp) (Q : VK), Inv X pins σ H s -> t σ H Q -> wpAny (model X.prog X.w) X.A (eval e X.env) (EP X pins σ Q) X.xe s
def PT (X : Cx) (e : Expr) (t : TT) : Prop :=
 ∀ (pins : List (Addr × Obj)) (s : Shared) (σ : St) (H : Hp) (Q : Bool -> Hp -> Prop), Inv X pins σ H s -> t σ H Q -> wpAny (model X.prog X.w) X.A (isTrue e X.env (eval e X.env)) (TP X pins σ Q) X.xe s
def PW (X : Cx) (e : Expr) (t : TT) : Prop :=
 ∀ (whole : Sem Value) (pins : List (Addr × Obj)) (s : Shared) (σ : St) (H : Hp) (Q : Bool -> Hp -> Prop), Inv X pins σ H s -> t σ H Q -> wpAny (model X.prog X.w) X.A (isTrue e X.env whole) (TP X pins σ Q) X.xe s
theorem PW.pt {X : Cx} {e : Expr} {t : TT} (h : PW X e t) : PT X e t := h _
def PA (X : Cx) (es : List Expr) (t : TA) : Prop :=
 ∀ (pos : Pos) (pins : List (Addr × Obj)) (s : Shared) (σ : St) (H : Hp) (Q : List V -> Hp -> Prop), Inv X pins σ H s -> t σ H Q -> wpAny (model X.prog X.w) X.A (spliced (backTo pos (starEach es X.env))) (AP X pins σ Q) X.xe s
def PS (X : Cx) (st : Stmt) (t : TS) : Prop :=
 ∀ (pins : List (Addr × Obj)) (s : Shared) (σ : St) (H : Hp) (D : Ends), Inv X pins σ H s -> t D σ H -> wpAny (model X.prog X.w) X.A (exec st X.env) (SP X pins D) X.xe s
def PSs (X : Cx) (st : List Stmt) (t : TS) : Prop :=
 ∀ (pins : List (Addr × Obj)) (s : Shared) (σ : St) (H : Hp) (D : Ends), Inv X pins σ H s -> t D σ H -> wpAny (model X.prog X.w) X.A (execs st X.env) (SP X pins D) X.xe s
theorem thn {α : Type} {t : Sem α} {Q Q' : α -> Shared -> Prop} {M : Model} {A : Around} {E : Value -> Shared -> Prop} {s : Shared} (h : wpAny M A t Q E s) (hQ : ∀ a s, Q a s -> Q' a s) : wpAny M A t Q' E s := wpAny_mono h hQ fun _ _ x => x
end L2
namespace L2
open PySem PySem.Spec PyProof.Rows
section
variable {X : Cx}
def yyz (i : Nat) : TE := fun σ H Q => ∃ v, σ[i]? = some (some v) /\ Q v H
def tC (v : V) : TE := fun _ H Q => Q v H
theorem ydg {i : Nat} {x : Str} {pos : Pos} (hN : X.N[i]? = some x) (hv : Vis X.env.scope x) (hd : (x == ("__debug__" : Str)) = false := by decide) (hcd : (x == ("__classdict__" : Str)) = false := by decide) : PE X (.Name x pos) (yyz i) := by
  intro pins s σ H Q I h
  obtain ⟨v, e, h⟩ := h
  obtain ⟨m, hn, hl⟩ := I.loc
  obtain ⟨u, r, l⟩ := hl i x v hN e hv
  have fin : EP X pins σ Q u s := ⟨v, H, I, r, h⟩
  rcases l with ⟨hk, hm⟩ | ⟨hk, c, hc, hcell⟩
  . exact wpAny_Name (wpAny_loadName_local I.ok.kind hk hn hm fin) hd
  . rcases hk with hk | hk
    . exact wpAny_Name (wpAny_loadName_cell I.ok.kind hk hc hcell fin) hd
    . exact wpAny_Name (wpAny_loadName_free I.ok.kind hk hc hcell fin hcd) hd
theorem yBP {i j pos} : PE X (.Constant (.int i) j pos) (tC (.int i)) := fun _ _ _ H _ I h => wpAny_Constant_int ⟨.int i, H, I.tok _, ⟨_, rfl⟩, h⟩
theorem yEy {b j pos} : PE X (.Constant (.bool b) j pos) (tC (.bl b)) := fun _ _ _ H _ I h => Constant_bool ⟨.bl b, H, I, rfl, h⟩
theorem yBQ {j pos} : PE X (.Constant .none j pos) (tC .non) := fun _ _ _ H _ I h => Constant_none ⟨.non, H, I, rfl, h⟩
theorem yBR {x j pos} : PE X (.Constant (.str x) j pos) (tC (.str x)) := fun _ _ _ H _ I h => Calls.Constant_str ⟨.str x, H, I.tok _, ⟨_, rfl⟩, h⟩
def Gl (X : Cx) (x : Str) : Prop := X.env.kindOf x = some .globalImplicit
theorem ynM {E : Value -> Shared -> Prop} {pins : List (Addr × Obj)} {s : Shared} {σ : St} {H : Hp} {x : Str} {u : Value} {pos : Pos} {Q : Value -> Shared -> Prop} (I : Inv X pins σ H s) (hg : Gl X x) (hm : X.mg x = some u) (h : Q u s)
  (hd : (x == ("__debug__" : Str)) = false := by decide) : wpAny (model X.prog X.w) X.A (eval (.Name x pos) X.env) Q E s :=
 Calls.Name_function_global I.ok.kind hg (Calls.loadGlobal_global (by rw [I.ok.glob]; exact I.mod.glob.keeps I.bk) hm h) hd
theorem ynp {E : Value -> Shared -> Prop} {pins : List (Addr × Obj)} {s : Shared} {σ : St} {H : Hp} {x : Str} {u : Value} {pos : Pos} {Q : Value -> Shared -> Prop} (I : Inv X pins σ H s) (hg : Gl X x) (hm : X.mg x = none) (hv : bootBuiltins x = some u) (h : Q u s)
  (hn : x ≠ "__name__" := by decide) (hd : (x == ("__debug__" : Str)) = false := by decide) : wpAny (model X.prog X.w) X.A (eval (.Name x pos) X.env) Q E s := by
 obtain ⟨mb, h1, h2⟩ := I.mod.blt
 exact Calls.Name_function_global I.ok.kind hg (Calls.loadGlobal_builtin (by rw [I.ok.glob]; exact I.mod.glob.keeps I.bk) hm (by rw [I.ok.blt]; exact h1.keeps I.bk) ((h2 x hn).trans hv) h) hd
theorem yrm {x : Str} {v : V} {u : Value} {pos : Pos} (hg : Gl X x) (hm : X.mg x = some u) (r : RelV v u) (hd : (x == ("__debug__" : Str)) = false := by decide) : PE X (.Name x pos) (tC v) :=
 fun _ _ _ H _ I h => ynM I hg hm ⟨v, H, I, r, h⟩ hd
theorem yzv {x : Str} {v : V} {u : Value} {pos : Pos} (hg : Gl X x) (hm : X.mg x = none) (hv : bootBuiltins x = some u) (r : RelV v u) (hn : x ≠ "__name__" := by decide) (hd : (x == ("__debug__" : Str)) = false := by decide) : PE X (.Name x pos) (tC v) :=
 fun _ _ _ H _ I h => ynp I hg hm hv ⟨v, H, I, r, h⟩ hn hd
variable {a b : Expr} {ta tb : TE} {pos : Pos}
def PC (X : Cx) (op : CmpOp) (a b : Expr) (t : TE) : Prop :=
 ∀ (pins : List (Addr × Obj)) (s : Shared) (σ : St) (H : Hp) (Q : VK), Inv X pins σ H s -> t σ H Q ->
  wpAny (model X.prog X.w) X.A (eval a X.env) (fun v s₁ => wpAny (model X.prog X.w) X.A (eval b X.env) (fun u s₂ => wpAny (model X.prog X.w) X.A (compareOp op v u) (EP X pins σ Q) X.xe s₂) X.xe s₁) X.xe s
theorem ywN (b : Expr) {op : CmpOp} (h : op ≠ .In) (h2 : op ≠ .NotIn) : behindInMarks op b = false := by
 have e1 : (op == CmpOp.In) = false := by cases op <;> first | rfl | exact absurd rfl h
 have e2 : (op == CmpOp.NotIn) = false := by cases op <;> first | rfl | exact absurd rfl h2
 cases b <;> simp [behindInMarks, e1, e2]
def tB (t : TE) : TT := fun σ H Q => t σ H fun x H1 => ∃ c, x = .bl c /\ Q c H1
theorem yyA {op : CmpOp} {t : TE} (h : PC X op a b t) (h1 : behindInMarks op b = false := by first | exact ywN _ (by decide) (by decide) | rfl) : PT X (.Compare a [op] [b] pos) (tB t) := by
 intro pins s σ H Q I hw
 refine wpAny_isTrue_Compare1 (thn (h pins s σ H _ I hw) fun v s1 h1 => thn h1 fun u s2 h2 => thn h2 fun c s3 ⟨x, H1, I1, r1, q1⟩ => ?_) h1
 obtain ⟨d, rfl, q⟩ := q1
 cases r1
 exact wpAny_truthy_bool ⟨H1, I1, q⟩
theorem yBS {e : Expr} {t : TE} (h : PE X e t) (he : ∀ whole, isTrue e X.env whole = (do let v <- whole; standAt e.pos; holding [v] (truthy v)) := by intro _; rfl) : PT X e (tB t) := by
 intro pins s σ H Q I hw
 refine isTrue_plain (thn (h pins s σ H _ I hw) fun v s1 ⟨x, H1, I1, r1, q1⟩ => ?_) (he _)
 obtain ⟨d, rfl, q⟩ := q1
 cases r1
 exact wpAny_truthy_bool ⟨H1, I1, q⟩
variable {tA tB' : TT} {rest : List Expr}
def yFA (t u : TT) : TT := fun σ H Q => t σ H fun c H1 => if c = true then u σ H1 Q else Q false H1
def tOr (t u : TT) : TT := fun σ H Q => t σ H fun c H1 => if c = true then Q true H1 else u σ H1 Q
def yEz (t : TT) : TT := fun σ H Q => t σ H fun c H1 => Q (!c) H1
theorem yzw (ha : PT X a tA) : PW X (.BoolOp .And [a] pos) tA := by
 intro wh pins s σ H Q I h
 refine isTrue_and (thn (ha pins s σ H Q I h) fun c s1 e => ?_)
 cases c with
 | true => exact isTrue_and_nil e
 | false => exact e
theorem yBT (ha : PT X a tA) : PW X (.BoolOp .Or [a] pos) tA := by
 intro wh pins s σ H Q I h
 refine isTrue_or (thn (ha pins s σ H Q I h) fun c s1 e => ?_)
 cases c with
 | false => exact isTrue_or_nil e
 | true => exact e
theorem yBU (ha : PT X a tA) (hb : PW X (.BoolOp .And (b :: rest) pos) tB') : PW X (.BoolOp .And (a :: b :: rest) pos) (yFA tA tB') := by
 intro wh pins s σ H Q I h
 refine isTrue_and (thn (ha pins s σ H _ I h) fun c s1 ⟨H1, I1, q1⟩ => ?_)
 cases c with
 | true => exact hb wh pins s1 σ H1 Q I1 q1
 | false => exact ⟨H1, I1, q1⟩
theorem yEA (ha : PT X a tA) (hb : PW X (.BoolOp .Or (b :: rest) pos) tB') : PW X (.BoolOp .Or (a :: b :: rest) pos) (tOr tA tB') := by
 intro wh pins s σ H Q I h
 refine isTrue_or (thn (ha pins s σ H _ I h) fun c s1 ⟨H1, I1, q1⟩ => ?_)
 cases c with
 | true => exact ⟨H1, I1, q1⟩
 | false => exact hb wh pins s1 σ H1 Q I1 q1
theorem yBV (ha : PT X a tA) : PT X (.UnaryOp .Not a pos) (yEz tA) := by
 intro pins s σ H Q I h
 exact isTrue_not (ha pins s σ H (fun c H1 => Q (!c) H1) I h)
def yBW (ta tb : TE) : TE := fun σ H Q => ta σ H fun x H1 => ∃ c, x = .bl c /\ if c = true then tb σ H1 Q else Q (.bl false) H1
def yBX (ta : TE) : TE := fun σ H Q => ta σ H fun x H1 => ∃ c, x = .bl c /\ Q (.bl (!c)) H1
theorem yBY {op} {t : TE} (h : PE X a t) : PE X (.BoolOp op [a] pos) t := fun pins s σ H Q I hw => BoolOp_one (h pins s σ H Q I hw)
theorem yBZ (ha : PE X a ta) (hb : PE X (.BoolOp .And (b :: rest) pos) tb) : PE X (.BoolOp .And (a :: b :: rest) pos) (yBW ta tb) := by
 intro pins s σ H Q I h
 refine BoolOp_and (thn (ha pins s σ H _ I h) fun v s1 ⟨x, H1, I1, r1, q1⟩ => ?_)
 obtain ⟨c, rfl, q1⟩ := q1
 cases r1
 refine wpAny_truthy_bool ?_
 cases c with
 | true => exact hb pins s1 σ H1 Q I1 q1
 | false => exact ⟨.bl false, H1, I1, rfl, q1⟩
theorem yCa (ha : PE X a ta) : PE X (.UnaryOp .Not a pos) (yBX ta) := by
 intro pins s σ H Q I h
 refine UnaryOp_ (thn (ha pins s σ H _ I h) fun v s1 ⟨x, H1, I1, r1, q1⟩ => ?_)
 obtain ⟨c, rfl, q1⟩ := q1
 cases r1
 exact not_of (wpAny_truthy_bool ⟨.bl (!c), H1, I1, rfl, q1⟩)
def tIf (t : TT) (ta tb : TE) : TE := fun σ H Q => t σ H fun c H1 => if c = true then ta σ H1 Q else tb σ H1 Q
theorem ywO {c : Expr} (hc : PT X c tA) (ha : PE X a ta) (hb : PE X b tb) : PE X (.IfExp c a b pos) (tIf tA ta tb) := by
 intro pins s σ H Q I h
 refine wpAny_IfExp (thn (hc pins s σ H _ I h) fun d s1 ⟨H1, I1, q1⟩ => ?_)
 cases d with
 | true => exact ha pins s1 σ H1 Q I1 q1
 | false => exact hb pins s1 σ H1 Q I1 q1
end
end L2
namespace L2
open PySem PySem.Spec PyProof.Rows
def SqL (K : PySem.W.Frag) (H : Hp) (a : Addr) (xs : List V) : Prop :=
 Rd H a (.lst xs) \/
  ∃ (o : Obj) (its : Array Value) (n : Nat), K.lookup a = some o /\ o.cls = .type "list" /\ o.dict = none /\ o.data = .seq its n /\ its.size <= sizeLine /\ Vals xs its.toList
def SqT (K : PySem.W.Frag) (H : Hp) (a : Addr) (xs : List V) : Prop :=
 Rd H a (.tup xs) \/
  ∃ (o : Obj) (its : Array Value) (n : Nat), K.lookup a = some o /\ o.cls = .type "tuple" /\ o.data = .seq its n /\ its.size <= sizeLine /\ Vals xs its.toList
def yGq : Value -> Option V
 | .none => some .non
 | .bool b => some (.bl b)
 | .int i _ => some (.int i)
 | .str x _ => some (.str x)
 | .bytes b _ => some (.byt b)
 | .float b _ => some (.flt b)
 | .ref a => some (.ref a)
 | .type n => some (.ty n)
 | _ => none
theorem RelV.abs {x : V} {u : Value} (r : RelV x u) : yGq u = some x := by
 cases x with
 | non => cases r; rfl
 | bl _ => cases r; rfl
 | int _ => obtain ⟨t, rfl⟩ := r; rfl
 | str _ => obtain ⟨t, rfl⟩ := r; rfl
 | byt _ => obtain ⟨t, rfl⟩ := r; rfl
 | flt _ => obtain ⟨t, rfl⟩ := r; rfl
 | ref _ => cases r; rfl
 | ty _ => cases r; rfl
theorem RelV.inj {x y : V} {u : Value} (r : RelV x u) (q : RelV y u) : x = y := Option.some.inj (r.abs.symm.trans q.abs)
theorem Vals.inj : ∀ {xs ys : List V} {us : List Value}, Vals xs us -> Vals ys us -> xs = ys
 | _, _, _, .nil, .nil => rfl
 | _, _, _, .cons r t, .cons r' t' => by rw [r.inj r', Vals.inj t t']
section
variable {X : Cx} {pins : List (Addr × Obj)} {σ : St} {H : Hp} {s : Shared} {a : Addr} {xs ys : List V}
theorem SqL.of {K : PySem.W.Frag} (h : H a = some (.lst xs)) : SqL K H a xs := .inl (.inl h)
theorem SqT.of {K : PySem.W.Frag} (h : H a = some (.tup xs)) : SqT K H a xs := .inl (.inl h)
theorem Inv.list (I : Inv X pins σ H s) (h : SqL X.K H a xs) : ∃ its : List Value, Vals xs its /\ PlainL s.heap a its.toArray /\ xs.length <= sizeLine := by
  rcases h with h | ⟨o, its, n, hk, hc, hd, hs, hz, r⟩
  . obtain ⟨z, its, n, r, e⟩ := h.ok I.hok
    exact ⟨its, r, ⟨_, n, e, rfl, rfl, rfl⟩, z⟩
  . refine ⟨its.toList, r, ⟨o, n, I.kIn a o hk, hc, hd, by simpa using hs⟩, ?_⟩
    have e := r.length
    simp only [Array.length_toList] at e
    omega
theorem Inv.tuple (I : Inv X pins σ H s) (h : SqT X.K H a xs) : ∃ its : List Value, Vals xs its /\ IsTup s.heap a its.toArray /\ xs.length <= sizeLine := by
  rcases h with h | ⟨o, its, n, hk, hc, hs, hz, r⟩
  . obtain ⟨z, its, r, p⟩ := h.ok I.hok
    exact ⟨its, r, p, z⟩
  . refine ⟨its.toList, r, ⟨o, I.kIn a o hk, hc, n, by simpa using hs⟩, ?_⟩
    have e := r.length
    simp only [Array.length_toList] at e
    omega
theorem Inv.list_inj (I : Inv X pins σ H s) (h : SqL X.K H a xs) (h' : SqL X.K H a ys) : xs = ys := by
 obtain ⟨its, r, ⟨o, n, e, _, _, d⟩, _⟩ := I.list h
 obtain ⟨its', r', ⟨o', n', e', _, _, d'⟩, _⟩ := I.list h'
 rw [e] at e'; cases e'
 rw [d] at d'
 injection d' with d1 _
 have : its = its' := by simpa using congrArg Array.toList d1
 subst this
 exact r.inj r'
end
abbrev Cx.wish (X : Cx) (E : Value -> Shared -> Prop) : Cx := { X with xe := E }
abbrev Cx.nox (X : Cx) : Cx := X.wish fun _ _ => False
theorem Cx.Ok.wish {X : Cx} (ok : X.Ok) (E : Value -> Shared -> Prop) : (X.wish E).Ok :=
 ⟨ok.mod, ok.kind, ok.glob, ok.blt, ok.above, ok.inj, ok.has, ok.cab, ok.hd, ok.frames, ok.stk, ok.exf, ok.bs, ok.bsz, ok.noex, ok.exfs, ok.funs, ok.frf⟩
theorem Cx.Ok.unwish {X : Cx} {E : Value -> Shared -> Prop} (ok : (X.wish E).Ok) : X.Ok :=
 ⟨ok.mod, ok.kind, ok.glob, ok.blt, ok.above, ok.inj, ok.has, ok.cab, ok.hd, ok.frames, ok.stk, ok.exf, ok.bs, ok.bsz, ok.noex, ok.exfs, ok.funs, ok.frf⟩
section
variable {X : Cx} {pins : List (Addr × Obj)} {σ : St} {H : Hp} {s : Shared} {E : Value -> Shared -> Prop}
theorem Inv.wish (I : Inv X pins σ H s) (E : Value -> Shared -> Prop) : Inv (X.wish E) pins σ H s := ⟨I.ok.wish E, I.os, I.bare, I.base, I.loc, I.cell, I.free, I.freeC, I.pin, I.hok, I.len⟩
theorem Inv.unwish (I : Inv (X.wish E) pins σ H s) : Inv X pins σ H s := ⟨I.ok.unwish, I.os, I.bare, I.base, I.loc, I.cell, I.free, I.freeC, I.pin, I.hok, I.len⟩
theorem SP.unwish {D : Ends} {f : Flow} {s' : Shared} (h : SP (X.wish E) pins D f s') : SP X pins D f s' := by
 cases f with
 | next => obtain ⟨σ', H', I, q⟩ := h; exact ⟨σ', H', I.unwish, q⟩
 | brk => obtain ⟨σ', H', I, q⟩ := h; exact ⟨σ', H', I.unwish, q⟩
 | cont => obtain ⟨σ', H', I, q⟩ := h; exact ⟨σ', H', I.unwish, q⟩
 | ret u => obtain ⟨v, σ', H', I, r, q⟩ := h; exact ⟨v, σ', H', I.unwish, r, q⟩
theorem PSs.nox {st : List Stmt} {t : TS} (h : PSs X.nox st t) : PSs X st t := fun pins s σ H D I hw =>
 wpAny_mono (h pins s σ H D (I.wish _) hw) (fun _ _ q => q.unwish) fun _ _ z => False.elim z
end
section
variable {X : Cx} {st : Stmt} {rest : List Stmt} {t u : TS} {e : Expr} {te : TE} {pos : Pos}
def yCb : TS := fun D σ H => D.nx σ H
def yEB (t u : TS) : TS := fun D σ H => t { D with nx := u D } σ H
theorem yzx : PSs X [] yCb := fun _ _ σ H _ I h => wpAny_execs_nil ⟨σ, H, I, h⟩
theorem ysz (h1 : PS X st t) (h2 : PSs X rest u) : PSs X (st :: rest) (yEB t u) := by
 intro pins s σ H D I h
 refine wpAny_execs_cons (thn (h1 pins s σ H { D with nx := u D } I h) fun f s1 q => ?_)
 cases f with
 | next =>
  obtain ⟨σ', H', I', q⟩ := q
  exact h2 pins s1 σ' H' D I' q
 | ret v => exact q
 | brk => exact q
 | cont => exact q
theorem yuA (h1 : PS X st t) : PSs X [st] t := by
 intro pins s σ H D I h
 refine wpAny_execs_cons (thn (h1 pins s σ H D I h) fun f s1 q => ?_)
 cases f with
 | next => exact wpAny_execs_nil q
 | ret v => exact q
 | brk => exact q
 | cont => exact q
theorem Inv.quiet {pins : List (Addr × Obj)} {σ : St} {H : Hp} {s : Shared} (I : Inv X pins σ H s) : interactive X.env = false := by simp [interactive, I.ok.kind]
def ywP (te : TE) : TS := fun D σ H => te σ H fun _ H1 => D.nx σ H1
theorem yrn (he : PE X e te) (hs : swapsWith e none pos.line X.env = pure false := by rfl) : PS X (.Expr e pos) (ywP te) := by
 intro pins s σ H D I h
 exact wpAny_Expr_any (thn (he pins s σ H _ I h) fun v s1 ⟨x, H1, I1, r1, q1⟩ => ⟨σ, H1, I1, q1⟩) I.quiet hs
def yFB (te : TE) : TS := fun D σ H => te σ H D.rt
theorem yCc (he : PE X e te) : PS X (.Return (some e) pos) (yFB te) := by
 intro pins s σ H D I h
 exact wpAny_Return_some (thn (he pins s σ H _ I h) fun v s1 ⟨x, H1, I1, r1, q1⟩ => ⟨x, σ, H1, I1, r1, q1⟩)
def yFC (c : TT) (t u : TS) : TS := fun D σ H => c σ H fun b H1 => if b = true then t D σ H1 else u D σ H1
theorem yEC {c : Expr} {a b : List Stmt} {tc : TT} (hc : PT X c tc) (ha : PSs X a t) (hb : PSs X b u) : PS X (.If c a b pos) (yFC tc t u) := by
 intro pins s σ H D I h
 refine wpAny_If (thn (hc pins s σ H _ I h) fun d s1 ⟨H1, I1, q1⟩ => ?_)
 cases d with
 | true => exact ha pins s1 σ H1 D I1 q1
 | false => exact hb pins s1 σ H1 D I1 q1
end
abbrev TG := V -> St -> Hp -> (St -> Hp -> Prop) -> Prop
def PG (X : Cx) (target : Expr) (t : TG) : Prop :=
 ∀ (pins : List (Addr × Obj)) (s : Shared) (σ : St) (H : Hp) (v : V) (u : Value) (Q : St -> Hp -> Prop), Inv X pins σ H s -> RelV v u -> t v σ H Q ->
  wpAny (model X.prog X.w) X.A (assign target X.env u) (fun _ s' => ∃ σ' H', Inv X pins σ' H' s' /\ Q σ' H') X.xe s
abbrev yED := V -> V -> V -> Hp -> (Hp -> Prop) -> Prop
def yFD (X : Cx) (t : yED) : Prop :=
 ∀ (pins : List (Addr × Obj)) (s : Shared) (σ : St) (H : Hp) (o i v : V) (ov iv u : Value) (Q : Hp -> Prop), Inv X pins σ H s -> RelV o ov -> RelV i iv -> RelV v u -> t o i v H Q ->
  wpAny (model X.prog X.w) X.A (setItem ov iv u) (fun _ s' => ∃ H', Inv X pins σ H' s' /\ Q H') X.xe s
section
variable {X : Cx} {pos : Pos}
def yty (i : Nat) : TG := fun v σ H Q => Q (σ.set i (some v)) H
theorem ynN {i : Nat} {x : Str} (hN : X.N.Nodup) (hi : X.N[i]? = some x) (hx : Loc X.env.scope x) (hf : X.fn x = true \/ X.env.scope.names.lookup x = some .local := by first | exact .inl rfl | exact .inr rfl | assumption) : PG X (.Name x pos) (yty i) := by
 intro pins s σ H v u Q I r h
 exact wpAny_assign_Name (ysy I hN hi hx r (fun s' I' => ⟨_, H, I', h⟩) hf)
def yFE (to ti : TE) (t : yED) : TG := fun v σ H Q => to σ H fun o H1 => ti σ H1 fun i H2 => t o i v H2 fun H3 => Q σ H3
theorem yCd {o i : Expr} {to ti : TE} {t : yED} (ho : PE X o to) (hi : PE X i ti) (hs : yFD X t)
  (ha : ∀ v, assign (.Subscript o i pos) X.env v = (do
   let ov <- holding [v] (eval o X.env)
   let iv <- holding [v, ov] (eval i X.env)
   standAt pos
   holding [v, ov, iv] (setItem ov iv v)
   release [v, ov, iv] []) := by intro _; rfl) : PG X (.Subscript o i pos) (yFE to ti t) := by
 intro pins s σ H v u Q I r h
 rw [ha]
 refine wpAny_bind (wpAny_holding (thn (ho pins s σ H _ I h) fun ov s1 ⟨x, H1, I1, r1, q1⟩ => ?_))
 refine wpAny_bind (wpAny_holding (thn (hi pins s1 σ H1 _ I1 q1) fun iv s2 ⟨y, H2, I2, r2, q2⟩ => ?_))
 refine wpAny_bind (wpAny_standAt (wpAny_bind (wpAny_holding (thn (hs pins s2 σ H2 x y v ov iv u _ I2 r1 r2 r q2) fun _ s3 ⟨H3, I3, q3⟩ => ?_))))
 exact wpAny_release ⟨σ, H3, I3, q3⟩
def yBF (te : TE) (g : TG) : TS := fun D σ H => te σ H fun x H1 => g x σ H1 D.nx
theorem yCe {tg e : Expr} {te : TE} {g : TG} (he : PE X e te) (hg : PG X tg g) (hs : swapsWithSole [tg] e pos.line X.env = pure false := by rfl) (hw : swappedStores [tg] e X.env = pure none := by rfl)
    (h1 : (assignEach [tg] X.env).map (·.2) = [assign tg X.env] := by rfl) : PS X (.Assign [tg] e pos) (yBF te g) := by
  intro pins s σ H D I h
  refine wpAny_Assign_stores (thn (he pins s σ H _ I h) fun v s1 ⟨x, H1, I1, r1, q1⟩ => ?_) hs hw
  rw [h1]
  exact thn (hg pins s1 σ H1 x v _ I1 r1 q1) fun _ s2 q => q
theorem yyB {i : Nat} {x : Str} {e : Expr} {te : TE} {pos' : Pos} (hN : X.N.Nodup) (hi : X.N[i]? = some x) (hx : Loc X.env.scope x) (he : PE X e te) (hs : swapsWith e (some (.Name x pos')) pos.line X.env = pure false := by rfl) (hf : X.fn x = true \/ X.env.scope.names.lookup x = some .local := by first | exact .inl rfl | exact .inr rfl | assumption) :
  PS X (.Assign [.Name x pos'] e pos) (yBF te (yty i)) := by
 intro pins s σ H D I h
 refine wpAny_Assign_Name (thn (he pins s σ H _ I h) fun v s1 ⟨y, H1, I1, r1, q1⟩ => ?_) hs
 exact ysy I1 hN hi hx r1 (fun s2 I2 => ⟨_, H1, I2, q1⟩) hf
end
section
variable {X : Cx} {pos : Pos}
end
structure It where
 go : Nat -> Hp -> Prop
 yld : Nat -> Hp -> V -> Hp -> Prop
 stop : Nat -> Hp -> Prop
def yuB (X : Cx) (pins : List (Addr × Obj)) (H : Hp) (b : Addr) : Prop :=
 H b = none /\ b ≠ X.env.locals /\ b ∉ X.fs /\ (b ∈ X.ex \/ X.s₀.heap.objs.size <= b) /\ (∀ x c, X.env.cells.lookup x = some c -> c ≠ b) /\ ∀ p ∈ X.pn ++ pins, p.1 ≠ b
theorem Inv.fpOk {X : Cx} {pins : List (Addr × Obj)} {σ : St} {H H' : Hp} {s : Shared} {b : Addr} (I : Inv X pins σ H s) (hb : s.heap.objs.size <= b) (hn : H' b = none) : yuB X pins H' b := by
  refine ⟨hn, Nat.ne_of_gt (Nat.lt_of_lt_of_le I.lt hb), I.nofs hb, .inr (Nat.le_trans I.sz hb), fun x c e z => ?_, fun p hp z => ?_⟩
  . obtain ⟨v, q⟩ := I.cell x c e
    exact absurd (Nat.lt_of_lt_of_le q.lt (by rw [z]; exact hb)) (Nat.lt_irrefl _)
  . exact absurd (Nat.lt_of_lt_of_le (Heap.lt_size (I.pin p hp).1) (by rw [z]; exact hb)) (Nat.lt_irrefl _)
structure Turn (P : Program) (w : World) (K : PySem.W.Frag) (tg : Expr) (J : It) (fp : List Addr) (it : Addr) (tn : Nat -> Heap -> Prop) : Prop where
 mem : it ∈ fp
 obj : ∀ i h, tn i h -> ∀ b ∈ fp, ∃ o, h.get? b = some o /\ ∀ v, o.data ≠ .cell v
 keep : ∀ i h h', tn i h -> (∀ b ∈ fp, ∀ o, h.get? b = some o -> h'.get? b = some o) -> tn i h'
 item : ∀ (X : Cx), X.prog = P -> X.w = w -> X.K = K -> X.calm = true -> ∀ (i : Nat) (pins : List (Addr × Obj)) (s : Shared) (σ : St) (H : Hp) (E : Value -> Shared -> Prop), Inv X pins σ H s -> (∀ b ∈ fp, yuB X pins H b) -> tn i s.heap -> J.go i H ->
  wpAny (model P w) X.A (pyNext (.ref it)) (fun r s1 => ∃ u, r = some u /\
   wpAny (model P w) X.A (letOwnedTupleGo tg (.ref it) u) (fun _ s2 => ∃ x H', Inv X pins σ H' s2 /\ RelV x u /\ J.yld i H x H' /\ tn (i + 1) s2.heap /\ ∀ b ∈ fp, H' b = none) E s1) E s
 done : ∀ (X : Cx), X.prog = P -> X.w = w -> X.K = K -> X.calm = true -> ∀ (i : Nat) (pins : List (Addr × Obj)) (s : Shared) (σ : St) (H : Hp) (E : Value -> Shared -> Prop), Inv X pins σ H s -> (∀ b ∈ fp, yuB X pins H b) -> tn i s.heap -> J.stop i H ->
  wpAny (model P w) X.A (pyNext (.ref it)) (fun r s1 => r = none /\ Inv X pins σ H s1) E s
 self : ∀ (A : Around) (i : Nat) (s : Shared) (Q : Value -> Shared -> Prop) (E : Value -> Shared -> Prop), tn i s.heap -> Q (.ref it) s -> wpAny (model P w) A (pyIter (.ref it)) Q E s
abbrev TI := St -> Hp -> (It -> Hp -> Prop) -> Prop
def PIE (X : Cx) (pins : List (Addr × Obj)) (σ : St) (tg : Expr) (R : It -> Hp -> Prop) (itv : Value) (s2 : Shared) : Prop :=
 ∃ (it : Addr) (fp : List Addr) (tn : Nat -> Heap -> Prop) (J : It) (H' : Hp), itv = .ref it /\ Inv X pins σ H' s2 /\ Turn X.prog X.w X.K tg J fp it tn /\ tn 0 s2.heap /\ (∀ b ∈ fp, yuB X pins H' b) /\ R J H'
def PI (X : Cx) (tg iter : Expr) (wi : TI) : Prop :=
 ∀ (pins : List (Addr × Obj)) (s : Shared) (σ : St) (H : Hp) (R : It -> Hp -> Prop), Inv X pins σ H s -> wi σ H R ->
  wpAny (model X.prog X.w) X.A (eval iter X.env) (fun v s1 => wpAny (model X.prog X.w) X.A (pyIter v) (PIE X pins σ tg R) X.xe s1) X.xe s
theorem ywQ {M : Model} {A : Around} {E : Value -> Shared -> Prop} {s : Shared} {tg : Expr} {it : Addr} {u : Value} {o : Obj} {n : String} {vs : Array Value} {Q : Unit -> Shared -> Prop} (ho : s.heap.get? it = some o) (hc : o.cls = .type n) (hd : o.data = .fields vs)
    (hn : ["enumerate", "zip", "dict_itemiterator", "dict_reverseitemiterator", "odict_iterator", "itertools.zip_longest", "itertools.pairwise"].contains n = false) (hQ : Q () s) : wpAny M A (letOwnedTupleGo tg (.ref it) u) Q E s := by
  unfold letOwnedTupleGo
  cases tg <;> first
    | exact wpAny_pure hQ
    | (cases u <;> first
        | exact wpAny_pure hQ
        | (refine wpAny_bind (wpAny_load ho ?_)
           rw [hc, hd]
           show wpAny M A (if (["enumerate", "zip", "dict_itemiterator", "dict_reverseitemiterator", "odict_iterator", "itertools.zip_longest", "itertools.pairwise"].contains n && vs[0]? == some (rawInt _)) = true then _ else _) Q E s
           rw [if_neg (by intro h; rw [hn, Bool.false_and] at h; cases h)]
           exact wpAny_pure hQ))
def Itl (K : PySem.W.Frag) (a : Addr) : It :=
 ⟨fun i H => ∃ xs x, SqL K H a xs /\ xs[i]? = some x, fun i H x H' => H' = H /\ ∀ xs, SqL K H a xs -> xs[i]? = some x, fun i H => ∃ xs, SqL K H a xs /\ xs.length <= i⟩
def Itr (lo : Int) (n : Nat) : It := ⟨fun i _ => i < n, fun i H x H' => H' = H /\ x = .int (lo + i), fun i _ => n <= i⟩
theorem yuC {P : Program} {w : World} {K : PySem.W.Frag} {tg : Expr} (a it : Addr) : Turn P w K tg (Itl K a) [it] it (fun i h => h.IsListIter it a i) where
 mem := by simp
 obj := fun i h st b hb => by
  have e : b = it := by simpa using hb
  subst e
  obtain ⟨o, e, c, d⟩ := st
  exact ⟨o, e, fun v z => by rw [d] at z; cases z⟩
 keep := fun i h h' st k => st.at fun o e => k it (by simp) o e
 item := by
  intro X hP hw hK hc i pins s σ H E I hf st hg
  subst hP hw hK
  obtain ⟨xs, x, hq, hx⟩ := hg
  obtain ⟨its, rv, p, hz⟩ := I.list hq
  obtain ⟨u, hu, ru⟩ := rv.get hx
  obtain ⟨f0, f1, f2, f3, f4, f5⟩ := hf it (by simp)
  refine wpAny_pyNext_list_item st p.isList (x := u) (by simpa using hu) fun h' st' sb => ?_
  have I1 : Inv X pins σ H { s with heap := h' } := I.turned (t' := s.toks) (fun b o hb e => (sb.2 b hb).trans e) f0 f1 f3 f4 f5
  obtain ⟨o, e, c, d⟩ := id st'
  exact ⟨u, rfl, ywQ (s := { s with heap := h' }) e c d (by decide) ⟨x, H, I1, ru, ⟨rfl, fun ys hy => by rw [I.list_inj hy hq]; exact hx⟩, st', fun b hb => (hf b hb).1⟩⟩
 done := by
  intro X hP hw hK hc i pins s σ H E I hf st hg
  subst hP hw hK
  obtain ⟨xs, hq, hx⟩ := hg
  obtain ⟨its, rv, p, hz⟩ := I.list hq
  obtain ⟨f0, f1, f2, f3, f4, f5⟩ := hf it (by simp)
  have hl := rv.length
  exact wpAny_pyNext_list_end (I.ok.hd hc) st p.isList (by simp; omega) fun h' eb => ⟨rfl, I.turned (t' := s.toks) (fun b o hb e => eb b o hb e) f0 f1 f3 f4 f5⟩
 self := fun _ _ _ _ _ st h => wpAny_pyIter_listiter st h
theorem ytz {P : Program} {w : World} {K : PySem.W.Frag} {tg : Expr} (it : Addr) (lo : Int) (n : Nat) : Turn P w K tg (Itr lo n) [it] it (fun i h => IsRangeIter h it (lo + (i : Nat) * 1) ((n : Int) - (i : Nat)) 1) where
 mem := by simp
 obj := fun i h st b hb => by
  have e : b = it := by simpa using hb
  subst e
  exact ⟨_, st, fun v z => by
   have z' : Data.fields _ = Data.cell v := z
   cases z'⟩
 keep := fun i h h' st k => k it (by simp) _ st
 item := by
  intro X hP hw hK hc i pins s σ H E I hf st hg
  subst hP hw hK
  obtain ⟨f0, f1, f2, f3, f4, f5⟩ := hf it (by simp)
  have W := Walks.range (prog := X.prog) (w := X.w) (I.ok.hd hc) it lo 1 n
  refine W.item i s _ _ hg st fun v h' tk hv st' kk => ?_
  obtain ⟨t, rfl⟩ := hv
  have I1 : Inv X pins σ H { s with heap := h', toks := tk } := I.turned (fun b o hb e => kk b o (by simpa using hb) e) f0 f1 f3 f4 f5
  refine ⟨_, rfl, ywQ (s := { s with heap := h', toks := tk }) (n := "range_iterator") st' rfl rfl (by decide) ⟨.int (lo + i), H, I1, ⟨t, ?_⟩, ⟨rfl, rfl⟩, st', fun b hb => (hf b hb).1⟩⟩
  rw [Int.mul_one]
 done := by
  intro X hP hw hK hc i pins s σ H E I hf st hg
  subst hP hw hK
  obtain ⟨f0, f1, f2, f3, f4, f5⟩ := hf it (by simp)
  exact wpAny_pyNext_range_end (I.ok.hd hc) st (by have : n <= i := hg; omega) fun h' eb => ⟨rfl, I.turned (t' := s.toks) (fun b o hb e => eb b o hb e) f0 f1 f3 f4 f5⟩
 self := fun _ _ _ _ _ st h => wpAny_pyIter_rangeiter st h
end L2
namespace L2
open PySem PySem.Spec PyProof.Rows
section
variable {X : Cx} {tg : Expr}
def yCf (K : PySem.W.Frag) (tl : TE) : TI := fun σ H R => tl σ H fun x H1 => ∃ a, x = .ref a /\ (∃ xs, SqL K H1 a xs) /\ R (Itl K a) H1
theorem yzy {l : Expr} {tl : TE} (hl : PE X l tl) : PI X tg l (yCf X.K tl) := by
 intro pins s σ H R I h
 refine thn (hl pins s σ H _ I h) fun v s1 ⟨x, H1, I1, r1, q1⟩ => ?_
 obtain ⟨a, e, ⟨xs, hq⟩, q⟩ := q1
 subst e
 cases r1
 obtain ⟨its, rv, p, hz⟩ := I1.list hq
 refine wpAny_pyIter_list p.isList ?_
 refine ⟨s1.heap.objs.size, [s1.heap.objs.size], _, _, H1, rfl, I1.kept (t' := s1.toks) fun b o e => Heap.get?_push_of_some _ e, yuC a _, ⟨_, Heap.get?_push_size _ rfl, rfl, rfl⟩, fun b hb => ?_, q⟩
 have e : b = s1.heap.objs.size := by simpa using hb
 subst e
 exact I1.fpOk (Nat.le_refl _) (I1.hok.fresh (Nat.le_refl _))
theorem ywR {pins : List (Addr × Obj)} {σ : St} {H : Hp} {s : Shared} {R : It -> Hp -> Prop} {E : Value -> Shared -> Prop} {lo hi : Int} {t u v : Tok} {tk : Nat} (I : Inv X pins σ H s) (h1 : -(2 ^ 62) <= lo) (h2 : lo < 2 ^ 62) (h3 : -(2 ^ 62) <= hi) (h4 : hi < 2 ^ 62)
    (q : R (Itr lo (hi - lo).toNat) H) : wpAny (model X.prog X.w) X.A (pyIter (.ref s.heap.objs.size)) (PIE X pins σ tg R) E { s with heap := s.heap.push { cls := .type "range", data := .fields #[.int lo t, .int hi u, .int 1 v] }, toks := tk } := by
  refine wpAny_pyIter_range (IsRange.new ..) (small_one h1 h2 h3 h4) ?_
  have I1 : Inv X pins σ H { s with heap := s.heap.push { cls := .type "range", data := .fields #[.int lo t, .int hi u, .int 1 v] }, toks := tk } := I.kept fun b o e => Heap.get?_push_of_some _ e
  refine ⟨(s.heap.push { cls := .type "range", data := .fields #[.int lo t, .int hi u, .int 1 v] }).objs.size, [(s.heap.push { cls := .type "range", data := .fields #[.int lo t, .int hi u, .int 1 v] }).objs.size], _, _, H, rfl,
    I1.kept (t' := tk) fun b o e => Heap.get?_push_of_some _ e, ytz _ lo (hi - lo).toNat, ?_, fun b hb => ?_, q⟩
  . have e1 : lo + ((0 : Nat) : Int) * 1 = lo := by simp
    have e2 : (((hi - lo).toNat : Nat) : Int) - ((0 : Nat) : Int) = Builtin.Range.rangeSize lo hi 1 := by rw [rangeSize_one]; split <;> omega
    show IsRangeIter _ _ (lo + ((0 : Nat) : Int) * 1) ((((hi - lo).toNat : Nat) : Int) - ((0 : Nat) : Int)) 1
    rw [e1, e2]
    exact Heap.get?_push_size _ rfl
  . have e : b = (s.heap.push { cls := .type "range", data := .fields #[.int lo t, .int hi u, .int 1 v] }).objs.size := by simpa using hb
    subst e
    exact I1.fpOk (Nat.le_refl _) (I1.hok.fresh (Nat.le_refl _))
def yCg (ta : TA) : TI := fun σ H R => ta σ H fun vs H1 => ∃ j : Int, vs = [.int j] /\ -(2 ^ 62) <= j /\ j < 2 ^ 62 /\ R (Itr 0 j.toNat) H1
theorem yuD {a : Expr} {ta : TA} {p pos : Pos} (hg : Gl X "range") (hm : X.mg "range" = none) (ha : PA X [a] ta) (hs : starEach [a] X.env = [(false, eval a X.env)] := by rfl) : PI X tg (.Call (.Name "range" p) [a] [] pos) (yCg ta) := by
 intro pins s σ H R I h
 refine Call_ (ynp I hg hm boot_range (PyProof.Rows.callWith_type1 (thn (ha pos pins s σ H _ I h) fun us s1 ⟨vs, H1, I1, r1, q1⟩ => ?_) hs rfl))
 obtain ⟨j, e, q1, q2, q⟩ := q1
 subst e
 cases r1 with
 | cons r rr =>
  cases rr
  obtain ⟨t, rfl⟩ := r
  exact call_range_1 (ywR I1 (by omega) (by omega) q1 q2 (by simpa using q))
def yEE (wi : TI) (g : TG) (tb : TS) : TS := fun D σ H => wi σ H fun J H1 => ∃ W : Nat -> Nat -> St -> Hp -> Prop, (∃ m, W 0 m σ H1) /\ ∀ i m σ H, W i m σ H ->
 (J.stop i H /\ D.nx σ H) \/ (J.go i H /\ ∃ N : St -> Hp -> Prop, (∀ σ' H', N σ' H' -> ∃ m', m' < m /\ W (i + 1) m' σ' H') /\ ∀ x H', J.yld i H x H' -> g x σ H' fun σ2 H2 => tb { D with nx := N, ct := N, bk := D.nx } σ2 H2)
def ysA (fp : List Addr) (h : Heap) : List (Addr × Obj) := fp.filterMap fun b => (h.get? b).map fun o => (b, o)
theorem yeF {fp : List Addr} {h : Heap} {b : Addr} {o : Obj} (hb : b ∈ fp) (e : h.get? b = some o) : (b, o) ∈ ysA fp h := List.mem_filterMap.mpr ⟨b, hb, by rw [e]; rfl⟩
theorem yuE {fp : List Addr} {h : Heap} {p : Addr × Obj} (hp : p ∈ ysA fp h) : p.1 ∈ fp /\ h.get? p.1 = some p.2 := by
 obtain ⟨b, hb, e⟩ := List.mem_filterMap.mp hp
 cases q : h.get? b with
 | none => rw [q] at e; cases e
 | some o =>
  rw [q] at e
  have e' : (b, o) = p := Option.some.inj e
  subst e'
  exact ⟨hb, q⟩
theorem Inv.pinned {pins : List (Addr × Obj)} {σ : St} {H : Hp} {s : Shared} {fp : List Addr} (I : Inv X pins σ H s) (hf : ∀ b ∈ fp, yuB X pins H b) (ho : ∀ b ∈ fp, ∃ o, s.heap.get? b = some o /\ ∀ v, o.data ≠ .cell v) : Inv X (pins ++ ysA fp s.heap) σ H s :=
 I.pins_of fun p hp => (List.mem_append.mp hp).elim (fun z => I.pin p (List.mem_append_right _ z)) fun z => by
  obtain ⟨hb, e⟩ := yuE z
  obtain ⟨f0, f1, f2, _⟩ := hf p.1 hb
  obtain ⟨o, e', d⟩ := ho p.1 hb
  rw [e] at e'; cases e'
  exact ⟨e, f0, f1, f2, d⟩
theorem Inv.unpinned {pins pl : List (Addr × Obj)} {σ : St} {H : Hp} {s : Shared} (I : Inv X (pins ++ pl) σ H s) : Inv X pins σ H s := I.pins_of fun p hp => I.pin p (List.mem_append_right _ (List.mem_append_left _ hp))
theorem yyC {iter : Expr} {body : List Stmt} {wi : TI} {g : TG} {tb : TS} {pos : Pos} (hp : PassesOwn (model X.prog X.w) X.A X.env X.xe) (hc : X.calm = true) (hi : PI X tg iter wi) (hg : PG X tg g) (hb : PSs X body tb)
    (hs : ∀ x, foldedSetIterable iter X.env x = pure x := by intro _; rfl) : PS X (.For tg iter body [] pos) (yEE wi g tb) := by
  intro pins s σ H D I h
  refine wpAny_For (thn (hi pins s σ H _ I h) fun v s1 h1 => thn h1 fun itv s2 h2 => ?_) hs
  obtain ⟨it, fp, tn, J, H2, e, I2, T, st2, f2, W, ⟨m0, w0⟩, turn⟩ := h2
  subst e
  -- what stays true of the iterator's objects through the loop
  have stat : ∀ {H' : Hp}, (∀ b ∈ fp, H' b = none) -> ∀ b ∈ fp, yuB X pins H' b := fun hn b hb => ⟨hn b hb, (f2 b hb).2⟩
  refine codeAny_forLoop_any (fun n s' => ∃ i σ' H', Inv X pins σ' H' s' /\ tn i s'.heap /\ (∀ b ∈ fp, H' b = none) /\ W i n σ' H') ?_ m0 ⟨0, σ, H2, I2, st2, fun b hb => (f2 b hb).1, w0⟩
  rintro n s3 ⟨i, σ3, H3, I3, st3, fr3, w3⟩
  rcases turn i n σ3 H3 w3 with ⟨stop, qn⟩ | ⟨go, N, hN, step⟩
  . refine wpAny_passesOwn hp (thn (T.done X rfl rfl rfl hc i pins s3 σ3 H3 X.xe I3 (stat fr3) st3 stop) fun r s4 ⟨hr, I4⟩ => ?_)
    subst hr
    exact wpAny_execs_nil ⟨σ3, H3, I4, qn⟩
  . refine wpAny_passesOwn hp (thn (T.item X rfl rfl rfl hc i pins s3 σ3 H3 X.xe I3 (stat fr3) st3 go) fun r s4 ⟨u, hr, h4⟩ => ?_)
    subst hr
    refine wpAny_passesOwn hp (thn h4 fun _ s5 ⟨x, H5, I5, r5, y5, st5, fr5⟩ => ?_)
    have I5' := I5.pinned (stat fr5) (T.obj _ _ st5)
    refine wpAny_passesOwn hp (thn (hg _ s5 σ3 H5 x u _ I5' r5 (step x H5 y5)) fun _ s6 ⟨σ6, H6, I6, q6⟩ => ?_)
    refine wpAny_passesOwn hp (thn (hb _ s6 σ6 H6 _ I6 q6) fun f s7 q7 => ?_)
    have again : ∀ {σ7 : St} {H7 : Hp}, Inv X (pins ++ ysA fp s5.heap) σ7 H7 s7 -> N σ7 H7 -> ∃ m, m < n /\ ∃ i σ' H', Inv X pins σ' H' s7 /\ tn i s7.heap /\ (∀ b ∈ fp, H' b = none) /\ W i m σ' H' := fun {σ7 H7} I7 n7 => by
      obtain ⟨m', hm, w7⟩ := hN σ7 H7 n7
      refine ⟨m', hm, i + 1, σ7, H7, I7.unpinned, T.keep _ _ _ st5 fun b hb o e => (I7.pin (b, o) (List.mem_append_right _ (List.mem_append_right _ (yeF hb e)))).1, fun b hb => ?_, w7⟩
      obtain ⟨o, e, d⟩ := T.obj _ _ st5 b hb
      exact (I7.pin (b, o) (List.mem_append_right _ (List.mem_append_right _ (yeF hb e)))).2.1
    cases f with
    | next => obtain ⟨σ7, H7, I7, n7⟩ := q7; exact again I7 n7
    | cont => obtain ⟨σ7, H7, I7, n7⟩ := q7; exact again I7 n7
    | brk => obtain ⟨σ7, H7, I7, q7⟩ := q7; exact ⟨σ7, H7, I7.unpinned, q7⟩
    | ret v => obtain ⟨x7, σ7, H7, I7, r7, q7⟩ := q7; exact ⟨x7, σ7, H7, I7.unpinned, r7, q7⟩
end
end L2
namespace L2
open PySem PySem.Spec PyProof.Rows
abbrev R2 := V -> V -> Hp -> VK -> Prop
def OpR (X : Cx) (f : Value -> Value -> Sem Value) (r : R2) : Prop :=
 ∀ (pins : List (Addr × Obj)) (s : Shared) (σ : St) (H : Hp) (x y : V) (v u : Value) (Q : VK), Inv X pins σ H s -> RelV x v -> RelV y u -> r x y H Q ->
  wpAny (model X.prog X.w) X.A (f v u) (EP X pins σ Q) X.xe s
def UnR (X : Cx) (f : Value -> Sem Value) (r : V -> Hp -> VK -> Prop) : Prop :=
 ∀ (pins : List (Addr × Obj)) (s : Shared) (σ : St) (H : Hp) (x : V) (v : Value) (Q : VK), Inv X pins σ H s -> RelV x v -> r x H Q ->
  wpAny (model X.prog X.w) X.A (f v) (EP X pins σ Q) X.xe s
def yjf (X : Cx) (f : Value) (r : List V -> Hp -> VK -> Prop) : Prop :=
 ∀ (pins : List (Addr × Obj)) (s : Shared) (σ : St) (H : Hp) (xs : List V) (us : List Value) (Q : VK), Inv X pins σ H s -> Vals xs us -> r xs H Q ->
  wpAny (model X.prog X.w) X.A (call f us) (EP X pins σ Q) X.xe s
def tOp (r : R2) (ta tb : TE) : TE := fun σ H Q => ta σ H fun x H1 => tb σ H1 fun y H2 => r x y H2 Q
def tUn (r : V -> Hp -> VK -> Prop) (ta : TE) : TE := fun σ H Q => ta σ H fun x H1 => r x H1 Q
def rI (C : Int -> Int -> Prop) (g : Int -> Int -> V) : R2 := fun x y H Q => ∃ i j, x = .int i /\ y = .int j /\ C i j /\ Q (g i j) H
def rI0 (g : Int -> Int -> V) : R2 := fun x y H Q => ∃ i j, x = .int i /\ y = .int j /\ Q (g i j) H
def rU (g : Int -> V) : V -> Hp -> VK -> Prop := fun x H Q => ∃ i, x = .int i /\ Q (g i) H
section
variable {X : Cx} {a b c : Expr} {ta tb tc : TE} {pos : Pos}
theorem yEF (ha : PE X a ta) (hb : PE X b tb) {pins : List (Addr × Obj)} {s : Shared} {σ : St} {H : Hp} {R : V -> V -> Hp -> Prop} (I : Inv X pins σ H s)
  (h : ta σ H fun x H1 => tb σ H1 fun y H2 => R x y H2) {Q : Value -> Shared -> Prop} {f : Value -> Value -> Sem Value}
  (hf : ∀ v u s2 x y H2, Inv X pins σ H2 s2 -> RelV x v -> RelV y u -> R x y H2 -> wpAny (model X.prog X.w) X.A (f v u) Q X.xe s2) :
  wpAny (model X.prog X.w) X.A (eval a X.env) (fun v s₁ => wpAny (model X.prog X.w) X.A (eval b X.env) (fun u s₂ => wpAny (model X.prog X.w) X.A (f v u) Q X.xe s₂) X.xe s₁) X.xe s := by
 refine thn (ha pins s σ H _ I h) fun v s1 ⟨x, H1, I1, r1, q1⟩ => ?_
 refine thn (hb pins s1 σ H1 _ I1 q1) fun u s2 ⟨y, H2, I2, r2, q2⟩ => ?_
 exact hf v u s2 x y H2 I2 r1 r2 q2
theorem yCh {op : Operator} {r : R2} (ho : OpR X (binaryOp op) r) (ha : PE X a ta) (hb : PE X b tb) : PE X (.BinOp a op b pos) (tOp r ta tb) := by
 intro pins s σ H Q I h
 exact wpAny_BinOp (yEF ha hb I h fun v u s2 x y H2 I2 rx ry q => ho pins s2 σ H2 x y v u Q I2 rx ry q)
theorem yEG {op : UnaryOp} {r : V -> Hp -> VK -> Prop} (ho : UnR X (unaryOp op) r) (ha : PE X a ta) : PE X (.UnaryOp op a pos) (tUn r ta) := by
 intro pins s σ H Q I h
 exact UnaryOp_ (thn (ha pins s σ H _ I h) fun v s1 ⟨x, H1, I1, r1, q1⟩ => ho pins s1 σ H1 x v Q I1 r1 q1)
theorem opI {f : Value -> Value -> Sem Value} {C : Int -> Int -> Prop} {g : Int -> Int -> Int}
  (rule : ∀ (i j : Int) (t u : Tok) (s : Shared) (Q : Value -> Shared -> Prop) (E : Value -> Shared -> Prop), C i j -> Q (.int (g i j) s.toks) { s with toks := s.toks + 1 } -> wpAny (model X.prog X.w) X.A (f (.int i t) (.int j u)) Q E s) :
  OpR X f (rI C fun i j => .int (g i j)) := by
 intro pins s σ H x y v u Q I rx ry h
 obtain ⟨i, j, rfl, rfl, hc, q⟩ := h
 obtain ⟨t, rfl⟩ := rx
 obtain ⟨t', rfl⟩ := ry
 exact rule i j t t' s _ _ hc ⟨.int (g i j), H, I.tok _, ⟨_, rfl⟩, q⟩
theorem yFF {f : Value -> Value -> Sem Value} {g : Int -> Int -> Int}
  (rule : ∀ (i j : Int) (t u : Tok) (s : Shared) (Q : Value -> Shared -> Prop) (E : Value -> Shared -> Prop), Q (.int (g i j) s.toks) { s with toks := s.toks + 1 } -> wpAny (model X.prog X.w) X.A (f (.int i t) (.int j u)) Q E s) :
  OpR X f (rI0 fun i j => .int (g i j)) := by
 intro pins s σ H x y v u Q I rx ry h
 obtain ⟨i, j, rfl, rfl, q⟩ := h
 obtain ⟨t, rfl⟩ := rx
 obtain ⟨t', rfl⟩ := ry
 exact rule i j t t' s _ _ ⟨.int (g i j), H, I.tok _, ⟨_, rfl⟩, q⟩
theorem yGr {f : Value -> Value -> Sem Value} {g : Int -> Int -> Bool}
  (rule : ∀ (i j : Int) (t u : Tok) (s : Shared) (Q : Value -> Shared -> Prop) (E : Value -> Shared -> Prop), Q (.bool (g i j)) s -> wpAny (model X.prog X.w) X.A (f (.int i t) (.int j u)) Q E s) :
  OpR X f (rI0 fun i j => .bl (g i j)) := by
 intro pins s σ H x y v u Q I rx ry h
 obtain ⟨i, j, rfl, rfl, q⟩ := h
 obtain ⟨t, rfl⟩ := rx
 obtain ⟨t', rfl⟩ := ry
 exact rule i j t t' s _ _ ⟨.bl (g i j), H, I, rfl, q⟩
def yFG (i j : Int) : Prop := 0 < j /\ j < 1073741824
def yEH (i j : Int) : Prop := 0 <= j /\ j <= 1000000 /\ i.natAbs < 2 ^ 64
def CMul (i j : Int) : Prop := (-(2 ^ 64) < i /\ i < 2 ^ 64) \/ (-(2 ^ 64) < j /\ j < 2 ^ 64)
theorem CMul.ok {i j : Int} (h : CMul i j) : IntMulOk i j := by
  rcases h with ⟨h1, h2⟩ | ⟨h1, h2⟩
  . exact .of_left (intBits_le_64 h1 h2)
  . exact .of_right (intBits_le_64 h1 h2)
theorem yjg : OpR X (binaryOp .Add) (rI0 fun i j => .int (i + j)) := yFF fun _ _ _ _ _ _ _ q => add_int q
theorem yyD : OpR X (binaryOp .Sub) (rI0 fun i j => .int (i - j)) := yFF fun _ _ _ _ _ _ _ q => sub_int q
theorem ynq : OpR X (binaryOp .Mult) (rI CMul fun i j => .int (i * j)) := opI fun _ _ _ _ _ _ _ hc q => mul_int q hc.ok
theorem yem : OpR X (binaryOp .FloorDiv) (rI yFG fun i j => .int (i / j)) := opI fun i j _ _ _ _ _ hc q => by
 have h1 : (0 : Int) < j := hc.1
 have h2 : j < 1073741824 := hc.2
 exact floordiv_int (by omega) (by rw [Int.fdiv_eq_ediv_of_nonneg i (by omega)]; exact q) (.inl (PyProof.noPylong_small (by omega)))
theorem ycB : OpR X (binaryOp .Mod) (rI (fun _ j => 0 < j) fun i j => .int (i % j)) := opI fun i j _ _ _ _ _ hc q => by
 have h1 : (0 : Int) < j := hc
 exact mod_int' (by omega) (by rw [Int.fmod_eq_emod_of_nonneg i (by omega)]; exact q)
theorem ysB : OpR X (binaryOp .Pow) (rI yEH fun i j => .int (i ^ j.toNat)) := opI fun _ _ _ _ _ _ _ hc q => pow_int_small hc.1 hc.2.1 hc.2.2 q
theorem unI {f : Value -> Sem Value} {g : Int -> Int}
  (rule : ∀ (i : Int) (t : Tok) (s : Shared) (Q : Value -> Shared -> Prop) (E : Value -> Shared -> Prop), Q (.int (g i) s.toks) { s with toks := s.toks + 1 } -> wpAny (model X.prog X.w) X.A (f (.int i t)) Q E s) :
  UnR X f (rU fun i => .int (g i)) := by
 intro pins s σ H x v Q I rx h
 obtain ⟨i, rfl, q⟩ := h
 obtain ⟨t, rfl⟩ := rx
 exact rule i t s _ _ ⟨.int (g i), H, I.tok _, ⟨_, rfl⟩, q⟩
theorem yyE : UnR X (unaryOp .USub) (rU fun i => .int (-i)) := unI fun _ _ _ _ _ q => neg_int q
end
def yzz : V -> V -> Bool
 | .non, .non => true | .non, .int _ => true | .int _, .non => true | .non, .bl _ => true | .bl _, .non => true | .non, .str _ => true | .str _, .non => true
 | .int _, .int _ => true | .bl _, .bl _ => true | .str _, .str _ => true | .byt _, .byt _ => true
 | .int _, .str _ => true | .str _, .int _ => true | .bl _, .str _ => true | .str _, .bl _ => true
 | _, _ => false
def rEq : R2 := fun x y H Q => yzz x y = true /\ Q (.bl (decide (x = y))) H
def rNe : R2 := fun x y H Q => yzz x y = true /\ Q (.bl (!decide (x = y))) H
theorem yuF {i j : Int} : decide (V.int i = V.int j) = (i == j) := by
 rw [Bool.eq_iff_iff]
 simp
theorem yyF {i j : Bool} : decide (V.bl i = V.bl j) = (i == j) := by
 rw [Bool.eq_iff_iff]
 simp
theorem yuG {i j : Str} : decide (V.str i = V.str j) = (i == j) := by
 rw [Bool.eq_iff_iff]
 simp
theorem yuH {i j : Array UInt8} : decide (V.byt i = V.byt j) = (i.toList == j.toList) := by
 rw [Bool.eq_iff_iff]
 cases i
 cases j
 simp
section
variable {X : Cx} {a b c : Expr} {ta tb tc : TE} {pos : Pos}
theorem ybW {pins : List (Addr × Obj)} {σ : St} {H : Hp} {s : Shared} {Q : VK} {k k' : Bool} (I : Inv X pins σ H s) (q : Q (.bl k) H) (e : k = k') : EP X pins σ Q (.bool k') s := by
 subst e
 exact ⟨.bl k, H, I, rfl, q⟩
theorem ygB : OpR X (compareOp .Eq) rEq := by
 intro pins s σ H x y v u Q I rx ry h
 obtain ⟨hs, q⟩ := h
 cases x with
 | non =>
  cases rx
  cases y with
  | non => cases ry; exact PySem.EqNone.eq_none_none (ybW I q (by simp))
  | bl j => cases ry; exact PySem.EqNone.eq_none_bool (ybW I q (by simp))
  | int j => obtain ⟨t', rfl⟩ := ry; exact PySem.EqNone.eq_none_int (ybW I q (by simp))
  | str j => obtain ⟨t', rfl⟩ := ry; exact PySem.EqNone.eq_none_str (ybW I q (by simp))
  | _ => exact absurd (show false = true from hs) Bool.false_ne_true
 | bl i =>
  cases rx
  cases y with
  | non => cases ry; exact PySem.EqNone.eq_bool_none (ybW I q (by simp))
  | bl j => cases ry; exact eq_bool (ybW I q yyF)
  | str j => obtain ⟨t', rfl⟩ := ry; exact PySem.EqMixed.eq_bool_str (ybW I q (by simp))
  | _ => exact absurd (show false = true from hs) Bool.false_ne_true
 | int i =>
  obtain ⟨t, rfl⟩ := rx
  cases y with
  | non => cases ry; exact PySem.EqNone.eq_int_none (ybW I q (by simp))
  | int j => obtain ⟨t', rfl⟩ := ry; exact eq_int (ybW I q yuF)
  | str j => obtain ⟨t', rfl⟩ := ry; exact PySem.EqMixed.eq_int_str (ybW I q (by simp))
  | _ => exact absurd (show false = true from hs) Bool.false_ne_true
 | str i =>
  obtain ⟨t, rfl⟩ := rx
  cases y with
  | non => cases ry; exact PySem.EqNone.eq_str_none (ybW I q (by simp))
  | bl j => cases ry; exact PySem.EqMixed.eq_str_bool (ybW I q (by simp))
  | int j => obtain ⟨t', rfl⟩ := ry; exact PySem.EqMixed.eq_str_int (ybW I q (by simp))
  | str j => obtain ⟨t', rfl⟩ := ry; exact eq_str (ybW I q yuG)
  | _ => exact absurd (show false = true from hs) Bool.false_ne_true
 | byt i =>
  obtain ⟨t, rfl⟩ := rx
  cases y with
  | byt j => obtain ⟨t', rfl⟩ := ry; exact PySem.W.eq_bytes (ybW I q yuH)
  | _ => exact absurd (show false = true from hs) Bool.false_ne_true
 | _ => cases y <;> exact absurd (show false = true from hs) Bool.false_ne_true
theorem yzA : OpR X (compareOp .NotEq) rNe := by
 intro pins s σ H x y v u Q I rx ry h
 obtain ⟨hs, q⟩ := h
 cases x with
 | non =>
  cases rx
  cases y with
  | non => cases ry; exact PySem.EqNone.ne_none_none (ybW I q (by simp))
  | bl j => cases ry; exact PySem.EqNone.ne_none_bool (ybW I q (by simp))
  | int j => obtain ⟨t', rfl⟩ := ry; exact PySem.EqNone.ne_none_int (ybW I q (by simp))
  | str j => obtain ⟨t', rfl⟩ := ry; exact PySem.EqNone.ne_none_str (ybW I q (by simp))
  | _ => exact absurd (show false = true from hs) Bool.false_ne_true
 | bl i =>
  cases rx
  cases y with
  | non => cases ry; exact PySem.EqNone.ne_bool_none (ybW I q (by simp))
  | bl j => cases ry; exact ne_bool (ybW I q (congrArg not yyF))
  | str j => obtain ⟨t', rfl⟩ := ry; exact PySem.EqMixed.ne_bool_str (ybW I q (by simp))
  | _ => exact absurd (show false = true from hs) Bool.false_ne_true
 | int i =>
  obtain ⟨t, rfl⟩ := rx
  cases y with
  | non => cases ry; exact PySem.EqNone.ne_int_none (ybW I q (by simp))
  | int j => obtain ⟨t', rfl⟩ := ry; exact ne_int (ybW I q (congrArg not yuF))
  | str j => obtain ⟨t', rfl⟩ := ry; exact PySem.EqMixed.ne_int_str (ybW I q (by simp))
  | _ => exact absurd (show false = true from hs) Bool.false_ne_true
 | str i =>
  obtain ⟨t, rfl⟩ := rx
  cases y with
  | non => cases ry; exact PySem.EqNone.ne_str_none (ybW I q (by simp))
  | bl j => cases ry; exact PySem.EqMixed.ne_str_bool (ybW I q (by simp))
  | int j => obtain ⟨t', rfl⟩ := ry; exact PySem.EqMixed.ne_str_int (ybW I q (by simp))
  | str j => obtain ⟨t', rfl⟩ := ry; exact ne_str (ybW I q (congrArg not yuG))
  | _ => exact absurd (show false = true from hs) Bool.false_ne_true
 | byt i =>
  obtain ⟨t, rfl⟩ := rx
  cases y with
  | byt j => obtain ⟨t', rfl⟩ := ry; exact PySem.W.ne_bytes (ybW I q (congrArg not yuH))
  | _ => exact absurd (show false = true from hs) Bool.false_ne_true
 | _ => cases y <;> exact absurd (show false = true from hs) Bool.false_ne_true
theorem ytA : OpR X (compareOp .Lt) (rI0 fun i j => .bl (decide (i < j))) := yGr fun _ _ _ _ _ _ _ q => lt_int q
theorem yCi : OpR X (compareOp .Is) (fun x y H Q => y = .non /\ Q (.bl (decide (x = .non))) H) := by
 intro pins s σ H x y v u Q I rx ry h
 obtain ⟨rfl, q⟩ := h
 cases ry
 refine is_none_gen (ybW I q ?_)
 cases x <;> first
  | (cases rx; rfl)
  | (obtain ⟨t, rfl⟩ := rx; rfl)
theorem ybs (b : Expr) {op : CmpOp} (h : op ≠ .In := by decide) (h2 : op ≠ .NotIn := by decide) : behindInMarks op b = false := by
 have e1 : (op == CmpOp.In) = false := by cases op <;> first | rfl | exact absurd rfl h
 have e2 : (op == CmpOp.NotIn) = false := by cases op <;> first | rfl | exact absurd rfl h2
 cases b <;> simp [behindInMarks, e1, e2]
theorem yzB {op : CmpOp} {r : R2} (ho : OpR X (compareOp op) r) (ha : PE X a ta) (hb : PE X b tb) (hm : behindInMarks op b = false) : PE X (.Compare a [op] [b] pos) (tOp r ta tb) := by
 intro pins s σ H Q I h
 exact wpAny_Compare1 (yEF ha hb I h fun v u s2 x y H2 I2 rx ry q => ho pins s2 σ H2 x y v u Q I2 rx ry q) hm
def yCj (t : TE) : TT := fun σ H Q => t σ H fun x H' => ∃ k, x = .bl k /\ Q k H'
theorem yzC {op : CmpOp} {r : R2} (ho : OpR X (compareOp op) r) (ha : PE X a ta) (hb : PE X b tb) (hm : behindInMarks op b = false) : PT X (.Compare a [op] [b] pos) (yCj (tOp r ta tb)) := by
 intro pins s σ H Q I h
 refine wpAny_isTrue_Compare1 (thn (ha pins s σ H _ I h) fun v s1 ⟨x, H1, I1, r1, q1⟩ => thn (hb pins s1 σ H1 _ I1 q1) fun u s2 ⟨y, H2, I2, r2, q2⟩ =>
  thn (ho pins s2 σ H2 x y v u _ I2 r1 r2 q2) fun c s3 ⟨z, H3, I3, r3, k, e, q3⟩ => ?_) hm
 subst e
 cases r3
 exact wpAny_truthy_bool ⟨H3, I3, q3⟩
theorem ynr : (sizeLine : Nat) < 2 ^ 63 := by rw [sizeLine_eq]; decide
theorem vals1 {x : V} {us : List Value} (r : Vals [x] us) : ∃ u, us = [u] /\ RelV x u := by
 cases r with
 | cons r1 r2 => cases r2; exact ⟨_, rfl, r1⟩
theorem vals2 {x y : V} {us : List Value} (r : Vals [x, y] us) : ∃ u w', us = [u, w'] /\ RelV x u /\ RelV y w' := by
 cases r with
 | cons r1 r2 =>
  cases r2 with
  | cons r3 r4 => cases r4; exact ⟨_, _, rfl, r1, r3⟩
theorem yuI (hc : X.calm = true) : yjf X (.builtin "max") (fun xs H Q => ∃ i j, xs = [.int i, .int j] /\ Q (.int (if j > i then j else i)) H) := by
  intro pins s σ H xs us Q I r h
  obtain ⟨i, j, rfl, q⟩ := h
  obtain ⟨u, w', rfl, ⟨t, rfl⟩, ⟨t', rfl⟩⟩ := vals2 r
  refine max_two_ints (I.ok.hd hc) fun h' tk k => ⟨_, H, I.kept k, ?_, q⟩
  by_cases hj : j > i
  . rw [if_pos hj, if_pos hj]; exact ⟨_, rfl⟩
  . rw [if_neg hj, if_neg hj]; exact ⟨_, rfl⟩
theorem ypH : yjf X (.type "int") (fun xs H Q => (∃ i, xs = [.int i] /\ Q (.int i) H) \/ ∃ k, xs = [.bl k] /\ Q (.int (if k then 1 else 0)) H) := by
  intro pins s σ H xs us Q I r h
  rcases h with ⟨i, rfl, q⟩ | ⟨k, rfl, q⟩
  . obtain ⟨u, rfl, t, rfl⟩ := vals1 r
    exact call_int_int ⟨.int i, H, I, ⟨_, rfl⟩, q⟩
  . obtain ⟨u, rfl, r1⟩ := vals1 r
    cases r1
    exact call_int_bool ⟨.int (if k then 1 else 0), H, I.tok _, ⟨_, rfl⟩, q⟩
end
end L2
namespace L2
open PySem PySem.Spec PyProof.Rows
structure ObjM (h : Heap) (x dx C : Addr) (mA : Str -> Option Value) : Prop where
 obj : h.get? x = some (PySem.W.instObj C dx)
 ns : h.Ns1 dx mA
 ne : dx ≠ x
theorem yuJ {h : Heap} {dx : Addr} {mA : Str -> Option Value} (n : h.Ns1 dx mA) : ∃ od, h.get? dx = some od /\ ∀ name, PySem.W.lookIn name od = some (mA name) := by
  obtain ⟨o, es, ep, ho, hd, hk, _, hm⟩ := n
  refine ⟨o, ho, fun name => ?_⟩
  have e := hm name
  unfold nsFind findBy at e
  rw [<- Array.find?_toList] at e
  unfold PySem.W.lookIn
  rw [hd]
  dsimp only
  split
  . rename_i y q
    rw [q] at e
    exact congrArg some e
  . rename_i q
    rw [q] at e
    have a : es.toList.any (·.refKey) = false := by
      rw [List.any_eq_false]
      intro y hy
      obtain ⟨z, t, hkey⟩ := hk y (Array.mem_toList_iff.mp hy)
      simp [DictEntry.refKey, hkey]
    have a' : ¬ es.toList.any (·.refKey) = true := by rw [a]; exact Bool.false_ne_true
    rw [if_neg a']
    exact congrArg some e
theorem ObjM.look {h : Heap} {x dx C : Addr} {mA : Str -> Option Value} (I : ObjM h x dx C mA) : ∃ od, PySem.W.InstAt h x (PySem.W.instObj C dx) C (some od) /\ ∀ name, PySem.W.lookIn name od = some (mA name) :=
 let ⟨od, ho, hl⟩ := yuJ I.ns
 ⟨od, ⟨I.obj, rfl, rfl, ho⟩, hl⟩
section
variable {prog : Program} {w : World} {A : Around} {E : Value -> Shared -> Prop} {s : Shared} {K : PySem.W.Frag} {x dx C f : Addr} {mA : Str -> Option Value} {name : Str} {v : Value}
theorem yzD {expr : Bool} {Q : Value -> Shared -> Prop} (X : K.In s.heap) (I : ObjM s.heap x dx C mA) (hg : PySem.W.plainGet K C name = true) (hh : PySem.W.hasDictIn K C = true)
  (ha : PySem.W.findIn K (.ref C) name = some none) (hv : mA name = some v) (hv' : PySem.W.handedIn v = true) (h : Q v { s with toks := s.toks + 1 }) :
  wpAny (model prog w) A (getAttr (.ref x) name expr) Q E s := by
 obtain ⟨od, J, hl⟩ := I.look
 exact PySem.W.get_value X J (PySem.W.plainGet_of hg).1 (PySem.W.findObj_own hh ha rfl (by rw [hl, hv])) hv' h
theorem ywS {pl : Sem Bool} {Q : Value × List Value -> Shared -> Prop} (X : K.In s.heap) (I : ObjM s.heap x dx C mA) (hg : PySem.W.plainGet K C name = true)
    (hf : PySem.W.findIn K (.ref C) name = some (some (.ref f))) (ht : PySem.W.isFn K (.ref f) = true) (hv : mA name = none) (h : Q (.ref f, [.ref x]) s) :
    wpAny (model prog w) A (getMethod (.ref x) name pl) Q E s := by
  obtain ⟨od, J, hl⟩ := I.look
  exact PySem.W.method_fn X J (PySem.W.plainGet_of hg).1 (PySem.W.plainGet_of hg).2 hf (beq_iff_eq.mp ht) (by show (PySem.W.lookIn name od).map (·.isSome) = some false; rw [hl, hv]; rfl) h
theorem yzE {ns : List Str} {Q : Unit -> Shared -> Prop} (X : K.In s.heap) (I : ObjM s.heap x dx C mA)
  (hs : PySem.W.findIn K (.ref C) "__setattr__" = some (some (.builtin "object.__setattr__"))) (hp : PySem.W.plainOver K C = true) (ht : PySem.W.takerIn K C name = some none) (hh : PySem.W.hasDictIn K C = true)
  (hw : PySem.Within mA ns) (hsz : ns.length <= sizeLine)
  (h : ∀ h', ObjM h' x dx C (fun y => if y = name then some v else mA y) -> Heap.SameBut dx s.heap h' -> Q () { s with heap := h', toks := s.toks + 2 }) :
  wpAny (model prog w) A (setAttr (.ref x) name v) Q E s := by
 obtain ⟨od, J, hl⟩ := I.look
 refine PySem.W.set_plain X J hs (PySem.W.osa_open (s := { s with toks := s.toks + 1 }) (r := none) X J hp ht fun b => ?_)
 obtain ⟨cd, hc, hd'⟩ := PySem.W.any_some hh
 have hx : s.heap.get? x = some ⟨.ref C, some dx, .plain, #[]⟩ := I.obj
 refine wpAny_bind (wpAny_pure (wpAny_bind (wpAny_bind (wpAny_loadPart hx (wpAny_bind (PySem.W.Looks.here (s := { s with toks := s.toks + 1 }) (PySem.W.looks_clsIn X hc) ?_))))))
 rw [hd']
 refine wpAny_pure (a := some dx) (wpAny_bind (wpAny_pure (wpAny_bind ?_)))
 refine wpAny_nsSet1 (s := { s with toks := s.toks + 1 }) I.ns fun h' hn2 hs2 => ?_
 obtain ⟨oD, esD, epD, hoD, hdD, hcD⟩ := hn2.count (PySem.Within.cons name v hw)
 refine wpAny_bind (wpAny_lookBehind hoD (by rw [hdD]; exact pastItsLine_dict (Nat.le_trans hcD (by rw [List.length_cons]; omega))) ?_)
 exact wpAny_pure (h _ ⟨(hs2.2 _ (Ne.symm I.ne)).trans I.obj, hn2, I.ne⟩ hs2)
theorem ywT {R : Result -> Shared -> Prop} {vs : List Value} {kw : List (Str × Value)} (X : K.In s.heap) (hm : PySem.W.makesIn K C = true)
  (hi : PySem.W.findIn K (.ref C) "__init__" = some (some (.ref f))) (hf : PySem.W.typeIn K (.ref f) = some (.type "function"))
  (h : codeAny (model prog w) (A.under (.builtin "type.__call__" ⟨.ref C :: vs, kw⟩)) (.call (.ref f) ⟨.ref (s.heap.objs.size + 1) :: vs, kw⟩) (PySem.W.InitBack (s.heap.objs.size + 1) R)
   { s with heap := (s.heap.push PySem.W.emptyDict).push (PySem.W.instObj C s.heap.objs.size) }) :
  codeAny (model prog w) A (.call (.ref C) ⟨vs, kw⟩) R s := by
 obtain ⟨hh, g, d, t, os⟩ := s
 exact PySem.W.make_core (PySem.W.makes_of X hm) (PySem.W.looks_findIn X hi) (fun self => PySem.W.bind_fn X self hf) (.inl rfl) h
end
def yns (f : Str) (v : V) : List (Str × V) -> List (Str × V)
 | [] => [(f, v)]
 | (g, x) :: r => if g = f then (g, v) :: r else (g, x) :: yns f v r
theorem ylz (f g : Str) (v : V) : ∀ fs : List (Str × V), (yns f v fs).lookup g = if g = f then some v else fs.lookup g
  | [] => by
    show List.lookup g [(f, v)] = _
    by_cases h : g = f
    . have hb : (g == f) = true := beq_iff_eq.mpr h
      simp only [List.lookup, hb, if_pos h]
    . have hb : (g == f) = false := beq_eq_false_iff_ne.mpr h
      simp only [List.lookup, hb, if_neg h]
  | (k, x) :: r => by
    have ih := ylz f g v r
    rw [show yns f v ((k, x) :: r) = (if k = f then (k, v) :: r else (k, x) :: yns f v r) from rfl]
    by_cases hk : k = f
    . rw [if_pos hk]
      by_cases h : g = k
      . have hb : (g == k) = true := beq_iff_eq.mpr h
        simp only [List.lookup, hb, if_pos (h.trans hk)]
      . have hb : (g == k) = false := beq_eq_false_iff_ne.mpr h
        simp only [List.lookup, hb, if_neg (fun e : g = f => h (e.trans hk.symm))]
    . rw [if_neg hk]
      by_cases h : g = k
      . have hb : (g == k) = true := beq_iff_eq.mpr h
        simp only [List.lookup, hb, if_neg (fun e : g = f => hk (h.symm.trans e))]
      . have hb : (g == k) = false := beq_eq_false_iff_ne.mpr h
        simp only [List.lookup, hb]
        exact ih
theorem ylA (f : Str) (v : V) : ∀ fs : List (Str × V), f ∈ (yns f v fs).map (·.1) /\ ∀ g, g ∈ fs.map (·.1) -> g ∈ (yns f v fs).map (·.1)
  | [] => ⟨by simp [yns], fun g h => by simp at h⟩
  | (k, x) :: r => by
    obtain ⟨i1, i2⟩ := ylA f v r
    rw [show yns f v ((k, x) :: r) = (if k = f then (k, v) :: r else (k, x) :: yns f v r) from rfl]
    by_cases hk : k = f
    . rw [if_pos hk]
      subst hk
      exact ⟨by simp, fun g h => by simpa using h⟩
    . rw [if_neg hk]
      refine ⟨?_, fun g h => ?_⟩
      . rw [List.map_cons]
        exact List.mem_cons_of_mem _ i1
      . rw [List.map_cons] at h ⊢
        rcases List.mem_cons.mp h with e | e
        . exact List.mem_cons.mpr (.inl e)
        . exact List.mem_cons_of_mem _ (i2 g e)
theorem ylB (f : Str) (v : V) : ∀ fs : List (Str × V), (yns f v fs).length <= fs.length + 1
  | [] => by simp [yns]
  | (k, x) :: r => by
    have ih := ylB f v r
    rw [show yns f v ((k, x) :: r) = (if k = f then (k, v) :: r else (k, x) :: yns f v r) from rfl]
    by_cases hk : k = f
    . rw [if_pos hk, List.length_cons, List.length_cons]; omega
    . rw [if_neg hk, List.length_cons, List.length_cons]; omega
theorem RelO.some_of {v : V} {o : Option Value} (r : RelO (some v) o) : ∃ u, o = some u /\ RelV v u := by
 cases o with
 | none => exact (show False from r).elim
 | some u => exact ⟨u, rfl, r⟩
theorem RelO.none_of {o : Option Value} (r : RelO none o) : o = none := by
 cases o with
 | none => rfl
 | some u => exact (show False from r).elim
theorem yuK {v : V} {u : Value} (r : RelV v u) : PySem.W.handedIn u = true := by
 cases v with
 | non => cases (show u = Value.none from r); rfl
 | bl b => cases (show u = Value.bool b from r); rfl
 | int i => obtain ⟨t, e⟩ := (show ∃ t, u = Value.int i t from r); cases e; rfl
 | str x => obtain ⟨t, e⟩ := (show ∃ t, u = Value.str x t from r); cases e; rfl
 | byt b => obtain ⟨t, e⟩ := (show ∃ t, u = Value.bytes b t from r); cases e; rfl
 | flt b => obtain ⟨t, e⟩ := (show ∃ t, u = Value.float b t from r); cases e; rfl
 | ref a => cases (show u = Value.ref a from r); rfl
 | ty n => cases (show u = Value.type n from r); rfl
section
variable {P : Program} {w : World} {H H' : Hp} {h h' : Heap} {a C dx : Addr} {fs fs' : List (Str × V)}
theorem ynO (hok : HOk P w H h) (e : H a = some (.ins C dx fs)) : ∃ mA, ObjM h a dx C mA /\ (∀ f, RelO (fs.lookup f) (mA f)) /\ PySem.Within mA (fs.map (·.1)) /\ fs.length <= 1000 /\ H dx = some (.own a) := by
  obtain ⟨d, z, ne, ob, mA, n, r, q⟩ := (show ObjOk P w H h a (.ins C dx fs) from hok a _ e)
  exact ⟨mA, ⟨ob, n, ne⟩, r, q, z, d⟩
end
structure Cls (K : PySem.W.Frag) (C : Addr) : Prop where
 pg : PySem.W.plainGet K C Str.empty = true
 hd : PySem.W.hasDictIn K C = true
 po : PySem.W.plainOver K C = true
 sa : PySem.W.findIn K (.ref C) "__setattr__" = some (some (.builtin "object.__setattr__"))
theorem Cls.get {K : PySem.W.Frag} {C : Addr} (c : Cls K C) (f : Str) : PySem.W.plainGet K C f = true := c.pg
def NoAttr (K : PySem.W.Frag) (C : Addr) (f : Str) : Prop := PySem.W.findIn K (.ref C) f = some none
theorem NoAttr.taker {K : PySem.W.Frag} {C : Addr} {f : Str} (n : NoAttr K C f) : PySem.W.takerIn K C f = some none := by
 unfold PySem.W.takerIn
 rw [show PySem.W.findIn K (.ref C) f = some none from n]
 rfl
structure yjh (K : PySem.W.Frag) (C : Addr) (m : Str) (f : Addr) : Prop where
 at_ : PySem.W.findIn K (.ref C) m = some (some (.ref f))
 fn : PySem.W.isFn K (.ref f) = true
 kp : PySem.W.keepIn K (.ref f) = true
section
variable {X : Cx} {pins : List (Addr × Obj)} {σ : St} {H : Hp} {s : Shared} {a C dx : Addr} {fs : List (Str × V)} {f : Str} {v : V} {A : Around} {E : Value -> Shared -> Prop}
theorem ytB {b : Bool} {Q : Value -> Shared -> Prop} (I : Inv X pins σ H s) (e : H a = some (.ins C dx fs)) (c : Cls X.K C) (n : NoAttr X.K C f) (l : fs.lookup f = some v)
  (h : ∀ u s', Inv X pins σ H s' -> RelV v u -> Q u s') : wpAny (model X.prog X.w) A (getAttr (.ref a) f b) Q E s := by
 obtain ⟨mA, O, r, _, _, _⟩ := ynO I.hok e
 obtain ⟨u, hu, ru⟩ := RelO.some_of (v := v) (o := mA f) (by rw [<- l]; exact r f)
 exact yzD I.kIn O (c.get f) c.hd n hu (yuK ru) (h u _ (I.tok _) ru)
theorem ynt {m : Str} {g : Addr} {pl : Sem Bool} {Q : Value × List Value -> Shared -> Prop} (I : Inv X pins σ H s) (e : H a = some (.ins C dx fs)) (c : Cls X.K C) (k : yjh X.K C m g) (l : fs.lookup m = none)
  (h : Q (.ref g, [.ref a]) s) : wpAny (model X.prog X.w) A (getMethod (.ref a) m pl) Q E s := by
 obtain ⟨mA, O, r, _, _, _⟩ := ynO I.hok e
 have hn : mA m = none := RelO.none_of (by rw [<- l]; exact r m)
 exact ywS I.kIn O (c.get m) k.at_ k.fn hn h
theorem ytC {y : V} {u : Value} {Q : Unit -> Shared -> Prop} (I : Inv X pins σ H s) (e : H a = some (.ins C dx fs)) (c : Cls X.K C) (n : NoAttr X.K C f) (hl : fs.length < 1000) (ry : RelV y u)
    (h : ∀ s', Inv X pins σ (upd H a (.ins C dx (yns f y fs))) s' -> Q () s') : wpAny (model X.prog X.w) A (setAttr (.ref a) f u) Q E s := by
  obtain ⟨mA, O, r, wi, _, ho⟩ := ynO I.hok e
  have hz : (fs.map (·.1)).length <= sizeLine := by rw [List.length_map, sizeLine_eq]; omega
  refine yzE I.kIn O c.sa c.po n.taker c.hd wi hz fun h' O' sb => h _ ?_
  have hd : ∃ o, h'.get? dx = some o := let ⟨o, _, _, e', _⟩ := O'.ns; ⟨o, e'⟩
  refine I.write (x := a) (e := dx) (by rw [e]; exact True.intro) (.inr ho) (fun b q hb z => (sb.2 b hb).trans z) hd ?_
  refine ⟨by rw [yU O.ne]; exact ho, ?_, O.ne, O'.obj, _, O'.ns, fun g => ?_, fun g hg => ?_⟩
  . have := ylB f y fs; omega
  . show RelO ((yns f y fs).lookup g) (if g = f then some u else mA g)
    rw [ylz]
    by_cases q : g = f
    . rw [if_pos q, if_pos q]; exact ry
    . rw [if_neg q, if_neg q]; exact r g
  . by_cases q : g = f
    . rw [q]; exact (ylA f y fs).1
    . refine (ylA f y fs).2 g (wi g fun z => hg ?_)
      show (if g = f then some u else mA g) = none
      rw [if_neg q]; exact z
theorem Inv.made (I : Inv X pins σ H s) : Inv X pins σ (upd (upd H s.heap.objs.size (.own (s.heap.objs.size + 1))) (s.heap.objs.size + 1) (.ins C s.heap.objs.size []))
  { s with heap := (s.heap.push PySem.W.emptyDict).push (PySem.W.instObj C s.heap.objs.size) } := by
 have e1 : (s.heap.push PySem.W.emptyDict).get? s.heap.objs.size = some PySem.W.emptyDict := Heap.get?_push_size s.heap rfl
 have e2 : ((s.heap.push PySem.W.emptyDict).push (PySem.W.instObj C s.heap.objs.size)).get? (s.heap.objs.size + 1) = some (PySem.W.instObj C s.heap.objs.size) := by
  have := Heap.get?_push_size (s.heap.push PySem.W.emptyDict) (o := PySem.W.instObj C s.heap.objs.size) rfl
  rwa [Heap.size_push] at this
 have e3 : (s.heap.push PySem.W.emptyDict).Ns s.heap.objs.size (fun _ => none) := ⟨PySem.W.emptyDict, #[], _, e1, rfl, (fun e he => absurd he (by simp)), fun _ => rfl⟩
 have I1 := I.laid (a := s.heap.objs.size) (o := .own (s.heap.objs.size + 1)) (h' := s.heap.push PySem.W.emptyDict) (t' := s.toks) (fun b u q => Heap.get?_push_of_some _ q) (Nat.le_refl _) ⟨_, e1⟩
 refine I1.laid (a := s.heap.objs.size + 1) (o := .ins C s.heap.objs.size []) (t' := s.toks) (fun b u q => Heap.get?_push_of_some _ q) (Nat.le_of_eq (Heap.size_push _ _)) ?_
 have ne : s.heap.objs.size ≠ s.heap.objs.size + 1 := Nat.ne_of_lt (Nat.lt_succ_self _)
 refine ⟨by rw [yU ne, yK], Nat.zero_le _, ne, e2, fun _ => none, (Heap.Ns1.of_empty e3).at fun o q => Heap.get?_push_of_some _ q, fun _ => True.intro, fun y hy => absurd rfl hy⟩
theorem yzF {prog : Program} {w : World} {env : Env} {e : Expr} {f : Str} {pos : Pos} {s : Shared} {Q : Value -> Shared -> Prop} (hb : attributeBase e f env (eval e env) = eval e env)
  (h : wpAny (model prog w) A (eval e env) (fun o s₁ => wpAny (model prog w) A (getAttr o f true) Q E s₁) E s) : wpAny (model prog w) A (eval (.Attribute e f pos) env) Q E s :=
 Attribute_any_ h (by rw [arm_eval_Attribute, hb])
end
def yFH (K : PySem.W.Frag) (ta : TE) (f : Str) : TE := fun σ H Q => ta σ H fun x H1 => ∃ a C dx fs v, x = .ref a /\ H1 a = some (.ins C dx fs) /\ Cls K C /\ NoAttr K C f /\ fs.lookup f = some v /\ Q v H1
def yEI (K : PySem.W.Frag) (ta tv : TE) (f : Str) : TS := fun D σ H => tv σ H fun y H1 => ta σ H1 fun x H2 => ∃ a C dx fs, x = .ref a /\ H2 a = some (.ins C dx fs) /\ Cls K C /\ NoAttr K C f /\ fs.length < 1000 /\
 D.nx σ (upd H2 a (.ins C dx (yns f y fs)))
section
variable {X : Cx} {o e value : Expr} {f : Str} {pos pos' tpos : Pos} {ta tv : TE}
theorem yCk (he : PE X e ta) (hb : attributeBase e f X.env (eval e X.env) = eval e X.env) : PE X (.Attribute e f pos) (yFH X.K ta f) := by
 intro pins s σ H Q I h
 refine yzF hb (thn (he pins s σ H _ I h) fun u s1 ⟨x, H1, I1, rx, a, C, dx, fs, v, ex, ea, c, n, l, q⟩ => ?_)
 subst ex
 obtain rfl : u = Value.ref a := rx
 exact ytB I1 ea c n l fun u' s2 I2 ru => ⟨v, H1, I2, ru, q⟩
theorem yyG (ha : PE X o ta) (hv : PE X value tv) (hs : swapsWith value (some (.Attribute o f pos')) pos.line X.env = pure false) : PS X (.Assign [.Attribute o f pos'] value pos) (yEI X.K ta tv f) := by
 intro pins s σ H D I h
 refine plainObj_wpAny_Assign_Attribute (thn (hv pins s σ H _ I h) fun u s1 ⟨y, H1, I1, ry, q⟩ => thn (ha pins s1 σ H1 _ I1 q) fun ov s2 ⟨x, H2, I2, rx, a, C, dx, fs, ex, ea, c, n, l, q2⟩ => ?_) hs
 subst ex
 obtain rfl : ov = Value.ref a := rx
 exact ytC I2 ea c n l ry fun s3 I3 => ⟨σ, _, I3, q2⟩
end
section
variable {X : Cx} {pins : List (Addr × Obj)} {σ : St} {H : Hp} {s : Shared} {A : Around} {E : Value -> Shared -> Prop} {Q : Value -> Shared -> Prop} {c : Value} {b : Bool}
inductive ylC (K : PySem.W.Frag) (H : Hp) : V -> Value -> Prop where
 | non : ylC K H .non (.type "NoneType")
 | bl (x : Bool) : ylC K H (.bl x) (.type "bool")
 | int (i : Int) : ylC K H (.int i) (.type "int")
 | str (x : Str) : ylC K H (.str x) (.type "str")
 | flt (x : UInt64) : ylC K H (.flt x) (.type "float")
 | lst {a : Addr} {xs : List V} (e : H a = some (.lst xs)) : ylC K H (.ref a) (.type "list")
 | frz {a : Addr} {o : Obj} {xs : List V} (e : H a = some (.frz o (.lst xs))) : ylC K H (.ref a) (.type "list")
 | tup {a : Addr} {xs : List V} (e : H a = some (.tup xs)) : ylC K H (.ref a) (.type "tuple")
 | kt {a : Addr} {o : Obj} (e : K.lookup a = some o) (c : o.cls = .type "tuple") : ylC K H (.ref a) (.type "tuple")
 | dK {a : Addr} {kvs : List (Key × V)} (e : H a = some (.dK kvs)) : ylC K H (.ref a) (.type "dict")
 | dT {a : Addr} {kvs : List (List Key × V)} (e : H a = some (.dT kvs)) : ylC K H (.ref a) (.type "dict")
 | ins {a C dx : Addr} {fs : List (Str × V)} (e : H a = some (.ins C dx fs)) (cl : Cls K C) (ha : PySem.W.findIn K (.ref C) "__class__" = some (some (.builtin "object.__class__")))
   (hn : PySem.W.specialIn K (.builtin "object.__class__") "__get__" = some (some (.builtin "getset_descriptor.__get__"))) (htk : PySem.W.takesIn K (.builtin "object.__class__") = some true)
   (hm : PySem.W.mroIn K C (.type "object") = some true) : ylC K H (.ref a) (.ref C)
theorem yuL {x : V} {u t : Value} (I : Inv X pins σ H s) (rx : RelV x u) (ty : ylC X.K H x t) (e : PySem.W.kitOne X.K t c = some b) (h : ∀ tk, Q (.bool b) { s with toks := tk }) :
  wpAny (model X.prog X.w) A (call (.builtin "isinstance") [u, c]) Q E s := by
 cases ty with
 | non => cases (show u = Value.none from rx); exact PySem.W.kia_one PySem.W.kitx_none I.kIn True.intro e (fun z => nomatch z) h
 | bl y => cases (show u = Value.bool y from rx); exact PySem.W.kia_one PySem.W.kitx_bool I.kIn True.intro e (fun z => nomatch z) h
 | int i => obtain ⟨t, q⟩ := (show ∃ t, u = Value.int i t from rx); cases q; exact PySem.W.kia_one PySem.W.kitx_int I.kIn True.intro e (fun z => nomatch z) h
 | str y => obtain ⟨t, q⟩ := (show ∃ t, u = Value.str y t from rx); cases q; exact PySem.W.kia_one PySem.W.kitx_str I.kIn True.intro e (fun z => nomatch z) h
 | flt y => obtain ⟨t, q⟩ := (show ∃ t, u = Value.float y t from rx); cases q; exact PySem.W.kia_one PySem.W.kitx_float I.kIn True.intro e (fun z => nomatch z) h
 | @lst a xs ea =>
  cases (show u = Value.ref a from rx)
  obtain ⟨_, _, n, _, h1⟩ := (show ObjOk X.prog X.w H s.heap a (.lst xs) from I.hok a _ ea)
  exact PySem.W.kia_one PySem.W.kitx_list I.kIn ⟨_, h1, rfl⟩ e (fun z => nomatch z) h
 | @frz a ob xs ea =>
  cases (show u = Value.ref a from rx)
  obtain ⟨_, _, _, n, _, h1⟩ := (show ObjOk X.prog X.w H s.heap a (.frz ob (.lst xs)) from I.hok a _ ea)
  exact PySem.W.kia_one PySem.W.kitx_list I.kIn ⟨_, h1, rfl⟩ e (fun z => nomatch z) h
 | @tup a xs ea =>
  cases (show u = Value.ref a from rx)
  obtain ⟨_, _, _, p⟩ := (show ObjOk X.prog X.w H s.heap a (.tup xs) from I.hok a _ ea)
  obtain ⟨o, h1, h2, _⟩ := p
  exact PySem.W.kia_one PySem.W.kitx_tuple I.kIn ⟨o, h1, h2⟩ e (fun z => nomatch z) h
 | @kt a ob ek ck =>
  cases (show u = Value.ref a from rx)
  exact PySem.W.kia_one PySem.W.kitx_tuple I.kIn ⟨ob, I.kIn a ob ek, ck⟩ e (fun z => nomatch z) h
 | @dK a kvs ea =>
  cases (show u = Value.ref a from rx)
  obtain ⟨_, _, vs, _, p⟩ := (show ObjOk X.prog X.w H s.heap a (.dK kvs) from I.hok a _ ea)
  obtain ⟨o, es, ep, h1, h2, _⟩ := p
  exact PySem.W.kia_one PySem.W.kitx_dict I.kIn ⟨o, h1, h2.1⟩ e (fun z => nomatch z) h
 | @dT a kvs ea =>
  cases (show u = Value.ref a from rx)
  obtain ⟨_, _, xs, _, o, es, ep, h1, h2, _⟩ := (show ObjOk X.prog X.w H s.heap a (.dT kvs) from I.hok a _ ea)
  exact PySem.W.kia_one PySem.W.kitx_dict I.kIn ⟨o, h1, h2.1⟩ e (fun z => nomatch z) h
 | @ins a C dx fs ea cl ha hn htk hm =>
  cases (show u = Value.ref a from rx)
  obtain ⟨mA, O, _⟩ := ynO I.hok ea
  obtain ⟨od, J, _⟩ := O.look
  exact PySem.W.kia_one (PySem.W.kitx_own (cl.get _) cl.hd ha hn htk hm) I.kIn J e (fun z => nomatch z) h
end
end L2
namespace L2
open PySem PySem.Spec PyProof.Rows
structure Room (k : Nat) (A : Around) : Prop where
 hd : A.handled = none
 dp : A.depth + 3 * k + 5 < recursionLimit
 un : A.units + 16 * k + 200 < cLine
theorem Room.mono {j k : Nat} {A : Around} (r : Room k A) (h : j <= k) : Room j A := ⟨r.hd, by have := r.dp; omega, by have := r.un; omega⟩
theorem Room.deeper {k : Nat} {A : Around} (r : Room (k + 1) A) (env : Env) : Room k (A.deeper env) :=
 ⟨r.hd, by have := r.dp; show A.depth + 1 + 3 * k + 5 < _; omega, by have := r.un; show A.units + 3 + 16 * k + 200 < _; omega⟩
theorem ytD {A : Around} {C : Addr} {us : List Value} {kw : List (Str × Value)} : (A.under (.builtin "type.__call__" ⟨.ref C :: us, kw⟩)).depth = A.depth + 1 := by
 first | rfl | simp [Around.under, Code.weight, Code.isCreation, Code.isGuard, Code.isCaller, Code.frames, Code.isFrame, guardIds]
theorem ytE {A : Around} {C : Addr} {us : List Value} {kw : List (Str × Value)} : (A.under (.builtin "type.__call__" ⟨.ref C :: us, kw⟩)).units = A.units + 1 := by
 first | rfl | simp [Around.under, Code.cUnits, Code.frames, Code.isFrame]
theorem Room.make {k : Nat} {A : Around} (r : Room (k + 1) A) (C : Addr) (us : List Value) (kw : List (Str × Value)) : Room k (A.under (.builtin "type.__call__" ⟨.ref C :: us, kw⟩)) :=
 ⟨r.hd, by have := r.dp; rw [ytD]; omega, by have := r.un; rw [ytE]; omega⟩
theorem Room.depth {k : Nat} {A : Around} (r : Room k A) : A.depth < recursionLimit := by have := r.dp; omega
theorem Room.units {k : Nat} {A : Around} (r : Room k A) : A.units + 64 < cLine := by have := r.un; omega
def yzG : TA := fun _ H Q => Q [] H
def yuM (ta : TE) (tr : TA) : TA := fun σ H Q => ta σ H fun x H1 => tr σ H1 fun xs H2 => Q (x :: xs) H2
section
variable {X : Cx} {e : Expr} {es : List Expr} {te : TE} {t : TA} {pos : Pos}
theorem ypI : PA X [] yzG := fun _ _ _ _ H Q I h => Calls.spliced_nil ⟨[], H, I, .nil, h⟩
theorem yke (ha : PE X e te) (hr : PA X es t) (hs : starEach (e :: es) X.env = (false, eval e X.env) :: starEach es X.env := by rfl) : PA X (e :: es) (yuM te t) := by
 intro pos pins s σ H Q I h
 rw [hs]
 show wpAny _ _ (spliced ((false, eval e X.env) :: backTo pos (starEach es X.env))) _ _ s
 refine Calls.spliced_cons (thn (ha pins s σ H _ I h) fun u s1 ⟨x, H1, I1, r1, q1⟩ => ?_)
 exact thn (hr pos pins s1 σ H1 _ I1 q1) fun us s2 ⟨xs, H2, I2, r2, q2⟩ => ⟨x :: xs, H2, I2, .cons r1 r2, q2⟩
def yFI (t : TA) : TE := fun σ H Q => t σ H fun xs H1 => xs.length <= sizeLine /\ ∀ p, H1 p = none -> Q (.ref p) (upd H1 p (.tup xs))
def yFJ (t : TA) : TE := fun σ H Q => t σ H fun xs H1 => xs.length <= sizeLine /\ ∀ p, H1 p = none -> Q (.ref p) (upd H1 p (.lst xs))
theorem yCl {x1} (h : PA X es t) : PE X (.Tuple es x1 pos) (yFI t) := by
 intro pins s σ H Q I hq
 refine wpAny_Tuple_spliced (thn (h pos pins s σ H _ I hq) fun us s1 ⟨xs, H1, I1, r, z, q⟩ => ⟨by rw [<- r.length]; exact z, ?_⟩)
 have hf : H1 s1.heap.objs.size = none := I1.hok.fresh (Nat.le_refl _)
 refine ⟨.ref s1.heap.objs.size, upd H1 s1.heap.objs.size (.tup xs), I1.laid (t' := s1.toks) (fun b u e => Heap.get?_push_of_some _ e) (Nat.le_refl _) ?_, rfl, q _ hf⟩
 exact ⟨z, us, r, ⟨_, Heap.get?_push_size _ rfl, rfl, _, rfl⟩⟩
theorem yCm (h : PA X es t) : PE X (.List es pos) (yFJ t) := by
 intro pins s σ H Q I hq
 refine wpAny_List_spliced (thn (h pos pins s σ H _ I hq) fun us s1 ⟨xs, H1, I1, r, z, q⟩ => ⟨by rw [<- r.length]; exact z, ?_⟩)
 have hf : H1 s1.heap.objs.size = none := I1.hok.fresh (Nat.le_refl _)
 refine ⟨.ref s1.heap.objs.size, upd H1 s1.heap.objs.size (.lst xs), I1.laid (t' := s1.toks) (fun b u e => Heap.get?_push_of_some _ e) (Nat.le_refl _) ?_, rfl, q _ hf⟩
 exact ⟨z, us, 0, r, Heap.get?_push_size _ rfl⟩
end
abbrev Sp := List V -> Hp -> VK -> XK -> Prop
abbrev CXT := List Env -> Hp -> Shared -> XK -> Value -> Shared -> Prop
structure Env0 (P : Program) (w : World) (K : PySem.W.Frag) (mg : Str -> Option Value) (base : Heap) (A : Around) (outer : List Env) (s : Shared) (H : Hp) : Prop where
 frames : A.frames = some outer
 mod : Mod K mg base
 bs : ∀ b o, base.get? b = some o -> s.heap.get? b = some o /\ H b = none
 bsz : base.objs.size <= s.heap.objs.size
 funs : s.heap.FunFrames base outer
 frf : ∀ b ∈ frs outer, H b = none
 hok : HOk P w H s.heap
 bare : AllBare s.gens
def CE (outer : List Env) (P : Program) (w : World) (H : Hp) (s : Shared) (Q : VK) (u : Value) (s' : Shared) : Prop :=
 ∃ v H', s'.os = s.os /\ AllBare s'.gens /\ Un (frs outer) [] H H' s.heap s'.heap /\ HOk P w H' s'.heap /\ RelV v u /\ Q v H'
def CR (CX : CXT) (outer : List Env) (P : Program) (w : World) (H : Hp) (s : Shared) (Q : VK) (E : XK) (r : Result) (s' : Shared) : Prop :=
 match r with
 | .ok (.ret u) => CE outer P w H s Q u s'
 | .ok _ => False
 | .error e => CX outer H s E e s'
structure FnOk (P : Program) (w : World) (K : PySem.W.Frag) (mg : Str -> Option Value) (base : Heap) (CX : CXT) (k : Nat) (f : Addr) (fd : FuncData) (ps : List Str) (sp : Sp) : Prop where
 len : ∀ vs H Q E, sp vs H Q E -> vs.length = ps.length
 run : ∀ (A : Around) (outer : List Env) (s : Shared) (H : Hp) (args : Args) (us : List Value) (vs : List V) (Q : VK) (E : XK), Room k A -> Env0 P w K mg base A outer s H -> BindsTo s fd args (ps.zip us) -> Vals vs us -> sp vs H Q E ->
  codeAny (model P w) A (.call (.ref f) args) (CR CX outer P w H s Q E) s
theorem FnOk.imp {P : Program} {w : World} {K : PySem.W.Frag} {mg : Str -> Option Value} {base : Heap} {CX : CXT} {k : Nat} {f : Addr} {fd : FuncData} {ps : List Str} {sp sp' : Sp} (F : FnOk P w K mg base CX k f fd ps sp)
  (h : ∀ vs H Q E, sp' vs H Q E -> sp vs H Q E) : FnOk P w K mg base CX k f fd ps sp' :=
 ⟨fun vs H Q E q => F.len vs H Q E (h _ _ _ _ q), fun A outer s H args us vs Q E hr he hb hv hs => F.run A outer s H args us vs Q E hr he hb hv (h _ _ _ _ hs)⟩
theorem Env0.make {P : Program} {w : World} {K : PySem.W.Frag} {mg : Str -> Option Value} {base : Heap} {A : Around} {outer : List Env} {s : Shared} {H : Hp} (e : Env0 P w K mg base A outer s H) (C : Addr) (us : List Value) (kw : List (Str × Value)) :
  Env0 P w K mg base (A.under (.builtin "type.__call__" ⟨.ref C :: us, kw⟩)) outer s H := ⟨by first | exact e.frames | (simpa [Around.under, Code.envs, Code.isFrame, pushEnvs] using e.frames), e.mod, e.bs, e.bsz, e.funs, e.frf, e.hok, e.bare⟩
section
variable {X : Cx} {pins : List (Addr × Obj)} {σ : St} {H : Hp} {s s' : Shared}
theorem Inv.env0 (I : Inv X pins σ H s) : Env0 X.prog X.w X.K X.mg X.base X.A X.stack s H :=
 ⟨I.ok.frames, I.ok.mod, I.bs, Nat.le_trans I.ok.bsz I.sz, I.stack, I.stkFree, I.hok, I.bare⟩
theorem Inv.after {Q : VK} {u : Value} (I : Inv X pins σ H s) (h : CE X.stack X.prog X.w H s Q u s') : EP X pins σ Q u s' := by
 obtain ⟨v, H', os, bare, un, hok, r, q⟩ := h
 obtain ⟨hh, g, d, t, os'⟩ := s'
 obtain rfl : os' = s.os := os
 exact ⟨v, H', I.call (h' := hh) (g' := g) (d' := d) (t' := t) (ch := []) un hok bare (fun b z => absurd z (by simp)), r, q⟩
end
def ywU (sp : Sp) (dvs : List V) (E : XK) (t : TA) : TE := fun σ H Q => t σ H fun vs H1 => sp (vs ++ dvs) H1 Q E
def yzH (C : Addr) (m : Str) (sp : Sp) (dvs : List V) (E : XK) (ta : TE) (t : TA) : TE := fun σ H Q => ta σ H fun x H1 => ∃ a dx fs, x = .ref a /\ H1 a = some (.ins C dx fs) /\ fs.lookup m = none /\
 t σ H1 fun vs H2 => sp (x :: (vs ++ dvs)) H2 Q E
def yzI (C : Addr) (sp : Sp) (dvs : List V) (E : XK) (t : TA) : TE := fun σ H Q => t σ H fun vs H1 => ∀ x dx, H1 x = none -> H1 dx = none -> dx ≠ x ->
 sp (.ref x :: (vs ++ dvs)) (upd (upd H1 dx (.own x)) x (.ins C dx [])) (fun v H2 => v = .non /\ Q (.ref x) H2) E
def Binds (K : PySem.W.Frag) (fd : FuncData) (ps : List Str) (ds : List Value) : Prop :=
 ∀ (s : Shared) (us : List Value), K.In s.heap -> (us ++ ds).length = ps.length -> BindsTo s fd ⟨us, []⟩ (ps.zip (us ++ ds))
theorem Binds.all {K : PySem.W.Frag} {fd : FuncData} {ps : List Str} (h : ∀ us : List Value, us.length = ps.length -> bindArgs fd ⟨us, []⟩ = pure (ps.zip us)) : Binds K fd ps [] := fun s us _ hl => by
 rw [List.append_nil] at hl ⊢
 exact .of_eq (h us hl)
def yji (CX : CXT) (X : Cx) (E : XK) : Prop := ∀ (pins : List (Addr × Obj)) (σ : St) (H : Hp) (s : Shared) (e : Value) (s' : Shared), Inv X pins σ H s -> CX X.stack H s E e s' -> X.xe e s'
section
variable {X : Cx} {CX : CXT} {k : Nat} {f C : Addr} {fd : FuncData} {ps : List Str} {sp : Sp} {dvs : List V} {ds : List Value} {E : XK} {x m : Str} {p pos apos : Pos} {e o : Expr} {es : List Expr} {ta : TE} {t : TA}
theorem ysC {pins : List (Addr × Obj)} {σ : St} {H : Hp} {s : Shared} {Q : VK} {us : List Value} {vs : List V} (F : FnOk X.prog X.w X.K X.mg X.base CX k f fd ps sp) (hr : Room k X.A) (hb : Binds X.K fd ps ds) (hd : Vals dvs ds) (hx : yji CX X E)
  (I : Inv X pins σ H s) (r : Vals vs us) (h : sp (vs ++ dvs) H Q E) : wpAny (model X.prog X.w) X.A (call (.ref f) us) (EP X pins σ Q) X.xe s := by
 have r2 : Vals (vs ++ dvs) (us ++ ds) := r.append hd
 have hl : (us ++ ds).length = ps.length := by rw [<- r2.length]; exact F.len _ _ _ _ h
 refine wpAny_call (codeAny_mono (F.run X.A X.stack s H ⟨us, []⟩ (us ++ ds) (vs ++ dvs) Q E hr I.env0 (hb s us I.kIn hl) r2 h) fun r s' hq => ?_)
 cases r with
 | error e => exact hx pins σ H s e s' I hq
 | ok fl =>
  cases fl with
  | ret u => exact I.after hq
  | next => exact False.elim hq
  | brk => exact False.elim hq
  | cont => exact False.elim hq
theorem yzJ (F : FnOk X.prog X.w X.K X.mg X.base CX k f fd ps sp) (hr : Room k X.A) (hg : Gl X x) (hm : X.mg x = some (.ref f)) (hk : PySem.W.keepIn X.K (.ref f) = true) (hb : Binds X.K fd ps ds) (hd : Vals dvs ds) (hx : yji CX X E)
    (ha : PA X (e :: es) t) (hdb : (x == ("__debug__" : Str)) = false := by decide) (he : starEach (e :: es) X.env = (false, eval e X.env) :: starEach es X.env := by rfl) (hpl : (backTo pos (starEach es X.env)).any (·.1) = false := by rfl) :
    PE X (.Call (.Name x p) (e :: es) [] pos) (ywU sp dvs E t) := by
  intro pins s σ H Q I h
  refine wpAny_Call_Name_kw (ynM I hg hm ?_ hdb)
  refine PySem.W.callWith_K (h₀ := X.base) I.ok.mod.kin hk (thn (ha pos pins s σ H _ I h) fun us s1 ⟨vs, H1, I1, r, q⟩ => ⟨I1.kIn, ?_⟩) he hpl
  exact ysC F hr hb hd hx I1 r q
theorem yzK {pl : Sem Bool} (he : PE X o ta) (c : Cls X.K C) (hm : yjh X.K C m f) (F : FnOk X.prog X.w X.K X.mg X.base CX k f fd ps sp) (hr : Room k X.A) (hb : Binds X.K fd ps ds) (hd : Vals dvs ds) (hx : yji CX X E) (ha : PA X (e :: es) t)
    (hst : starEach (e :: es) X.env = (false, eval e X.env) :: starEach es X.env := by rfl) (hpl : (backTo pos (starEach es X.env)).any (·.1) = false := by rfl)
    (ht : eval (.Call (.Attribute o m apos) (e :: es) [] pos) X.env = (do
      let ov <- eval o X.env
      standAt apos.atName
      let (f, first) <- holding [ov] (getMethod ov m pl)
      callWith pos f first (backTo pos (starEach (e :: es) X.env)) (backToKw pos (keywordEach [] X.env))) := by rfl) :
    PE X (.Call (.Attribute o m apos) (e :: es) [] pos) (yzH C m sp dvs E ta t) := by
  intro pins s σ H Q I h
  refine PySem.W.methodCall_KW (pl := pl) (thn (he pins s σ H _ I h) fun u s1 ⟨x, H1, I1, rx, a, dx, fs, ex, ea, l, q⟩ => ?_) ht
  subst ex
  obtain rfl : u = Value.ref a := rx
  refine ynt I1 ea c hm l ?_
  refine PySem.W.callWith_K (first := [.ref a]) (h₀ := X.base) I.ok.mod.kin hm.kp (thn (ha pos pins s1 σ H1 _ I1 q) fun us s2 ⟨vs, H2, I2, r, q2⟩ => ⟨I2.kIn, ?_⟩) hst hpl
  exact ysC (us := .ref a :: us) (vs := .ref a :: vs) F hr hb hd hx I2 (.cons rfl r) q2
theorem ywV {pl : Sem Bool} (he : PE X o ta) (c : Cls X.K C) (hm : yjh X.K C m f) (F : FnOk X.prog X.w X.K X.mg X.base CX k f fd ps sp) (hr : Room k X.A) (hb : Binds X.K fd ps ds) (hd : Vals dvs ds) (hx : yji CX X E)
  (ht : eval (.Call (.Attribute o m apos) [] [] pos) X.env = (do
   let ov <- eval o X.env
   standAt apos.atName
   let (f, first) <- holding [ov] (getMethod ov m pl)
   callWith pos f first (backTo pos (starEach [] X.env)) (backToKw pos (keywordEach [] X.env))) := by rfl) :
  PE X (.Call (.Attribute o m apos) [] [] pos) (yzH C m sp dvs E ta yzG) := by
 intro pins s σ H Q I h
 refine PySem.W.methodCall_KW (pl := pl) (thn (he pins s σ H _ I h) fun u s1 ⟨x, H1, I1, rx, a, dx, fs, ex, ea, l, q⟩ => ?_) ht
 subst ex
 obtain rfl : u = Value.ref a := rx
 refine ynt I1 ea c hm l ?_
 exact PySem.W.callWith_K0 (first := [.ref a]) I1.kIn hm.kp (ysC (us := [.ref a]) (vs := [.ref a]) F hr hb hd hx I1 (.cons rfl .nil) q)
structure Mk (K : PySem.W.Frag) (C f : Addr) : Prop where
 makes : PySem.W.makesIn K C = true
 init : PySem.W.findIn K (.ref C) "__init__" = some (some (.ref f))
 fn : PySem.W.isFn K (.ref f) = true
 kp : PySem.W.keepIn K (.ref C) = true
theorem ysD {pins : List (Addr × Obj)} {σ : St} {H : Hp} {s : Shared} {Q : VK} {us : List Value} {vs : List V} (M : Mk X.K C f) (F : FnOk X.prog X.w X.K X.mg X.base CX k f fd ps sp) (hr : Room (k + 1) X.A) (hb : Binds X.K fd ps ds) (hd : Vals dvs ds)
  (hx : yji CX X E) (I : Inv X pins σ H s) (r : Vals vs us)
  (h : ∀ x dx, H x = none -> H dx = none -> dx ≠ x -> sp (.ref x :: (vs ++ dvs)) (upd (upd H dx (.own x)) x (.ins C dx [])) (fun v H2 => v = .non /\ Q (.ref x) H2) E) :
  wpAny (model X.prog X.w) X.A (call (.ref C) us) (EP X pins σ Q) X.xe s := by
 have hq := h (s.heap.objs.size + 1) s.heap.objs.size (I.hok.fresh (Nat.le_succ _)) (I.hok.fresh (Nat.le_refl _)) (Nat.ne_of_lt (Nat.lt_succ_self _))
 have I2 := Inv.made (C := C) I
 have r2 : Vals (V.ref (s.heap.objs.size + 1) :: (vs ++ dvs)) (Value.ref (s.heap.objs.size + 1) :: (us ++ ds)) := .cons rfl (r.append hd)
 have hl : (Value.ref (s.heap.objs.size + 1) :: us ++ ds).length = ps.length := by
  have e := r2.length
  rw [F.len _ _ _ _ hq] at e
  exact e.symm
 refine wpAny_call (ywT (f := f) I.kIn M.makes M.init (beq_iff_eq.mp M.fn) (codeAny_mono (F.run _ X.stack _ _ ⟨Value.ref (s.heap.objs.size + 1) :: us, []⟩ (Value.ref (s.heap.objs.size + 1) :: (us ++ ds)) _ _ E (hr.make C us [])
  (I2.env0.make C us []) (hb _ (Value.ref (s.heap.objs.size + 1) :: us) I2.kIn hl) r2 hq) fun r s' hq' => ?_))
 cases r with
 | error e => exact hx pins σ _ _ e s' I2 hq'
 | ok fl =>
  cases fl with
  | ret u =>
   obtain ⟨v, H', I3, rv, ev, q3⟩ := I2.after hq'
   subst ev
   exact ⟨rv, ⟨V.ref (s.heap.objs.size + 1), H', I3, rfl, q3⟩⟩
  | next => exact False.elim hq'
  | brk => exact False.elim hq'
  | cont => exact False.elim hq'
theorem yzL (M : Mk X.K C f) (F : FnOk X.prog X.w X.K X.mg X.base CX k f fd ps sp) (hr : Room (k + 1) X.A) (hg : Gl X x) (hm : X.mg x = some (.ref C)) (hb : Binds X.K fd ps ds) (hd : Vals dvs ds) (hx : yji CX X E)
    (ha : PA X (e :: es) t) (hdb : (x == ("__debug__" : Str)) = false := by decide) (he : starEach (e :: es) X.env = (false, eval e X.env) :: starEach es X.env := by rfl) (hpl : (backTo pos (starEach es X.env)).any (·.1) = false := by rfl) :
    PE X (.Call (.Name x p) (e :: es) [] pos) (yzI C sp dvs E t) := by
  intro pins s σ H Q I h
  refine wpAny_Call_Name_kw (ynM I hg hm ?_ hdb)
  refine PySem.W.callWith_K (h₀ := X.base) I.ok.mod.kin M.kp (thn (ha pos pins s σ H _ I h) fun us s1 ⟨vs, H1, I1, r, q⟩ => ⟨I1.kIn, ?_⟩) he hpl
  exact ysD M F hr hb hd hx I1 r q
theorem ywW (M : Mk X.K C f) (F : FnOk X.prog X.w X.K X.mg X.base CX k f fd ps sp) (hr : Room (k + 1) X.A) (hg : Gl X x) (hm : X.mg x = some (.ref C)) (hb : Binds X.K fd ps ds) (hd : Vals dvs ds) (hx : yji CX X E)
  (hdb : (x == ("__debug__" : Str)) = false := by decide) : PE X (.Call (.Name x p) [] [] pos) (yzI C sp dvs E yzG) := by
 intro pins s σ H Q I h
 refine wpAny_Call_Name_kw (ynM I hg hm ?_ hdb)
 exact PySem.W.callWith_K0 I.kIn M.kp (ysD (us := []) M F hr hb hd hx I .nil h)
end
section
variable {X : Cx} {CX : CXT} {k : Nat} {f C : Addr} {fd : FuncData} {ps ks : List Str} {sp : Sp} {E : XK} {x m : Str} {p pos apos kpos : Pos} {e o : Expr} {es : List Expr} {kws : List Keyword} {te ta : TE} {t tk : TA} {nm : Option Str}
variable {g : List Value -> List Value -> List Value} {gV : List V -> List V -> List V}
end
structure yo (N P : List Str) (sc : Scope) : Prop where
 kind : sc.kind = .function
 co : sc.isCoroutine = false
 gen : sc.isGenerator = false
 nd : N.Nodup
 pre : N.take P.length = P
 par : ∀ x ∈ P, sc.names.lookup x = some .local \/ sc.names.lookup x = some .cell
 nofree : ∀ y ∈ sc.names, y.2 ≠ .free
theorem ypJ {kindOf : Str -> Option NameKind} {x : Str} : ∀ {binds : List (Str × Value)} {m : Str -> Option Value}, (∀ v, (x, v) ∉ binds) -> bindL kindOf binds m x = m x
  | [], _, _ => rfl
  | (n, v) :: r, m, h => by
    unfold bindL
    rw [ypJ fun w hw => h w (List.mem_cons_of_mem _ hw)]
    split
    . have : x ≠ n := by rintro rfl; exact h v List.mem_cons_self
      simp [this]
    . rfl
theorem ypK {kindOf : Str -> Option NameKind} {x : Str} : ∀ {binds : List (Str × Value)} {m : Str -> Option Value}, (∀ v, (x, v) ∉ binds) -> bindC kindOf binds m x = m x
  | [], _, _ => rfl
  | (n, v) :: r, m, h => by
    unfold bindC
    rw [ypK fun w hw => h w (List.mem_cons_of_mem _ hw)]
    split
    . rfl
    . have : x ≠ n := by rintro rfl; exact h v List.mem_cons_self
      simp [this]
theorem ypL {kindOf : Str -> Option NameKind} {x : Str} {v : Value} : ∀ {P : List Str} {vs : List Value} {i : Nat} {m : Str -> Option Value}, P.Nodup -> P[i]? = some x -> vs[i]? = some v -> kindOf x = some .local ->
  bindL kindOf (P.zip vs) m x = some v
 | [], _, _, _, _, h, _, _ => by simp at h
 | _ :: _, [], _, _, _, _, h, _ => by simp at h
 | p :: P, w :: vs, 0, m, nd, h1, h2, hk => by
  simp at h1 h2; subst h1; subst h2
  show bindL kindOf ((p, w) :: P.zip vs) m p = _
  unfold bindL
  rw [ypJ fun v hv => (List.nodup_cons.mp nd).1 (List.of_mem_zip hv).1, if_pos hk]
  simp
 | p :: P, w :: vs, i + 1, m, nd, h1, h2, hk => by
  show bindL kindOf ((p, w) :: P.zip vs) m x = _
  unfold bindL
  exact ypL (i := i) (List.nodup_cons.mp nd).2 (by simpa using h1) (by simpa using h2) hk
theorem ypM {kindOf : Str -> Option NameKind} {x : Str} {v : Value} : ∀ {P : List Str} {vs : List Value} {i : Nat} {m : Str -> Option Value}, P.Nodup -> P[i]? = some x -> vs[i]? = some v -> kindOf x ≠ some .local ->
  bindC kindOf (P.zip vs) m x = some v
 | [], _, _, _, _, h, _, _ => by simp at h
 | _ :: _, [], _, _, _, _, h, _ => by simp at h
 | p :: P, w :: vs, 0, m, nd, h1, h2, hk => by
  simp at h1 h2; subst h1; subst h2
  show bindC kindOf ((p, w) :: P.zip vs) m p = _
  unfold bindC
  rw [ypK fun v hv => (List.nodup_cons.mp nd).1 (List.of_mem_zip hv).1, if_neg hk]
  simp
 | p :: P, w :: vs, i + 1, m, nd, h1, h2, hk => by
  show bindC kindOf ((p, w) :: P.zip vs) m x = _
  unfold bindC
  exact ypM (i := i) (List.nodup_cons.mp nd).2 (by simpa using h1) (by simpa using h2) hk
def start (N : List Str) (vs : List V) : St := vs.map some ++ List.replicate (N.length - vs.length) none
def ywX (CX : CXT) (P : Program) (w : World) (K : PySem.W.Frag) (mg : Str -> Option Value) (base : Heap) (N : List Str) (qual : Str) (scope : Scope) (f : Addr) (cd : Value) (A : Around) (outer : List Env) (s : Shared) (H : Hp) (E : XK) : Cx where
 prog := P
 w := w
 K := K
 mg := mg
 base := base
 A := A.deeper (envOfC qual scope s.heap.objs.size f cd)
 N := N
 s₀ := s
 H₀ := H
 env := envOfC qual scope s.heap.objs.size f cd
 outer := outer
 stack := envOfC qual scope s.heap.objs.size f cd :: outer
 ex := []
 calm := true
 fn := fun _ => true
 pn := []
 xe := fun e s' => wpAny (model P w) (A.deeper (envOfC qual scope s.heap.objs.size f cd)) (leaving (envOfC qual scope s.heap.objs.size f cd) e) (fun _ s'' => CX outer H s E e s'') (fun e' s'' => CX outer H s E e' s'') s'
theorem ysE {sc : Scope} {n : Nat} {x : Str} (h : sc.names.lookup x = some .cell) : ∃ c, (cellsFrom n sc.names []).lookup x = some c := by
 have q := PySem.W.cellsFrom_some sc.names n [] (.inl h)
 exact Option.isSome_iff_exists.mp q
theorem yuN {CX : CXT} {P : Program} {w : World} {K : PySem.W.Frag} {mg : Str -> Option Value} {base : Heap} {N ps : List Str} {qual : Str} {scope : Scope} {f : Addr} {cd : Value} {A : Around} {outer : List Env} {s s1 : Shared} {H : Hp} {E : XK} {us : List Value} {vs : List V}
    (S : yo N ps scope) (hd : A.handled = none) (e0 : Env0 P w K mg base A outer s H) (hl : vs.length = ps.length) (r : Vals vs us)
    (x : InCallC s s.heap.objs.size (bindL (envOfC qual scope s.heap.objs.size f cd).kindOf (ps.zip us) fun _ => none) (cellsFrom (s.heap.objs.size + 1) scope.names []) (bindC (envOfC qual scope s.heap.objs.size f cd).kindOf (ps.zip us) fun _ => none) s1) :
    Inv (ywX CX P w K mg base N qual scope f cd A outer s H E) [] (start N vs) H s1 := by
  have hpl : ps.length <= N.length := by have := congrArg List.length S.pre; rw [List.length_take] at this; omega
  obtain ⟨h1, tk, rfl, hk⟩ := x.done
  have noA : ∀ b : Addr, b ∉ (ywX CX P w K mg base N qual scope f cd A outer s H E).ex := fun b z => absurd (show b ∈ ([] : List Addr) from z) (by simp)
  refine ⟨⟨e0.mod, S.kind, rfl, rfl, Nat.le_refl _, fun y z c h1 h2 => ?_, fun y hy => ?_, fun y c _ h => ?_, fun _ => hd, Around.frames_deeper e0.frames, .inr ⟨rfl, rfl⟩, fun b z => absurd z (noA b), e0.bs, e0.bsz, fun b _ _ => noA b, fun b z => absurd z (noA b), e0.funs, e0.frf⟩,
    rfl, e0.bare, Un.kept hk, ⟨_, x.toInCall.ns, fun i y v h1 h2 h3 => ?_⟩, fun y c h => ⟨_, x.cell y c h⟩, e0.hok.fresh (Nat.le_refl _), fun y c h => ?_, fun p hp => absurd (show p ∈ ([] : List (Addr × Obj)) from hp) (by simp), e0.hok.kept hk, ?_⟩
  . exact name_of_addr x.apart (PySem.mem_of_lookup h1) (PySem.mem_of_lookup h2)
  . have hy : scope.names.lookup y = some .cell \/ scope.names.lookup y = some .free := hy
    rcases hy with hy | hy
    . exact ysE hy
    . exact absurd rfl (S.nofree _ (PySem.mem_of_lookup hy))
  . exact Nat.le_of_lt (x.above y c (PySem.mem_of_lookup h))
  . have hi : i < vs.length := by
      unfold start at h2
      by_cases hi : i < vs.length
      . exact hi
      . rw [List.getElem?_append_right (by simpa using hi)] at h2
        rw [List.getElem?_replicate] at h2
        split at h2 <;> cases h2
    have ha : vs[i]? = some v := by
      unfold start at h2
      rw [List.getElem?_append_left (by simpa using hi), List.getElem?_map] at h2
      cases e : vs[i]? with
      | none => rw [e] at h2; cases h2
      | some a => rw [e] at h2; cases h2; rfl
    obtain ⟨u, hu, rv⟩ := r.get ha
    have hp : ps[i]? = some y := by
      rw [<- S.pre, List.getElem?_take_of_lt (by omega)]; exact h1
    have ndP : ps.Nodup := by rw [<- S.pre]; exact S.nd.sublist (List.take_sublist _ _)
    refine ⟨u, rv, ?_⟩
    rcases S.par y (List.mem_of_getElem? hp) with k | k
    . exact .inl ⟨k, ypL ndP hp hu k⟩
    . obtain ⟨c, e⟩ := ysE (n := s.heap.objs.size + 1) k
      refine .inr ⟨.inl k, c, e, ?_⟩
      have q := x.cell y c e
      rw [ypM ndP hp hu (by show scope.names.lookup y ≠ _; rw [k]; decide)] at q
      exact q
  . exact e0.hok.fresh (Nat.le_of_lt (x.above y c (PySem.mem_of_lookup h)))
  . unfold start
    show _ = N.length
    rw [List.length_append, List.length_map, List.length_replicate]
    omega
theorem yEJ {CX : CXT} {P : Program} {w : World} {K : PySem.W.Frag} {mg : Str -> Option Value} {base : Heap} {k : Nat} {f : Addr} {name qual : Str} {params : Arguments} {body : List Stmt} {scope : Scope} {dV kV doc pm cdv ct oc : Value} {an od : Option Addr}
    {osl : Array (Option Value)} {N ps : List Str} {sp : Sp} (lk : K.lookup f = some ⟨oc, od, .func (PySem.W.fnOf name qual params body scope dV kV doc pm an cdv ct), osl⟩) (hcd : PySem.W.codeIn K cdv qual = true) (S : yo N ps scope)
    (len : ∀ vs H Q E, sp vs H Q E -> vs.length = ps.length)
    (hbody : ∀ (A : Around) (outer : List Env) (s : Shared) (H : Hp) (vs : List V) (Q : VK) (E : XK), Room k (A.deeper (envOfC qual scope s.heap.objs.size f cdv)) -> sp vs H Q E ->
      ∃ t, PSs (ywX CX P w K mg base N qual scope f cdv A outer s H E) body t /\ t { nx := fun _ H' => Q .non H', rt := Q } (start N vs) H) :
    FnOk P w K mg base CX (k + 1) f (PySem.W.fnOf name qual params body scope dV kV doc pm an cdv ct) ps sp := by
  refine ⟨len, fun A outer s H args us vs Q E hr e0 hb r hsp => ?_⟩
  have hl := len _ _ _ _ hsp
  have KX : K.In s.heap := e0.mod.kin.keeps fun b o e => (e0.bs b o e).1
  have lim : s.heap.NoLimit := e0.mod.nolimit.keeps fun b o e => (e0.bs b o e).1
  have hkind : ∀ y ∈ ps.zip us, scope.names.lookup y.1 = some .local \/ (scope.names.lookup y.1 = some .cell /\ ((cellsFrom (s.heap.objs.size + 1) scope.names []).lookup y.1).isSome = true) := fun ⟨n, v⟩ hy => by
    rcases S.par n (List.of_mem_zip hy).1 with q | q
    . exact .inl q
    . exact .inr ⟨q, PySem.W.cellsFrom_some _ _ _ (.inl q)⟩
  refine codeAny_call_function hr.depth (KX _ _ lk) rfl S.co S.gen rfl (PySem.W.codeRec_of KX hcd) (hb _ _ _ _ ?_)
  refine wpAny_newFunctionEnv_cells S.kind hkind fun env he s1 x => ?_
  subst he
  refine ⟨lim.keeps x.toInCall.keep, codeAny_func ?_⟩
  obtain ⟨t, ht, hq⟩ := hbody A outer s H vs Q E (hr.deeper _) hsp
  have I : Inv (ywX CX P w K mg base N qual scope f cdv A outer s H E) [] (start N vs) H s1 := yuN S hr.hd e0 hl r x
  refine wpAny_mono (ht [] s1 (start N vs) H _ I hq) (fun fl s' hs => ?_) fun e s' hs => hs
  have fin : ∀ {σ' : St} {H' : Hp} {v : V} {u : Value}, Inv (ywX CX P w K mg base N qual scope f cdv A outer s H E) [] σ' H' s' -> RelV v u -> Q v H' -> CE outer P w H s Q u s' :=
    fun {σ' H' v u} J rv q => ⟨v, H', J.os, J.bare, J.base, J.hok, rv, q⟩
  cases fl with
  | ret u =>
    obtain ⟨v, σ', H', J, rv, q⟩ := hs
    exact fin J rv q
  | next =>
    obtain ⟨σ', H', J, q⟩ := hs
    exact fin (v := V.non) (u := Value.none) J rfl q
  | brk =>
    obtain ⟨_, _, _, q⟩ := hs
    exact False.elim q
  | cont =>
    obtain ⟨_, _, _, q⟩ := hs
    exact False.elim q
end L2
namespace L2
open PySem PySem.Spec PyProof.Rows
section
variable {X : Cx} {x : Str} {p pos : Pos} {e : Expr} {es : List Expr} {t : TA} {id T : String} {r : List V -> Hp -> VK -> Prop}
def tCB (r : List V -> Hp -> VK -> Prop) (t : TA) : TE := fun σ H Q => t σ H fun vs H1 => r vs H1 Q
theorem ynP (hc : yjf X (.builtin id) r) (hg : Gl X x) (hm : X.mg x = none) (hv : bootBuiltins x = some (.builtin id)) (ha : PA X (e :: es) t) (hn : x ≠ "__name__" := by decide) (hdb : (x == ("__debug__" : Str)) = false := by decide)
    (he : starEach (e :: es) X.env = (false, eval e X.env) :: starEach es X.env := by rfl) (hpl : (backTo pos (starEach es X.env)).any (·.1) = false := by rfl) : PE X (.Call (.Name x p) (e :: es) [] pos) (tCB r t) := by
  intro pins s σ H Q I h
  refine wpAny_Call_Name_kw (ynp I hg hm hv ?_ hn hdb)
  exact PyProof.Rows.callWith_builtin1 (thn (ha pos pins s σ H _ I h) fun us s1 ⟨vs, H1, I1, r1, q1⟩ => hc pins s1 σ H1 vs us Q I1 r1 q1) he hpl
theorem ypN (hc : yjf X (.type T) r) (hg : Gl X x) (hm : X.mg x = none) (hv : bootBuiltins x = some (.type T)) (ha : PA X (e :: es) t) (hn : x ≠ "__name__" := by decide) (hdb : (x == ("__debug__" : Str)) = false := by decide)
    (he : starEach (e :: es) X.env = (false, eval e X.env) :: starEach es X.env := by rfl) (hpl : (backTo pos (starEach es X.env)).any (·.1) = false := by rfl) : PE X (.Call (.Name x p) (e :: es) [] pos) (tCB r t) := by
  intro pins s σ H Q I h
  refine wpAny_Call_Name_kw (ynp I hg hm hv ?_ hn hdb)
  exact PyProof.Rows.callWith_type1 (thn (ha pos pins s σ H _ I h) fun us s1 ⟨vs, H1, I1, r1, q1⟩ => hc pins s1 σ H1 vs us Q I1 r1 q1) he hpl
end
end L2
namespace HT
open PySem PyProof.Rows
section
open PySem.SeqAt
open PySem.AutoSeq1 (wpAny_loadPart')
open PySem.MeetsSeq PySem.MeetsSeq2 PySem.MeetsSeq3
end
section
variable {prog : Program} {w : World} {A : Around} {E : Value -> Shared -> Prop} {s : Shared}
def sIx (n d : Nat) : Option Int -> Nat
 | none => d
 | some v => if v < 0 then (v + (n : Int)).toNat else min v.toNat n
theorem sIx_nat (n d k : Nat) : sIx n d (some (k : Int)) = min k n := by
 show (if (k : Int) < 0 then ((k : Int) + (n : Int)).toNat else min (k : Int).toNat n) = min k n
 rw [if_neg (by omega), Int.toNat_natCast]
end
end HT
namespace L2
open PySem PySem.Spec PyProof.Rows
abbrev TO := St -> Hp -> (Option Int -> Hp -> Prop) -> Prop
def PO (X : Cx) (e : Option Expr) (t : TO) : Prop :=
 ∀ (pins : List (Addr × Obj)) (s : Shared) (σ : St) (H : Hp) (Q : Option Int -> Hp -> Prop), Inv X pins σ H s -> t σ H Q ->
  wpAny (model X.prog X.w) X.A (evalPart e X.env) (fun u s' => ∃ o H', Inv X pins σ H' s' /\ IsPart u o /\ Q o H') X.xe s
def yuO : TO := fun _ H Q => Q none H
def yCn (t : TE) : TO := fun σ H Q => t σ H fun x H1 => ∃ i, x = .int i /\ Q (some i) H1
theorem intsAre_of {ns : List Int} : ∀ {us : List Value}, Vals (ns.map V.int) us -> IntsAre us ns := by
 induction ns with
 | nil => intro us r; rw [List.map_nil] at r; cases r; exact .nil
 | cons n ns ih =>
  intro us r
  rw [List.map_cons] at r
  cases r with
  | cons r1 r2 =>
   obtain ⟨t, e⟩ := r1
   subst e
   exact .cons n t (ih r2)
section
variable {X : Cx} {e : Expr} {te : TE} {lo hi : Option Expr} {tl th : TO} {pos p2 : Pos}
theorem yzM : PO X none yuO := by
 intro pins s σ H Q I h
 rw [evalPart_none]
 exact wpAny_pure ⟨none, H, I, .none, h⟩
theorem yzN (h : PE X e te) : PO X (some e) (yCn te) := by
 intro pins s σ H Q I hw
 rw [evalPart_some]
 refine thn (h pins s σ H _ I hw) fun u s1 ⟨x, H1, I1, r1, q1⟩ => ?_
 obtain ⟨i, rfl, q⟩ := q1
 obtain ⟨t, rfl⟩ := r1
 exact ⟨some i, H1, I1, .int i t, q⟩
def SlR (X : Cx) (r : V -> Option Int -> Option Int -> Hp -> VK -> Prop) : Prop :=
 ∀ (pins : List (Addr × Obj)) (s : Shared) (σ : St) (H : Hp) (x : V) (v vl vu : Value) (lo hi : Option Int) (sl : Addr) (Q : VK), Inv X pins σ H s -> RelV x v -> s.heap.IsSliceOf sl vl vu .none -> IsPart vl lo -> IsPart vu hi -> r x lo hi H Q ->
  ∃ T id, typeLookup (.type T) "__getitem__" = pure (some (.builtin id)) /\ s.TypeIs v T /\ wpAny (model X.prog X.w) X.A (getItem v (.ref sl)) (EP X pins σ Q) X.xe s
def tSl (r : V -> Option Int -> Option Int -> Hp -> VK -> Prop) (te : TE) (tl th : TO) : TE := fun σ H Q => te σ H fun x H1 => tl σ H1 fun l H2 => th σ H2 fun u H3 => r x l u H3 Q
theorem ysF {r : V -> Option Int -> Option Int -> Hp -> VK -> Prop} (hr : SlR X r) (he : PE X e te) (hl : PO X lo tl) (hu : PO X hi th) : PE X (.Subscript e (.Slice lo hi none p2) pos) (tSl r te tl th) := by
 intro pins s σ H Q I h
 refine Subscript_ (thn (he pins s σ H _ I h) fun v s1 ⟨x, H1, I1, r1, q1⟩ => ?_)
 refine wpAny_Slice (thn (hl pins s1 σ H1 _ I1 q1) fun vl s2 ⟨l, H2, I2, pl, q2⟩ => thn (hu pins s2 σ H2 _ I2 q2) fun vu s3 ⟨u, H3, I3, pu, q3⟩ => ?_)
 rw [evalPart_none]
 refine wpAny_pure ?_
 have I4 : Inv X pins σ H3 { s3 with heap := s3.heap.push { cls := .type "slice", data := .fields #[vl, vu, .none] } } := I3.kept (t' := s3.toks) fun b ob q => Heap.get?_push_of_some _ q
 obtain ⟨T, id, hT, ht, hg⟩ := hr pins { s3 with heap := s3.heap.push { cls := .type "slice", data := .fields #[vl, vu, .none] } } σ H3 x v vl vu l u s3.heap.objs.size Q I4 r1 (Heap.IsSliceOf.new ..) pl pu q3
 show wpAny (model X.prog X.w) X.A (subscriptTail e (.Slice lo hi none p2) v (.ref s3.heap.objs.size)) (EP X pins σ Q) X.xe { s3 with heap := s3.heap.push { cls := .type "slice", data := .fields #[vl, vu, .none] } }
 exact tail_any (ops := [.ref s3.heap.objs.size, v]) ht hT hg (by with_unfolding_all rfl)
def yCo (xs : List V) (lo hi : Option Int) : List V := (xs.drop (HT.sIx xs.length 0 lo)).take (HT.sIx xs.length xs.length hi - HT.sIx xs.length 0 lo)
theorem yro (xs : List V) (lo hi : Option Int) : (yCo xs lo hi).length <= xs.length := by
 unfold yCo
 rw [List.length_take, List.length_drop]
 omega
end
end L2
namespace L2
open PySem PySem.Spec PyProof.Rows
def ixN (n : Nat) (i : Int) : Option Nat := if 0 <= i then (if i < n then some i.toNat else none) else if -(n : Int) <= i then some (i + n).toNat else none
def atI {α : Type} (xs : List α) (i : Int) : Option α := (ixN xs.length i).bind fun j => xs[j]?
theorem yuP {n : Nat} {i : Int} {j : Nat} (h : ixN n i = some j) : seqIndex? i n = some j /\ j < n /\ -(n : Int) <= i /\ i < n := by
  unfold ixN at h
  by_cases h0 : 0 <= i
  . rw [if_pos h0] at h
    by_cases h1 : i < n
    . rw [if_pos h1] at h
      have e : i.toNat = j := Option.some.inj h
      exact ⟨by rw [seqIndex_of h0 h1, e], by omega, by omega, h1⟩
    . rw [if_neg h1] at h; cases h
  . rw [if_neg h0] at h
    by_cases h1 : -(n : Int) <= i
    . rw [if_pos h1] at h
      have e : (i + n).toNat = j := Option.some.inj h
      exact ⟨by rw [seqIndex_neg (by omega) h1, e], by omega, h1, by omega⟩
    . rw [if_neg h1] at h; cases h
theorem yrp {α : Type} {xs : List α} {i : Int} {v : α} (h : atI xs i = some v) : ∃ j, seqIndex? i xs.length = some j /\ xs[j]? = some v /\ j < xs.length /\ -(xs.length : Int) <= i /\ i < xs.length := by
 unfold atI at h
 cases e : ixN xs.length i with
 | none => rw [e] at h; cases h
 | some j =>
  rw [e] at h
  obtain ⟨h1, h2, h3, h4⟩ := yuP e
  exact ⟨j, h1, h, h2, h3, h4⟩
theorem yen {α : Type} {xs : List α} {j : Nat} {v : α} (h : xs[j]? = some v) : atI xs (j : Int) = some v := by
 have hj : j < xs.length := (List.getElem?_eq_some_iff.mp h).1
 have e : ixN xs.length (j : Int) = some j := by
  unfold ixN
  rw [if_pos (by omega), if_pos (by omega)]; simp
 unfold atI; rw [e]; exact h
def yuQ (b : Expr) : Prop := ∀ o i, subscripted b false o i = operate [o, i] (getItem o i)
def IxR (X : Cx) (r : R2) : Prop :=
 ∀ (value slice : Expr) (pins : List (Addr × Obj)) (s : Shared) (σ : St) (H : Hp) (x y : V) (v u : Value) (Q : VK), Inv X pins σ H s -> RelV x v -> RelV y u -> r x y H Q ->
  subscripted slice false v u = operate [v, u] (getItem v u) -> wpAny (model X.prog X.w) X.A (subscriptTail value slice v u) (EP X pins σ Q) X.xe s
def MtR (X : Cx) (id : String) (r : V -> List V -> Hp -> VK -> Prop) : Prop :=
 ∀ (pins : List (Addr × Obj)) (s : Shared) (σ : St) (H : Hp) (x : V) (xs : List V) (v : Value) (us : List Value) (Q : VK), Inv X pins σ H s -> RelV x v -> Vals xs us -> r x xs H Q ->
  wpAny (model X.prog X.w) X.A (call (.builtin id) (v :: us)) (EP X pins σ Q) X.xe s
section
variable {X : Cx} {a b : Expr} {ta tb : TE} {pos : Pos}
theorem IxR.or {r r' : R2} (h : IxR X r) (h' : IxR X r') : IxR X (fun x y H Q => r x y H Q \/ r' x y H Q) := by
  intro value slice pins s σ H x y v u Q I rx ry q hs
  rcases q with q | q
  . exact h value slice pins s σ H x y v u Q I rx ry q hs
  . exact h' value slice pins s σ H x y v u Q I rx ry q hs
theorem yEK {r : R2} (hr : IxR X r) (ha : PE X a ta) (hb : PE X b tb) (hs : yuQ b) : PE X (.Subscript a b pos) (tOp r ta tb) := by
 intro pins s σ H Q I h
 exact Subscript_ (yEF ha hb I h fun v u s2 x y H2 I2 rx ry q => hr a b pins s2 σ H2 x y v u Q I2 rx ry q (hs _ _))
def yEL (K : PySem.W.Frag) : R2 := fun x y H Q => ∃ p xs i v, x = .ref p /\ y = .int i /\ SqL K H p xs /\ atI xs i = some v /\ Q v H
def yEM (K : PySem.W.Frag) : R2 := fun x y H Q => ∃ p xs i v, x = .ref p /\ y = .int i /\ SqT K H p xs /\ atI xs i = some v /\ Q v H
def yEN : R2 := fun x y H Q => ∃ z i c, x = .str z /\ y = .int i /\ z.length <= sizeLine /\ atI z.cps.toList i = some c /\ Q (.str ⟨#[c]⟩) H
theorem ix_list : IxR X (yEL X.K) := by
  intro value slice pins s σ H x y v u Q I rx ry h hs
  obtain ⟨p, xs, i, z, rfl, rfl, hq, he, q⟩ := h
  cases rx
  obtain ⟨t, rfl⟩ := ry
  obtain ⟨its, r, pl, hz⟩ := I.list hq
  obtain ⟨j, h1, h2, h3, h4, h5⟩ := yrp he
  obtain ⟨w, ew, rw'⟩ := r.get h2
  have hl := r.length
  have hn := ynr
  have fin : EP X pins σ Q w s := ⟨z, H, I, rw', q⟩
  by_cases h0 : 0 <= i
  . have hj : i.toNat = j := by
      rw [seqIndex_of h0 h5] at h1
      exact Option.some.inj h1
    exact item_listR pl.isList h0 (by omega) (by rw [hj]; simpa using ew) fin hs
  . have hj : (i + (its.toArray.size : Int)).toNat = j := by
      rw [seqIndex_neg (by omega) h4] at h1
      rw [List.size_toArray, <- hl]
      exact Option.some.inj h1
    exact subscriptTail_builtinR (x := w) pl.isList.typeIs slot_list_getitem.lookup
      (wpAny_getItem_list_neg (Q := fun r s' => r = w /\ EP X pins σ Q r s') pl.isList (by omega) (by rw [List.size_toArray] <;> omega) (by omega) (by rw [hj]; simpa using ew) ⟨rfl, fin⟩) hs
theorem ix_tup : IxR X (yEM X.K) := by
 intro value slice pins s σ H x y v u Q I rx ry h hs
 obtain ⟨p, xs, i, z, rfl, rfl, hq, he, q⟩ := h
 cases rx
 obtain ⟨t, rfl⟩ := ry
 obtain ⟨its, r, pl, hz⟩ := I.tuple hq
 obtain ⟨j, h1, h2, h3, h4, h5⟩ := yrp he
 obtain ⟨w, ew, rw'⟩ := r.get h2
 have hl := r.length
 have hn := ynr
 have fin : EP X pins σ Q w s := ⟨z, H, I, rw', q⟩
 exact subscriptTail_builtinR (x := w) pl.typeIs slot_tuple_getitem.lookup
  (getItem_tuple (j := j) (Q := fun r s' => r = w /\ EP X pins σ Q r s') pl (by omega) (by omega) (by rw [List.size_toArray, <- hl]; exact h1) (by simpa using ew) ⟨rfl, fin⟩) hs
theorem ysG : IxR X yEN := by
 intro value slice pins s σ H x y v u Q I rx ry h hs
 obtain ⟨z, i, c, rfl, rfl, hz, he, q⟩ := h
 obtain ⟨t, rfl⟩ := rx
 obtain ⟨t', rfl⟩ := ry
 obtain ⟨j, h1, h2, h3, h4, h5⟩ := yrp he
 have hl : z.cps.toList.length = z.length := by simp [Str.length]
 rw [hl] at h1 h4 h5
 have hn := ynr
 exact tail_any (typeIs_str s z t) slot_str_getitem.lookup (getItem_str (c := c) (by
  have e1 : decide (i < -(2 ^ 63 : Int)) = false := decide_eq_false (by omega)
  have e2 : decide (i >= 2 ^ 63) = false := decide_eq_false (by omega)
  rw [e1, e2, Bool.or_false]) (by rw [h1]; simpa using h2) ⟨.str ⟨#[c]⟩, H, I.tok _, ⟨_, rfl⟩, q⟩) hs
def rIx (K : PySem.W.Frag) : R2 := fun x y H Q => yEL K x y H Q \/ yEM K x y H Q \/ yEN x y H Q
theorem yyH : IxR X (rIx X.K) := ix_list.or (ix_tup.or ysG)
theorem ytF (its : List Value) (n j : Nat) (u : Value) : Obj.mapSeq (·.setIfInBounds j u) { cls := .type "list", data := .seq its.toArray n } = { cls := .type "list", data := .seq (its.set j u).toArray n } := by
  simp [Obj.mapSeq]
theorem Inv.lst {pins : List (Addr × Obj)} {σ : St} {H : Hp} {s : Shared} {p : Addr} {xs : List V} (I : Inv X pins σ H s) (h : H p = some (.lst xs)) :
  ∃ (its : List Value) (n : Nat), Vals xs its /\ s.heap.get? p = some { cls := .type "list", data := .seq its.toArray n } /\ xs.length <= sizeLine := by
 obtain ⟨z, its, n, r, e⟩ := I.hok p _ h
 exact ⟨its, n, r, e, z⟩
theorem Inv.lstUpd {pins : List (Addr × Obj)} {σ : St} {H : Hp} {s : Shared} {p : Addr} {xs ys : List V} {its its' : List Value} {n n' : Nat} {f : Obj -> Obj} (I : Inv X pins σ H s) (h : H p = some (.lst xs))
  (ho : s.heap.get? p = some { cls := .type "list", data := .seq its.toArray n }) (hf : f { cls := .type "list", data := .seq its.toArray n } = { cls := .type "list", data := .seq its'.toArray n' }) (r : Vals ys its') (hz : ys.length <= sizeLine) (t : Nat) :
  Inv X pins σ (upd H p (.lst ys)) { s with heap := s.heap.update p f, toks := t } := by
 have e : (s.heap.update p f).get? p = some { cls := .type "list", data := .seq its'.toArray n' } := by
  rw [Heap.get?_update_self f ho (by rw [hf] <;> rfl), hf]
 refine I.write (x := p) (e := p) (by rw [h]; trivial) (.inl rfl) (fun b u hb q => (Heap.get?_update_other _ _ (Ne.symm hb)).trans q) ⟨_, e⟩ ?_
 exact ⟨hz, its', n', r, e⟩
def yCp : V -> V -> V -> Hp -> (Hp -> Prop) -> Prop := fun o i v H Q => ∃ p xs k j, o = .ref p /\ i = .int k /\ H p = some (.lst xs) /\ ixN xs.length k = some j /\ Q (upd H p (.lst (xs.set j v)))
theorem set_list : yFD X yCp := by
  intro pins s σ H o i v ov iv u Q I ro ri rv h
  obtain ⟨p, xs, k, j, rfl, rfl, hp, hj, q⟩ := h
  cases ro
  obtain ⟨t, rfl⟩ := ri
  obtain ⟨its, n, r, ho, hz⟩ := I.lst hp
  obtain ⟨h1, h2, h3, h4⟩ := yuP hj
  have hl := r.length
  have hn := ynr
  have I' : Inv X pins σ (upd H p (.lst (xs.set j v))) { s with heap := s.heap.update p (Obj.mapSeq (·.setIfInBounds j u)) } :=
    I.lstUpd hp ho (ytF its n j u) (r.set rv j) (by rw [List.length_set]; exact hz) s.toks
  by_cases h0 : 0 <= k
  . have hk : k.toNat = j := by
      rw [seqIndex_of h0 h4] at h1
      exact Option.some.inj h1
    exact PySem.W.ki_setAt ho h0 (by omega) (by rw [List.size_toArray, <- hl]; exact h4) (by rw [hk]; exact ⟨_, I', q⟩)
  . have hk : (k + (its.toArray.size : Int)).toNat = j := by
      rw [seqIndex_neg (by omega) h3] at h1
      rw [List.size_toArray, <- hl]
      exact Option.some.inj h1
    exact PySem.W.ki_setBack ho (by omega) (by rw [List.size_toArray, <- hl]; exact h3) (by omega) (by rw [hk]; exact ⟨_, I', q⟩)
theorem ypO (lo hi : Option Int) (n : Nat) : (sliceBounds lo hi none n).1 = ((HT.sIx n 0 lo : Nat) : Int) /\ (sliceBounds lo hi none n).2.1 = ((HT.sIx n n hi : Nat) : Int) /\ (sliceBounds lo hi none n).2.2 = 1 := by
  refine ⟨?_, ?_, rfl⟩
  . cases lo with
    | none => simp [sliceBounds, HT.sIx]
    | some i =>
      simp only [sliceBounds, HT.sIx, Option.getD_none, show (1 : Int) > 0 by decide, if_true]
      by_cases h : i < 0
      . simp only [h, if_true] <;> omega
      . simp only [h, if_false] <;> omega
  . cases hi with
    | none => simp [sliceBounds, HT.sIx]
    | some i =>
      simp only [sliceBounds, HT.sIx, Option.getD_none, show (1 : Int) > 0 by decide, if_true]
      by_cases h : i < 0
      . simp only [h, if_true] <;> omega
      . simp only [h, if_false] <;> omega
theorem ynQ (its : List Value) (lo hi : Option Int) : slicePick its.toArray lo hi none = ((its.drop (HT.sIx its.length 0 lo)).take (HT.sIx its.length its.length hi - HT.sIx its.length 0 lo)).toArray := by
 obtain ⟨h1, h2, h3⟩ := ypO lo hi its.toArray.size
 unfold slicePick
 rw [h1, h2, h3]
 simp only [sliceRange_one, pick_run, List.size_toArray] <;> rfl
def yFK (K : PySem.W.Frag) : V -> Option Int -> Option Int -> Hp -> VK -> Prop := fun x lo hi H Q => ∃ a xs, x = .ref a /\ SqL K H a xs /\ ∀ p, H p = none -> Q (.ref p) (upd H p (.lst (yCo xs lo hi)))
theorem yuR : SlR X (yFK X.K) := by
 intro pins s σ H x v vl vu lo hi sl Q I rx hs pl pu h
 obtain ⟨a, xs, rfl, hx, q⟩ := h
 cases rx
 obtain ⟨its, r, ht, hz⟩ := I.list hx
 have hlen := r.length
 refine ⟨"list", _, slot_list_getitem.lookup, ht.isList.typeIs, ?_⟩
 refine wpAny_getItem_list_slice ht.isList hs pl pu .none (by simp) ?_ (by rw [List.size_toArray] <;> omega)
 rw [ynQ, <- hlen]
 refine ⟨.ref s.heap.objs.size, _, I.laid (t' := s.toks) (o := .lst (yCo xs lo hi)) (fun b ob q => Heap.get?_push_of_some _ q) (Nat.le_refl _) ?_, rfl, q _ (I.hok.fresh (Nat.le_refl _))⟩
 exact ⟨Nat.le_trans (yro xs lo hi) hz, _, 0, (r.drop (HT.sIx xs.length 0 lo)).take (HT.sIx xs.length xs.length hi - HT.sIx xs.length 0 lo), Heap.get?_push_size _ rfl⟩
def ytG : V -> Bool
 | .non => true
 | .bl _ => true
 | .int _ => true
 | .str _ => true
 | _ => false
def eqV : V -> V -> Bool
 | .non, .non => true
 | .bl a, .bl b => a == b
 | .bl a, .int b => (if a then 1 else 0) == b
 | .int a, .bl b => a == (if b then 1 else 0)
 | .int a, .int b => a == b
 | .str a, .str b => a == b
 | _, _ => false
theorem eqAt_V {A : Around} {s : Shared} {y x : V} {u v : Value} (ry : RelV y u) (rx : RelV x v) (fy : ytG y = true) (fx : ytG x = true) : SeqAt.EqAt A s u v (eqV y x) := by
 cases y with
 | non =>
  cases ry
  cases x with
  | non => cases rx; exact SeqAt.EqAt.same _
  | bl b => cases rx; exact SeqAt.EqAt.none_bool b
  | int b => obtain ⟨t, rfl⟩ := rx; exact SeqAt.EqAt.none_int b t
  | str b => obtain ⟨t, rfl⟩ := rx; exact SeqAt.EqAt.none_str b t
  | _ => exact absurd (show false = true from fx) Bool.false_ne_true
 | bl a =>
  cases ry
  cases x with
  | non => cases rx; exact SeqAt.EqAt.bool_none a
  | bl b => cases rx; exact SeqAt.EqAt.bool_bool a b
  | int b => obtain ⟨t, rfl⟩ := rx; exact SeqAt.EqAt.bool_int a b t
  | str b => obtain ⟨t, rfl⟩ := rx; exact SeqAt.EqAt.bool_str a b t
  | _ => exact absurd (show false = true from fx) Bool.false_ne_true
 | int a =>
  obtain ⟨t', rfl⟩ := ry
  cases x with
  | non => cases rx; exact SeqAt.EqAt.int_none a t'
  | bl b => cases rx; exact SeqAt.EqAt.int_bool a t' b
  | int b => obtain ⟨t, rfl⟩ := rx; exact SeqAt.EqAt.int_int a t' b t
  | str b => obtain ⟨t, rfl⟩ := rx; exact SeqAt.EqAt.int_str a t' b t
  | _ => exact absurd (show false = true from fx) Bool.false_ne_true
 | str a =>
  obtain ⟨t', rfl⟩ := ry
  cases x with
  | non => cases rx; exact SeqAt.EqAt.str_none a t'
  | bl b => cases rx; exact SeqAt.EqAt.str_bool a t' b
  | int b => obtain ⟨t, rfl⟩ := rx; exact SeqAt.EqAt.str_int a t' b t
  | str b => obtain ⟨t, rfl⟩ := rx; exact SeqAt.EqAt.str_str a t' b t
  | _ => exact absurd (show false = true from fx) Bool.false_ne_true
 | _ => exact absurd (show false = true from fy) Bool.false_ne_true
theorem ybT : yjf X (.builtin "len") (fun xs H Q => ∃ p ys, xs = [.ref p] /\ (SqL X.K H p ys \/ SqT X.K H p ys) /\ Q (.int ys.length) H) := by
  intro pins s σ H xs us Q I r h
  obtain ⟨p, ys, rfl, hq, q⟩ := h
  obtain ⟨u, rfl, rx⟩ := vals1 r
  cases rx
  have hn := ynr
  rcases hq with hq | hq
  . obtain ⟨its, r', pl, hz⟩ := I.list hq
    have hlen := r'.length
    exact Calls.call_len_list pl.isList (by simp only [List.size_toArray] <;> omega) ⟨.int ys.length, H, I.tok _, ⟨s.toks + 1, by rw [List.size_toArray, hlen]⟩, q⟩
  . obtain ⟨its, r', pl, hz⟩ := I.tuple hq
    have hlen := r'.length
    exact len_tuple pl (by simp only [List.size_toArray] <;> omega) ⟨.int ys.length, H, I.tok _, ⟨s.toks + 1, by rw [List.size_toArray, hlen]⟩, q⟩
theorem ypP : yjf X (.builtin "len") (fun xs H Q => ∃ z, xs = [.str z] /\ z.length <= sizeLine /\ Q (.int z.length) H) := by
 intro pins s σ H xs us Q I r h
 obtain ⟨z, rfl, hz, q⟩ := h
 obtain ⟨u, rfl, t, rfl⟩ := vals1 r
 have hn := ynr
 exact len_str (by omega) ⟨.int z.length, H, I.tok _, ⟨_, rfl⟩, q⟩
theorem ycC : yjf X (.type "list") (fun xs H Q => ∃ p ys, xs = [.ref p] /\ (SqL X.K H p ys \/ SqT X.K H p ys) /\ ∀ l, H l = none -> Q (.ref l) (upd H l (.lst ys))) := by
  intro pins s σ H xs us Q I r h
  obtain ⟨p, ys, rfl, hq, q⟩ := h
  obtain ⟨u, rfl, rx⟩ := vals1 r
  cases rx
  have fin : ∀ (its : List Value), Vals ys its -> ys.length <= sizeLine -> ∀ (h' : Heap) (c' : Nat), (∀ b o', s.heap.get? b = some o' -> h'.get? b = some o') ->
      h'.get? s.heap.objs.size = some { cls := .type "list", dict := none, data := .seq its.toArray c', slots := #[] } -> EP X pins σ Q (.ref s.heap.objs.size) { s with heap := h' } := fun its r' hz h' c' kp e =>
    ⟨.ref s.heap.objs.size, _, I.laid (t' := s.toks) kp (Nat.le_refl _) (show ObjOk X.prog X.w _ h' _ (.lst ys) from ⟨hz, its, c', r', e⟩), rfl, q _ (I.hok.fresh (Nat.le_refl _))⟩
  rcases hq with hq | hq
  . obtain ⟨its, r', pl, hz⟩ := I.list hq
    have hlen := r'.length
    obtain ⟨o, ho, hc, n, hd⟩ := pl.isList
    exact call_list_seq p (.inl rfl) ho hc hd (fun h' c' kp e => fin its r' hz h' c' kp e) (by simp only [List.size_toArray] <;> omega)
  . obtain ⟨its, r', pl, hz⟩ := I.tuple hq
    have hlen := r'.length
    obtain ⟨o, ho, hc, n, hd⟩ := pl
    exact call_list_seq p (.inr rfl) ho hc hd (fun h' c' kp e => fin its r' hz h' c' kp e) (by simp only [List.size_toArray] <;> omega)
def tyV (K : PySem.W.Frag) (T : String) (x : V) (H : Hp) : Prop := match x with
 | .str _ => T = "str"
 | .int _ => T = "int"
 | .ref p => (T = "list" /\ ∃ xs, SqL K H p xs) \/ (T = "tuple" /\ ∃ o, K.lookup p = some o /\ o.cls = .type "tuple" /\ o.dict = none) \/
   (T = "dict" /\ ((∃ kvs, H p = some (.dK kvs)) \/ ∃ kvs, H p = some (.dT kvs))) \/ (T = "set" /\ ∃ S n, H p = some (.set S n))
 | _ => False
theorem yyI {pins : List (Addr × Obj)} {σ : St} {H : Hp} {s : Shared} {T : String} {x : V} {v : Value} (I : Inv X pins σ H s) (r : RelV x v) (ty : tyV X.K T x H) :
    s.TypeIs v T /\ ∀ a, v = .ref a -> ∃ ob, s.heap.get? a = some ob /\ ob.dict = none := by
  cases x with
  | str z =>
    obtain ⟨t, rfl⟩ := r
    cases (show T = "str" from ty)
    exact ⟨typeIs_str s z t, fun _ e => nomatch e⟩
  | int i =>
    obtain ⟨t, rfl⟩ := r
    cases (show T = "int" from ty)
    exact ⟨typeIs_int s i t, fun _ e => nomatch e⟩
  | ref p =>
    cases r
    rcases ty with ⟨rfl, xs, hq⟩ | ⟨rfl, o, hk, hc, hd⟩ | ⟨rfl, hk⟩ | ⟨rfl, S, n, hk⟩
    . obtain ⟨its, _, pl, _⟩ := I.list hq
      refine ⟨pl.isList.typeIs, fun a e => ?_⟩
      cases e
      obtain ⟨o, n, e, c, hd, _⟩ := pl
      exact ⟨o, e, hd⟩
    . refine ⟨⟨o, I.kIn p o hk, hc⟩, fun a e => ?_⟩
      cases e
      exact ⟨o, I.kIn _ o hk, hd⟩
    . have z : ∃ o, s.heap.get? p = some o /\ o.ExactDict := by
        rcases hk with ⟨kvs, hk⟩ | ⟨kvs, hk⟩
        . obtain ⟨_, _, _, _, o, _, _, e, ex, _⟩ := I.hok p _ hk
          exact ⟨o, e, ex⟩
        . obtain ⟨_, _, _, _, o, _, _, e, ex, _⟩ := I.hok p _ hk
          exact ⟨o, e, ex⟩
      obtain ⟨o, e, ex⟩ := z
      refine ⟨⟨o, e, ex.1⟩, fun a e2 => ?_⟩
      cases e2
      exact ⟨o, e, ex.2.1⟩
    . obtain ⟨o, _, _, _, e, ex, _⟩ := I.hok p _ hk
      refine ⟨⟨o, e, ex.1⟩, fun a e2 => ?_⟩
      cases e2
      exact ⟨o, e, ex.2.1⟩
  | _ => exact False.elim ty
def yEO (K : PySem.W.Frag) (T : String) (r : V -> List V -> Hp -> VK -> Prop) (to : TE) : TE := fun σ H Q => to σ H fun x H1 => tyV K T x H1 /\ r x [] H1 Q
def tBM (K : PySem.W.Frag) (T : String) (r : V -> List V -> Hp -> VK -> Prop) (to : TE) (t : TA) : TE := fun σ H Q => to σ H fun x H1 => tyV K T x H1 /\ t σ H1 fun xs H2 => r x xs H2 Q
variable {o e : Expr} {es : List Expr} {to : TE} {t : TA} {name : Str} {apos cpos : Pos} {T id : String} {r : V -> List V -> Hp -> VK -> Prop}
theorem yyJ (pa : PlainAttrs T) (slot : Slot T name id) (hty : typeOf (.builtin id) = pure (.type "method_descriptor")) (hm : MtR X id r) (ho : PE X o to)
  (hbase : attributeBase o name X.env (eval o X.env) = eval o X.env := by rfl) (hline : (apos.endLine == cpos.line) = true := by rfl) : PE X (.Call (.Attribute o name apos) [] [] cpos) (yEO X.K T r to) := by
 intro pins s σ H Q I h
 refine wpAny_Call_method0_late hbase hline (thn (ho pins s σ H _ I h) fun v s1 ⟨x, H1, I1, r1, ty, q1⟩ => ?_)
 obtain ⟨h1, h2⟩ := yyI I1 r1 ty
 exact ⟨T, id, pa, slot, hty, h1, h2, Calls.callWith_builtin rfl (PySem.evalArgs_none (hm pins s1 σ H1 x [] v [] Q I1 r1 .nil q1))⟩
theorem yCq (pa : PlainAttrs T) (slot : Slot T name id) (hty : typeOf (.builtin id) = pure (.type "method_descriptor")) (hm : MtR X id r) (ho : PE X o to) (ha : PA X (e :: es) t)
    (hbase : attributeBase o name X.env (eval o X.env) = eval o X.env := by rfl)
    (hfew : ((backTo cpos (starEach (e :: es) X.env)).all (fun x => !x.1) && (backToKw cpos (keywordEach [] X.env)).all (fun x => x.1.isSome)
      && decide ((e :: es).length + ([] : List Keyword).length + (if ([] : List Keyword).isEmpty then 0 else 1) < 30)) = true := by rfl)
    (hline : (apos.endLine == cpos.line) = true := by rfl) (hs : starEach (e :: es) X.env = (false, eval e X.env) :: starEach es X.env := by rfl) (hplain : (backTo cpos (starEach es X.env)).any (·.1) = false := by rfl) :
    PE X (.Call (.Attribute o name apos) (e :: es) [] cpos) (tBM X.K T r to t) := by
  intro pins s σ H Q I h
  refine wpAny_Call_method_late hbase hfew hline rfl (thn (ho pins s σ H _ I h) fun v s1 ⟨x, H1, I1, r1, ty, q1⟩ => ?_)
  obtain ⟨h1, h2⟩ := yyI I1 r1 ty
  refine ⟨T, id, pa, slot, hty, h1, h2, ?_⟩
  have hA := ha cpos pins s1 σ H1 _ I1 q1
  rw [hs] at hA ⊢
  refine Calls.callWith_builtin (by show (false || (backTo cpos (starEach es X.env)).any (·.1)) = false; rw [hplain] <;> rfl) (Calls.evalArgs_plain ?_)
  exact thn hA fun us s2 ⟨vs, H2, I2, r2, q2⟩ => hm pins s2 σ H2 x vs v us Q I2 r1 r2 q2
/- xs.append(e), list.index on a module's tuple .. are MtR facts of 06m -/
end
end L2
namespace L2
open PySem PySem.Spec PyProof.Rows
def MtM (X : Cx) (id : String) (r : V -> List V -> Hp -> VK -> Prop) : Prop :=
 ∀ (pins : List (Addr × Obj)) (s : Shared) (σ : St) (H : Hp) (x : V) (xs : List V) (v : Value) (us : List Value) (Q : VK), Inv X pins σ H s -> RelV x v -> Vals xs us -> r x xs H Q ->
  wpAny (model X.prog X.w) X.A (call (.builtin id) (v :: us)) (EP X pins σ Q) X.xe s
theorem Vals.one : ∀ {x : V} {us : List Value}, Vals [x] us -> ∃ u, us = [u] /\ RelV x u
 | _, _, .cons r .nil => ⟨_, rfl, r⟩
theorem Vals.zero : ∀ {us : List Value}, Vals [] us -> us = []
 | _, .nil => rfl
theorem Vals.dropLast {xs : List V} {us : List Value} (h : Vals xs us) : Vals xs.dropLast us.dropLast := by
 induction h with
 | nil => exact .nil
 | cons r t ih =>
  cases t with
  | nil => exact .nil
  | cons q t' => exact .cons r ih
theorem Vals.rep {xs : List V} {us : List Value} (h : Vals xs us) : ∀ k : Nat, Vals (List.replicate k xs).flatten (List.replicate k us).flatten
 | 0 => .nil
 | k + 1 => by
  rw [List.replicate_succ, List.replicate_succ, List.flatten_cons, List.flatten_cons]
  exact Vals.append h (Vals.rep h k)
theorem ytH {α : Type} (l : List α) : l.eraseIdx (l.length - 1) = l.dropLast := by
 induction l with
 | nil => rfl
 | cons a r ih =>
  cases r with
  | nil => rfl
  | cons b r =>
   have e : (a :: b :: r).length - 1 = ((b :: r).length - 1) + 1 := by
    have h1 : (a :: b :: r).length = r.length + 2 := rfl
    have h2 : (b :: r).length = r.length + 1 := rfl
    omega
   rw [e, List.eraseIdx_cons_succ, ih]
   all_goals rfl
section
variable {X : Cx} {pins : List (Addr × Obj)} {σ : St} {H : Hp} {s : Shared} {l b : Addr} {xs ys zs : List V}
theorem Inv.lset {its its' : List Value} {n : Nat} {f : Array Value -> Array Value} {t' : Nat} (I : Inv X pins σ H s) (hH : H l = some (.lst xs))
  (e : s.heap.get? l = some { cls := .type "list", data := .seq its.toArray n }) (hf : f its.toArray = its'.toArray) (hv : Vals ys its') (hz : ys.length <= sizeLine) :
  Inv X pins σ (upd H l (.lst ys)) { s with heap := s.heap.update l (Obj.mapSeq f), toks := t' } := by
 have q := PySem.IsL.update e f
 rw [hf] at q
 refine I.write (x := l) (e := l) (by rw [hH]; exact trivial) (.inl rfl) (fun b' u hb hu => (Heap.get?_update_other s.heap (Obj.mapSeq f) (Ne.symm hb)).trans hu) ⟨_, q⟩ ?_
 exact ⟨hz, its', _, hv, q⟩
theorem Inv.lnew {its : List Value} {t' : Nat} (I : Inv X pins σ H s) (hv : Vals ys its) (hz : ys.length <= sizeLine) :
  Inv X pins σ (upd H s.heap.objs.size (.lst ys)) { s with heap := s.heap.push { cls := .type "list", data := .seq its.toArray }, toks := t' } :=
 I.laid (fun _ _ q => Heap.get?_push_of_some _ q) (Nat.le_refl _) ⟨hz, its, 0, hv, Heap.get?_push_size _ rfl⟩
theorem Inv.fresh (I : Inv X pins σ H s) : H s.heap.objs.size = none := I.hok.fresh (Nat.le_refl _)
theorem Inv.lstM (I : Inv X pins σ H s) (hH : H l = some (.lst xs)) : xs.length <= sizeLine /\ ∃ (its : List Value) (n : Nat), Vals xs its /\ xs.length = its.length /\ s.heap.get? l = some { cls := .type "list", data := .seq its.toArray n } := by
 obtain ⟨z, its, n, r, e⟩ := I.hok l _ hH
 exact ⟨z, its, n, r, r.length, e⟩
end
section
variable {X : Cx}
def yrq : V -> List V -> Hp -> VK -> Prop := fun x vs H Q => ∃ l xs y, x = .ref l /\ vs = [y] /\ H l = some (.lst xs) /\ xs.length < sizeLine /\ Q .non (upd H l (.lst (xs ++ [y])))
theorem yfI : MtM X "list.append" yrq := by
 intro pins s σ H x vs v us Q I rx rv h
 obtain ⟨l, xs, y, rfl, rfl, hH, hz, q⟩ := h
 cases rx
 obtain ⟨u, rfl, ru⟩ := rv.one
 obtain ⟨z, its, n, r, hl, e⟩ := I.lstM hH
 refine call_meets F.slot_list_append ⟨_, e, rfl⟩ F.entry_list_append (F.args_list_append_2 _ _) (PySem.list_append l its.toArray n u (by rw [List.size_toArray]; omega)) ⟨e, ?_⟩
 refine ⟨.non, _, I.lset (its' := its ++ [u]) hH e (by simp) (r.append (.cons ru .nil)) ?_, rfl, q⟩
 rw [List.length_append, List.length_singleton]
 omega
def yFL : V -> List V -> Hp -> VK -> Prop := fun x vs H Q => ∃ l xs y, x = .ref l /\ vs = [] /\ H l = some (.lst xs) /\ xs[xs.length - 1]? = some y /\ Q y (upd H l (.lst xs.dropLast))
theorem yyK : MtM X "list.pop" yFL := by
  intro pins s σ H x vs v us Q I rx rv h
  obtain ⟨l, xs, y, rfl, rfl, hH, hy, q⟩ := h
  cases rx
  have hus := rv.zero
  subst hus
  obtain ⟨z, its, n, r, hl, e⟩ := I.lstM hH
  obtain ⟨u, hu, ru⟩ := r.get hy
  have hy' : its.toArray[its.toArray.size - 1]? = some u := by
    show its.toArray[its.length - 1]? = some u
    rw [<- Array.getElem?_toList, <- hl]
    exact hu
  refine call_meets F.slot_list_pop ⟨_, e, rfl⟩ F.entry_list_pop (F.args_list_pop_1 _) (MeetsSeq.list_pop_last l its.toArray n u hy' (by rw [List.size_toArray]; omega)) ⟨e, ?_⟩
  refine ⟨y, _, I.lset (its' := its.dropLast) hH e ?_ r.dropLast ?_, ru, q⟩
  . show its.toArray.eraseIdxIfInBounds (its.toArray.size - 1) = its.dropLast.toArray
    rw [List.size_toArray, List.eraseIdxIfInBounds_toArray, ytH]
  . rw [List.length_dropLast]
    omega
def yFM : R2 := fun x y H Q => ∃ l b xs zs, x = .ref l /\ y = .ref b /\ H l = some (.lst xs) /\ H b = some (.lst zs) /\ xs.length + zs.length <= sizeLine /\ ∀ p, H p = none -> Q (.ref p) (upd H p (.lst (xs ++ zs)))
theorem yyL : OpR X (binaryOp .Add) yFM := by
 intro pins s σ H x y v u Q I rx ry h
 obtain ⟨l, b, xs, zs, rfl, rfl, hH, hB, hz, q⟩ := h
 cases rx
 cases ry
 obtain ⟨z, its, n, r, hl, e⟩ := I.lstM hH
 obtain ⟨z2, its2, n2, r2, hl2, e2⟩ := I.lstM hB
 refine PySem.P.add_list e e2 ?_ (by rw [List.size_toArray, List.size_toArray]; omega)
 have ea : its.toArray ++ its2.toArray = (its ++ its2).toArray := by simp
 rw [ea]
 exact ⟨.ref _, _, I.lnew (t' := s.toks) (r.append r2) (by rw [List.length_append]; omega), rfl, q _ I.fresh⟩
end
section
variable {prog : Program} {w : World} {A : Around} {E : Value -> Shared -> Prop} {s : Shared}
end
section
variable {X : Cx}
end
end L2
namespace Att
open PySem PySem.W PySem.Calls PyProof.Rows
theorem ylD {P : Params} {h : Heap} : ∀ (ns : List Int) (vs : List Value), WellAll P h vs (ns.map WData.int) -> IntsAre vs ns := by
 intro ns
 induction ns with
 | nil =>
  intro vs w
  rw [List.map_nil] at w
  cases w
  exact .nil
 | cons n ns ih =>
  intro vs w
  rw [List.map_cons] at w
  cases w with
  | cons a b =>
   cases a
   exact .cons _ _ (ih _ b)
theorem yuS {l : OpenLaw} {n : Nat} (hn : l.most = some n) {P : Params} {h : Heap} {args : List WData} {vals : List Value}
  (hpre : l.row.toRowW.claim.pre args = true) (hwl : WellAll P h vals args) :
  ∃ a vs ns, vals = [Value.ref a] /\ args = [WData.list (ns.map WData.int)] /\ h.get? a = some { cls := .type "list", data := .seq vs.toArray } /\ IntsAre vs ns /\ ns.length <= n := by
 have hsh : WShape.hasAll [] args [.list .int] = true := (pre_splitW hpre).1
 have hc : l.pre.holds [] { args := args } = true := (pre_splitW hpre).2
 obtain ⟨d, r, rfl, h1, h2⟩ := hasAllW_cons hsh
 obtain rfl := hasAllW_nil h2
 obtain ⟨xs, rfl, h3⟩ := hasW_list h1
 obtain ⟨ns, rfl⟩ := items_int h3
 have hlen : ns.length <= n := by
  unfold OpenLaw.pre at hc
  have h4 : (WTm.not (.lt (.lit (.int (n : Int))) (.len (.arg 0)))).holds [] { args := [.list (ns.map .int)] } = true := by
   have h4 := (holds_andW hc).1
   rw [hn] at h4
   exact h4
  have h5 := condW_of h4 (w_not (w_lt w_lit (w_len_list (w_arg rfl))))
  rw [List.length_map] at h5
  refine Nat.le_of_not_lt fun q => ?_
  have q' : (n : Int) < ((ns.length : Nat) : Int) := by omega
  first
   | (rw [decide_eq_true q'] at h5; exact absurd h5 (by decide))
   | (simp at h5; omega)
 cases hwl with
 | cons w1 w2 =>
  cases w2
  cases w1 with
  | list ho hall => exact ⟨_, _, ns, rfl, rfl, ho, ylD ns _ hall, hlen⟩
theorem yuT (l : OpenLaw) (args : List WData) : l.row.toRowW.claim.post args (.bool true) args = true :=
 postW_of (r := l.row.toRowW) (X := (true == true))
  (show WShape.has [] (.bool true) .bool = true by first | rfl | decide | simp [WShape.has, WShape.arms, WShape.armsAll])
  (show (WTm.eq .res (.lit (.bool true))).value [] { args := args, res := some (.bool true), after := args } = some (.bool (true == true)) from w_eq_bool (w_res rfl) w_lit) rfl
theorem attach_call {l : OpenLaw} {n : Nat} {q : Program} {loose : List Str} {XP : (Str -> Option Value) -> Heap -> Prop} {YP : World -> Heap -> Prop} {d : DefRec}
  (hn : l.most = some n) (hdf : d.params.defaults = [])
  (call : ∀ (w : World) (s₀ s₁ : Shared) (mg mb : Str -> Option Value) (fa : Addr) (o : Obj) (pm cd doc : Value) (a : Addr) (vs : List Value) (ns : List Int),
   Ground q loose [] XP w s₀ mg mb s₁.heap -> YP w s₁.heap ->
   s₁.heap.get? fa = some o -> o.data = .func (docDef d.name d.params d.body d.scope pm cd doc) -> s₁.heap.CodeRec cd d.name -> mg d.name = some (.ref fa) ->
   s₁.heap.get? a = some { cls := .type "list", data := .seq vs.toArray } -> IntsAre vs ns -> ns.length <= n -> s₁.gens = #[] ->
   codeAny (model l.prog w) callerA (.call (.ref fa) ⟨[.ref a], []⟩) (fun r s' => r = .ok (.ret (.bool true)) /\ OldK s₁.heap s'.heap /\ s'.os = s₁.os /\ AllBare s'.gens) s₁) :
  WalkO q loose XP YP l.row.toRowW d [] (fun f vs => PySem.call f vs) := by
 intro w s₀ s₁ mg mb G Y fa o pm cd doc dV kV ho hd hcd hD hmg hg args vals as hpre hlay hrd hwl hlo
 obtain rfl : dV = .none := Dflts.none hD hdf
 obtain rfl : kV = .none := Dflts.noKw hD
 obtain ⟨a, vs, ns, rfl, rfl, hobj, hints, hlen⟩ := yuS hn hpre hwl
 refine enter_call (codeAny_mono (call w s₀ s₁ mg mb fa o pm cd doc a vs ns G Y ho (fd_plain hd) hcd hmg hobj hints hlen hg) fun r s' hq => ?_)
 obtain ⟨rfl, h2, h3, h4⟩ := hq
 exact ⟨.inl ⟨.bool true, .bool true, [], rfl, fun _ => rfl, .bool true, yuT l _, fun _ => ⟨List.Pairwise.nil, fun _ hm => (nomatch hm)⟩⟩, h2, h3, h4⟩
section
variable {prog : Program} {w : World} {A : Around} {E : Value -> Shared -> Prop} {s : Shared} {K : Frag}
def ledger (h : Heap) (L d : Addr) : List (Addr × Obj) := (List.range h.objs.size).filterMap fun a => if a = L \/ a = d then none else (h.get? a).map fun o => (a, o)
end
end Att
namespace L2
open PySem PySem.Spec PyProof.Rows
theorem yjj : ∀ {vs : List Value} {ns : List Int}, IntsAre vs ns -> Vals (ns.map V.int) vs
 | _, _, .nil => .nil
 | _, _, .cons n t h => .cons ⟨t, rfl⟩ (yjj h)
def yEP (H : Hp) : Prop := ∀ b, H b = none \/ ∃ o xs, H b = some (.frz o (.lst xs))
theorem ywY {P : Program} {w : World} {K : PySem.W.Frag} {mg mb : Str -> Option Value} {CX : CXT} {k : Nat} {fa a : Addr} {fd : FuncData} {x : Str} {sp : Sp} {s₁ : Shared} {vs : List Value} {ns : List Int}
    (KX : K.In s₁.heap) (hns : s₁.heap.Ns mainGlobals mg) (hb : s₁.heap.Ns builtinsNs mb) (hbb : ∀ x : Str, x ≠ "__name__" -> mb x = bootBuiltins x) (hlim : s₁.heap.NoLimit) (hg : s₁.gens = #[])
    (ha : s₁.heap.get? a = some { cls := .type "list", data := .seq vs.toArray }) (hi : IntsAre vs ns) (hl : ns.length <= sizeLine) (hr : Room k callerA)
    (F : ∀ base : Heap, K.In base -> base.Ns mainGlobals mg -> FnOk P w K mg base CX k fa fd [x] sp) (hbind : ∀ (s : Shared) (u : Value), BindsTo s fd ⟨[u], []⟩ [(x, u)])
    (hsp : ∀ H : Hp, yEP H -> SqL K H a (ns.map V.int) -> sp [.ref a] H (fun v _ => v = .bl true) fun _ _ _ => False)
    (hCX : ∀ H e s', CX [] H s₁ (fun _ _ _ => False) e s' -> False) :
    codeAny (model P w) callerA (.call (.ref fa) ⟨[.ref a], []⟩) (fun r s' => r = .ok (.ret (.bool true)) /\ OldK s₁.heap s'.heap /\ s'.os = s₁.os /\ AllBare s'.gens) s₁ := by
  have rv := yjj hi
  have lenV := hi.length
  -- from an abstract heap in which nothing but the script may be tracked
  have core : ∀ H : Hp, yEP H -> SqL K H a (ns.map V.int) -> HOk P w H s₁.heap -> (∀ b, H b ≠ none -> b = a) -> (H a ≠ none -> K.lookup a = none) ->
      codeAny (model P w) callerA (.call (.ref fa) ⟨[.ref a], []⟩) (fun r s' => r = .ok (.ret (.bool true)) /\ OldK s₁.heap s'.heap /\ s'.os = s₁.os /\ AllBare s'.gens) s₁ := by
    intro H hO hS hok hA hK
    have base_of : ∀ {b : Addr} {o : Obj}, s₁.heap.get? b = some o -> H b = none -> (ywL s₁.heap H).get? b = some o := fun e n => ywM e n
    have noA : ∀ {b : Addr} {o : Obj} {es : Array DictEntry} {ep : Nat}, s₁.heap.get? b = some o -> o.data = .dict es ep -> H b = none := fun {b o es ep} e d => by
      cases q : H b with
      | none => rfl
      | some u =>
        have e' : b = a := hA b (by rw [q]; simp)
        subst e'
        rw [ha] at e; cases e
        have d' : Data.seq vs.toArray _ = Data.dict es ep := d
        cases d'
    have nsK : ∀ {b : Addr} {m : Str -> Option Value}, s₁.heap.Ns b m -> (ywL s₁.heap H).Ns b m := fun {b m} ⟨o, es, ep, e, d, r⟩ => ⟨o, es, ep, base_of e (noA e d), d, r⟩
    have hKb : K.In (ywL s₁.heap H) := fun b o e => base_of (KX b o e) (by
      cases q : H b with
      | none => rfl
      | some u =>
        have e' : b = a := hA b (by rw [q]; simp)
        subst e'
        rw [hK (by rw [q]; simp)] at e; cases e)
    have hM : Mod K mg (ywL s₁.heap H) := ⟨hKb, nsK hns, ⟨mb, nsK hb, hbb⟩, let ⟨mc, h1, h2⟩ := hlim; ⟨mc, nsK h1, h2⟩⟩
    have e0 : Env0 P w K mg (ywL s₁.heap H) callerA [] s₁ H := ⟨rfl, hM, fun b o e => yzt e, Nat.le_of_eq (yuy _ _), trivial, fun b hb => absurd (show b ∈ ([] : List Addr) from hb) (by simp), hok, .of_eq hg⟩
    refine codeAny_mono ((F _ hKb (nsK hns)).run callerA [] s₁ H ⟨[.ref a], []⟩ [.ref a] [.ref a] _ _ hr e0 (hbind s₁ (.ref a)) (.cons rfl .nil) (hsp H hO hS)) fun r s' h => ?_
    cases r with
    | error e => exact (hCX H e s' h).elim
    | ok fl =>
      cases fl with
      | next => exact False.elim h
      | brk => exact False.elim h
      | cont => exact False.elim h
      | ret u =>
        obtain ⟨v, H', os, bare, un, hok', r', q⟩ := h
        have q' : v = .bl true := q
        subst q'
        obtain rfl : u = Value.bool true := r'
        refine ⟨rfl, OldK.of_keep fun b o e => ?_, os, bare⟩
        cases q : H b with
        | none => exact un.keep b o e q (by intro z; exact absurd (show b ∈ ([] : List Addr) from z) (by simp)) (by simp)
        | some u =>
          rcases hO b with z | ⟨ob, xs, z⟩
          . rw [q] at z; cases z
          . have z2 := un.frzs b ob _ z
            obtain ⟨e1, _⟩ := hok b _ z
            obtain ⟨e2, _⟩ := hok' b _ z2
            rw [e] at e1; cases e1
            exact e2
  cases hk : K.lookup a with
  | some o =>
    -- the script is one of the module's own objects
    have e := KX a o hk
    rw [ha] at e
    cases e
    refine core (fun _ => none) (fun _ => .inl rfl) (.inr ⟨_, vs.toArray, _, hk, rfl, rfl, rfl, by rw [List.size_toArray, lenV]; exact hl, by simpa using rv⟩) (fun b u z => by have z' : (none : Option HO) = some u := z; cases z') (fun b z => absurd rfl z) fun z => absurd rfl z
  | none =>
    refine core (fun b => if b = a then some (.frz { cls := .type "list", data := .seq vs.toArray } (.lst (ns.map V.int))) else none) (fun b => ?_) (.inl (.inr ⟨{ cls := .type "list", data := .seq vs.toArray }, if_pos rfl⟩)) (fun b u z => ?_) (fun b z => ?_) fun _ => hk
    . by_cases hb : b = a
      . exact .inr ⟨_, _, if_pos hb⟩
      . exact .inl (if_neg hb)
    . by_cases hb : b = a
      . have z' := (if_pos hb).symm.trans z
        cases z'
        subst hb
        exact ⟨ha, by rw [List.length_map]; exact hl, vs, _, rv, ha⟩
      . have z' := (if_neg hb).symm.trans z
        cases z'
    . by_cases hb : b = a
      . exact hb
      . exact absurd (if_neg hb) z
end L2
namespace L2
open PySem PySem.Spec PyProof.Rows
abbrev KOf {K : PySem.W.Frag} {h : Heap} (_ : K.In h) : PySem.W.Frag := K
theorem walk_of {l : PySem.W.OpenLaw} {n k : Nat} {q : Program} {loose : List Str} {XP : (Str -> Option Value) -> Heap -> Prop} {YP : World -> Heap -> Prop} {d : DefRec} {K : Params -> PySem.W.Frag} {CX : World -> CXT} {sp : World -> Sp} {x : Str}
  (hn : l.most = some n) (hn2 : n <= sizeLine) (hdf : d.params.defaults = []) (hr : Room k callerA)
  (hY : ∀ (w : World) (h : Heap), YP w h -> (K w.params).In h)
  (F : ∀ (w : World) (mg : Str -> Option Value) (fa : Addr) (h : Heap), (K w.params).In h -> h.Ns mainGlobals mg -> mg d.name = some (.ref fa) ->
   ∃ fd : FuncData, (∀ (s : Shared) (u : Value), BindsTo s fd ⟨[u], []⟩ [(x, u)]) /\
    ∀ base : Heap, (K w.params).In base -> base.Ns mainGlobals mg -> FnOk l.prog w (K w.params) mg base (CX w) k fa fd [x] (sp w))
  (hsp : ∀ (w : World) (H : Hp) (a : Addr) (ns : List Int), ns.length <= n -> yEP H -> SqL (K w.params) H a (ns.map V.int) -> sp w [.ref a] H (fun v _ => v = .bl true) fun _ _ _ => False)
  (hCX : ∀ (w : World) (H : Hp) (s : Shared) (e : Value) (s' : Shared), CX w [] H s (fun _ _ _ => False) e s' -> False) :
  PySem.W.WalkO q loose XP YP l.row.toRowW d [] (fun f vs => PySem.call f vs) := by
 refine Att.attach_call hn hdf fun w s₀ s₁ mg mb fa o pm cd doc a vs ns G Y ho hd hcd hmg hobj hints hlen hg => ?_
 have KX := hY w _ Y
 obtain ⟨fd, hb, hF⟩ := F w mg fa _ KX G.T.g hmg
 exact ywY KX G.T.g G.T.b G.T.builtins G.T.nolimit hg hobj hints (Nat.le_trans hlen hn2) hr hF hb (fun H hO hS => hsp w H a ns hlen hO hS) fun H e s' => hCX w H s₁ e s'
end L2
/- THE LAST THEOREM (shape; LID, My.* are yours):
   My.Adr: a structure of the addresses that your layer names (classes, functions); My.Txt K t: a structure (Prop) of the equations over K;
   My.txt_mk : {K} {implicit addresses ..} (e1 : nsIn K mainGlobals "law" = some (some (.ref f))) (e2 : K.lookup f = some ⟨oc, od, .func (fnOf "law" "law" params body scope dV kV doc pm an cdv ct), sl⟩) (e3 : codeIn K cdv "law" = true) .. : ∃ t, My.Txt K t
theorem PySem.Challenge.cw_LID_holds : PySem.Challenge.rw_LID.Holds := by
  w_on; o_law; k_head; (case hw => w_witness2)
  k_fill
  refine L2.walk_of (l := PySem.Challenge.rw_LID) (n := 63) (k := 40) (x := "script") (CX := fun w => ..) (sp := fun _ => My.sp_law) rfl (by decide) rfl ⟨rfl, by decide, by decide⟩ (fun w h Y => PySem.W.kIn_of Y) ?F ?S ?C
  case F =>
    intro w mg fa h KX G hmg
    have T : ∃ t, My.Txt (L2.KOf KX) t := by
      dsimp only [L2.KOf]                          -- K must stand as «<heap const> w.params» for k_is
      refine' My.txt_mk ?e1 ?e2 ?e3 ..
      (case e1 => PySem.W.k_is)                    -- in the order: a name -> its address -> its object -> its parts
      (case e2 => PySem.W.k_is)
      ..
    obtain ⟨t, T⟩ := T
    have e0 := hmg.symm.trans (PySem.W.mg_of KX G T.law)
    cases e0                                       -- fa is the law's own address
    exact ⟨_, fun s u => .of_eq rfl, fun base kb nb => My.law_fn T kb nb⟩     -- if «.of_eq rfl» comes too early: refine' ⟨_, ?b, fun base kb nb => My.law_fn T kb nb⟩; exact fun s u => .of_eq rfl
  case S => exact fun w H a ns hl hO hS => ..
  case C => exact ..
(the tactic k_is has no namespace: write k_is) -/
namespace L2
open PySem PySem.Spec PyProof.Rows
def inClass (s : Stmt) (j : Nat) : Stmt := match s with
 | .ClassDef _ _ _ body _ _ _ _ _ _ _ => body.getD j (.Pass ⟨0, 0, 0, 0⟩)
 | _ => .Pass ⟨0, 0, 0, 0⟩
def yj (s : Stmt) : Arguments := match s with
 | .FunctionDef _ a _ _ _ _ _ _ _ _ => a
 | _ => { posonlyargs := [], args := [], vararg := none, kwonlyargs := [], kw_defaults := [], kwarg := none, defaults := [] }
def yi (s : Stmt) : List Stmt := match s with
 | .FunctionDef _ _ b _ _ _ _ _ _ _ => b
 | _ => []
def yb (s : Stmt) : Scope := match s with
 | .FunctionDef _ _ _ _ _ _ sc _ _ _ => sc
 | _ => { kind := .function, names := [], isGenerator := false, isCoroutine := false }
abbrev CX0 : CXT := fun _ _ _ _ _ _ => False
abbrev E0 : XK := fun _ _ _ => False
theorem ytI {X : Cx} : yji CX0 X E0 := fun _ _ _ _ _ _ _ h => h.elim
structure Fun (K : PySem.W.Frag) (x qual : Str) (st : Stmt) (f : Addr) (fd : FuncData) : Prop where
 ex : ∃ (oc : Value) (od : Option Addr) (kV doc pm : Value) (an : Option Addr) (cdv ct : Value) (osl : Array (Option Value)),
  fd = PySem.W.fnOf x qual (yj st) (yi st) (yb st) .none kV doc pm an cdv ct /\ K.lookup f = some ⟨oc, od, .func fd, osl⟩ /\ PySem.W.codeIn K cdv qual = true
 kp : PySem.W.keepIn K (.ref f) = true
section
variable {P : Program} {w : World} {K : PySem.W.Frag} {mg : Str -> Option Value} {base : Heap}
theorem Fun.ok {x qual : Str} {st : Stmt} {f : Addr} {fd : FuncData} {N ps : List Str} {k : Nat} {sp : Sp} (F : Fun K x qual st f fd) (S : yo N ps (yb st)) (len : ∀ vs H Q E, sp vs H Q E -> vs.length = ps.length)
  (hbody : ∀ (cdv : Value) (A : Around) (outer : List Env) (s : Shared) (H : Hp) (vs : List V) (Q : VK) (E : XK), Room k (A.deeper (envOfC qual (yb st) s.heap.objs.size f cdv)) -> sp vs H Q E ->
   ∃ t, PSs (ywX CX0 P w K mg base N qual (yb st) f cdv A outer s H E).nox (yi st) t /\ t { nx := fun _ H' => Q .non H', rt := Q } (start N vs) H) : FnOk P w K mg base CX0 (k + 1) f fd ps sp := by
 obtain ⟨oc, od, kV, doc, pm, an, cdv, ct, osl, rfl, lk, hcd⟩ := F.ex
 refine yEJ lk hcd S len fun A outer s H vs Q E hr hsp => ?_
 obtain ⟨t, h, q⟩ := hbody cdv A outer s H vs Q E hr hsp
 exact ⟨t, h.nox, q⟩
theorem Fun.binds {x qual : Str} {st : Stmt} {f : Addr} {fd : FuncData} {ps : List Str} (F : Fun K x qual st f fd)
  (h : ∀ (kV doc pm : Value) (an : Option Addr) (cdv ct : Value) (us : List Value), us.length = ps.length -> bindArgs (PySem.W.fnOf x qual (yj st) (yi st) (yb st) .none kV doc pm an cdv ct) ⟨us, []⟩ = pure (ps.zip us)) : Binds K fd ps [] := by
 obtain ⟨oc, od, kV, doc, pm, an, cdv, ct, osl, rfl, lk, hcd⟩ := F.ex
 exact .all (h kV doc pm an cdv ct)
theorem yO {x qual : Str} {st : Stmt} {f : Addr} {oc : Value} {od an : Option Addr} {osl : Array (Option Value)} {kV doc pm cdv ct : Value} (l : K.lookup f = some ⟨oc, od, .func (PySem.W.fnOf x qual (yj st) (yi st) (yb st) .none kV doc pm an cdv ct), osl⟩)
  (c : PySem.W.codeIn K cdv qual = true) (k : PySem.W.keepIn K (.ref f) = true) : Fun K x qual st f (PySem.W.fnOf x qual (yj st) (yi st) (yb st) .none kV doc pm an cdv ct) := ⟨⟨oc, od, kV, doc, pm, an, cdv, ct, osl, rfl, l, c⟩, k⟩
end
theorem ynR {A : Around} {k : Nat} (hr : Room k A) : A.units + 1 < cLine := Nat.lt_of_le_of_lt (Nat.add_le_add_left (by decide : 1 <= 64) _) hr.units
theorem ypQ {n : Nat} (h : n <= 1000) : n < sizeLine := Nat.lt_of_le_of_lt h (by decide)
section
variable {X : Cx}
end
def Same (H H' : Hp) : Prop := ∀ b o, H b = some o -> H' b = some o
theorem Same.refl (H : Hp) : Same H H := fun _ _ h => h
theorem Same.trans {H H1 H2 : Hp} (a : Same H H1) (b : Same H1 H2) : Same H H2 := fun c o h => b c o (a c o h)
theorem Same.free {H H' : Hp} (e : Same H H') {l : Addr} (h : H' l = Option.none) : H l = Option.none := by
 cases q : H l with
 | none => rfl
 | some o =>
  rw [e l o q] at h
  cases h
theorem Same.seq {K : PySem.W.Frag} {H H' : Hp} {a : Addr} {xs : List V} (e : Same H H') (h : SqL K H a xs) : SqL K H' a xs := by
  rcases h with (h | ⟨o, h⟩) | h
  . exact .inl (.inl (e _ _ h))
  . exact .inl (.inr ⟨o, e _ _ h⟩)
  . exact .inr h
end L2
namespace L2
open PySem PySem.Spec PyProof.Rows
def cV : V -> Option Value
 | .ty n => some (.type n)
 | .ref a => some (.ref a)
 | _ => none
def IsI (K : PySem.W.Frag) (H : Hp) (x c : V) (b : Bool) : Prop := ∃ t u, ylC K H x t /\ cV c = some u /\ PySem.W.kitOne K t u = some b
theorem yrr {K : PySem.W.Frag} {H : Hp} {i : Int} : IsI K H (.int i) (.ty "int") true := ⟨_, _, .int i, rfl, by with_unfolding_all rfl⟩
theorem ypR {K : PySem.W.Frag} {H : Hp} {i : Int} : IsI K H (.int i) (.ty "bool") false := ⟨_, _, .int i, rfl, by with_unfolding_all rfl⟩
theorem yrs {K : PySem.W.Frag} {H : Hp} : IsI K H .non (.ty "int") false := ⟨_, _, .non, rfl, by with_unfolding_all rfl⟩
theorem yrt {K : PySem.W.Frag} {H : Hp} {i : Bool} : IsI K H (.bl i) (.ty "bool") true := ⟨_, _, .bl i, rfl, by with_unfolding_all rfl⟩
theorem yru {K : PySem.W.Frag} {H : Hp} {i : Str} : IsI K H (.str i) (.ty "str") true := ⟨_, _, .str i, rfl, by with_unfolding_all rfl⟩
theorem ypS {K : PySem.W.Frag} {H : Hp} {a : Addr} {xs : List V} (e : H a = some (.lst xs)) : IsI K H (.ref a) (.ty "list") true := ⟨_, _, .lst e, rfl, by with_unfolding_all rfl⟩
end L2
namespace L2
open PySem
abbrev yEQ : R2 := rI0 fun i j => .int (i + j)
abbrev yER : R2 := rI0 fun i j => .int (i - j)
abbrev yES : R2 := rI CMul fun i j => .int (i * j)
abbrev yET : R2 := rI yFG fun i j => .int (i / j)
abbrev yEU : R2 := rI (fun _ j => 0 < j) fun i j => .int (i % j)
abbrev yEV : R2 := rI yEH fun i j => .int (i ^ j.toNat)
abbrev yGs : R2 := rI0 fun i j => .bl (decide (i < j))
abbrev yEW : V -> Hp -> VK -> Prop := rU fun i => .int (-i)
def yGt : R2 := fun x y H Q => y = .non /\ Q (.bl (decide (x = .non))) H
def yEX : List V -> Hp -> VK -> Prop := fun xs H Q => (∃ i, xs = [.int i] /\ Q (.int i) H) \/ ∃ k, xs = [.bl k] /\ Q (.int (if k then 1 else 0)) H
def yEY : List V -> Hp -> VK -> Prop := fun xs H Q => ∃ z, xs = [.str z] /\ z.length <= sizeLine /\ Q (.int z.length) H
def yEZ (K : PySem.W.Frag) : List V -> Hp -> VK -> Prop := fun xs H Q => ∃ p ys, xs = [.ref p] /\ (SqL K H p ys \/ SqT K H p ys) /\ Q (.int ys.length) H
def yFN (K : PySem.W.Frag) : List V -> Hp -> VK -> Prop := fun xs H Q => ∃ x c b, xs = [x, c] /\ IsI K H x c b /\ Q (.bl b) H
theorem ygf {H : Hp} {p : Addr} (h : H p = none) (o : HO) : Same H (upd H p o) := fun b u q => by rw [yU (ycb q h)]; exact q
section
variable {K : PySem.W.Frag} {σ : St} {H : Hp} {Q : VK} {ta tb tc : TE} {tA tB' : TT} {t u : TS} {D : Ends}
theorem w_not {Q : Bool -> Hp -> Prop} : yEz tA σ H Q = tA σ H fun c H1 => Q (!c) H1 := rfl
end
end L2
namespace L2
open PySem
def yEo (z : Str) (lo hi : Option Int) : Str := ⟨((z.cps.toList.drop (HT.sIx z.length 0 lo)).take (HT.sIx z.length z.length hi - HT.sIx z.length 0 lo)).toArray⟩
def yFO : V -> Option Int -> Option Int -> Hp -> VK -> Prop := fun x lo hi H Q => ∃ z, x = .str z /\ z.length <= 1000000 /\ Q (.str (yEo z lo hi)) H
def yuU : V -> List V -> Hp -> VK -> Prop := fun x vs H Q => ∃ (z : Str) (c : Nat), x = .str z /\ vs = [.str ⟨#[c]⟩] /\ z.length <= 1000 /\ c ∈ z.cps.toList /\ Q (.int (z.cps.toList.idxOf c)) H
def yFP : List V -> Hp -> VK -> Prop := fun xs H Q => ∃ (p : Addr) (ns : List Int), xs = [.ref p] /\ H p = some (.lst (ns.map V.int)) /\ Q (.int ns.sum) H
def yzO (K : PySem.W.Frag) : List V -> Hp -> VK -> Prop := fun xs H Q => ∃ p ys, xs = [.ref p] /\ (SqL K H p ys \/ SqT K H p ys) /\ ∀ l, H l = none -> Q (.ref l) (upd H l (.lst ys))
def yFa (J : It) (te : TE) (inn : V -> St) (D : Addr) (Q : VK) (H : Hp) : Prop := ∃ W : Nat -> Nat -> Hp -> Prop, (∃ m, W 0 m H) /\ ∀ i m H, W i m H ->
 (J.stop i H /\ Q (.ref D) H) \/ (J.go i H /\ ∀ x H', J.yld i H x H' -> te (inn x) H' fun y H2 => ∃ acc, H2 D = some (.lst acc) /\ acc.length < sizeLine /\ ∃ m', m' < m /\ W (i + 1) m' (upd H2 D (.lst (acc ++ [y]))))
def inner (ix : List Nat) (σ : St) (x : V) : St := some x :: ix.map fun i => (σ[i]?).getD none
def yzP (wi : TI) (ix : List Nat) (te : TE) : TE := fun σ H Q => wi σ H fun J H1 => ∀ D, H1 D = none -> yFa J te (inner ix σ) D Q (upd H1 D (.lst []))
section
variable {K : PySem.W.Frag} {σ : St} {H : Hp} {Q : VK} {ta tb tc : TE} {tA tB' : TT} {t u : TS} {D : Ends}
end
end L2
namespace L2
open PySem
theorem yFb {k : Str} {v : V} {r : List (Str × V)} : List.lookup k ((k, v) :: r) = some v := by simp [List.lookup]
theorem yCr {k k' : Str} {v : V} {r : List (Str × V)} (h : ¬ k = k') : List.lookup k ((k', v) :: r) = List.lookup k r := by
 have : (k == k') = false := by simpa using h
 simp [List.lookup, this]
section
variable {K : PySem.W.Frag} {σ : St} {H : Hp} {Q : VK} {ta tb tc : TE} {t u : TS} {D : Ends}
end
end L2
namespace L2
open PySem PySem.Builtin PySem.Builtin.Str
theorem at_one {z : Str} {c i : Nat} : StrLaws.At z ⟨#[c]⟩ z.length i ↔ z.cps.toList[i]? = some c := by
  unfold StrLaws.At subAt
  have e1 : (⟨#[c]⟩ : Str).length = 1 := rfl
  rw [e1]
  have e2 : (z.cps.extract i (i + 1) == (⟨#[c]⟩ : Str).cps) = true ↔ z.cps.extract i (i + 1) = #[c] := by simp
  rw [e2]
  constructor
  . rintro ⟨h1, h2⟩
    have h3 : (z.cps.extract i (i + 1)).toList = [c] := by rw [h2]
    rw [Array.toList_extract, List.extract_eq_take_drop] at h3
    have h4 : ((z.cps.toList.drop i).take (i + 1 - i))[0]? = some c := by rw [h3]; rfl
    rw [List.getElem?_take_of_lt (by omega), List.getElem?_drop] at h4
    simpa using h4
  . intro h
    obtain ⟨hlt, hc⟩ := List.getElem?_eq_some_iff.mp h
    have hl : i < z.length := by simpa [Str.length] using hlt
    refine ⟨by omega, ?_⟩
    apply Array.ext'
    rw [Array.toList_extract, List.extract_eq_take_drop]
    have e : i + 1 - i = 1 := by omega
    rw [e, List.drop_eq_getElem_cons hlt, hc]
    rfl
theorem yzQ (z : Str) (c : Nat) : (occurrences z ⟨#[c]⟩ 0 z.length 1 = [] /\ c ∉ z.cps.toList) \/ ∃ r, occurrences z ⟨#[c]⟩ 0 z.length 1 = z.cps.toList.idxOf c :: r /\ c ∈ z.cps.toList := by
  rcases StrLaws.occ_head z ⟨#[c]⟩ 1 (Nat.le_refl _) with ⟨h1, h2⟩ | ⟨i, r, h1, h2, h3⟩
  . refine .inl ⟨h1, fun hc => ?_⟩
    obtain ⟨i, hi, e⟩ := List.getElem_of_mem hc
    exact h2 i (at_one.mpr (List.getElem?_eq_some_iff.mpr ⟨hi, e⟩))
  . have hi := at_one.mp h2
    obtain ⟨hlt, hc⟩ := List.getElem?_eq_some_iff.mp hi
    have hm : c ∈ z.cps.toList := List.mem_of_getElem? hi
    refine .inr ⟨r, ?_, hm⟩
    have hj : z.cps.toList.idxOf c < z.cps.toList.length := List.idxOf_lt_length_of_mem hm
    have hg : z.cps.toList[z.cps.toList.idxOf c]? = some c := by
      rw [List.getElem?_eq_getElem hj, List.getElem_idxOf hj]
    have e : i = z.cps.toList.idxOf c := by
      rcases Nat.lt_trichotomy i (z.cps.toList.idxOf c) with h | h | h
      . exact absurd hc (by
          have := List.not_of_lt_findIdx (p := (· == c)) (xs := z.cps.toList) (i := i) (by simpa [List.idxOf] using h)
          simpa using this)
      . exact h
      . exact absurd (at_one.mpr hg) (h3 _ h)
    rw [h1, e]
theorem yuV (v : Option Int) (n d : Nat) : (match v with | none => (d : Int) | some i => max 0 (min (if i < 0 then i + (n : Int) else i) (n : Int))) = ((HT.sIx n d v : Nat) : Int) := by
 cases v with
 | none => rfl
 | some i =>
  show max 0 (min (if i < 0 then i + (n : Int) else i) (n : Int)) = (((if i < 0 then (i + (n : Int)).toNat else min i.toNat n) : Nat) : Int)
  split <;> omega
theorem yzR (lo hi : Option Int) (n : Nat) : strSliceIndices lo hi 1 n = (List.range (HT.sIx n n hi - HT.sIx n 0 lo)).map (fun k => HT.sIx n 0 lo + k) := by
  have h1 := yuV lo n 0
  have h2 := yuV hi n n
  generalize HT.sIx n 0 lo = a at *
  generalize HT.sIx n n hi = b at *
  have e : strSliceIndices lo hi 1 n = sliceRange (a : Int) (b : Int) 1 := by
    rw [<- h1, <- h2]
    cases lo <;> cases hi <;> rfl
  rw [e]
  unfold sliceRange
  rw [if_pos (show (1 : Int) > 0 by decide)]
  have e3 : (if (a : Int) < b then ((b : Int) - a + 1 - 1) / 1 else 0).toNat = b - a := by
    split
    . rw [Int.ediv_one]; omega
    . omega
  show (List.range (if (a : Int) < b then ((b : Int) - a + 1 - 1) / 1 else 0).toNat).map _ = _
  rw [e3]
  refine List.map_congr_left fun k _ => ?_
  omega
theorem yCs (n : Nat) (hi : Option Int) : HT.sIx n n hi <= n := by
 cases hi with
 | none => exact Nat.le_refl _
 | some v =>
  show (if v < 0 then (v + (n : Int)).toNat else min v.toNat n) <= n
  split <;> omega
theorem ywZ (l : List Nat) (a k : Nat) (h : a + k <= l.length) : ((List.range k).map (fun j => a + j)).filterMap (fun j => l[j]?) = (l.drop a).take k := by
 induction k with
 | zero => simp
 | succ k ih =>
  rw [List.range_succ, List.map_append, List.filterMap_append, ih (by omega)]
  have hlt : a + k < l.length := by omega
  simp only [List.map_cons, List.map_nil, List.filterMap_cons, List.filterMap_nil, List.getElem?_eq_getElem hlt]
  rw [List.take_succ, List.getElem?_drop, List.getElem?_eq_getElem hlt]
  rfl
theorem yuW (z : Str) (lo hi : Option Int) : Txt.slice z lo hi = yEo z lo hi := by
  unfold Txt.slice yEo
  rw [yzR]
  have hz : z.cps.toList.length = z.length := by simp [Str.length]
  have hb := yCs z.length hi
  generalize HT.sIx z.length 0 lo = a at *
  generalize HT.sIx z.length z.length hi = b at *
  split
  . rename_i h
    have h2 : b - a = z.length := by simpa using h
    have h3 : a = 0 \/ z.length = 0 := by omega
    obtain ⟨⟨l⟩⟩ := z
    simp only [Str.length, List.size_toArray] at *
    rcases h3 with h3 | h3
    . subst h3
      rw [List.drop_zero, h2, List.take_length]
    . have : l = [] := List.eq_nil_of_length_eq_zero h3
      subst this
      simp
  . congr 2
    by_cases hab : a <= b
    . have := ywZ z.cps.toList a (b - a) (by omega)
      simpa using this
    . have : b - a = 0 := by omega
      rw [this]
      simp
end L2
namespace L2
open PySem PySem.Spec PyProof.Rows
theorem ydG {env : Env} (y : Str) : ∀ names : List (Str × NameKind),
    (names.map fun (n, k) => if (k == NameKind.free && env.scope.kind == .function && env.kindOf n == some .cell) then (n, NameKind.cell) else (n, k)).lookup y
      = (names.lookup y).map fun k => if (k == NameKind.free && env.scope.kind == .function && env.kindOf y == some .cell) then NameKind.cell else k
  | [] => rfl
  | (n, k) :: r => by
    have ih := ydG (env := env) y r
    show List.lookup y ((if (k == NameKind.free && env.scope.kind == .function && env.kindOf n == some .cell) = true then (n, NameKind.cell) else (n, k)) :: _) = _
    cases hx : y == n with
    | true =>
      have e : y = n := eq_of_beq hx
      subst e
      by_cases hc : (k == NameKind.free && env.scope.kind == .function && env.kindOf y == some .cell) = true
      . rw [if_pos hc]
        simp only [List.lookup_cons, hx, Option.map_some, if_pos hc]
      . rw [if_neg hc]
        simp only [List.lookup_cons, hx, Option.map_some, if_neg hc]
    | false =>
      by_cases hc : (k == NameKind.free && env.scope.kind == .function && env.kindOf n == some .cell) = true
      . rw [if_pos hc]; simp only [List.lookup_cons, hx]; exact ih
      . rw [if_neg hc]; simp only [List.lookup_cons, hx]; exact ih
theorem ygg {env : Env} : ∀ (names : List (Str × NameKind)) (cs : List (Str × Addr)), (∀ n, (n, NameKind.free) ∈ names -> ∃ c, env.cells.lookup n = some c) ->
    ∃ cl, (forIn names cs (fun (x : Str × NameKind) (r : List (Str × Addr)) => if (x.2 == NameKind.free) = true then do let c <- cellOf env x.1; pure (ForInStep.yield ((x.1, c) :: r)) else pure (ForInStep.yield r)) : Sem (List (Str × Addr))) = pure cl /\
      (∀ y, (y, NameKind.free) ∈ names -> cl.lookup y = env.cells.lookup y) /\ (∀ y, (y, NameKind.free) ∉ names -> cl.lookup y = cs.lookup y)
  | [], cs, _ => ⟨cs, rfl, fun y h => by simp at h, fun y _ => rfl⟩
  | (n, k) :: r, cs, h => by
    by_cases hk : k = .free
    . subst hk
      obtain ⟨c, hc⟩ := h n List.mem_cons_self
      obtain ⟨cl, e, h1, h2⟩ := ygg r ((n, c) :: cs) fun y hy => h y (List.mem_cons_of_mem _ hy)
      refine ⟨cl, ?_, fun y hy => ?_, fun y hy => ?_⟩
      . rw [List.forIn_cons]
        have e0 : cellOf env n = pure c := by unfold cellOf; rw [hc]
        simp only [beq_self_eq_true, if_true, e0, pure_bind]
        exact e
      . by_cases hr : (y, NameKind.free) ∈ r
        . exact h1 y hr
        . rw [h2 y hr]
          rcases List.mem_cons.mp hy with z | z
          . cases z
            rw [hc]; simp [List.lookup]
          . exact absurd z hr
      . have hr : (y, NameKind.free) ∉ r := fun z => hy (List.mem_cons_of_mem _ z)
        rw [h2 y hr]
        have hn : (y == n) = false := by
          cases e : y == n with
          | false => rfl
          | true => exact absurd (by rw [eq_of_beq e]; exact List.mem_cons_self) hy
        simp [List.lookup, hn]
    . obtain ⟨cl, e, h1, h2⟩ := ygg r cs fun y hy => h y (List.mem_cons_of_mem _ hy)
      have hb : (k == NameKind.free) = false := by simpa using hk
      refine ⟨cl, ?_, fun y hy => ?_, fun y hy => ?_⟩
      . rw [List.forIn_cons]
        simp only [hb, Bool.false_eq_true, if_false, pure_bind]
        exact e
      . rcases List.mem_cons.mp hy with z | z
        . cases z; exact absurd rfl hk
        . exact h1 y z
      . exact h2 y fun z => hy (List.mem_cons_of_mem _ z)
def cxC (X : Cx) (scope : Scope) (cl : List (Str × Addr)) (C : Addr) (N : List Str) (s₃ : Shared) (H₃ : Hp) (fp : List Addr) (pins : List (Addr × Obj)) : Cx :=
 { prog := X.prog, w := X.w, K := X.K, mg := X.mg, base := X.base, A := X.A, N := N, s₀ := s₃, H₀ := H₃, env := compEnvC scope cl C X.env, outer := X.stack, stack := X.stack, ex := fp, fn := fun _ => false, calm := X.calm, pn := X.pn ++ pins, xe := fun _ _ => False }
def FrOk (X : Cx) (scope : Scope) : List Nat -> List Str -> Prop
 | [], [] => True
 | i :: is, y :: ys => X.N[i]? = some y /\ scope.names.lookup y = some .free /\ X.env.kindOf y = some .cell /\ FrOk X scope is ys
 | _, _ => False
theorem FrOk.len {X : Cx} {scope : Scope} : ∀ {is : List Nat} {ys : List Str}, FrOk X scope is ys -> is.length = ys.length
 | [], [], _ => rfl
 | _ :: is, _ :: ys, h => by rw [List.length_cons, List.length_cons, FrOk.len h.2.2.2]
theorem FrOk.get {X : Cx} {scope : Scope} : ∀ {is : List Nat} {ys : List Str} {j : Nat} {y : Str}, FrOk X scope is ys -> ys[j]? = some y -> ∃ i, is[j]? = some i /\ X.N[i]? = some y /\ scope.names.lookup y = some .free /\ X.env.kindOf y = some .cell
 | [], [], _, _, _, e => by simp at e
 | [], _ :: _, _, _, h, _ => h.elim
 | _ :: _, [], _, _, h, _ => h.elim
 | i :: is, z :: ys, 0, y, h, e => by
  simp at e
  subst e
  exact ⟨i, rfl, h.1, h.2.1, h.2.2.1⟩
 | i :: is, z :: ys, j + 1, y, h, e => by
  obtain ⟨k, h1, h2⟩ := FrOk.get (j := j) h.2.2.2 (by simpa using e)
  exact ⟨k, by simpa using h1, h2⟩
theorem yzS {X : Cx} {elt iter : Expr} {x : Str} {px : Pos} {scope : Scope} {cpos : Pos} {wi : TI} {te : TE} (ix : List Nat) (fr : List Str) (hc : X.calm = true) (hi : PI X (.Name x px) iter wi) (hfr : FrOk X scope ix fr)
    (he : ∀ (cl : List (Str × Addr)) (C : Addr) (s₃ : Shared) (H₃ : Hp) (fp : List Addr) (pins : List (Addr × Obj)), PE (cxC X scope cl C (x :: fr) s₃ H₃ fp pins) elt te)
    (hnd : (x :: fr).Nodup := by decide +kernel) (hkind : scope.kind = .function := by rfl) (hcell : ∀ y ∈ scope.names, y.2 ≠ .cell := by decide +kernel)
    (hnames : ∀ y ∈ scope.names, y.2 = .local -> scope.names.lookup y.1 = some .local := by decide +kernel) (hfree0 : ∀ y ∈ scope.names, y.2 = .free -> y.1 ∈ fr := by decide +kernel) (hx : scope.names.lookup x = some .local := by rfl)
    (hs : ∀ v, foldedSetIterable iter X.env v = pure v := by intro _; rfl) : PE X (.ListComp elt [⟨.Name x px, iter, [], 0⟩] scope cpos) (yzP wi ix te) := by
  intro pins s σ H Q I h
  have hfn : X.env.scope.kind = .function := I.ok.kind
  have hfree : ∀ y ∈ scope.names, y.2 = .free -> X.env.kindOf y.1 = some .cell /\ scope.names.lookup y.1 = some .free := fun y hy e => by
    obtain ⟨j, hj, ej⟩ := List.getElem_of_mem (hfree0 y hy e)
    obtain ⟨i, _, _, h3, h4⟩ := hfr.get (j := j) (y := y.1) (by rw [List.getElem?_eq_getElem hj, ej])
    exact ⟨h4, h3⟩
  obtain ⟨cl, ecl, hcl1, hcl2⟩ := ygg (env := X.env) scope.names [] fun n hn => I.ok.has n (.inl (hfree _ hn rfl).1)
  have hclos : closureFor scope X.env = pure cl := by
    unfold closureFor
    have : (forIn scope.names ([] : List (Str × Addr)) (fun (x : Str × NameKind) (r : List (Str × Addr)) => if (x.2 == NameKind.free) = true then do let c <- cellOf X.env x.1; pure (ForInStep.yield ((x.1, c) :: r)) else pure (ForInStep.yield r)) : Sem (List (Str × Addr))) = pure cl := ecl
    first
      | exact (by simpa using congrArg (· >>= fun r => pure r) this)
      | (rw [show (pure cl : Sem (List (Str × Addr))) = (pure cl >>= fun r => pure r) from rfl, <- this]; rfl)
  have hcle : ∀ y c, cl.lookup y = some c -> X.env.cells.lookup y = some c /\ (y, NameKind.free) ∈ scope.names := fun y c e => by
    by_cases hy : (y, NameKind.free) ∈ scope.names
    . exact ⟨by rw [<- hcl1 y hy]; exact e, hy⟩
    . rw [hcl2 y hy] at e; simp at e
  rw [eval_ListComp]
  refine wpAny_comprehension_free (use := none) rfl hs hclos hkind hnames ?_
  refine thn (hi pins s σ H _ I h) fun v s1 h1 => thn h1 fun itv s2 h2 => ?_
  obtain ⟨it, fp, tn, J, H2, e, I2, T, st2, f2, q2⟩ := h2
  subst e
  refine wpAny_newObj_type ?_
  -- the list D
  generalize hs3 : ({ s2 with heap := s2.heap.push { cls := .type "list", dict := none, data := .seq ([] : List Value).toArray } } : Shared) = s3
  generalize hD : s2.heap.objs.size = D
  have hDn : H2 D = none := by rw [<- hD]; exact I2.hok.fresh (Nat.le_refl _)
  have I3 : Inv X pins σ (upd H2 D (.lst [])) s3 := by
    rw [<- hs3, <- hD]
    exact I2.lnew (t' := s2.toks) (ys := []) (its := []) .nil (Nat.zero_le _)
  have k3 : ∀ b o, s2.heap.get? b = some o -> s3.heap.get? b = some o := fun b o e => by rw [<- hs3]; exact Heap.get?_push_of_some _ e
  have st3 : tn 0 s3.heap := T.keep _ _ _ st2 fun b _ o e => k3 b o e
  have fne : ∀ b ∈ fp, b ≠ D := fun b hb => by
    obtain ⟨o, e, _⟩ := T.obj _ _ st2 b hb
    rw [<- hD]
    exact Nat.ne_of_lt (Heap.lt_size e)
  have f3 : ∀ b ∈ fp, yuB X pins (upd H2 D (.lst [])) b := fun b hb => ⟨by rw [yU (fne b hb)]; exact (f2 b hb).1, (f2 b hb).2⟩
  have q3 := q2 D hDn
  generalize upd H2 D (.lst []) = H3 at I3 f3 q3
  obtain ⟨W, ⟨m0, w0⟩, turn⟩ := q3
  refine wpAny_newFunctionEnv hcell (by intro y hy; simp at hy) (fun h4 hns hsb => ?_) hkind
  try dsimp only at hns hsb ⊢
  generalize hC : s3.heap.objs.size = C at hns hsb ⊢
  have k4 : ∀ b o, s3.heap.get? b = some o -> h4.get? b = some o := fun b o e => (hsb.2 b (by rw [<- hC]; exact Nat.ne_of_lt (Heap.lt_size e))).trans (Heap.get?_push_of_some _ e)
  -- the block's context and its invariant
  have Cne : ∀ b o, s3.heap.get? b = some o -> b ≠ C := fun b o e => by rw [<- hC]; exact Nat.ne_of_lt (Heap.lt_size e)
  have stk := I3.stkSub
  have pinF : ∀ p ∈ X.pn ++ pins, p.1 ∉ frs X.stack := fun p hp z => by
    obtain ⟨_, _, n1, n2, _⟩ := I3.pin p hp
    rcases List.mem_cons.mp (stk _ z) with z | z
    . exact n1 z
    . exact n2 z
  have okC : (cxC X scope cl C (x :: fr) s3 H3 fp pins).Ok := by
    refine ⟨I3.ok.mod, by show (relabel scope X.env).kind = _; exact hkind, I3.ok.glob, I3.ok.blt, Nat.le_of_eq hC, fun y z c h1 h2 => I3.ok.inj y z c (hcle y c h1).1 (hcle z c h2).1, fun y hy => ?_, fun y c hf _ => (by cases hf), I3.ok.hd, I3.ok.frames, .inl rfl, fun b hb => ⟨?_, fun y c e z => ?_⟩, I3.bs, ?_, fun b o e hb => ?_, fun b hb z => ?_, I3.stack, I3.stkFree⟩
    . have hy : ((relabel scope X.env).names.lookup y = some .cell) \/ ((relabel scope X.env).names.lookup y = some .free) := hy
      rw [show (relabel scope X.env).names.lookup y = _ from ydG y scope.names] at hy
      cases e : scope.names.lookup y with
      | none => rw [e] at hy; simp at hy
      | some k =>
        have hm : (y, k) ∈ scope.names := PySem.mem_of_lookup e
        have hkf : k = .free := by
          rw [e] at hy
          cases k <;> simp at hy ⊢
          exact absurd rfl (hcell _ hm)
        subst hkf
        obtain ⟨c, hc'⟩ := I3.ok.has y (.inl (hfree _ hm rfl).1)
        exact ⟨c, by show cl.lookup y = _; rw [hcl1 y hm]; exact hc'⟩
    . obtain ⟨o, e, _⟩ := T.obj _ _ st3 b hb
      exact Cne b o e
    . exact (f3 b hb).2.2.2.2.1 y c (hcle y c e).1 z
    . exact Nat.le_trans I3.ok.bsz I3.sz
    . rcases (f3 b hb).2.2.2.1 with z | z
      . exact I3.ok.noex b o e z
      . exact absurd (Nat.lt_of_lt_of_le (Heap.lt_size e) (Nat.le_trans I3.ok.bsz z)) (Nat.lt_irrefl _)
    . rcases List.mem_cons.mp (stk _ z) with z | z
      . exact (f3 b hb).2.1 z
      . exact (f3 b hb).2.2.1 z
  have inn : ∀ v, (inner ix σ v) = some v :: ix.map fun i => (σ[i]?).getD none := fun _ => rfl
  have I4 : Inv (cxC X scope cl C (x :: fr) s3 H3 fp pins) [] (none :: ix.map fun i => (σ[i]?).getD none) H3 { s3 with heap := h4, toks := s3.toks + ([] : List (Str × Value)).length } := by
    refine ⟨okC, rfl, I3.bare, Un.kept k4, ⟨_, hns, fun j y v e1 e2 e3 => ?_⟩, fun y c e => ?_, I3.hok.fresh (Nat.le_of_eq hC), fun y c e => I3.freeC y c (hcle y c e).1, fun p hp => ?_, I3.hok.kept k4, ?_⟩
    . match j, e1, e2 with
      | 0, e1, e2 => simp at e2
      | j + 1, e1, e2 =>
        obtain ⟨i, hi1, hi2, hi3, hi4⟩ := hfr.get (j := j) (y := y) (by have e1' : (x :: fr)[j + 1]? = some y := e1; simpa using e1')
        have e2' : σ[i]? = some (some v) := by
          have e2 : (ix.map fun i => (σ[i]?).getD none)[j]? = some (some v) := by simpa using e2
          rw [List.getElem?_map, hi1] at e2
          simp at e2
          cases z : σ[i]? with
          | none => rw [z] at e2; simp at e2
          | some o => rw [z] at e2; simp at e2; rw [e2]
        obtain ⟨m, _, hl⟩ := I3.loc
        obtain ⟨u, r, l⟩ := hl i y v hi2 e2' (.inr (.inl hi4))
        refine ⟨u, r, ?_⟩
        rcases l with ⟨k, _⟩ | ⟨k, c, ec, z⟩
        . rw [hi4] at k; cases k
        . have hm : (y, NameKind.free) ∈ scope.names := PySem.mem_of_lookup hi3
          refine .inr ⟨.inl ?_, c, by show cl.lookup y = _; rw [hcl1 y hm]; exact ec, ?_⟩
          . show (relabel scope X.env).names.lookup y = _
            rw [show (relabel scope X.env).names.lookup y = _ from ydG y scope.names, hi3]
            simp [hfn, hi4]
          . obtain ⟨o, ho, hd⟩ := z
            exact ⟨o, k4 _ _ ho, hd⟩
    . obtain ⟨v, o, ho, hd⟩ := I3.cell y c (hcle y c e).1
      exact ⟨v, o, k4 _ _ ho, hd⟩
    . have hp : p ∈ X.pn ++ pins := by simpa [cxC] using hp
      obtain ⟨e, n, ne, nf, d⟩ := I3.pin p hp
      exact ⟨k4 _ _ e, n, Cne _ _ e, pinF p hp, d⟩
    . show (none :: ix.map fun i => (σ[i]?).getD none).length = (x :: fr).length
      rw [List.length_cons, List.length_cons, List.length_map, hfr.len]
  have st4 : tn 0 h4 := T.keep _ _ _ st3 fun b _ o e => k4 b o e
  have f4 : ∀ b ∈ fp, b ≠ C /\ b ∉ frs X.stack /\ (∀ y c, cl.lookup y = some c -> c ≠ b) /\ ∀ p ∈ (X.pn ++ pins) ++ ([] : List (Addr × Obj)), p.1 ≠ b := fun b hb => by
    obtain ⟨o, e, _⟩ := T.obj _ _ st3 b hb
    refine ⟨Cne b o e, fun z => ?_, fun y c e => (f3 b hb).2.2.2.2.1 y c (hcle y c e).1, fun p hp => (f3 b hb).2.2.2.2.2 p (by simpa using hp)⟩
    rcases List.mem_cons.mp (stk _ z) with z | z
    . exact (f3 b hb).2.1 z
    . exact (f3 b hb).2.2.1 z
  have stat : ∀ {H' : Hp}, (∀ b ∈ fp, H' b = none) -> ∀ b ∈ fp, yuB (cxC X scope cl C (x :: fr) s3 H3 fp pins) [] H' b := fun hn b hb => ⟨hn b hb, (f4 b hb).1, (f4 b hb).2.1, .inl hb, (f4 b hb).2.2.1, (f4 b hb).2.2.2⟩
  -- the end: back to the context around
  have fin : ∀ {σ' : St} {H' : Hp} {s' : Shared}, Inv (cxC X scope cl C (x :: fr) s3 H3 fp pins) [] σ' H' s' -> Q (.ref D) H' -> compPost (model X.prog X.w) X.A X.xe none (EP X pins σ Q) (.ref D) C (.ok .next) s' := fun {σ' H' s'} I' q' => by
    obtain ⟨m, hn, _⟩ := I'.loc
    refine ⟨m, hn, fun h' sb => ⟨.ref D, H', ?_, rfl, q'⟩⟩
    have hCn : H' C = none := I'.free
    have same : ∀ b, b ≠ C -> h'.get? b = s'.heap.get? b := fun b hb => sb.2 b hb
    have U := I'.base
    have U' : Un (frs X.stack) fp H3 H' s3.heap h' := by
      refine ⟨fun b o e n h1 h2 => ?_, fun b o e n h1 h2 => ?_, U.free, fun b o e h2 => ?_, U.tups, U.frzs, U.tbls⟩
      . rw [same b (Cne b o e)]; exact U.keep b o e n h1 h2
      . rw [same b (Cne b o e)]; exact U.slot b o e n h1 h2
      . rw [same b (Cne b o e)]; exact U.there b o e h2
    refine I3.call' (s' := { s' with heap := h' }) (by show s'.os = s3.os; exact I'.os) U' ?_ I'.bare fun b hb => ⟨(f3 b hb).2.2.2.1, (f3 b hb).2.1, (f3 b hb).2.2.2.2.1, (f3 b hb).2.2.2.2.2⟩
    intro b ob e
    refine (I'.hok b ob e).stay (fun c w' hc q => ?_) (fun _ q => q) fun _ _ q => q
    show h'.get? c = _
    rw [same c ?_]
    . exact q
    rintro rfl
    rcases hc with rfl | hc
    . rw [hCn] at e; cases e
    . rw [hCn] at hc; cases hc
  -- the loop
  have loop : ∀ s5 : Shared, s5 = { s3 with heap := h4, toks := s3.toks + ([] : List (Str × Value)).length } ->
      codeAny (model X.prog X.w) X.A (.compLoop (.ListComp elt [⟨.Name x px, iter, [], 0⟩] scope cpos) 0 (.ref it) (.ref D) (compEnvC scope cl C X.env)) (compPost (model X.prog X.w) X.A X.xe none (EP X pins σ Q) (.ref D) C) s5 := by
    rintro s5 rfl
    refine codeAny_loop rfl (fun n s' => ∃ i o H', Inv (cxC X scope cl C (x :: fr) s3 H3 fp pins) [] (o :: ix.map fun i => (σ[i]?).getD none) H' s' /\ tn i s'.heap /\ (∀ b ∈ fp, H' b = none) /\ W i n H') ?_ m0 ⟨0, none, H3, I4, st4, fun b hb => (f3 b hb).1, w0⟩
    rintro n s6 ⟨i, o, H6, I6, st6, fr6, w6⟩
    show wpAny _ _ ((compTurn (.ListComp elt [⟨.Name x px, iter, [], 0⟩] scope cpos) 0 (.ref it) (.ref D) (compEnvC scope cl C X.env)).onRaise (fun x => do noteFrame x (compEnvC scope cl C X.env); theTreesLotGoes x)) _ _ s6
    refine wpAny_noted ?_
    rw [compTurn_list1]
    rcases turn i n H6 w6 with ⟨stop, qn⟩ | ⟨go, step⟩
    . refine wpAny_bind (wpAny_standAt (wpAny_bind (thn (T.done (cxC X scope cl C (x :: fr) s3 H3 fp pins) rfl rfl rfl hc i [] s6 _ H6 _ I6 (stat fr6) st6 stop) fun r s7 ⟨hr, I7⟩ => ?_)))
      subst hr
      exact wpAny_pure (fin I7 qn)
    . refine wpAny_bind (wpAny_standAt (wpAny_bind (thn (T.item (cxC X scope cl C (x :: fr) s3 H3 fp pins) rfl rfl rfl hc i [] s6 _ H6 _ I6 (stat fr6) st6 go) fun r s7 ⟨u, hr, h7⟩ => ?_)))
      subst hr
      refine wpAny_bind (thn h7 fun _ s8 ⟨y, H8, I8, r8, y8, st8, fr8⟩ => ?_)
      have I8' := I8.pinned (stat fr8) (T.obj _ _ st8)
      have hx' : Loc (cxC X scope cl C (x :: fr) s3 H3 fp pins).env.scope x := .inl (lookup_relabel_local hx)
      refine wpAny_bind (wpAny_mono (ynN (X := cxC X scope cl C (x :: fr) s3 H3 fp pins) (i := 0) (x := x) (pos := px) hnd rfl hx' (.inr (lookup_relabel_local hx)) _ s8 _ H8 y u (fun σ9 H9 => σ9 = inner ix σ y /\ H9 = H8) I8' r8 ⟨rfl, rfl⟩) (fun _ s9 ⟨σ9, H9, I9, e9, e9'⟩ => ?_) fun _ _ f => f.elim)
      subst e9 e9'
      refine wpAny_bind (wpAny_bind (wpAny_mono (he cl C s3 H3 fp pins _ s9 _ _ _ I9 (step y _ y8)) (fun v s10 ⟨z, H10, I10, r10, acc, a10, l10, m', hm', w10⟩ => ?_) fun _ _ f => f.elim))
      refine wpAny_bind (wpAny_mono (yfI (X := cxC X scope cl C (x :: fr) s3 H3 fp pins) _ s10 _ H10 (.ref D) [z] (.ref D) [v] (fun _ H11 => H11 = upd H10 D (.lst (acc ++ [z]))) I10 rfl (.cons r10 .nil) ⟨D, acc, z, rfl, rfl, a10, l10, rfl⟩) (fun _ s11 ⟨_, H11, I11, _, e11⟩ => ?_) fun _ _ f => f.elim)
      subst e11
      refine wpAny_pure (wpAny_pure ⟨rfl, m', hm', i + 1, some y, _, I11.unpinned, T.keep _ _ _ st8 fun b hb o e => (I11.pin (b, o) (List.mem_append_right _ (List.mem_append_right _ (yeF hb e)))).1, fun b hb => ?_, w10⟩)
      obtain ⟨o, e, d⟩ := T.obj _ _ st8 b hb
      exact (I11.pin (b, o) (List.mem_append_right _ (List.mem_append_right _ (yeF hb e)))).2.1
  exact codeAny_compStart_list (loop _ rfl) (T.self X.A 0 _ _ _ st4 (loop _ rfl))
end L2
namespace L2
open PySem PySem.Spec PyProof.Rows
section
variable {X : Cx} {tg : Expr}
theorem yxa (hc : X.calm = true) : yjf X (.builtin "sum") yFP := by
  intro pins s σ H xs us Q I r h
  obtain ⟨p, ns, rfl, hp, q⟩ := h
  obtain ⟨u, rfl, rx⟩ := vals1 r
  cases rx
  obtain ⟨its, n, rv, e, hz⟩ := I.lst hp
  have hi : IntsAre its ns := intsAre_of rv
  have hl : s.heap.IsList p its.toArray := ⟨_, e, rfl, n, rfl⟩
  obtain ⟨xs, hx⟩ := hi.allInts.items
  have hl' : s.heap.IsList p (intItems xs) := hx ▸ hl
  refine sum_intListG (I.ok.hd hc) hl' fun h' tk t' hk => ?_
  have e1 : ns = xs.toList.map (·.1) := by
    rw [<- nums_intItems, <- hx]
    exact (show numsOf its.toArray.toList = ns from hi.numsOf).symm
  have e2 : preSum (numAt xs) xs.size = ns.sum := by
    rw [preSum_eq, List.take_of_length_le (by simp), e1]
  rw [e2]
  exact ⟨.int ns.sum, H, I.kept (t' := tk) hk, ⟨_, rfl⟩, q⟩
theorem yCt : SlR X yFO := by
  intro pins s σ H x v vl vu lo hi sl Q I rx hs pl pu h
  obtain ⟨z, rfl, hz, q⟩ := h
  obtain ⟨t, rfl⟩ := rx
  have pv' : ∀ {w' : Value} {o : Option Int}, IsPart w' o -> ∃ p : Option (Int × Tok), w' = partValue p /\ p.map (·.1) = o := fun {w' o} p => by
    cases p with
    | none => exact ⟨none, rfl, rfl⟩
    | int i t => exact ⟨some (i, t), rfl, rfl⟩
  obtain ⟨l, el, ml⟩ := pv' pl
  obtain ⟨u, eu, mu⟩ := pv' pu
  obtain ⟨o, ho, hc, hd⟩ := hs
  refine ⟨"str", _, F.slot_str_getitem.lookup, typeIs_str _ _ _, wpAny_getItem_str_slice (l := l) (u := u) (st := none) ⟨o, ho, hc, by rw [hd, el, eu]; rfl⟩ rfl ?_⟩
  have hz' : z.length <= sizeLine := Nat.le_trans hz (by decide)
  have e : ∀ t' k, EP X pins σ Q (.str (Txt.slice z lo hi) t') { s with toks := k } := fun t' k => by
    rw [yuW]
    exact ⟨.str _, H, I.tok k, ⟨_, rfl⟩, q⟩
  have e2 : sliceMade z t l u none = (if ((1 : Int) == 1 && (Builtin.Str.strSliceIndices lo hi 1 z.length).length == z.length) = true then Made.val (.str z t) else .str ⟨((Builtin.Str.strSliceIndices lo hi 1 z.length).filterMap (z.cps[·]?)).toArray⟩) := by
    unfold sliceMade slicePicked
    rw [ml, mu]
    rfl
  rw [e2]
  exact post_val_or_str ⟨Nat.le_trans (Txt.slice_le z _ _) hz', e⟩
end
end L2
namespace L2
open PySem PySem.Spec PyProof.Rows
section
variable {X : Cx}
theorem yL : yjf X (.builtin "isinstance") (yFN X.K) := by
 intro pins s σ H xs us Q I r h
 obtain ⟨x, c, b, rfl, ⟨t, u', ty, hc, hk⟩, q⟩ := h
 obtain ⟨u, w', rfl, ru, rc⟩ := vals2 r
 have e : w' = u' := by
  cases c <;> first | (cases hc; exact rc) | cases hc
 subst e
 exact yuL I ru ty hk fun tk => ⟨.bl b, H, I.tok tk, rfl, q⟩
end
end L2
namespace L2
open PySem PySem.Spec PyProof.Rows
theorem yhI : bootBuiltins "len" = some (.builtin "len") := by decide +kernel
theorem yCu : bootBuiltins "sum" = some (.builtin "sum") := by decide +kernel
theorem yr : bootBuiltins "isinstance" = some (.builtin "isinstance") := by decide +kernel
theorem ysH : bootBuiltins "int" = some (.type "int") := by decide +kernel
theorem yyM : bootBuiltins "str" = some (.type "str") := by decide +kernel
theorem yzT : bootBuiltins "bool" = some (.type "bool") := by decide +kernel
theorem ygT : bootBuiltins "list" = some (.type "list") := by decide +kernel
theorem ysI : bootBuiltins "tuple" = some (.type "tuple") := by decide +kernel
section
variable {X : Cx}
theorem yzU {x : Str} {n : Int} {t : Tok} {pos : Pos} (hg : Gl X x) (hm : X.mg x = some (.int n t)) (hd : (x == ("__debug__" : Str)) = false := by decide) : PE X (.Name x pos) (tC (.int n)) := yrm hg hm ⟨t, rfl⟩ hd
theorem yzV {x : Str} {n : Str} {t : Tok} {pos : Pos} (hg : Gl X x) (hm : X.mg x = some (.str n t)) (hd : (x == ("__debug__" : Str)) = false := by decide) : PE X (.Name x pos) (tC (.str n)) := yrm hg hm ⟨t, rfl⟩ hd
theorem yrv {x : Str} {a : Addr} {pos : Pos} (hg : Gl X x) (hm : X.mg x = some (.ref a)) (hd : (x == ("__debug__" : Str)) = false := by decide) : PE X (.Name x pos) (tC (.ref a)) := yrm hg hm rfl hd
theorem yCv {x : Str} {n : String} {pos : Pos} (hg : Gl X x) (hm : X.mg x = none) (hv : bootBuiltins x = some (.type n)) (hn : x ≠ "__name__" := by decide) (hd : (x == ("__debug__" : Str)) = false := by decide) : PE X (.Name x pos) (tC (.ty n)) := yzv hg hm hv rfl hn hd
end
end L2
namespace L2
open PySem PySem.Spec PyProof.Rows
theorem yrw {K : PySem.W.Frag} {H : Hp} {i : Int} : IsI K H (.int i) (.ty "str") false := ⟨_, _, .int i, rfl, by with_unfolding_all rfl⟩
theorem ypT {K : PySem.W.Frag} {H : Hp} {i : Int} : IsI K H (.int i) (.ty "list") false := ⟨_, _, .int i, rfl, by with_unfolding_all rfl⟩
theorem ynS {K : PySem.W.Frag} {H : Hp} {i : Int} : IsI K H (.int i) (.ty "tuple") false := ⟨_, _, .int i, rfl, by with_unfolding_all rfl⟩
theorem ypU {K : PySem.W.Frag} {H : Hp} {i : Int} : IsI K H (.int i) (.ty "dict") false := ⟨_, _, .int i, rfl, by with_unfolding_all rfl⟩
theorem ytJ {K : PySem.W.Frag} {H : Hp} {i : Bool} : IsI K H (.bl i) (.ty "int") true := ⟨_, _, .bl i, rfl, by with_unfolding_all rfl⟩
theorem ytK {K : PySem.W.Frag} {H : Hp} {i : Bool} : IsI K H (.bl i) (.ty "str") false := ⟨_, _, .bl i, rfl, by with_unfolding_all rfl⟩
theorem yrx {K : PySem.W.Frag} {H : Hp} {i : Bool} : IsI K H (.bl i) (.ty "list") false := ⟨_, _, .bl i, rfl, by with_unfolding_all rfl⟩
theorem ypV {K : PySem.W.Frag} {H : Hp} {i : Bool} : IsI K H (.bl i) (.ty "tuple") false := ⟨_, _, .bl i, rfl, by with_unfolding_all rfl⟩
theorem yry {K : PySem.W.Frag} {H : Hp} {i : Bool} : IsI K H (.bl i) (.ty "dict") false := ⟨_, _, .bl i, rfl, by with_unfolding_all rfl⟩
theorem yrz {K : PySem.W.Frag} {H : Hp} {i : Str} : IsI K H (.str i) (.ty "int") false := ⟨_, _, .str i, rfl, by with_unfolding_all rfl⟩
theorem ypW {K : PySem.W.Frag} {H : Hp} {i : Str} : IsI K H (.str i) (.ty "bool") false := ⟨_, _, .str i, rfl, by with_unfolding_all rfl⟩
theorem ypX {K : PySem.W.Frag} {H : Hp} {i : Str} : IsI K H (.str i) (.ty "list") false := ⟨_, _, .str i, rfl, by with_unfolding_all rfl⟩
theorem ynT {K : PySem.W.Frag} {H : Hp} {i : Str} : IsI K H (.str i) (.ty "tuple") false := ⟨_, _, .str i, rfl, by with_unfolding_all rfl⟩
theorem ypY {K : PySem.W.Frag} {H : Hp} {i : Str} : IsI K H (.str i) (.ty "dict") false := ⟨_, _, .str i, rfl, by with_unfolding_all rfl⟩
theorem ypZ {K : PySem.W.Frag} {H : Hp} : IsI K H (.non) (.ty "bool") false := ⟨_, _, .non, rfl, by with_unfolding_all rfl⟩
theorem yrA {K : PySem.W.Frag} {H : Hp} : IsI K H (.non) (.ty "str") false := ⟨_, _, .non, rfl, by with_unfolding_all rfl⟩
theorem yqa {K : PySem.W.Frag} {H : Hp} : IsI K H (.non) (.ty "list") false := ⟨_, _, .non, rfl, by with_unfolding_all rfl⟩
theorem ynU {K : PySem.W.Frag} {H : Hp} : IsI K H (.non) (.ty "tuple") false := ⟨_, _, .non, rfl, by with_unfolding_all rfl⟩
theorem yqb {K : PySem.W.Frag} {H : Hp} : IsI K H (.non) (.ty "dict") false := ⟨_, _, .non, rfl, by with_unfolding_all rfl⟩
theorem yrB {K : PySem.W.Frag} {H : Hp} {a : Addr} {xs : List V} (e : H a = some (.lst xs)) : IsI K H (.ref a) (.ty "int") false := ⟨_, _, .lst e, rfl, by with_unfolding_all rfl⟩
theorem yqc {K : PySem.W.Frag} {H : Hp} {a : Addr} {xs : List V} (e : H a = some (.lst xs)) : IsI K H (.ref a) (.ty "bool") false := ⟨_, _, .lst e, rfl, by with_unfolding_all rfl⟩
theorem yrC {K : PySem.W.Frag} {H : Hp} {a : Addr} {xs : List V} (e : H a = some (.lst xs)) : IsI K H (.ref a) (.ty "str") false := ⟨_, _, .lst e, rfl, by with_unfolding_all rfl⟩
theorem ynV {K : PySem.W.Frag} {H : Hp} {a : Addr} {xs : List V} (e : H a = some (.lst xs)) : IsI K H (.ref a) (.ty "tuple") false := ⟨_, _, .lst e, rfl, by with_unfolding_all rfl⟩
theorem yqd {K : PySem.W.Frag} {H : Hp} {a : Addr} {xs : List V} (e : H a = some (.lst xs)) : IsI K H (.ref a) (.ty "dict") false := ⟨_, _, .lst e, rfl, by with_unfolding_all rfl⟩
theorem ynW {K : PySem.W.Frag} {H : Hp} {a : Addr} (e : (∃ xs, H a = some (.tup xs)) \/ ∃ o, K.lookup a = some o /\ o.cls = .type "tuple") : IsI K H (.ref a) (.ty "tuple") true := e.elim (fun ⟨_, e⟩ => ⟨_, _, .tup e, rfl, by with_unfolding_all rfl⟩) fun ⟨_, e, c⟩ => ⟨_, _, .kt e c, rfl, by with_unfolding_all rfl⟩
theorem yrD {K : PySem.W.Frag} {H : Hp} {a : Addr} (e : (∃ xs, H a = some (.tup xs)) \/ ∃ o, K.lookup a = some o /\ o.cls = .type "tuple") : IsI K H (.ref a) (.ty "int") false := e.elim (fun ⟨_, e⟩ => ⟨_, _, .tup e, rfl, by with_unfolding_all rfl⟩) fun ⟨_, e, c⟩ => ⟨_, _, .kt e c, rfl, by with_unfolding_all rfl⟩
theorem yqe {K : PySem.W.Frag} {H : Hp} {a : Addr} (e : (∃ xs, H a = some (.tup xs)) \/ ∃ o, K.lookup a = some o /\ o.cls = .type "tuple") : IsI K H (.ref a) (.ty "bool") false := e.elim (fun ⟨_, e⟩ => ⟨_, _, .tup e, rfl, by with_unfolding_all rfl⟩) fun ⟨_, e, c⟩ => ⟨_, _, .kt e c, rfl, by with_unfolding_all rfl⟩
theorem yrE {K : PySem.W.Frag} {H : Hp} {a : Addr} (e : (∃ xs, H a = some (.tup xs)) \/ ∃ o, K.lookup a = some o /\ o.cls = .type "tuple") : IsI K H (.ref a) (.ty "str") false := e.elim (fun ⟨_, e⟩ => ⟨_, _, .tup e, rfl, by with_unfolding_all rfl⟩) fun ⟨_, e, c⟩ => ⟨_, _, .kt e c, rfl, by with_unfolding_all rfl⟩
theorem yqf {K : PySem.W.Frag} {H : Hp} {a : Addr} (e : (∃ xs, H a = some (.tup xs)) \/ ∃ o, K.lookup a = some o /\ o.cls = .type "tuple") : IsI K H (.ref a) (.ty "list") false := e.elim (fun ⟨_, e⟩ => ⟨_, _, .tup e, rfl, by with_unfolding_all rfl⟩) fun ⟨_, e, c⟩ => ⟨_, _, .kt e c, rfl, by with_unfolding_all rfl⟩
theorem yqg {K : PySem.W.Frag} {H : Hp} {a : Addr} (e : (∃ xs, H a = some (.tup xs)) \/ ∃ o, K.lookup a = some o /\ o.cls = .type "tuple") : IsI K H (.ref a) (.ty "dict") false := e.elim (fun ⟨_, e⟩ => ⟨_, _, .tup e, rfl, by with_unfolding_all rfl⟩) fun ⟨_, e, c⟩ => ⟨_, _, .kt e c, rfl, by with_unfolding_all rfl⟩
end L2
namespace L2
open PySem PySem.Spec PyProof.Rows
theorem ylq {K : PySem.W.Frag} {C : Addr} : PySem.W.kitOne K (.ref C) (.ref C) = some true := by
 unfold PySem.W.kitOne
 have : ((Value.ref C) == (Value.ref C)) = true := by simp
 rw [if_pos this]
theorem yxb {K : PySem.W.Frag} {C C' : Addr} {b : Bool} (hm : PySem.W.mroIn K C' (.type "object") = some true) (ht : PySem.W.typeIn K (.ref C') = some (.type "type")) (hs : PySem.W.subIn K (.ref C) (.ref C') = some b) : PySem.W.kitCls K (.ref C) (.ref C') = some b := by
 unfold PySem.W.kitCls
 have h1 : (PySem.W.clsIn K C').isSome = true := by
  unfold PySem.W.mroIn at hm
  cases e : PySem.W.clsIn K C' with
  | none => rw [e] at hm; cases hm
  | some c => rfl
 have h2 : (PySem.W.typeIn K (.ref C') == some (.type "type")) = true := by rw [ht]; simp
 show (if _ then _ else _) = _
 rw [if_pos (by rw [h1, h2]; rfl)]
 exact hs
theorem yy {K : PySem.W.Frag} {C C' : Addr} (hn : (C == C') = false) (hm : PySem.W.mroIn K C' (.type "object") = some true) (ht : PySem.W.typeIn K (.ref C') = some (.type "type")) (hs : PySem.W.subIn K (.ref C) (.ref C') = some false) : PySem.W.kitOne K (.ref C) (.ref C') = some false := by
 unfold PySem.W.kitOne
 have : ¬ ((Value.ref C) == (Value.ref C')) = true := by
  intro z
  have z := eq_of_beq z
  cases z
  simp at hn
 rw [if_neg this]
 exact yxb hm ht hs
theorem all_cons {α : Type} {p : α -> Prop} {a : α} {l : List α} (h : p a) (t : ∀ x ∈ l, p x) : ∀ x ∈ a :: l, p x := fun x hx => by
  rcases List.mem_cons.mp hx with e | e
  . rw [e]; exact h
  . exact t x e
end L2
namespace PX
open PySem L2
structure Ck where
 K : PySem.W.Frag
 A : Nat -> Addr
inductive PV where
 | non | bl (b : Bool) | int (i : Int) | str (s : Str) | ty (n : String) | cls (k : Nat)
 | scr (ns : List Int)
 | lst (xs : List PV) | tup (xs : List PV)
 | ins (k : Nat) (ns : List Str) (xs : List PV)
 | loc (n : Nat)
inductive Nd where
 | lst (xs : List PV) | dct (ks : List Key) (xs : List PV) | fz (ks : List Key) (xs : List PV) | ins (k : Nat) (ns : List Str) (xs : List PV) | dead
abbrev AH := List Nd
inductive PVar where | no | val (x : PV) | own (d : Nd)
abbrev PSt := List PVar
inductive Out where | nx (ρ : PSt) | rt (x : PV) | bk (ρ : PSt) | ct (ρ : PSt)
abbrev XE := PSt -> AH -> Option (PV × AH)
abbrev XT := PSt -> AH -> Option (Bool × AH)
abbrev XA := PSt -> AH -> Option (List PV × AH)
abbrev XO := PSt -> AH -> Option (Nd × AH)
abbrev XS := PSt -> AH -> Option (Out × AH)
abbrev Fn := List PV -> AH -> Option (PV × AH)
def KTp (K : PySem.W.Frag) (a : Addr) (xs : List V) : Prop := ∃ (o : Obj) (its : Array Value) (n : Nat), K.lookup a = some o /\ o.cls = .type "tuple" /\ o.data = .seq its n /\ its.size <= sizeLine /\ Vals xs its.toList
def TpAt (K : PySem.W.Frag) (F : Hp) (a : Addr) (xs : List V) : Prop := F a = some (.tup xs) \/ KTp K a xs
theorem TpAt.mono {K : PySem.W.Frag} {F F' : Hp} {a : Addr} {xs : List V} (s : Same F F') (h : TpAt K F a xs) : TpAt K F' a xs := h.elim (fun h => .inl (s _ _ h)) .inr
mutual
def Rep (K : Ck) (F : Hp) (m : List Addr) : PV -> V -> Prop
 | .non, v => v = .non
 | .bl b, v => v = .bl b
 | .int i, v => v = .int i
 | .str s, v => v = .str s
 | .ty n, v => v = .ty n
 | .cls k, v => v = .ref (K.A k)
 | .scr ns, v => ∃ a, v = .ref a /\ SqL K.K F a (ns.map V.int)
 | .lst xs, v => ∃ a vs, v = .ref a /\ F a = some (.lst vs) /\ RepL K F m xs vs
 | .tup xs, v => ∃ a vs, v = .ref a /\ TpAt K.K F a vs /\ RepL K F m xs vs
 | .ins k ns xs, v => ∃ a dx vs, v = .ref a /\ F a = some (.ins (K.A k) dx (ns.zip vs)) /\ vs.length = ns.length /\ RepL K F m xs vs
 | .loc n, v => ∃ a, v = .ref a /\ m[n]? = some a
def RepL (K : Ck) (F : Hp) (m : List Addr) : List PV -> List V -> Prop
 | [], vs => vs = []
 | x :: xs, vs => ∃ v r, vs = v :: r /\ Rep K F m x v /\ RepL K F m xs r
end
section
variable {K : Ck} {F F' H H' : Hp} {m m' : List Addr}
theorem ykf {n : Nat} {a : Addr} (p : m <+: m') (h : m[n]? = some a) : m'[n]? = some a := by
 obtain ⟨r, rfl⟩ := p
 rw [List.getElem?_append_left (List.getElem?_eq_some_iff.mp h).1]; exact h
mutual
theorem Rep.mono (s : Same F F') (p : m <+: m') : ∀ (x : PV) (v : V), Rep K F m x v -> Rep K F' m' x v
 | .non, _, h => h
 | .bl _, _, h => h
 | .int _, _, h => h
 | .str _, _, h => h
 | .ty _, _, h => h
 | .cls _, _, h => h
 | .scr _, _, ⟨a, e, h⟩ => ⟨a, e, s.seq h⟩
 | .lst xs, _, ⟨a, vs, e, h, r⟩ => ⟨a, vs, e, s _ _ h, RepL.mono s p xs vs r⟩
 | .tup xs, _, ⟨a, vs, e, h, r⟩ => ⟨a, vs, e, h.mono s, RepL.mono s p xs vs r⟩
 | .ins _ _ xs, _, ⟨a, dx, vs, e, h, l, r⟩ => ⟨a, dx, vs, e, s _ _ h, l, RepL.mono s p xs vs r⟩
 | .loc _, _, ⟨a, e, h⟩ => ⟨a, e, ykf p h⟩
theorem RepL.mono (s : Same F F') (p : m <+: m') : ∀ (xs : List PV) (vs : List V), RepL K F m xs vs -> RepL K F' m' xs vs
 | [], _, h => h
 | x :: xs, _, ⟨v, r, e, h, l⟩ => ⟨v, r, e, Rep.mono s p x v h, RepL.mono s p xs r l⟩
end
theorem RepL.len : ∀ {xs : List PV} {vs : List V}, RepL K F m xs vs -> vs.length = xs.length
 | [], _, h => by rw [show _ = [] from h]; rfl
 | x :: xs, _, ⟨v, r, e, h, l⟩ => by rw [e, List.length_cons, List.length_cons, RepL.len l]
theorem RepL.get : ∀ {xs : List PV} {vs : List V} {i : Nat} {x : PV}, RepL K F m xs vs -> xs[i]? = some x -> ∃ v, vs[i]? = some v /\ Rep K F m x v
 | x :: xs, _, 0, y, ⟨v, r, e, h, l⟩, q => by
  simp at q; subst q; subst e; exact ⟨v, rfl, h⟩
 | x :: xs, _, i + 1, y, ⟨v, r, e, h, l⟩, q => by
  subst e
  obtain ⟨w, h1, h2⟩ := RepL.get (i := i) l (by simpa using q)
  exact ⟨w, by simpa using h1, h2⟩
theorem RepL.get' {xs : List PV} {vs : List V} {i : Nat} {v : V} (h : RepL K F m xs vs) (e : vs[i]? = some v) : ∃ x, xs[i]? = some x /\ Rep K F m x v := by
 have hl := h.len
 have hi : i < vs.length := (List.getElem?_eq_some_iff.mp e).1
 have hx : xs[i]? = some xs[i] := List.getElem?_eq_getElem (by omega)
 obtain ⟨w, h1, h2⟩ := h.get hx
 rw [e] at h1; cases h1
 exact ⟨_, hx, h2⟩
theorem RepL.app : ∀ {xs ys : List PV} {vs us : List V}, RepL K F m xs vs -> RepL K F m ys us -> RepL K F m (xs ++ ys) (vs ++ us)
 | [], _, _, _, h, k => by rw [show _ = [] from h]; exact k
 | x :: xs, ys, _, us, ⟨v, r, e, h, l⟩, k => by subst e; exact ⟨v, r ++ us, rfl, h, RepL.app l k⟩
theorem RepL.snoc {xs : List PV} {vs : List V} {x : PV} {v : V} (h : RepL K F m xs vs) (k : Rep K F m x v) : RepL K F m (xs ++ [x]) (vs ++ [v]) := h.app ⟨v, [], rfl, k, rfl⟩
theorem RepL.drop : ∀ {xs : List PV} {vs : List V} (n : Nat), RepL K F m xs vs -> RepL K F m (xs.drop n) (vs.drop n)
 | _, _, 0, h => by simpa using h
 | [], _, n + 1, h => by rw [show _ = [] from h]; rfl
 | x :: xs, _, n + 1, ⟨v, r, e, h, l⟩ => by subst e; simpa using RepL.drop n l
theorem RepL.take : ∀ {xs : List PV} {vs : List V} (n : Nat), RepL K F m xs vs -> RepL K F m (xs.take n) (vs.take n)
 | _, _, 0, h => by simp; rfl
 | [], _, n + 1, h => by rw [show _ = [] from h]; rfl
 | x :: xs, _, n + 1, ⟨v, r, e, h, l⟩ => by subst e; exact ⟨v, r.take n, rfl, h, RepL.take n l⟩
theorem RepL.set : ∀ {xs : List PV} {vs : List V} {x : PV} {v : V} (i : Nat), RepL K F m xs vs -> Rep K F m x v -> RepL K F m (xs.set i x) (vs.set i v)
 | [], _, _, _, _, h, _ => by rw [show _ = [] from h]; rfl
 | y :: xs, _, x, v, 0, ⟨w, r, e, h, l⟩, k => by subst e; exact ⟨v, r, rfl, k, l⟩
 | y :: xs, _, x, v, i + 1, ⟨w, r, e, h, l⟩, k => by subst e; exact ⟨w, r.set i v, rfl, h, RepL.set i l k⟩
theorem RepL.of_ints : ∀ (ns : List Int), RepL K F m (ns.map PV.int) (ns.map V.int)
 | [] => rfl
 | n :: ns => ⟨_, _, rfl, rfl, RepL.of_ints ns⟩
end
def NdAt (K : Ck) (F H : Hp) (m : List Addr) : Nd -> Addr -> Prop
 | .dead, a => ∃ o, H a = some o
 | .lst xs, a => F a = none /\ ∃ vs, H a = some (.lst vs) /\ RepL K F m xs vs
 | .dct ks xs, a => F a = none /\ ∃ vs, H a = some (.dK (ks.zip vs)) /\ vs.length = ks.length /\ RepL K F m xs vs
 | .fz ks xs, a => F a = none /\ ∃ o vs, H a = some (.frz o (.dK (ks.zip vs))) /\ vs.length = ks.length /\ RepL K F m xs vs
 | .ins k ns xs, a => F a = none /\ ∃ dx vs, H a = some (.ins (K.A k) dx (ns.zip vs)) /\ vs.length = ns.length /\ RepL K F m xs vs
structure Wd where
 F : Hp
 H : Hp
 m : List Addr
 h : AH
structure WOk (K : Ck) (W : Wd) : Prop where
 le : Same W.F W.H
 len : W.m.length = W.h.length
 nd : W.m.Nodup
 at_ : ∀ (n : Nat) (d : Nd) (a : Addr), W.h[n]? = some d -> W.m[n]? = some a -> NdAt K W.F W.H W.m d a
structure Le (K : Ck) (W W' : Wd) : Prop where
 ok : WOk K W'
 fs : Same W.F W'.F
 pre : W.m <+: W'.m
 keep : ∀ b o, W.H b = some o -> b ∉ W.m -> W'.H b = some o
 new : ∀ b o, W.H b = some o -> b ∉ W.m -> W.F b = none -> W'.F b = none
 mn : ∀ b ∈ W'.m, b ∉ W.m -> W.H b = none
 fz : ∀ (n : Nat) (ks : List Key) (xs : List PV), W.h[n]? = some (.fz ks xs) -> W'.h[n]? = some (.fz ks xs) /\ ∀ a, W.m[n]? = some a -> W'.H a = W.H a
theorem Le.refl {K : Ck} {W : Wd} (h : WOk K W) : Le K W W := ⟨h, Same.refl _, List.prefix_refl _, fun _ _ e _ => e, fun _ _ _ _ e => e, fun _ h h' => absurd h h', fun _ _ _ e => ⟨e, fun _ _ => rfl⟩⟩
theorem Le.trans {K : Ck} {W W1 W2 : Wd} (a : Le K W W1) (b : Le K W1 W2) : Le K W W2 where
  ok := b.ok
  fs := a.fs.trans b.fs
  pre := a.pre.trans b.pre
  keep := fun c o e n => b.keep c o (a.keep c o e n) fun z => by rw [a.mn c z n] at e; cases e
  new := fun c o e n f => b.new c o (a.keep c o e n) (fun z => by rw [a.mn c z n] at e; cases e) (a.new c o e n f)
  mn := fun c z n => by
    by_cases hc : c ∈ W1.m
    . exact a.mn c hc n
    . have := b.mn c z hc
      cases e : W.H c with
      | none => rfl
      | some o => rw [a.keep c o e n] at this; cases this
  fz := fun n ks xs e => by
    obtain ⟨e1, q1⟩ := a.fz n ks xs e
    obtain ⟨e2, q2⟩ := b.fz n ks xs e1
    exact ⟨e2, fun c em => (q2 c (ykf a.pre em)).trans (q1 c em)⟩
abbrev yek (K : Ck) (W : Wd) (x : PV) (v : V) : Prop := Rep K W.F W.m x v
abbrev yfc (K : Ck) (W : Wd) (x : List PV) (v : List V) : Prop := RepL K W.F W.m x v
theorem Le.rep {K : Ck} {W W' : Wd} (l : Le K W W') {x : PV} {v : V} (h : yek K W x v) : yek K W' x v := Rep.mono l.fs l.pre x v h
theorem Le.repL {K : Ck} {W W' : Wd} (l : Le K W W') {x : List PV} {v : List V} (h : yfc K W x v) : yfc K W' x v := RepL.mono l.fs l.pre x v h
theorem NdAt.mono {K : Ck} {F F' H H' : Hp} {m m' : List Addr} (s : Same F F') (p : m <+: m') {d : Nd} {a : Addr} (hH : ∀ o, H a = some o -> H' a = some o) (hF : F a = none -> F' a = none) (h : NdAt K F H m d a) : NdAt K F' H' m' d a := by
 cases d with
 | dead => obtain ⟨o, e⟩ := h; exact ⟨o, hH _ e⟩
 | lst xs => obtain ⟨f, vs, e, r⟩ := h; exact ⟨hF f, vs, hH _ e, RepL.mono s p _ _ r⟩
 | dct ks xs => obtain ⟨f, vs, e, l, r⟩ := h; exact ⟨hF f, vs, hH _ e, l, RepL.mono s p _ _ r⟩
 | fz ks xs => obtain ⟨f, o, vs, e, l, r⟩ := h; exact ⟨hF f, o, vs, hH _ e, l, RepL.mono s p _ _ r⟩
 | ins C ns xs => obtain ⟨f, dx, vs, e, l, r⟩ := h; exact ⟨hF f, dx, vs, hH _ e, l, RepL.mono s p _ _ r⟩
theorem NdAt.some {K : Ck} {F H : Hp} {m : List Addr} {d : Nd} {a : Addr} (h : NdAt K F H m d a) : ∃ o, H a = some o := by
 cases d with
 | dead => exact h
 | lst xs => obtain ⟨f, vs, e, r⟩ := h; exact ⟨_, e⟩
 | dct ks xs => obtain ⟨f, vs, e, r⟩ := h; exact ⟨_, e⟩
 | fz ks xs => obtain ⟨f, o, vs, e, r⟩ := h; exact ⟨_, e⟩
 | ins C ns xs => obtain ⟨f, dx, vs, e, r⟩ := h; exact ⟨_, e⟩
structure Good (K : Ck) (W0 W : Wd) (ρ : PSt) (σ : St) : Prop where
 le : Le K W0 W
 len : σ.length = ρ.length
 val : ∀ (i : Nat) (x : PV), ρ[i]? = some (.val x) -> ∃ v, σ[i]? = some (some v) /\ yek K W x v
 own : ∀ (i : Nat) (d : Nd), ρ[i]? = some (.own d) -> ∃ p, σ[i]? = some (some (.ref p)) /\ p ∉ W.m /\ W0.H p = none /\ d ≠ .dead /\ NdAt K W.F W.H W.m d p
 ne : ∀ (i j : Nat) (d d' : Nd), i ≠ j -> ρ[i]? = some (.own d) -> ρ[j]? = some (.own d') -> σ[i]? ≠ σ[j]?
theorem Good.ok {K : Ck} {W0 W : Wd} {ρ : PSt} {σ : St} (g : Good K W0 W ρ σ) : WOk K W := g.le.ok
theorem Good.step {K : Ck} {W0 W W' : Wd} {ρ : PSt} {σ : St} (g : Good K W0 W ρ σ) (l : Le K W W') : Good K W0 W' ρ σ where
 le := g.le.trans l
 len := g.len
 val := fun i x e => let ⟨v, h1, h2⟩ := g.val i x e; ⟨v, h1, l.rep h2⟩
 own := fun i d e => by
  obtain ⟨p, h1, h2, h3, h4, h5⟩ := g.own i d e
  obtain ⟨o, ho⟩ := h5.some
  have n' : p ∉ W'.m := fun z => by rw [l.mn p z h2] at ho; cases ho
  refine ⟨p, h1, n', h3, h4, h5.mono l.fs l.pre (fun o e => l.keep p o e h2) fun f => l.new p o ho h2 f⟩
 ne := g.ne
theorem WOk.some {K : Ck} {W : Wd} (w : WOk K W) {a : Addr} (h : a ∈ W.m) : ∃ o, W.H a = some o := by
 obtain ⟨n, hn, e⟩ := List.getElem_of_mem h
 have hl : n < W.h.length := by rw [<- w.len]; exact hn
 exact (w.at_ n W.h[n] a (List.getElem?_eq_getElem hl) (by rw [List.getElem?_eq_getElem hn, e])).some
theorem Le.fresh {K : Ck} {W W' : Wd} (l : Le K W W') {p : Addr} (h : W'.H p = none) : W.H p = none := by
  cases e : W.H p with
  | none => rfl
  | some o =>
    by_cases hm : p ∈ W.m
    . obtain ⟨o, q⟩ := l.ok.some (l.pre.subset hm)
      rw [h] at q; cases q
    . rw [l.keep p o e hm] at h; cases h
theorem WOk.out {K : Ck} {W : Wd} (w : WOk K W) {p : Addr} (h : W.H p = none) : p ∉ W.m := fun z => by
 obtain ⟨o, q⟩ := w.some z
 rw [h] at q; cases q
theorem WOk.ff {K : Ck} {W : Wd} (w : WOk K W) {p : Addr} (h : W.H p = none) : W.F p = none := Same.free w.le h
structure Lf (K : Ck) (W W' : Wd) : Prop where
 fs : Same W.F W'.F
 pre : W.m <+: W'.m
 fz : ∀ (n : Nat) (ks : List Key) (xs : List PV), W.h[n]? = some (.fz ks xs) -> W'.h[n]? = some (.fz ks xs) /\ ∀ a, W.m[n]? = some a -> W'.H a = W.H a
theorem Le.lf {K : Ck} {W W' : Wd} (l : Le K W W') : Lf K W W' := ⟨l.fs, l.pre, l.fz⟩
theorem Lf.refl {K : Ck} {W : Wd} : Lf K W W := ⟨Same.refl _, List.prefix_refl _, fun _ _ _ e => ⟨e, fun _ _ => rfl⟩⟩
theorem Lf.trans {K : Ck} {W W1 W2 : Wd} (a : Lf K W W1) (b : Lf K W1 W2) : Lf K W W2 := ⟨a.fs.trans b.fs, a.pre.trans b.pre, fun n ks xs e => by
  obtain ⟨e1, q1⟩ := a.fz n ks xs e
  obtain ⟨e2, q2⟩ := b.fz n ks xs e1
  exact ⟨e2, fun c em => (q2 c (ykf a.pre em)).trans (q1 c em)⟩⟩
theorem Lf.rep {K : Ck} {W W' : Wd} (l : Lf K W W') {x : PV} {v : V} (h : yek K W x v) : yek K W' x v := Rep.mono l.fs l.pre x v h
def ycW (K : Ck) (t : TE) (e : XE) : Prop := ∀ (W0 W : Wd) (ρ : PSt) (σ : St) (Q : VK) (x : PV) (h' : AH), Good K W0 W ρ σ -> e ρ W.h = some (x, h') ->
 (∀ v W', W'.h = h' -> Le K W W' -> yek K W' x v -> Q v W'.H) -> t σ W.H Q
def yrF (K : Ck) (t : TT) (e : XT) : Prop := ∀ (W0 W : Wd) (ρ : PSt) (σ : St) (Q : Bool -> Hp -> Prop) (x : Bool) (h' : AH), Good K W0 W ρ σ -> e ρ W.h = some (x, h') ->
 (∀ W', W'.h = h' -> Le K W W' -> Q x W'.H) -> t σ W.H Q
def yri (K : Ck) (t : TA) (e : XA) : Prop := ∀ (W0 W : Wd) (ρ : PSt) (σ : St) (Q : List V -> Hp -> Prop) (x : List PV) (h' : AH), Good K W0 W ρ σ -> e ρ W.h = some (x, h') ->
 (∀ v W', W'.h = h' -> Le K W W' -> yfc K W' x v -> Q v W'.H) -> t σ W.H Q
def ytL (K : Ck) (t : TE) (e : XO) : Prop := ∀ (W0 W : Wd) (ρ : PSt) (σ : St) (Q : VK) (d : Nd) (h' : AH), Good K W0 W ρ σ -> e ρ W.h = some (d, h') ->
 (∀ p W', W'.h = h' -> Le K W W' -> p ∉ W'.m -> W.H p = none -> d ≠ .dead -> NdAt K W'.F W'.H W'.m d p -> Q (.ref p) W'.H) -> t σ W.H Q
def Ends.Ok (K : Ck) (W0 W : Wd) (D : Ends) (h' : AH) : Out -> Prop
 | .nx ρ' => ∀ W' σ', W'.h = h' -> Lf K W W' -> Good K W0 W' ρ' σ' -> D.nx σ' W'.H
 | .bk ρ' => ∀ W' σ', W'.h = h' -> Lf K W W' -> Good K W0 W' ρ' σ' -> D.bk σ' W'.H
 | .ct ρ' => ∀ W' σ', W'.h = h' -> Lf K W W' -> Good K W0 W' ρ' σ' -> D.ct σ' W'.H
 | .rt x => ∀ W' v, W'.h = h' -> Le K W0 W' -> yek K W' x v -> D.rt v W'.H
def ykF (K : Ck) (t : TS) (s : XS) : Prop := ∀ (W0 W : Wd) (ρ : PSt) (σ : St) (D : Ends) (o : Out) (h' : AH), Good K W0 W ρ σ -> s ρ W.h = some (o, h') -> Ends.Ok K W0 W D h' o -> t D σ W.H
def ob {α β : Type} (o : Option (α × AH)) (f : α -> AH -> Option β) : Option β := o.bind fun q => f q.1 q.2
theorem yl {α β : Type} {o : Option (α × AH)} {f : α -> AH -> Option β} {b : β} (h : ob o f = some b) : ∃ x h', o = some (x, h') /\ f x h' = some b := by
 obtain ⟨⟨x, h'⟩, e, k⟩ := Option.bind_eq_some_iff.mp h
 exact ⟨x, h', e, k⟩
theorem yFc {α β : Type} {x : α} {h : AH} {f : α -> AH -> Option β} : ob (some (x, h)) f = f x h := rfl
end PX
namespace PX
open PySem L2
variable {K : Ck}
def yg (i : Nat) : XE := fun ρ h => match ρ[i]? with | some (.val x) => some (x, h) | _ => none
def xC (x : PV) : XE := fun _ h => some (x, h)
abbrev P2 := PV -> PV -> AH -> Option (PV × AH)
abbrev P2O := PV -> PV -> AH -> Option (Nd × AH)
def xOp (p : P2) (a b : XE) : XE := fun ρ h => ob (a ρ h) fun x h1 => ob (b ρ h1) fun y h2 => p x y h2
def yCw (p : P2O) (a b : XE) : XO := fun ρ h => ob (a ρ h) fun x h1 => ob (b ρ h1) fun y h2 => p x y h2
def xUn (p : PV -> AH -> Option (PV × AH)) (a : XE) : XE := fun ρ h => ob (a ρ h) fun x h1 => p x h1
def oB (x : PV) (h : AH) : Option (Bool × AH) := match x with | .bl b => some (b, h) | _ => none
def ybi (a : XE) : XT := fun ρ h => ob (a ρ h) oB
def yrG (a b : XE) : XE := fun ρ h => ob (a ρ h) fun x h1 => ob (oB x h1) fun k h1 => if k = true then b ρ h1 else some (.bl false, h1)
def yxc (a : XE) : XE := fun ρ h => ob (a ρ h) fun x h1 => ob (oB x h1) fun k h1 => some (.bl (!k), h1)
def yFd (a b : XT) : XT := fun ρ h => ob (a ρ h) fun k h1 => if k = true then b ρ h1 else some (false, h1)
def xOr (a b : XT) : XT := fun ρ h => ob (a ρ h) fun k h1 => if k = true then some (true, h1) else b ρ h1
def yyN (a : XT) : XT := fun ρ h => ob (a ρ h) fun k h1 => some (!k, h1)
def xIf (c : XT) (a b : XE) : XE := fun ρ h => ob (c ρ h) fun k h1 => if k = true then a ρ h1 else b ρ h1
def yq : XA := fun _ h => some ([], h)
def yd (a : XE) (r : XA) : XA := fun ρ h => ob (a ρ h) fun x h1 => ob (r ρ h1) fun xs h2 => some (x :: xs, h2)
def ymM (a : XA) : XE := fun ρ h => ob (a ρ h) fun xs h1 => if xs.length <= 1000 then some (.tup xs, h1) else none
def ylE (a : XA) : XO := fun ρ h => ob (a ρ h) fun xs h1 => if xs.length <= 1000 then some (.lst xs, h1) else none
def xFz (e : XO) : XE := fun ρ h => ob (e ρ h) fun d h1 => match d with | .lst xs => some (.lst xs, h1) | .ins k ns xs => some (.ins k ns xs, h1) | _ => none
def ymK (e : XO) : XE := fun ρ h => ob (e ρ h) fun d h1 => some (.loc h1.length, h1 ++ [d])
def yfd (f : Fn) (a : XA) : XE := fun ρ h => ob (a ρ h) f
def xCB (p : List PV -> AH -> Option (PV × AH)) (a : XA) : XE := fun ρ h => ob (a ρ h) p
def ysJ (p : List PV -> AH -> Option (Nd × AH)) (a : XA) : XO := fun ρ h => ob (a ρ h) p
abbrev PM := PV -> List PV -> AH -> Option (PV × AH)
def xBM (c : PV -> AH -> Bool) (p : PM) (o : XE) (a : XA) : XE := fun ρ h => ob (o ρ h) fun x h1 => if c x h1 = true then ob (a ρ h1) fun xs h2 => p x xs h2 else none
def yrH (e : XE) : PSt -> AH -> Option (Option Int × AH) := fun ρ h => ob (e ρ h) fun x h1 => match x with | .int i => some (some i, h1) | _ => none
def ylF : PSt -> AH -> Option (Option Int × AH) := fun _ h => some (none, h)
def xSl (p : PV -> Option Int -> Option Int -> AH -> Option (PV × AH)) (e : XE) (lo hi : PSt -> AH -> Option (Option Int × AH)) : XE := fun ρ h => ob (e ρ h) fun x h1 => ob (lo ρ h1) fun l h2 => ob (hi ρ h2) fun u h3 => p x l u h3
def yCx (p : PV -> Option Int -> Option Int -> AH -> Option (Nd × AH)) (e : XE) (lo hi : PSt -> AH -> Option (Option Int × AH)) : XO := fun ρ h => ob (e ρ h) fun x h1 => ob (lo ρ h1) fun l h2 => ob (hi ρ h2) fun u h3 => p x l u h3
def yfJ (K : Ck) (r : R2) (p : P2) : Prop := ∀ (W : Wd) (x y : PV) (v u : V) (Q : VK) (z : PV) (h' : AH), WOk K W -> yek K W x v -> yek K W y u -> p x y W.h = some (z, h') -> (∀ w W', W'.h = h' -> Le K W W' -> yek K W' z w -> Q w W'.H) -> r v u W.H Q
def ytM (K : Ck) (W : Wd) (d : Nd) (h' : AH) (Q : VK) : Prop := ∀ p W', W'.h = h' -> Le K W W' -> p ∉ W'.m -> W.H p = none -> d ≠ .dead -> NdAt K W'.F W'.H W'.m d p -> Q (.ref p) W'.H
def yuX (K : Ck) (r : R2) (p : P2O) : Prop := ∀ (W : Wd) (x y : PV) (v u : V) (Q : VK) (d : Nd) (h' : AH), WOk K W -> yek K W x v -> yek K W y u -> p x y W.h = some (d, h') -> ytM K W d h' Q -> r v u W.H Q
def yzW (K : Ck) (r : V -> Hp -> VK -> Prop) (p : PV -> AH -> Option (PV × AH)) : Prop := ∀ (W : Wd) (x : PV) (v : V) (Q : VK) (z : PV) (h' : AH), WOk K W -> yek K W x v -> p x W.h = some (z, h') -> (∀ w W', W'.h = h' -> Le K W W' -> yek K W' z w -> Q w W'.H) -> r v W.H Q
def ynX (K : Ck) (r : List V -> Hp -> VK -> Prop) (p : List PV -> AH -> Option (PV × AH)) : Prop := ∀ (W : Wd) (xs : List PV) (vs : List V) (Q : VK) (z : PV) (h' : AH), WOk K W -> yfc K W xs vs -> p xs W.h = some (z, h') -> (∀ w W', W'.h = h' -> Le K W W' -> yek K W' z w -> Q w W'.H) -> r vs W.H Q
def ysK (K : Ck) (r : List V -> Hp -> VK -> Prop) (p : List PV -> AH -> Option (Nd × AH)) : Prop := ∀ (W : Wd) (xs : List PV) (vs : List V) (Q : VK) (d : Nd) (h' : AH), WOk K W -> yfc K W xs vs -> p xs W.h = some (d, h') -> ytM K W d h' Q -> r vs W.H Q
def yqh (K : Ck) (T : String) (c : PV -> AH -> Bool) (r : V -> List V -> Hp -> VK -> Prop) (p : PM) : Prop :=
 (∀ (W : Wd) (x : PV) (v : V), WOk K W -> yek K W x v -> c x W.h = true -> tyV K.K T v W.H) /\
 ∀ (W : Wd) (x : PV) (v : V) (xs : List PV) (vs : List V) (Q : VK) (z : PV) (h' : AH), WOk K W -> yek K W x v -> yfc K W xs vs -> p x xs W.h = some (z, h') -> (∀ w W', W'.h = h' -> Le K W W' -> yek K W' z w -> Q w W'.H) -> r v vs W.H Q
theorem yzX (i : Nat) : ycW K (yyz i) (yg i) := by
  intro W0 W ρ σ Q x h' g e q
  unfold yg at e
  split at e
  . rename_i y hy
    cases e
    obtain ⟨v, h1, h2⟩ := g.val i _ hy
    exact ⟨v, h1, q v W rfl (.refl g.ok) h2⟩
  . cases e
theorem ytN {v : V} {x : PV} (h : ∀ W : Wd, yek K W x v) : ycW K (tC v) (xC x) := by
 intro W0 W ρ σ Q y h' g e q
 cases e
 exact q v W rfl (.refl g.ok) (h W)
theorem yuY {i : Int} : ycW K (tC (.int i)) (xC (.int i)) := ytN fun _ => rfl
theorem yuZ {i : Str} : ycW K (tC (.str i)) (xC (.str i)) := ytN fun _ => rfl
theorem yCy {i : Bool} : ycW K (tC (.bl i)) (xC (.bl i)) := ytN fun _ => rfl
theorem yzY : ycW K (tC .non) (xC .non) := ytN fun _ => rfl
theorem yCz {n : String} : ycW K (tC (.ty n)) (xC (.ty n)) := ytN fun _ => rfl
theorem yzZ {k : Nat} : ycW K (tC (.ref (K.A k))) (xC (.cls k)) := ytN fun _ => rfl
section
variable {ta tb tc : TE} {ea eb ec : XE} {t : TA} {e : XA}
theorem ysL {r : R2} {p : P2} (o : yfJ K r p) (a : ycW K ta ea) (b : ycW K tb eb) : ycW K (tOp r ta tb) (xOp p ea eb) := by
 intro W0 W ρ σ Q z h' g e q
 obtain ⟨x, h1, e1, f1⟩ := yl e
 obtain ⟨y, h2, e2, f2⟩ := yl f1
 refine a W0 W ρ σ _ x h1 g e1 fun v W1 w1 l1 r1 => ?_
 subst w1
 refine b W0 W1 ρ σ _ y h2 (g.step l1) e2 fun u W2 w2 l2 r2 => ?_
 subst w2
 exact o W2 x y v u Q z h' l2.ok (l2.rep r1) r2 f2 fun w W3 w3 l3 r3 => q w W3 w3 (l1.trans (l2.trans l3)) r3
theorem ykg {W W1 : Wd} {d : Nd} {h' : AH} {Q : VK} (l : Le K W W1) (q : ytM K W d h' Q) : ytM K W1 d h' Q := fun p W' e l' n f => q p W' e (l.trans l') n (l.fresh f)
theorem yAa {r : R2} {p : P2O} (o : yuX K r p) (a : ycW K ta ea) (b : ycW K tb eb) : ytL K (tOp r ta tb) (yCw p ea eb) := by
 intro W0 W ρ σ Q z h' g e q
 obtain ⟨x, h1, e1, f1⟩ := yl e
 obtain ⟨y, h2, e2, f2⟩ := yl f1
 refine a W0 W ρ σ _ x h1 g e1 fun v W1 w1 l1 r1 => ?_
 subst w1
 refine b W0 W1 ρ σ _ y h2 (g.step l1) e2 fun u W2 w2 l2 r2 => ?_
 subst w2
 exact o W2 x y v u Q z h' l2.ok (l2.rep r1) r2 f2 (ykg (l1.trans l2) q)
theorem yCA {r} {p} (o : yzW K r p) (a : ycW K ta ea) : ycW K (tUn r ta) (xUn p ea) := by
 intro W0 W ρ σ Q z h' g e q
 obtain ⟨x, h1, e1, f1⟩ := yl e
 refine a W0 W ρ σ _ x h1 g e1 fun v W1 w1 l1 r1 => ?_
 subst w1
 exact o W1 x v Q z h' l1.ok r1 f1 fun w W3 w3 l3 r3 => q w W3 w3 (l1.trans l3) r3
theorem yrI {x : PV} {h : AH} {k : Bool} {h' : AH} (e : oB x h = some (k, h')) : x = .bl k /\ h' = h := by
  unfold oB at e
  split at e
  . cases e; exact ⟨rfl, rfl⟩
  . cases e
theorem ylr (a : ycW K ta ea) : yrF K (yCj ta) (ybi ea) := by
 intro W0 W ρ σ Q k h' g e q
 obtain ⟨x, h1, e1, f1⟩ := yl e
 obtain ⟨rfl, rfl⟩ := yrI f1
 exact a W0 W ρ σ _ _ _ g e1 fun v W1 w1 l1 r1 => ⟨k, r1, q W1 w1 l1⟩
theorem yCB (a : ycW K ta ea) : yrF K (tB ta) (ybi ea) := ylr a
theorem yxd (a : ycW K ta ea) (b : ycW K tb eb) : ycW K (yBW ta tb) (yrG ea eb) := by
 intro W0 W ρ σ Q z h' g e q
 obtain ⟨x, h1, e1, f1⟩ := yl e
 obtain ⟨k, h1', e1', f2⟩ := yl f1
 obtain ⟨rfl, rfl⟩ := yrI e1'
 refine a W0 W ρ σ _ _ _ g e1 fun v W1 w1 l1 r1 => ⟨k, r1, ?_⟩
 subst w1
 cases k with
 | false =>
  rw [if_neg (by decide)] at f2 ⊢
  cases f2
  exact q _ W1 rfl l1 rfl
 | true =>
  rw [if_pos rfl] at f2 ⊢
  exact b W0 W1 ρ σ _ z h' (g.step l1) f2 fun v W2 w2 l2 r2 => q v W2 w2 (l1.trans l2) r2
theorem yxe (a : ycW K ta ea) : ycW K (yBX ta) (yxc ea) := by
 intro W0 W ρ σ Q z h' g e q
 obtain ⟨x, h1, e1, f1⟩ := yl e
 obtain ⟨k, h1', e1', f2⟩ := yl f1
 obtain ⟨rfl, rfl⟩ := yrI e1'
 cases f2
 exact a W0 W ρ σ _ _ _ g e1 fun v W1 w1 l1 r1 => ⟨k, r1, q _ W1 w1 l1 rfl⟩
section
variable {tA tB' : TT} {eA eB : XT}
theorem yAb (a : yrF K tA eA) (b : yrF K tB' eB) : yrF K (yFA tA tB') (yFd eA eB) := by
 intro W0 W ρ σ Q z h' g e q
 obtain ⟨k, h1, e1, f1⟩ := yl e
 refine a W0 W ρ σ _ _ _ g e1 fun W1 w1 l1 => ?_
 subst w1
 cases k with
 | false =>
  rw [if_neg (by decide)] at f1 ⊢
  cases f1
  exact q W1 rfl l1
 | true =>
  rw [if_pos rfl] at f1 ⊢
  exact b W0 W1 ρ σ _ z h' (g.step l1) f1 fun W2 w2 l2 => q W2 w2 (l1.trans l2)
theorem yCC (a : yrF K tA eA) (b : yrF K tB' eB) : yrF K (tOr tA tB') (xOr eA eB) := by
 intro W0 W ρ σ Q z h' g e q
 obtain ⟨k, h1, e1, f1⟩ := yl e
 refine a W0 W ρ σ _ _ _ g e1 fun W1 w1 l1 => ?_
 subst w1
 cases k with
 | true =>
  rw [if_pos rfl] at f1 ⊢
  cases f1
  exact q W1 rfl l1
 | false =>
  rw [if_neg (by decide)] at f1 ⊢
  exact b W0 W1 ρ σ _ z h' (g.step l1) f1 fun W2 w2 l2 => q W2 w2 (l1.trans l2)
theorem yAc (a : yrF K tA eA) : yrF K (yEz tA) (yyN eA) := by
 intro W0 W ρ σ Q z h' g e q
 obtain ⟨k, h1, e1, f1⟩ := yl e
 cases f1
 exact a W0 W ρ σ _ _ _ g e1 fun W1 w1 l1 => q W1 w1 l1
theorem yCD (c : yrF K tA eA) (a : ycW K ta ea) (b : ycW K tb eb) : ycW K (tIf tA ta tb) (xIf eA ea eb) := by
 intro W0 W ρ σ Q z h' g e q
 obtain ⟨k, h1, e1, f1⟩ := yl e
 refine c W0 W ρ σ _ _ _ g e1 fun W1 w1 l1 => ?_
 subst w1
 cases k with
 | true =>
  rw [if_pos rfl] at f1 ⊢
  exact a W0 W1 ρ σ _ z h' (g.step l1) f1 fun v W2 w2 l2 r2 => q v W2 w2 (l1.trans l2) r2
 | false =>
  rw [if_neg (by decide)] at f1 ⊢
  exact b W0 W1 ρ σ _ z h' (g.step l1) f1 fun v W2 w2 l2 r2 => q v W2 w2 (l1.trans l2) r2
end
theorem ylG : yri K yzG yq := by
 intro W0 W ρ σ Q z h' g e q
 cases e
 exact q [] W rfl (.refl g.ok) rfl
theorem ysM (a : ycW K ta ea) (r : yri K t e) : yri K (yuM ta t) (yd ea e) := by
 intro W0 W ρ σ Q z h' g e q
 obtain ⟨x, h1, e1, f1⟩ := yl e
 obtain ⟨xs, h2, e2, f2⟩ := yl f1
 cases f2
 refine a W0 W ρ σ _ x h1 g e1 fun v W1 w1 l1 r1 => ?_
 subst w1
 exact r W0 W1 ρ σ _ xs _ (g.step l1) e2 fun vs W2 w2 l2 r2 => q (v :: vs) W2 w2 (l1.trans l2) ⟨v, vs, rfl, l2.rep r1, r2⟩
def yBG (W : Wd) (p : Addr) (o : HO) : Wd := ⟨upd W.F p o, upd W.H p o, W.m, W.h⟩
theorem yAd {W : Wd} {p : Addr} {o : HO} (w : WOk K W) (h : W.H p = none) : Le K W (yBG W p o) := by
  have hm := w.out h
  have hf := w.ff h
  have sF : Same W.F (upd W.F p o) := ygf hf o
  refine ⟨⟨?_, w.len, w.nd, fun n d a e1 e2 => ?_⟩, sF, List.prefix_refl _, fun b u e _ => ygf h o b u e, fun b u e _ f => ?_, fun b z n => absurd z n, fun n ks xs e1 => ⟨e1, fun a e2 => yU fun z => hm (z ▸ List.mem_of_getElem? e2)⟩⟩
  . intro b u e
    show upd W.H p o b = some u
    by_cases hb : b = p
    . subst hb; rw [show (yBG W b o).F b = upd W.F b o b from rfl, yK] at e; rw [yK]; exact e
    . rw [show (yBG W p o).F b = upd W.F p o b from rfl, yU hb] at e; rw [yU hb]; exact w.le _ _ e
  . have ha : a ≠ p := fun z => hm (z ▸ List.mem_of_getElem? e2)
    exact (w.at_ n d a e1 e2).mono sF (List.prefix_refl _) (fun u e => by rw [show (yBG W p o).H a = upd W.H p o a from rfl, yU ha]; exact e) fun f => (yU ha).trans f
  . have : b ≠ p := ycb e h
    rw [show (yBG W p o).F b = upd W.F p o b from rfl, yU this]; exact f
def ysN (W : Wd) (p : Addr) (o : HO) : Wd := ⟨W.F, upd W.H p o, W.m, W.h⟩
theorem ygU {W : Wd} {p : Addr} {o : HO} (w : WOk K W) (h : W.H p = none) : Le K W (ysN W p o) := by
  have hm := w.out h
  refine ⟨⟨?_, w.len, w.nd, fun n d a e1 e2 => ?_⟩, Same.refl _, List.prefix_refl _, fun b u e _ => ygf h o b u e, fun b u e _ f => f, fun b z n => absurd z n, fun n ks xs e1 => ⟨e1, fun a e2 => yU fun z => hm (z ▸ List.mem_of_getElem? e2)⟩⟩
  . exact fun b u e => ygf h o b u (w.le _ _ e)
  . exact (w.at_ n d a e1 e2).mono (Same.refl _) (List.prefix_refl _) (fun u e => ygf h o _ _ e) id
theorem small {n : Nat} (h : n <= 1000) : n <= sizeLine := Nat.le_of_lt (ypQ h)
theorem yAe (a : yri K t e) : ycW K (yFI t) (ymM e) := by
  intro W0 W ρ σ Q z h' g e q
  obtain ⟨xs, h1, e1, f1⟩ := yl e
  split at f1
  . rename_i hl
    cases f1
    refine a W0 W ρ σ _ xs _ g e1 fun vs W1 w1 l1 r1 => ⟨small (by rw [r1.len]; exact hl), fun p hp => ?_⟩
    have l2 := yAd (o := .tup vs) l1.ok hp
    exact q (.ref p) (yBG W1 p (.tup vs)) w1 (l1.trans l2) ⟨p, vs, rfl, .inl yK, l2.repL r1⟩
  . cases f1
theorem yAf (a : yri K t e) : ytL K (yFJ t) (ylE e) := by
  intro W0 W ρ σ Q z h' g e q
  obtain ⟨xs, h1, e1, f1⟩ := yl e
  split at f1
  . rename_i hl
    cases f1
    refine a W0 W ρ σ _ xs _ g e1 fun vs W1 w1 l1 r1 => ⟨small (by rw [r1.len]; exact hl), fun p hp => ?_⟩
    have l2 := ygU (o := .lst vs) l1.ok hp
    exact q p (ysN W1 p (.lst vs)) w1 (l1.trans l2) (l1.ok.out hp) (l1.fresh hp) (fun z => by cases z) ⟨l1.ok.ff hp, vs, yK, r1⟩
  . cases f1
def yxf (W : Wd) (p : Addr) (o : HO) : Wd := ⟨upd W.F p o, W.H, W.m, W.h⟩
theorem yva {W : Wd} {p : Addr} {o : HO} (w : WOk K W) (h : W.H p = some o) (hm : p ∉ W.m) (hf : W.F p = none) : WOk K (yxf W p o) /\ Same W.F (upd W.F p o) := by
  have sF : Same W.F (upd W.F p o) := ygf hf o
  refine ⟨⟨?_, w.len, w.nd, fun n d a e1 e2 => ?_⟩, sF⟩
  . intro b u e
    by_cases hb : b = p
    . subst hb; rw [show (yxf W b o).F b = upd W.F b o b from rfl, yK] at e; cases e; exact h
    . rw [show (yxf W p o).F b = upd W.F p o b from rfl, yU hb] at e; exact w.le _ _ e
  . have ha : a ≠ p := fun z => hm (z ▸ List.mem_of_getElem? e2)
    exact (w.at_ n d a e1 e2).mono sF (List.prefix_refl _) (fun u e => e) fun f => (yU ha).trans f
theorem yrJ {W W1 : Wd} {p : Addr} {o : HO} (l : Le K W W1) (h : W1.H p = some o) (hm : p ∉ W1.m) (hf : W1.F p = none) (hn : W.H p = none) : Le K W (yxf W1 p o) := by
 obtain ⟨k, sF⟩ := yva l.ok h hm hf
 refine ⟨k, l.fs.trans sF, l.pre, l.keep, fun b u e n f => ?_, l.mn, l.fz⟩
 have : b ≠ p := ycb e hn
 rw [show (yxf W1 p o).F b = upd W1.F p o b from rfl, yU this]; exact l.new b u e n f
theorem yCE {o : XO} (a : ytL K ta o) : ycW K ta (xFz o) := by
  intro W0 W ρ σ Q z h' g e q
  obtain ⟨d, h1, e1, f1⟩ := yl e
  refine a W0 W ρ σ _ d h1 g e1 fun p W1 w1 l1 hm hn hd at_ => ?_
  split at f1
  . rename_i xs
    cases f1
    obtain ⟨hf, vs, hp, r⟩ := at_
    have l2 := yrJ l1 hp hm hf hn
    exact q (.ref p) (yxf W1 p (.lst vs)) w1 l2 ⟨p, vs, rfl, yK, RepL.mono (ygf hf _) (List.prefix_refl _) _ _ r⟩
  . rename_i k ns xs
    cases f1
    obtain ⟨hf, dx, vs, hp, hl, r⟩ := at_
    have l2 := yrJ l1 hp hm hf hn
    exact q (.ref p) (yxf W1 p _) w1 l2 ⟨p, dx, vs, rfl, yK, hl, RepL.mono (ygf hf _) (List.prefix_refl _) _ _ r⟩
  . cases f1
theorem yvb {o : XO} (a : ytL K ta o) : ycW K ta (ymK o) := by
  intro W0 W ρ σ Q z h' g e q
  obtain ⟨d, h1, e1, f1⟩ := yl e
  cases f1
  refine a W0 W ρ σ _ d h1 g e1 fun p W1 w1 l1 hm hn hd at_ => ?_
  subst w1
  have pre : W1.m <+: W1.m ++ [p] := List.prefix_append _ _
  refine q (.ref p) ⟨W1.F, W1.H, W1.m ++ [p], W1.h ++ [d]⟩ rfl ⟨⟨l1.ok.le, ?_, ?_, fun n d' a e1 e2 => ?_⟩, l1.fs, l1.pre.trans pre, l1.keep, l1.new, fun b z n => ?_, fun n ks xs e1 => ⟨by
    have := (l1.fz n ks xs e1).1
    show (W1.h ++ [d])[n]? = _
    rw [List.getElem?_append_left (List.getElem?_eq_some_iff.mp this).1]; exact this, (l1.fz n ks xs e1).2⟩⟩ ⟨p, rfl, ?_⟩
  . show (W1.m ++ [p]).length = (W1.h ++ [d]).length
    rw [List.length_append, List.length_append, l1.ok.len]; rfl
  . show (W1.m ++ [p]).Nodup
    rw [List.nodup_append]
    refine ⟨l1.ok.nd, by simp, ?_⟩
    intro a ha b hb
    simp at hb
    subst hb
    exact fun z => hm (z ▸ ha)
  . have e1 : (W1.h ++ [d])[n]? = some d' := e1
    have e2 : (W1.m ++ [p])[n]? = some a := e2
    by_cases hlt : n < W1.h.length
    . rw [List.getElem?_append_left hlt] at e1
      rw [List.getElem?_append_left (by rw [l1.ok.len]; exact hlt)] at e2
      exact (l1.ok.at_ n d' a e1 e2).mono (Same.refl _) pre (fun _ f1 => f1) id
    . rw [List.getElem?_append_right (by omega)] at e1
      rw [List.getElem?_append_right (by rw [l1.ok.len]; omega)] at e2
      rw [l1.ok.len] at e2
      cases hk : n - W1.h.length with
      | zero =>
        rw [hk] at e1 e2
        simp at e1 e2
        subst e1 e2
        exact at_.mono (Same.refl _) pre (fun _ f1 => f1) id
      | succ k => rw [hk] at e1; simp at e1
  . have z : b ∈ W1.m ++ [p] := z
    rcases List.mem_append.mp z with z | z
    . exact l1.mn b z n
    . simp at z; subst z; exact hn
  . show (W1.m ++ [p])[W1.h.length]? = some p
    rw [<- l1.ok.len]; simp
def spE (K : Ck) (n : Nat) (f : Fn) : Sp := fun vs H Q _ => ∃ (W : Wd) (xs : List PV) (x : PV) (h' : AH), W.H = H /\ WOk K W /\ yfc K W xs vs /\ xs.length = n /\ f xs W.h = some (x, h') /\ ∀ v W', W'.h = h' -> Le K W W' -> yek K W' x v -> Q v W'.H
theorem yxg {n : Nat} {f : Fn} {ex : XK} (a : yri K t e) (hn : ∀ ρ h xs h', e ρ h = some (xs, h') -> xs.length = n) : ycW K (ywU (spE K n f) [] ex t) (yfd f e) := by
 intro W0 W ρ σ Q z h' g e' q
 obtain ⟨xs, h1, e1, e2⟩ := yl e'
 refine a W0 W ρ σ _ xs h1 g e1 fun vs W1 w1 l1 r1 => ?_
 subst w1
 rw [List.append_nil]
 exact ⟨W1, xs, z, h', rfl, l1.ok, r1, hn _ _ _ _ e1, e2, fun v W2 w2 l2 r2 => q v W2 w2 (l1.trans l2) r2⟩
theorem yrK : ∀ ρ h xs h', yq ρ h = some (xs, h') -> xs.length = 0 := fun ρ h xs h' e => by cases e; rfl
theorem yxh {n : Nat} (l : ∀ ρ h xs h', e ρ h = some (xs, h') -> xs.length = n) : ∀ ρ h xs h', yd ea e ρ h = some (xs, h') -> xs.length = n + 1 := fun ρ h xs h' q => by
 obtain ⟨x, h1, e1, q⟩ := yl q
 obtain ⟨ys, h2, e2, q⟩ := yl q
 cases q
 rw [List.length_cons, l _ _ _ _ e2]
theorem yyO {r} {p} (o : ynX K r p) (a : yri K t e) : ycW K (tCB r t) (xCB p e) := by
 intro W0 W ρ σ Q z h' g e' q
 obtain ⟨xs, h1, e1, e2⟩ := yl e'
 refine a W0 W ρ σ _ xs h1 g e1 fun vs W1 w1 l1 r1 => ?_
 subst w1
 exact o W1 xs vs Q z h' l1.ok r1 e2 fun v W2 w2 l2 r2 => q v W2 w2 (l1.trans l2) r2
theorem yvc {r} {p} (o : ysK K r p) (a : yri K t e) : ytL K (tCB r t) (ysJ p e) := by
 intro W0 W ρ σ Q z h' g e' q
 obtain ⟨xs, h1, e1, e2⟩ := yl e'
 refine a W0 W ρ σ _ xs h1 g e1 fun vs W1 w1 l1 r1 => ?_
 subst w1
 exact o W1 xs vs Q z h' l1.ok r1 e2 (ykg l1 q)
theorem yyP {T : String} {c} {r} {p} (o : yqh K T c r p) (b : ycW K ta ea) (a : yri K t e) : ycW K (tBM K.K T r ta t) (xBM c p ea e) := by
  intro W0 W ρ σ Q z h' g e' q
  obtain ⟨x, h1, e1, f1⟩ := yl e'
  split at f1
  . rename_i hc
    obtain ⟨xs, h2, e2, f2⟩ := yl f1
    refine b W0 W ρ σ _ x h1 g e1 fun v W1 w1 l1 r1 => ⟨o.1 W1 x v l1.ok r1 (by rw [w1]; exact hc), ?_⟩
    subst w1
    refine a W0 W1 ρ σ _ xs h2 (g.step l1) e2 fun vs W2 w2 l2 r2 => ?_
    subst w2
    exact o.2 W2 x v xs vs Q z h' l2.ok (l2.rep r1) r2 f2 fun w W3 w3 l3 r3 => q w W3 w3 (l1.trans (l2.trans l3)) r3
  . cases f1
theorem yAg {T : String} {c} {r} {p} (o : yqh K T c r p) (b : ycW K ta ea) : ycW K (yEO K.K T r ta) (xBM c p ea yq) := yyP (t := yzG) o b ylG
end
def yyQ (K : Ck) (t : TO) (e : PSt -> AH -> Option (Option Int × AH)) : Prop := ∀ (W0 W : Wd) (ρ : PSt) (σ : St) (Q : Option Int -> Hp -> Prop) (x : Option Int) (h' : AH), Good K W0 W ρ σ -> e ρ W.h = some (x, h') ->
 (∀ W', W'.h = h' -> Le K W W' -> Q x W'.H) -> t σ W.H Q
theorem ytO : yyQ K yuO ylF := by
 intro W0 W ρ σ Q z h' g e q
 cases e
 exact q W rfl (.refl g.ok)
theorem yxi {ta : TE} {ea : XE} (a : ycW K ta ea) : yyQ K (yCn ta) (yrH ea) := by
  intro W0 W ρ σ Q z h' g e q
  obtain ⟨x, h1, e1, f1⟩ := yl e
  split at f1
  . rename_i i
    cases f1
    exact a W0 W ρ σ _ _ _ g e1 fun v W1 w1 l1 r1 => ⟨i, r1, q W1 w1 l1⟩
  . cases f1
def yAh (K : Ck) (r : V -> Option Int -> Option Int -> Hp -> VK -> Prop) (p : PV -> Option Int -> Option Int -> AH -> Option (PV × AH)) : Prop := ∀ (W : Wd) (x : PV) (v : V) (lo hi : Option Int) (Q : VK) (z : PV) (h' : AH), WOk K W -> yek K W x v -> p x lo hi W.h = some (z, h') -> (∀ w W', W'.h = h' -> Le K W W' -> yek K W' z w -> Q w W'.H) -> r v lo hi W.H Q
def yvd (K : Ck) (r : V -> Option Int -> Option Int -> Hp -> VK -> Prop) (p : PV -> Option Int -> Option Int -> AH -> Option (Nd × AH)) : Prop := ∀ (W : Wd) (x : PV) (v : V) (lo hi : Option Int) (Q : VK) (d : Nd) (h' : AH), WOk K W -> yek K W x v -> p x lo hi W.h = some (d, h') -> ytM K W d h' Q -> r v lo hi W.H Q
theorem yCF {r} {p} {ta : TE} {ea : XE} {tl th : TO} {el eh} (o : yAh K r p) (a : ycW K ta ea) (b : yyQ K tl el) (c : yyQ K th eh) : ycW K (tSl r ta tl th) (xSl p ea el eh) := by
 intro W0 W ρ σ Q z h' g e q
 obtain ⟨x, h1, e1, f1⟩ := yl e
 obtain ⟨l, h2, e2, f2⟩ := yl f1
 obtain ⟨u, h3, e3, f3⟩ := yl f2
 refine a W0 W ρ σ _ x h1 g e1 fun v W1 w1 l1 r1 => ?_
 subst w1
 refine b W0 W1 ρ σ _ l h2 (g.step l1) e2 fun W2 w2 l2 => ?_
 subst w2
 refine c W0 W2 ρ σ _ u h3 (g.step (l1.trans l2)) e3 fun W3 w3 l3 => ?_
 subst w3
 exact o W3 x v l u Q z h' l3.ok ((l2.trans l3).rep r1) f3 fun w W4 w4 l4 r4 => q w W4 w4 (l1.trans (l2.trans (l3.trans l4))) r4
theorem yAi {r} {p} {ta : TE} {ea : XE} {tl th : TO} {el eh} (o : yvd K r p) (a : ycW K ta ea) (b : yyQ K tl el) (c : yyQ K th eh) : ytL K (tSl r ta tl th) (yCx p ea el eh) := by
 intro W0 W ρ σ Q z h' g e q
 obtain ⟨x, h1, e1, f1⟩ := yl e
 obtain ⟨l, h2, e2, f2⟩ := yl f1
 obtain ⟨u, h3, e3, f3⟩ := yl f2
 refine a W0 W ρ σ _ x h1 g e1 fun v W1 w1 l1 r1 => ?_
 subst w1
 refine b W0 W1 ρ σ _ l h2 (g.step l1) e2 fun W2 w2 l2 => ?_
 subst w2
 refine c W0 W2 ρ σ _ u h3 (g.step (l1.trans l2)) e3 fun W3 w3 l3 => ?_
 subst w3
 exact o W3 x v l u Q z h' l3.ok ((l2.trans l3).rep r1) f3 (ykg (l1.trans (l2.trans l3)) q)
end PX
namespace PX
open PySem L2
variable {K : Ck}
def ycy : XS := fun ρ h => some (.nx ρ, h)
def yM (s u : XS) : XS := fun ρ h => ob (s ρ h) fun o h1 => match o with | .nx ρ' => u ρ' h1 | .rt x => some (.rt x, h1) | .bk ρ' => some (.bk ρ', h1) | .ct ρ' => some (.ct ρ', h1)
def yeo (e : XE) : XS := fun ρ h => ob (e ρ h) fun _ h1 => some (.nx ρ, h1)
def ydf (e : XE) : XS := fun ρ h => ob (e ρ h) fun x h1 => some (.rt x, h1)
def yel (c : XT) (s u : XS) : XS := fun ρ h => ob (c ρ h) fun k h1 => if k = true then s ρ h1 else u ρ h1
abbrev XG := PV -> PSt -> Option PSt
abbrev XGs := List PV -> PSt -> Option PSt
def ybh (i : Nat) : XG := fun x ρ => some (ρ.set i (.val x))
def yGB (n : Nat) (g : XGs) : XG := fun x ρ => match x with | .tup xs => if xs.length = n then g xs ρ else none | _ => none
def yfH (e : XE) (g : XG) : XS := fun ρ h => ob (e ρ h) fun x h1 => (g x ρ).bind fun ρ' => some (.nx ρ', h1)
def yve (e : XO) (i : Nat) : XS := fun ρ h => ob (e ρ h) fun d h1 => some (.nx (ρ.set i (.own d)), h1)
def yxj : PVar -> PVar
 | .own (.lst xs) => .val (.lst xs)
 | .own (.ins k ns xs) => .val (.ins k ns xs)
 | v => v
def yrL (i : Nat) (ρ : PSt) : PSt := ρ.modify i yxj
def yCG (i : Nat) (s : XS) : XS := fun ρ h => s (yrL i ρ) h
def ymN (i : Nat) (e : XE) : XS := fun ρ h => match ρ[i]? with
 | some (.own (.lst xs)) => ob (e ρ h) fun x h1 => if xs.length < 100000 then some (.nx (ρ.set i (.own (.lst (xs ++ [x])))), h1) else none
 | _ => none
def ynY (g : XG) (s : XS) : List PV -> PSt -> AH -> Option (Out × AH)
 | [], ρ, h => some (.nx ρ, h)
 | x :: xs, ρ, h => (g x ρ).bind fun ρ1 => ob (s ρ1 h) fun o h1 => match o with | .nx ρ' => ynY g s xs ρ' h1 | .ct ρ' => ynY g s xs ρ' h1 | .bk ρ' => some (.nx ρ', h1) | .rt y => some (.rt y, h1)
def ywB (it : XA) (g : XG) (s : XS) : XS := fun ρ h => ob (it ρ h) fun xs h1 => ynY g s xs ρ h1
def ygC (N : Nat) (s : XS) : Fn := fun xs h => ob (s (xs.map .val ++ List.replicate (N - xs.length) .no) h) fun o h1 => match o with | .rt x => some (x, h1) | .nx _ => some (.non, h1) | _ => none
def ywC (ρ : PSt) (i : Nat) : PVar := match ρ[i]? with | some (.val y) => .val y | _ => .no
def yxk (ix : List Nat) (ρ : PSt) (x : PV) : PSt := .val x :: ix.map (ywC ρ)
def yxl (e : XE) (inn : PV -> PSt) : List PV -> AH -> Option (List PV × AH)
 | [], h => some ([], h)
 | x :: xs, h => ob (e (inn x) h) fun y h1 => ob (yxl e inn xs h1) fun ys h2 => some (y :: ys, h2)
def ytP (it : XA) (ix : List Nat) (e : XE) : XO := fun ρ h => ob (it ρ h) fun xs h1 => if xs.length <= 100000 then ob (yxl e (yxk ix ρ) xs h1) fun ys h2 => some (.lst ys, h2) else none
theorem Ends.Ok.from_ {W0 W W1 : Wd} {D : Ends} {h' : AH} {o : Out} (l : Lf K W W1) (k : Ends.Ok K W0 W D h' o) : Ends.Ok K W0 W1 D h' o := by
 cases o with
 | nx ρ => exact fun W' σ' e l' g => k W' σ' e (l.trans l') g
 | bk ρ => exact fun W' σ' e l' g => k W' σ' e (l.trans l') g
 | ct ρ => exact fun W' σ' e l' g => k W' σ' e (l.trans l') g
 | rt x => exact k
section
variable {ta tb : TE} {ea eb : XE} {t u : TS} {s s' : XS} {tA : TT} {eA : XT}
theorem yxm : ykF K yCb ycy := by
 intro W0 W ρ σ D o h' g e q
 cases e
 exact q W σ rfl .refl g
theorem yAj (a : ykF K t s) (b : ykF K u s') : ykF K (yEB t u) (yM s s') := by
 intro W0 W ρ σ D o h' g e q
 obtain ⟨o1, h1, e1, f1⟩ := yl e
 refine a W0 W ρ σ _ o1 h1 g e1 ?_
 cases o1 with
 | nx ρ' => exact fun W' σ' w l g' => b W0 W' ρ' σ' D o h' g' (by rw [w]; exact f1) (q.from_ l)
 | rt x => cases f1; exact q
 | bk ρ' => cases f1; exact q
 | ct ρ' => cases f1; exact q
theorem yxn (a : ycW K ta ea) : ykF K (ywP ta) (yeo ea) := by
 intro W0 W ρ σ D o h' g e q
 obtain ⟨x, h1, e1, f1⟩ := yl e
 cases f1
 exact a W0 W ρ σ _ x _ g e1 fun v W1 w1 l1 r1 => q W1 σ w1 l1.lf (g.step l1)
theorem yAk (a : ycW K ta ea) : ykF K (yFB ta) (ydf ea) := by
 intro W0 W ρ σ D o h' g e q
 obtain ⟨x, h1, e1, f1⟩ := yl e
 cases f1
 exact a W0 W ρ σ _ x _ g e1 fun v W1 w1 l1 r1 => q W1 v w1 (g.le.trans l1) r1
theorem yAl (c : yrF K tA eA) (a : ykF K t s) (b : ykF K u s') : ykF K (yFC tA t u) (yel eA s s') := by
 intro W0 W ρ σ D o h' g e q
 obtain ⟨k, h1, e1, f1⟩ := yl e
 refine c W0 W ρ σ _ k h1 g e1 fun W1 w1 l1 => ?_
 subst w1
 cases k with
 | true =>
  rw [if_pos rfl] at f1 ⊢
  exact a W0 W1 ρ σ D o h' (g.step l1) f1 (q.from_ l1.lf)
 | false =>
  rw [if_neg (by decide)] at f1 ⊢
  exact b W0 W1 ρ σ D o h' (g.step l1) f1 (q.from_ l1.lf)
theorem Good.set {W0 W : Wd} {ρ : PSt} {σ : St} (g : Good K W0 W ρ σ) (i : Nat) {x : PV} {v : V} (r : yek K W x v) : Good K W0 W (ρ.set i (.val x)) (σ.set i (some v)) where
  le := g.le
  len := by simp [g.len]
  val := fun j y e => by
    by_cases hj : i = j
    . subst hj
      by_cases hl : i < ρ.length
      . rw [List.getElem?_set_self hl] at e
        cases e
        exact ⟨v, List.getElem?_set_self (by rw [g.len]; exact hl), r⟩
      . rw [List.getElem?_eq_none (by simp; omega)] at e; cases e
    . rw [List.getElem?_set_ne hj] at e
      obtain ⟨w, h1, h2⟩ := g.val j y e
      exact ⟨w, by rw [List.getElem?_set_ne hj]; exact h1, h2⟩
  own := fun j d e => by
    by_cases hj : i = j
    . subst hj
      by_cases hl : i < ρ.length
      . rw [List.getElem?_set_self hl] at e; cases e
      . rw [List.getElem?_eq_none (by simp; omega)] at e; cases e
    . rw [List.getElem?_set_ne hj] at e
      obtain ⟨p, h1, h2⟩ := g.own j d e
      exact ⟨p, by rw [List.getElem?_set_ne hj]; exact h1, h2⟩
  ne := fun j k d d' hjk e1 e2 => by
    have f : ∀ {j : Nat} {d : Nd}, (ρ.set i (.val x))[j]? = some (.own d) -> i ≠ j /\ ρ[j]? = some (.own d) := fun {j d} e => by
      by_cases hj : i = j
      . subst hj
        by_cases hl : i < ρ.length
        . rw [List.getElem?_set_self hl] at e; cases e
        . rw [List.getElem?_eq_none (by simp; omega)] at e; cases e
      . rw [List.getElem?_set_ne hj] at e; exact ⟨hj, e⟩
    obtain ⟨a1, a2⟩ := f e1
    obtain ⟨b1, b2⟩ := f e2
    rw [List.getElem?_set_ne a1, List.getElem?_set_ne b1]
    exact g.ne j k d d' hjk a2 b2
theorem Good.setO {W0 W : Wd} {ρ : PSt} {σ : St} (g : Good K W0 W ρ σ) (i : Nat) {d : Nd} {p : Addr} (hm : p ∉ W.m) (h0 : W0.H p = none) (hd : d ≠ .dead) (at_ : NdAt K W.F W.H W.m d p)
    (ne : ∀ j d', i ≠ j -> ρ[j]? = some (.own d') -> σ[j]? ≠ some (some (.ref p))) : Good K W0 W (ρ.set i (.own d)) (σ.set i (some (.ref p))) where
  le := g.le
  len := by simp [g.len]
  val := fun j y e => by
    by_cases hj : i = j
    . subst hj
      by_cases hl : i < ρ.length
      . rw [List.getElem?_set_self hl] at e; cases e
      . rw [List.getElem?_eq_none (by simp; omega)] at e; cases e
    . rw [List.getElem?_set_ne hj] at e
      obtain ⟨w, h1, h2⟩ := g.val j y e
      exact ⟨w, by rw [List.getElem?_set_ne hj]; exact h1, h2⟩
  own := fun j d' e => by
    by_cases hj : i = j
    . subst hj
      by_cases hl : i < ρ.length
      . rw [List.getElem?_set_self hl] at e
        cases e
        exact ⟨p, List.getElem?_set_self (by rw [g.len]; exact hl), hm, h0, hd, at_⟩
      . rw [List.getElem?_eq_none (by simp; omega)] at e; cases e
    . rw [List.getElem?_set_ne hj] at e
      obtain ⟨p, h1, h2⟩ := g.own j d' e
      exact ⟨p, by rw [List.getElem?_set_ne hj]; exact h1, h2⟩
  ne := fun j k d1 d2 hjk e1 e2 => by
    have self : ∀ {j : Nat} {d' : Nd}, i = j -> (ρ.set i (.own d))[j]? = some (.own d') -> (σ.set i (some (.ref p)))[j]? = some (some (.ref p)) := fun {j d'} hj e => by
      subst hj
      by_cases hl : i < ρ.length
      . exact List.getElem?_set_self (by rw [g.len]; exact hl)
      . rw [List.getElem?_eq_none (by simp; omega)] at e; cases e
    by_cases hj : i = j
    . have hk : i ≠ k := fun z => hjk (hj.symm.trans z)
      rw [self hj e1, List.getElem?_set_ne hk]
      rw [List.getElem?_set_ne hk] at e2
      exact (ne k d2 hk e2).symm
    . rw [List.getElem?_set_ne hj]
      rw [List.getElem?_set_ne hj] at e1
      by_cases hk : i = k
      . rw [self hk e2]
        exact ne j d1 hj e1
      . rw [List.getElem?_set_ne hk] at e2 ⊢
        exact g.ne j k d1 d2 hjk e1 e2
def yAm (K : Ck) (g : TG) (y : XG) : Prop := ∀ (W0 W : Wd) (ρ ρ' : PSt) (σ : St) (x : PV) (v : V) (Q : St -> Hp -> Prop), Good K W0 W ρ σ -> yek K W x v -> y x ρ = some ρ' -> (∀ σ', Good K W0 W ρ' σ' -> Q σ' W.H) -> g v σ W.H Q
theorem ylH (i : Nat) : yAm K (yty i) (ybh i) := by
 intro W0 W ρ ρ' σ x v Q g r e q
 cases e
 exact q _ (g.set i r)
theorem yvf {g : TG} {y : XG} (a : ycW K ta ea) (b : yAm K g y) : ykF K (yBF ta g) (yfH ea y) := by
 intro W0 W ρ σ D o h' gd e q
 obtain ⟨x, h1, e1, f1⟩ := yl e
 obtain ⟨ρ', e2, f2⟩ := Option.bind_eq_some_iff.mp f1
 cases f2
 exact a W0 W ρ σ _ x _ gd e1 fun v W1 w1 l1 r1 => b W0 W1 ρ ρ' σ x v _ (gd.step l1) r1 e2 fun σ' g' => q W1 σ' w1 l1.lf g'
theorem yxo {o : XO} (i : Nat) (a : ytL K ta o) : ykF K (yBF ta (yty i)) (yve o i) := by
 intro W0 W ρ σ D o h' gd e q
 obtain ⟨d, h1, e1, f1⟩ := yl e
 cases f1
 refine a W0 W ρ σ _ d _ gd e1 fun p W1 w1 l1 hm hn hd at_ => q W1 _ w1 l1.lf ((gd.step l1).setO i hm (gd.le.fresh hn) hd at_ fun j d' hj e hs => ?_)
 obtain ⟨p', h1, h2, _, _, h5⟩ := gd.own j d' e
 rw [h1] at hs
 cases hs
 obtain ⟨o, ho⟩ := h5.some
 rw [hn] at ho; cases ho
theorem Good.frz {W0 W : Wd} {ρ : PSt} {σ : St} (g : Good K W0 W ρ σ) (i : Nat) : ∃ W', W'.h = W.h /\ W'.H = W.H /\ Lf K W W' /\ Good K W0 W' (yrL i ρ) σ := by
  unfold yrL
  cases e : ρ[i]? with
  | none => exact ⟨W, rfl, rfl, .refl, by rw [List.modify_eq_self (by simpa using e)]; exact g⟩
  | some v =>
    have hl : i < ρ.length := (List.getElem?_eq_some_iff.mp e).1
    have em : ρ.modify i yxj = ρ.set i (yxj v) := by
      apply List.ext_getElem?
      intro j
      rw [List.getElem?_modify, List.getElem?_set]
      by_cases hj : i = j
      . subst hj
        obtain ⟨_, ev⟩ := List.getElem?_eq_some_iff.mp e
        simp [hl, ev]
      . simp [hj]
    have same : yxj v = v -> ∃ W', W'.h = W.h /\ W'.H = W.H /\ Lf K W W' /\ Good K W0 W' (ρ.modify i yxj) σ := fun z => ⟨W, rfl, rfl, .refl, by
      rw [em, z]
      have : ρ.set i v = ρ := by
        apply List.ext_getElem?
        intro j
        by_cases hj : i = j
        . subst hj; rw [List.getElem?_set_self hl, e]
        . rw [List.getElem?_set_ne hj]
      rw [this]; exact g⟩
    have go : ∀ (d : Nd) (x : PV) (p : Addr) (o : HO), v = .own d -> yxj v = .val x -> σ[i]? = some (some (.ref p)) -> p ∉ W.m -> W0.H p = none -> W.H p = some o -> W.F p = none -> (∀ (F' : Hp), Same W.F F' -> F' p = some o -> Rep K F' W.m x (.ref p)) ->
        ∃ W', W'.h = W.h /\ W'.H = W.H /\ Lf K W W' /\ Good K W0 W' (ρ.modify i yxj) σ := fun d x p o hv hx hs hm h0 hp hf hr => by
      obtain ⟨k, sF⟩ := yva (K := K) g.ok hp hm hf
      have lf : Lf K W (yxf W p o) := ⟨sF, List.prefix_refl _, fun _ _ _ e => ⟨e, fun _ _ => rfl⟩⟩
      refine ⟨yxf W p o, rfl, rfl, lf, ⟨yrJ g.le hp hm hf h0, by rw [List.length_modify]; exact g.len, fun j y e' => ?_, fun j d' e' => ?_, fun j1 j2 d1 d2 hj e1 e2 => ?_⟩⟩
      . rw [em, hx] at e'
        by_cases hj : i = j
        . subst hj
          rw [List.getElem?_set_self hl] at e'
          cases e'
          exact ⟨_, hs, hr _ sF yK⟩
        . rw [List.getElem?_set_ne hj] at e'
          obtain ⟨w, a1, a2⟩ := g.val j y e'
          exact ⟨w, a1, lf.rep a2⟩
      . rw [em, hx] at e'
        by_cases hj : i = j
        . subst hj
          rw [List.getElem?_set_self hl] at e'
          cases e'
        . rw [List.getElem?_set_ne hj] at e'
          obtain ⟨q, a1, a2, a3, a4, a5⟩ := g.own j d' e'
          have hq : q ≠ p := fun z => g.ne j i d' d (fun z => hj z.symm) e' (hv ▸ e) (by rw [a1, hs, z])
          exact ⟨q, a1, a2, a3, a4, a5.mono sF (List.prefix_refl _) (fun _ e => e) fun f => (yU hq).trans f⟩
      . rw [em, hx] at e1 e2
        have f : ∀ {j : Nat} {d : Nd}, (ρ.set i (.val x))[j]? = some (.own d) -> ρ[j]? = some (.own d) := fun {j d} e => by
          by_cases hj : i = j
          . subst hj; rw [List.getElem?_set_self hl] at e; cases e
          . rw [List.getElem?_set_ne hj] at e; exact e
        exact g.ne j1 j2 d1 d2 hj (f e1) (f e2)
    cases v with
    | no => exact same rfl
    | val x => exact same rfl
    | own d =>
      obtain ⟨p, a1, a2, a3, a4, a5⟩ := g.own i d e
      cases d with
      | lst xs =>
        obtain ⟨hf, vs, hp, r⟩ := a5
        exact go _ (.lst xs) p _ rfl rfl a1 a2 a3 hp hf fun F' s hF => ⟨p, vs, rfl, hF, RepL.mono s (List.prefix_refl _) _ _ r⟩
      | dct ks xs => exact same rfl
      | fz ks xs => exact same rfl
      | ins k ns xs =>
        obtain ⟨hf, dx, vs, hp, hl, r⟩ := a5
        exact go _ (.ins k ns xs) p _ rfl rfl a1 a2 a3 hp hf fun F' s hF => ⟨p, dx, vs, rfl, hF, hl, RepL.mono s (List.prefix_refl _) _ _ r⟩
      | dead => exact same rfl
theorem yAn (i : Nat) (a : ykF K t s) : ykF K t (yCG i s) := by
 intro W0 W ρ σ D o h' g e q
 obtain ⟨W', e1, e2, l, g'⟩ := g.frz i
 rw [<- e2]
 exact a W0 W' _ σ D o h' g' (by rw [e1]; exact e) (q.from_ l)
end
end PX
namespace PX
open PySem L2
variable {K : Ck}
section
variable {ta tb : TE} {ea eb : XE} {t u : TS} {s s' : XS} {tA : TT} {eA : XT}
def yAo (W : Wd) (p : Addr) (o : HO) : Wd := ⟨W.F, upd W.H p o, W.m, W.h⟩
theorem yAp {W : Wd} {p : Addr} {o : HO} (w : WOk K W) (hm : p ∉ W.m) (hf : W.F p = none) : WOk K (yAo W p o) := by
  refine ⟨fun b u e => ?_, w.len, w.nd, fun n d a e1 e2 => ?_⟩
  . have : b ≠ p := ycb e hf
    exact (yU this).trans (w.le _ _ e)
  . have ha : a ≠ p := fun z => hm (z ▸ List.mem_of_getElem? e2)
    exact (w.at_ n d a e1 e2).mono (Same.refl _) (List.prefix_refl _) (fun u e => (yU ha).trans e) id
theorem yvg {W W1 : Wd} {p : Addr} {o : HO} (l : Le K W W1) (hm : p ∉ W1.m) (hf : W1.F p = none) (hn : W.H p = none) : Le K W (yAo W1 p o) :=
 ⟨yAp l.ok hm hf, l.fs, l.pre, fun b u e n => (yU (ycb e hn)).trans (l.keep b u e n), l.new, l.mn, fun n ks xs e1 => ⟨(l.fz n ks xs e1).1, fun a e2 => (yU (fun (z : a = p) => hm (z ▸ List.mem_of_getElem? (ykf l.pre e2)))).trans ((l.fz n ks xs e1).2 a e2)⟩⟩
theorem yyR {W W1 : Wd} {p : Addr} {o : HO} (l : Le K W W1) (hm : p ∉ W1.m) : Lf K W (yAo W1 p o) :=
 ⟨l.fs, l.pre, fun n ks xs e1 => ⟨(l.fz n ks xs e1).1, fun a e2 => (yU (fun (z : a = p) => hm (z ▸ List.mem_of_getElem? (ykf l.pre e2)))).trans ((l.fz n ks xs e1).2 a e2)⟩⟩
theorem Good.mut {W0 W : Wd} {ρ : PSt} {σ : St} (g : Good K W0 W ρ σ) {i : Nat} {d d' : Nd} {p : Addr} {o : HO} (e : ρ[i]? = some (.own d)) (hs : σ[i]? = some (some (.ref p))) (hm : p ∉ W.m) (h0 : W0.H p = none) (hf : W.F p = none) (hd : d' ≠ .dead)
    (at_ : NdAt K W.F (upd W.H p o) W.m d' p) : Good K W0 (yAo W p o) (ρ.set i (.own d')) σ := by
  have hl : i < ρ.length := (List.getElem?_eq_some_iff.mp e).1
  refine ⟨yvg g.le hm hf h0, by rw [List.length_set]; exact g.len, fun j y e' => ?_, fun j d1 e' => ?_, fun j1 j2 d1 d2 hj e1 e2 => ?_⟩
  . by_cases hj : i = j
    . subst hj; rw [List.getElem?_set_self hl] at e'; cases e'
    . rw [List.getElem?_set_ne hj] at e'; exact g.val j y e'
  . by_cases hj : i = j
    . subst hj; rw [List.getElem?_set_self hl] at e'; cases e'; exact ⟨p, hs, hm, h0, hd, at_⟩
    . rw [List.getElem?_set_ne hj] at e'
      obtain ⟨q, a1, a2, a3, a4, a5⟩ := g.own j d1 e'
      have hq : q ≠ p := fun z => g.ne j i d1 d (fun z => hj z.symm) e' e (by rw [a1, hs, z])
      exact ⟨q, a1, a2, a3, a4, a5.mono (Same.refl _) (List.prefix_refl _) (fun u e => (yU hq).trans e) id⟩
  . have f : ∀ {j : Nat} {d1 : Nd}, (ρ.set i (.own d'))[j]? = some (.own d1) -> ∃ d2, ρ[j]? = some (.own d2) := fun {j d1} e' => by
      by_cases hj : i = j
      . subst hj; exact ⟨d, e⟩
      . rw [List.getElem?_set_ne hj] at e'; exact ⟨_, e'⟩
    obtain ⟨_, f1⟩ := f e1
    obtain ⟨_, f2⟩ := f e2
    exact g.ne j1 j2 _ _ hj f1 f2
theorem big {n : Nat} (h : n < 100000) : n < sizeLine := Nat.lt_of_lt_of_le h (by decide)
theorem yFe {n : Nat} (h : n <= 100000) : n <= sizeLine := Nat.le_trans h (by decide)
theorem yxp (i : Nat) (a : ycW K ta ea) : ykF K (ywP (tBM K.K "list" yrq (yyz i) (yuM ta yzG))) (ymN i ea) := by
  intro W0 W ρ σ D o h' g e q
  unfold ymN at e
  split at e
  . rename_i xs0 hx
    obtain ⟨x, h1, e1, f1⟩ := yl e
    split at f1
    . rename_i hlen
      cases f1
      obtain ⟨p, a1, a2, a3, a4, hf, vs, hp, r⟩ := g.own i _ hx
      refine ⟨.ref p, a1, .inl ⟨rfl, _, SqL.of hp⟩, ?_⟩
      refine a W0 W ρ σ _ x _ g e1 fun v W1 w1 l1 r1 => ⟨p, vs, v, rfl, rfl, l1.keep _ _ hp a2, by rw [r.len]; exact big hlen, ?_⟩
      have g1 := g.step l1
      obtain ⟨p', b1, b2, b3, b4, b5, vs', b6, b7⟩ := g1.own i _ hx
      rw [a1] at b1
      cases b1
      rw [l1.keep _ _ hp a2] at b6
      cases b6
      exact q (yAo W1 p (.lst (vs ++ [v]))) σ w1 (yyR l1 b2) (g1.mut hx a1 b2 b3 b5 (fun z => by cases z) ⟨b5, _, yK, b7.snoc r1⟩)
    . cases f1
  . cases e
structure yEp (K : Ck) (W : Wd) (J : It) (xs : List PV) : Prop where
 go : ∀ (i : Nat) (W' : Wd), Lf K W W' -> WOk K W' -> i < xs.length -> J.go i W'.H
 yld : ∀ (i : Nat) (W' : Wd) (v : V) (H2 : Hp), Lf K W W' -> WOk K W' -> i < xs.length -> J.yld i W'.H v H2 -> H2 = W'.H /\ ∃ x, xs[i]? = some x /\ yek K W' x v
 stop : ∀ (W' : Wd), Lf K W W' -> WOk K W' -> J.stop xs.length W'.H
def yAq (K : Ck) (wi : TI) (e : XA) : Prop := ∀ (W0 W : Wd) (ρ : PSt) (σ : St) (R : It -> Hp -> Prop) (xs : List PV) (h' : AH), Good K W0 W ρ σ -> e ρ W.h = some (xs, h') -> (∀ J W', W'.h = h' -> Le K W W' -> yEp K W' J xs -> R J W'.H) -> wi σ W.H R
def xIL (e : XE) : XA := fun ρ h => ob (e ρ h) fun x h1 => match x with | .lst xs => some (xs, h1) | .scr ns => some (ns.map .int, h1) | _ => none
def sgn (c : Nat) : PV := .str ⟨#[c]⟩
def ytQ (lo : Int) (n : Nat) : List PV := (List.range n).map fun (k : Nat) => .int (lo + (k : Int))
def yAr (a : XA) : XA := fun ρ h => ob (a ρ h) fun xs h1 => match xs with | [.int j] => if -1000000000 <= j /\ j <= 1000000000 then some (ytQ 0 j.toNat, h1) else none | _ => none
theorem yiH {W : Wd} (w : WOk K W) {a : Addr} {vs : List V} (h : SqL K.K W.F a vs) : SqL K.K W.H a vs := Same.seq w.le h
theorem yfK {W : Wd} (w : WOk K W) {a : Addr} {vs : List V} (h : TpAt K.K W.F a vs) : SqT K.K W.H a vs := h.elim (fun h => SqT.of (w.le _ _ h)) .inr
theorem yvh (a : ycW K ta ea) : yAq K (yCf K.K ta) (xIL ea) := by
  intro W0 W ρ σ R xs h' g e q
  obtain ⟨x, h1, e1, f1⟩ := yl e
  refine a W0 W ρ σ _ x h1 g e1 fun v W1 w1 l1 r1 => ?_
  have key : ∀ (a : Addr) (vs : List V), v = .ref a -> SqL K.K W1.F a vs -> RepL K W1.F W1.m xs vs -> h1 = h' -> ∃ a, v = .ref a /\ (∃ xs, SqL K.K W1.H a xs) /\ R (Itl K.K a) W1.H := fun a vs ev hs rs eh => by
    subst eh
    refine ⟨a, ev, ⟨vs, yiH l1.ok hs⟩, q _ W1 w1 l1 ⟨fun i W' l w hi => ?_, fun i W' v' H2 l w hi hy => ?_, fun W' l w => ?_⟩⟩
    . obtain ⟨v', h1, _⟩ := rs.get (List.getElem?_eq_getElem hi)
      exact ⟨vs, v', yiH w (Same.seq l.fs hs), h1⟩
    . obtain ⟨h1, h2⟩ := hy
      have := h2 vs (yiH w (Same.seq l.fs hs))
      obtain ⟨x, h3, h4⟩ := rs.get' this
      exact ⟨h1, x, h3, l.rep h4⟩
    . exact ⟨vs, yiH w (Same.seq l.fs hs), by rw [rs.len]; exact Nat.le_refl _⟩
  split at f1
  . cases f1
    obtain ⟨a, vs, ev, hs, rs⟩ := r1
    exact key a vs ev (SqL.of hs) rs rfl
  . rename_i ns
    cases f1
    obtain ⟨a, ev, hs⟩ := r1
    exact key a _ ev hs (RepL.of_ints ns) rfl
  . cases f1
theorem yCH (W : Wd) (lo : Int) (n : Nat) : yEp K W (Itr lo n) (ytQ lo n) := by
  refine ⟨fun i W' l w hi => ?_, fun i W' v' H2 l w hi hy => ?_, fun W' l w => ?_⟩
  . show i < n
    simpa [ytQ] using hi
  . obtain ⟨h1, h2⟩ := hy
    have hi : i < n := by simpa [ytQ] using hi
    exact ⟨h1, .int (lo + (i : Int)), by simp [ytQ, hi], h2⟩
  . show n <= _
    simp [ytQ]
theorem yvi {t : TA} {e : XA} (a : yri K t e) : yAq K (yCg t) (yAr e) := by
  intro W0 W ρ σ R xs h' g e q
  obtain ⟨ys, h1, e1, f1⟩ := yl e
  split at f1
  . rename_i j
    split at f1
    . rename_i hj
      cases f1
      refine a W0 W ρ σ _ _ _ g e1 fun vs W1 w1 l1 r1 => ?_
      obtain ⟨v, r, rfl, rv, rr⟩ := r1
      obtain rfl : r = [] := rr
      exact ⟨j, by rw [show v = .int j from rv], by omega, by omega, q _ W1 w1 l1 (yCH W1 0 _)⟩
    . cases f1
  . cases f1
theorem yAs {wi : TI} {it : XA} {g : TG} {y : XG} (a : yAq K wi it) (b : yAm K g y) (c : ykF K t s) : ykF K (yEE wi g t) (ywB it y s) := by
  intro W0 W ρ σ D o h' gd e q
  obtain ⟨xs, h1, e1, f1⟩ := yl e
  refine a W0 W ρ σ _ xs h1 gd e1 fun J W1 w1 l1 J1 => ?_
  subst w1
  have q1 := q.from_ l1.lf
  refine ⟨fun i m σ H => m = xs.length - i /\ i <= xs.length /\ ∃ W' ρ', W'.H = H /\ Lf K W1 W' /\ Good K W0 W' ρ' σ /\ ynY y s (xs.drop i) ρ' W'.h = some (o, h'), ⟨_, rfl, Nat.zero_le _, W1, ρ, rfl, .refl, gd.step l1, by simpa using f1⟩, ?_⟩
  rintro i m σ _ ⟨rfl, hi, W', ρ', rfl, l, g', f⟩
  by_cases hlt : i < xs.length
  . rw [List.drop_eq_getElem_cons hlt] at f
    obtain ⟨ρ1, k1, f⟩ := Option.bind_eq_some_iff.mp f
    obtain ⟨o1, h2, k2, f3⟩ := yl f
    refine .inr ⟨J1.go i W' l g'.ok hlt, fun σ2 H2 => i + 1 <= xs.length /\ ∃ W2 ρ2, W2.H = H2 /\ Lf K W1 W2 /\ Good K W0 W2 ρ2 σ2 /\ ynY y s (xs.drop (i + 1)) ρ2 W2.h = some (o, h'), fun σ2 H2 ⟨n1, n2⟩ => ⟨xs.length - (i + 1), by omega, rfl, n1, n2⟩, fun v H2 hy => ?_⟩
    obtain ⟨rfl, x, hx, rx⟩ := J1.yld i W' v H2 l g'.ok hlt hy
    rw [List.getElem?_eq_getElem hlt] at hx
    cases hx
    refine b W0 W' ρ' ρ1 σ _ v _ g' rx k1 fun σ2 g2 => ?_
    refine c W0 W' ρ1 σ2 _ o1 h2 g2 k2 ?_
    cases o1 with
    | nx ρ2 => exact fun W2 σ3 w2 l2 g3 => ⟨hlt, W2, ρ2, rfl, l.trans l2, g3, by rw [w2]; exact f3⟩
    | ct ρ2 => exact fun W2 σ3 w2 l2 g3 => ⟨hlt, W2, ρ2, rfl, l.trans l2, g3, by rw [w2]; exact f3⟩
    | bk ρ2 => cases f3; exact fun W2 σ3 w2 l2 g3 => q1 W2 σ3 w2 (l.trans l2) g3
    | rt x => cases f3; exact q1
  . have ei : i = xs.length := by omega
    subst ei
    refine .inl ⟨J1.stop W' l g'.ok, ?_⟩
    rw [List.drop_length] at f
    cases f
    exact q1 W' σ rfl l g'
theorem yvj {e : XE} {inn : PV -> PSt} : ∀ {xs : List PV} {h : AH} {ys : List PV} {h' : AH}, yxl e inn xs h = some (ys, h') -> ys.length = xs.length
 | [], _, _, _, e => by cases e; rfl
 | x :: xs, _, _, _, e => by
  obtain ⟨y, h1, e1, f1⟩ := yl e
  obtain ⟨ys, h2, e2, f2⟩ := yl f1
  cases f2
  rw [List.length_cons, List.length_cons, yvj e2]
theorem yxq {W0 W W' : Wd} {ρ : PSt} {σ : St} (g : Good K W0 W ρ σ) (l : Le K W W') (ix : List Nat) {x : PV} {v : V} (r : yek K W' x v) : Good K W' W' (yxk ix ρ x) (inner ix σ v) where
  le := .refl l.ok
  len := by simp [yxk, inner]
  val := fun j y e => by
    cases j with
    | zero => simp [yxk] at e; subst e; exact ⟨v, rfl, r⟩
    | succ j =>
      have e : (ix.map (ywC ρ))[j]? = some (.val y) := e
      rw [List.getElem?_map] at e
      cases ei : ix[j]? with
      | none => rw [ei] at e; cases e
      | some i =>
        rw [ei] at e
        have e : ywC ρ i = .val y := Option.some.inj e
        unfold ywC at e
        split at e
        . rename_i z hz
          cases e
          obtain ⟨w, h1, h2⟩ := g.val i _ hz
          exact ⟨w, by show (ix.map fun i => (σ[i]?).getD none)[j]? = _; rw [List.getElem?_map, ei]; simp [h1], l.rep h2⟩
        . cases e
  own := fun j d e => by
    cases j with
    | zero => simp [yxk] at e
    | succ j =>
      have e : (ix.map (ywC ρ))[j]? = some (.own d) := e
      rw [List.getElem?_map] at e
      cases ei : ix[j]? with
      | none => rw [ei] at e; cases e
      | some i =>
        rw [ei] at e
        have e : ywC ρ i = .own d := Option.some.inj e
        unfold ywC at e
        split at e <;> cases e
  ne := fun j k d d' _ e _ => by
    cases j with
    | zero => simp [yxk] at e
    | succ j =>
      have e : (ix.map (ywC ρ))[j]? = some (.own d) := e
      rw [List.getElem?_map] at e
      cases ei : ix[j]? with
      | none => rw [ei] at e; cases e
      | some i =>
        rw [ei] at e
        have e : ywC ρ i = .own d := Option.some.inj e
        unfold ywC at e
        split at e <;> cases e
theorem ysO {wi : TI} {it : XA} (ix : List Nat) (a : yAq K wi it) (b : ycW K ta ea) : ytL K (yzP wi ix ta) (ytP it ix ea) := by
  intro W0 W ρ σ Q d h' gd e q
  obtain ⟨xs, h1, e1, f1⟩ := yl e
  split at f1
  . rename_i hlen
    obtain ⟨zs, h2, e2, f2⟩ := yl f1
    cases f2
    have hz := yvj e2
    refine a W0 W ρ σ _ xs h1 gd e1 fun J W1 w1 l1 J1 => ?_
    subst w1
    intro D hD
    have nm := l1.ok.out hD
    have nf := l1.ok.ff hD
    refine ⟨fun i m H => m = xs.length - i /\ i <= xs.length /\ ∃ W' acc done rest, W'.H = H /\ Le K W1 W' /\ D ∉ W'.m /\ W'.F D = none /\ H D = some (.lst acc) /\ yfc K W' done acc /\ done.length = i /\ zs = done ++ rest /\ yxl ea (yxk ix ρ) (xs.drop i) W'.h = some (rest, h'), ⟨_, rfl, Nat.zero_le _, ysN W1 D (.lst []), [], [], zs, rfl, ygU l1.ok hD, nm, nf, yK, rfl, rfl, rfl, by rw [List.drop_zero]; exact e2⟩, ?_⟩
    rintro i m _ ⟨rfl, hi, W', acc, done, rest, rfl, l, n1, n2, hd, rd, ld, ez, f⟩
    by_cases hlt : i < xs.length
    . rw [List.drop_eq_getElem_cons hlt] at f
      obtain ⟨y, h3, k1, f3⟩ := yl f
      obtain ⟨ys, h4, k2, f4⟩ := yl f3
      cases f4
      refine .inr ⟨J1.go i W' l.lf l.ok hlt, fun v H2 hy => ?_⟩
      obtain ⟨rfl, x, hx, rx⟩ := J1.yld i W' v H2 l.lf l.ok hlt hy
      rw [List.getElem?_eq_getElem hlt] at hx
      cases hx
      refine b W' W' _ _ _ y h3 (yxq gd (l1.trans l) ix rx) k1 fun w W2 w2 l2 r2 => ?_
      obtain ⟨o2, n2'⟩ : ∃ o, W'.H D = some o := ⟨_, hd⟩
      have nm2 : D ∉ W2.m := fun z => by rw [l2.mn D z n1] at hd; cases hd
      have nf2 : W2.F D = none := l2.new D _ hd n1 n2
      refine ⟨acc, l2.keep _ _ hd n1, ?_, xs.length - (i + 1), by omega, rfl, hlt, yAo W2 D (.lst (acc ++ [w])), acc ++ [w], done ++ [y], ys, rfl, yvg (l.trans l2) nm2 nf2 hD, nm2, nf2, yK, (l2.repL rd).snoc r2, by simp [ld], by simp [ez], ?_⟩
      . rw [rd.len, ld]; exact big (by omega)
      . show yxl ea (yxk ix ρ) (xs.drop (i + 1)) W2.h = some (ys, h')
        rw [w2]; exact k2
    . have ei : i = xs.length := by omega
      subst ei
      rw [List.drop_length] at f
      cases f
      refine .inl ⟨J1.stop W' l.lf l.ok, ?_⟩
      rw [List.append_nil] at ez
      subst ez
      exact q D W' rfl (l1.trans l) n1 (l1.fresh hD) (fun z => by cases z) ⟨n2, acc, hd, rd⟩
  . cases f1
theorem ykh {W : Wd} (w : WOk K W) {N : List Str} {xs : List PV} {vs : List V} (r : yfc K W xs vs) : Good K W W (xs.map .val ++ List.replicate (N.length - xs.length) .no) (L2.start N vs) where
  le := .refl w
  len := by simp [L2.start, r.len]
  val := fun j y e => by
    by_cases hj : j < xs.length
    . rw [List.getElem?_append_left (by simpa using hj), List.getElem?_map, List.getElem?_eq_getElem hj] at e
      cases e
      obtain ⟨v, h1, h2⟩ := r.get (List.getElem?_eq_getElem hj)
      refine ⟨v, ?_, h2⟩
      unfold L2.start
      rw [List.getElem?_append_left (by simp [r.len, hj]), List.getElem?_map, h1]; rfl
    . rw [List.getElem?_append_right (by simp; omega), List.getElem?_replicate] at e
      split at e <;> cases e
  own := fun j d e => by
    by_cases hj : j < xs.length
    . rw [List.getElem?_append_left (by simpa using hj), List.getElem?_map, List.getElem?_eq_getElem hj] at e
      cases e
    . rw [List.getElem?_append_right (by simp; omega), List.getElem?_replicate] at e
      split at e <;> cases e
  ne := fun j k d d' _ e _ => by
    by_cases hj : j < xs.length
    . rw [List.getElem?_append_left (by simpa using hj), List.getElem?_map, List.getElem?_eq_getElem hj] at e
      cases e
    . rw [List.getElem?_append_right (by simp; omega), List.getElem?_replicate] at e
      split at e <;> cases e
theorem yxr {N : List Str} {n : Nat} {vs : List V} {H : Hp} {Q : VK} {E : XK} {bk ct : St -> Hp -> Prop} (a : ykF K t s) (h : spE K n (ygC N.length s) vs H Q E) : t ⟨fun _ H' => Q .non H', Q, bk, ct⟩ (L2.start N vs) H := by
 obtain ⟨W, xs, x, h', rfl, w, r, _, e, q⟩ := h
 obtain ⟨o, h1, e1, f1⟩ := yl e
 refine a W W _ _ _ o h1 (ykh w r) e1 ?_
 cases o with
 | rt y => cases f1; exact fun W' v ew l rv => q v W' ew l rv
 | nx ρ => cases f1; exact fun W' σ' ew _ g => q .non W' ew g.le rfl
 | bk ρ => cases f1
 | ct ρ => cases f1
theorem yAt {n : Nat} {f : Fn} {vs : List V} {H : Hp} {Q : VK} {E : XK} (h : spE K n f vs H Q E) : vs.length = n := by
 obtain ⟨W, xs, x, h', rfl, w, r, hn, _⟩ := h
 rw [r.len, hn]
end
end PX
namespace PX
open PySem L2
variable {K : Ck}
def oI (g : Int -> Int -> PV) : P2 := fun x y h => match x, y with | .int i, .int j => some (g i j, h) | _, _ => none
def oIc (C : Int -> Int -> Prop) [∀ i j, Decidable (C i j)] (g : Int -> Int -> PV) : P2 := fun x y h => match x, y with | .int i, .int j => if C i j then some (g i j, h) else none | _, _ => none
abbrev ywD : P2 := oI fun i j => .int (i + j)
abbrev yFf : P2 := oI fun i j => .int (i - j)
def MulOk (i j : Int) : Prop := (-18446744073709551616 < i /\ i < 18446744073709551616) \/ (-18446744073709551616 < j /\ j < 18446744073709551616)
instance (i j : Int) : Decidable (MulOk i j) := by unfold MulOk; infer_instance
def yvk (i j : Int) : Prop := (0 <= i /\ i < 18446744073709551616) /\ 0 <= j /\ j <= 1000000
instance (i j : Int) : Decidable (yvk i j) := by unfold yvk; infer_instance
abbrev yAu : P2 := oIc MulOk fun i j => .int (i * j)
abbrev oDiv : P2 := oIc (fun _ j => 0 < j /\ j < 1073741824) fun i j => .int (i / j)
abbrev oMod : P2 := oIc (fun _ j => 0 < j) fun i j => .int (i % j)
abbrev yCI : P2 := oIc yvk fun i j => .int (i ^ j.toNat)
abbrev oLt : P2 := oI fun i j => .bl (decide (i < j))
abbrev yEq : PV -> AH -> Option (PV × AH) := fun x h => match x with | .int i => some (.int (-i), h) | _ => none
theorem yFg {g : Int -> Int -> PV} {gV : Int -> Int -> V} (h : ∀ (W : Wd) i j, yek K W (g i j) (gV i j)) : yfJ K (rI0 gV) (oI g) := by
  intro W x y v u Q z h' w rx ry e q
  unfold oI at e
  split at e
  . rename_i i j
    cases e
    exact ⟨i, j, rx, ry, q _ W rfl (.refl w) (h W i j)⟩
  . cases e
theorem yxs {C : Int -> Int -> Prop} [∀ i j, Decidable (C i j)] {C' : Int -> Int -> Prop} {g : Int -> Int -> PV} {gV : Int -> Int -> V} (hc : ∀ i j, C i j -> C' i j) (h : ∀ (W : Wd) i j, yek K W (g i j) (gV i j)) : yfJ K (rI C' gV) (oIc C g) := by
  intro W x y v u Q z h' w rx ry e q
  unfold oIc at e
  split at e
  . rename_i i j
    split at e
    . rename_i c
      cases e
      exact ⟨i, j, rx, ry, hc i j c, q _ W rfl (.refl w) (h W i j)⟩
    . cases e
  . cases e
theorem ynZ : yfJ K yEQ ywD := yFg fun _ _ _ => rfl
theorem yCJ : yfJ K yER yFf := yFg fun _ _ _ => rfl
theorem ytR : yfJ K yES yAu := yxs (fun i j h => by unfold CMul; rw [show (2 : Int) ^ 64 = 18446744073709551616 by decide]; exact h) fun _ _ _ => rfl
theorem yjk : yfJ K yET oDiv := yxs (fun i j h => h) fun _ _ _ => rfl
theorem yfe : yfJ K yEU oMod := yxs (fun i j h => h) fun _ _ _ => rfl
theorem yxt : yfJ K yEV yCI := yxs (fun i j h => by unfold yEH; rw [show 2 ^ 64 = 18446744073709551616 by decide]; unfold yvk at h; omega) fun _ _ _ => rfl
theorem yBH : yfJ K yGs oLt := yFg fun _ _ _ => rfl
theorem yCK : yzW K yEW yEq := by
  intro W x v Q z h' w rx e q
  unfold yEq at e
  split at e
  . rename_i i
    cases e
    exact ⟨i, rx, q _ W rfl (.refl w) rfl⟩
  . cases e
def sv : PV -> Option V
 | .non => some .non
 | .bl b => some (.bl b)
 | .int i => some (.int i)
 | .str s => some (.str s)
 | _ => none
theorem yjl {W : Wd} {x : PV} {v u : V} (e : sv x = some u) (r : yek K W x v) : v = u := by
 cases x <;> cases e <;> exact r
def oEq : P2 := fun x y h => match sv x, sv y with | some v, some u => if yzz v u = true then some (.bl (decide (v = u)), h) else none | _, _ => none
def oNe : P2 := fun x y h => match sv x, sv y with | some v, some u => if yzz v u = true then some (.bl (!decide (v = u)), h) else none | _, _ => none
theorem ymO : yfJ K rEq oEq := by
  intro W x y v u Q z h' w rx ry e q
  unfold oEq at e
  split at e
  . rename_i v' u' e1 e2
    obtain rfl := yjl e1 rx
    obtain rfl := yjl e2 ry
    split at e
    . rename_i c
      cases e
      exact ⟨c, q _ W rfl (.refl w) rfl⟩
    . cases e
  . cases e
theorem yFh : yfJ K rNe oNe := by
  intro W x y v u Q z h' w rx ry e q
  unfold oNe at e
  split at e
  . rename_i v' u' e1 e2
    obtain rfl := yjl e1 rx
    obtain rfl := yjl e2 ry
    split at e
    . rename_i c
      cases e
      exact ⟨c, q _ W rfl (.refl w) rfl⟩
    . cases e
  . cases e
def isN : PV -> Bool
 | .non => true
 | _ => false
def yEr : P2 := fun x y h => match y with | .non => some (.bl (isN x), h) | _ => none
theorem yAv {W : Wd} {x : PV} {v : V} (r : yek K W x v) : decide (v = .non) = isN x := by
 cases x with
 | non => rw [show v = .non from r]; rfl
 | bl b => rw [show v = .bl b from r]; rfl
 | int b => rw [show v = .int b from r]; rfl
 | str b => rw [show v = .str b from r]; rfl
 | ty b => rw [show v = .ty b from r]; rfl
 | cls b => rw [show v = .ref _ from r]; rfl
 | scr b => obtain ⟨a, e, _⟩ := r; rw [e]; rfl
 | lst b => obtain ⟨a, _, e, _⟩ := r; rw [e]; rfl
 | tup b => obtain ⟨a, _, e, _⟩ := r; rw [e]; rfl
 | ins k n b => obtain ⟨a, _, _, e, _⟩ := r; rw [e]; rfl
 | loc n => obtain ⟨a, e, _⟩ := r; rw [e]; rfl
theorem yFi : yfJ K yGt yEr := by
  intro W x y v u Q z h' w rx ry e q
  unfold yEr at e
  split at e
  . cases e
    exact ⟨ry, by rw [yAv rx]; exact q _ W rfl (.refl w) rfl⟩
  . cases e
def yGu : P2 := fun x y h => match x, y with | .str i, .str j => if i.length + j.length <= 100000 then some (.str (i ++ j), h) else none | _, _ => none
def yGC : P2 := fun x y h => match x, y with | .str s, .str j => (match s.cps.toList with | [c] => some (.bl (decide (c ∈ j.cps.toList)), h) | _ => none) | _, _ => none
theorem one_sign {s : Str} {c : Nat} (h : s.cps.toList = [c]) : s = ⟨#[c]⟩ := by
 obtain ⟨⟨l⟩⟩ := s
 have : l = [c] := h
 rw [this]
def yhA : P2 := fun x y h => match y with
 | .int i => (match x with
  | .lst xs => (match atI xs i with | some v => some (v, h) | none => none)
  | .scr ns => (match atI ns i with | some v => some (.int v, h) | none => none)
  | .loc n => (match h[n]? with | some (.lst xs) => (match atI xs i with | some v => some (v, h) | none => none) | _ => none)
  | _ => none)
 | _ => none
def yhB : P2 := fun x y h => match x, y with | .tup xs, .int i => (match atI xs i with | some v => some (v, h) | none => none) | _, _ => none
def yAw : P2 := fun x y h => match x, y with | .str s, .int i => (match atI s.cps.toList i with | some c => if s.length <= 100000 then some (sgn c, h) else none | none => none) | _, _ => none
theorem RepL.at {F : Hp} {m : List Addr} {xs : List PV} {vs : List V} (r : RepL K F m xs vs) {i : Int} {x : PV} (e : atI xs i = some x) : ∃ v, atI vs i = some v /\ Rep K F m x v := by
 unfold atI at e ⊢
 rw [r.len]
 obtain ⟨j, e1, e2⟩ := Option.bind_eq_some_iff.mp e
 rw [e1]
 exact r.get e2
theorem WOk.loc {W : Wd} (w : WOk K W) {n : Nat} {d : Nd} {v : V} (e : W.h[n]? = Option.some d) (r : yek K W (.loc n) v) : ∃ a, v = .ref a /\ W.m[n]? = Option.some a /\ NdAt K W.F W.H W.m d a := by
 obtain ⟨a, ea, h⟩ := r
 exact ⟨a, ea, h, w.at_ n d a e h⟩
theorem yfL : yfJ K (yEL K.K) yhA := by
  intro W x y v u Q z h' w rx ry e q
  unfold yhA at e
  split at e
  . rename_i i
    split at e
    . rename_i xs
      split at e
      . rename_i y hy
        cases e
        obtain ⟨a, vs, ev, hs, rs⟩ := rx
        obtain ⟨v', h1, h2⟩ := rs.at hy
        exact ⟨a, vs, i, v', ev, ry, SqL.of (w.le _ _ hs), h1, q _ W rfl (.refl w) h2⟩
      . cases e
    . rename_i ns
      split at e
      . rename_i y hy
        cases e
        obtain ⟨a, ev, hs⟩ := rx
        refine ⟨a, _, i, .int y, ev, ry, yiH w hs, ?_, q _ W rfl (.refl w) rfl⟩
        unfold atI at hy ⊢
        rw [List.length_map]
        obtain ⟨j, e1, e2⟩ := Option.bind_eq_some_iff.mp hy
        rw [e1]
        show (ns.map V.int)[j]? = _
        rw [List.getElem?_map, e2]; rfl
      . cases e
    . rename_i n
      split at e
      . rename_i xs hn
        split at e
        . rename_i y hy
          cases e
          obtain ⟨a, ev, hm, hf, vs, hp, rs⟩ := w.loc hn rx
          obtain ⟨v', h1, h2⟩ := rs.at hy
          exact ⟨a, vs, i, v', ev, ry, SqL.of hp, h1, q _ W rfl (.refl w) h2⟩
        . cases e
      . cases e
    . cases e
  . cases e
theorem ydB : yfJ K (yEM K.K) yhB := by
  intro W x y v u Q z h' w rx ry e q
  unfold yhB at e
  split at e
  . rename_i xs i
    split at e
    . rename_i y hy
      cases e
      obtain ⟨a, vs, ev, hs, rs⟩ := rx
      obtain ⟨v', h1, h2⟩ := rs.at hy
      exact ⟨a, vs, i, v', ev, ry, yfK w hs, h1, q _ W rfl (.refl w) h2⟩
    . cases e
  . cases e
theorem yAx : yfJ K yEN yAw := by
  intro W x y v u Q z h' w rx ry e q
  unfold yAw at e
  split at e
  . rename_i s i
    split at e
    . rename_i c hc
      split at e
      . rename_i hl
        cases e
        exact ⟨s, i, c, rx, ry, yFe hl, hc, q _ W rfl (.refl w) rfl⟩
      . cases e
    . cases e
  . cases e
def yEs : PV -> Option Int -> Option Int -> AH -> Option (PV × AH) := fun x lo hi h => match x with | .str z => if z.length <= 100000 then some (.str (yEo z lo hi), h) else none | _ => none
theorem yFj : yAh K yFO yEs := by
  intro W x v lo hi Q z h' w rx e q
  unfold yEs at e
  split at e
  . rename_i s
    split at e
    . rename_i hl
      cases e
      exact ⟨s, rx, by omega, q _ W rfl (.refl w) rfl⟩
    . cases e
  . cases e
def ytS {α : Type} (xs : List α) (lo hi : Option Int) : List α := (xs.drop (HT.sIx xs.length 0 lo)).take (HT.sIx xs.length xs.length hi - HT.sIx xs.length 0 lo)
def listOf (x : PV) (h : AH) : Option (List PV) := match x with | .lst xs => some xs | .scr ns => some (ns.map .int) | .loc n => (match h[n]? with | some (.lst xs) => some xs | _ => none) | _ => none
theorem ynu {W : Wd} (w : WOk K W) {x : PV} {v : V} {xs : List PV} (e : listOf x W.h = some xs) (r : yek K W x v) : ∃ a vs, v = .ref a /\ SqL K.K W.H a vs /\ yfc K W xs vs := by
  unfold listOf at e
  split at e
  . cases e
    obtain ⟨a, vs, ev, hs, rs⟩ := r
    exact ⟨a, vs, ev, SqL.of (w.le _ _ hs), rs⟩
  . rename_i ns
    cases e
    obtain ⟨a, ev, hs⟩ := r
    exact ⟨a, _, ev, yiH w hs, RepL.of_ints ns⟩
  . rename_i n
    split at e
    . rename_i ys hn
      cases e
      obtain ⟨a, ev, hm, hf, vs, hp, rs⟩ := w.loc hn r
      exact ⟨a, vs, ev, SqL.of hp, rs⟩
    . cases e
  . cases e
def yda (x : PV) (h : AH) : Option (List PV) := match x with | .lst xs => some xs | .loc n => (match h[n]? with | some (.lst xs) => some xs | _ => none) | _ => none
theorem ybX {W : Wd} (w : WOk K W) {x : PV} {v : V} {xs : List PV} (e : yda x W.h = some xs) (r : yek K W x v) : ∃ a vs, v = .ref a /\ W.H a = some (.lst vs) /\ yfc K W xs vs := by
  unfold yda at e
  split at e
  . cases e
    obtain ⟨a, vs, ev, hs, rs⟩ := r
    exact ⟨a, vs, ev, w.le _ _ hs, rs⟩
  . rename_i n
    split at e
    . rename_i ys hn
      cases e
      obtain ⟨a, ev, hm, hf, vs, hp, rs⟩ := w.loc hn r
      exact ⟨a, vs, ev, hp, rs⟩
    . cases e
  . cases e
theorem yEt {W : Wd} (w : WOk K W) {p : Addr} (hp : W.H p = none) {xs : List PV} {vs : List V} (r : yfc K W xs vs) {Q : VK} (q : ytM K W (.lst xs) W.h Q) : Q (.ref p) (upd W.H p (.lst vs)) :=
 q p (ysN W p (.lst vs)) rfl (ygU w hp) (w.out hp) hp (fun z => by cases z) ⟨w.ff hp, vs, yK, r⟩
def yBI : PV -> Option Int -> Option Int -> AH -> Option (Nd × AH) := fun x lo hi h => match listOf x h with | some xs => some (.lst (ytS xs lo hi), h) | none => none
theorem yCL : yvd K (yFK K.K) yBI := by
  intro W x v lo hi Q d h' w rx e q
  unfold yBI at e
  split at e
  . rename_i xs hx
    cases e
    obtain ⟨a, vs, ev, hs, rs⟩ := ynu w hx rx
    refine ⟨a, vs, ev, hs, fun p hp => yEt w hp ?_ q⟩
    have := (rs.drop (HT.sIx xs.length 0 lo)).take (HT.sIx xs.length xs.length hi - HT.sIx xs.length 0 lo)
    unfold ytS yCo
    rw [rs.len]
    exact this
  . cases e
def yCM : P2O := fun x y h => match yda x h, yda y h with | some xs, some ys => if xs.length + ys.length <= 100000 then some (.lst (xs ++ ys), h) else none | _, _ => none
theorem yCN : yuX K yFM yCM := by
  intro W x y v u Q d h' w rx ry e q
  unfold yCM at e
  split at e
  . rename_i xs ys hx hy
    split at e
    . rename_i hl
      cases e
      obtain ⟨a, vs, ev, hs, rs⟩ := ybX w hx rx
      obtain ⟨b, us, eu, ht, ru⟩ := ybX w hy ry
      refine ⟨a, b, vs, us, ev, eu, hs, ht, by rw [rs.len, ru.len]; exact yFe hl, fun p hp => yEt w hp (rs.app ru) q⟩
    . cases e
  . cases e
def repL {α : Type} (k : Nat) (xs : List α) : List α := (List.replicate k xs).flatten
def yvl (x : PV) (h : AH) : Option Nat := match x with | .tup xs => some xs.length | .lst xs => some xs.length | .scr ns => some ns.length | .loc n => (match h[n]? with | some (.lst xs) => some xs.length | _ => none) | _ => none
def ygV : List PV -> AH -> Option (PV × AH) := fun xs h => match xs with | [x] => (match yvl x h with | some n => some (.int n, h) | none => none) | _ => none
def yxu : List PV -> AH -> Option (PV × AH) := fun xs h => match xs with | [.str z] => if z.length <= 100000 then some (.int z.length, h) else none | _ => none
theorem yus {W : Wd} {x : PV} {vs : List V} (r : yfc K W [x] vs) : ∃ v, vs = [v] /\ yek K W x v := by
 obtain ⟨v, r', e, h, l⟩ := r
 exact ⟨v, by rw [e, show r' = [] from l], h⟩
theorem yFQ {W : Wd} {x y : PV} {vs : List V} (r : yfc K W [x, y] vs) : ∃ v u, vs = [v, u] /\ yek K W x v /\ yek K W y u := by
 obtain ⟨v, r', e, h, l⟩ := r
 obtain ⟨u, e2, h2⟩ := yus l
 exact ⟨v, u, by rw [e, e2], h, h2⟩
theorem yiw : ynX K (yEZ K.K) ygV := by
  intro W xs vs Q z h' w r e q
  unfold ygV at e
  split at e
  . rename_i x
    split at e
    . rename_i n hn
      cases e
      obtain ⟨v, rfl, rx⟩ := yus r
      have fin : ∀ (ys : List V), ys.length = n -> Q (.int ys.length) W.H := fun ys hl => by rw [hl]; exact q _ W rfl (.refl w) rfl
      unfold yvl at hn
      split at hn
      . cases hn
        obtain ⟨a, us, rfl, hs, rs⟩ := rx
        exact ⟨a, us, rfl, .inr (yfK w hs), fin _ rs.len⟩
      . rename_i ys
        cases hn
        obtain ⟨a, us, rfl, hs, rs⟩ := rx
        exact ⟨a, us, rfl, .inl (SqL.of (w.le _ _ hs)), fin _ rs.len⟩
      . rename_i ns
        cases hn
        obtain ⟨a, rfl, hs⟩ := rx
        exact ⟨a, _, rfl, .inl (yiH w hs), fin _ (by simp)⟩
      . split at hn
        . rename_i ys hy
          cases hn
          obtain ⟨a, rfl, hm, hf, us, hp, rs⟩ := w.loc hy rx
          exact ⟨a, us, rfl, .inl (SqL.of hp), fin _ rs.len⟩
        . cases hn
      . cases hn
    . cases e
  . cases e
theorem yCO : ynX K yEY yxu := by
  intro W xs vs Q z h' w r e q
  unfold yxu at e
  split at e
  . rename_i s
    split at e
    . rename_i hl
      cases e
      obtain ⟨v, rfl, rx⟩ := yus r
      exact ⟨s, by rw [show v = _ from rx], yFe hl, q _ W rfl (.refl w) rfl⟩
    . cases e
  . cases e
def yvm : List PV -> AH -> Option (PV × AH) := fun xs h => match xs with | [.int i] => some (.int i, h) | [.bl k] => some (.int (if k then 1 else 0), h) | _ => none
theorem yyS : ynX K yEX yvm := by
  intro W xs vs Q z h' w r e q
  unfold yvm at e
  split at e
  . rename_i i
    cases e
    obtain ⟨v, rfl, rx⟩ := yus r
    exact .inl ⟨i, by rw [show v = _ from rx], q _ W rfl (.refl w) rfl⟩
  . rename_i k
    cases e
    obtain ⟨v, rfl, rx⟩ := yus r
    exact .inr ⟨k, by rw [show v = _ from rx], q _ W rfl (.refl w) rfl⟩
  . cases e
def ydU : List PV -> AH -> Option (Nd × AH) := fun xs h => match xs with | [.tup ys] => some (.lst ys, h) | [x] => (match listOf x h with | some ys => some (.lst ys, h) | none => none) | _ => none
theorem ygh : ysK K (yzO K.K) ydU := by
  intro W xs vs Q d h' w r e q
  unfold ydU at e
  split at e
  . rename_i ys
    cases e
    obtain ⟨v, rfl, a, us, rfl, hs, rs⟩ := yus r
    exact ⟨a, us, rfl, .inr (yfK w hs), fun p hp => yEt w hp rs q⟩
  . rename_i x _
    split at e
    . rename_i ys hy
      cases e
      obtain ⟨v, rfl, rx⟩ := yus r
      obtain ⟨a, us, rfl, hs, rs⟩ := ynu w hy rx
      exact ⟨a, us, rfl, .inl hs, fun p hp => yEt w hp rs q⟩
    . cases e
  . cases e
def intsOf : List PV -> Option (List Int)
  | [] => some []
  | .int s :: r => (intsOf r).map (s :: ·)
  | _ => none
theorem ynv : ∀ ss : List Int, intsOf (ss.map .int) = some ss
 | [] => rfl
 | s :: ss => by show (intsOf (ss.map .int)).map _ = _; rw [ynv ss]; rfl
theorem ynw {F : Hp} {m : List Addr} : ∀ {xs : List PV} {ss : List Int} {vs : List V}, intsOf xs = some ss -> RepL K F m xs vs -> vs = ss.map V.int
 | [], _, _, e, r => by cases e; exact r
 | x :: xs, ss, _, e, ⟨v, r', ev, h, l⟩ => by
  cases x <;> try cases e
  rename_i s
  obtain ⟨ts, e1, e2⟩ := Option.map_eq_some_iff.mp e
  subst e2
  rw [ev, show v = _ from h, ynw e1 l]; rfl
def yCP : List PV -> AH -> Option (PV × AH) := fun xs h => match xs with | [x] => (match yda x h with | some ys => (match intsOf ys with | some ns => some (.int ns.sum, h) | none => none) | none => none) | _ => none
theorem yFk : ynX K yFP yCP := by
  intro W xs vs Q z h' w r e q
  unfold yCP at e
  split at e
  . split at e
    . rename_i ys hy
      split at e
      . rename_i ns hn
        cases e
        obtain ⟨v, rfl, rx⟩ := yus r
        obtain ⟨a, us, rfl, hs, rs⟩ := ybX w hy rx
        have := ynw hn rs
        subst this
        exact ⟨a, ns, rfl, hs, q _ W rfl (.refl w) rfl⟩
      . cases e
    . cases e
  . cases e
def isStr : PV -> AH -> Bool := fun x _ => match x with | .str _ => true | _ => false
def yeG : PM := fun x xs h => match x, xs with | .str z, [.str s] => (match s.cps.toList with | [c] => if z.length <= 1000 /\ c ∈ z.cps.toList then some (.int (z.cps.toList.idxOf c), h) else none | _ => none) | _, _ => none
theorem yfz : yqh K "str" isStr yuU yeG := by
  refine ⟨fun W x v w r c => ?_, fun W x v xs vs Q z h' w rx r e q => ?_⟩
  . unfold isStr at c
    split at c
    . rw [show v = _ from r]; rfl
    . cases c
  . unfold yeG at e
    split at e
    . rename_i z s
      split at e
      . rename_i c hc
        split at e
        . rename_i hl
          cases e
          obtain ⟨u, rfl, ru⟩ := yus r
          exact ⟨z, c, rx, by rw [show u = _ from ru, one_sign hc], hl.1, hl.2, q _ W rfl (.refl w) rfl⟩
        . cases e
      . cases e
    . cases e
end PX
namespace PX
open PySem L2
variable {K : Ck}
def putN (f : Str) (x : PV) (ns : List Str) (xs : List PV) : List Str × List PV := if f ∈ ns then (ns, xs.set (ns.idxOf f) x) else (ns ++ [f], xs ++ [x])
theorem ysP (f : Str) (y : V) : ∀ (ns : List Str) (vs : List V), vs.length = ns.length -> yns f y (ns.zip vs) = if f ∈ ns then ns.zip (vs.set (ns.idxOf f) y) else (ns ++ [f]).zip (vs ++ [y])
  | [], [], _ => by simp [yns]
  | n :: ns, v :: vs, hl => by
    have ih := ysP f y ns vs (by simpa using hl)
    show (if n = f then (n, y) :: ns.zip vs else (n, v) :: yns f y (ns.zip vs)) = _
    by_cases h : n = f
    . subst h
      simp [List.idxOf_cons_self]
    . have h' : ¬ f = n := fun z => h z.symm
      have hb : (n == f) = false := by simpa using h
      rw [if_neg h, ih]
      by_cases hm : f ∈ ns
      . simp [hm, h', List.idxOf_cons, hb]
      . simp [hm, h']
theorem ynx {f : Str} : ∀ {ns : List Str} {vs : List V}, vs.length = ns.length -> f ∈ ns -> (ns.zip vs).lookup f = vs[ns.idxOf f]?
  | [], _, _, h => by simp at h
  | n :: ns, v :: vs, hl, h => by
    show List.lookup f ((n, v) :: ns.zip vs) = _
    by_cases hn : f = n
    . subst hn
      rw [yFb, List.idxOf_cons_self]; rfl
    . rw [yCr hn, ynx (by simpa using hl) (by simpa [hn] using h)]
      have hb : (n == f) = false := by simpa using fun z : n = f => hn z.symm
      simp [List.idxOf_cons, hb]
theorem yhJ {f : Str} : ∀ {ns : List Str} {vs : List V}, f ∉ ns -> (ns.zip vs).lookup f = none
 | [], _, _ => by simp
 | n :: ns, [], _ => by simp
 | n :: ns, v :: vs, h => by
  show List.lookup f ((n, v) :: ns.zip vs) = _
  rw [yCr (fun z : f = n => h (by rw [z]; exact List.mem_cons_self)), yhJ fun z => h (List.mem_cons_of_mem _ z)]
def yiI (x : PV) (h : AH) : Option (Nat × List Str × List PV) := match x with | .ins k ns xs => some (k, ns, xs) | .loc n => (match h[n]? with | some (.ins k ns xs) => some (k, ns, xs) | _ => none) | _ => none
theorem ylI {W : Wd} (w : WOk K W) {x : PV} {v : V} {k : Nat} {ns : List Str} {xs : List PV} (e : yiI x W.h = some (k, ns, xs)) (r : yek K W x v) : ∃ a dx vs, v = .ref a /\ W.H a = some (.ins (K.A k) dx (ns.zip vs)) /\ vs.length = ns.length /\ yfc K W xs vs := by
  unfold yiI at e
  split at e
  . cases e
    obtain ⟨a, dx, vs, ev, hs, hl, rs⟩ := r
    exact ⟨a, dx, vs, ev, w.le _ _ hs, hl, rs⟩
  . rename_i n
    split at e
    . rename_i hn
      cases e
      obtain ⟨a, ev, hm, hf, dx, vs, hp, hl, rs⟩ := w.loc hn r
      exact ⟨a, dx, vs, ev, hp, hl, rs⟩
    . cases e
  . cases e
def yfm (cs : List Nat) (f : Str) (e : XE) : XE := fun ρ h => ob (e ρ h) fun x h1 => match yiI x h1 with | some (k, ns, xs) => if k ∈ cs /\ f ∈ ns then (match xs[ns.idxOf f]? with | some y => some (y, h1) | none => none) else none | none => none
theorem yAy {cs : List Nat} {f : Str} {ta : TE} {ea : XE} (hc : ∀ k ∈ cs, Cls K.K (K.A k) /\ NoAttr K.K (K.A k) f) (a : ycW K ta ea) : ycW K (yFH K.K ta f) (yfm cs f ea) := by
  intro W0 W ρ σ Q z h' g e q
  obtain ⟨x, h1, e1, f1⟩ := yl e
  refine a W0 W ρ σ _ x h1 g e1 fun v W1 w1 l1 r1 => ?_
  subst w1
  split at f1
  . rename_i k ns xs hi
    split at f1
    . rename_i c
      split at f1
      . rename_i y hy
        cases f1
        obtain ⟨a, dx, vs, ev, hp, hl, rs⟩ := ylI l1.ok hi r1
        obtain ⟨u, h2, h3⟩ := rs.get hy
        exact ⟨a, _, dx, _, u, ev, hp, (hc k c.1).1, (hc k c.1).2, by rw [ynx hl c.2]; exact h2, q _ W1 rfl l1 h3⟩
      . cases f1
    . cases f1
  . cases f1
def ygW (cs : List Nat) (i : Nat) (f : Str) (e : XE) : XS := fun ρ h => ob (e ρ h) fun x h1 => match ρ[i]? with
 | some (.own (.ins k ns xs)) => if k ∈ cs /\ ns.length < 1000 then some (.nx (ρ.set i (.own (.ins k (putN f x ns xs).1 (putN f x ns xs).2))), h1) else none
 | _ => none
theorem RepL.putN {F : Hp} {m : List Addr} {f : Str} {x : PV} {v : V} {ns : List Str} {xs : List PV} {vs : List V} (r : RepL K F m xs vs) (hl : vs.length = ns.length) (rx : Rep K F m x v) :
    ∃ us, yns f v (ns.zip vs) = (PX.putN f x ns xs).1.zip us /\ us.length = (PX.putN f x ns xs).1.length /\ RepL K F m (PX.putN f x ns xs).2 us := by
  rw [ysP f v ns vs hl]
  unfold PX.putN
  by_cases h : f ∈ ns
  . rw [if_pos h, if_pos h]
    exact ⟨_, rfl, by rw [List.length_set]; exact hl, r.set _ rx⟩
  . rw [if_neg h, if_neg h]
    exact ⟨_, rfl, by rw [List.length_append, List.length_append, hl]; rfl, r.snoc rx⟩
def ywE (K : Ck) (t : TS) (s : XS) : Prop := ∀ (W0 W : Wd) (ρ ρ' : PSt) (σ : St) (D : Ends) (h' : AH), Good K W0 W ρ σ -> s ρ W.h = some (.nx ρ', h') -> (∀ W', W'.h = h' -> Lf K W W' -> Good K W0 W' ρ' σ -> D.nx σ W'.H) -> t D σ W.H
theorem yxv {cs : List Nat} {i : Nat} {f : Str} {ta : TE} {ea : XE} (hc : ∀ k ∈ cs, Cls K.K (K.A k) /\ NoAttr K.K (K.A k) f) (a : ycW K ta ea) : ywE K (yEI K.K (yyz i) ta f) (ygW cs i f ea) := by
  intro W0 W ρ ρ' σ D h' g e q
  obtain ⟨x, h1, e1, f1⟩ := yl e
  split at f1
  . rename_i k ns xs hi
    split at f1
    . rename_i c
      cases f1
      refine a W0 W ρ σ _ x _ g e1 fun v W1 w1 l1 r1 => ?_
      have g1 := g.step l1
      obtain ⟨p, b1, b2, b3, b4, b5, dx, vs, b6, b7, b8⟩ := g1.own i _ hi
      obtain ⟨us, p1, p2, p3⟩ := b8.putN (f := f) b7 r1
      refine ⟨_, b1, p, _, dx, _, rfl, b6, (hc k c.1).1, (hc k c.1).2, by rw [List.length_zip, b7]; simpa using c.2, ?_⟩
      rw [p1]
      exact q (yAo W1 p _) w1 (yyR l1 b2) (g1.mut hi b1 b2 b3 b5 (fun z => by cases z) ⟨b5, dx, us, yK, p2, p3⟩)
    . cases f1
  . cases f1
theorem yxw {t u : TS} {s s' : XS} (a : ywE K t s) (b : ywE K u s') : ywE K (yEB t u) (yM s s') := by
 intro W0 W ρ ρ' σ D h' g e q
 obtain ⟨o1, h1, e1, f1⟩ := yl e
 cases o1 with
 | nx ρ1 => exact a W0 W ρ ρ1 σ _ h1 g e1 fun W1 w1 l1 g1 => b W0 W1 ρ1 ρ' σ D h' g1 (by rw [w1]; exact f1) fun W2 w2 l2 g2 => q W2 w2 (l1.trans l2) g2
 | rt y => cases f1
 | bk y => cases f1
 | ct y => cases f1
def ytT (N : Nat) (k : Nat) (s : XS) : List PV -> AH -> Option (Nd × AH) := fun xs h => ob (s (.own (.ins k [] []) :: (xs.map .val ++ List.replicate (N - (xs.length + 1)) .no)) h) fun o h1 => match o with | .nx ρ => (match ρ[0]? with | some (PVar.own d) => some (d, h1) | _ => none) | _ => none
def spI (K : Ck) (n k : Nat) (f : List PV -> AH -> Option (Nd × AH)) : Sp := fun vs H Q _ => ∃ (W : Wd) (x dx : Addr) (args : List V) (xs : List PV) (d : Nd) (h' : AH), vs = .ref x :: args /\ W.H x = none /\ W.H dx = none /\ dx ≠ x /\ H = upd (upd W.H dx (.own x)) x (.ins (K.A k) dx []) /\
 WOk K W /\ yfc K W xs args /\ xs.length = n /\ f xs W.h = some (d, h') /\ ∀ W', W'.h = h' -> Le K W W' -> x ∉ W'.m -> d ≠ .dead -> NdAt K W'.F W'.H W'.m d x -> Q .non W'.H
theorem yAz {n k : Nat} {f} {vs : List V} {H : Hp} {Q : VK} {E : XK} (h : spI K n k f vs H Q E) : vs.length = n + 1 := by
 obtain ⟨W, x, dx, args, xs, d, h', rfl, _, _, _, _, w, r, hn, _⟩ := h
 rw [List.length_cons, r.len, hn]
theorem yxx {N : List Str} {n k : Nat} {t : TS} {s : XS} {vs : List V} {H : Hp} {Q : VK} {E : XK} {bk ct : St -> Hp -> Prop} (hN : n + 1 <= N.length) (a : ywE K t s) (h : spI K n k (ytT N.length k s) vs H Q E) : t ⟨fun _ H' => Q .non H', Q, bk, ct⟩ (L2.start N vs) H := by
  obtain ⟨W, x, dx, args, xs, d, h', rfl, hx, hd, hne, rfl, w, r, hn, e, q⟩ := h
  obtain ⟨o, h1, e1, f1⟩ := yl e
  have l1 : Le K W (ysN W dx (.own x)) := ygU w hd
  have hx1 : (ysN W dx (.own x)).H x = none := (yU hne.symm).trans hx
  have l2 : Le K (ysN W dx (.own x)) (ysN (ysN W dx (.own x)) x (.ins (K.A k) dx [])) := ygU l1.ok hx1
  have l := l1.trans l2
  have gs := ykh (K := K) (N := N.drop 1) w r
  have g : Good K W (ysN (ysN W dx (.own x)) x (.ins (K.A k) dx [])) (.own (.ins k [] []) :: (xs.map .val ++ List.replicate (N.length - (xs.length + 1)) .no)) (L2.start N (.ref x :: args)) := by
    have es : L2.start N (.ref x :: args) = some (.ref x) :: L2.start (N.drop 1) args := by
      have e3 : N.length - (args.length + 1) = (N.drop 1).length - args.length := by rw [List.length_drop]; omega
      unfold L2.start
      rw [List.map_cons, List.cons_append, List.length_cons, e3]
    have eN : N.length - (xs.length + 1) = (N.drop 1).length - xs.length := by rw [List.length_drop]; omega
    rw [es, eN]
    have gs' := gs.step l
    have noown : ∀ (j : Nat) (d : Nd), (xs.map PVar.val ++ List.replicate ((N.drop 1).length - xs.length) .no)[j]? ≠ some (.own d) := fun j d z => by
      by_cases hj : j < xs.length
      . rw [List.getElem?_append_left (by simpa using hj), List.getElem?_map, List.getElem?_eq_getElem hj] at z
        cases z
      . rw [List.getElem?_append_right (by simp; omega), List.getElem?_replicate] at z
        split at z <;> cases z
    refine ⟨l, by rw [List.length_cons, List.length_cons, gs.len], fun j y z => ?_, fun j d z => ?_, fun i j d d' hij z z' => ?_⟩
    . cases j with
      | zero => cases z
      | succ j => exact gs'.val j y z
    . cases j with
      | zero => cases z; exact ⟨x, rfl, w.out hx, hx, (fun z => by cases z), w.ff hx, dx, [], yK, rfl, rfl⟩
      | succ j => exact absurd z (noown j d)
    . cases i with
      | zero =>
        cases j with
        | zero => exact absurd rfl hij
        | succ j => exact absurd z' (noown j d')
      | succ i => exact absurd z (noown i d)
  cases o with
  | rt y => cases f1
  | bk ρ => cases f1
  | ct ρ => cases f1
  | nx ρ =>
    refine a W _ _ ρ _ _ h1 g e1 fun W' ew lf g' => ?_
    dsimp only at f1
    split at f1
    . rename_i d' hd'
      cases f1
      obtain ⟨p, b1, b2, b3, b4, b5⟩ := g'.own 0 _ hd'
      have b1 : some (some (V.ref x)) = some (some (V.ref p)) := b1
      cases b1
      exact q W' ew g'.le b2 b4 b5
    . cases f1
def ymP (f : List PV -> AH -> Option (Nd × AH)) (a : XA) : XO := fun ρ h => ob (a ρ h) f
theorem ysQ {n k : Nat} {f} {ex : XK} {t : TA} {e : XA} (a : yri K t e) (hn : ∀ ρ h xs h', e ρ h = some (xs, h') -> xs.length = n) : ytL K (yzI (K.A k) (spI K n k f) [] ex t) (ymP f e) := by
 intro W0 W ρ σ Q d h' g e' q
 obtain ⟨xs, h1, e1, e2⟩ := yl e'
 refine a W0 W ρ σ _ xs h1 g e1 fun vs W1 w1 l1 r1 => ?_
 subst w1
 intro x dx hx hd hne
 rw [List.append_nil]
 exact ⟨W1, x, dx, vs, xs, d, h', rfl, hx, hd, hne, rfl, l1.ok, r1, hn _ _ _ _ e1, e2, fun W2 w2 l2 hm hdd at_ => ⟨rfl, q x W2 w2 (l1.trans l2) hm (l1.fresh hx) hdd at_⟩⟩
def ytU (tb : List (Nat × Nat × Bool)) (x c : PV) (h : AH) : Option Bool := match c with
  | .ty n => (match x with
    | .int _ => if n = "int" then some true else if n = "bool" \/ n = "str" \/ n = "list" \/ n = "tuple" \/ n = "dict" then some false else none
    | .bl _ => if n = "int" \/ n = "bool" then some true else if n = "str" \/ n = "list" \/ n = "tuple" \/ n = "dict" then some false else none
    | .str _ => if n = "str" then some true else if n = "int" \/ n = "bool" \/ n = "list" \/ n = "tuple" \/ n = "dict" then some false else none
    | .non => if n = "int" \/ n = "bool" \/ n = "str" \/ n = "list" \/ n = "tuple" \/ n = "dict" then some false else none
    | .tup _ => if n = "tuple" then some true else if n = "int" \/ n = "bool" \/ n = "str" \/ n = "list" \/ n = "dict" then some false else none
    | _ => (match yda x h with | some _ => if n = "list" then some true else if n = "int" \/ n = "bool" \/ n = "str" \/ n = "tuple" \/ n = "dict" then some false else none | none => none))
  | .cls c' => (match yiI x h with | some (k, _) => (tb.find? fun r => r.1 == k && r.2.1 == c').map (·.2.2) | none => none)
  | _ => none
def yde (tb : List (Nat × Nat × Bool)) : List PV -> AH -> Option (PV × AH) := fun xs h => match xs with | [x, c] => (match ytU tb x c h with | some b => some (.bl b, h) | none => none) | _ => none
theorem yhK {tb : List (Nat × Nat × Bool)} (ht : ∀ r ∈ tb, ∀ (H : Hp) (a dx : Addr) (fs : List (Str × V)), H a = some (.ins (K.A r.1) dx fs) -> IsI K.K H (.ref a) (.ref (K.A r.2.1)) r.2.2) : ynX K (yFN K.K) (yde tb) := by
  intro W xs vs Q z h' w r e q
  unfold yde at e
  split at e
  . rename_i x c
    split at e
    . rename_i b hb
      cases e
      obtain ⟨v, u, rfl, rx, ru⟩ := yFQ r
      refine ⟨v, u, b, rfl, ?_, q _ W rfl (.refl w) rfl⟩
      unfold ytU at hb
      split at hb
      . rename_i n
        obtain rfl : u = .ty n := ru
        split at hb
        . rw [show v = _ from rx]
          repeat' split at hb
          all_goals cases hb
          . rename_i hn; subst hn; exact yrr
          . rename_i hn; rcases hn with rfl | rfl | rfl | rfl | rfl
            . exact ypR
            . exact yrw
            . exact ypT
            . exact ynS
            . exact ypU
        . rw [show v = _ from rx]
          repeat' split at hb
          all_goals cases hb
          . rename_i hn; rcases hn with rfl | rfl
            . exact ytJ
            . exact yrt
          . rename_i hn; rcases hn with rfl | rfl | rfl | rfl
            . exact ytK
            . exact yrx
            . exact ypV
            . exact yry
        . rw [show v = _ from rx]
          repeat' split at hb
          all_goals cases hb
          . rename_i hn; subst hn; exact yru
          . rename_i hn; rcases hn with rfl | rfl | rfl | rfl | rfl
            . exact yrz
            . exact ypW
            . exact ypX
            . exact ynT
            . exact ypY
        . rw [show v = _ from rx]
          repeat' split at hb
          all_goals cases hb
          . rename_i hn; rcases hn with rfl | rfl | rfl | rfl | rfl | rfl
            . exact yrs
            . exact ypZ
            . exact yrA
            . exact yqa
            . exact ynU
            . exact yqb
        . obtain ⟨a, us, rfl, hs, _⟩ := rx
          have hp : (∃ xs, W.H a = some (.tup xs)) \/ ∃ o, K.K.lookup a = some o /\ o.cls = .type "tuple" := hs.elim (fun h => .inl ⟨_, w.le _ _ h⟩) fun ⟨o, its, n, e1, e2, _⟩ => .inr ⟨o, e1, e2⟩
          repeat' split at hb
          all_goals cases hb
          . rename_i hn; subst hn; exact ynW hp
          . rename_i hn; rcases hn with rfl | rfl | rfl | rfl | rfl
            . exact yrD hp
            . exact yqe hp
            . exact yrE hp
            . exact yqf hp
            . exact yqg hp
        . split at hb
          . rename_i ys hy
            obtain ⟨a, us, rfl, hp, _⟩ := ybX w hy rx
            repeat' split at hb
            all_goals cases hb
            . rename_i hn; subst hn; exact ypS hp
            . rename_i hn; rcases hn with rfl | rfl | rfl | rfl | rfl
              . exact yrB hp
              . exact yqc hp
              . exact yrC hp
              . exact ynV hp
              . exact yqd hp
          . cases hb
      . rename_i c'
        obtain rfl : u = .ref (K.A c') := ru
        split at hb
        . rename_i k p hi
          obtain ⟨r', h1, h2⟩ := Option.map_eq_some_iff.mp hb
          have hm := List.mem_of_find?_eq_some h1
          have hp := List.find?_some h1
          simp only [Bool.and_eq_true, beq_iff_eq] at hp
          obtain ⟨a, dx, us, rfl, hs, _⟩ := ylI w hi rx
          obtain ⟨p1, p2⟩ := hp
          have := ht r' hm W.H a dx (p.1.zip us) (by rw [p1]; exact hs)
          rw [p2, h2] at this
          exact this
        . cases hb
      . cases hb
    . cases e
  . cases e
end PX
namespace PX
open PySem L2
section
variable {ρ : PSt} {h h1 : AH} {x y z : PV} {a b c : XE} {ca cb : XT} {aa : XA} {eo : XO} {s u : XS} {i : Nat} {p : P2}
theorem yD {α β : Type} {x : α} {h : AH} {f : α -> AH -> Option β} : ob (some (x, h)) f = f x h := id rfl
theorem yoa {α β : Type} {f : α -> AH -> Option β} : ob (none : Option (α × AH)) f = none := id rfl
theorem ymQ {α β γ : Type} {o : Option (α × AH)} {f : α -> AH -> Option (β × AH)} {g : β -> AH -> Option γ} : ob (ob o f) g = ob o fun x h => ob (f x h) g := by cases o <;> rfl
theorem yob {α β : Type} {q : Prop} [Decidable q] {o o' : Option (α × AH)} {f : α -> AH -> Option β} : ob (if q then o else o') f = if q then ob o f else ob o' f := by split <;> rfl
theorem yjm : yg 0 (.val x :: ρ) h = some (x, h) := id rfl
theorem yjn {v : PVar} {n : Nat} : yg (n + 1) (v :: ρ) h = yg n ρ h := by simp [yg]
theorem x_c : xC x ρ h = some (x, h) := id rfl
theorem yvn : xOp p a b ρ h = ob (a ρ h) fun x h1 => ob (b ρ h1) fun y h2 => p x y h2 := id rfl
theorem yoc {p : P2O} : yCw p a b ρ h = ob (a ρ h) fun x h1 => ob (b ρ h1) fun y h2 => p x y h2 := id rfl
theorem ywF {k : Bool} : oB (.bl k) h = some (k, h) := id rfl
theorem yix : ybi a ρ h = ob (a ρ h) oB := id rfl
theorem yjo : yrG a b ρ h = ob (a ρ h) fun x h1 => ob (oB x h1) fun k h1 => if k = true then b ρ h1 else some (.bl false, h1) := id rfl
theorem yjp : yxc a ρ h = ob (a ρ h) fun x h1 => ob (oB x h1) fun k h1 => some (.bl (!k), h1) := id rfl
theorem yxy : xOr ca cb ρ h = ob (ca ρ h) fun k h1 => if k = true then some (true, h1) else cb ρ h1 := id rfl
theorem yod : yyN ca ρ h = ob (ca ρ h) fun k h1 => some (!k, h1) := id rfl
theorem yxz : xIf ca a b ρ h = ob (ca ρ h) fun k h1 => if k = true then a ρ h1 else b ρ h1 := id rfl
theorem ylJ : yq ρ h = some ([], h) := id rfl
theorem yhC : yd a aa ρ h = ob (a ρ h) fun x h1 => ob (aa ρ h1) fun xs h2 => some (x :: xs, h2) := id rfl
theorem ymR : ymM aa ρ h = ob (aa ρ h) fun xs h1 => if xs.length <= 1000 then some (.tup xs, h1) else none := id rfl
theorem yoe : ylE aa ρ h = ob (aa ρ h) fun xs h1 => if xs.length <= 1000 then some (.lst xs, h1) else none := id rfl
def fzN : Nd -> AH -> Option (PV × AH)
 | .lst xs, h => some (.lst xs, h)
 | .ins k ns xs, h => some (.ins k ns xs, h)
 | _, _ => none
theorem yvo : xFz eo ρ h = ob (eo ρ h) fzN := by
 unfold xFz; congr; funext d h1; cases d <;> rfl
theorem yof {xs : List PV} : fzN (.lst xs) h = some (.lst xs, h) := id rfl
theorem yog {k : Nat} {ns : List Str} {xs : List PV} : fzN (.ins k ns xs) h = some (.ins k ns xs, h) := id rfl
theorem ylK : ymK eo ρ h = ob (eo ρ h) fun d h1 => some (.loc h1.length, h1 ++ [d]) := id rfl
theorem x_call {f : Fn} : yfd f aa ρ h = ob (aa ρ h) f := id rfl
theorem yxA {f} : xCB f aa ρ h = ob (aa ρ h) f := id rfl
theorem ymS {f} : ysJ f aa ρ h = ob (aa ρ h) f := id rfl
theorem yxB {q} {p : PM} : xBM q p a aa ρ h = ob (a ρ h) fun x h1 => if q x h1 = true then ob (aa ρ h1) fun xs h2 => p x xs h2 else none := id rfl
theorem ygX {s : Str} : isStr (.str s) h = true := id rfl
theorem yjq {f} : ymP f aa ρ h = ob (aa ρ h) f := id rfl
theorem yiy : ycy ρ h = some (.nx ρ, h) := id rfl
def sqK (u : XS) : Out -> AH -> Option (Out × AH)
 | .nx ρ, h => u ρ h
 | .rt x, h => some (.rt x, h)
 | .bk ρ, h => some (.bk ρ, h)
 | .ct ρ, h => some (.ct ρ, h)
theorem yiJ : yM s u ρ h = ob (s ρ h) (sqK u) := by
 unfold yM; congr; funext o h1; cases o <;> rfl
theorem yjr : sqK u (.nx ρ) h = u ρ h := id rfl
theorem yoh : sqK u (.rt x) h = some (.rt x, h) := id rfl
theorem yhD : yeo a ρ h = ob (a ρ h) fun _ h1 => some (.nx ρ, h1) := id rfl
theorem yki : ydf a ρ h = ob (a ρ h) fun x h1 => some (.rt x, h1) := id rfl
theorem ymT : yel ca s u ρ h = ob (ca ρ h) fun k h1 => if k = true then s ρ h1 else u ρ h1 := id rfl
theorem ykU {g : XG} : yfH a g ρ h = ob (a ρ h) fun x h1 => (g x ρ).bind fun ρ' => some (.nx ρ', h1) := id rfl
theorem yjs : yve eo i ρ h = ob (eo ρ h) fun d h1 => some (.nx (ρ.set i (.own d)), h1) := id rfl
theorem yjt : ybh i x ρ = some (ρ.set i (.val x)) := id rfl
theorem yoi : yCG i s ρ h = s (yrL i ρ) h := id rfl
theorem yoj {v : PVar} : yrL 0 (v :: ρ) = yxj v :: ρ := id rfl
theorem yok {v : PVar} {n : Nat} : yrL (n + 1) (v :: ρ) = v :: yrL n ρ := id rfl
theorem yol {xs : List PV} : yxj (.own (.lst xs)) = .val (.lst xs) := id rfl
theorem ymU {it : XA} {g : XG} : ywB it g s ρ h = ob (it ρ h) fun xs h1 => ynY g s xs ρ h1 := id rfl
def frK (g : XG) (s : XS) (xs : List PV) : Out -> AH -> Option (Out × AH)
 | .nx ρ, h => ynY g s xs ρ h
 | .ct ρ, h => ynY g s xs ρ h
 | .bk ρ, h => some (.nx ρ, h)
 | .rt y, h => some (.rt y, h)
theorem yyT {g : XG} {xs : List PV} : ynY g s (x :: xs) ρ h = (g x ρ).bind fun ρ1 => ob (s ρ1 h) (frK g s xs) := by
 unfold ynY; congr; funext ρ1; congr; funext o h1; cases o <;> rfl
theorem yom {g : XG} {xs : List PV} : frK g s xs (.nx ρ) h = ynY g s xs ρ h := id rfl
theorem yon {g : XG} {xs : List PV} : frK g s xs (.rt x) h = some (.rt x, h) := id rfl
def fnK : Out -> AH -> Option (PV × AH)
 | .rt x, h => some (x, h)
 | .nx _, h => some (.non, h)
 | _, _ => none
theorem yX {N : Nat} {xs : List PV} : ygC N s xs h = ob (s (xs.map .val ++ List.replicate (N - xs.length) .no) h) fnK := by
 unfold ygC; congr; funext o h1; cases o <;> rfl
theorem yoo : fnK (.rt x) h = some (x, h) := id rfl
theorem yop : fnK (.nx ρ) h = some (.non, h) := id rfl
def inK : Out -> AH -> Option (Nd × AH)
 | .nx (.own d :: _), h => some (d, h)
 | _, _ => none
theorem yiK {N k : Nat} {xs : List PV} : ytT N k s xs h = ob (s (.own (.ins k [] []) :: (xs.map .val ++ List.replicate (N - (xs.length + 1)) .no)) h) inK := by
 unfold ytT; congr; funext o h1; cases o with
 | nx ρ => cases ρ with
  | nil => rfl
  | cons v ρ => cases v <;> rfl
 | _ => rfl
theorem yoq {d : Nd} : inK (.nx (.own d :: ρ)) h = some (d, h) := id rfl
def yiL (cs : List Nat) (f : Str) (x : PV) (h : AH) : Option (PV × AH) := match yiI x h with | some (k, ns, xs) => if k ∈ cs /\ f ∈ ns then (match xs[ns.idxOf f]? with | some y => some (y, h) | none => none) else none | none => none
theorem yju {cs : List Nat} {f : Str} : yfm cs f a ρ h = ob (a ρ h) (yiL cs f) := id rfl
theorem ydC {cs : List Nat} {f : Str} {k : Nat} {ns : List Str} {xs : List PV} {y : PV} (hk : k ∈ cs) (hf : f ∈ ns) (hy : xs[ns.idxOf f]? = some y) : yiL cs f (.ins k ns xs) h = some (y, h) := by
 unfold yiL yiI
 simp [hk, hf, hy]
def yor (cs : List Nat) (i : Nat) (f : Str) (ρ : PSt) (x : PV) (h : AH) : Option (Out × AH) := match ρ[i]? with
 | some (.own (.ins k ns xs)) => if k ∈ cs /\ ns.length < 1000 then some (.nx (ρ.set i (.own (.ins k (putN f x ns xs).1 (putN f x ns xs).2))), h) else none
 | _ => none
theorem yjv {cs : List Nat} {f : Str} : ygW cs i f a ρ h = ob (a ρ h) (yor cs i f ρ) := id rfl
theorem yfw {cs : List Nat} {f : Str} {k : Nat} {ns : List Str} {xs : List PV} (hk : k ∈ cs) (hl : ns.length < 1000) (hf : f ∉ ns) : yor cs 0 f (.own (.ins k ns xs) :: ρ) x h = some (.nx (.own (.ins k (ns ++ [f]) (xs ++ [x])) :: ρ), h) := by
 unfold yor putN
 simp [hk, hl, hf]
theorem x_i {g : Int -> Int -> PV} {i j : Int} : oI g (.int i) (.int j) h = some (g i j, h) := id rfl
theorem yxC {C : Int -> Int -> Prop} [∀ i j, Decidable (C i j)] {g : Int -> Int -> PV} {i j : Int} : oIc C g (.int i) (.int j) h = if C i j then some (g i j, h) else none := id rfl
theorem yjw {i j : Int} (h1 : -18446744073709551616 < j) (h2 : j < 18446744073709551616) : MulOk i j = True := eq_true (.inr ⟨h1, h2⟩)
theorem yos {i j : Int} (h1 : 0 <= i) (h2 : i < 18446744073709551616) (h3 : 0 <= j) (h4 : j <= 1000000) : yvk i j = True := eq_true ⟨⟨h1, h2⟩, h3, h4⟩
theorem yot {i j : Int} : oEq (.int i) (.int j) h = some (.bl (decide (i = j)), h) := by simp [oEq, sv, yzz]
theorem you {i j : Str} : oEq (.str i) (.str j) h = some (.bl (decide (i = j)), h) := by simp [oEq, sv, yzz]
theorem yov {i j : Int} : oNe (.int i) (.int j) h = some (.bl (!decide (i = j)), h) := by simp [oNe, sv, yzz]
theorem yow : yEr x .non h = some (.bl (isN x), h) := id rfl
theorem yox {xs : List PV} {i : Int} : yhA (.lst xs) (.int i) h = (atI xs i).bind fun v => some (v, h) := by
 simp only [yhA]; cases atI xs i <;> rfl
theorem yoy {xs : List PV} {i : Int} : yhB (.tup xs) (.int i) h = (atI xs i).bind fun v => some (v, h) := by
 simp only [yhB]; cases atI xs i <;> rfl
theorem yoz {s : Str} {i : Int} : yAw (.str s) (.int i) h = (atI s.cps.toList i).bind fun c => if s.length <= 100000 then some (sgn c, h) else none := by
 simp only [yAw]; cases atI s.cps.toList i <;> rfl
theorem yoA {xs : List PV} {lo hi : Option Int} : yBI (.lst xs) lo hi h = some (.lst (ytS xs lo hi), h) := id rfl
theorem yoB {xs : List Int} {lo hi : Option Int} : yBI (.scr xs) lo hi h = some (.lst (ytS (xs.map .int) lo hi), h) := id rfl
theorem yoC {xs ys : List PV} : yCM (.lst xs) (.lst ys) h = if xs.length + ys.length <= 100000 then some (.lst (xs ++ ys), h) else none := id rfl
theorem yxD {p} {lo hi} : xSl p a lo hi ρ h = ob (a ρ h) fun x h1 => ob (lo ρ h1) fun l h2 => ob (hi ρ h2) fun u h3 => p x l u h3 := id rfl
theorem yoD {p} {lo hi} : yCx p a lo hi ρ h = ob (a ρ h) fun x h1 => ob (lo ρ h1) fun l h2 => ob (hi ρ h2) fun u h3 => p x l u h3 := id rfl
theorem yjx : yrH a ρ h = ob (a ρ h) fun x h1 => match x with | .int i => some (some i, h1) | _ => none := id rfl
theorem yfA : ylF ρ h = some (none, h) := id rfl
theorem yiz {xs : List PV} : ygV [.lst xs] h = some (.int xs.length, h) := id rfl
theorem yjy {xs : List PV} : ygV [.tup xs] h = some (.int xs.length, h) := id rfl
theorem yjz {xs : List Int} : ygV [.scr xs] h = some (.int xs.length, h) := id rfl
theorem yjA {z : Str} : yxu [.str z] h = if z.length <= 100000 then some (.int z.length, h) else none := id rfl
theorem ygY {k : Bool} : yvm [.bl k] h = some (.int (if k then 1 else 0), h) := id rfl
theorem ygD {xs : List PV} : ydU [.lst xs] h = some (.lst xs, h) := id rfl
theorem yiA {it : XA} {ix : List Nat} : ytP it ix a ρ h = ob (it ρ h) fun xs h1 => if xs.length <= 100000 then ob (yxl a (yxk ix ρ) xs h1) fun ys h2 => some (.lst ys, h2) else none := id rfl
end
end PX
namespace L2
open PySem PySem.Spec PyProof.Rows
end L2
namespace L2
open PySem PySem.Spec PyProof.Rows
section
variable (P : Program) (w : World)
end
section
variable {P : Program} {w : World} {H H' : Hp} {h h' : Heap} {a : Addr} {o : HO}
end
section
variable {P : Program} {w : World} {H : Hp} {h h' : Heap} {x e : Addr} {o' : HO}
end
section
variable {fs fs' ex ex' : List Addr} {H H1 H2 : Hp} {h h1 h2 h' : Heap} {a x e : Addr} {o : HO}
end
end L2
namespace L2
open PySem PySem.Spec PyProof.Rows
section
variable {X : Cx} {pins : List (Addr × Obj)} {σ : List (Option V)} {H H' : Hp} {s : Shared} {h' : Heap}
end
end L2
namespace L2
open PySem PySem.Spec PyProof.Rows
section
variable {X : Cx}
variable {a b : Expr} {ta tb : TE} {pos : Pos}
variable {tA tB' : TT} {rest : List Expr}
end
end L2
namespace L2
open PySem PySem.Spec PyProof.Rows
section
variable {X : Cx} {pins : List (Addr × Obj)} {σ : St} {H : Hp} {s : Shared} {a : Addr} {xs ys : List V}
end
section
variable {X : Cx} {pins : List (Addr × Obj)} {σ : St} {H : Hp} {s : Shared} {E : Value -> Shared -> Prop}
end
section
variable {X : Cx} {st : Stmt} {rest : List Stmt} {t u : TS} {e : Expr} {te : TE} {pos : Pos}
end
section
variable {X : Cx} {pos : Pos}
end
section
variable {X : Cx} {pos : Pos}
end
end L2
namespace L2
open PySem PySem.Spec PyProof.Rows
section
variable {X : Cx} {tg : Expr}
end
end L2
namespace L2
open PySem PySem.Spec PyProof.Rows
section
variable {X : Cx} {a b c : Expr} {ta tb tc : TE} {pos : Pos}
end
section
variable {X : Cx} {a b c : Expr} {ta tb tc : TE} {pos : Pos}
end
end L2
namespace L2
open PySem PySem.Spec PyProof.Rows
section
variable {prog : Program} {w : World} {A : Around} {E : Value -> Shared -> Prop} {s : Shared} {K : PySem.W.Frag} {x dx C f : Addr} {mA : Str -> Option Value} {name : Str} {v : Value}
end
section
variable {P : Program} {w : World} {H H' : Hp} {h h' : Heap} {a C dx : Addr} {fs fs' : List (Str × V)}
end
section
variable {X : Cx} {pins : List (Addr × Obj)} {σ : St} {H : Hp} {s : Shared} {a C dx : Addr} {fs : List (Str × V)} {f : Str} {v : V} {A : Around} {E : Value -> Shared -> Prop}
end
section
variable {X : Cx} {o e value : Expr} {f : Str} {pos pos' tpos : Pos} {ta tv : TE}
end
section
variable {X : Cx} {pins : List (Addr × Obj)} {σ : St} {H : Hp} {s : Shared} {A : Around} {E : Value -> Shared -> Prop} {Q : Value -> Shared -> Prop} {c : Value} {b : Bool}
end
end L2
namespace L2
open PySem PySem.Spec PyProof.Rows
section
variable {X : Cx} {e : Expr} {es : List Expr} {te : TE} {t : TA} {pos : Pos}
end
section
variable {X : Cx} {pins : List (Addr × Obj)} {σ : St} {H : Hp} {s s' : Shared}
end
section
variable {X : Cx} {CX : CXT} {k : Nat} {f C : Addr} {fd : FuncData} {ps : List Str} {sp : Sp} {dvs : List V} {ds : List Value} {E : XK} {x m : Str} {p pos apos : Pos} {e o : Expr} {es : List Expr} {ta : TE} {t : TA}
end
section
variable {X : Cx} {CX : CXT} {k : Nat} {f C : Addr} {fd : FuncData} {ps ks : List Str} {sp : Sp} {E : XK} {x m : Str} {p pos apos kpos : Pos} {e o : Expr} {es : List Expr} {kws : List Keyword} {te ta : TE} {t tk : TA} {nm : Option Str}
variable {g : List Value -> List Value -> List Value} {gV : List V -> List V -> List V}
end
end L2
namespace L2
open PySem PySem.Spec PyProof.Rows
section
variable {X : Cx} {x : Str} {p pos : Pos} {e : Expr} {es : List Expr} {t : TA} {id T : String} {r : List V -> Hp -> VK -> Prop}
end
end L2
namespace L2
open PySem PySem.Spec PyProof.Rows
section
variable {κ : Type} [DecidableEq κ]
def yqi (kvs : List (κ × V)) (k : κ) : Option V := (kvs.find? fun kv => decide (kv.1 = k)).map (·.2)
def putK (kvs : List (κ × V)) (k : κ) (v : V) : List (κ × V) :=
 if (kvs.any fun kv => decide (kv.1 = k)) = true then kvs.map (fun kv => if kv.1 = k then (kv.1, v) else kv) else kvs ++ [(k, v)]
theorem yoE {p : κ × V} {r : List (κ × V)} {k : κ} (e : p.1 = k) : yqi (p :: r) k = some p.2 := by simp [yqi, List.find?_cons, e]
theorem yoF {p : κ × V} {r : List (κ × V)} {k : κ} (e : ¬ p.1 = k) : yqi (p :: r) k = yqi r k := by simp [yqi, List.find?_cons, e]
theorem ysR (k : κ) : ∀ kvs : List (κ × V), (kvs.any fun kv => decide (kv.1 = k)) = (yqi kvs k).isSome
  | [] => rfl
  | p :: r => by
    rw [List.any_cons]
    by_cases e : p.1 = k
    . simp only [yoE e, decide_eq_true e, Bool.true_or, Option.isSome_some]
    . rw [yoF e, decide_eq_false e, Bool.false_or]; exact ysR k r
theorem yiM (kvs : List (κ × V)) (k : κ) (v : V) : (putK kvs k v).length <= kvs.length + 1 := by
  unfold putK
  split
  . rw [List.length_map]; omega
  . rw [List.length_append, List.length_cons, List.length_nil]; omega
theorem RelO.isSome_eq {o : Option V} {u : Option Value} (r : RelO o u) : o.isSome = u.isSome := by
 cases o with
 | none => cases u with
  | none => rfl
  | some _ => exact (show False from r).elim
 | some _ => cases u with
  | none => exact (show False from r).elim
  | some _ => rfl
theorem RelO.getD {o : Option V} {u : Option Value} {d : V} {d' : Value} (r : RelO o u) (rd : RelV d d') : RelV (o.getD d) (u.getD d') := by
 cases o with
 | none => cases u with
  | none => exact rd
  | some _ => exact (show False from r).elim
 | some _ => cases u with
  | none => exact (show False from r).elim
  | some _ => exact r
theorem KV.val {kvs : List (κ × V)} {vs : List (κ × Value)} (r : KV kvs vs) (k : κ) : RelO (yqi kvs k) (valueAt vs k) := by
  unfold KV at r
  induction r with
  | nil => exact True.intro
  | @cons p q ps qs h t ih =>
    obtain ⟨h1, h2⟩ := h
    by_cases e : p.1 = k
    . have e' : q.1 = k := h1.symm.trans e
      have b : valueAt (q :: qs) k = some q.2 := by simp [valueAt, List.find?_cons, e']
      rw [yoE e, b]; exact h2
    . have e' : ¬ q.1 = k := fun z => e (h1.trans z)
      have b : valueAt (q :: qs) k = valueAt qs k := by simp [valueAt, List.find?_cons, e']
      rw [yoF e, b]; exact ih
theorem KV.any {kvs : List (κ × V)} {vs : List (κ × Value)} (r : KV kvs vs) (k : κ) : (kvs.any fun kv => decide (kv.1 = k)) = vs.any fun kv => decide (kv.1 = k) := by
 unfold KV at r
 induction r with
 | nil => rfl
 | cons h t ih => rw [List.any_cons, List.any_cons, ih, h.1]
theorem KV.repl {kvs : List (κ × V)} {vs : List (κ × Value)} (r : KV kvs vs) (k : κ) {y : V} {u : Value} (ry : RelV y u) :
    KV (kvs.map fun kv => if kv.1 = k then (kv.1, y) else kv) (vs.map fun kv => if kv.1 = k then (kv.1, u) else kv) := by
  unfold KV at r ⊢
  induction r with
  | nil => exact .nil
  | @cons p q ps qs h t ih =>
    rw [List.map_cons, List.map_cons]
    refine .cons ?_ ih
    obtain ⟨h1, h2⟩ := h
    by_cases e : p.1 = k
    . rw [if_pos e, if_pos (h1.symm.trans e)]; exact ⟨h1, ry⟩
    . rw [if_neg e, if_neg (fun z => e (h1.trans z))]; exact ⟨h1, h2⟩
theorem KV.put {kvs : List (κ × V)} {vs : List (κ × Value)} (r : KV kvs vs) (k : κ) {y : V} {u : Value} (ry : RelV y u) : KV (putK kvs k y) (stored vs k u) := by
  unfold putK stored
  rw [r.any k]
  by_cases e : (vs.any fun kv => decide (kv.1 = k)) = true
  . rw [if_pos e, if_pos e]; exact r.repl k ry
  . rw [if_neg e, if_neg e]; exact Paired.snoc r ⟨rfl, ry⟩
theorem KV.length {kvs : List (κ × V)} {vs : List (κ × Value)} (r : KV kvs vs) : kvs.length = vs.length := Paired.length r
end
theorem ytV {P : Program} {w : World} {k : Key} {u : Value} (r : RelV (kV k) u) : (ycZ P w).is k u = true := by
 cases k with
 | inl i => obtain ⟨t, e⟩ := (show ∃ t, u = Value.int i t from r); subst e; exact yrk P w i t
 | inr x => obtain ⟨t, e⟩ := (show ∃ t, u = Value.str x t from r); subst e; exact yrl P w x t
theorem yqj {P : Program} {w : World} : ∀ {ks : List Key} {us : List Value}, Vals (ks.map kV) us -> ItemsAre (ycZ P w) ks us
 | [], _, r => by rw [List.map_nil] at r; cases r; exact .nil
 | k :: ks, _, r => by
  rw [List.map_cons] at r
  cases r with
  | cons h t => exact .cons (ytV h) (yqj t)
abbrev KT (H : Hp) : List (List Key × V) -> List (List Key × Addr × Value) -> Prop := Paired fun p q => p.1 = q.1 /\ H q.2.1 = some (.tup (p.1.map kV)) /\ RelV p.2 q.2.2
theorem KT.val {H : Hp} {kvs : List (List Key × V)} {xs : List (List Key × Addr × Value)} (r : KT H kvs xs) (k : List Key) : RelO (yqi kvs k) ((atKey xs k).map (·.2)) := by
  induction r with
  | nil => exact True.intro
  | @cons p q ps qs h t ih =>
    obtain ⟨h1, _, h2⟩ := h
    by_cases e : p.1 = k
    . have e' : q.1 = k := h1.symm.trans e
      have b : atKey (q :: qs) k = some q.2 := by simp [atKey, List.find?_cons, e']
      rw [yoE e, b]; exact h2
    . have e' : ¬ q.1 = k := fun z => e (h1.trans z)
      have b : atKey (q :: qs) k = atKey qs k := by simp [atKey, List.find?_cons, e']
      rw [yoF e, b]; exact ih
theorem KT.repl {H : Hp} {kvs : List (List Key × V)} {xs : List (List Key × Addr × Value)} (r : KT H kvs xs) (k : List Key) {y : V} {u : Value} (ry : RelV y u) :
    KT H (kvs.map fun kv => if kv.1 = k then (kv.1, y) else kv) (xs.map (putAt k u)) := by
  induction r with
  | nil => exact .nil
  | @cons p q ps qs h t ih =>
    rw [List.map_cons, List.map_cons]
    refine .cons ?_ ih
    obtain ⟨h1, h2, h3⟩ := h
    unfold putAt
    by_cases e : p.1 = k
    . rw [if_pos e, if_pos (h1.symm.trans e)]; exact ⟨h1, h2, ry⟩
    . rw [if_neg e, if_neg (fun z => e (h1.trans z))]; exact ⟨h1, h2, h3⟩
theorem KT.put {H : Hp} {kvs : List (List Key × V)} {xs : List (List Key × Addr × Value)} (r : KT H kvs xs) (k : List Key) {b : Addr} {y : V} {u : Value} (hb : H b = some (.tup (k.map kV))) (ry : RelV y u) :
    KT H (putK kvs k y) (storedH xs k b u) := by
  have e : (kvs.any fun kv => decide (kv.1 = k)) = (atKey xs k).isSome := by
    rw [ysR, (r.val k).isSome_eq, Option.isSome_map]
  unfold putK storedH
  rw [e]
  by_cases q : (atKey xs k).isSome = true
  . rw [if_pos q, if_pos q]; exact r.repl k ry
  . rw [if_neg q, if_neg q]; exact Paired.snoc r ⟨rfl, hb, ry⟩
theorem KT.keeps {H H' : Hp} {kvs : List (List Key × V)} {xs : List (List Key × Addr × Value)} (r : KT H kvs xs) (ht : ∀ b ys, H b = some (.tup ys) -> H' b = some (.tup ys)) : KT H' kvs xs :=
 Paired.mapP r fun _ _ z => ⟨z.1, ht _ _ z.2.1, z.2.2⟩
section
variable {P : Program} {w : World} {H : Hp} {h : Heap} {a : Addr}
theorem yCQ {u : HO} (ok : HOk P w H h) (e : Rd H a u) : ObjOk P w H h a u := e.ok ok
theorem yrM {kvs : List (Key × V)} (ok : HOk P w H h) (e : Rd H a (.dK kvs)) : kvs.length <= sizeLine /\ (a == sysModules) = false /\ ∃ vs, KV kvs vs /\ h.DictOf (ycZ P w) a vs :=
 show ObjOk P w H h a (.dK kvs) from yCQ ok e
theorem yAA {kvs : List (Key × V)} (ok : HOk P w H h) (e : H a = some (.dK kvs)) : kvs.length <= sizeLine /\ (a == sysModules) = false /\ ∃ vs, KV kvs vs /\ h.DictOf (ycZ P w) a vs := yrM ok (.inl e)
theorem yny {ks : List Key} (ok : HOk P w H h) (e : H a = some (.tup (ks.map kV))) : (tupleKind (ycZ P w)).is h ks a := by
 obtain ⟨_, its, r, o, h1, h2, n, h3⟩ := (show ObjOk P w H h a (.tup (ks.map kV)) from ok a _ e)
 exact ⟨o, its.toArray, n, h1, h2, h3, by simpa using yqj r⟩
theorem yrN {kvs : List (List Key × V)} (ok : HOk P w H h) (e : Rd H a (.dT kvs)) : kvs.length <= sizeLine /\ (a == sysModules) = false /\
    ∃ xs, KT H kvs xs /\ h.DictOfH (tupleKind (ycZ P w)) a xs := by
  obtain ⟨z, y, xs, r, o, es, ep, h1, h2, h3, h4, h5⟩ := (show ObjOk P w H h a (.dT kvs) from yCQ ok e)
  refine ⟨z, y, xs, r, o, es, ep, h1, h2, h3, h4, fun x hx => ?_, h5⟩
  have all : ∀ {l : List (List Key × V)} {m : List (List Key × Addr × Value)}, KT H l m -> ∀ x ∈ m, (tupleKind (ycZ P w)).is h x.1 x.2.1 := by
    intro l m q
    induction q with
    | nil => intro x hx; exact nomatch hx
    | @cons p q ps qs hq t ih =>
      intro x hx
      rcases List.mem_cons.mp hx with e | hx
      . subst e
        exact yny ok (by rw [<- hq.1]; exact hq.2.1)
      . exact ih x hx
  exact all r x hx
theorem yFl {kvs : List (List Key × V)} (ok : HOk P w H h) (e : H a = some (.dT kvs)) : kvs.length <= sizeLine /\ (a == sysModules) = false /\
  ∃ xs, KT H kvs xs /\ h.DictOfH (tupleKind (ycZ P w)) a xs := yrN ok (.inl e)
end
def DGet (H : Hp) (a : Addr) (y : V) (r : Option V) : Prop :=
 (∃ kvs k, Rd H a (.dK kvs) /\ y = kV k /\ r = yqi kvs k) \/ ∃ kvs k b, Rd H a (.dT kvs) /\ y = .ref b /\ H b = some (.tup (k.map kV)) /\ r = yqi kvs k
def DPut (H : Hp) (a : Addr) (y v : V) (H' : Hp) : Prop :=
 (∃ kvs k, H a = some (.dK kvs) /\ y = kV k /\ kvs.length < sizeLine /\ H' = upd H a (.dK (putK kvs k v))) \/
 ∃ kvs k b, H a = some (.dT kvs) /\ y = .ref b /\ H b = some (.tup (k.map kV)) /\ kvs.length < sizeLine /\ H' = upd H a (.dT (putK kvs k v))
theorem DPut.k {H : Hp} {a : Addr} {kvs : List (Key × V)} {k : Key} {v : V} (e : H a = some (.dK kvs)) (hl : kvs.length < sizeLine) : DPut H a (kV k) v (upd H a (.dK (putK kvs k v))) := .inl ⟨kvs, k, e, rfl, hl, rfl⟩
section
variable {X : Cx} {pins : List (Addr × Obj)} {σ : St} {H : Hp} {s : Shared} {a : Addr} {y v : V} {u r : Value} {o : Option V} {A : Around} {E : Value -> Shared -> Prop}
theorem Inv.big (I : Inv X pins σ H s) : sysModules < s.heap.objs.size := by
 have h : mainGlobals < s.heap.objs.size := (I.mod.glob.keeps I.bk).lt
 exact Nat.lt_trans (by decide) h
theorem yvp {Q : Value -> Shared -> Prop} (hu : A.units + 1 < cLine) (I : Inv X pins σ H s) (g : DGet H a y (some v)) (ry : RelV y u) (h : ∀ w' s', Inv X pins σ H s' -> RelV v w' -> Q w' s') :
    wpAny (model X.prog X.w) A (getItem (.ref a) u) Q E s := by
  rcases g with ⟨kvs, k, e, ey, l⟩ | ⟨kvs, k, b, e, ey, eb, l⟩
  . subst ey
    obtain ⟨z, hd, vs, rel, dd⟩ := yrM I.hok e
    obtain ⟨w', hw, rw'⟩ := RelO.some_of (v := v) (o := valueAt vs k) (by rw [l]; exact rel.val k)
    exact wpAny_getItem_of (ytV ry) dd.mapOf hw (h w' _ (I.tok _) rw')
  . subst ey
    cases (show u = Value.ref b from ry)
    obtain ⟨z, hd, xs, rel, dd⟩ := yrN I.hok e
    obtain ⟨w', hw, rw'⟩ := RelO.some_of (v := v) (o := (atKey xs k).map (·.2)) (by rw [l]; exact rel.val k)
    obtain ⟨p, hp, hp2⟩ := Option.map_eq_some_iff.mp hw
    refine wpAny_getItem_heap (tupleKind_room_in1 hu) (yny I.hok eb) dd hp ?_
    rw [hp2]
    exact h w' _ (I.tok _) rw'
theorem yGv {Q : Value -> Shared -> Prop} (hu : A.units + 1 < cLine) (I : Inv X pins σ H s) (g : DGet H a y o) (ry : RelV y u) (h : ∀ s', Inv X pins σ H s' -> Q (.bool o.isSome) s') :
    wpAny (model X.prog X.w) A (compareOp .In u (.ref a)) Q E s := by
  rcases g with ⟨kvs, k, e, ey, l⟩ | ⟨kvs, k, b, e, ey, eb, l⟩
  . subst ey
    obtain ⟨z, hd, vs, rel, dd⟩ := yrM I.hok e
    refine wpAny_in_of (ytV ry) hd dd.mapOf ?_
    rw [<- (rel.val k).isSome_eq, <- l]
    exact h _ (I.tok _)
  . subst ey
    cases (show u = Value.ref b from ry)
    obtain ⟨z, hd, xs, rel, dd⟩ := yrN I.hok e
    refine wpAny_in_heap (tupleKind_room_in1 hu) (yny I.hok eb) hd dd ?_
    have q := (rel.val k).isSome_eq
    rw [Option.isSome_map] at q
    rw [<- q, <- l]
    exact h _ (I.tok _)
theorem yAB {Q : Value -> Shared -> Prop} (hu : A.units + 1 < cLine) (I : Inv X pins σ H s) (g : DGet H a y o) (ry : RelV y u) (h : ∀ s', Inv X pins σ H s' -> Q (.bool (!o.isSome)) s') :
    wpAny (model X.prog X.w) A (compareOp .NotIn u (.ref a)) Q E s := by
  rcases g with ⟨kvs, k, e, ey, l⟩ | ⟨kvs, k, b, e, ey, eb, l⟩
  . subst ey
    obtain ⟨z, hd, vs, rel, dd⟩ := yrM I.hok e
    refine wpAny_notIn_of (ytV ry) hd dd.mapOf ?_
    rw [<- (rel.val k).isSome_eq, <- l]
    exact h _ (I.tok _)
  . subst ey
    cases (show u = Value.ref b from ry)
    obtain ⟨z, hd, xs, rel, dd⟩ := yrN I.hok e
    refine wpAny_notIn_heap (tupleKind_room_in1 hu) (yny I.hok eb) hd dd ?_
    have q := (rel.val k).isSome_eq
    rw [Option.isSome_map] at q
    rw [<- q, <- l]
    exact h _ (I.tok _)
theorem yrO {h' : Heap} {t' : Nat} {ob : HO} (I : Inv X pins σ H s) (mu : Mut (H a)) (hs : Heap.SameBut a s.heap h') (he : ∃ q, h'.get? a = some q) (new : ObjOk X.prog X.w (upd H a ob) h' a ob) :
  Inv X pins σ (upd H a ob) { s with heap := h', toks := t' } :=
 I.write (x := a) (e := a) mu (.inl rfl) (fun b q hb z => (hs.2 b hb).trans z) he new
theorem yyU {P : Program} {w : World} {H' : Hp} {h' : Heap} {kvs : List (Key × V)} {vs : List (Key × Value)} (z : kvs.length <= sizeLine) (hd : (a == sysModules) = false) (rel : KV kvs vs) (dd : h'.DictOf (ycZ P w) a vs) :
  ObjOk P w H' h' a (.dK kvs) := ⟨z, hd, vs, rel, dd⟩
theorem yvq {H' : Hp} {Q : Unit -> Shared -> Prop} (hu : A.units + 1 < cLine) (I : Inv X pins σ H s) (g : DPut H a y v H') (ry : RelV y u) (rv : RelV v r) (h : ∀ s', Inv X pins σ H' s' -> Q () s') :
    wpAny (model X.prog X.w) A (setItem (.ref a) u r) Q E s := by
  rcases g with ⟨kvs, k, e, ey, l, eH⟩ | ⟨kvs, k, b, e, ey, eb, l, eH⟩
  . subst ey eH
    obtain ⟨z, hd, vs, rel, dd⟩ := yAA I.hok e
    have hz : vs.length <= sizeLine := by rw [<- rel.length]; exact z
    have hl : (putK kvs k v).length <= sizeLine := by have := yiM kvs k v; omega
    refine wpAny_setItem_pairs (hsz := hz) (ytV ry) dd fun h' dd' hs => h _ ?_
    have he : ∃ q, h'.get? a = some q := let ⟨q, _, _, hq, _⟩ := dd'; ⟨q, hq⟩
    exact yrO I (by rw [e]; exact True.intro) hs he (yyU hl hd (rel.put k rv) dd')
  . subst ey eH
    cases (show u = Value.ref b from ry)
    obtain ⟨z, hd, xs, rel, dd⟩ := yFl I.hok e
    have hz : xs.length <= sizeLine := by rw [<- Paired.length rel]; exact z
    have hl : (putK kvs k v).length <= sizeLine := by have := yiM kvs k v; omega
    refine wpAny_setItem_heap (hsz := hz) (tupleKind_room_in1 hu) (yny I.hok eb) dd fun h' dd' hs => h _ ?_
    obtain ⟨q, es, ep, hq, h2, h3, h4, _, h5⟩ := dd'
    refine yrO I (by rw [e]; exact True.intro) hs ⟨q, hq⟩ ⟨hl, hd, _, (rel.put k eb rv).keeps fun c ys ec => ?_, q, es, ep, hq, h2, h3, h4, h5⟩
    rw [yU (yEx ec e (fun z => nomatch z))]
    exact ec
end
section
variable {X : Cx} {pins : List (Addr × Obj)} {σ : St} {H : Hp} {s : Shared} {a : Addr} {kvs : List (Key × V)} {k : Key} {u : Value} {A : Around} {E : Value -> Shared -> Prop}
end
def yFm (i : Expr) : Prop := ∀ ov iv, subscripted i false ov iv = operate [ov, iv] (getItem ov iv)
theorem yAC {prog : Program} {w : World} {A : Around} {E : Value -> Shared -> Prop} {s : Shared} {env : Env} {value slice : Expr} {pos : Pos} {T id : String} {Q : Value -> Shared -> Prop}
  (hl : typeLookup (.type T) "__getitem__" = pure (some (.builtin id))) (hs : yFm slice)
  (h : wpAny (model prog w) A (eval value env) (fun o s₁ => wpAny (model prog w) A (eval slice env) (fun i s₂ => s₂.TypeIs o T /\ wpAny (model prog w) A (getItem o i) Q E s₂) E s₁) E s) :
  wpAny (model prog w) A (eval (.Subscript value slice pos) env) Q E s := by
 refine Subscript_ (wpAny_mono h (fun o s₁ h₁ => wpAny_mono h₁ (fun i s₂ h₂ => ?_) fun _ _ x => x) fun _ _ x => x)
 obtain ⟨hT, h₂⟩ := h₂
 unfold subscriptTail
 refine wpAny_bind ?_
 rw [getitemInPython_of_ne hT.not_modules]
 refine wpAny_bind (wpAny_specialOf hT hl ?_)
 have fin : wpAny (model prog w) A (subscripted slice false o i) (fun r s₃ => wpAny (model prog w) A (letTemporaryGo value o r >>= fun _ => pure r) Q E s₃) E s₂ := by
  rw [hs o i]
  exact wpAny_operating (wpAny_mono h₂ (fun r s₃ h₃ => wpAny_bind (wpAny_letTemporaryGo (wpAny_pure h₃))) fun _ _ x => x)
 first
  | exact wpAny_pure (wpAny_bind fin)
  | exact wpAny_bind (wpAny_pure (wpAny_bind fin))
  | exact wpAny_bind fin
theorem yrP {X : Cx} {pins : List (Addr × Obj)} {σ : St} {H : Hp} {s : Shared} {a : Addr} {y : V} {o : Option V} (I : Inv X pins σ H s) (g : DGet H a y o) : s.TypeIs (.ref a) "dict" := by
  rcases g with ⟨kvs, k, e, _, _⟩ | ⟨kvs, k, b, e, _, _, _⟩
  . obtain ⟨_, _, vs, _, dd⟩ := yrM I.hok e
    exact dd.typeIs
  . obtain ⟨_, _, xs, _, dd⟩ := yrN I.hok e
    exact dd.typeIs
def yCR (td ty : TE) : TE := fun σ H Q => td σ H fun x H1 => ty σ H1 fun y H2 => ∃ a v, x = .ref a /\ DGet H2 a y (some v) /\ Q v H2
def yFR (ty td : TE) : TE := fun σ H Q => ty σ H fun y H1 => td σ H1 fun x H2 => ∃ a o, x = .ref a /\ DGet H2 a y o /\ Q (.bl o.isSome) H2
def yvr (ty td : TE) : TE := fun σ H Q => ty σ H fun y H1 => td σ H1 fun x H2 => ∃ a o, x = .ref a /\ DGet H2 a y o /\ Q (.bl (!o.isSome)) H2
def yCS (td ty tv : TE) : TS := fun D σ H => tv σ H fun v H1 => td σ H1 fun x H2 => ty σ H2 fun y H3 => ∃ a H4, x = .ref a /\ DPut H3 a y v H4 /\ D.nx σ H4
section
variable {X : Cx} {o i e value : Expr} {pos pos' tpos : Pos} {td ty tv : TE}
theorem yAD (hu : X.A.units + 1 < cLine) (ho : PE X o td) (hi : PE X i ty) (hs : yFm i) : PE X (.Subscript o i pos) (yCR td ty) := by
 intro pins s σ H Q I h
 refine yAC PySem.F.slot_dict_getitem.lookup hs (thn (ho pins s σ H _ I h) fun u s1 ⟨x, H1, I1, rx, q1⟩ => thn (hi pins s1 σ H1 _ I1 q1) fun iv s2 ⟨y, H2, I2, ry, a, v, ex, g, q2⟩ => ?_)
 subst ex
 obtain rfl : u = Value.ref a := rx
 exact ⟨yrP I2 g, yvp hu I2 g ry fun w' s3 I3 rw' => ⟨v, H2, I3, rw', q2⟩⟩
theorem yCT (hu : X.A.units + 1 < cLine) (hi : PE X i ty) (ho : PE X o td) : PC X .In i o (yFR ty td) := by
 intro pins s σ H Q I h
 refine thn (hi pins s σ H _ I h) fun iv s1 ⟨y, H1, I1, ry, q1⟩ => thn (ho pins s1 σ H1 _ I1 q1) fun u s2 ⟨x, H2, I2, rx, a, ov, ex, g, q2⟩ => ?_
 subst ex
 obtain rfl : u = Value.ref a := rx
 exact yGv hu I2 g ry fun s3 I3 => ⟨.bl ov.isSome, H2, I3, rfl, q2⟩
theorem yvs (hu : X.A.units + 1 < cLine) (hi : PE X i ty) (ho : PE X o td) : PC X .NotIn i o (yvr ty td) := by
 intro pins s σ H Q I h
 refine thn (hi pins s σ H _ I h) fun iv s1 ⟨y, H1, I1, ry, q1⟩ => thn (ho pins s1 σ H1 _ I1 q1) fun u s2 ⟨x, H2, I2, rx, a, ov, ex, g, q2⟩ => ?_
 subst ex
 obtain rfl : u = Value.ref a := rx
 exact yAB hu I2 g ry fun s3 I3 => ⟨.bl (!ov.isSome), H2, I3, rfl, q2⟩
theorem yAE (hu : X.A.units + 1 < cLine) (ho : PE X o td) (hi : PE X i ty) (hv : PE X value tv) (hs : swapsWith value (some (.Subscript o i pos')) pos.line X.env = pure false) :
  PS X (.Assign [.Subscript o i pos'] value pos) (yCS td ty tv) := by
 intro pins s σ H D I h
 refine wpAny_Assign_Subscript (thn (hv pins s σ H _ I h) fun r s1 ⟨v, H1, I1, rv, q1⟩ => thn (ho pins s1 σ H1 _ I1 q1) fun u s2 ⟨x, H2, I2, rx, q2⟩ => thn (hi pins s2 σ H2 _ I2 q2) fun iv s3 ⟨y, H3, I3, ry, a, H4, ex, g, q3⟩ => ?_) hs
 subst ex
 obtain rfl : u = Value.ref a := rx
 exact yvq hu I3 g ry rv fun s4 I4 => ⟨σ, H4, I4, q3⟩
end
theorem yxE {P : Program} {w : World} {H : Hp} (h : Heap) (hb : sysModules < h.objs.size) : ObjOk P w H (h.push { cls := .type "dict", data := .dict #[] }) h.objs.size (.dK []) :=
 ⟨Nat.zero_le _, beq_eq_false_iff_ne.mpr (Ne.symm (Nat.ne_of_lt hb)), [], .nil, Heap.DictOf.new h⟩
def yyV : TE := fun _ H Q => ∀ p, H p = none -> Q (.ref p) (upd H p (.dK []))
section
variable {X : Cx} {pos : Pos}
theorem yxF : PE X (.Dict [] [] pos) yyV := fun pins s σ H Q I h =>
 wpAny_Dict_empty ⟨.ref s.heap.objs.size, _, I.laid (a := s.heap.objs.size) (o := .dK []) (t' := s.toks) (fun _ _ q => Heap.get?_push_of_some _ q) (Nat.le_refl _) (yxE s.heap I.big), rfl, h _ (I.hok.fresh (Nat.le_refl _))⟩
end
def yvt (kvs more : List (Key × V)) : List (Key × V) := more.foldl (fun acc kv => putK acc kv.1 kv.2) kvs
theorem KV.merge : ∀ {more : List (Key × V)} {rs : List (Key × Value)} {kvs : List (Key × V)} {vs : List (Key × Value)}, KV more rs -> KV kvs vs -> KV (yvt kvs more) (merged vs rs) := by
 intro more rs kvs vs r
 unfold KV at r
 induction r generalizing kvs vs with
 | nil => intro q; exact q
 | @cons p q ps qs h t ih =>
  intro r0
  have e : KV (putK kvs p.1 p.2) (stored vs q.1 q.2) := by
   have := r0.put p.1 h.2
   rw [<- h.1]; exact this
  exact ih e
theorem yjB : ∀ (more kvs : List (Key × V)), (yvt kvs more).length <= kvs.length + more.length
 | [], kvs => by show kvs.length <= kvs.length + 0; omega
 | p :: r, kvs => by
  have h1 := yjB r (putK kvs p.1 p.2)
  have h2 := yiM kvs p.1 p.2
  show (yvt (putK kvs p.1 p.2) r).length <= _
  rw [List.length_cons]; omega
structure M2 (X : Cx) (o : Expr) (m : Str) (apos : Pos) (e f : Expr) (cpos : Pos) : Prop where
 base : attributeBase o m X.env (eval o X.env) = eval o X.env
 few : ((backTo cpos (starEach [e, f] X.env)).all (fun x => !x.1) && (backToKw cpos (keywordEach [] X.env)).all (fun x => x.1.isSome)
  && decide (([e, f] : List Expr).length + ([] : List Keyword).length + (if ([] : List Keyword).isEmpty then 0 else 1) < 30)) = true
 line : (apos.endLine == cpos.line) = true
 trees : backTo cpos (starEach [e, f] X.env) = [(false, eval e X.env), (false, eval f X.env)]
def IsD (H : Hp) (a : Addr) : Prop := (∃ kvs, Rd H a (.dK kvs)) \/ ∃ kvs, Rd H a (.dT kvs)
theorem yCU {X : Cx} {pins : List (Addr × Obj)} {σ : St} {H : Hp} {s : Shared} {a : Addr} (I : Inv X pins σ H s) (d : IsD H a) :
    s.TypeIs (.ref a) "dict" /\ (∀ b, Value.ref a = .ref b -> ∃ ob, s.heap.get? b = some ob /\ ob.dict = none) /\ (a == sysModules) = false := by
  rcases d with ⟨kvs, e⟩ | ⟨kvs, e⟩
  . obtain ⟨_, hd, vs, _, dd⟩ := yrM I.hok e
    refine ⟨dd.typeIs, fun b q => ?_, hd⟩
    cases q
    obtain ⟨ob, _, _, h1, h2, _⟩ := dd
    exact ⟨ob, h1, h2.2.1⟩
  . obtain ⟨_, hd, xs, _, dd⟩ := yrN I.hok e
    refine ⟨dd.typeIs, fun b q => ?_, hd⟩
    cases q
    obtain ⟨ob, _, _, h1, h2, _⟩ := dd
    exact ⟨ob, h1, h2.2.1⟩
section
variable {X : Cx} {pins : List (Addr × Obj)} {σ : St} {H : Hp} {s : Shared} {a : Addr} {y d : V} {u r : Value} {o : Option V} {A : Around} {E : Value -> Shared -> Prop}
theorem yCV {Q : Value -> Shared -> Prop} (hu : A.units + 1 < cLine) (I : Inv X pins σ H s) (g : DGet H a y o) (ry : RelV y u) (rd : RelV d r) (h : ∀ w' s', Inv X pins σ H s' -> RelV (o.getD d) w' -> Q w' s') :
    wpAny (model X.prog X.w) A (call (.builtin "dict.get") [.ref a, u, r]) Q E s := by
  rcases g with ⟨kvs, k, e, ey, l⟩ | ⟨kvs, k, b, e, ey, eb, l⟩
  . subst ey
    obtain ⟨z, hd, vs, rel, dd⟩ := yrM I.hok e
    refine call_meetsIn PySem.F.slot_dict_get dd.typeIs PySem.F.entry_dict_get (PySem.F.args_dict_get_3 _ _ _) (meets_dict_get_default (ycZ X.prog X.w) a (ytV ry) hd r) ⟨_, dd.mapOf, h _ _ (I.tok _) ?_⟩
    rw [l]
    exact (rel.val k).getD rd
  . subst ey
    cases (show u = Value.ref b from ry)
    obtain ⟨z, hd, xs, rel, dd⟩ := yrN I.hok e
    refine call_meetsIn PySem.F.slot_dict_get dd.typeIs PySem.F.entry_dict_get (PySem.F.args_dict_get_3 _ _ _) (meetsH_dict_get_default (tupleKind (ycZ X.prog X.w)) a b hd r) ⟨tupleKind_room_in1 hu, k, xs, yny I.hok eb, dd, h _ _ (I.tok _) ?_⟩
    rw [l]
    exact (rel.val k).getD rd
end
def yyW (td ty tx : TE) : TE := fun σ H Q => td σ H fun x H1 => ∃ a, x = .ref a /\ IsD H1 a /\ ty σ H1 fun y H2 => tx σ H2 fun z H3 => ∃ o, DGet H3 a y o /\ Q (o.getD z) H3
section
variable {X : Cx} {o e f : Expr} {apos cpos : Pos} {td ty tx : TE}
theorem yxG (hu : X.A.units + 1 < cLine) (ho : PE X o td) (he : PE X e ty) (hf : PE X f tx) (m : M2 X o "get" apos e f cpos) : PE X (.Call (.Attribute o "get" apos) [e, f] [] cpos) (yyW td ty tx) := by
 intro pins s σ H Q I h
 refine wpAny_Call_method m.base m.few m.line PySem.F.plainAttrs_dict PySem.F.slot_dict_get PySem.F.type_dict_get (thn (ho pins s σ H _ I h) fun u s1 ⟨x, H1, I1, rx, a, ex, d, q1⟩ => ?_)
 subst ex
 obtain rfl : u = Value.ref a := rx
 obtain ⟨t1, t2, _⟩ := yCU I1 d
 refine ⟨t1, t2, ?_⟩
 rw [m.trees]
 refine Calls.callWith_builtin rfl (Calls.evalArgs_plain (Calls.spliced_cons (thn (he pins s1 σ H1 _ I1 q1) fun iv s2 ⟨y, H2, I2, ry, q2⟩ =>
  Calls.spliced_cons (thn (hf pins s2 σ H2 _ I2 q2) fun fv s3 ⟨z, H3, I3, rz, ov, g, q3⟩ => Calls.spliced_nil ?_))))
 exact yCV hu I3 g ry rz fun w' s4 I4 rw' => ⟨_, H3, I4, rw', q3⟩
end
section
variable {X : Cx} {pins : List (Addr × Obj)} {σ : St} {H : Hp} {s : Shared} {a : Addr} {kvs : List (Key × V)} {A : Around} {E : Value -> Shared -> Prop}
end
section
variable {X : Cx} {pins : List (Addr × Obj)} {σ : St} {H : Hp} {s : Shared} {a : Addr} {y : V} {u : Value} {A : Around} {E : Value -> Shared -> Prop}
end
end L2
namespace Att
open PySem PySem.W PySem.Calls PyProof.Rows
section
variable {prog : Program} {w : World} {A : Around} {E : Value -> Shared -> Prop} {s : Shared} {K : Frag}
end
end Att
namespace L2
open PySem PySem.Spec PyProof.Rows
end L2
namespace L2
open PySem PySem.Spec PyProof.Rows
end L2
namespace L2
open PySem PySem.Spec PyProof.Rows
section
variable {P : Program} {w : World} {K : PySem.W.Frag} {mg : Str -> Option Value} {base : Heap}
end
section
variable {X : Cx}
end
section
variable {κ : Type} [DecidableEq κ]
end
end L2
namespace PX
open PySem L2
variable {K : Ck}
theorem ysS {α : Type} {l : List α} (h : l.Nodup) {i j : Nat} (hi : i < l.length) (hj : j < l.length) (e : l[i] = l[j]) : i = j := by
  have p := List.pairwise_iff_getElem.mp h
  rcases Nat.lt_trichotomy i j with z | z | z
  . exact absurd e (p i j hi hj z)
  . exact z
  . exact absurd e.symm (p j i hj hi z)
def yAF (W : Wd) (n : Nat) (a : Addr) (o : HO) (d : Nd) : Wd := ⟨W.F, upd W.H a o, W.m, W.h.set n d⟩
theorem ykj {W : Wd} (w : WOk K W) {n : Nat} {d d' : Nd} {a : Addr} {o : HO} (e : W.h[n]? = some d) (hm : W.m[n]? = some a) (hF : W.F a = none) (at' : NdAt K W.F (upd W.H a o) W.m d' a) (nf : ∀ ks xs, d ≠ .fz ks xs := by intro _ _ z; cases z) : Le K W (yAF W n a o d') := by
  have hn : n < W.h.length := (List.getElem?_eq_some_iff.mp e).1
  have ham : a ∈ W.m := List.mem_of_getElem? hm
  refine ⟨⟨fun b u q => ?_, by show W.m.length = (W.h.set n d').length; rw [List.length_set]; exact w.len, w.nd, fun j dj b e1 e2 => ?_⟩, Same.refl _, List.prefix_refl _, fun b u q hb => ?_, fun b u _ _ f => f, fun b z z' => absurd z z', fun j ks xs e1 => ?_⟩
  . have : b ≠ a := ycb q hF
    exact (yU this).trans (w.le _ _ q)
  . have e1 : (W.h.set n d')[j]? = some dj := e1
    by_cases hj : n = j
    . subst hj
      rw [List.getElem?_set_self hn] at e1
      cases e1
      have e2 : W.m[n]? = some b := e2
      rw [hm] at e2
      cases e2
      exact at'
    . rw [List.getElem?_set_ne hj] at e1
      have e2 : W.m[j]? = some b := e2
      have hb : b ≠ a := fun z => by
        subst z
        have h1 := (List.getElem?_eq_some_iff.mp hm)
        have h2 := (List.getElem?_eq_some_iff.mp e2)
        obtain ⟨l1, q1⟩ := h1
        obtain ⟨l2, q2⟩ := h2
        exact hj (ysS w.nd l1 l2 (q1.trans q2.symm))
      exact (w.at_ j dj b e1 e2).mono (Same.refl _) (List.prefix_refl _) (fun u q => (yU hb).trans q) id
  . have : b ≠ a := fun z => hb (z ▸ ham)
    exact (yU this).trans q
  . have hj : n ≠ j := fun z => by
      subst z
      rw [e] at e1
      cases e1
      exact nf _ _ rfl
    refine ⟨(List.getElem?_set_ne hj).trans e1, fun b e2 => yU fun z => ?_⟩
    subst z
    obtain ⟨l1, q1⟩ := List.getElem?_eq_some_iff.mp hm
    obtain ⟨l2, q2⟩ := List.getElem?_eq_some_iff.mp e2
    exact hj (ysS w.nd l1 l2 (q1.trans q2.symm))
def ykV : PV -> AH -> Bool := fun x h => match yda x h with | some _ => true | none => false
theorem ysT {W : Wd} {x : PV} {v : V} (w : WOk K W) (r : yek K W x v) (c : ykV x W.h = true) : tyV K.K "list" v W.H := by
  unfold ykV at c
  split at c
  . rename_i xs hx
    obtain ⟨a, vs, rfl, hs, _⟩ := ybX w hx r
    exact .inl ⟨rfl, vs, SqL.of hs⟩
  . cases c
def yqk : PM := fun x ys h => match x, ys with | .loc n, [y] => (match h[n]? with | some (.lst xs) => if xs.length < 100000 then some (.non, h.set n (.lst (xs ++ [y]))) else none | _ => none) | _, _ => none
theorem ysU : yqh K "list" ykV yrq yqk := by
  refine ⟨fun W x v w r c => ysT w r c, fun W x v xs vs Q z h' w rx r e q => ?_⟩
  unfold yqk at e
  split at e
  . rename_i n y
    split at e
    . rename_i ys hn
      split at e
      . rename_i hl
        cases e
        obtain ⟨u, rfl, ru⟩ := yus r
        obtain ⟨a, ev, hm, hf, us, hp, rs⟩ := w.loc hn rx
        refine ⟨a, us, u, ev, rfl, hp, by rw [rs.len]; exact big hl, ?_⟩
        exact q .non (yAF W n a (.lst (us ++ [u])) (.lst (ys ++ [y]))) rfl (ykj w hn hm hf ⟨hf, _, yK, rs.snoc ru⟩) rfl
      . cases e
    . cases e
  . cases e
def yxH : PM := fun x ys h => match x, ys with | .loc n, [] => (match h[n]? with | some (.lst xs) => (match xs[xs.length - 1]? with | some y => some (y, h.set n (.lst xs.dropLast)) | none => none) | _ => none) | _, _ => none
theorem RepL.dropLast {F : Hp} {m : List Addr} {xs : List PV} {vs : List V} (r : RepL K F m xs vs) : RepL K F m xs.dropLast vs.dropLast := by
 rw [List.dropLast_eq_take, List.dropLast_eq_take, r.len]
 exact r.take _
theorem yyX : yqh K "list" ykV yFL yxH := by
  refine ⟨fun W x v w r c => ysT w r c, fun W x v xs vs Q z h' w rx r e q => ?_⟩
  unfold yxH at e
  split at e
  . rename_i n
    split at e
    . rename_i ys hn
      split at e
      . rename_i y hy
        cases e
        obtain rfl : vs = [] := r
        obtain ⟨a, ev, hm, hf, us, hp, rs⟩ := w.loc hn rx
        obtain ⟨u, hu, ru⟩ := rs.get hy
        refine ⟨a, us, u, ev, rfl, hp, by rw [rs.len]; exact hu, ?_⟩
        exact q u (yAF W n a (.lst us.dropLast) (.lst ys.dropLast)) rfl (ykj w hn hm hf ⟨hf, _, yK, rs.dropLast⟩) ru
      . cases e
    . cases e
  . cases e
def ylL (eo ei ev : XE) : XS := fun ρ h => ob (ev ρ h) fun v h1 => ob (eo ρ h1) fun o h2 => ob (ei ρ h2) fun i h3 => match o, i with
 | .loc n, .int k => (match h3[n]? with | some (.lst xs) => (match ixN xs.length k with | some j => some (.nx ρ, h3.set n (.lst (xs.set j v))) | none => none) | _ => none)
 | _, _ => none
theorem yxI {to ti tv : TE} {eo ei ev : XE} (a : ycW K to eo) (b : ycW K ti ei) (c : ycW K tv ev) : ykF K (yBF tv (yFE to ti yCp)) (ylL eo ei ev) := by
  intro W0 W ρ σ D o h' g e q
  obtain ⟨v, h1, e1, f1⟩ := yl e
  obtain ⟨x, h2, e2, f2⟩ := yl f1
  obtain ⟨i, h3, e3, f3⟩ := yl f2
  refine c W0 W ρ σ _ v h1 g e1 fun vv W1 w1 l1 r1 => ?_
  subst w1
  refine a W0 W1 ρ σ _ x h2 (g.step l1) e2 fun vx W2 w2 l2 r2 => ?_
  subst w2
  refine b W0 W2 ρ σ _ i h3 (g.step (l1.trans l2)) e3 fun vi W3 w3 l3 r3 => ?_
  subst w3
  have w := l3.ok
  split at f3
  . rename_i n k
    split at f3
    . rename_i xs hn
      split at f3
      . rename_i j hj
        cases f3
        obtain ⟨p, ep, hm, hf, us, hp, rs⟩ := w.loc hn (l3.rep r2)
        refine ⟨p, us, k, j, ep, r3, hp, by rw [rs.len]; exact hj, ?_⟩
        have l4 : Le K W3 (yAF W3 n p (.lst (us.set j vv)) (.lst (xs.set j v))) := ykj w hn hm hf ⟨hf, _, yK, rs.set j ((l2.trans l3).rep r1)⟩
        have l := l1.trans (l2.trans (l3.trans l4))
        exact q _ σ rfl l.lf (g.step l)
      . cases f3
    . cases f3
  . cases f3
def keyOf : PV -> Option Key
 | .int i => some (.inl i)
 | .str s => some (.inr s)
 | _ => none
theorem yhL {W : Wd} {x : PV} {v : V} {k : Key} (e : keyOf x = some k) (r : yek K W x v) : v = kV k := by
 cases x <;> cases e <;> exact r
def yoG (x : PV) (h : AH) : Option (List Key × List PV) := match x with | .loc n => (match h[n]? with | some (.dct ks xs) => some (ks, xs) | _ => none) | _ => none
def ygS : List Key -> List PV -> Key -> Option PV
 | k :: ks, x :: xs, j => if k = j then some x else ygS ks xs j
 | _, _, _ => none
def ynz : List Key -> Key -> Bool
 | [], _ => false
 | k :: ks, j => if k = j then true else ynz ks j
def setK {α : Type} : List Key -> List α -> Key -> α -> List α
 | k :: ks, x :: xs, j, y => if k = j then y :: setK ks xs j y else x :: setK ks xs j y
 | _, xs, _, _ => xs
def ydV (ks : List Key) (xs : List PV) (k : Key) (x : PV) : List Key × List PV := if ynz ks k = true then (ks, setK ks xs k x) else (ks ++ [k], xs ++ [x])
theorem yoH {α : Type} : ∀ (ks : List Key) (xs : List α) (j : Key) (y : α), (setK ks xs j y).length = xs.length
 | [], _, _, _ => by simp [setK]
 | _ :: _, [], _, _ => by simp [setK]
 | k :: ks, x :: xs, j, y => by
  show (if k = j then y :: setK ks xs j y else x :: setK ks xs j y).length = _
  split <;> simp [yoH ks xs j y]
theorem RepL.setK {F : Hp} {m : List Addr} : ∀ {xs : List PV} {vs : List V} (ks : List Key) (j : Key) {y : PV} {u : V}, RepL K F m xs vs -> Rep K F m y u -> RepL K F m (PX.setK ks xs j y) (PX.setK ks vs j u)
  | [], _, ks, j, y, u, h, _ => by rw [show _ = [] from h]; cases ks <;> exact rfl
  | x :: xs, _, [], j, y, u, h, _ => by
    obtain ⟨v, r, e, h1, l⟩ := h
    subst e
    exact ⟨v, r, rfl, h1, l⟩
  | x :: xs, _, k :: ks, j, y, u, ⟨v, r, e, h1, l⟩, ru => by
    subst e
    show RepL K F m (if k = j then y :: PX.setK ks xs j y else x :: PX.setK ks xs j y) (if k = j then u :: PX.setK ks r j u else v :: PX.setK ks r j u)
    have ih := RepL.setK ks j l ru
    split
    . exact ⟨u, _, rfl, ru, ih⟩
    . exact ⟨v, _, rfl, h1, ih⟩
theorem yls {F : Hp} {m : List Addr} : ∀ {ks : List Key} {xs : List PV} {vs : List V} (j : Key), RepL K F m xs vs -> vs.length = ks.length -> (∀ x, ygS ks xs j = some x -> ∃ v, yqi (ks.zip vs) j = some v /\ Rep K F m x v) /\ (ygS ks xs j = none -> yqi (ks.zip vs) j = none)
  | [], xs, vs, j, r, hl => by
    refine ⟨fun x e => ?_, fun _ => rfl⟩
    cases xs <;> cases e
  | k :: ks, [], vs, j, r, hl => by rw [show vs = [] from r] at hl; cases hl
  | k :: ks, x :: xs, _, j, ⟨v, r', e, h, l⟩, hl => by
    subst e
    have ih := yls j l (by simpa using hl)
    have hz : yqi ((k :: ks).zip (v :: r')) j = if k = j then some v else yqi (ks.zip r') j := by
      unfold yqi
      rw [List.zip_cons_cons, List.find?_cons]
      by_cases hk : k = j
      . simp [hk]
      . simp [hk]
    rw [hz]
    show (∀ y, (if k = j then some x else ygS ks xs j) = some y -> _) /\ ((if k = j then some x else ygS ks xs j) = none -> _)
    by_cases hk : k = j
    . rw [if_pos hk, if_pos hk]
      exact ⟨fun y e => by cases e; exact ⟨v, rfl, h⟩, fun e => by cases e⟩
    . rw [if_neg hk, if_neg hk]
      exact ih
theorem yvu (j : Key) : ∀ (ks : List Key) (vs : List V), vs.length = ks.length -> ((ks.zip vs).any fun kv => decide (kv.1 = j)) = ynz ks j
 | [], _, _ => by simp [ynz]
 | k :: ks, [], h => by cases h
 | k :: ks, v :: vs, h => by
  rw [List.zip_cons_cons, List.any_cons, yvu j ks vs (by simpa using h)]
  show (decide (k = j) || ynz ks j) = if k = j then true else ynz ks j
  by_cases hk : k = j <;> simp [hk]
theorem yvv (j : Key) (y : V) : ∀ (ks : List Key) (vs : List V), vs.length = ks.length -> (ks.zip vs).map (fun kv => if kv.1 = j then (kv.1, y) else kv) = ks.zip (setK ks vs j y)
  | [], _, _ => by simp
  | k :: ks, [], h => by cases h
  | k :: ks, v :: vs, h => by
    rw [List.zip_cons_cons, List.map_cons, yvv j y ks vs (by simpa using h)]
    show (if k = j then (k, y) else (k, v)) :: _ = (k :: ks).zip (if k = j then y :: setK ks vs j y else v :: setK ks vs j y)
    by_cases hk : k = j
    . rw [if_pos hk, if_pos hk]; rfl
    . rw [if_neg hk, if_neg hk]; rfl
theorem ysV (j : Key) (y : V) (ks : List Key) (vs : List V) (hl : vs.length = ks.length) : putK (ks.zip vs) j y = if ynz ks j = true then ks.zip (setK ks vs j y) else (ks ++ [j]).zip (vs ++ [y]) := by
 unfold putK
 rw [yvu j ks vs hl, yvv j y ks vs hl, List.zip_append hl.symm]
 rfl
theorem ylM {W : Wd} (w : WOk K W) {x : PV} {v : V} {ks : List Key} {xs : List PV} (e : yoG x W.h = some (ks, xs)) (r : yek K W x v) : ∃ a vs, v = .ref a /\ W.H a = some (.dK (ks.zip vs)) /\ vs.length = ks.length /\ yfc K W xs vs := by
  unfold yoG at e
  split at e
  . split at e
    . rename_i hn
      cases e
      obtain ⟨a, ev, hm, hf, vs, hp, hl, rs⟩ := w.loc hn r
      exact ⟨a, vs, ev, hp, hl, rs⟩
    . cases e
  . cases e
def yvw (x : PV) (h : AH) : Option (List Key × List PV) := match x with | .loc n => (match h[n]? with | some (.dct ks xs) => some (ks, xs) | some (.fz ks xs) => some (ks, xs) | _ => none) | _ => none
theorem yjC {W : Wd} (w : WOk K W) {x : PV} {v : V} {ks : List Key} {xs : List PV} (e : yvw x W.h = some (ks, xs)) (r : yek K W x v) : ∃ a vs, v = .ref a /\ Rd W.H a (.dK (ks.zip vs)) /\ vs.length = ks.length /\ yfc K W xs vs := by
  unfold yvw at e
  split at e
  . split at e
    . rename_i hn
      cases e
      obtain ⟨a, ev, hm, hf, vs, hp, hl, rs⟩ := w.loc hn r
      exact ⟨a, vs, ev, .inl hp, hl, rs⟩
    . rename_i hn
      cases e
      obtain ⟨a, ev, hm, hf, o, vs, hp, hl, rs⟩ := w.loc hn r
      exact ⟨a, vs, ev, .inr ⟨o, hp⟩, hl, rs⟩
    . cases e
  . cases e
theorem DGet.r {H : Hp} {a : Addr} {kvs : List (Key × V)} {k : Key} (e : Rd H a (.dK kvs)) : DGet H a (kV k) (yqi kvs k) := .inl ⟨kvs, k, e, rfl, rfl⟩
def yrQ (ed ek : XE) : XE := fun ρ h => ob (ed ρ h) fun d h1 => ob (ek ρ h1) fun k h2 => match yvw d h2, keyOf k with | some (ks, xs), some j => (match ygS ks xs j with | some x => some (x, h2) | none => none) | _, _ => none
theorem yxJ {td ty : TE} {ed ek : XE} (a : ycW K td ed) (b : ycW K ty ek) : ycW K (yCR td ty) (yrQ ed ek) := by
  intro W0 W ρ σ Q z h' g e q
  obtain ⟨d, h1, e1, f1⟩ := yl e
  obtain ⟨k, h2, e2, f2⟩ := yl f1
  refine a W0 W ρ σ _ d h1 g e1 fun vd W1 w1 l1 r1 => ?_
  subst w1
  refine b W0 W1 ρ σ _ k h2 (g.step l1) e2 fun vk W2 w2 l2 r2 => ?_
  subst w2
  split at f2
  . rename_i ks xs j hd hk
    split at f2
    . rename_i x hx
      cases f2
      obtain ⟨p, vs, ev, hp, hl, rs⟩ := yjC l2.ok hd (l2.rep r1)
      obtain ⟨v, h3, h4⟩ := (yls j rs hl).1 _ hx
      have := yhL hk r2
      subst this
      exact ⟨p, v, ev, by rw [<- h3]; exact DGet.r hp, q _ W2 rfl (l1.trans l2) h4⟩
    . cases f2
  . cases f2
def yvx (neg : Bool) (ek ed : XE) : XE := fun ρ h => ob (ek ρ h) fun k h1 => ob (ed ρ h1) fun d h2 => match yvw d h2, keyOf k with | some (ks, xs), some j => some (.bl (if neg then !(ygS ks xs j).isSome else (ygS ks xs j).isSome), h2) | _, _ => none
theorem ynA {F : Hp} {m : List Addr} {ks : List Key} {xs : List PV} {vs : List V} (j : Key) (r : RepL K F m xs vs) (hl : vs.length = ks.length) : (yqi (ks.zip vs) j).isSome = (ygS ks xs j).isSome := by
 have h := yls j r hl
 cases e : ygS ks xs j with
 | none => rw [h.2 e]; rfl
 | some x => obtain ⟨v, h1, _⟩ := h.1 x e; rw [h1]; rfl
theorem yAG {td ty : TE} {ed ek : XE} (b : ycW K ty ek) (a : ycW K td ed) : ycW K (yFR ty td) (yvx false ek ed) := by
  intro W0 W ρ σ Q z h' g e q
  obtain ⟨k, h1, e1, f1⟩ := yl e
  obtain ⟨d, h2, e2, f2⟩ := yl f1
  refine b W0 W ρ σ _ k h1 g e1 fun vk W1 w1 l1 r1 => ?_
  subst w1
  refine a W0 W1 ρ σ _ d h2 (g.step l1) e2 fun vd W2 w2 l2 r2 => ?_
  subst w2
  split at f2
  . rename_i ks xs j hd hk
    cases f2
    obtain ⟨p, vs, ev, hp, hl, rs⟩ := yjC l2.ok hd r2
    have := yhL hk (l2.rep r1)
    subst this
    exact ⟨p, _, ev, DGet.r hp, q _ W2 rfl (l1.trans l2) (by rw [ynA j rs hl]; rfl)⟩
  . cases f2
theorem ytW {td ty : TE} {ed ek : XE} (b : ycW K ty ek) (a : ycW K td ed) : ycW K (yvr ty td) (yvx true ek ed) := by
  intro W0 W ρ σ Q z h' g e q
  obtain ⟨k, h1, e1, f1⟩ := yl e
  obtain ⟨d, h2, e2, f2⟩ := yl f1
  refine b W0 W ρ σ _ k h1 g e1 fun vk W1 w1 l1 r1 => ?_
  subst w1
  refine a W0 W1 ρ σ _ d h2 (g.step l1) e2 fun vd W2 w2 l2 r2 => ?_
  subst w2
  split at f2
  . rename_i ks xs j hd hk
    cases f2
    obtain ⟨p, vs, ev, hp, hl, rs⟩ := yjC l2.ok hd r2
    have := yhL hk (l2.rep r1)
    subst this
    exact ⟨p, _, ev, DGet.r hp, q _ W2 rfl (l1.trans l2) (by rw [ynA j rs hl]; rfl)⟩
  . cases f2
def yoI (ed ek ev : XE) : XS := fun ρ h => ob (ev ρ h) fun v h1 => ob (ed ρ h1) fun d h2 => ob (ek ρ h2) fun k h3 => match d, keyOf k with
 | .loc n, some j => (match h3[n]? with | some (.dct ks xs) => if ks.length < 1000 then some (.nx ρ, h3.set n (.dct (ydV ks xs j v).1 (ydV ks xs j v).2)) else none | _ => none)
 | _, _ => none
theorem yxK {td ty tv : TE} {ed ek ev : XE} (a : ycW K td ed) (b : ycW K ty ek) (c : ycW K tv ev) : ykF K (yCS td ty tv) (yoI ed ek ev) := by
  intro W0 W ρ σ D o h' g e q
  obtain ⟨v, h1, e1, f1⟩ := yl e
  obtain ⟨x, h2, e2, f2⟩ := yl f1
  obtain ⟨i, h3, e3, f3⟩ := yl f2
  refine c W0 W ρ σ _ v h1 g e1 fun vv W1 w1 l1 r1 => ?_
  subst w1
  refine a W0 W1 ρ σ _ x h2 (g.step l1) e2 fun vx W2 w2 l2 r2 => ?_
  subst w2
  refine b W0 W2 ρ σ _ i h3 (g.step (l1.trans l2)) e3 fun vi W3 w3 l3 r3 => ?_
  subst w3
  have w := l3.ok
  split at f3
  . rename_i n j hk
    split at f3
    . rename_i ks xs hn
      split at f3
      . rename_i hc
        cases f3
        obtain ⟨p, ep, hm, hf, us, hp, hl, rs⟩ := w.loc hn (l3.rep r2)
        have := yhL hk r3
        subst this
        have hput := ysV j vv ks us hl
        have rv := (l2.trans l3).rep r1
        have key : ∃ us', putK (ks.zip us) j vv = (ydV ks xs j v).1.zip us' /\ us'.length = (ydV ks xs j v).1.length /\ yfc K W3 (ydV ks xs j v).2 us' := by
          unfold ydV
          by_cases hj : ynz ks j = true
          . rw [if_pos hj] at hput ⊢
            exact ⟨_, hput, by rw [yoH]; exact hl, rs.setK ks j rv⟩
          . rw [if_neg hj] at hput ⊢
            exact ⟨_, hput, by rw [List.length_append, List.length_append, hl]; rfl, rs.snoc rv⟩
        obtain ⟨us', p1, p2, p3⟩ := key
        refine ⟨p, _, ep, DPut.k hp (by rw [List.length_zip, hl]; exact ypQ (by omega)), ?_⟩
        rw [p1]
        have l4 : Le K W3 (yAF W3 n p (.dK ((ydV ks xs j v).1.zip us')) (.dct (ydV ks xs j v).1 (ydV ks xs j v).2)) := ykj w hn hm hf ⟨hf, us', yK, p2, p3⟩
        have l := l1.trans (l2.trans (l3.trans l4))
        exact q _ σ rfl l.lf (g.step l)
      . cases f3
    . cases f3
  . cases f3
def yql : XO := fun _ h => some (.dct [] [], h)
theorem yxL : ytL K yyV yql := by
 intro W0 W ρ σ Q d h' g e q
 cases e
 intro p hp
 exact q p (ysN W p (.dK [])) rfl (ygU g.ok hp) (g.ok.out hp) hp (fun z => by cases z) ⟨g.ok.ff hp, [], yK, rfl, rfl⟩
def yqm (ed ek ex : XE) : XE := fun ρ h => ob (ed ρ h) fun d h1 => if (yvw d h1).isSome = true then ob (ek ρ h1) fun k h2 => ob (ex ρ h2) fun y h3 => (match yvw d h3, keyOf k with | some (ks, xs), some j => some ((ygS ks xs j).getD y, h3) | _, _ => none) else none
theorem yvy {td ty tx : TE} {ed ek ex : XE} (a : ycW K td ed) (b : ycW K ty ek) (c : ycW K tx ex) : ycW K (yyW td ty tx) (yqm ed ek ex) := by
  intro W0 W ρ σ Q z h' g e q
  obtain ⟨d, h1, e1, f1⟩ := yl e
  refine a W0 W ρ σ _ d h1 g e1 fun vd W1 w1 l1 r1 => ?_
  subst w1
  split at f1
  . rename_i hs
    obtain ⟨⟨ks0, xs0⟩, hd0⟩ := Option.isSome_iff_exists.mp hs
    obtain ⟨p, vs0, ev, hp0, _, _⟩ := yjC l1.ok hd0 r1
    subst ev
    refine ⟨p, rfl, .inl ⟨_, hp0⟩, ?_⟩
    obtain ⟨k, h2, e2, f2⟩ := yl f1
    obtain ⟨y, h3, e3, f3⟩ := yl f2
    refine b W0 W1 ρ σ _ k h2 (g.step l1) e2 fun vk W2 w2 l2 r2 => ?_
    subst w2
    refine c W0 W2 ρ σ _ y h3 (g.step (l1.trans l2)) e3 fun vy W3 w3 l3 r3 => ?_
    subst w3
    split at f3
    . rename_i ks xs j hd hk
      cases f3
      obtain ⟨p', vs, ev, hp, hl, rs⟩ := yjC l3.ok hd ((l2.trans l3).rep r1)
      cases ev
      have := yhL hk (l3.rep r2)
      subst this
      refine ⟨_, DGet.r hp, q _ W3 rfl (l1.trans (l2.trans l3)) ?_⟩
      have hv := yls j rs hl
      cases eg : ygS ks xs j with
      | none => rw [hv.2 eg]; exact r3
      | some x => obtain ⟨v, h3, h4⟩ := hv.1 x eg; rw [h3]; exact h4
    . cases f3
  . cases f1
end PX
namespace PX
open PySem L2
variable {K : Ck}
theorem yrR {x : PV} {u : V} (e : sv x = some u) : ytG u = true := by cases x <;> cases e <;> rfl
def yFn : List V -> Hp -> VK -> Prop := fun xs H Q => ∃ i j, xs = [.int i, .int j] /\ Q (.int (if j > i then j else i)) H
def yvz : List PV -> AH -> Option (PV × AH) := fun xs h => match xs with | [.int i, .int j] => some (.int (if j > i then j else i), h) | _ => none
theorem yCW : ynX K yFn yvz := by
  intro W xs vs Q z h' w r e q
  unfold yvz at e
  split at e
  . rename_i i j
    cases e
    obtain ⟨v, u, rfl, rv, ru⟩ := yFQ r
    exact ⟨i, j, by rw [show v = _ from rv, show u = _ from ru], q _ W rfl (.refl w) rfl⟩
  . cases e
end PX
namespace PX
open PySem L2
theorem yoJ [i : Decidable True] : decide True = true := by simp
theorem yoK [i : Decidable False] : decide False = false := by simp
theorem yoL : (false = true) = False := by simp
theorem yoM : (true = false) = False := by simp
theorem ysW {g : XG} {s : XS} {xs : List PV} (I : Nat -> PSt -> AH -> Prop) (R : PV -> AH -> Prop) {ρ : PSt} {h : AH} (h0 : I 0 ρ h)
  (step : ∀ (i : Nat) (x : PV) (ρ : PSt) (h : AH), xs[i]? = some x -> I i ρ h -> ∃ ρ1 o h', g x ρ = some ρ1 /\ s ρ1 h = some (o, h') /\ (match o with | .nx ρ' => I (i + 1) ρ' h' | .ct ρ' => I (i + 1) ρ' h' | .bk _ => False | .rt y => R y h')) :
  (∃ ρ' h', ynY g s xs ρ h = some (.nx ρ', h') /\ I xs.length ρ' h') \/ ∃ y h', ynY g s xs ρ h = some (.rt y, h') /\ R y h' := by
 have key : ∀ (n i : Nat) (ρ : PSt) (h : AH), i + n = xs.length -> I i ρ h -> (∃ ρ' h', ynY g s (xs.drop i) ρ h = some (.nx ρ', h') /\ I xs.length ρ' h') \/ ∃ y h', ynY g s (xs.drop i) ρ h = some (.rt y, h') /\ R y h' := by
  intro n
  induction n with
  | zero =>
   intro i ρ h hi hI
   have : i = xs.length := by omega
   subst this
   rw [List.drop_length]
   exact .inl ⟨ρ, h, rfl, hI⟩
  | succ n ih =>
   intro i ρ h hi hI
   have hlt : i < xs.length := by omega
   obtain ⟨ρ1, o, h', e1, e2, e3⟩ := step i xs[i] ρ h (List.getElem?_eq_getElem hlt) hI
   rw [List.drop_eq_getElem_cons hlt, yyT, e1, Option.bind_some, e2, yD]
   cases o with
   | nx ρ' => exact ih (i + 1) ρ' h' (by omega) e3
   | ct ρ' => exact ih (i + 1) ρ' h' (by omega) e3
   | bk ρ' => exact e3.elim
   | rt y => exact .inr ⟨y, h', rfl, e3⟩
 simpa using key xs.length 0 ρ h (by omega) h0
theorem yAH {g : XG} {s : XS} {xs : List PV} (I : Nat -> PSt -> AH -> Prop) {ρ : PSt} {h : AH} (h0 : I 0 ρ h)
    (step : ∀ (i : Nat) (x : PV) (ρ : PSt) (h : AH), xs[i]? = some x -> I i ρ h -> ∃ ρ1 ρ' h', g x ρ = some ρ1 /\ (s ρ1 h = some (.nx ρ', h') \/ s ρ1 h = some (.ct ρ', h')) /\ I (i + 1) ρ' h') :
    ∃ ρ' h', ynY g s xs ρ h = some (.nx ρ', h') /\ I xs.length ρ' h' := by
  rcases ysW I (fun _ _ => False) h0 (fun i x ρ h hx hI => by
    obtain ⟨ρ1, ρ', h', e1, e2, e3⟩ := step i x ρ h hx hI
    rcases e2 with e2 | e2
    . exact ⟨ρ1, .nx ρ', h', e1, e2, e3⟩
    . exact ⟨ρ1, .ct ρ', h', e1, e2, e3⟩) with q | ⟨_, _, _, q⟩
  . exact q
  . exact q.elim
theorem yhM {β : Type} {g : XG} {s : XS} {xs : List PV} (I : Nat -> PSt -> AH -> Prop) {ρ : PSt} {h : AH} {f : Out -> AH -> Option β} {r : Option β} (h0 : I 0 ρ h)
  (step : ∀ (i : Nat) (x : PV) (ρ : PSt) (h : AH), xs[i]? = some x -> I i ρ h -> ∃ ρ1 ρ' h', g x ρ = some ρ1 /\ (s ρ1 h = some (.nx ρ', h') \/ s ρ1 h = some (.ct ρ', h')) /\ I (i + 1) ρ' h')
  (fin : ∀ ρ' h', I xs.length ρ' h' -> f (.nx ρ') h' = r) : ob (ynY g s xs ρ h) f = r := by
 obtain ⟨ρ', h', e, hI⟩ := yAH I h0 step
 rw [e]
 exact fin ρ' h' hI
theorem yoN {β : Type} {g : XG} {s : XS} {xs : List PV} (I : Nat -> PSt -> AH -> Prop) (R : PV -> AH -> Prop) {ρ : PSt} {h : AH} {f : Out -> AH -> Option β} {P : Option β -> Prop} (h0 : I 0 ρ h)
    (step : ∀ (i : Nat) (x : PV) (ρ : PSt) (h : AH), xs[i]? = some x -> I i ρ h -> ∃ ρ1 o h', g x ρ = some ρ1 /\ s ρ1 h = some (o, h') /\ (match o with | .nx ρ' => I (i + 1) ρ' h' | .ct ρ' => I (i + 1) ρ' h' | .bk _ => False | .rt y => R y h'))
    (fin : ∀ ρ' h', I xs.length ρ' h' -> P (f (.nx ρ') h')) (out : ∀ y h', R y h' -> P (f (.rt y) h')) : P (ob (ynY g s xs ρ h) f) := by
  rcases ysW I R h0 step with ⟨ρ', h', e, hI⟩ | ⟨y, h', e, hR⟩
  . rw [e]; exact fin ρ' h' hI
  . rw [e]; exact out y h' hR
theorem yAI (lo : Int) (n : Nat) : (ytQ lo n).length = n := by simp [ytQ]
theorem ylN {lo : Int} {n i : Nat} {x : PV} (h : (ytQ lo n)[i]? = some x) : i < n /\ x = .int (lo + i) := by
 have hl := (List.getElem?_eq_some_iff.mp h).1
 rw [yAI] at hl
 refine ⟨hl, ?_⟩
 simp [ytQ, hl] at h
 exact h.symm
theorem ynB {a : XA} {ρ : PSt} {h h1 : AH} {j : Int} (e : a ρ h = some ([.int j], h1)) (h0 : -1000000000 <= j) (h2 : j <= 1000000000) : yAr a ρ h = some (ytQ 0 j.toNat, h1) := by
 unfold yAr
 rw [e, yD]
 show (if _ then _ else _) = _
 rw [if_pos ⟨h0, h2⟩]
theorem yrS {α : Type} {e : XE} {inn : PV -> PSt} (f g : α -> PV) : ∀ {ts : List α} {h : AH}, (∀ t ∈ ts, e (inn (f t)) h = some (g t, h)) -> yxl e inn (ts.map f) h = some (ts.map g, h)
 | [], _, _ => rfl
 | t :: ts, h, k => by
  show ob (e (inn (f t)) h) (fun y h1 => ob (yxl e inn (ts.map f) h1) fun ys h2 => some (y :: ys, h2)) = _
  rw [k t List.mem_cons_self, yD, yrS f g fun y hy => k y (List.mem_cons_of_mem _ hy), yD]
  rfl
theorem yqn {i : Nat} {e : XE} {ρ : PSt} {h : AH} {xs : List PV} (hx : ρ[i]? = some (.own (.lst xs))) : ymN i e ρ h = ob (e ρ h) fun x h1 => if xs.length < 100000 then some (.nx (ρ.set i (.own (.lst (xs ++ [x])))), h1) else none := by
 unfold ymN
 rw [hx]
theorem yut {α : Type} {a0 : α} {xs : List α} : atI (a0 :: xs) 0 = some a0 := yen (j := 0) rfl
theorem yuu {α : Type} {a0 a1 : α} {xs : List α} : atI (a0 :: a1 :: xs) 1 = some a1 := yen (j := 1) rfl
theorem yvA {α : Type} {a0 a1 a2 : α} {xs : List α} : atI (a0 :: a1 :: a2 :: xs) 2 = some a2 := yen (j := 2) rfl
theorem ywG {α : Type} {a0 a1 a2 a3 : α} {xs : List α} : atI (a0 :: a1 :: a2 :: a3 :: xs) 3 = some a3 := yen (j := 3) rfl
theorem yxM {α : Type} {a0 a1 a2 a3 a4 : α} {xs : List α} : atI (a0 :: a1 :: a2 :: a3 :: a4 :: xs) 4 = some a4 := yen (j := 4) rfl
theorem yoO {h : AH} {n : Nat} {xs : List PV} (e : h[n]? = some (.lst xs)) : ydU [.loc n] h = some (.lst xs, h) := by
 unfold ydU listOf
 simp only [e]
theorem yoP {h : AH} {n : Nat} {xs : List PV} (e : h[n]? = some (.lst xs)) : ygV [.loc n] h = some (.int xs.length, h) := by
 unfold ygV yvl
 simp only [e]
theorem yrT {h : AH} {n : Nat} {xs : List PV} {y : PV} (e : h[n]? = some (.lst xs)) (hl : xs.length < 100000) : yqk (.loc n) [y] h = some (.non, h.set n (.lst (xs ++ [y]))) := by
 unfold yqk
 simp only [e]
 rw [if_pos hl]
theorem ylO {h : AH} {n : Nat} {xs : List PV} (e : h[n]? = some (.lst xs)) : ykV (.loc n) h = true := by
 unfold ykV yda
 simp only [e]
end PX
namespace PX
open PySem L2
variable {K : Ck}
def ywH : P2 := fun x y h => match x with | .tup xs => yhB (.tup xs) y h | x => yhA x y h
theorem yCX : yfJ K (rIx K.K) ywH := by
  intro W x y v u Q z h' w rx ry e q
  unfold ywH at e
  split at e
  . exact .inr (.inl (ydB W _ y v u Q z h' w rx ry e q))
  . exact .inl (yfL W _ y v u Q z h' w rx ry e q)
theorem ygZ {xs : List PV} {i : Int} {h : AH} : ywH (.tup xs) (.int i) h = (atI xs i).bind fun v => some (v, h) := id (by simp only [ywH, yhB]; cases atI xs i <;> rfl)
theorem yha {xs : List PV} {i : Int} {h : AH} : ywH (.lst xs) (.int i) h = (atI xs i).bind fun v => some (v, h) := id (by simp only [ywH, yhA]; cases atI xs i <;> rfl)
section
variable {ta : TE} {ea : XE}
end
end PX
namespace PX
open PySem L2
variable {K : Ck}
def yEu (lo st : Int) (n : Nat) : It := ⟨fun i _ => i < n, fun i H x H' => H' = H /\ x = .int (lo + i * st), fun i _ => n <= i⟩
def szR (a b c : Int) : Nat := if a < b then ((b - a - 1) / c + 1).toNat else 0
def yCY (ta : TA) : TI := fun σ H R => ta σ H fun vs H1 => ∃ i j c : Int, vs = [.int i, .int j, .int c] /\ (0 <= i /\ i < 1000000000 /\ 0 <= j /\ j < 1000000000 /\ 0 < c /\ c < 1000000) /\ R (yEu i c (szR i j c)) H1
def yyY (lo st : Int) (n : Nat) : List PV := (List.range n).map fun (k : Nat) => .int (lo + (k : Int) * st)
def yCZ (a : XA) : XA := fun ρ h => ob (a ρ h) fun xs h1 => match xs with | [.int i, .int j, .int c] => if 0 <= i /\ i < 1000000000 /\ 0 <= j /\ j < 1000000000 /\ 0 < c /\ c < 1000000 then some (yyY i c (szR i j c), h1) else none | _ => none
theorem yAJ (W : Wd) (lo st : Int) (n : Nat) : yEp K W (yEu lo st n) (yyY lo st n) := by
  refine ⟨fun i W' l w hi => ?_, fun i W' v' H2 l w hi hy => ?_, fun W' l w => ?_⟩
  . show i < n
    simpa [yyY] using hi
  . obtain ⟨h1, h2⟩ := hy
    have hi : i < n := by simpa [yyY] using hi
    exact ⟨h1, .int (lo + (i : Int) * st), by simp [yyY, hi], h2⟩
  . show n <= _
    simp [yyY]
theorem yvB {t : TA} {e : XA} (a : yri K t e) : yAq K (yCY t) (yCZ e) := by
  intro W0 W ρ σ R xs h' g e q
  obtain ⟨ys, h1, e1, f1⟩ := yl e
  split at f1
  . rename_i i j c
    split at f1
    . rename_i hj
      cases f1
      refine a W0 W ρ σ _ _ _ g e1 fun vs W1 w1 l1 r1 => ?_
      obtain ⟨v, r, rfl, rv, v2, r2, rfl, rv2, v3, r3, rfl, rv3, rr⟩ := r1
      obtain rfl : r3 = [] := rr
      exact ⟨i, j, c, by rw [show v = .int i from rv, show v2 = .int j from rv2, show v3 = .int c from rv3], hj, q _ W1 w1 l1 (yAJ W1 i c _)⟩
    . cases f1
  . cases f1
theorem yDa {a : XA} {ρ : PSt} {h h1 : AH} {i j c : Int} (e : a ρ h = some ([.int i, .int j, .int c], h1)) (hc : 0 <= i /\ i < 1000000000 /\ 0 <= j /\ j < 1000000000 /\ 0 < c /\ c < 1000000) : yCZ a ρ h = some (yyY i c (szR i j c), h1) := by
 unfold yCZ
 rw [e, yFc]
 show (if _ then _ else _) = _
 rw [if_pos hc]
end PX
namespace PX
open PySem L2
variable {K : Ck}
def Odd (K : PySem.W.Frag) (H : Hp) : Prop := ∃ a o ob, H a = some o /\ K.lookup a = some ob
inductive EqR (K : PySem.W.Frag) (H : Hp) : Nat -> V -> V -> Bool -> Prop where
 | flat {n : Nat} {x y : V} (fx : ytG x = true) (fy : ytG y = true) : EqR K H n x y (eqV x y)
 | same {n : Nat} {a : Addr} : EqR K H n (.ref a) (.ref a) true
 | odd {n : Nat} {x y : V} {b : Bool} (h : Odd K H) : EqR K H n x y b
 | nt {n : Nat} {b : Addr} {ys : List V} (hb : SqT K H b ys) : EqR K H (n + 1) .non (.ref b) false
 | tn {n : Nat} {b : Addr} {ys : List V} (hb : SqT K H b ys) : EqR K H (n + 1) (.ref b) .non false
 | lst {n : Nat} {a b : Addr} {xs ys : List V} {e : Nat -> Bool} (ha : H a = some (.lst xs)) (hb : H b = some (.lst ys)) (hl : xs.length = ys.length) (hne : a ≠ b) (he : ∀ j x y, xs[j]? = some x -> ys[j]? = some y -> EqR K H n x y (e j)) : EqR K H (n + 1) (.ref a) (.ref b) ((List.range xs.length).all e)
 | lstN {n : Nat} {a b : Addr} {xs ys : List V} (ha : H a = some (.lst xs)) (hb : H b = some (.lst ys)) (hl : xs.length ≠ ys.length) : EqR K H (n + 1) (.ref a) (.ref b) false
 | tup {n : Nat} {a b : Addr} {xs ys : List V} {e : Nat -> Bool} (ha : SqT K H a xs) (hb : SqT K H b ys) (hne : a ≠ b) (he : ∀ j x y, xs[j]? = some x -> ys[j]? = some y -> EqR K H n x y (e j)) : EqR K H (n + 1) (.ref a) (.ref b) ((List.range (min xs.length ys.length)).all e && xs.length == ys.length)
inductive RcR (K : PySem.W.Frag) (H : Hp) : V -> V -> Bool -> Prop where
 | nt {b : Addr} {ys : List V} (hb : SqT K H b ys) : RcR K H .non (.ref b) false
 | tn {b : Addr} {ys : List V} (hb : SqT K H b ys) : RcR K H (.ref b) .non false
 | lst {a b : Addr} {xs ys : List V} {e : Nat -> Bool} (ha : H a = some (.lst xs)) (hb : H b = some (.lst ys)) (hl : xs.length = ys.length) (he : ∀ j x y, xs[j]? = some x -> ys[j]? = some y -> EqR K H 40 x y (e j)) : RcR K H (.ref a) (.ref b) ((List.range xs.length).all e)
 | lstN {a b : Addr} {xs ys : List V} (ha : H a = some (.lst xs)) (hb : H b = some (.lst ys)) (hl : xs.length ≠ ys.length) : RcR K H (.ref a) (.ref b) false
 | tup {a b : Addr} {xs ys : List V} {e : Nat -> Bool} (ha : SqT K H a xs) (hb : SqT K H b ys) (he : ∀ j x y, xs[j]? = some x -> ys[j]? = some y -> EqR K H 40 x y (e j)) : RcR K H (.ref a) (.ref b) ((List.range (min xs.length ys.length)).all e && xs.length == ys.length)
def yFS (K : PySem.W.Frag) : R2 := fun x y H Q => ∃ b, RcR K H x y b /\ Q (.bl b) H
def yFT (K : PySem.W.Frag) : R2 := fun x y H Q => ∃ b, RcR K H x y b /\ Q (.bl (!b)) H
def ymL (f : PV -> PV -> Option Bool) : List PV -> List PV -> Option Bool
 | x :: xs, y :: ys => (match f x y, ymL f xs ys with | some b, some c => some (b && c) | _, _ => none)
 | _, _ => some true
def pairE (f : PV -> PV -> Option Bool) (h : AH) (x y : PV) : Option Bool := match x, y with
 | .tup xs, .tup ys => (match ymL f xs ys with | some b => some (b && xs.length == ys.length) | none => none)
 | .non, .tup _ => some false
 | .tup _, .non => some false
 | x, y => (match yda x h, yda y h with | some xs, some ys => if xs.length = ys.length then ymL f xs ys else some false | _, _ => none)
def eqP : Nat -> AH -> PV -> PV -> Option Bool
 | 0, _, _, _ => none
 | n + 1, h, x, y => match sv x, sv y with
  | some u, some v => some (eqV u v)
  | _, _ => pairE (eqP n h) h x y
theorem yxN : ∀ {v : V}, ytG v = true -> eqV v v = true
 | .non, _ => rfl
 | .bl b, _ => by cases b <;> rfl
 | .int i, _ => by simp [eqV]
 | .str s, _ => by simp [eqV]
def unV : Value -> Option V
 | .none => some .non
 | .bool b => some (.bl b)
 | .int i _ => some (.int i)
 | .str x _ => some (.str x)
 | .bytes b _ => some (.byt b)
 | .float b _ => some (.flt b)
 | .ref a => some (.ref a)
 | .type n => some (.ty n)
 | _ => none
theorem yyZ : ∀ {v : V} {u : Value}, RelV v u -> unV u = some v
 | .non, _, h => by rw [show _ = Value.none from h]; rfl
 | .bl _, _, h => by rw [show _ = Value.bool _ from h]; rfl
 | .int _, _, ⟨_, h⟩ => by rw [h]; rfl
 | .str _, _, ⟨_, h⟩ => by rw [h]; rfl
 | .byt _, _, ⟨_, h⟩ => by rw [h]; rfl
 | .flt _, _, ⟨_, h⟩ => by rw [h]; rfl
 | .ref _, _, h => by rw [show _ = Value.ref _ from h]; rfl
 | .ty _, _, h => by rw [show _ = Value.type _ from h]; rfl
theorem yAK {v w : V} {u : Value} (h1 : RelV v u) (h2 : RelV w u) : v = w := Option.some.inj ((yyZ h1).symm.trans (yyZ h2))
theorem yxO {vs ws : List V} {us : List Value} (h1 : Vals vs us) : Vals ws us -> vs = ws := by
 induction h1 generalizing ws with
 | nil => intro h2; cases h2; rfl
 | cons r _ ih => intro h2; cases h2 with | cons r2 t2 => rw [yAK r r2, ih t2]
theorem yDb {F H : Hp} {a : Addr} {vs ws : List V} (s : Same F H) (h1 : TpAt K.K F a vs) (h2 : TpAt K.K F a ws) : vs = ws \/ Odd K.K H := by
  rcases h1 with h1 | ⟨o, its, n, e1, e2, e3, e4, e5⟩
  . rcases h2 with h2 | ⟨o, its, n, e1, e2, e3, e4, e5⟩
    . rw [h1] at h2; cases h2; exact .inl rfl
    . exact .inr ⟨a, _, o, s _ _ h1, e1⟩
  . rcases h2 with h2 | ⟨o', its', n', e1', e2', e3', e4', e5'⟩
    . exact .inr ⟨a, _, o, s _ _ h2, e1⟩
    . rw [e1] at e1'; cases e1'
      rw [e3] at e3'; cases e3'
      exact .inl (yxO e5 e5')
theorem ylP {f : PV -> PV -> Option Bool} {W : Wd} (hf : ∀ x y v b, f x y = some b -> yek K W x v -> yek K W y v -> b = true \/ Odd K.K W.H) : ∀ {xs ys : List PV} {vs : List V} {c : Bool}, yfc K W xs vs -> yfc K W ys vs -> ymL f xs ys = some c -> c = true \/ Odd K.K W.H
  | [], _, _, _, _, _, e => by simp [ymL] at e; exact .inl e
  | _ :: _, [], _, _, _, _, e => by simp [ymL] at e; exact .inl e
  | x :: xs, y :: ys, _, c, ⟨v, r, e1, h1, l1⟩, ⟨u, q, e2, h2, l2⟩, e => by
    rw [e1] at e2
    cases e2
    unfold ymL at e
    cases eb : f x y with
    | none => rw [eb] at e; cases e
    | some b =>
      cases ec : ymL f xs ys with
      | none => rw [eb, ec] at e; cases e
      | some c' =>
        rw [eb, ec] at e
        cases e
        rcases hf x y _ b eb h1 h2 with z | z
        . rcases ylP hf l1 l2 ec with z' | z'
          . exact .inl (by rw [z, z']; rfl)
          . exact .inr z'
        . exact .inr z
theorem ytX {f : PV -> PV -> Option Bool} {W : Wd} (w : WOk K W) (hf : ∀ x y v b, f x y = some b -> yek K W x v -> yek K W y v -> b = true \/ Odd K.K W.H) {x y : PV} {v : V} {b : Bool} (e : pairE f W.h x y = some b) (rx : yek K W x v) (ry : yek K W y v) : b = true \/ Odd K.K W.H := by
  unfold pairE at e
  split at e
  . rename_i xs ys
    obtain ⟨a, vs, ev, ha, ra⟩ := rx
    obtain ⟨a', vs', ev', ha', ra'⟩ := ry
    rw [ev] at ev'
    cases ev'
    rcases yDb w.le ha ha' with z | z
    . subst z
      cases ec : ymL f xs ys with
      | none => rw [ec] at e; cases e
      | some c =>
        rw [ec] at e
        cases e
        rcases ylP hf ra ra' ec with z | z
        . left
          rw [z, <- ra.len, <- ra'.len]
          simp
        . exact .inr z
    . exact .inr z
  . obtain ⟨a', vs', ev', ha', ra'⟩ := ry
    have rx : v = .non := rx
    rw [rx] at ev'; cases ev'
  . obtain ⟨a', vs', ev', ha', ra'⟩ := rx
    have ry : v = .non := ry
    rw [ry] at ev'; cases ev'
  . split at e
    . rename_i xs ys hx hy
      obtain ⟨a, vs, ev, ha, ra⟩ := ybX w hx rx
      obtain ⟨a', vs', ev', ha', ra'⟩ := ybX w hy ry
      rw [ev] at ev'
      cases ev'
      rw [ha] at ha'
      cases ha'
      rw [if_pos (by rw [<- ra.len, <- ra'.len])] at e
      exact ylP hf ra ra' e
    . cases e
theorem yoQ {W : Wd} (w : WOk K W) : ∀ (n : Nat) (x y : PV) (v : V) (b : Bool), eqP n W.h x y = some b -> yek K W x v -> yek K W y v -> b = true \/ Odd K.K W.H
  | 0, _, _, _, _, e, _, _ => by cases e
  | n + 1, x, y, v, b, e, rx, ry => by
    unfold eqP at e
    split at e
    . rename_i u u' hu hu'
      cases e
      rw [<- yjl hu rx, <- yjl hu' ry]
      exact .inl (yxN (by rw [yjl hu rx]; exact yrR hu))
    . exact ytX w (yoQ w n) e rx ry
theorem ylQ {f : PV -> PV -> Option Bool} {W : Wd} {n : Nat} (hf : ∀ x y v u b, f x y = some b -> yek K W x v -> yek K W y u -> EqR K.K W.H n v u b) : ∀ {xs ys : List PV} {vs us : List V} {c : Bool}, yfc K W xs vs -> yfc K W ys us -> ymL f xs ys = some c ->
    ∃ e : Nat -> Bool, (∀ j v u, vs[j]? = some v -> us[j]? = some u -> EqR K.K W.H n v u (e j)) /\ c = (List.range (min vs.length us.length)).all e
  | [], _, _, _, c, h1, _, e => by
    rw [show _ = [] from h1]
    simp [ymL] at e
    exact ⟨fun _ => true, fun j v u hv => by simp at hv, by simp [e]⟩
  | _ :: _, [], _, _, c, _, h2, e => by
    rw [show _ = [] from h2]
    simp [ymL] at e
    exact ⟨fun _ => true, fun j v u _ hu => by simp at hu, by simp [e]⟩
  | x :: xs, y :: ys, _, _, c, ⟨v, r, e1, h1, l1⟩, ⟨u, q, e2, h2, l2⟩, e => by
    subst e1 e2
    unfold ymL at e
    cases eb : f x y with
    | none => rw [eb] at e; cases e
    | some b =>
      cases ec : ymL f xs ys with
      | none => rw [eb, ec] at e; cases e
      | some c' =>
        rw [eb, ec] at e
        cases e
        obtain ⟨e', k1, k2⟩ := ylQ hf l1 l2 ec
        refine ⟨fun j => match j with | 0 => b | j + 1 => e' j, fun j v' u' hv hu => ?_, ?_⟩
        . cases j with
          | zero =>
            simp at hv hu
            subst hv hu
            exact hf x y _ _ b eb h1 h2
          | succ j => exact k1 j v' u' (by simpa using hv) (by simpa using hu)
        . rw [k2, List.length_cons, List.length_cons, show min (r.length + 1) (q.length + 1) = min r.length q.length + 1 by omega, List.range_succ_eq_map, List.all_cons, List.all_map]
          rfl
theorem ysX {W : Wd} (w : WOk K W) : ∀ (n : Nat) (x y : PV) (v u : V) (b : Bool), eqP n W.h x y = some b -> yek K W x v -> yek K W y u -> EqR K.K W.H n v u b
  | 0, _, _, _, _, _, e, _, _ => by cases e
  | n + 1, x, y, v, u, b, e, rx, ry => by
    have e0 := e
    unfold eqP at e
    split at e
    . rename_i v' u' hv hu
      cases e
      rw [yjl hv rx, yjl hu ry]
      exact .flat (yrR hv) (yrR hu)
    . unfold pairE at e
      split at e
      . rename_i xs ys _
        obtain ⟨a, vs, ev, ha, ra⟩ := rx
        obtain ⟨a', us, eu, ha', ra'⟩ := ry
        by_cases hab : a = a'
        . subst hab
          rcases yoQ w (n + 1) _ _ v b e0 ⟨a, vs, ev, ha, ra⟩ (by rw [ev, <- eu]; exact ⟨a, us, eu, ha', ra'⟩) with this | z
          . rw [this, ev, eu]
            exact .same
          . exact .odd z
        . cases ec : ymL (eqP n W.h) xs ys with
          | none => rw [ec] at e; cases e
          | some c =>
            rw [ec] at e
            cases e
            obtain ⟨e', k1, k2⟩ := ylQ (ysX w n) ra ra' ec
            rw [ev, eu, k2, <- ra.len, <- ra'.len]
            exact .tup (yfK w ha) (yfK w ha') hab k1
      . obtain ⟨a', us, eu, ha', ra'⟩ := ry
        cases e
        rw [show v = .non from rx, eu]
        exact .nt (yfK w ha')
      . obtain ⟨a', us, eu, ha', ra'⟩ := rx
        cases e
        rw [show u = .non from ry, eu]
        exact .tn (yfK w ha')
      . split at e
        . rename_i xs ys hx hy
          obtain ⟨a, vs, ev, ha, ra⟩ := ybX w hx rx
          obtain ⟨a', us, eu, ha', ra'⟩ := ybX w hy ry
          by_cases hab : a = a'
          . subst hab
            rcases yoQ w (n + 1) _ _ v b e0 rx (by rw [ev, <- eu]; exact ry) with this | z
            . rw [this, ev, eu]
              exact .same
            . exact .odd z
          . split at e
            . rename_i hl
              obtain ⟨e', k1, k2⟩ := ylQ (ysX w n) ra ra' e
              have hl' : vs.length = us.length := by rw [ra.len, ra'.len, hl]
              rw [ev, eu, k2, <- hl', Nat.min_self]
              exact .lst ha ha' hl' hab k1
            . rename_i hl
              cases e
              rw [ev, eu]
              exact .lstN ha ha' (by rw [ra.len, ra'.len]; exact hl)
        . cases e
def ywI : P2 := fun x y h => match pairE (eqP 40 h) h x y with | some b => some (.bl b, h) | none => none
def yxP : P2 := fun x y h => match pairE (eqP 40 h) h x y with | some b => some (.bl (!b), h) | none => none
theorem ysY {W : Wd} (w : WOk K W) {x y : PV} {v u : V} {b : Bool} (e : pairE (eqP 40 W.h) W.h x y = some b) (rx : yek K W x v) (ry : yek K W y u) : RcR K.K W.H v u b := by
  unfold pairE at e
  split at e
  . rename_i xs ys
    obtain ⟨a, vs, ev, ha, ra⟩ := rx
    obtain ⟨a', us, eu, ha', ra'⟩ := ry
    cases ec : ymL (eqP 40 W.h) xs ys with
    | none => rw [ec] at e; cases e
    | some c =>
      rw [ec] at e
      cases e
      obtain ⟨e', k1, k2⟩ := ylQ (ysX w 40) ra ra' ec
      rw [ev, eu, k2, <- ra.len, <- ra'.len]
      exact .tup (yfK w ha) (yfK w ha') k1
  . obtain ⟨a', us, eu, ha', ra'⟩ := ry
    cases e
    rw [show v = .non from rx, eu]
    exact .nt (yfK w ha')
  . obtain ⟨a', us, eu, ha', ra'⟩ := rx
    cases e
    rw [show u = .non from ry, eu]
    exact .tn (yfK w ha')
  . split at e
    . rename_i xs ys hx hy
      obtain ⟨a, vs, ev, ha, ra⟩ := ybX w hx rx
      obtain ⟨a', us, eu, ha', ra'⟩ := ybX w hy ry
      split at e
      . rename_i hl
        obtain ⟨e', k1, k2⟩ := ylQ (ysX w 40) ra ra' e
        have hl' : vs.length = us.length := by rw [ra.len, ra'.len, hl]
        rw [ev, eu, k2, <- hl', Nat.min_self]
        exact .lst ha ha' hl' k1
      . rename_i hl
        cases e
        rw [ev, eu]
        exact .lstN ha ha' (by rw [ra.len, ra'.len]; exact hl)
    . cases e
theorem yxQ : yfJ K (yFS K.K) ywI := by
  intro W x y v u Q z h' w rx ry e q
  unfold ywI at e
  split at e
  . rename_i b hb
    cases e
    exact ⟨b, ysY w hb rx ry, q _ W rfl (.refl w) rfl⟩
  . cases e
theorem yDc : yfJ K (yFT K.K) yxP := by
  intro W x y v u Q z h' w rx ry e q
  unfold yxP at e
  split at e
  . rename_i b hb
    cases e
    exact ⟨b, ysY w hb rx ry, q _ W rfl (.refl w) rfl⟩
  . cases e
end PX
namespace PX
open PySem L2
variable {K : Ck}
def yC (k : Nat) (m : Str) (f : Fn) (e : XE) (as : XA) : XE := fun ρ h => ob (e ρ h) fun x h1 => match yiI x h1 with
 | some (k', ns, _) => if k' = k /\ m ∉ ns then ob (as ρ h1) fun ys h2 => f (x :: ys) h2 else none
 | none => none
theorem yqo {k n : Nat} {m : Str} {f : Fn} {ex : XK} {ta : TE} {t : TA} {ea : XE} {as : XA} (a : ycW K ta ea) (b : yri K t as) (hn : ∀ ρ h xs h', as ρ h = some (xs, h') -> xs.length = n) :
    ycW K (yzH (K.A k) m (spE K (n + 1) f) [] ex ta t) (yC k m f ea as) := by
  intro W0 W ρ σ Q z h' g e q
  obtain ⟨x, h1, e1, f1⟩ := yl e
  refine a W0 W ρ σ _ x h1 g e1 fun v W1 w1 l1 r1 => ?_
  subst w1
  split at f1
  . rename_i k' ns xs hi
    split at f1
    . rename_i hc
      obtain ⟨ys, h2, e2, f2⟩ := yl f1
      obtain ⟨p, dx, vs, ev, hp, hl, rs⟩ := ylI l1.ok hi r1
      rw [hc.1] at hp
      refine ⟨p, dx, _, ev, hp, yhJ hc.2, ?_⟩
      refine b W0 W1 ρ σ _ ys h2 (g.step l1) e2 fun us W2 w2 l2 r2 => ?_
      subst w2
      rw [List.append_nil]
      exact ⟨W2, x :: ys, z, h', rfl, l2.ok, ⟨v, us, rfl, l2.rep r1, r2⟩, by rw [List.length_cons, hn _ _ _ _ e2], f2, fun u W3 w3 l3 r3 => q u W3 w3 ((l1.trans l2).trans l3) r3⟩
    . cases f1
  . cases f1
def yAL (cs : List Nat) (f : Str) (eo ev : XE) : XS := fun ρ h => ob (ev ρ h) fun y h1 => ob (eo ρ h1) fun x h2 => match x with
 | .loc n => (match h2[n]? with | some (.ins k ns xs) => if k ∈ cs /\ ns.length < 1000 then some (.nx ρ, h2.set n (.ins k (putN f y ns xs).1 (putN f y ns xs).2)) else none | _ => none)
 | _ => none
theorem yxR {cs : List Nat} {f : Str} {ta tv : TE} {ea ev : XE} (hc : ∀ k ∈ cs, Cls K.K (K.A k) /\ NoAttr K.K (K.A k) f) (a : ycW K ta ea) (c : ycW K tv ev) : ykF K (yEI K.K ta tv f) (yAL cs f ea ev) := by
  intro W0 W ρ σ D o h' g e q
  obtain ⟨y, h1, e1, f1⟩ := yl e
  obtain ⟨x, h2, e2, f2⟩ := yl f1
  refine c W0 W ρ σ _ y h1 g e1 fun vy W1 w1 l1 r1 => ?_
  subst w1
  refine a W0 W1 ρ σ _ x h2 (g.step l1) e2 fun vx W2 w2 l2 r2 => ?_
  subst w2
  have w := l2.ok
  split at f2
  . rename_i n
    split at f2
    . rename_i k ns xs hn
      split at f2
      . rename_i hk
        cases f2
        obtain ⟨p, ep, hm, hf, dx, us, hp, hl, rs⟩ := w.loc hn r2
        obtain ⟨us', p1, p2, p3⟩ := rs.putN (f := f) hl (l2.rep r1)
        refine ⟨p, _, dx, _, ep, hp, (hc k hk.1).1, (hc k hk.1).2, by rw [List.length_zip, hl]; simpa using hk.2, ?_⟩
        rw [p1]
        have l4 : Le K W2 (yAF W2 n p (.ins (K.A k) dx ((putN f y ns xs).1.zip us')) (.ins k (putN f y ns xs).1 (putN f y ns xs).2)) := ykj w hn hm hf ⟨hf, dx, us', yK, p2, p3⟩
        have l := l1.trans (l2.trans l4)
        exact q _ σ rfl l.lf (g.step l)
      . cases f2
    . cases f2
  . cases f2
end PX
namespace PX
open PySem L2
variable {K : Ck}
def yrU (r d : Addr) : HO := .ext fun h => h.get? r = some { cls := .type "dict_items", data := .fields #[.ref d] }
def yza : V -> List V -> Hp -> VK -> Prop := fun x vs H Q => ∃ d kvs, x = .ref d /\ vs = [] /\ H d = some (.dK kvs) /\ ∀ r, H r = none -> Q (.ref r) (upd H r (yrU r d))
def ysZ (H : Hp) (as : List Addr) (ts : List (List V)) : Hp := fun b => match (as.zip ts).lookup b with | some t => some (.tup t) | none => H b
def yEv (H : Hp) (p : Addr) (as : List Addr) (ts : List (List V)) : Hp := upd (ysZ H as ts) p (.lst (as.map V.ref))
def rSI : List V -> Hp -> VK -> Prop := fun xs H Q => ∃ (r d : Addr) (kvs : List (Key × V)) (ns : List Int), xs = [.ref r] /\ H r = some (yrU r d) /\ H d = some (.dK kvs) /\ kvs.map (·.1) = ns.map .inl /\ kvs.length < 64 /\
  ∀ (p : Addr) (as : List Addr) (q : List Nat), q.Perm (List.range ns.length) -> q.Pairwise (fun i j => ns.getD i 0 <= ns.getD j 0) -> ns.Nodup -> as.length = q.length -> (∀ a ∈ p :: as, H a = none) -> (p :: as).Nodup ->
    Q (.ref p) (yEv H p as (q.map fun i => [V.int (ns.getD i 0), (kvs.map (·.2)).getD i .non]))
def yBJ (p : Int × PV) : List (Int × PV) -> List (Int × PV)
 | [] => [p]
 | q :: r => if p.1 <= q.1 then p :: q :: r else q :: yBJ p r
def yoR : List (Int × PV) -> List (Int × PV)
 | [] => []
 | p :: r => yBJ p (yoR r)
def ytY : List Key -> Option (List Int)
  | [] => some []
  | .inl i :: r => (ytY r).map (i :: ·)
  | .inr _ :: _ => none
theorem yoS : ∀ {ks : List Key} {ns : List Int}, ytY ks = some ns -> ks = ns.map .inl
 | [], ns, h => by cases h; rfl
 | .inl i :: r, ns, h => by
  obtain ⟨m, e, rfl⟩ := Option.map_eq_some_iff.mp h
  rw [List.map_cons, <- yoS e]
 | .inr _ :: _, _, h => by cases h
theorem ylR (p : Int × PV) : ∀ l, (yBJ p l).Perm (p :: l)
  | [] => .refl _
  | q :: r => by
    unfold yBJ
    split
    . exact .refl _
    . exact ((ylR p r).cons q).trans (.swap _ _ _)
theorem yeH : ∀ l, (yoR l).Perm l
 | [] => .refl _
 | p :: r => (ylR p _).trans ((yeH r).cons p)
theorem yvC {p : Int × PV} : ∀ {l : List (Int × PV)}, l.Pairwise (fun a b => a.1 <= b.1) -> (yBJ p l).Pairwise (fun a b => a.1 <= b.1)
  | [], _ => List.pairwise_singleton _ _
  | q :: r, h => by
    obtain ⟨h1, h2⟩ := List.pairwise_cons.mp h
    unfold yBJ
    split
    . rename_i hc
      exact List.pairwise_cons.mpr ⟨fun b hb => by
        rcases List.mem_cons.mp hb with rfl | hb
        . exact hc
        . exact Int.le_trans hc (h1 b hb), h⟩
    . rename_i hc
      refine List.pairwise_cons.mpr ⟨fun b hb => ?_, yvC h2⟩
      rcases List.mem_cons.mp ((ylR p r).mem_iff.mp hb) with rfl | hb
      . omega
      . exact h1 b hb
theorem ylt : ∀ l, (yoR l).Pairwise (fun a b => a.1 <= b.1)
 | [] => .nil
 | _ :: r => yvC (ylt r)
theorem yxS {ns : List Int} {xs : List PV} {q : List Nat} (hl : xs.length = ns.length) (hp : q.Perm (List.range ns.length)) (hs : q.Pairwise fun i j => ns.getD i 0 <= ns.getD j 0) (nd : ns.Nodup) :
    (q.map fun i => (ns.getD i 0, xs.getD i .non)) = yoR (ns.zip xs) := by
  have hz : ((List.range ns.length).map fun i => (ns.getD i 0, xs.getD i .non)) = ns.zip xs := by
    apply List.ext_getElem
    . simp [hl]
    . intro i h1 h2
      have h3 : i < ns.length := by simpa using h1
      simp [List.getD, List.getElem?_eq_getElem h3, List.getElem?_eq_getElem (show i < xs.length by omega)]
  have hm : (q.map fun i => (ns.getD i 0, xs.getD i .non)).Perm (ns.zip xs) := by rw [<- hz]; exact hp.map _
  have hk : (ns.zip xs).map (·.1) = ns := List.map_fst_zip (by omega)
  refine List.Perm.eq_of_pairwise (le := fun a b => a.1 <= b.1) (fun a b ha hb h1 h2 => ?_) (List.pairwise_map.mpr hs) (ylt _) (hm.trans (yeH _).symm)
  have ha := hm.mem_iff.mp ha
  have hb := (yeH _).mem_iff.mp hb
  obtain ⟨i, hi, rfl⟩ := List.getElem_of_mem ha
  obtain ⟨j, hj, rfl⟩ := List.getElem_of_mem hb
  have hi' : i < ns.length := by rw [List.length_zip] at hi; omega
  have hj' : j < ns.length := by rw [List.length_zip] at hj; omega
  have e : ns[i] = ns[j] := by
    have : ((ns.zip xs)[i]).1 = ((ns.zip xs)[j]).1 := Int.le_antisymm h1 h2
    simpa using this
  have := ysS nd hi' hj' e
  subst this
  rfl
def yFU (W : Wd) (as : List Addr) (ts : List (List V)) : Wd := ⟨ysZ W.F as ts, ysZ W.H as ts, W.m, W.h⟩
theorem lookup_mem {α : Type} : ∀ {as : List Addr} {ts : List α} {b : Addr} {t : α}, (as.zip ts).lookup b = some t -> b ∈ as
  | [], _, _, _, h => by simp at h
  | _ :: _, [], _, _, h => by simp at h
  | a :: as, u :: ts, b, t, h => by
    rw [List.zip_cons_cons, List.lookup_cons] at h
    split at h
    . rename_i hb; rw [eq_of_beq hb]; exact List.mem_cons_self
    . exact List.mem_cons_of_mem _ (lookup_mem h)
theorem ykk {H : Hp} {as : List Addr} {ts : List (List V)} {b : Addr} (h : b ∉ as) : ysZ H as ts b = H b := by
  unfold ysZ
  split
  . rename_i e; exact absurd (lookup_mem e) h
  . rfl
theorem yAM {W : Wd} {as : List Addr} {ts : List (List V)} (w : WOk K W) (h : ∀ a ∈ as, W.H a = none) : Le K W (yFU W as ts) := by
  have nm : ∀ a ∈ as, a ∉ W.m := fun a ha => w.out (h a ha)
  have sF : Same W.F (ysZ W.F as ts) := fun b o e => by
    rw [ykk fun z => by rw [w.ff (h b z)] at e; cases e]; exact e
  have sH : Same W.H (ysZ W.H as ts) := fun b o e => by
    rw [ykk fun z => by rw [h b z] at e; cases e]; exact e
  refine ⟨⟨?_, w.len, w.nd, fun n d a e1 e2 => ?_⟩, sF, List.prefix_refl _, fun b u e _ => sH b u e, fun b u e _ f => ?_, fun b z n => absurd z n, fun n ks xs e1 => ⟨e1, fun a e2 => ykk fun z => nm a z (List.mem_of_getElem? e2)⟩⟩
  . intro b u e
    have e : ysZ W.F as ts b = some u := e
    show ysZ W.H as ts b = some u
    unfold ysZ at e ⊢
    split at e
    . exact e
    . exact w.le _ _ e
  . have ha : a ∉ as := fun z => nm a z (List.mem_of_getElem? e2)
    exact (w.at_ n d a e1 e2).mono sF (List.prefix_refl _) (fun u e => sH _ _ e) fun f => (ykk ha).trans f
  . exact (ykk fun z => by rw [h b z] at e; cases e).trans f
theorem yqp {F : Hp} {m : List Addr} {Y : Nat -> PV} {T : Nat -> List V} {Z : Nat -> List PV} (hY : ∀ i, Y i = .tup (Z i)) : ∀ (as : List Addr) (q : List Nat), as.length = q.length -> as.Nodup -> (∀ a ∈ as, ∀ i, i ∈ q -> (as.zip (q.map T)).lookup a = some (T i) -> F a = some (.tup (T i))) ->
    (∀ i ∈ q, RepL K F m (Z i) (T i)) -> RepL K F m (q.map Y) (as.map V.ref)
  | [], [], _, _, _, _ => rfl
  | [], _ :: _, h, _, _, _ => by cases h
  | _ :: _, [], h, _, _, _ => by cases h
  | a :: as, i :: q, hl, hn, hF, hR => by
    obtain ⟨n1, n2⟩ := List.nodup_cons.mp hn
    refine ⟨.ref a, _, rfl, ?_, yqp hY as q (by simpa using hl) n2 (fun b hb j hj e => ?_) fun j hj => hR j (List.mem_cons_of_mem _ hj)⟩
    . rw [hY]
      exact ⟨a, T i, rfl, .inl (hF a List.mem_cons_self i List.mem_cons_self (by simp)), hR i List.mem_cons_self⟩
    . refine hF b (List.mem_cons_of_mem _ hb) j (List.mem_cons_of_mem _ hj) ?_
      rw [List.map_cons, List.zip_cons_cons, List.lookup_cons]
      have : (b == a) = false := beq_eq_false_iff_ne.mpr fun z => n1 (z ▸ hb)
      rw [this]
      exact e
def sortI (ks : List Key) (xs : List PV) : Option (List PV) := match ytY ks with | some ns => if ns.length < 64 then some ((yoR (ns.zip xs)).map fun p => .tup [.int p.1, p.2]) else none | none => none
def ylS (e : XE) : XO := fun ρ h => ob (e ρ h) fun x h1 => match yoG x h1 with | some (ks, xs) => (match sortI ks xs with | some l => some (.lst l, h1) | none => none) | none => none
theorem yzb {W : Wd} {x : PV} {v : V} {ks : List Key} {xs : List PV} (w : WOk K W) (e : yoG x W.h = some (ks, xs)) (r : yek K W x v) : tyV K.K "dict" v W.H := by
 obtain ⟨a, vs, rfl, hp, _⟩ := ylM w e r
 exact .inr (.inr (.inl ⟨rfl, .inl ⟨_, hp⟩⟩))
theorem yvD {ta : TE} {ea : XE} (a : ycW K ta ea) : ytL K (tCB rSI (yuM (yEO K.K "dict" yza ta) yzG)) (ylS ea) := by
  intro W0 W ρ σ Q z h' g e q
  obtain ⟨x, h1, e1, f1⟩ := yl e
  refine a W0 W ρ σ _ x h1 g e1 fun v W1 w1 l1 r1 => ?_
  subst w1
  split at f1
  . rename_i ks xs hd
    split at f1
    . rename_i l hl
      cases f1
      refine ⟨yzb l1.ok hd r1, ?_⟩
      obtain ⟨d, vs, ev, hp, hvl, rs⟩ := ylM l1.ok hd r1
      subst ev
      refine ⟨d, _, rfl, rfl, hp, fun r hr => ?_⟩
      unfold sortI at hl
      split at hl
      . rename_i ns hk
        split at hl
        . rename_i h64
          cases hl
          have hk := yoS hk
          have l2 := ygU (o := yrU r d) l1.ok hr
          have hnl : ks.length = ns.length := by rw [hk, List.length_map]
          have hxl : xs.length = ns.length := by rw [<- rs.len]; omega
          show rSI [.ref r] (upd W1.H r (yrU r d)) Q
          refine ⟨r, d, ks.zip vs, ns, rfl, yK, (yU (ycb hp hr)).trans hp, by rw [List.map_fst_zip (by omega), hk], by rw [List.length_zip]; omega, fun p as o hperm hs nd hal hfree hnd => ?_⟩
          rw [List.map_snd_zip (by omega)]
          generalize hW2 : ysN W1 r (yrU r d) = W2 at l2
          have hH2 : W2.H = upd W1.H r (yrU r d) := by rw [<- hW2]; rfl
          rw [<- hH2] at hfree ⊢
          have l3 := yAM (ts := o.map fun i => [V.int (ns.getD i 0), vs.getD i .non]) l2.ok fun a ha => hfree a (List.mem_cons_of_mem _ ha)
          obtain ⟨n1, n2⟩ := List.nodup_cons.mp hnd
          have hp3 : (yFU W2 as (o.map fun i => [V.int (ns.getD i 0), vs.getD i .non])).H p = none := (ykk n1).trans (hfree p List.mem_cons_self)
          have l4 := ygU (o := .lst (as.map V.ref)) l3.ok hp3
          have l := l2.trans (l3.trans l4)
          have inq : ∀ i ∈ o, i < ns.length := fun i hi => by have := hperm.mem_iff.mp hi; simpa using this
          refine q p _ (by rw [<- hW2]; rfl) (l1.trans l) (l3.ok.out hp3) ((l1.trans l2).fresh (hfree p List.mem_cons_self)) (fun z => by cases z) ⟨l3.ok.ff hp3, _, yK, ?_⟩
          rw [<- yxS hxl hperm hs nd, List.map_map]
          refine yqp (T := fun i => [V.int (ns.getD i 0), vs.getD i .non]) (Z := fun i => [.int (ns.getD i 0), xs.getD i .non]) (fun i => rfl) as o hal n2 (fun a ha i hi e => ?_) fun i hi => ⟨_, _, rfl, rfl, _, _, rfl, ?_, rfl⟩
          . show ysZ W2.F as _ a = _
            unfold ysZ
            rw [e]
          . have hi' := inq i hi
            obtain ⟨u, h3, h4⟩ := (l2.trans (l3.trans l4)).repL rs |>.get (List.getElem?_eq_getElem (show i < xs.length by omega))
            have e5 : xs.getD i .non = xs[i]'(by omega) := by simp [List.getD, List.getElem?_eq_getElem (show i < xs.length by omega)]
            have e6 : vs.getD i .non = u := by simp [List.getD, h3]
            rw [e5, e6]
            exact h4
        . cases hl
      . cases hl
    . cases f1
  . cases f1
end PX
namespace PX
open PySem L2
variable {K : Ck}
def ItR (K : PySem.W.Frag) (a : Addr) (m : Nat) : It :=
 ⟨fun i H => i < m /\ ∃ xs x, SqL K H a xs /\ xs[m - 1 - i]? = some x, fun i H x H' => H' = H /\ ∀ xs, SqL K H a xs -> xs[m - 1 - i]? = some x, fun i _ => i = m⟩
def yFV (K : PySem.W.Frag) (tl : TE) : TI := fun σ H R => tl σ H fun x H1 => ∃ a xs, x = .ref a /\ SqL K H1 a xs /\ R (ItR K a xs.length) H1
def yvE (n : Nat) (rev : Bool) (g : XG) (s : XS) : Nat -> Nat -> PSt -> AH -> Option (Out × AH)
 | 0, i, ρ, h => match h[n]? with | some (.lst xs) => if xs.length = i then some (.nx ρ, h) else none | _ => none
 | k + 1, i, ρ, h => match h[n]? with
  | some (.lst xs) => (match xs[if rev then k else i]? with
   | some x => (g x ρ).bind fun ρ1 => ob (s ρ1 h) fun o h1 => match o with | .nx ρ' => yvE n rev g s k (i + 1) ρ' h1 | .ct ρ' => yvE n rev g s k (i + 1) ρ' h1 | .bk ρ' => some (.nx ρ', h1) | .rt y => some (.rt y, h1)
   | none => none)
  | _ => none
def yxT (rev : Bool) (e : XE) (g : XG) (s : XS) : XS := fun ρ h => ob (e ρ h) fun x h1 => match x with
 | .loc n => (match h1[n]? with | some (.lst xs) => yvE n rev g s xs.length 0 ρ h1 | _ => none)
 | _ => none
structure ItX (K : Ck) (n : Nat) (rev : Bool) (m : Nat) (a : Addr) (J : It) : Prop where
 go : ∀ (i : Nat) (H : Hp) (vs : List V) (v : V), H a = some (.lst vs) -> i < m -> vs[if rev then m - 1 - i else i]? = some v -> J.go i H
 yld : ∀ (i : Nat) (H : Hp) (vs : List V) (v : V) (H2 : Hp), H a = some (.lst vs) -> i < m -> J.yld i H v H2 -> H2 = H /\ vs[if rev then m - 1 - i else i]? = some v
 stop : ∀ (H : Hp) (vs : List V), H a = some (.lst vs) -> vs.length = m -> J.stop m H
section
variable {ta : TE} {ea : XE} {t : TS} {s : XS}
theorem yvF {n : Nat} {xs : List PV} {p : Addr} {us : List V} {J : It} {rev : Bool} {g : TG} {y : XG} (b : yAm K g y) (c : ykF K t s) {W0 W W1 : Wd} {ρ : PSt} {σ : St} {D : Ends} {o : Out} {h' : AH} (gd : Good K W0 W ρ σ) (l1 : Le K W W1) (q : Ends.Ok K W0 W D h' o)
    (f1 : yvE n rev y s xs.length 0 ρ W1.h = some (o, h')) (hn : W1.h[n]? = some (.lst xs)) (hm : W1.m[n]? = some p) (rs : yfc K W1 xs us) (J1 : ItX K n rev us.length p J) :
    ∃ Z : Nat -> Nat -> St -> Hp -> Prop, (∃ m, Z 0 m σ W1.H) /\ ∀ i m σ H, Z i m σ H ->
      (J.stop i H /\ D.nx σ H) \/ (J.go i H /\ ∃ N : St -> Hp -> Prop, (∀ σ' H', N σ' H' -> ∃ m', m' < m /\ Z (i + 1) m' σ' H') /\ ∀ x H', J.yld i H x H' -> g x σ H' fun σ2 H2 => t { D with nx := N, ct := N, bk := D.nx } σ2 H2) := by
      have q1 := q.from_ l1.lf
      have hul : us.length = xs.length := rs.len
      rw [hul] at J1
      refine ⟨fun i m σ H => m = xs.length - i /\ i <= xs.length /\ ∃ W' ρ', W'.H = H /\ Lf K W1 W' /\ Good K W0 W' ρ' σ /\ yvE n rev y s (xs.length - i) i ρ' W'.h = some (o, h'), ⟨_, rfl, Nat.zero_le _, W1, ρ, rfl, .refl, gd.step l1, f1⟩, ?_⟩
      rintro i m σ _ ⟨rfl, hi, W', ρ', rfl, l, g', f⟩
      have hm' : W'.m[n]? = some p := ykf l.pre hm
      by_cases hlt : i < xs.length
      . obtain ⟨k, hk⟩ : ∃ k, xs.length - i = k + 1 := ⟨xs.length - i - 1, by omega⟩
        rw [hk] at f
        unfold yvE at f
        split at f
        . rename_i ys hy
          split at f
          . rename_i z hz
            obtain ⟨p', ev', hm2, hf', vs, hp', rs'⟩ := g'.ok.loc hy (v := .ref p) ⟨p, rfl, hm'⟩
            cases ev'
            have hix : (if rev = true then xs.length - 1 - i else i) = (if rev = true then k else i) := by rw [show xs.length - 1 - i = k by omega]
            obtain ⟨vz, hv1, hv2⟩ := rs'.get hz
            obtain ⟨ρ1, k1, f⟩ := Option.bind_eq_some_iff.mp f
            obtain ⟨o1, h2, k2, f3⟩ := yl f
            refine .inr ⟨J1.go i W'.H vs vz hp' hlt (by rw [hix]; exact hv1), fun σ2 H2 => i + 1 <= xs.length /\ ∃ W2 ρ2, W2.H = H2 /\ Lf K W1 W2 /\ Good K W0 W2 ρ2 σ2 /\ yvE n rev y s (xs.length - (i + 1)) (i + 1) ρ2 W2.h = some (o, h'), fun σ2 H2 ⟨n1, n2⟩ => ⟨xs.length - (i + 1), by omega, rfl, n1, n2⟩, fun v H2 hy => ?_⟩
            obtain ⟨rfl, hx⟩ := J1.yld i W'.H vs v H2 hp' hlt hy
            rw [hix, hv1] at hx
            cases hx
            have ek : xs.length - (i + 1) = k := by omega
            refine b W0 W' ρ' ρ1 σ _ vz _ g' hv2 k1 fun σ2 g2 => ?_
            refine c W0 W' ρ1 σ2 _ o1 h2 g2 k2 ?_
            cases o1 with
            | nx ρ2 => exact fun W2 σ3 w2 l2 g3 => ⟨hlt, W2, ρ2, rfl, l.trans l2, g3, by rw [w2, ek]; exact f3⟩
            | ct ρ2 => exact fun W2 σ3 w2 l2 g3 => ⟨hlt, W2, ρ2, rfl, l.trans l2, g3, by rw [w2, ek]; exact f3⟩
            | bk ρ2 => cases f3; exact fun W2 σ3 w2 l2 g3 => q1 W2 σ3 w2 (l.trans l2) g3
            | rt x => cases f3; exact q1
          . cases f
        . cases f
      . have ei : i = xs.length := by omega
        subst ei
        rw [Nat.sub_self] at f
        unfold yvE at f
        split at f
        . rename_i ys hy
          obtain ⟨p', ev', hm2, hf', vs, hp', rs'⟩ := g'.ok.loc hy (v := .ref p) ⟨p, rfl, hm'⟩
          cases ev'
          split at f
          . rename_i hyl
            cases f
            exact .inl ⟨J1.stop W'.H vs hp' (by rw [rs'.len, hyl]), q1 W' σ rfl l g'⟩
          . cases f
        . cases f
theorem yFo {n m : Nat} {a : Addr} : ItX K n true m a (ItR K.K a m) where
 go := fun i H vs v h hi e => ⟨hi, vs, v, SqL.of h, e⟩
 yld := fun i H vs v H2 h _ e => ⟨e.1, e.2 vs (SqL.of h)⟩
 stop := fun H vs h e => rfl
theorem yxU {g : TG} {y : XG} (a : ycW K ta ea) (b : yAm K g y) (c : ykF K t s) : ykF K (yEE (yFV K.K ta) g t) (yxT true ea y s) := by
  intro W0 W ρ σ D o h' gd e q
  obtain ⟨x, h1, e1, f1⟩ := yl e
  refine a W0 W ρ σ _ x h1 gd e1 fun v W1 w1 l1 r1 => ?_
  subst w1
  split at f1
  . rename_i n
    split at f1
    . rename_i xs hn
      obtain ⟨p, ev, hm, hf, us, hp, rs⟩ := l1.ok.loc hn r1
      exact ⟨p, us, ev, SqL.of hp, yvF b c gd l1 q f1 hn hm rs yFo⟩
    . cases f1
  . cases f1
end
end PX
namespace PX
open PySem L2
variable {K : Ck}
def yFp (kvs more : List (Key × V)) : List (Key × V) := more.foldl (fun acc kv => putK acc kv.1 kv.2) kvs
def yFW : V -> List V -> Hp -> VK -> Prop := fun x vs H Q => ∃ d o kvs more, x = .ref d /\ vs = [.ref o] /\ d ≠ o /\ H d = some (.dK kvs) /\ H o = some (.dK more) /\ kvs.length + more.length <= sizeLine /\ Q .non (upd H d (.dK (yFp kvs more)))
def yxV : List Key -> List PV -> List Key -> List PV -> List Key × List PV
 | j :: js, y :: ys, ks, xs => yxV js ys (ydV ks xs j y).1 (ydV ks xs j y).2
 | _, _, ks, xs => (ks, xs)
def yAN : PV -> AH -> Bool := fun x h => (yoG x h).isSome
theorem yxW {W : Wd} {x : PV} {v : V} (w : WOk K W) (r : yek K W x v) (c : yAN x W.h = true) : tyV K.K "dict" v W.H := by
 obtain ⟨⟨ks, xs⟩, hd⟩ := Option.isSome_iff_exists.mp c
 exact yzb w hd r
theorem yvG {F : Hp} {m : List Addr} : ∀ {js : List Key} {ys : List PV} {us : List V} {ks : List Key} {xs : List PV} {vs : List V}, RepL K F m ys us -> us.length = js.length -> RepL K F m xs vs -> vs.length = ks.length ->
    ∃ ws, yFp (ks.zip vs) (js.zip us) = (yxV js ys ks xs).1.zip ws /\ ws.length = (yxV js ys ks xs).1.length /\ RepL K F m (yxV js ys ks xs).2 ws
  | [], ys, us, ks, xs, vs, r, hl, r2, hl2 => by
    obtain rfl : us = [] := List.length_eq_zero_iff.mp (by simpa using hl)
    cases ys with
    | cons y ys => obtain ⟨v, r', e, _⟩ := r; cases e
    | nil => exact ⟨vs, rfl, hl2, r2⟩
  | j :: js, [], us, ks, xs, vs, r, hl, r2, hl2 => by
    obtain rfl : us = [] := r
    cases hl
  | j :: js, y :: ys, _, ks, xs, vs, ⟨u, us, e, ru, rr⟩, hl, r2, hl2 => by
    subst e
    have key : ∃ ws, putK (ks.zip vs) j u = (ydV ks xs j y).1.zip ws /\ ws.length = (ydV ks xs j y).1.length /\ RepL K F m (ydV ks xs j y).2 ws := by
      have hput := ysV j u ks vs hl2
      unfold ydV
      by_cases hj : ynz ks j = true
      . rw [if_pos hj] at hput ⊢
        exact ⟨_, hput, by rw [yoH]; exact hl2, r2.setK ks j ru⟩
      . rw [if_neg hj] at hput ⊢
        exact ⟨_, hput, by rw [List.length_append, List.length_append, hl2]; rfl, r2.snoc ru⟩
    obtain ⟨ws, p1, p2, p3⟩ := key
    have ih := yvG (js := js) rr (by simpa using hl) p3 p2
    show ∃ ws, yFp (putK (ks.zip vs) j u) (js.zip us) = _ /\ _
    rw [p1]
    exact ih
def yFq : PM := fun x ys h => match x, ys with | .loc n, [.loc k] => (match h[n]?, h[k]? with | some (.dct ks xs), some (.dct js zs) => if n ≠ k /\ ks.length + js.length < 1000 then some (.non, h.set n (.dct (yxV js zs ks xs).1 (yxV js zs ks xs).2)) else none | _, _ => none) | _, _ => none
theorem yFr : yqh K "dict" yAN yFW yFq := by
  refine ⟨fun W x v w r c => yxW w r c, fun W x v xs vs Q z h' w rx r e q => ?_⟩
  unfold yFq at e
  split at e
  . rename_i n k
    split at e
    . rename_i ks xs js zs hn hk
      split at e
      . rename_i hc
        cases e
        obtain ⟨u, rfl, ru⟩ := yus r
        obtain ⟨a, ev, hm, hf, us, hp, hl, rs⟩ := w.loc hn rx
        obtain ⟨b, ev2, hm2, hf2, us2, hp2, hl2, rs2⟩ := w.loc hk ru
        have hne : a ≠ b := fun z => by
          subst z
          obtain ⟨l1, q1⟩ := List.getElem?_eq_some_iff.mp hm
          obtain ⟨l2, q2⟩ := List.getElem?_eq_some_iff.mp hm2
          exact hc.1 (ysS w.nd l1 l2 (q1.trans q2.symm))
        obtain ⟨ws, p1, p2, p3⟩ := yvG rs2 hl2 rs hl
        refine ⟨a, b, _, _, ev, by rw [ev2], hne, hp, hp2, by rw [List.length_zip, List.length_zip]; exact small (by omega), ?_⟩
        rw [p1]
        exact q .non (yAF W n a (.dK ((yxV js zs ks xs).1.zip ws)) (.dct (yxV js zs ks xs).1 (yxV js zs ks xs).2)) rfl (ykj w hn hm hf ⟨hf, _, yK, p2, p3⟩) rfl
      . cases e
    . cases e
  . cases e
end PX
namespace PX
open PySem L2
variable {K : Ck}
end PX
namespace PX
open PySem L2
variable {K : Ck}
def rSK : List V -> Hp -> VK -> Prop := fun xs H Q => ∃ (d : Addr) (kvs : List (Key × V)) (ns : List Int), xs = [.ref d] /\ H d = some (.dK kvs) /\ kvs.map (·.1) = ns.map .inl /\ kvs.length < 64 /\
  ∀ (p : Addr) (ms : List Int), ms.Perm ns -> ms.Pairwise (· <= ·) -> H p = none -> Q (.ref p) (upd H p (.lst (ms.map V.int)))
def insI (a : Int) : List Int -> List Int
 | [] => [a]
 | b :: r => if a <= b then a :: b :: r else b :: insI a r
def ylT : List Int -> List Int
 | [] => []
 | a :: r => insI a (ylT r)
theorem insI_perm (p : Int) : ∀ l, (insI p l).Perm (p :: l)
  | [] => .refl _
  | q :: r => by
    unfold insI
    split
    . exact .refl _
    . exact ((insI_perm p r).cons q).trans (.swap _ _ _)
theorem ykl : ∀ l, (ylT l).Perm l
 | [] => .refl _
 | p :: r => (insI_perm p _).trans ((ykl r).cons p)
theorem yvH {p : Int} : ∀ {l : List Int}, l.Pairwise (· <= ·) -> (insI p l).Pairwise (· <= ·)
  | [], _ => List.pairwise_singleton _ _
  | q :: r, h => by
    obtain ⟨h1, h2⟩ := List.pairwise_cons.mp h
    unfold insI
    split
    . rename_i hc
      exact List.pairwise_cons.mpr ⟨fun b hb => by
        rcases List.mem_cons.mp hb with rfl | hb
        . exact hc
        . exact Int.le_trans hc (h1 b hb), h⟩
    . rename_i hc
      refine List.pairwise_cons.mpr ⟨fun b hb => ?_, yvH h2⟩
      rcases List.mem_cons.mp ((insI_perm p r).mem_iff.mp hb) with rfl | hb
      . omega
      . exact h1 b hb
theorem yta : ∀ l, (ylT l).Pairwise (· <= ·)
  | [] => .nil
  | _ :: r => yvH (yta r)
theorem ytb {ms ns : List Int} (hp : ms.Perm ns) (hs : ms.Pairwise (· <= ·)) : ms = ylT ns :=
  List.Perm.eq_of_pairwise (le := (· <= ·)) (fun a b _ _ h1 h2 => Int.le_antisymm h1 h2) hs (yta _) (hp.trans (ykl _).symm)
def ynC : List PV -> AH -> Option (Nd × AH) := fun xs h => match xs with
 | [x] => (match yoG x h with | some (ks, _) => (match ytY ks with | some ns => if ns.length < 64 then some (.lst ((ylT ns).map .int), h) else none | none => none) | none => none)
 | _ => none
theorem yAO : ysK K rSK ynC := by
  intro W xs vs Q d h' w r e q
  unfold ynC at e
  split at e
  . rename_i x
    obtain ⟨u, rfl, ru⟩ := yus r
    split at e
    . rename_i ks ys hd
      split at e
      . rename_i ns hk
        split at e
        . rename_i h64
          cases e
          obtain ⟨a, us, ev, hp, hl, rs⟩ := ylM w hd ru
          subst ev
          have hk := yoS hk
          refine ⟨a, ks.zip us, ns, rfl, hp, by rw [List.map_fst_zip (by omega), hk], by rw [List.length_zip, hk, List.length_map]; omega, fun p ms h1 h2 hn => ?_⟩
          rw [ytb h1 h2]
          have l := ygU (o := .lst ((ylT ns).map V.int)) w hn
          exact q p (ysN W p _) rfl l (w.out hn) hn (fun z => by cases z) ⟨w.ff hn, _, yK, RepL.of_ints _⟩
        . cases e
      . cases e
    . cases e
  . cases e
end PX
namespace PX
open PySem L2
variable {K : Ck}
section
variable {ta : TE} {ea : XE} {t : TS} {s : XS}
end
end PX
namespace PX
open PySem L2
variable {K : Ck}
def spJ (K : Ck) (n k : Nat) (f : List PV -> AH -> Option (Nd × AH)) : Sp := fun vs H Q _ => ∃ (W0 W : Wd) (x : Addr) (args : List V) (xs : List PV) (d : Nd) (h' : AH), vs = .ref x :: args /\ W.H = H /\ Le K W0 W /\ W0.H x = none /\ x ∉ W.m /\ NdAt K W.F W.H W.m (.ins k [] []) x /\
 yfc K W xs args /\ xs.length = n /\ f xs W.h = some (d, h') /\ ∀ W', W'.h = h' -> Lf K W W' -> Le K W0 W' -> x ∉ W'.m -> d ≠ .dead -> NdAt K W'.F W'.H W'.m d x -> Q .non W'.H
theorem yAP {n k : Nat} {f} {vs : List V} {H : Hp} {Q : VK} {E : XK} (h : spJ K n k f vs H Q E) : vs.length = n + 1 := by
 obtain ⟨W0, W, x, args, xs, d, h', rfl, _, _, _, _, _, r, hn, _⟩ := h
 rw [List.length_cons, r.len, hn]
theorem yvI {N : List Str} {n k : Nat} {t : TS} {s : XS} {vs : List V} {H : Hp} {Q : VK} {E : XK} {bk ct : St -> Hp -> Prop} (hN : n + 1 <= N.length) (a : ywE K t s) (h : spJ K n k (ytT N.length k s) vs H Q E) : t ⟨fun _ H' => Q .non H', Q, bk, ct⟩ (L2.start N vs) H := by
  obtain ⟨W0, W, x, args, xs, d, h', rfl, rfl, le, hx, hm, at_, r, hn, e, q⟩ := h
  obtain ⟨o, h1, e1, f1⟩ := yl e
  have gs := ykh (K := K) (N := N.drop 1) le.ok r
  have g : Good K W0 W (.own (.ins k [] []) :: (xs.map .val ++ List.replicate (N.length - (xs.length + 1)) .no)) (L2.start N (.ref x :: args)) := by
    have es : L2.start N (.ref x :: args) = some (.ref x) :: L2.start (N.drop 1) args := by
      have e3 : N.length - (args.length + 1) = (N.drop 1).length - args.length := by rw [List.length_drop]; omega
      unfold L2.start
      rw [List.map_cons, List.cons_append, List.length_cons, e3]
    have eN : N.length - (xs.length + 1) = (N.drop 1).length - xs.length := by rw [List.length_drop]; omega
    rw [es, eN]
    have noown : ∀ (j : Nat) (d : Nd), (xs.map PVar.val ++ List.replicate ((N.drop 1).length - xs.length) .no)[j]? ≠ some (.own d) := fun j d z => by
      by_cases hj : j < xs.length
      . rw [List.getElem?_append_left (by simpa using hj), List.getElem?_map, List.getElem?_eq_getElem hj] at z
        cases z
      . rw [List.getElem?_append_right (by simp; omega), List.getElem?_replicate] at z
        split at z <;> cases z
    refine ⟨le, by rw [List.length_cons, List.length_cons, gs.len], fun j y z => ?_, fun j d z => ?_, fun i j d d' hij z z' => ?_⟩
    . cases j with
      | zero => cases z
      | succ j => exact gs.val j y z
    . cases j with
      | zero => cases z; exact ⟨x, rfl, hm, hx, (fun z => by cases z), at_⟩
      | succ j => exact absurd z (noown j d)
    . cases i with
      | zero =>
        cases j with
        | zero => exact absurd rfl hij
        | succ j => exact absurd z' (noown j d')
      | succ i => exact absurd z (noown i d)
  cases o with
  | rt y => cases f1
  | bk ρ => cases f1
  | ct ρ => cases f1
  | nx ρ =>
    refine a W0 W _ ρ _ _ h1 g e1 fun W' ew lf g' => ?_
    dsimp only at f1
    split at f1
    . rename_i d' hd'
      cases f1
      obtain ⟨p, b1, b2, b3, b4, b5⟩ := g'.own 0 _ hd'
      have b1 : some (some (V.ref x)) = some (some (V.ref p)) := b1
      cases b1
      exact q W' ew lf g'.le b2 b4 b5
    . cases f1
def yzc : PVar -> Bool | .own _ => false | _ => true
def xBI (k : Nat) (f : List PV -> AH -> Option (Nd × AH)) (a : XA) : XS := fun ρ h => match ρ with
 | .own (.ins k' [] []) :: r => if k' = k /\ r.all yzc = true then ob (a ρ h) fun xs h1 => ob (f xs h1) fun d h2 => (match d with | .dead => none | d => some (.nx (.own d :: r), h2)) else none
 | _ => none
theorem yAQ {n k : Nat} {f} {E : XK} {t : TA} {aa : XA} (a : yri K t aa) (hn : ∀ ρ h xs h', aa ρ h = some (xs, h') -> xs.length = n) : ywE K (ywP (ywU (spJ K n k f) [] E (yuM (yyz 0) t))) (xBI k f aa) := by
  intro W0 W ρ ρ' σ D h' g e q
  unfold xBI at e
  split at e
  . rename_i k' r
    split at e
    . rename_i c
      obtain ⟨rfl, hr⟩ := c
      obtain ⟨xs, h1, e1, f1⟩ := yl e
      obtain ⟨d, h2, e2, f2⟩ := yl f1
      have nodead : d ≠ .dead := fun z => by subst z; cases f2
      have f2 : some (Out.nx (.own d :: r), h2) = some (.nx ρ', h') := by
        cases d <;> first | exact f2 | cases f2
      cases f2
      obtain ⟨p, b1, b2, b3, b4, b5⟩ := g.own 0 _ rfl
      refine ⟨.ref p, b1, ?_⟩
      refine a W0 W _ σ _ xs h1 g e1 fun vs W1 w1 l1 r1 => ?_
      subst w1
      have g1 := g.step l1
      obtain ⟨p', c1, c2, c3, c4, c5⟩ := g1.own 0 _ rfl
      rw [b1] at c1
      cases c1
      rw [List.append_nil]
      refine ⟨W0, W1, p, vs, xs, d, h', rfl, rfl, g1.le, c3, c2, c5, r1, hn _ _ _ _ e1, e2, fun W2 w2 lf le hm hd at_ => ?_⟩
      refine q W2 w2 (l1.lf.trans lf) ⟨le, g1.len, fun j y z => ?_, fun j d' z => ?_, fun i j d1 d2 hij z1 z2 => ?_⟩
      . cases j with
        | zero => cases z
        | succ j =>
          obtain ⟨v, z1, z2⟩ := g1.val (j + 1) y z
          exact ⟨v, z1, lf.rep z2⟩
      . cases j with
        | zero => cases z; exact ⟨p, b1, hm, c3, hd, at_⟩
        | succ j =>
          have z : r[j]? = some (.own d') := z
          have := List.all_eq_true.mp hr _ (List.mem_of_getElem? z)
          cases this
      . cases i with
        | zero =>
          cases j with
          | zero => exact absurd rfl hij
          | succ j =>
            have z : r[j]? = some (.own d2) := z2
            have := List.all_eq_true.mp hr _ (List.mem_of_getElem? z)
            cases this
        | succ i =>
          have z : r[i]? = some (.own d1) := z1
          have := List.all_eq_true.mp hr _ (List.mem_of_getElem? z)
          cases this
    . cases e
  . cases e
theorem yGw {k : Nat} {f} {a : XA} {r : PSt} {h : AH} (hr : r.all yzc = true) : xBI k f a (.own (.ins k [] []) :: r) h = ob (a (.own (.ins k [] []) :: r) h) fun xs h1 => ob (f xs h1) fun d h2 => (match d with | .dead => none | d => some (.nx (.own d :: r), h2)) := by
 unfold xBI
 dsimp only
 rw [if_pos ⟨rfl, hr⟩]
theorem yxX {a : Addr} {ss : List Str} (h : KTp K.K a (ss.map V.str)) : ycW K (tC (.ref a)) (xC (.tup (ss.map PV.str))) := by
 intro W0 W ρ σ Q x h' g e q
 cases e
 refine q _ W rfl (.refl g.ok) ⟨a, _, rfl, .inr h, ?_⟩
 clear h q
 induction ss with
 | nil => exact rfl
 | cons s ss ih => exact ⟨_, _, rfl, rfl, ih⟩
end PX
namespace PX
open PySem L2
variable {K : Ck}
end PX
namespace PX
open PySem L2 PySem.Spec PyProof.Rows
section
variable (K : Ck)
def cE (x : XE) : TE := fun σ H Q => ∃ (W0 W : Wd) (ρ : PSt) (y : PV) (h' : AH), W.H = H /\ Good K W0 W ρ σ /\ x ρ W.h = some (y, h') /\ ∀ v W', W'.h = h' -> Le K W W' -> yek K W' y v -> Q v W'.H
def cO (x : XO) : TE := fun σ H Q => ∃ (W0 W : Wd) (ρ : PSt) (d : Nd) (h' : AH), W.H = H /\ Good K W0 W ρ σ /\ x ρ W.h = some (d, h') /\ ∀ p W', W'.h = h' -> Le K W W' -> p ∉ W'.m -> W.H p = none -> d ≠ .dead -> NdAt K W'.F W'.H W'.m d p -> Q (.ref p) W'.H
def cT (x : XT) : TT := fun σ H Q => ∃ (W0 W : Wd) (ρ : PSt) (y : Bool) (h' : AH), W.H = H /\ Good K W0 W ρ σ /\ x ρ W.h = some (y, h') /\ ∀ W', W'.h = h' -> Le K W W' -> Q y W'.H
def cA (x : XA) : TA := fun σ H Q => ∃ (W0 W : Wd) (ρ : PSt) (y : List PV) (h' : AH), W.H = H /\ Good K W0 W ρ σ /\ x ρ W.h = some (y, h') /\ ∀ v W', W'.h = h' -> Le K W W' -> yfc K W' y v -> Q v W'.H
def cP (x : PSt -> AH -> Option (Option Int × AH)) : TO := fun σ H Q => ∃ (W0 W : Wd) (ρ : PSt) (y : Option Int) (h' : AH), W.H = H /\ Good K W0 W ρ σ /\ x ρ W.h = some (y, h') /\ ∀ W', W'.h = h' -> Le K W W' -> Q y W'.H
def cI (x : XA) : TI := fun σ H R => ∃ (W0 W : Wd) (ρ : PSt) (y : List PV) (h' : AH), W.H = H /\ Good K W0 W ρ σ /\ x ρ W.h = some (y, h') /\ ∀ J W', W'.h = h' -> Le K W W' -> yEp K W' J y -> R J W'.H
def cG (y : XG) : TG := fun v σ H Q => ∃ (W0 W : Wd) (ρ ρ' : PSt) (x : PV), W.H = H /\ Good K W0 W ρ σ /\ yek K W x v /\ y x ρ = some ρ' /\ ∀ σ', Good K W0 W ρ' σ' -> Q σ' W.H
def cS (s : XS) : TS := fun D σ H => ∃ (W0 W : Wd) (ρ : PSt) (o : Out) (h' : AH), W.H = H /\ Good K W0 W ρ σ /\ s ρ W.h = some (o, h') /\ Ends.Ok K W0 W D h' o
def cF (s : XS) : TS := fun D σ H => ∃ (W0 W : Wd) (ρ ρ' : PSt) (h' : AH), W.H = H /\ Good K W0 W ρ σ /\ s ρ W.h = some (.nx ρ', h') /\ ∀ W', W'.h = h' -> Lf K W W' -> Good K W0 W' ρ' σ -> D.nx σ W'.H
end
section
variable {K : Ck}
theorem sE {x : XE} : ycW K (cE K x) x := fun W0 W ρ σ Q y h' g e q => ⟨W0, W, ρ, y, h', rfl, g, e, q⟩
theorem sO {x : XO} : ytL K (cO K x) x := fun W0 W ρ σ Q y h' g e q => ⟨W0, W, ρ, y, h', rfl, g, e, q⟩
theorem sT {x : XT} : yrF K (cT K x) x := fun W0 W ρ σ Q y h' g e q => ⟨W0, W, ρ, y, h', rfl, g, e, q⟩
theorem sA {x : XA} : yri K (cA K x) x := fun W0 W ρ σ Q y h' g e q => ⟨W0, W, ρ, y, h', rfl, g, e, q⟩
theorem sP {x} : yyQ K (cP K x) x := fun W0 W ρ σ Q y h' g e q => ⟨W0, W, ρ, y, h', rfl, g, e, q⟩
theorem sI {x : XA} : yAq K (cI K x) x := fun W0 W ρ σ Q y h' g e q => ⟨W0, W, ρ, y, h', rfl, g, e, q⟩
theorem sG {y : XG} : yAm K (cG K y) y := fun W0 W ρ ρ' σ x v Q g r e q => ⟨W0, W, ρ, ρ', x, rfl, g, r, e, q⟩
theorem sS {s : XS} : ykF K (cS K s) s := fun W0 W ρ σ D o h' g e q => ⟨W0, W, ρ, o, h', rfl, g, e, q⟩
theorem sF {s : XS} : ywE K (cF K s) s := fun W0 W ρ ρ' σ D h' g e q => ⟨W0, W, ρ, ρ', h', rfl, g, e, q⟩
end
abbrev ckX (X : Cx) (A : Nat -> Addr) : Ck := ⟨X.K, A⟩
structure ZE (X : Cx) (A : Nat -> Addr) (e : Expr) (x : XE) : Prop where of : PE X e (cE (ckX X A) x)
structure ZO (X : Cx) (A : Nat -> Addr) (e : Expr) (x : XO) : Prop where of : PE X e (cO (ckX X A) x)
structure ZT (X : Cx) (A : Nat -> Addr) (e : Expr) (x : XT) : Prop where of : PT X e (cT (ckX X A) x)
structure ZW (X : Cx) (A : Nat -> Addr) (e : Expr) (x : XT) : Prop where of : PW X e (cT (ckX X A) x)
structure ZA (X : Cx) (A : Nat -> Addr) (e : List Expr) (n : Nat) (x : XA) : Prop where
 of : PA X e (cA (ckX X A) x)
 len : ∀ ρ h xs h', x ρ h = some (xs, h') -> xs.length = n
structure ZP (X : Cx) (A : Nat -> Addr) (e : Option Expr) (x : PSt -> AH -> Option (Option Int × AH)) : Prop where of : PO X e (cP (ckX X A) x)
structure ZI (X : Cx) (A : Nat -> Addr) (tg e : Expr) (x : XA) : Prop where of : PI X tg e (cI (ckX X A) x)
structure ZG (X : Cx) (A : Nat -> Addr) (e : Expr) (y : XG) : Prop where of : PG X e (cG (ckX X A) y)
structure ZS (X : Cx) (A : Nat -> Addr) (e : Stmt) (s : XS) : Prop where of : PS X e (cS (ckX X A) s)
structure ZSs (X : Cx) (A : Nat -> Addr) (e : List Stmt) (s : XS) : Prop where of : PSs X e (cS (ckX X A) s)
structure ZF (X : Cx) (A : Nat -> Addr) (e : Stmt) (s : XS) : Prop where of : PS X e (cF (ckX X A) s)
structure ZFs (X : Cx) (A : Nat -> Addr) (e : List Stmt) (s : XS) : Prop where of : PSs X e (cF (ckX X A) s)
section
variable {X : Cx} {A : Nat -> Addr} {e : Expr} {es : List Expr}
theorem wE {t : TE} {x : XE} (p : PE X e t) (s : ycW (ckX X A) t x) : ZE X A e x := ⟨fun pins st σ H Q I ⟨W0, W, ρ, y, h', eh, g, ex, q⟩ => by subst eh; exact p pins st σ _ Q I (s W0 W ρ σ Q y h' g ex q)⟩
theorem wO {t : TE} {x : XO} (p : PE X e t) (s : ytL (ckX X A) t x) : ZO X A e x := ⟨fun pins st σ H Q I ⟨W0, W, ρ, y, h', eh, g, ex, q⟩ => by subst eh; exact p pins st σ _ Q I (s W0 W ρ σ Q y h' g ex q)⟩
theorem wT {t : TT} {x : XT} (p : PT X e t) (s : yrF (ckX X A) t x) : ZT X A e x := ⟨fun pins st σ H Q I ⟨W0, W, ρ, y, h', eh, g, ex, q⟩ => by subst eh; exact p pins st σ _ Q I (s W0 W ρ σ Q y h' g ex q)⟩
theorem wW {t : TT} {x : XT} (p : PW X e t) (s : yrF (ckX X A) t x) : ZW X A e x := ⟨fun wh pins st σ H Q I ⟨W0, W, ρ, y, h', eh, g, ex, q⟩ => by subst eh; exact p wh pins st σ _ Q I (s W0 W ρ σ Q y h' g ex q)⟩
theorem wA {t : TA} {x : XA} {n : Nat} (p : PA X es t) (s : yri (ckX X A) t x) (l : ∀ ρ h xs h', x ρ h = some (xs, h') -> xs.length = n) : ZA X A es n x := ⟨fun pos pins st σ H Q I ⟨W0, W, ρ, y, h', eh, g, ex, q⟩ => by subst eh; exact p pos pins st σ _ Q I (s W0 W ρ σ Q y h' g ex q), l⟩
theorem wP {o : Option Expr} {t : TO} {x} (p : PO X o t) (s : yyQ (ckX X A) t x) : ZP X A o x := ⟨fun pins st σ H Q I ⟨W0, W, ρ, y, h', eh, g, ex, q⟩ => by subst eh; exact p pins st σ _ Q I (s W0 W ρ σ Q y h' g ex q)⟩
theorem wI {tg : Expr} {t : TI} {x : XA} (p : PI X tg e t) (s : yAq (ckX X A) t x) : ZI X A tg e x := ⟨fun pins st σ H Q I ⟨W0, W, ρ, y, h', eh, g, ex, q⟩ => by subst eh; exact p pins st σ _ Q I (s W0 W ρ σ Q y h' g ex q)⟩
theorem wG {t : TG} {y : XG} (p : PG X e t) (s : yAm (ckX X A) t y) : ZG X A e y := ⟨fun pins st σ H v u Q I rv ⟨W0, W, ρ, ρ', x, eh, g, r, ex, q⟩ => by subst eh; exact p pins st σ _ v u Q I rv (s W0 W ρ ρ' σ x v Q g r ex q)⟩
theorem wS {st : Stmt} {t : TS} {x : XS} (p : PS X st t) (s : ykF (ckX X A) t x) : ZS X A st x := ⟨fun pins st σ H D I ⟨W0, W, ρ, o, h', eh, g, ex, q⟩ => by subst eh; exact p pins st σ _ D I (s W0 W ρ σ D o h' g ex q)⟩
theorem wSs {st : List Stmt} {t : TS} {x : XS} (p : PSs X st t) (s : ykF (ckX X A) t x) : ZSs X A st x := ⟨fun pins st σ H D I ⟨W0, W, ρ, o, h', eh, g, ex, q⟩ => by subst eh; exact p pins st σ _ D I (s W0 W ρ σ D o h' g ex q)⟩
theorem wF {st : Stmt} {t : TS} {x : XS} (p : PS X st t) (s : ywE (ckX X A) t x) : ZF X A st x := ⟨fun pins st σ H D I ⟨W0, W, ρ, ρ', h', eh, g, ex, q⟩ => by subst eh; exact p pins st σ _ D I (s W0 W ρ ρ' σ D h' g ex q)⟩
theorem wFs {st : List Stmt} {t : TS} {x : XS} (p : PSs X st t) (s : ywE (ckX X A) t x) : ZFs X A st x := ⟨fun pins st σ H D I ⟨W0, W, ρ, ρ', h', eh, g, ex, q⟩ => by subst eh; exact p pins st σ _ D I (s W0 W ρ ρ' σ D h' g ex q)⟩
end
structure Nm (x : Str) : Prop where
 d : (x == ("__debug__" : Str)) = false
 c : (x == ("__classdict__" : Str)) = false
 n : x ≠ "__name__"
section
variable {X : Cx} {A : Nat -> Addr} {a b c o : Expr} {es : List Expr} {xa xb xc : XE} {xo : XO} {aa : XA} {pos p apos : Pos} {x : Str} {n k : Nat}
theorem yDd {j} : ZE X A (.Constant .none j pos) (xC .non) := wE yBQ yzY
theorem yzd {b j} : ZE X A (.Constant (.bool b) j pos) (xC (.bl b)) := wE yEy yCy
theorem z_int {i j} : ZE X A (.Constant (.int i) j pos) (xC (.int i)) := wE yBP yuY
theorem z_str {x j} : ZE X A (.Constant (.str x) j pos) (xC (.str x)) := wE yBR yuZ
theorem yc {i : Nat} (m : Nm x) (hN : X.N[i]? = some x) (hv : Vis X.env.scope x) : ZE X A (.Name x pos) (yg i) := wE (ydg hN hv m.d m.c) (yzX i)
theorem yvJ {n : Int} {t : Tok} (m : Nm x) (hg : Gl X x) (hm : X.mg x = some (.int n t)) : ZE X A (.Name x pos) (xC (.int n)) := wE (yzU hg hm m.d) yuY
theorem yDe {n : Str} {t : Tok} (m : Nm x) (hg : Gl X x) (hm : X.mg x = some (.str n t)) : ZE X A (.Name x pos) (xC (.str n)) := wE (yzV hg hm m.d) yuZ
theorem yjD {k : Nat} (m : Nm x) (hg : Gl X x) (hm : X.mg x = some (.ref (A k))) : ZE X A (.Name x pos) (xC (.cls k)) := wE (yrv hg hm m.d) (yzZ (K := ckX X A))
theorem yqq {n : String} (m : Nm x) (hg : Gl X x) (hm : X.mg x = none) (hv : bootBuiltins x = some (.type n)) : ZE X A (.Name x pos) (xC (.ty n)) := wE (yCv hg hm hv m.n m.d) yCz
theorem yjE (h : ZO X A a xo) : ZE X A a (xFz xo) := wE h.of (yCE sO)
theorem yiv (h : ZO X A a xo) : ZE X A a (ymK xo) := wE h.of (yvb sO)
theorem yej {op : Operator} {r : R2} {q : P2} (ho : OpR X (binaryOp op) r) (hq : yfJ (ckX X A) r q) (ha : ZE X A a xa) (hb : ZE X A b xb) : ZE X A (.BinOp a op b pos) (xOp q xa xb) := wE (yCh ho ha.of hb.of) (ysL hq sE sE)
theorem yDf {op : Operator} {r : R2} {q : P2O} (ho : OpR X (binaryOp op) r) (hq : yuX (ckX X A) r q) (ha : ZE X A a xa) (hb : ZE X A b xb) : ZO X A (.BinOp a op b pos) (yCw q xa xb) := wO (yCh ho ha.of hb.of) (yAa hq sE sE)
theorem yFX {op : UnaryOp} {r} {q} (ho : UnR X (unaryOp op) r) (hq : yzW (ckX X A) r q) (ha : ZE X A a xa) : ZE X A (.UnaryOp op a pos) (xUn q xa) := wE (yEG ho ha.of) (yCA hq sE)
theorem yFs (ha : ZE X A a xa) : ZE X A (.UnaryOp .Not a pos) (yxc xa) := wE (yCa ha.of) (yxe sE)
theorem ytZ {op : CmpOp} {r : R2} {q : P2} (ho : OpR X (compareOp op) r) (hq : yfJ (ckX X A) r q) (ha : ZE X A a xa) (hb : ZE X A b xb) (hm : behindInMarks op b = false) : ZE X A (.Compare a [op] [b] pos) (xOp q xa xb) := wE (yzB ho ha.of hb.of hm) (ysL hq sE sE)
theorem yAR {op} (h : ZE X A a xa) : ZE X A (.BoolOp op [a] pos) xa := ⟨yBY h.of⟩
theorem yxY (ha : ZE X A a xa) (hb : ZE X A (.BoolOp .And (b :: es) pos) xb) : ZE X A (.BoolOp .And (a :: b :: es) pos) (yrG xa xb) := wE (yBZ ha.of hb.of) (yxd sE sE)
section
variable {ca cb : XT}
theorem yDg (hc : ZT X A c ca) (ha : ZE X A a xa) (hb : ZE X A b xb) : ZE X A (.IfExp c a b pos) (xIf ca xa xb) := wE (ywO hc.of ha.of hb.of) (yCD sT sE sE)
theorem ybY {op : CmpOp} {r : R2} {q : P2} (ho : OpR X (compareOp op) r) (hq : yfJ (ckX X A) r q) (ha : ZE X A a xa) (hb : ZE X A b xb) (hm : behindInMarks op b = false) : ZT X A (.Compare a [op] [b] pos) (ybi (xOp q xa xb)) := wT (yzC ho ha.of hb.of hm) (ylr (ysL hq sE sE))
theorem yqr (ha : ZT X A a ca) : ZT X A (.UnaryOp .Not a pos) (yyN ca) := wT (yBV ha.of) (yAc sT)
theorem yeE (h : ZE X A a xa) (he : ∀ whole, isTrue a X.env whole = (do let v <- whole; standAt a.pos; holding [v] (truthy v))) : ZT X A a (ybi xa) := wT (yBS h.of he) (yCB sE)
theorem yFY (h : ZW X A a ca) : ZT X A a ca := ⟨PW.pt h.of⟩
theorem yDh (ha : ZT X A a ca) (hb : ZW X A (.BoolOp .And (b :: es) pos) cb) : ZW X A (.BoolOp .And (a :: b :: es) pos) (yFd ca cb) := wW (yBU ha.of hb.of) (yAb sT sT)
theorem yDi (ha : ZT X A a ca) (hb : ZW X A (.BoolOp .Or (b :: es) pos) cb) : ZW X A (.BoolOp .Or (a :: b :: es) pos) (xOr ca cb) := wW (yEA ha.of hb.of) (yCC sT sT)
theorem yAS (ha : ZT X A a ca) : ZW X A (.BoolOp .And [a] pos) ca := ⟨yzw ha.of⟩
theorem yDj (ha : ZT X A a ca) : ZW X A (.BoolOp .Or [a] pos) ca := ⟨yBT ha.of⟩
end
theorem ye : ZA X A [] 0 yq := wA ypI ylG yrK
theorem ya (ha : ZE X A a xa) (hr : ZA X A es n aa) (hs : starEach (a :: es) X.env = (false, eval a X.env) :: starEach es X.env) : ZA X A (a :: es) (n + 1) (yd xa aa) := wA (yke ha.of hr.of hs) (ysM sE sA) (yxh hr.len)
theorem ygM (h : ZA X A es n aa) : ZO X A (.List es pos) (ylE aa) := wO (yCm h.of) (yAf sA)
theorem yhN {q} (h : ZA X A es n aa) : ZE X A (.Tuple es q pos) (ymM aa) := wE (yCl h.of) (yAe sA)
theorem yDk : ZP X A none ylF := wP yzM ytO
theorem yoT (h : ZE X A a xa) : ZP X A (some a) (yrH xa) := wP (yzN h.of) (yxi sE)
section
variable {lo hi : Option Expr} {xl xh : PSt -> AH -> Option (Option Int × AH)} {p2 : Pos}
theorem yGx {r} {q} (hr : SlR X r) (hq : yAh (ckX X A) r q) (ha : ZE X A a xa) (hl : ZP X A lo xl) (hh : ZP X A hi xh) : ZE X A (.Subscript a (.Slice lo hi none p2) pos) (xSl q xa xl xh) := wE (ysF hr ha.of hl.of hh.of) (yCF hq sE sP sP)
theorem yDl {r} {q} (hr : SlR X r) (hq : yvd (ckX X A) r q) (ha : ZE X A a xa) (hl : ZP X A lo xl) (hh : ZP X A hi xh) : ZO X A (.Subscript a (.Slice lo hi none p2) pos) (yCx q xa xl xh) := wO (ysF hr ha.of hl.of hh.of) (yAi hq sE sP sP)
end
theorem yep {r : R2} {q : P2} (hr : IxR X r) (hq : yfJ (ckX X A) r q) (ha : ZE X A a xa) (hb : ZE X A b xb) (hs : yuQ b) : ZE X A (.Subscript a b pos) (xOp q xa xb) := wE (yEK hr ha.of hb.of hs) (ysL hq sE sE)
theorem ybJ {cs : List Nat} {f : Str} (hc : ∀ k ∈ cs, Cls X.K (A k) /\ NoAttr X.K (A k) f) (ha : ZE X A a xa) (hb : attributeBase a f X.env (eval a X.env) = eval a X.env) : ZE X A (.Attribute a f pos) (yfm cs f xa) := wE (yCk ha.of hb) (yAy (K := ckX X A) hc sE)
section
variable {f C : Addr} {fd : FuncData} {ps : List Str} {lv : Nat} {fn : Fn}
theorem ydh (F : FnOk X.prog X.w X.K X.mg X.base CX0 lv f fd ps (spE (ckX X A) (n + 1) fn)) (hr : Room lv X.A) (m : Nm x) (hg : Gl X x) (hm : X.mg x = some (.ref f)) (hk : PySem.W.keepIn X.K (.ref f) = true) (hb : Binds X.K fd ps [])
    (ha : ZA X A (a :: es) (n + 1) aa) (he : starEach (a :: es) X.env = (false, eval a X.env) :: starEach es X.env) (hpl : (backTo pos (starEach es X.env)).any (·.1) = false) : ZE X A (.Call (.Name x p) (a :: es) [] pos) (yfd fn aa) :=
  wE (yzJ F hr hg hm hk hb .nil ytI ha.of m.d he hpl) (yxg sA ha.len)
theorem yqs {k : Nat} {fi} (M : Mk X.K (A k) f) (F : FnOk X.prog X.w X.K X.mg X.base CX0 lv f fd ps (spI (ckX X A) (n + 1) k fi)) (hr : Room (lv + 1) X.A) (m : Nm x) (hg : Gl X x) (hm : X.mg x = some (.ref (A k))) (hb : Binds X.K fd ps [])
    (ha : ZA X A (a :: es) (n + 1) aa) (he : starEach (a :: es) X.env = (false, eval a X.env) :: starEach es X.env) (hpl : (backTo pos (starEach es X.env)).any (·.1) = false) : ZO X A (.Call (.Name x p) (a :: es) [] pos) (ymP fi aa) :=
  wO (yzL M F hr hg hm hb .nil ytI ha.of m.d he hpl) (ysQ (K := ckX X A) (k := k) sA ha.len)
end
theorem yje {id : String} {r} {q} (hc : yjf X (.builtin id) r) (hq : ynX (ckX X A) r q) (m : Nm x) (hg : Gl X x) (hm : X.mg x = none) (hv : bootBuiltins x = some (.builtin id)) (ha : ZA X A (a :: es) n aa) (he : starEach (a :: es) X.env = (false, eval a X.env) :: starEach es X.env) (hpl : (backTo pos (starEach es X.env)).any (·.1) = false) : ZE X A (.Call (.Name x p) (a :: es) [] pos) (xCB q aa) :=
  wE (ynP hc hg hm hv ha.of m.n m.d he hpl) (yyO hq sA)
theorem yDm {T : String} {r} {q} (hc : yjf X (.type T) r) (hq : ynX (ckX X A) r q) (m : Nm x) (hg : Gl X x) (hm : X.mg x = none) (hv : bootBuiltins x = some (.type T)) (ha : ZA X A (a :: es) n aa) (he : starEach (a :: es) X.env = (false, eval a X.env) :: starEach es X.env) (hpl : (backTo pos (starEach es X.env)).any (·.1) = false) : ZE X A (.Call (.Name x p) (a :: es) [] pos) (xCB q aa) :=
  wE (ypN hc hg hm hv ha.of m.n m.d he hpl) (yyO hq sA)
theorem ykG {T : String} {r} {q} (hc : yjf X (.type T) r) (hq : ysK (ckX X A) r q) (m : Nm x) (hg : Gl X x) (hm : X.mg x = none) (hv : bootBuiltins x = some (.type T)) (ha : ZA X A (a :: es) n aa) (he : starEach (a :: es) X.env = (false, eval a X.env) :: starEach es X.env) (hpl : (backTo pos (starEach es X.env)).any (·.1) = false) : ZO X A (.Call (.Name x p) (a :: es) [] pos) (ysJ q aa) :=
  wO (ypN hc hg hm hv ha.of m.n m.d he hpl) (yvc hq sA)
section
variable {name : Str} {cpos : Pos} {T id : String} {r : V -> List V -> Hp -> VK -> Prop} {cc : PV -> AH -> Bool} {q : PM}
theorem ytc (pa : PlainAttrs T) (slot : Slot T name id) (hty : typeOf (.builtin id) = pure (.type "method_descriptor")) (hm : MtR X id r) (hq : yqh (ckX X A) T cc r q) (ho : ZE X A o xa) (ha : ZA X A (a :: es) n aa)
    (hbase : attributeBase o name X.env (eval o X.env) = eval o X.env)
    (hfew : ((backTo cpos (starEach (a :: es) X.env)).all (fun x => !x.1) && (backToKw cpos (keywordEach [] X.env)).all (fun x => x.1.isSome)
      && decide ((a :: es).length + ([] : List Keyword).length + (if ([] : List Keyword).isEmpty then 0 else 1) < 30)) = true)
    (hline : (apos.endLine == cpos.line) = true) (hs : starEach (a :: es) X.env = (false, eval a X.env) :: starEach es X.env) (hplain : (backTo cpos (starEach es X.env)).any (·.1) = false) :
    ZE X A (.Call (.Attribute o name apos) (a :: es) [] cpos) (xBM cc q xa aa) := wE (yCq pa slot hty hm ho.of ha.of hbase hfew hline hs hplain) (yyP (K := ckX X A) hq sE sA)
theorem yDn (pa : PlainAttrs T) (slot : Slot T name id) (hty : typeOf (.builtin id) = pure (.type "method_descriptor")) (hm : MtR X id r) (hq : yqh (ckX X A) T cc r q) (ho : ZE X A o xa)
  (hbase : attributeBase o name X.env (eval o X.env) = eval o X.env) (hline : (apos.endLine == cpos.line) = true) :
  ZE X A (.Call (.Attribute o name apos) [] [] cpos) (xBM cc q xa yq) := wE (yyJ pa slot hty hm ho.of hbase hline) (yAg (K := ckX X A) hq sE)
theorem yqt {i : Nat} (ho : PE X o (yyz i)) (ha : ZE X A a xa) 
    (hbase : attributeBase o "append" X.env (eval o X.env) = eval o X.env)
    (hfew : ((backTo cpos (starEach [a] X.env)).all (fun x => !x.1) && (backToKw cpos (keywordEach [] X.env)).all (fun x => x.1.isSome)
      && decide ([a].length + ([] : List Keyword).length + (if ([] : List Keyword).isEmpty then 0 else 1) < 30)) = true)
    (hline : (apos.endLine == cpos.line) = true) (hs : starEach [a] X.env = (false, eval a X.env) :: starEach [] X.env) (hplain : (backTo cpos (starEach [] X.env)).any (·.1) = false)
    (hsw : swapsWith (.Call (.Attribute o "append" apos) [a] [] cpos) none pos.line X.env = pure false) :
    ZS X A (.Expr (.Call (.Attribute o "append" apos) [a] [] cpos) pos) (ymN i xa) :=
  wS (yrn (yCq PySem.F.plainAttrs_list PySem.F.slot_list_append PySem.F.type_list_append yfI ho (yke ha.of ypI hs) hbase hfew hline hs hplain) hsw) (yxp (K := ckX X A) i sE)
end
section
variable {tg : Expr}
theorem ylU (h : ZE X A a xa) : ZI X A tg a (xIL xa) := wI (yzy h.of) (yvh (K := ckX X A) sE)
theorem yrV (hg : Gl X "range") (hm : X.mg "range" = none) (ha : ZA X A [a] n aa) (hs : starEach [a] X.env = [(false, eval a X.env)]) : ZI X A tg (.Call (.Name "range" p) [a] [] pos) (yAr aa) := wI (yuD hg hm ha.of hs) (yvi sA)
end
theorem yhO {i : Nat} (hN : X.N.Nodup) (hi : X.N[i]? = some x) (hx : Loc X.env.scope x) (hf : X.fn x = true \/ X.env.scope.names.lookup x = some .local) : ZG X A (.Name x pos) (ybh i) := wG (ynN hN hi hx hf) (ylH i)
theorem yDo {elt iter : Expr} {px : Pos} {scope : Scope} {cpos : Pos} {it : XA} {xe : XE} (ix : List Nat) (fr : List Str) (hc : X.calm = true) (hi : ZI X A (.Name x px) iter it) (hfr : FrOk X scope ix fr)
  (he : ∀ (cl : List (Str × Addr)) (C : Addr) (s₃ : Shared) (H₃ : Hp) (fp : List Addr) (pins : List (Addr × Obj)), ZE (cxC X scope cl C (x :: fr) s₃ H₃ fp pins) A elt xe)
  (hnd : (x :: fr).Nodup) (hkind : scope.kind = .function) (hcell : ∀ y ∈ scope.names, y.2 ≠ .cell)
  (hnames : ∀ y ∈ scope.names, y.2 = .local -> scope.names.lookup y.1 = some .local) (hfree0 : ∀ y ∈ scope.names, y.2 = .free -> y.1 ∈ fr) (hx : scope.names.lookup x = some .local)
  (hs : ∀ v, foldedSetIterable iter X.env v = pure v) : ZO X A (.ListComp elt [⟨.Name x px, iter, [], 0⟩] scope cpos) (ytP it ix xe) :=
 wO (yzS ix fr hc hi.of hfr (te := cE (ckX X A) xe) (fun cl C s₃ H₃ fp pins => (he cl C s₃ H₃ fp pins).of) hnd hkind hcell hnames hfree0 hx hs) (ysO (K := ckX X A) ix sI sE)
section
variable {st : Stmt} {rest : List Stmt} {s u : XS}
theorem yv (h : ZE X A a xa) : ZS X A (.Return (some a) pos) (ydf xa) := wS (yCc h.of) (yAk sE)
theorem ybZ (h : ZE X A a xa) (hs : swapsWith a none pos.line X.env = pure false) : ZS X A (.Expr a pos) (yeo xa) := wS (yrn h.of hs) (yxn sE)
theorem ybg {i : Nat} {pos' : Pos} (hN : X.N.Nodup) (hi : X.N[i]? = some x) (hx : Loc X.env.scope x) (h : ZE X A a xa) (hs : swapsWith a (some (.Name x pos')) pos.line X.env = pure false) (hf : X.fn x = true \/ X.env.scope.names.lookup x = some .local) : ZS X A (.Assign [.Name x pos'] a pos) (yfH xa (ybh i)) :=
 wS (yyB hN hi hx h.of hs hf) (yvf sE (ylH i))
theorem yvK {i : Nat} {pos' : Pos} (hN : X.N.Nodup) (hi : X.N[i]? = some x) (hx : Loc X.env.scope x) (h : ZO X A a xo) (hs : swapsWith a (some (.Name x pos')) pos.line X.env = pure false) (hf : X.fn x = true \/ X.env.scope.names.lookup x = some .local) : ZS X A (.Assign [.Name x pos'] a pos) (yve xo i) :=
 wS (yyB hN hi hx h.of hs hf) (yxo i sO)
theorem yfx {cs : List Nat} {f : Str} {pos' : Pos} {i : Nat} (hc : ∀ k ∈ cs, Cls X.K (A k) /\ NoAttr X.K (A k) f) (ho : PE X o (yyz i)) (h : ZE X A a xa) (hs : swapsWith a (some (.Attribute o f pos')) pos.line X.env = pure false) : ZF X A (.Assign [.Attribute o f pos'] a pos) (ygW cs i f xa) := wF (yyG ho h.of hs) (yxv (K := ckX X A) hc sE)
theorem yca {ca : XT} {l m : List Stmt} (hc : ZT X A c ca) (ha : ZSs X A l s) (hb : ZSs X A m u) : ZS X A (.If c l m pos) (yel ca s u) := wS (yEC hc.of ha.of hb.of) (yAl sT sS sS)
theorem ylV {tg iter : Expr} {it : XA} {y : XG} (hp : PassesOwn (model X.prog X.w) X.A X.env X.xe) (hc : X.calm = true) (hi : ZI X A tg iter it) (hg : ZG X A tg y) (hb : ZSs X A rest s) (hs : ∀ x, foldedSetIterable iter X.env x = pure x) : ZS X A (.For tg iter rest [] pos) (ywB it y s) := wS (yyC hp hc hi.of hg.of hb.of hs) (yAs sI sG sS)
theorem yG : ZSs X A [] ycy := wSs yzx yxm
theorem yh (h : ZS X A st s) : ZSs X A [st] s := ⟨yuA h.of⟩
theorem yf (h : ZS X A st s) (hr : ZSs X A rest u) : ZSs X A (st :: rest) (yM s u) := wSs (ysz h.of hr.of) (yAj sS sS)
theorem yvL (i : Nat) (h : ZSs X A rest s) : ZSs X A rest (yCG i s) := wSs h.of (yAn i sS)
theorem yiN (h : ZF X A st s) : ZFs X A [st] s := ⟨yuA h.of⟩
theorem yeR (h : ZF X A st s) (hr : ZFs X A rest u) : ZFs X A (st :: rest) (yM s u) := wFs (ysz h.of hr.of) (yxw sF sF)
end
end
section
variable {P : Program} {w : World} {K : PySem.W.Frag} {mg : Str -> Option Value} {base : Heap} {A : Nat -> Addr}
theorem zfn {x qual : Str} {st : Stmt} {f : Addr} {fd : FuncData} {N ps : List Str} {k : Nat} {s : XS} (F : Fun K x qual st f fd) (S : yo N ps (yb st))
  (h : ∀ (cdv : Value) (Ar : Around) (outer : List Env) (sh : Shared) (H : Hp) (E : XK), Room k (Ar.deeper (envOfC qual (yb st) sh.heap.objs.size f cdv)) -> ZSs (ywX CX0 P w K mg base N qual (yb st) f cdv Ar outer sh H E).nox A (yi st) s) :
  FnOk P w K mg base CX0 (k + 1) f fd ps (spE ⟨K, A⟩ ps.length (ygC N.length s)) :=
 F.ok S (fun _ _ _ _ h => yAt h) fun cdv Ar outer sh H vs Q E hr hq => ⟨_, (h cdv Ar outer sh H E hr).of, yxr (K := ⟨K, A⟩) sS hq⟩
theorem zin {x qual : Str} {st : Stmt} {f : Addr} {fd : FuncData} {N ps : List Str} {k kc n : Nat} {s : XS} (F : Fun K x qual st f fd) (S : yo N ps (yb st)) (hn : ps.length = n + 1) (hN : n + 1 <= N.length)
  (h : ∀ (cdv : Value) (Ar : Around) (outer : List Env) (sh : Shared) (H : Hp) (E : XK), Room k (Ar.deeper (envOfC qual (yb st) sh.heap.objs.size f cdv)) -> ZFs (ywX CX0 P w K mg base N qual (yb st) f cdv Ar outer sh H E).nox A (yi st) s) :
  FnOk P w K mg base CX0 (k + 1) f fd ps (spI ⟨K, A⟩ n kc (ytT N.length kc s)) :=
 F.ok S (fun _ _ _ _ h => (yAz h).trans hn.symm) fun cdv Ar outer sh H vs Q E hr hq => ⟨_, (h cdv Ar outer sh H E hr).of, yxx (K := ⟨K, A⟩) hN sF hq⟩
end
end PX
namespace PX
open PySem L2 PySem.Spec PyProof.Rows
section
variable {X : Cx} {A : Nat -> Addr} {a b c o i : Expr} {es : List Expr} {xa xb xc xd xk xv : XE} {xo : XO} {aa : XA} {pos p apos cpos pos' : Pos} {x : Str} {n k : Nat}
theorem yze (hu : X.A.units + 1 < cLine) (ho : ZE X A o xd) (hi : ZE X A i xk) (hs : yFm i) : ZE X A (.Subscript o i pos) (yrQ xd xk) := wE (yAD hu ho.of hi.of hs) (yxJ sE sE)
theorem yDp (hu : X.A.units + 1 < cLine) (hi : ZE X A i xk) (ho : ZE X A o xd) (hm : behindInMarks .In o = false) : ZT X A (.Compare i [.In] [o] pos) (ybi (yvx false xk xd)) := wT (yyA (yCT hu hi.of ho.of) hm) (ylr (yAG sE sE))
theorem yvM (hu : X.A.units + 1 < cLine) (hi : ZE X A i xk) (ho : ZE X A o xd) (hm : behindInMarks .NotIn o = false) : ZT X A (.Compare i [.NotIn] [o] pos) (ybi (yvx true xk xd)) := wT (yyA (yvs hu hi.of ho.of) hm) (ylr (ytW sE sE))
theorem yoU (hu : X.A.units + 1 < cLine) (ho : ZE X A o xd) (hi : ZE X A i xk) (hv : ZE X A a xv) (hs : swapsWith a (some (.Subscript o i pos')) pos.line X.env = pure false) : ZS X A (.Assign [.Subscript o i pos'] a pos) (yoI xd xk xv) := wS (yAE hu ho.of hi.of hv.of hs) (yxK sE sE sE)
theorem yqu : ZO X A (.Dict [] [] pos) yql := wO yxF yxL
theorem yAT (hu : X.A.units + 1 < cLine) (ho : ZE X A o xd) (hi : ZE X A i xk) (hb : ZE X A b xb) (m : M2 X o "get" apos i b cpos) : ZE X A (.Call (.Attribute o "get" apos) [i, b] [] cpos) (yqm xd xk xb) := wE (yxG hu ho.of hi.of hb.of m) (yvy sE sE sE)
theorem ylW (h : ZE X A a xv) (ho : ZE X A o xd) (hi : ZE X A i xk)
    (ha : ∀ v, assign (.Subscript o i pos') X.env v = (do
      let ov <- holding [v] (eval o X.env)
      let iv <- holding [v, ov] (eval i X.env)
      standAt pos'
      holding [v, ov, iv] (setItem ov iv v)
      release [v, ov, iv] []))
    (hs : swapsWithSole [.Subscript o i pos'] a pos.line X.env = pure false) (hw : swappedStores [.Subscript o i pos'] a X.env = pure none) (h1 : (assignEach [.Subscript o i pos'] X.env).map (·.2) = [assign (.Subscript o i pos') X.env]) :
    ZS X A (.Assign [.Subscript o i pos'] a pos) (ylL xd xk xv) := wS (yCe h.of (yCd ho.of hi.of set_list ha) hs hw h1) (yxI sE sE sE)
end
end PX
namespace PX
open PySem L2 PySem.Spec PyProof.Rows
theorem yDq : bootBuiltins "max" = some (.builtin "max") := by decide +kernel
theorem ylX : bootBuiltins "sorted" = some (.builtin "sorted") := by decide +kernel
theorem yrW : bootBuiltins "reversed" = some (.type "reversed") := by decide +kernel
section
variable {X : Cx} {A : Nat -> Addr} {a b c o : Expr} {es : List Expr} {xa xb xc : XE} {pos p apos cpos : Pos} {x : Str} {n k : Nat}
end
section
theorem yDr {a b c : Int} (hc : 0 < c) : Builtin.Range.rangeSize a b c = (szR a b c : Int) := by
  unfold Builtin.Range.rangeSize szR
  rw [if_pos hc]
  split
  . have := Int.ediv_nonneg (a := b - a - 1) (b := c) (by omega) (by omega)
    omega
  . rfl
theorem yxZ {a b c : Int} (h : 0 <= a /\ a < 1000000000 /\ 0 <= b /\ b < 1000000000 /\ 0 < c /\ c < 1000000) : Builtin.Range.small a b c = true := by
  obtain ⟨h1, h2, h3, h4, h5, h6⟩ := h
  unfold Builtin.Range.small
  have hs : Builtin.Range.rangeSize a b c <= 1000000000 /\ 0 <= Builtin.Range.rangeSize a b c := by
    unfold Builtin.Range.rangeSize
    rw [if_pos h5]
    split
    . have := Int.ediv_nonneg (a := b - a - 1) (b := c) (by omega) (by omega)
      have := Int.ediv_le_self c (show (0 : Int) <= b - a - 1 by omega)
      omega
    . omega
  simp only [Builtin.Range.rangeFitsLong, Bool.and_eq_true, Bool.or_eq_true, decide_eq_true_eq, beq_iff_eq, show c > 0 from h5, if_true]
  omega
theorem yrX {P : Program} {w : World} {K : PySem.W.Frag} {tg : Expr} (it : Addr) (lo st : Int) (n : Nat) : Turn P w K tg (yEu lo st n) [it] it (fun i h => IsRangeIter h it (lo + (i : Nat) * st) ((n : Int) - (i : Nat)) st) where
 mem := by simp
 obj := fun i h st b hb => by
  have e : b = it := by simpa using hb
  subst e
  exact ⟨_, st, fun v z => by
   have z' : Data.fields _ = Data.cell v := z
   cases z'⟩
 keep := fun i h h' st k => k it (by simp) _ st
 item := by
  intro X hP hw hK hc i pins s σ H E I hf st' hg
  subst hP hw hK
  obtain ⟨f0, f1, f2, f3, f4, f5⟩ := hf it (by simp)
  have W := Walks.range (prog := X.prog) (w := X.w) (I.ok.hd hc) it lo st n
  refine W.item i s _ _ hg st' fun v h' tk hv st'' kk => ?_
  obtain ⟨t, rfl⟩ := hv
  have I1 : Inv X pins σ H { s with heap := h', toks := tk } := I.turned (fun b o hb e => kk b o (by simpa using hb) e) f0 f1 f3 f4 f5
  exact ⟨_, rfl, ywQ (s := { s with heap := h', toks := tk }) (n := "range_iterator") st'' rfl rfl (by decide) ⟨.int (lo + i * st), H, I1, ⟨t, rfl⟩, ⟨rfl, rfl⟩, st'', fun b hb => (hf b hb).1⟩⟩
 done := by
  intro X hP hw hK hc i pins s σ H E I hf st hg
  subst hP hw hK
  obtain ⟨f0, f1, f2, f3, f4, f5⟩ := hf it (by simp)
  exact wpAny_pyNext_range_end (I.ok.hd hc) st (by have : n <= i := hg; omega) fun h' eb => ⟨rfl, I.turned (t' := s.toks) (fun b o hb e => eb b o hb e) f0 f1 f3 f4 f5⟩
 self := fun _ _ _ _ _ st h => wpAny_pyIter_rangeiter st h
variable {X : Cx} {A : Nat -> Addr} {tg a b c : Expr} {p pos : Pos} {aa : XA} {n : Nat}
theorem yvN {pins : List (Addr × Obj)} {σ : L2.St} {H : Hp} {s : Shared} {R : It -> Hp -> Prop} {E : Value -> Shared -> Prop} {lo hi st : Int} {t u v : Tok} {tk : Nat} (I : Inv X pins σ H s) (h : 0 <= lo /\ lo < 1000000000 /\ 0 <= hi /\ hi < 1000000000 /\ 0 < st /\ st < 1000000)
    (q : R (yEu lo st (szR lo hi st)) H) : wpAny (model X.prog X.w) X.A (pyIter (.ref s.heap.objs.size)) (PIE X pins σ tg R) E { s with heap := s.heap.push { cls := .type "range", data := .fields #[.int lo t, .int hi u, .int st v] }, toks := tk } := by
  refine wpAny_pyIter_range (IsRange.new ..) (yxZ h) ?_
  have I1 : Inv X pins σ H { s with heap := s.heap.push { cls := .type "range", data := .fields #[.int lo t, .int hi u, .int st v] }, toks := tk } := I.kept fun b o e => Heap.get?_push_of_some _ e
  refine ⟨(s.heap.push { cls := .type "range", data := .fields #[.int lo t, .int hi u, .int st v] }).objs.size, [(s.heap.push { cls := .type "range", data := .fields #[.int lo t, .int hi u, .int st v] }).objs.size], _, _, H, rfl,
    I1.kept (t' := tk) fun b o e => Heap.get?_push_of_some _ e, yrX _ lo st (szR lo hi st), ?_, fun b hb => ?_, q⟩
  . have e1 : lo + ((0 : Nat) : Int) * st = lo := by simp
    have e2 : ((szR lo hi st : Nat) : Int) - ((0 : Nat) : Int) = Builtin.Range.rangeSize lo hi st := by rw [yDr h.2.2.2.2.1]; omega
    show IsRangeIter _ _ (lo + ((0 : Nat) : Int) * st) (((szR lo hi st : Nat) : Int) - ((0 : Nat) : Int)) st
    rw [e1, e2]
    exact Heap.get?_push_size _ rfl
  . have e : b = (s.heap.push { cls := .type "range", data := .fields #[.int lo t, .int hi u, .int st v] }).objs.size := by simpa using hb
    subst e
    exact I1.fpOk (Nat.le_refl _) (I1.hok.fresh (Nat.le_refl _))
theorem yvO {ta : TA} (hg : Gl X "range") (hm : X.mg "range" = none) (ha : PA X [a, b, c] ta) (hs : starEach [a, b, c] X.env = [(false, eval a X.env), (false, eval b X.env), (false, eval c X.env)]) (hs2 : starEach [b, c] X.env = [(false, eval b X.env), (false, eval c X.env)]) :
  PI X tg (.Call (.Name "range" p) [a, b, c] [] pos) (yCY ta) := by
 intro pins s σ H R I h
 refine Call_ (ynp I hg hm boot_range (PyProof.Rows.callWith_type1 (thn (ha pos pins s σ H _ I h) fun us s1 ⟨vs, H1, I1, r1, q1⟩ => ?_) (by rw [hs, hs2]) (by rw [hs2]; rfl)))
 obtain ⟨i, j, k, e, hc, q⟩ := q1
 subst e
 cases r1 with
 | cons r rr =>
  cases rr with
  | cons r' rr =>
   cases rr with
   | cons r'' rr =>
    cases rr
    obtain ⟨t, rfl⟩ := r
    obtain ⟨t', rfl⟩ := r'
    obtain ⟨t'', rfl⟩ := r''
    exact call_range_3 (by omega) (yvN I1 hc q) (Or.inl (PyProof.noPylong_small (by omega)))
theorem yAU (hg : Gl X "range") (hm : X.mg "range" = none) (ha : ZA X A [a, b, c] n aa) (hs : starEach [a, b, c] X.env = [(false, eval a X.env), (false, eval b X.env), (false, eval c X.env)]) (hs2 : starEach [b, c] X.env = [(false, eval b X.env), (false, eval c X.env)]) : ZI X A tg (.Call (.Name "range" p) [a, b, c] [] pos) (yCZ aa) := wI (yvO hg hm ha.of hs hs2) (yvB sA)
end
section
theorem yfn {xs : List V} {its : List Value} (r : Vals xs its) {j : Nat} (hj : j < its.toArray.size) : ∃ x, xs[j]? = some x /\ RelV x its.toArray[j] := by
 have hl := r.length
 have j1 : j < its.length := by simpa using hj
 have x1 : xs[j]? = some xs[j] := List.getElem?_eq_getElem (by omega)
 obtain ⟨u1, q1, w1⟩ := r.get x1
 have g1 : its.toArray[j] = u1 := by
  have := List.getElem?_eq_getElem j1
  rw [q1] at this
  simpa using (Option.some.inj this).symm
 exact ⟨_, x1, by rw [g1]; exact w1⟩
variable {X : Cx}
theorem ytd {pins : List (Addr × Obj)} {σ : L2.St} {H : Hp} {s : Shared} (I : Inv X pins σ H s) {n : Nat} {x y : V} {b : Bool} (r : EqR X.K H n x y b) : ∀ {A : Around} {u v : Value}, RelV x u -> RelV y v -> A.units + n < cLine -> SeqAt.EqAt A s u v b := by
 induction r with
 | flat fx fy => exact fun rx ry _ => eqAt_V rx ry fx fy
 | same =>
  intro A u v rx ry _
  cases rx
  cases ry
  exact SeqAt.EqAt.same _
 | odd h =>
  obtain ⟨a, o, ob, h1, h2⟩ := h
  have := (I.bs a ob (I.ok.mod.kin a ob h2)).2
  rw [h1] at this
  cases this
 | nt hb =>
  intro A u v rx ry hu
  cases rx
  cases ry
  obtain ⟨i2, r2, p2, z2⟩ := I.tuple hb
  exact SeqAt.EqAt.none_tuple p2 (by omega)
 | tn hb =>
  intro A u v rx ry hu
  cases rx
  cases ry
  obtain ⟨i2, r2, p2, z2⟩ := I.tuple hb
  exact SeqAt.EqAt.tuple_none p2 (by omega)
 | @lst n a b xs ys e ha hb hl hne he ih =>
  intro A u v rx ry hu
  cases rx
  cases ry
  obtain ⟨i1, n1, r1, e1, z1⟩ := I.lst ha
  obtain ⟨i2, n2, r2, e2, z2⟩ := I.lst hb
  have l1 := r1.length
  have l2 := r2.length
  rw [show xs.length = i1.toArray.size by simp only [List.size_toArray]; omega]
  refine SeqAt.EqAt.of_refs hne (SeqAt.RcAt.lists ⟨_, e1, rfl, n1, rfl⟩ ⟨_, e2, rfl, n2, rfl⟩ (by simp only [List.size_toArray]; omega) (by omega) fun j j1 j2 => ?_)
  obtain ⟨x1, q1, w1⟩ := yfn r1 j1
  obtain ⟨y1, q2, w2⟩ := yfn r2 j2
  exact ih j x1 y1 q1 q2 w1 w2 (by show A.units + 1 + n < cLine; omega)
 | @lstN n a b xs ys ha hb hl =>
  intro A u v rx ry hu
  cases rx
  cases ry
  obtain ⟨i1, n1, r1, e1, z1⟩ := I.lst ha
  obtain ⟨i2, n2, r2, e2, z2⟩ := I.lst hb
  have l1 := r1.length
  have l2 := r2.length
  have hne : a ≠ b := fun z => by subst z; rw [ha] at hb; cases hb; exact hl rfl
  exact SeqAt.EqAt.of_refs hne (SeqAt.RcAt.lists_lengths ⟨_, e1, rfl, n1, rfl⟩ ⟨_, e2, rfl, n2, rfl⟩ (by simp only [List.size_toArray, bne_iff_ne]; omega) (by omega))
 | @tup n a b xs ys e ha hb hne he ih =>
  intro A u v rx ry hu
  cases rx
  cases ry
  obtain ⟨i1, r1, p1, z1⟩ := I.tuple ha
  obtain ⟨i2, r2, p2, z2⟩ := I.tuple hb
  have l1 := r1.length
  have l2 := r2.length
  rw [show xs.length = i1.toArray.size by simp only [List.size_toArray]; omega, show ys.length = i2.toArray.size by simp only [List.size_toArray]; omega]
  refine SeqAt.EqAt.of_refs hne (SeqAt.RcAt.tuples p1 p2 (by omega) fun j j1 j2 => ?_)
  obtain ⟨x1, q1, w1⟩ := yfn r1 j1
  obtain ⟨y1, q2, w2⟩ := yfn r2 j2
  exact ih j x1 y1 q1 q2 w1 w2 (by show A.units + 1 + n < cLine; omega)
theorem yte (hu : X.A.units + 60 < cLine) : OpR X (compareOp .Eq) (yFS X.K) := by
 intro pins s σ H x y v u Q I rx ry h
 obtain ⟨b, hb, q⟩ := h
 cases hb with
 | nt hb =>
  cases rx
  cases ry
  obtain ⟨i2, r2, p2, z2⟩ := I.tuple hb
  exact SeqAt.RcAt.none_tuple p2 (by omega) _ _ _ _ ⟨.bl _, H, I, rfl, q⟩
 | tn hb =>
  cases rx
  cases ry
  obtain ⟨i2, r2, p2, z2⟩ := I.tuple hb
  exact SeqAt.RcAt.tuple_none p2 (by omega) _ _ _ _ ⟨.bl _, H, I, rfl, q⟩
 | @lst a b xs ys e ha hb hl he =>
  cases rx
  cases ry
  obtain ⟨i1, n1, r1, e1, z1⟩ := I.lst ha
  obtain ⟨i2, n2, r2, e2, z2⟩ := I.lst hb
  have l1 := r1.length
  have l2 := r2.length
  rw [show xs.length = i1.toArray.size by simp only [List.size_toArray]; omega] at q
  refine SeqAt.RcAt.lists ⟨_, e1, rfl, n1, rfl⟩ ⟨_, e2, rfl, n2, rfl⟩ (by simp only [List.size_toArray]; omega) (by omega) (fun j j1 j2 => ?_) _ _ _ _ ⟨.bl _, H, I, rfl, q⟩
  obtain ⟨x1, q1, w1⟩ := yfn r1 j1
  obtain ⟨y1, q2, w2⟩ := yfn r2 j2
  exact ytd I (he j x1 y1 q1 q2) w1 w2 (by show X.A.units + 1 + 40 < cLine; omega)
 | @lstN a b xs ys ha hb hl =>
  cases rx
  cases ry
  obtain ⟨i1, n1, r1, e1, z1⟩ := I.lst ha
  obtain ⟨i2, n2, r2, e2, z2⟩ := I.lst hb
  have l1 := r1.length
  have l2 := r2.length
  exact SeqAt.RcAt.lists_lengths ⟨_, e1, rfl, n1, rfl⟩ ⟨_, e2, rfl, n2, rfl⟩ (by simp only [List.size_toArray, bne_iff_ne]; omega) (by omega) _ _ _ _ ⟨.bl _, H, I, rfl, q⟩
 | @tup a b xs ys e ha hb he =>
  cases rx
  cases ry
  obtain ⟨i1, r1, p1, z1⟩ := I.tuple ha
  obtain ⟨i2, r2, p2, z2⟩ := I.tuple hb
  have l1 := r1.length
  have l2 := r2.length
  rw [show xs.length = i1.toArray.size by simp only [List.size_toArray]; omega, show ys.length = i2.toArray.size by simp only [List.size_toArray]; omega] at q
  refine SeqAt.RcAt.tuples p1 p2 (by omega) (fun j j1 j2 => ?_) _ _ _ _ ⟨.bl _, H, I, rfl, q⟩
  obtain ⟨x1, q1, w1⟩ := yfn r1 j1
  obtain ⟨y1, q2, w2⟩ := yfn r2 j2
  exact ytd I (he j x1 y1 q1 q2) w1 w2 (by show X.A.units + 1 + 40 < cLine; omega)
theorem yzf (hu : X.A.units + 60 < cLine) : OpR X (compareOp .NotEq) (yFT X.K) := by
 intro pins s σ H x y v u Q I rx ry h
 obtain ⟨b, hb, q⟩ := h
 cases hb with
 | nt hb =>
  cases rx
  cases ry
  obtain ⟨i2, r2, p2, z2⟩ := I.tuple hb
  exact SeqAt.RcNeAt.none_tuple p2 (by omega) _ _ _ _ ⟨.bl _, H, I, rfl, q⟩
 | tn hb =>
  cases rx
  cases ry
  obtain ⟨i2, r2, p2, z2⟩ := I.tuple hb
  exact SeqAt.RcNeAt.tuple_none p2 (by omega) _ _ _ _ ⟨.bl _, H, I, rfl, q⟩
 | @lst a b xs ys e ha hb hl he =>
  cases rx
  cases ry
  obtain ⟨i1, n1, r1, e1, z1⟩ := I.lst ha
  obtain ⟨i2, n2, r2, e2, z2⟩ := I.lst hb
  have l1 := r1.length
  have l2 := r2.length
  rw [show xs.length = i1.toArray.size by simp only [List.size_toArray]; omega] at q
  refine SeqAt.RcNeAt.lists ⟨_, e1, rfl, n1, rfl⟩ ⟨_, e2, rfl, n2, rfl⟩ (by simp only [List.size_toArray]; omega) (by omega) (fun j j1 j2 => ?_) _ _ _ _ ⟨.bl _, H, I, rfl, q⟩
  obtain ⟨x1, q1, w1⟩ := yfn r1 j1
  obtain ⟨y1, q2, w2⟩ := yfn r2 j2
  exact ytd I (he j x1 y1 q1 q2) w1 w2 (by show X.A.units + 1 + 40 < cLine; omega)
 | @lstN a b xs ys ha hb hl =>
  cases rx
  cases ry
  obtain ⟨i1, n1, r1, e1, z1⟩ := I.lst ha
  obtain ⟨i2, n2, r2, e2, z2⟩ := I.lst hb
  have l1 := r1.length
  have l2 := r2.length
  exact SeqAt.RcNeAt.lists_lengths ⟨_, e1, rfl, n1, rfl⟩ ⟨_, e2, rfl, n2, rfl⟩ (by simp only [List.size_toArray, bne_iff_ne]; omega) (by omega) _ _ _ _ ⟨.bl _, H, I, rfl, q⟩
 | @tup a b xs ys e ha hb he =>
  cases rx
  cases ry
  obtain ⟨i1, r1, p1, z1⟩ := I.tuple ha
  obtain ⟨i2, r2, p2, z2⟩ := I.tuple hb
  have l1 := r1.length
  have l2 := r2.length
  rw [show xs.length = i1.toArray.size by simp only [List.size_toArray]; omega, show ys.length = i2.toArray.size by simp only [List.size_toArray]; omega] at q
  refine SeqAt.RcNeAt.tuples p1 p2 (by omega) (fun j j1 j2 => ?_) _ _ _ _ ⟨.bl _, H, I, rfl, q⟩
  obtain ⟨x1, q1, w1⟩ := yfn r1 j1
  obtain ⟨y1, q2, w2⟩ := yfn r2 j2
  exact ytd I (he j x1 y1 q1 q2) w1 w2 (by show X.A.units + 1 + 40 < cLine; omega)
theorem ynD {k : Nat} {A : Around} (r : Room k A) : A.units + 60 < cLine := by have := r.un; omega
end
end PX
namespace PX
open PySem L2 PySem.Spec PyProof.Rows
section
variable {X : Cx} {A : Nat -> Addr} {o e : Expr} {es : List Expr} {xa xb : XE} {aa : XA} {pos apos pos' : Pos} {m f : Str} {n k kc : Nat} {pl : Sem Bool} {p : Fn} {fa : Addr} {fd : FuncData} {ps : List Str}
theorem yE (ho : ZE X A o xa) (c : Cls X.K (A kc)) (hm : yjh X.K (A kc) m fa) (F : FnOk X.prog X.w X.K X.mg X.base CX0 k fa fd ps (spE (ckX X A) (n + 1) p)) (hr : Room k X.A) (hb : Binds X.K fd ps []) (ha : ZA X A (e :: es) n aa)
    (hst : starEach (e :: es) X.env = (false, eval e X.env) :: starEach es X.env) (hpl : (backTo pos (starEach es X.env)).any (·.1) = false)
    (ht : eval (.Call (.Attribute o m apos) (e :: es) [] pos) X.env = (do
      let ov <- eval o X.env
      standAt apos.atName
      let (f, first) <- holding [ov] (getMethod ov m pl)
      callWith pos f first (backTo pos (starEach (e :: es) X.env)) (backToKw pos (keywordEach [] X.env)))) :
    ZE X A (.Call (.Attribute o m apos) (e :: es) [] pos) (yC kc m p xa aa) := wE (yzK ho.of c hm F hr hb .nil ytI ha.of hst hpl ht) (yqo (K := ckX X A) sE sA ha.len)
theorem yin (ho : ZE X A o xa) (c : Cls X.K (A kc)) (hm : yjh X.K (A kc) m fa) (F : FnOk X.prog X.w X.K X.mg X.base CX0 k fa fd ps (spE (ckX X A) 1 p)) (hr : Room k X.A) (hb : Binds X.K fd ps [])
  (ht : eval (.Call (.Attribute o m apos) [] [] pos) X.env = (do
   let ov <- eval o X.env
   standAt apos.atName
   let (f, first) <- holding [ov] (getMethod ov m pl)
   callWith pos f first (backTo pos (starEach [] X.env)) (backToKw pos (keywordEach [] X.env)))) :
  ZE X A (.Call (.Attribute o m apos) [] [] pos) (yC kc m p xa yq) := wE (ywV ho.of c hm F hr hb .nil ytI ht) (yqo (K := ckX X A) (n := 0) sE ylG yrK)
theorem yAV {cs : List Nat} {value : Expr} (hc : ∀ k ∈ cs, Cls X.K (A k) /\ NoAttr X.K (A k) f) (ho : ZE X A o xa) (hv : ZE X A value xb) (hs : swapsWith value (some (.Attribute o f pos')) pos.line X.env = pure false) :
  ZS X A (.Assign [.Attribute o f pos'] value pos) (yAL cs f xa xb) := wS (yyG ho.of hv.of hs) (yxR (K := ckX X A) hc sE sE)
end
end PX
namespace KasS
open PySem PySem.W PyProof.Rows
def run {α : Type} (lt : Nat -> Nat -> Bool) : KasT α -> α
 | .ret a => a
 | .ask i j k => run lt (k (lt i j))
theorem yio {α β : Type} (lt : Nat -> Nat -> Bool) (f : α -> KasT β) : ∀ t : KasT α, run lt (t.bind f) = run lt (f (run lt t))
 | .ret _ => rfl
 | .ask i j k => yio lt f (k (lt i j))
section
variable (key : Nat -> Int)
def ltK (i j : Nat) : Bool := decide (key i < key j)
def Kp (p : Array Nat) (i : Nat) : Int := key (p[i]?.getD 0)
def Up (p : Array Nat) (k : Nat) : Prop := ∀ i j, i <= j -> j < k -> Kp key p i <= Kp key p j
def Dn (p : Array Nat) (k : Nat) : Prop := ∀ i j, i <= j -> j < k -> Kp key p j <= Kp key p i
variable {key}
theorem ylY (p : Array Nat) (i : Nat) : p.getD i 0 = p[i]?.getD 0 := by simp [Array.getD_eq_getD_getElem?]
theorem yvP (p : Array Nat) (i j : Nat) : ltK key (p.getD i 0) (p.getD j 0) = decide (Kp key p i < Kp key p j) := by rw [ylY, ylY]; rfl
theorem Up.succ {p : Array Nat} {n : Nat} (h : Up key p n) (h1 : 1 <= n) (hn : Kp key p (n - 1) <= Kp key p n) : Up key p (n + 1) := fun i j hij hj => by
  by_cases e : j = n
  . subst e
    by_cases e2 : i = j
    . subst e2; exact Int.le_refl _
    . exact Int.le_trans (h i (j - 1) (by omega) (by omega)) hn
  . exact h i j hij (by omega)
theorem Dn.succ {p : Array Nat} {n : Nat} (h : Dn key p n) (h1 : 1 <= n) (hn : Kp key p n <= Kp key p (n - 1)) : Dn key p (n + 1) := fun i j hij hj => by
  by_cases e : j = n
  . subst e
    by_cases e2 : i = j
    . subst e2; exact Int.le_refl _
    . exact Int.le_trans hn (h i (j - 1) (by omega) (by omega))
  . exact h i j hij (by omega)
theorem yvQ (p : Array Nat) : ∀ (f n : Nat), 1 <= n -> Up key p n -> n <= run (ltK key) (kas_asc p f n) /\ run (ltK key) (kas_asc p f n) <= n + f /\ Up key p (run (ltK key) (kas_asc p f n)) /\ (run (ltK key) (kas_asc p f n) < n + f -> Kp key p (run (ltK key) (kas_asc p f n)) < Kp key p (run (ltK key) (kas_asc p f n) - 1))
  | 0, n, _, h => ⟨Nat.le_refl _, Nat.le_refl _, h, fun z => by exact absurd z (Nat.lt_irrefl _)⟩
  | f + 1, n, h1, h => by
    have e : run (ltK key) (kas_asc p (f + 1) n) = run (ltK key) (if ltK key (p.getD n 0) (p.getD (n - 1) 0) = true then .ret n else kas_asc p f (n + 1)) := rfl
    rw [e, yvP]
    by_cases hc : Kp key p n < Kp key p (n - 1)
    . rw [decide_eq_true hc, if_pos rfl]
      exact ⟨Nat.le_refl _, by show n <= n + (f + 1); omega, h, fun _ => hc⟩
    . rw [decide_eq_false hc, if_neg (by simp)]
      obtain ⟨a, b, c, d⟩ := yvQ p f (n + 1) (by omega) (h.succ h1 (by omega))
      exact ⟨by omega, by omega, c, fun z => d (by omega)⟩
theorem yvR {p : Array Nat} {i j : Nat} (hj : j <= p.size) (k : Nat) : Kp key (kas_rev p i j) k = if i <= k /\ k < j then Kp key p (i + j - 1 - k) else Kp key p k := by
 unfold Kp kas_rev
 rw [getElem?_mirror_all hj]
 split <;> rfl
theorem yhb (p : Array Nat) (i j : Nat) : (kas_rev p i j).size = p.size := mirror_size _ _ _ _
theorem yfB (p : Array Nat) (i j : Nat) : (kas_rev p i j).Perm p := mirror_perm _ _ _ _
theorem ylZ {p : Array Nat} {i j : Nat} (hj : j <= p.size) (he : ∀ k, i <= k -> k < j -> Kp key p k = Kp key p (j - 1)) (k : Nat) : Kp key (kas_rev p i j) k = Kp key p k := by
  rw [yvR hj]
  split
  . rename_i h
    rw [he (i + j - 1 - k) (by omega) (by omega), he k h.1 h.2]
  . rfl
theorem yoV : ∀ (f : Nat) (p : Array Nat) (n q : Nat), n + f <= p.size -> q + 1 <= n -> Dn key p n -> (∀ k, n - (q + 1) <= k -> k < n -> Kp key p k = Kp key p (n - 1)) ->
    let r := run (ltK key) (kas_desc f p n q)
    r.1.Perm p /\ r.1.size = p.size /\ n <= r.2.1 /\ r.2.1 <= n + f /\ r.2.2 + 1 <= r.2.1 /\ Dn key r.1 r.2.1 /\ (∀ k, r.2.1 - (r.2.2 + 1) <= k -> k < r.2.1 -> Kp key r.1 k = Kp key r.1 (r.2.1 - 1))
  | 0, p, n, q, hs, hq, hd, he => ⟨Array.Perm.refl _, rfl, Nat.le_refl _, Nat.le_refl _, hq, hd, he⟩
  | f + 1, p, n, q, hs, hq, hd, he => by
    intro r
    have e : r = run (ltK key) (if ltK key (p.getD n 0) (p.getD (n - 1) 0) = true then (if q > 0 then kas_desc f (kas_rev p (n - (q + 1)) n) (n + 1) 0 else kas_desc f p (n + 1) 0)
      else .ask (p.getD (n - 1) 0) (p.getD n 0) fun d => if d = true then .ret (p, n, q) else kas_desc f p (n + 1) (q + 1)) := rfl
    rw [yvP] at e
    by_cases hc : Kp key p n < Kp key p (n - 1)
    . rw [decide_eq_true hc, if_pos rfl] at e
      by_cases h0 : q > 0
      . rw [if_pos h0] at e
        have kk : ∀ k, Kp key (kas_rev p (n - (q + 1)) n) k = Kp key p k := fun k => ylZ (by omega) he k
        have hd' : Dn key (kas_rev p (n - (q + 1)) n) (n + 1) := fun i j hij hj => by
          rw [kk, kk]
          exact hd.succ (by omega) (by omega) i j hij hj
        obtain ⟨a1, a2, a3, a4, a5, a6, a7⟩ := yoV f (kas_rev p (n - (q + 1)) n) (n + 1) 0 (by rw [yhb]; omega) (by omega) hd' (fun k h1 h2 => by rw [show k = n + 1 - 1 by omega])
        rw [e]
        exact ⟨a1.trans (yfB _ _ _), a2.trans (yhb _ _ _), by omega, by omega, a5, a6, a7⟩
      . rw [if_neg h0] at e
        obtain ⟨a1, a2, a3, a4, a5, a6, a7⟩ := yoV f p (n + 1) 0 (by omega) (by omega) (hd.succ (by omega) (by omega)) (fun k h1 h2 => by rw [show k = n + 1 - 1 by omega])
        rw [e]
        exact ⟨a1, a2, by omega, by omega, a5, a6, a7⟩
    . rw [decide_eq_false hc, if_neg (by simp)] at e
      have e : r = run (ltK key) (if ltK key (p.getD (n - 1) 0) (p.getD n 0) = true then .ret (p, n, q) else kas_desc f p (n + 1) (q + 1)) := e
      rw [yvP] at e
      by_cases hc2 : Kp key p (n - 1) < Kp key p n
      . rw [decide_eq_true hc2, if_pos rfl] at e
        rw [e]
        exact ⟨Array.Perm.refl _, rfl, Nat.le_refl _, by show n <= n + (f + 1); omega, hq, hd, he⟩
      . rw [decide_eq_false hc2, if_neg (by simp)] at e
        have heq : Kp key p n = Kp key p (n - 1) := by omega
        obtain ⟨a1, a2, a3, a4, a5, a6, a7⟩ := yoV f p (n + 1) (q + 1) (by omega) (by omega) (hd.succ (by omega) (by omega)) (fun k h1 h2 => by
          by_cases hk : k = n
          . rw [hk]; rfl
          . rw [he k (by omega) (by omega), show n + 1 - 1 = n by omega, heq])
        rw [e]
        exact ⟨a1, a2, by omega, by omega, a5, a6, a7⟩
theorem Dn.rev {p : Array Nat} {n : Nat} (hn : n <= p.size) (h : Dn key p n) : Up key (kas_rev p 0 n) n := fun i j hij hj => by
 rw [yvR hn, yvR hn, if_pos ⟨by omega, by omega⟩, if_pos ⟨by omega, by omega⟩]
 exact h _ _ (by omega) (by omega)
theorem ytf {p : Array Nat} {n nrem : Nat} (h1 : 1 <= n) (hn : n <= nrem) (hs : nrem <= p.size) (h : Dn key p n) :
  let r := run (ltK key) (kas_tail3 n nrem p)
  r.2.Perm p /\ r.2.size = p.size /\ 1 <= r.1 /\ r.1 <= nrem /\ Up key r.2 r.1 := by
 intro r
 have e : r = (run (ltK key) (kas_asc (kas_rev p 0 n) (nrem - n) n), kas_rev p 0 n) := by show run _ (KasT.bind _ _) = _; rw [yio]; rfl
 obtain ⟨a, b, c, _⟩ := yvQ (kas_rev p 0 n) (nrem - n) n h1 (h.rev (by omega))
 rw [e]
 exact ⟨yfB _ _ _, yhb _ _ _, by omega, by omega, c⟩
theorem yma {p : Array Nat} {n nrem : Nat} (h1 : 1 <= n) (hn : n < nrem) (hs : nrem <= p.size) (h : Dn key p (n + 1)) :
    let r := run (ltK key) (kas_descPart n nrem p)
    r.2.Perm p /\ r.2.size = p.size /\ 1 <= r.1 /\ r.1 <= nrem /\ Up key r.2 r.1 := by
  intro r
  obtain ⟨a1, a2, a3, a4, a5, a6, a7⟩ := yoV (key := key) (nrem - (n + 1)) p (n + 1) 0 (by omega) (by omega) h (fun k h1 h2 => by rw [show k = n + 1 - 1 by omega])
  generalize hd : run (ltK key) (kas_desc (nrem - (n + 1)) p (n + 1) 0) = d at *
  have e : r = run (ltK key) (if d.2.2 > 0 then kas_tail3 d.2.1 nrem (kas_rev d.1 (d.2.1 - (d.2.2 + 1)) d.2.1) else kas_tail3 d.2.1 nrem d.1) := by show run _ (KasT.bind _ _) = _; rw [yio, hd]
  by_cases h0 : d.2.2 > 0
  . rw [if_pos h0] at e
    have kk : ∀ k, Kp key (kas_rev d.1 (d.2.1 - (d.2.2 + 1)) d.2.1) k = Kp key d.1 k := fun k => ylZ (by omega) a7 k
    obtain ⟨b1, b2, b3, b4, b5⟩ := ytf (key := key) (p := kas_rev d.1 (d.2.1 - (d.2.2 + 1)) d.2.1) (n := d.2.1) (nrem := nrem) (by omega) (by omega) (by rw [yhb]; omega) (fun i j hij hj => by rw [kk, kk]; exact a6 i j hij hj)
    rw [e]
    exact ⟨b1.trans ((yfB _ _ _).trans a1), b2.trans ((yhb _ _ _).trans a2), b3, b4, b5⟩
  . rw [if_neg h0] at e
    obtain ⟨b1, b2, b3, b4, b5⟩ := ytf (key := key) (p := d.1) (n := d.2.1) (nrem := nrem) (by omega) (by omega) (by omega) a6
    rw [e]
    exact ⟨b1.trans a1, b2.trans a2, b3, b4, b5⟩
theorem ytg {p : Array Nat} {nrem : Nat} (h1 : 1 <= nrem) (hs : nrem <= p.size) :
    let r := run (ltK key) (kas_count nrem p)
    r.2.Perm p /\ r.2.size = p.size /\ 1 <= r.1 /\ r.1 <= nrem /\ Up key r.2 r.1 := by
  intro r
  obtain ⟨a, b, c, d⟩ := yvQ (key := key) p (nrem - 1) 1 (Nat.le_refl _) (fun i j hij hj => by rw [show i = j by omega]; exact Int.le_refl _)
  generalize hn : run (ltK key) (kas_asc p (nrem - 1) 1) = n at *
  have e : r = run (ltK key) (if (n == nrem) = true then .ret (n, p) else if n > 1 then .ask (p.getD 0 0) (p.getD (n - 1) 0) fun c => if c = true then .ret (n, p) else kas_descPart n nrem (kas_rev p 0 n)
    else kas_descPart n nrem p) := by show run _ (KasT.bind _ _) = _; rw [yio, hn]
  by_cases e1 : n = nrem
  . rw [if_pos (by simp [e1])] at e
    rw [e]
    exact ⟨Array.Perm.refl _, rfl, a, by show n <= nrem; omega, c⟩
  . rw [if_neg (by simp [e1])] at e
    have dn := d (by omega)
    by_cases h2 : n > 1
    . rw [if_pos h2] at e
      have e : r = run (ltK key) (if ltK key (p.getD 0 0) (p.getD (n - 1) 0) = true then .ret (n, p) else kas_descPart n nrem (kas_rev p 0 n)) := e
      rw [yvP] at e
      by_cases hc : Kp key p 0 < Kp key p (n - 1)
      . rw [decide_eq_true hc, if_pos rfl] at e
        rw [e]
        exact ⟨Array.Perm.refl _, rfl, a, by show n <= nrem; omega, c⟩
      . rw [decide_eq_false hc, if_neg (by simp)] at e
        have eqs : ∀ k, 0 <= k -> k < n -> Kp key p k = Kp key p (n - 1) := fun k _ hk => by
          have u1 := c 0 k (by omega) hk
          have u2 := c k (n - 1) (by omega) (by omega)
          omega
        have kk : ∀ k, Kp key (kas_rev p 0 n) k = Kp key p k := fun k => ylZ (by omega) eqs k
        have hdn : Dn key (kas_rev p 0 n) (n + 1) := fun i j hij hj => by
          rw [kk, kk]
          by_cases ej : j = n
          . subst ej
            by_cases ei : i = j
            . rw [ei]; exact Int.le_refl _
            . rw [eqs i (by omega) (by omega)]; omega
          . rw [eqs i (by omega) (by omega), eqs j (by omega) (by omega)]; exact Int.le_refl _
        obtain ⟨b1, b2, b3, b4, b5⟩ := yma (key := key) (p := kas_rev p 0 n) (n := n) (nrem := nrem) a (by omega) (by rw [yhb]; omega) hdn
        rw [e]
        exact ⟨b1.trans (yfB _ _ _), b2.trans (yhb _ _ _), b3, b4, b5⟩
    . rw [if_neg h2] at e
      have hn1 : n = 1 := by omega
      subst hn1
      obtain ⟨b1, b2, b3, b4, b5⟩ := yma (key := key) (p := p) (n := 1) (nrem := nrem) (by omega) (by omega) hs (fun i j hij hj => by
        by_cases e3 : i = j
        . rw [e3]; exact Int.le_refl _
        . rw [show i = 0 by omega, show j = 1 by omega]
          exact Int.le_of_lt dn)
      rw [e]
      exact ⟨b1, b2, b3, b4, b5⟩
theorem yoW {p : Array Nat} {k : Nat} (hu : Up key p k) : ∀ (f l r : Nat), r <= k -> l <= r -> r - l <= f -> (∀ i, i < l -> Kp key p i <= Kp key p k) -> (∀ i, r <= i -> i < k -> Kp key p k < Kp key p i) ->
    let m := run (ltK key) (kas_place p k f l r)
    m <= k /\ (∀ i, i < m -> Kp key p i <= Kp key p k) /\ (∀ i, m <= i -> i < k -> Kp key p k < Kp key p i)
  | 0, l, r, hr, hl, hf, h1, h2 => by
    have : l = r := by omega
    subst this
    exact ⟨hr, h1, h2⟩
  | f + 1, l, r, hr, hl, hf, h1, h2 => by
    intro m
    have e : m = run (ltK key) (if l >= r then .ret l else .ask (p.getD k 0) (p.getD ((l + r) / 2) 0) fun c => if c = true then kas_place p k f l ((l + r) / 2) else kas_place p k f ((l + r) / 2 + 1) r) := rfl
    by_cases hlr : l >= r
    . rw [if_pos hlr] at e
      have : l = r := by omega
      subst this
      rw [e]
      exact ⟨hr, h1, h2⟩
    . rw [if_neg hlr] at e
      have e : m = run (ltK key) (if ltK key (p.getD k 0) (p.getD ((l + r) / 2) 0) = true then kas_place p k f l ((l + r) / 2) else kas_place p k f ((l + r) / 2 + 1) r) := e
      rw [yvP] at e
      by_cases hc : Kp key p k < Kp key p ((l + r) / 2)
      . rw [decide_eq_true hc, if_pos rfl] at e
        rw [e]
        exact yoW hu f l ((l + r) / 2) (by omega) (by omega) (by omega) h1 (fun i h3 h4 => by have := hu ((l + r) / 2) i h3 h4; omega)
      . rw [decide_eq_false hc, if_neg (by simp)] at e
        rw [e]
        exact yoW hu f ((l + r) / 2 + 1) r hr (by omega) (by omega) (fun i h3 => by have := hu i ((l + r) / 2) (by omega) (by omega); omega) h2
theorem yvS {p : Array Nat} {src d : Nat} (hs : src < p.size) (hd : d <= src) (k : Nat) : Kp key (bubble p src d) k = if k = src - d then Kp key p src else if src - d < k /\ k <= src then Kp key p (k - 1) else Kp key p k := by
 unfold Kp
 rw [getElem?_bubble hs d hd]
 repeat' split
 all_goals rfl
theorem yzg : ∀ (f : Nat) (p : Array Nat) (k : Nat), k + f <= p.size -> Up key p k -> (run (ltK key) (kas_bin f p k)).Perm p /\ Up key (run (ltK key) (kas_bin f p k)) (k + f)
  | 0, p, k, _, h => ⟨Array.Perm.refl _, h⟩
  | f + 1, p, k, hs, h => by
    obtain ⟨a1, a2, a3⟩ := yoW (key := key) h k 0 k (Nat.le_refl _) (by omega) (by omega) (fun i hi => by omega) (fun i h1 h2 => by omega)
    generalize hl : run (ltK key) (kas_place p k k 0 k) = l at *
    have e : run (ltK key) (kas_bin (f + 1) p k) = run (ltK key) (kas_bin f (bubble p k (k - l)) (k + 1)) := by show run _ (KasT.bind _ _) = _; rw [yio, hl]
    have hk : ∀ i, Kp key (bubble p k (k - l)) i = if i = l then Kp key p k else if l < i /\ i <= k then Kp key p (i - 1) else Kp key p i := fun i => by
      rw [yvS (by omega) (by omega), show k - (k - l) = l by omega]
    have hu : Up key (bubble p k (k - l)) (k + 1) := fun i j hij hj => by
      rw [hk, hk]
      by_cases i1 : i = l
      . rw [if_pos i1]
        by_cases j1 : j = l
        . rw [if_pos j1]; exact Int.le_refl _
        . rw [if_neg j1, if_pos ⟨by omega, by omega⟩]
          have := a3 (j - 1) (by omega) (by omega); omega
      . rw [if_neg i1]
        by_cases i2 : l < i /\ i <= k
        . rw [if_pos i2, if_neg (by omega), if_pos ⟨by omega, by omega⟩]
          exact h _ _ (by omega) (by omega)
        . rw [if_neg i2]
          have il : i < l := by omega
          by_cases j1 : j = l
          . rw [if_pos j1]; exact a2 i il
          . rw [if_neg j1]
            split
            . exact h _ _ (by omega) (by omega)
            . exact h _ _ (by omega) (by omega)
    obtain ⟨b1, b2⟩ := yzg f (bubble p k (k - l)) (k + 1) (by rw [bubble_size]; omega) hu
    rw [e]
    exact ⟨b1.trans (bubble_perm _ _ _), by rw [show k + (f + 1) = k + 1 + f by omega]; exact b2⟩
theorem yvT {n : Nat} (h1 : 1 <= n) : (run (ltK key) (kas_sort n)).Perm (List.toArray (List.range n)) /\ Up key (run (ltK key) (kas_sort n)) n := by
  have hs : (List.toArray (List.range n)).size = n := by simp
  obtain ⟨a1, a2, a3, a4, a5⟩ := ytg (key := key) (p := List.toArray (List.range n)) (nrem := n) h1 (by omega)
  generalize hr : run (ltK key) (kas_count n (List.toArray (List.range n))) = r at *
  have e : run (ltK key) (kas_sort n) = run (ltK key) (if r.1 < n then kas_bin (n - max r.1 1) r.2 (max r.1 1) else .ret r.2) := by show run _ (KasT.bind _ _) = _; rw [yio, hr]
  by_cases h : r.1 < n
  . rw [if_pos h] at e
    obtain ⟨b1, b2⟩ := yzg (key := key) (n - max r.1 1) r.2 (max r.1 1) (by omega) (by rw [Nat.max_eq_left a3]; exact a5)
    rw [e]
    exact ⟨b1.trans a1, by rw [show max r.1 1 + (n - max r.1 1) = n by omega] at b2; exact b2⟩
  . rw [if_neg h] at e
    rw [e]
    exact ⟨a1, by rw [show n = r.1 by omega]; exact a5⟩
def AskIn {α : Type} (P : Nat -> Prop) (lt : Nat -> Nat -> Bool) : KasT α -> Prop
 | .ret _ => True
 | .ask i j k => P i /\ P j /\ AskIn P lt (k (lt i j))
theorem AskIn.bind {α β : Type} {P : Nat -> Prop} {lt : Nat -> Nat -> Bool} {f : α -> KasT β} : ∀ {t : KasT α}, AskIn P lt t -> AskIn P lt (f (run lt t)) -> AskIn P lt (t.bind f)
 | .ret _, _, h => h
 | .ask _ _ _, ⟨a, b, c⟩, h => ⟨a, b, AskIn.bind c h⟩
theorem yDs {α : Type} {P : Nat -> Prop} {lt : Nat -> Nat -> Bool} {cmp : Nat -> Nat -> (Bool -> Shared -> Prop) -> Shared -> Prop} {s : Shared} (hc : ∀ i j C, P i -> P j -> C (lt i j) s -> cmp i j C s) {Q : α -> Shared -> Prop} :
  ∀ (t : KasT α), AskIn P lt t -> Q (run lt t) s -> t.kasWp cmp Q s
 | .ret _, _, h => h
 | .ask i j k, ⟨a, b, c⟩, h => hc i j _ a b (yDs hc (k (lt i j)) c h)
section
variable {P : Nat -> Prop} {lt : Nat -> Nat -> Bool}
def All (P : Nat -> Prop) (p : Array Nat) : Prop := ∀ i, P (p.getD i 0)
theorem All.of_perm {p q : Array Nat} (h0 : P 0) (h : All P p) (e : q.Perm p) : All P q := fun i => by
  rw [ylY]
  by_cases hi : i < q.size
  . rw [Array.getElem?_eq_getElem hi]
    show P q[i]
    have hm : q[i] ∈ p := (e.mem_iff).mp (Array.getElem_mem hi)
    obtain ⟨j, hj, e2⟩ := Array.getElem_of_mem hm
    have := h j
    rw [ylY, Array.getElem?_eq_getElem hj] at this
    rw [<- e2]; exact this
  . rw [Array.getElem?_eq_none (by omega)]; exact h0
theorem yvU {p : Array Nat} (h : All P p) : ∀ (f n : Nat), AskIn P lt (kas_asc p f n)
 | 0, _ => trivial
 | f + 1, n => ⟨h _, h _, by show AskIn P lt (if _ then _ else _); split; trivial; exact yvU h f (n + 1)⟩
theorem yoX (h0 : P 0) : ∀ (f : Nat) (p : Array Nat) (n q : Nat), All P p -> AskIn P lt (kas_desc f p n q)
  | 0, _, _, _, _ => trivial
  | f + 1, p, n, q, h => by
    refine ⟨h _, h _, ?_⟩
    show AskIn P lt (if _ then _ else _)
    split
    . split
      . exact yoX h0 f _ _ _ (h.of_perm h0 (yfB _ _ _))
      . exact yoX h0 f _ _ _ h
    . refine ⟨h _, h _, ?_⟩
      show AskIn P lt (if _ then _ else _)
      split
      . trivial
      . exact yoX h0 f _ _ _ h
theorem yjF : ∀ (f : Nat) (p : Array Nat) (n q : Nat), (run lt (kas_desc f p n q)).1.Perm p
  | 0, _, _, _ => Array.Perm.refl _
  | f + 1, p, n, q => by
    show (run lt (if lt (p.getD n 0) (p.getD (n - 1) 0) = true then (if q > 0 then kas_desc f (kas_rev p (n - (q + 1)) n) (n + 1) 0 else kas_desc f p (n + 1) 0)
      else .ask (p.getD (n - 1) 0) (p.getD n 0) fun d => if d = true then .ret (p, n, q) else kas_desc f p (n + 1) (q + 1))).1.Perm p
    split
    . split
      . exact (yjF f _ _ _).trans (yfB _ _ _)
      . exact yjF f _ _ _
    . show (run lt (if lt (p.getD (n - 1) 0) (p.getD n 0) = true then .ret (p, n, q) else kas_desc f p (n + 1) (q + 1))).1.Perm p
      split
      . exact Array.Perm.refl _
      . exact yjF f _ _ _
theorem yth (h0 : P 0) {p : Array Nat} (h : All P p) (n nrem : Nat) : AskIn P lt (kas_tail3 n nrem p) := AskIn.bind (yvU (h.of_perm h0 (yfB _ _ _)) _ _) trivial
theorem ymb (h0 : P 0) {p : Array Nat} (h : All P p) (n nrem : Nat) : AskIn P lt (kas_descPart n nrem p) := by
  refine AskIn.bind (yoX h0 _ _ _ _ h) ?_
  have := h.of_perm h0 (yjF (lt := lt) (nrem - (n + 1)) p (n + 1) 0)
  split
  . exact yth h0 (this.of_perm h0 (yfB _ _ _)) _ _
  . exact yth h0 this _ _
theorem yya (h0 : P 0) {p : Array Nat} (h : All P p) (nrem : Nat) : AskIn P lt (kas_count nrem p) := by
  refine AskIn.bind (yvU h _ _) ?_
  split
  . trivial
  . split
    . refine ⟨h _, h _, ?_⟩
      show AskIn P lt (if _ then _ else _)
      split
      . trivial
      . exact ymb h0 (h.of_perm h0 (yfB _ _ _)) _ _
    . exact ymb h0 h _ _
theorem yoY {p : Array Nat} (h : All P p) (k : Nat) : ∀ (f l r : Nat), AskIn P lt (kas_place p k f l r)
  | 0, _, _ => trivial
  | f + 1, l, r => by
    show AskIn P lt (if _ then _ else _)
    split
    . trivial
    . refine ⟨h _, h _, ?_⟩
      show AskIn P lt (if _ then _ else _)
      split
      . exact yoY h k f _ _
      . exact yoY h k f _ _
theorem yzh (h0 : P 0) : ∀ (f : Nat) (p : Array Nat) (k : Nat), All P p -> AskIn P lt (kas_bin f p k)
 | 0, _, _, _ => trivial
 | f + 1, p, k, h => AskIn.bind (yoY h k _ _ _) (yzh h0 f _ _ (h.of_perm h0 (bubble_perm _ _ _)))
end
theorem yAW {n : Nat} (h1 : 1 <= n) : AskIn (· < n) (ltK key) (kas_sort n) := by
  have h : All (· < n) (List.toArray (List.range n)) := fun i => by
    rw [ylY]
    by_cases hi : i < n
    . simp [hi]
    . simp [hi]; omega
  refine AskIn.bind (yya (by omega) h n) ?_
  obtain ⟨a1, _⟩ := ytg (key := key) (p := List.toArray (List.range n)) (nrem := n) h1 (by simp)
  split
  . exact yzh (by omega) _ _ _ (h.of_perm (by omega) a1)
  . trivial
end
end KasS
namespace KasS
open PySem PySem.W PyProof.Rows PySem.Calls
def Tps (h : Heap) : List Value -> List (Int × Tok × Value) -> Prop
 | [], [] => True
 | v :: vs, p :: ps => (∃ b o m, v = .ref b /\ h.get? b = some o /\ o.cls = .type "tuple" /\ o.data = .seq #[.int p.1 p.2.1, p.2.2] m) /\ Tps h vs ps
 | _, _ => False
theorem Tps.len {h : Heap} : ∀ {vs : List Value} {ps : List (Int × Tok × Value)}, Tps h vs ps -> ps.length = vs.length
 | [], [], _ => rfl
 | _ :: _, _ :: _, ⟨_, t⟩ => by rw [List.length_cons, List.length_cons, Tps.len t]
 | [], _ :: _, t => t.elim
 | _ :: _, [], t => t.elim
theorem Tps.get {h : Heap} : ∀ {vs : List Value} {ps : List (Int × Tok × Value)}, Tps h vs ps -> ∀ i, i < vs.length -> ∃ p b o m, ps[i]? = some p /\ vs.getD i .none = .ref b /\ h.get? b = some o /\ o.cls = .type "tuple" /\ o.data = .seq #[.int p.1 p.2.1, p.2.2] m
 | _ :: _, p :: _, ⟨⟨b, o, m, e1, e2, e3, e4⟩, _⟩, 0, _ => ⟨p, b, o, m, rfl, by rw [e1]; rfl, e2, e3, e4⟩
 | _ :: vs, _ :: ps, ⟨_, t⟩, i + 1, hi => by
  obtain ⟨p, b, o, m, e1, e2, e3⟩ := Tps.get t i (by simpa using hi)
  exact ⟨p, b, o, m, by simpa using e1, by simpa using e2, e3⟩
 | [], [], _, _, hi => by simp at hi
 | [], _ :: _, t, _, _ => t.elim
 | _ :: _, [], t, _, _ => t.elim
theorem Tps.mono {h h' : Heap} : ∀ {vs : List Value} {ps : List (Int × Tok × Value)}, Tps h vs ps -> (∀ b o, Value.ref b ∈ vs -> h.get? b = some o -> h'.get? b = some o) -> Tps h' vs ps
 | [], [], _, _ => trivial
 | _ :: _, _ :: _, ⟨⟨b, o, m, e1, e2, e3⟩, t⟩, k => ⟨⟨b, o, m, e1, k b o (by rw [e1]; exact List.mem_cons_self) e2, e3⟩, Tps.mono t fun b o hb => k b o (List.mem_cons_of_mem _ hb)⟩
 | [], _ :: _, t, _ => t.elim
 | _ :: _, [], t, _ => t.elim
theorem Tps.kat {h : Heap} : ∀ {vs : List Value} {ps : List (Int × Tok × Value)}, Tps h vs ps -> KatTups h vs (ps.map fun p => Value.int p.1 p.2.1)
 | [], [], _ => trivial
 | _ :: _, p :: _, ⟨⟨b, o, m, e1, e2, e3, e4⟩, t⟩ => ⟨⟨b, o, _, m, e1, e2, e3, e4, rfl⟩, Tps.kat t⟩
 | [], _ :: _, t => t.elim
 | _ :: _, [], t => t.elim
def yiO (ps : List (Int × Tok × Value)) (i : Nat) : Int := ((ps[i]?).map (·.1)).getD 0
theorem yvV {ps : List (Int × Tok × Value)} (hn : (ps.map (·.1)).Nodup) {i j : Nat} (hi : i < ps.length) (hj : j < ps.length) (e : yiO ps i = yiO ps j) : i = j := by
  unfold yiO at e
  rw [List.getElem?_eq_getElem hi, List.getElem?_eq_getElem hj] at e
  have e : ps[i].1 = ps[j].1 := e
  have h1 : i < (ps.map (·.1)).length := by simpa using hi
  have h2 : j < (ps.map (·.1)).length := by simpa using hj
  exact (List.getElem_inj (h₀ := h1) (h₁ := h2) hn).mp (by simpa using e)
section
variable {prog : Program} {w : World} {A : Around} {E : Value -> Shared -> Prop} {s : Shared}
theorem yAX {vs : List Value} {ps : List (Int × Tok × Value)} (tp : Tps s.heap vs ps) (hn : (ps.map (·.1)).Nodup) (i j : Nat) (C : Bool -> Shared -> Prop) (hi : i < vs.length) (hj : j < vs.length) (hC : C (ltK (yiO ps) i j) s) :
    kas_ask prog w A (tuples' true) vs i j C s := by
  obtain ⟨p, b, o, m, e1, e2, e3, e4, e5⟩ := tp.get i hi
  obtain ⟨p', b', o', m', f1, f2, f3, f4, f5⟩ := tp.get j hj
  have k1 : yiO ps i = p.1 := by unfold yiO; rw [e1]; rfl
  have k2 : yiO ps j = p'.1 := by unfold yiO; rw [f1]; rfl
  unfold ltK at hC
  rw [k1, k2] at hC
  unfold kas_ask
  rw [e2, f2]
  refine kat_lt e3 e5 f3 f5 ?_
  show KatLex prog w A true (decide (2 < 2)) C [(Value.int p.1 p.2.1, Value.int p'.1 p'.2.1), (p.2.2, p'.2.2)] 0 s
  refine kat_cons (L2.eqAt_V (y := .int p.1) (x := .int p'.1) ⟨_, rfl⟩ ⟨_, rfl⟩ rfl rfl prog w _ _ ?_)
  show KatGo prog w A true _ C _ _ _ 0 (p.1 == p'.1) s
  by_cases e : p.1 = p'.1
  . rw [beq_iff_eq.mpr e]
    have hij : i = j := yvV hn (by rw [tp.len]; exact hi) (by rw [tp.len]; exact hj) (by rw [k1, k2, e])
    subst hij
    rw [e1] at f1
    cases f1
    refine kat_yes (kat_cons (SeqAt.EqAt.same _ prog w _ _ (kat_yes (kat_nil ?_))))
    rw [decide_eq_false (by omega)] at hC
    exact hC
  . rw [beq_eq_false_iff_ne.mpr e]
    exact kat_no (oneLt_int hC)
theorem yyb {a : Addr} {vs : List Value} {ps : List (Int × Tok × Value)} {n : Nat} {P : PySem.Fin -> Shared -> Prop} (ho : s.heap.get? a = some (seqObj "list" vs.toArray n)) (tp : Tps s.heap vs ps) (na : Value.ref a ∉ vs) (hn : (ps.map (·.1)).Nodup) (h64 : vs.length < 64)
    (h : ∀ q : Array Nat, q.Perm (List.toArray (List.range vs.length)) -> Up (yiO ps) q vs.length -> P (.done (.ret .none)) { s with heap := sortedHeap s.heap a vs (List.toArray (q.toList.map fun i => vs.getD i Value.none)) }) :
    wpAny (model prog w) A (Builtin.«list.sort» ⟨[.ref a], []⟩) P E s := by
  have ha : a < s.heap.objs.size := Heap.lt_size ho
  have z64 : vs.length <= sizeLine := by rw [sizeLine_eq]; omega
  rw [list_sort_plain]
  obtain ⟨e1, ho1⟩ : ∃ e1, (s.heap.update a (Obj.mapSeq fun _ => (#[] : Array Value))).get? a = some (seqObj "list" #[] e1) := ⟨_, get?_update_seq ho _⟩
  refine wpAny_bind (listItems_at ho rfl (wpAny_bind (listUpdate_at ho rfl (wpAny_bind (seqEpoch_at ho1 rfl (wpAny_bind (wpAny_newTuple (wpAny_bind (wpAny_newList (wpAny_holding ?_) (Nat.zero_le _))) (by simpa using z64))))) (by simpa using z64) (Nat.zero_le _))))
  generalize hH : ((s.heap.update a (Obj.mapSeq fun _ => (#[] : Array Value))).push (seqObj "tuple" vs.toArray 0)).push (seqObj "list" #[] 0) = H6
  have keep : ∀ b o, b ≠ a -> s.heap.get? b = some o -> H6.get? b = some o := fun b o hb e => by
    rw [<- hH]
    exact Heap.get?_push_of_some _ (Heap.get?_push_of_some _ ((Heap.get?_update_other _ _ (Ne.symm hb)).trans e))
  have ho6 : H6.get? a = some (seqObj "list" #[] e1) := by rw [<- hH]; exact Heap.get?_push_of_some _ (Heap.get?_push_of_some _ ho1)
  have tp6 : Tps H6 vs ps := tp.mono fun b o hb e => keep b o (fun z => na (z ▸ hb)) e
  show wpAny (model prog w) A _ P E { s with heap := H6 }
  dsimp only
  have fin : ∀ q : Array Nat, q.Perm (List.toArray (List.range vs.length)) -> Up (yiO ps) q vs.length -> P (.done (.ret .none)) { s with heap := H6.update a (Obj.mapSeq fun _ => List.toArray (q.toList.map fun i => vs.getD i Value.none)) } := fun q h1 h2 => by
    have := h q h1 h2
    unfold sortedHeap at this
    rw [show ((s.heap.update a (Obj.mapSeq fun _ => (#[] : Array Value))).push (seqObj "tuple" vs.toArray 0)).push (seqObj "list" #[] 0) = H6 from hH] at this
    exact this
  by_cases h2 : vs.toArray.size < 2
  . rw [if_pos h2, if_pos h2]
    refine wpAny_bind (wpAny_pure ?_)
    rw [StateT.run_pure]
    have hz : ((arrOf (SortSt.mk' general' (vs.toArray.zip vs.toArray) #[] 7 none)).map (·.2)) = List.toArray ((List.toArray (List.range vs.length)).toList.map fun i => vs.getD i Value.none) := by
      show (vs.toArray.zip vs.toArray).map (·.2) = _
      apply Array.toList_inj.mp
      simp only [Array.toList_map, Array.toList_zip, List.map_snd_zip (Nat.le_refl _)]
      apply List.ext_getElem
      . simp
      . intro i h3 h4
        simp
        rw [List.getElem?_eq_getElem (by simpa using h3)]; rfl
    refine wpAny_bind (wpAny_pure (wpAny_bind (seqEpoch_at ho6 rfl (wpAny_bind (listUpdate_at ho6 rfl ?_ (Nat.zero_le _) ?_)))))
    . dsimp only
      rw [hz]
      simp only [bne_self_eq_false, Bool.false_eq_true, if_false]
      exact wpAny_pure (fin _ (Array.Perm.refl _) fun i j hij hj => by rw [show i = j by (simp at h2); omega]; exact Int.le_refl _)
    . rw [hz]; simp; omega
  . rw [if_neg h2, if_neg h2]
    have hv2 : 2 <= vs.length := by simp at h2; omega
    refine wpAny_bind (kat_kind (s := { s with heap := H6 }) (T := .type "int") tp6.kat (by rw [List.length_map, tp.len]; omega) (fun v hv => ?_) rfl ?_)
    . obtain ⟨p, _, rfl⟩ := List.mem_map.mp hv
      exact .now
    have run1 := kat_run (prog := prog) (w := w) (A := A) (E := E) (s := { s with heap := H6 }) (κ := tuples' true) (ks := vs) (vs := vs)
      (Q := fun st' s' => s' = { s with heap := H6 } /\ ∃ q : Array Nat, q.Perm (List.toArray (List.range vs.length)) /\ Up (yiO ps) q vs.length /\ (arrOf st').map (·.2) = List.toArray (q.toList.map fun i => vs.getD i Value.none) /\ failedOf st' = none)
      (G := fun q s' => s' = { s with heap := H6 } /\ q.Perm (List.toArray (List.range vs.length)) /\ Up (yiO ps) q vs.length) rfl hv2 h64
      (fun q st' s' z1 z2 z3 z4 => ⟨z4.1, q, z4.2.1, z4.2.2, kat_snds rfl z2, z3⟩)
      (yDs (P := (· < vs.length)) (lt := ltK (yiO ps)) (fun i j C hi hj hC => yAX tp6 hn i j C hi hj hC) _ (yAW (by omega)) ⟨rfl, (yvT (by omega)).1, (yvT (by omega)).2⟩)
    refine wpAny_bind (wpAny_mono run1 ?_ fun _ _ x => x)
    rintro ⟨⟨⟩, st'⟩ s' ⟨rfl, q, z1, z2, z3, z4⟩
    refine wpAny_bind (seqEpoch_at ho6 rfl (wpAny_bind (listUpdate_at ho6 rfl ?_ (Nat.zero_le _) ?_)))
    . dsimp only
      rw [z3, z4]
      simp only [bne_self_eq_false, Bool.false_eq_true, if_false]
      exact wpAny_pure (fin q z1 z2)
    . dsimp only
      rw [z3]
      have := z1.size_eq
      simp at this ⊢
      omega
end
end KasS
namespace PXS
open PySem L2 PySem.Spec PyProof.Rows KasS PX
theorem yti {P : Program} {w : World} {H : Hp} {h : Heap} {a : Addr} {o : HO} (x : ObjOk P w H h a o) : ∃ u, h.get? a = some u := by
 cases o with
 | lst xs => obtain ⟨_, _, _, _, e⟩ := x; exact ⟨_, e⟩
 | tup xs => obtain ⟨_, _, _, ob, e, _⟩ := x; exact ⟨_, e⟩
 | dK kvs => obtain ⟨_, _, _, _, o, _, _, e, _⟩ := x; exact ⟨_, e⟩
 | dT kvs => obtain ⟨_, _, _, _, o, _, _, e, _⟩ := x; exact ⟨_, e⟩
 | set S n => obtain ⟨o, _, _, _, e, _⟩ := x; exact ⟨_, e⟩
 | ins C dx fs => obtain ⟨_, _, _, e, _⟩ := x; exact ⟨_, e⟩
 | own y => obtain ⟨_, e⟩ := x; exact ⟨_, e⟩
 | xd fs => obtain ⟨_, ⟨_, _, _, e, _⟩, _⟩ := x; exact ⟨_, e⟩
 | rng lo hi => obtain ⟨_, _, _, e⟩ := x; exact ⟨_, e⟩
 | frz ob u => obtain ⟨e, _⟩ := x; exact ⟨_, e⟩
 | tbl ps => exact ⟨_, show h.get? a = some _ from x⟩
 | met f y => exact ⟨_, show h.get? a = some _ from x⟩
 | ext φ => obtain ⟨_, ⟨_, e⟩, _⟩ := x; exact ⟨_, e⟩
section
variable {X : Cx}
theorem yyc : MtM X "dict.items" yza := by
 intro pins s σ H x vs v us Q I rx rv h
 obtain ⟨d, kvs, rfl, rfl, hH, q⟩ := h
 cases rx
 have hus := rv.zero
 subst hus
 obtain ⟨z, sy, ws, kv, hD⟩ := I.hok d _ hH
 refine call_meetsIn PySem.F.slot_dict_items hD.typeIs PySem.F.entry_dict_items (PySem.F.args_dict_items_1 _) (meets_dict_items _ d sy) ⟨⟨ws, hD⟩, ?_⟩
 refine ⟨.ref _, _, I.laid (t' := s.toks) (o := yrU s.heap.objs.size d) (fun _ _ q => Heap.get?_push_of_some _ q) (Nat.le_refl _) ⟨Heap.get?_push_size _ rfl, ⟨_, Heap.get?_push_size _ rfl⟩, fun h1 h2 e k => k _ e⟩, rfl, q _ I.fresh⟩
theorem yvW {pins : List (Addr × Obj)} {σ : L2.St} {H H' : Hp} {s : Shared} {h' : Heap} {t' : Nat} (I : Inv X pins σ H s) (k : ∀ b u, s.heap.get? b = some u -> h'.get? b = some u) (sub : ∀ b o, H b = some o -> H' b = some o)
    (nw : ∀ b o, H b = none -> H' b = some o -> s.heap.get? b = none /\ ObjOk X.prog X.w H' h' b o) : Inv X pins σ H' { s with heap := h', toks := t' } := by
  refine I.un ⟨fun b u q _ _ _ => k b u q, fun b u q _ _ _ => ⟨u.slots, k b u q⟩, fun b u q n _ => ?_, fun b u q _ => ⟨u, k b u q⟩, fun b xs q => sub _ _ q, fun b u xs q => sub _ _ q, fun b ps q => ⟨#[], by rw [sub _ _ q]; simp⟩⟩ fun b o e => ?_
  . cases e : H' b with
    | none => rfl
    | some o => rw [(nw b o n e).1] at q; cases q
  . cases e2 : H b with
    | none => exact (nw b o e2 e).2
    | some u =>
      have := sub _ _ e2
      rw [e] at this
      cases this
      exact (I.hok b o e2).stay (fun c v _ q => k c v q) (fun c q => sub _ _ q) fun c xs q => sub _ _ q
theorem yzi {h : Heap} : ∀ (as : List Addr) (ws : List (Key × Value)) (ns : List Int), as.length = ws.length -> ws.map (·.1) = ns.map Sum.inl ->
    (∀ (j : Nat) (a : Addr), as[j]? = some a -> ∃ key k x, ws[j]? = some (k, x) /\ yrj k key = true /\ h.get? a = some { cls := .type "tuple", data := .seq #[key, x] }) ->
    ∃ ps, Tps h (as.map Value.ref) ps /\ ps.map (·.1) = ns /\ ps.map (·.2.2) = ws.map (·.2)
  | [], [], ns, _, e, _ => ⟨[], trivial, by cases ns with | nil => rfl | cons => simp at e, rfl⟩
  | [], _ :: _, _, hl, _, _ => by simp at hl
  | _ :: _, [], _, hl, _, _ => by simp at hl
  | a :: as, (k, x) :: ws, ns, hl, e, hp => by
    cases ns with
    | nil => simp at e
    | cons n ns =>
      simp only [List.map_cons, List.cons.injEq] at e
      obtain ⟨ps, t, e1, e2⟩ := yzi as ws ns (by simpa using hl) e.2 fun j b hb => by
        obtain ⟨key, k', x', f1, f2, f3⟩ := hp (j + 1) b (by simpa using hb)
        exact ⟨key, k', x', by simpa using f1, f2, f3⟩
      obtain ⟨key, k', x', f1, f2, f3⟩ := hp 0 a rfl
      simp at f1
      obtain ⟨rfl, rfl⟩ := f1
      obtain ⟨j, tk, g1, rfl⟩ : ∃ j tk, k = Sum.inl j /\ key = Value.int j tk := by
        rcases ybH f2 with ⟨j, tk, g1, g2⟩ | ⟨y, tk, g1, g2⟩
        . exact ⟨j, tk, g1, g2⟩
        . rw [g1] at e; cases e.1
      rw [g1] at e
      obtain rfl : j = n := by injection e.1
      exact ⟨(j, tk, x) :: ps, ⟨⟨a, _, _, rfl, f3, rfl, rfl⟩, t⟩, by rw [List.map_cons, e1], by rw [List.map_cons, e2]; rfl⟩
theorem yhc {α : Type} : ∀ {as : List Addr} {ts : List α} {b : Addr} {t : α}, (as.zip ts).lookup b = some t -> ∃ j : Nat, as[j]? = some b /\ ts[j]? = some t
  | [], _, _, _, h => by simp at h
  | _ :: _, [], _, _, h => by simp at h
  | a :: as, u :: ts, b, t, h => by
    rw [List.zip_cons_cons, List.lookup_cons] at h
    split at h
    . rename_i hb
      cases h
      exact ⟨0, by rw [eq_of_beq hb]; rfl, rfl⟩
    . obtain ⟨j, h1, h2⟩ := yhc h
      exact ⟨j + 1, by simpa using h1, by simpa using h2⟩
theorem yzj : ∀ {kvs : List (Key × V)} {ws : List (Key × Value)}, KV kvs ws -> ws.map (·.1) = kvs.map (·.1) /\ ∀ i : Nat, i < kvs.length -> RelV ((kvs.map (·.2)).getD i .non) ((ws.map (·.2)).getD i .none) := by
  intro kvs ws h
  induction h with
  | nil => exact ⟨rfl, fun i hi => by simp at hi⟩
  | @cons p q _ _ h1 _ ih =>
    refine ⟨by rw [List.map_cons, List.map_cons, ih.1, h1.1], fun i hi => ?_⟩
    cases i with
    | zero => exact h1.2
    | succ i => simpa using ih.2 i (by simpa using hi)
theorem ytj {α : Type} {f : α -> V} {g : α -> Value} : ∀ {l : List α}, (∀ i ∈ l, RelV (f i) (g i)) -> Vals (l.map f) (l.map g)
 | [], _ => .nil
 | i :: l, h => .cons (h i List.mem_cons_self) (ytj fun j hj => h j (List.mem_cons_of_mem _ hj))
theorem ykW (hc : X.calm = true) : yjf X (.builtin "sorted") rSI := by
  intro pins s σ H xs us Q I rr hh
  obtain ⟨r, d, kvs, ns, rfl, hr, hd, hk, h64, q⟩ := hh
  obtain ⟨u, rfl, rx⟩ := vals1 rr
  cases rx
  obtain ⟨hview, _, _⟩ := I.hok r _ hr
  obtain ⟨z, sy, ws, kv, hD⟩ := I.hok d _ hd
  obtain ⟨ep, hat⟩ := hD.dictAt
  obtain ⟨kv1, kv2⟩ := yzj kv
  have lw : ws.length = kvs.length := by have := congrArg List.length kv1; simpa using this
  have ln : ns.length = kvs.length := by have := congrArg List.length hk; simpa using this.symm
  have nd : ns.Nodup := by
    obtain ⟨_, _, _, _, _, _, _, _, n⟩ := hD
    rw [kv1, hk] at n
    exact (List.pairwise_map.mp n).imp fun h e => h (by rw [e])
  refine Calls.call_function_entry kind_sorted plain_sorted entry_sorted (args_sorted1 _) ?_
  unfold Builtin.«sorted»
  refine wpAny_bind (m := checkCount "sorted" 1 1 _) (wpAny_pure ?_)
  refine wpAny_bind (PySem.W.kdx_collect (A := X.A.in1) (knd := ycZ X.prog X.w) (kvs := ws) (ep := ep) (I.ok.hd hc) ⟨_, hview, rfl, rfl⟩ hat (by rw [lw]; exact z) fun h' tk as keep hl hG => wpAny_bind (wpAny_newList ?_ (by rw [List.length_map, hl, lw]; exact z)))
  obtain ⟨ps, tp, e1, e2⟩ := yzi (h := h') as ws ns hl (by rw [kv1, hk]) fun j a ha => hG.pairs j a ha
  have la : as.length = ns.length := by omega
  have above : ∀ a ∈ as, s.heap.objs.size < a := hG.above
  have there : ∀ a ∈ as, a < h'.objs.size := fun a ha => hG.there ha
  generalize hB : h'.objs.size = B at *
  have noB : s.heap.get? B = none := by
    cases e : s.heap.get? B with
    | none => rfl
    | some o => exact absurd (Heap.lt_size (keep B o e)) (by rw [hB]; exact Nat.lt_irrefl _)
  have noA : ∀ a ∈ as, s.heap.get? a = none := fun a ha => Heap.get?_none_of_le (Nat.le_of_lt (above a ha))
  have free : ∀ b, s.heap.get? b = none -> H b = none := fun b e => by
    cases e2 : H b with
    | none => rfl
    | some o => obtain ⟨u, hu⟩ := yti (I.hok b o e2); rw [e] at hu; cases hu
  have hoL : (h'.push { cls := .type "list", data := .seq (as.map Value.ref).toArray }).get? B = some (seqObj "list" (as.map Value.ref).toArray 0) := by rw [<- hB]; exact Heap.get?_push_size _ rfl
  refine wpAny_bind (wpAny_holding (wpAny_call_entry PySem.F.slot_list_sort ⟨_, hoL, rfl⟩ PySem.F.entry_list_sort ?body (PySem.F.args_list_sort_1 _)))
  case body =>
    refine yyb (s := { s with heap := h'.push { cls := .type "list", data := .seq (as.map Value.ref).toArray }, toks := tk }) (ps := ps) hoL (tp.mono fun b o _ e => Heap.get?_push_of_some _ e) (fun z => ?_) (by rw [e1]; exact nd) (by rw [List.length_map]; omega) fun qa z1 z2 => ?_
    . obtain ⟨a, ha, e⟩ := List.mem_map.mp z
      cases e
      exact absurd (there B ha) (Nat.lt_irrefl _)
    refine ⟨_, rfl, wpAny_pure ⟨_, rfl, ?_⟩⟩
    have lq : qa.toList.length = ns.length := by have := z1.size_eq; simpa [la] using this
    have pq : qa.toList.Perm (List.range ns.length) := by have := Array.perm_iff_toList_perm.mp z1; simpa [la] using this
    have inq : ∀ i ∈ qa.toList, i < ns.length := fun i hi => by have := pq.mem_iff.mp hi; simpa using this
    have nda : as.Nodup := hG.rise.imp fun h => Nat.ne_of_lt h
    have ndq : qa.toList.Nodup := pq.nodup_iff.mpr List.nodup_range
    generalize hS : sortedHeap (h'.push { cls := .type "list", data := .seq (as.map Value.ref).toArray }) B (as.map Value.ref) (List.toArray (qa.toList.map fun i => (as.map Value.ref).getD i Value.none)) = S
    have hFa : ∀ b o, b ≠ B -> h'.get? b = some o -> S.get? b = some o := fun b o hb e => by
      rw [<- hS]
      unfold sortedHeap
      exact (Heap.get?_update_other _ _ (Ne.symm hb)).trans (Heap.get?_push_of_some _ (Heap.get?_push_of_some _ ((Heap.get?_update_other _ _ (Ne.symm hb)).trans (Heap.get?_push_of_some _ e))))
    have hFB : ∃ c, S.get? B = some (seqObj "list" (List.toArray (qa.toList.map fun i => (as.map Value.ref).getD i Value.none)) c) := by
      rw [<- hS]
      unfold sortedHeap
      exact ⟨_, get?_update_seq (Heap.get?_push_of_some _ (Heap.get?_push_of_some _ (get?_update_seq hoL _))) _⟩
    have hF : ∀ b o, s.heap.get? b = some o -> S.get? b = some o := fun b o e => hFa b o (fun z => by rw [z, noB] at e; cases e) (keep b o e)
    have aget : ∀ i, i < ns.length -> ∃ a, as[i]? = some a /\ as.getD i 0 = a /\ a ∈ as := fun i hi => by
      have h1 : i < as.length := by omega
      exact ⟨as[i], List.getElem?_eq_getElem h1, by simp [List.getD, List.getElem?_eq_getElem h1], List.getElem_mem h1⟩
    have mem : ∀ a ∈ (qa.toList.map fun i => as.getD i 0), a ∈ as := fun a ha => by
      obtain ⟨i, hi, rfl⟩ := List.mem_map.mp ha
      obtain ⟨a, _, e, m⟩ := aget i (inq i hi)
      rw [e]; exact m
    have neB : ∀ a ∈ as, a ≠ B := fun a ha => Nat.ne_of_lt (there a ha)
    have kat : ∀ i, yiO ps i = ns.getD i 0 := fun i => by
      unfold yiO
      rw [<- e1]
      simp [List.getD]
    refine ⟨.ref B, yEv H B (qa.toList.map fun i => as.getD i 0) (qa.toList.map fun i => [V.int (ns.getD i 0), (kvs.map (·.2)).getD i .non]), ?_, rfl, q B _ qa.toList pq ?_ nd (by simp) ?_ ?_⟩
    . show L2.Inv X pins σ _ { s with heap := S, toks := tk }
      refine yvW I hF (fun b o e => ?_) fun b o e e2 => ?_
      . unfold yEv upd ysZ
        rw [if_neg fun z => by rw [z, free _ noB] at e; cases e]
        cases e3 : List.lookup b ((qa.toList.map fun i => as.getD i 0).zip (qa.toList.map fun i => [V.int (ns.getD i 0), (kvs.map (·.2)).getD i .non])) with
        | none => exact e
        | some t =>
          obtain ⟨j, g1, _⟩ := yhc e3
          rw [free _ (noA b (mem b (List.mem_of_getElem? g1)))] at e
          cases e
      . unfold yEv upd ysZ at e2
        split at e2
        . rename_i hb
          subst hb
          cases e2
          obtain ⟨c, hc⟩ := hFB
          refine ⟨noB, by simp [lq]; rw [ln]; exact z, _, c, ?_, hc⟩
          rw [List.map_map]
          refine ytj fun i hi => ?_
          obtain ⟨a, f1, f2, _⟩ := aget i (inq i hi)
          show RelV (V.ref (as.getD i 0)) _
          rw [f2]
          simp [List.getD, f1]
          rfl
        . split at e2
          . rename_i t e3
            cases e2
            obtain ⟨j, g1, g2⟩ := yhc e3
            rw [List.getElem?_map] at g1 g2
            cases e4 : qa.toList[j]? with
            | none => rw [e4] at g1; cases g1
            | some i =>
              rw [e4] at g1 g2
              have hi := inq i (List.mem_of_getElem? e4)
              obtain ⟨a, f1, f2, f3⟩ := aget i hi
              simp only [Option.map_some, Option.some.injEq] at g1 g2
              rw [f2] at g1
              subst g1
              subst g2
              obtain ⟨key, k, x, w1, w2, w3⟩ := hG.pairs i a f1
              have wk : k = Sum.inl (ns.getD i 0) := by
                have h1 : (ws.map (·.1))[i]? = some k := by rw [List.getElem?_map, w1]; rfl
                rw [kv1, hk, List.getElem?_map] at h1
                rw [List.getElem?_eq_getElem hi] at h1
                simp [List.getD, List.getElem?_eq_getElem hi] at h1 ⊢
                exact h1.symm
              obtain ⟨tk2, rfl⟩ : ∃ tk, key = Value.int (ns.getD i 0) tk := by
                rcases ybH w2 with ⟨j, tk, g1, g2⟩ | ⟨y, tk, g1, g2⟩
                . rw [wk] at g1; cases g1; exact ⟨tk, g2⟩
                . rw [wk] at g1; cases g1
              have wx : (ws.map (·.2)).getD i .none = x := by simp [List.getD, w1]
              refine ⟨noA a f3, by simp [sizeLine_eq], [_, x], .cons ⟨_, rfl⟩ (.cons ?_ .nil), _, hFa a _ (neB a f3) w3, rfl, _, rfl⟩
              rw [<- wx]
              exact kv2 i (by omega)
          . rw [e] at e2; cases e2
    . refine List.pairwise_iff_getElem.mpr fun i j hi hj hij => ?_
      have := z2 i j (Nat.le_of_lt hij) (by simpa [la, lq] using hj)
      unfold Kp at this
      rw [kat, kat] at this
      have hi' : i < qa.size := by simpa using hi
      have hj' : j < qa.size := by simpa using hj
      rw [Array.getElem?_eq_getElem hi', Array.getElem?_eq_getElem hj'] at this
      simpa using this
    . intro a ha
      rcases List.mem_cons.mp ha with rfl | ha
      . exact free _ noB
      . exact free _ (noA a (mem a ha))
    . refine List.nodup_cons.mpr ⟨fun h => neB _ (mem _ h) rfl, ?_⟩
      refine List.pairwise_map.mpr (ndq.imp_of_mem fun {i j} hi hj hij e => hij ?_)
      obtain ⟨a, f1, f2, _⟩ := aget i (inq i hi)
      obtain ⟨b, g1, g2, _⟩ := aget j (inq j hj)
      rw [f2, g2] at e
      subst e
      exact (List.getElem?_inj (by have := inq i hi; omega) nda).mp (f1.trans g1.symm)
variable {A : Nat -> Addr} {o : Expr} {xa : XE} {pos p apos cpos : Pos} {x : Str}
theorem z_sortI (hc : X.calm = true) (ho : ZE X A o xa) (m : Nm x) (hg : Gl X x) (hm : X.mg x = none) (hv : bootBuiltins x = some (.builtin "sorted"))
    (hbase : attributeBase o "items" X.env (eval o X.env) = eval o X.env) (hline : (apos.endLine == cpos.line) = true)
    (he : starEach [.Call (.Attribute o "items" apos) [] [] cpos] X.env = (false, eval (.Call (.Attribute o "items" apos) [] [] cpos) X.env) :: starEach [] X.env) (hpl : (backTo pos (starEach [] X.env)).any (·.1) = false) :
    ZO X A (.Call (.Name x p) [.Call (.Attribute o "items" apos) [] [] cpos] [] pos) (ylS xa) :=
  wO (ynP (ykW hc) hg hm hv (yke (yyJ PySem.F.plainAttrs_dict PySem.F.slot_dict_items PySem.F.type_dict_items yyc ho.of hbase hline) ypI he) m.n m.d he hpl) (yvD (K := ckX X A) sE)
end
end PXS
namespace PX
open PySem L2 PySem.Spec PyProof.Rows
section
theorem yyd {P : Program} {w : World} {K : PySem.W.Frag} {tg : Expr} (a it : Addr) (m : Nat) : Turn P w K tg (ItR K a m) [it] it (fun i h => i <= m /\ h.IsRevIter it a ((m : Int) - 1 - (i : Nat))) where
 mem := by simp
 obj := fun i h st b hb => by
  have e : b = it := by simpa using hb
  subst e
  obtain ⟨_, o, e, c, d⟩ := st
  exact ⟨o, e, fun v z => by rw [d] at z; cases z⟩
 keep := fun i h h' st k => ⟨st.1, st.2.at fun o e => k it (by simp) o e⟩
 item := by
  intro X hP hw hK hc i pins s σ H E I hf st hg
  subst hP hw hK
  obtain ⟨hi, xs, x, hq, hx⟩ := hg
  obtain ⟨its, rv, p, hz⟩ := I.list hq
  obtain ⟨u, hu, ru⟩ := rv.get hx
  obtain ⟨f0, f1, f2, f3, f4, f5⟩ := hf it (by simp)
  have e0 : (m : Int) - 1 - (i : Nat) = ((m - 1 - i : Nat) : Int) := by omega
  have st2 := st.2
  rw [e0] at st2
  refine wpAny_pyNext_rev_item st2 p.isList (x := u) (by simpa using hu) fun h' st' sb => ?_
  have I1 : Inv X pins σ H { s with heap := h' } := I.turned (t' := s.toks) (fun b o hb e => (sb.2 b hb).trans e) f0 f1 f3 f4 f5
  obtain ⟨o, e, c, d⟩ := id st'
  have e2 : ((m - 1 - i : Nat) : Int) - 1 = (m : Int) - 1 - ((i + 1 : Nat) : Int) := by omega
  rw [e2] at st'
  exact ⟨u, rfl, ywQ (s := { s with heap := h' }) e c d (by decide) ⟨x, H, I1, ru, ⟨rfl, fun ys hy => by rw [I.list_inj hy hq]; exact hx⟩, ⟨hi, st'⟩, fun b hb => (hf b hb).1⟩⟩
 done := by
  intro X hP hw hK hc i pins s σ H E I hf st hg
  subst hP hw hK
  obtain rfl : i = m := hg
  obtain ⟨f0, f1, f2, f3, f4, f5⟩ := hf it (by simp)
  have st2 := st.2
  rw [show (i : Int) - 1 - (i : Nat) = -1 by omega] at st2
  exact wpAny_pyNext_rev_end (I.ok.hd hc) st2 fun h' eb => ⟨rfl, I.turned (t' := s.toks) (fun b o hb e => eb b o hb e) f0 f1 f3 f4 f5⟩
 self := fun _ _ _ _ _ st h => wpAny_pyIter_revIter st.2 h
variable {X : Cx} {A : Nat -> Addr} {tg a : Expr} {p pos : Pos} {xa : XE}
theorem yDt {ta : TE} (hg : Gl X "reversed") (hm : X.mg "reversed" = none) (ha : PE X a ta) (he : starEach [a] X.env = (false, eval a X.env) :: starEach [] X.env) (hs : starEach [a] X.env = [(false, eval a X.env)]) : PI X tg (.Call (.Name "reversed" p) [a] [] pos) (yFV X.K ta) := by
  intro pins s σ H R I h
  refine Call_ (ynp I hg hm yrW (PyProof.Rows.callWith_type1 (thn (yke ha ypI he pos pins s σ H (fun vs H1 => match vs with | [x] => ∃ b xs, x = .ref b /\ SqL X.K H1 b xs /\ R (ItR X.K b xs.length) H1 | _ => False) I h) fun us s1 ⟨vs, H1, I1, r1, q1⟩ => ?_) hs rfl))
  cases r1 with
  | nil => exact q1.elim
  | cons r rr =>
    cases rr with
    | cons => exact q1.elim
    | nil =>
    obtain ⟨b, xs, e, hq, q⟩ := q1
    subst e
    cases r
    obtain ⟨its, rv, pp, hz⟩ := I1.list hq
    have hl := rv.length
    refine call_reversed_list pp.isList (wpAny_pyIter_revIter (s := { s1 with heap := s1.heap.push (revObj b ((its.toArray.size : Int) - 1)) }) (l := b) (i := (its.toArray.size : Int) - 1) ⟨_, Heap.get?_push_size _ rfl, rfl, rfl⟩ ?_)
    refine ⟨s1.heap.objs.size, [s1.heap.objs.size], _, _, H1, rfl, I1.kept (t' := s1.toks) fun b o e => Heap.get?_push_of_some _ e, yyd b _ xs.length, ⟨Nat.zero_le _, _, Heap.get?_push_size _ rfl, rfl, ?_⟩, fun b hb => ?_, q⟩
    . show Data.fields #[.ref b, rawInt ((its.toArray.size : Int) - 1)] = Data.fields #[.ref b, rawInt ((xs.length : Int) - 1 - ((0 : Nat) : Int))]
      rw [hl]
      simp
    . have e : b = s1.heap.objs.size := by simpa using hb
      subst e
      exact I1.fpOk (Nat.le_refl _) (I1.hok.fresh (Nat.le_refl _))
theorem yAY {rest : List Stmt} {s : XS} {y : XG} {pos' : Pos} (hp : PassesOwn (model X.prog X.w) X.A X.env X.xe) (hc : X.calm = true) (hgl : Gl X "reversed") (hm : X.mg "reversed" = none) (hi : ZE X A a xa) (he : starEach [a] X.env = (false, eval a X.env) :: starEach [] X.env) (hs1 : starEach [a] X.env = [(false, eval a X.env)])
  (hg : ZG X A tg y) (hb : ZSs X A rest s) (hs : ∀ x, foldedSetIterable (.Call (.Name "reversed" p) [a] [] pos') X.env x = pure x) : ZS X A (.For tg (.Call (.Name "reversed" p) [a] [] pos') rest [] pos) (yxT true xa y s) :=
 wS (yyC hp hc (yDt hgl hm hi.of he hs1) hg.of hb.of hs) (yxU (K := ckX X A) sE sG sS)
end
end PX
namespace PX
open PySem L2 PySem.Spec PyProof.Rows
section
variable {X : Cx} {A : Nat -> Addr} {a o : Expr} {xa xb : XE} {pos apos cpos : Pos}
theorem yDu : MtM X "dict.update" yFW := by
 intro pins s σ H x vs v us Q I rx rv h
 obtain ⟨d, b, kvs, more, rfl, rfl, hne, hH, hB, hz, q⟩ := h
 cases rx
 obtain ⟨u, rfl, ru⟩ := rv.one
 cases ru
 obtain ⟨z, hd, vs, rel, dd⟩ := yAA I.hok hH
 obtain ⟨z2, hd2, vs2, rel2, dd2⟩ := yAA I.hok hB
 refine call_meetsIn PySem.F.slot_dict_update dd.typeIs PySem.F.entry_dict_update (PySem.F.args_dict_update_2 _ _) (meets_dict_update (ycZ X.prog X.w) d b hne hd2) ⟨vs, vs2, dd, dd2, by rw [<- rel.length, <- rel2.length]; exact hz, fun h' dd' _ hs => ?_⟩
 have he : ∃ q, h'.get? d = some q := let ⟨q, _, _, hq, _⟩ := dd'; ⟨q, hq⟩
 refine ⟨.non, _, yrO (t' := s.toks) I (by rw [hH]; exact True.intro) hs he (yyU ?_ hd (rel2.merge rel) dd'), rfl, q⟩
 exact Nat.le_trans (yjB more kvs) hz
end
end PX
namespace L2
open PySem PySem.Spec PyProof.Rows PX
end L2
namespace PX
open PySem L2 PySem.Spec PyProof.Rows
variable {X : Cx} {A : Nat -> Addr} {x : Str}
end PX
namespace L2
open PySem PySem.Spec PyProof.Rows PX
theorem yAZ {y : Str} {py spos : Pos} {iy : Nat} {X : Cx} {elt iter : Expr} {x : Str} {px : Pos} {scope : Scope} {cpos : Pos} {wi : TI} {te : TE} (ix : List Nat) (fr : List Str) (hc : X.calm = true) (hi : PI X (.Name x px) iter wi) (hfr : FrOk X scope ix fr)
    (he : ∀ (cl : List (Str × Addr)) (C : Addr) (s₃ : Shared) (H₃ : Hp) (fp : List Addr) (pins : List (Addr × Obj)), PE (cxC X scope cl C (x :: fr) s₃ H₃ fp pins) elt te)
    (hnd : (x :: fr).Nodup) (hkind : scope.kind = .function) (hcell : ∀ y ∈ scope.names, y.2 ≠ .cell)
    (hnames : ∀ y ∈ scope.names, y.2 = .local -> scope.names.lookup y.1 = some .local) (hfree0 : ∀ y ∈ scope.names, y.2 = .free -> y.1 ∈ fr) (hx : scope.names.lookup x = some .local)
    (hs : ∀ v, foldedSetIterable iter X.env v = pure v)
    (hN : X.N.Nodup) (hyi : X.N[iy]? = some y) (hyx : Loc X.env.scope y) (hyf : X.fn y = true \/ X.env.scope.names.lookup y = some .local) (hsw : swapsWith (.ListComp elt [⟨.Name x px, iter, [], 0⟩] scope cpos) (some (.Name y py)) spos.line X.env = pure true) :
    PS X (.Assign [.Name y py] (.ListComp elt [⟨.Name x px, iter, [], 0⟩] scope cpos) spos) (yBF (yzP wi ix te) (yty iy)) := by
  intro pins s σ H D0 I h
  have hfn : X.env.scope.kind = .function := I.ok.kind
  have hfree : ∀ y ∈ scope.names, y.2 = .free -> X.env.kindOf y.1 = some .cell /\ scope.names.lookup y.1 = some .free := fun y hy e => by
    obtain ⟨j, hj, ej⟩ := List.getElem_of_mem (hfree0 y hy e)
    obtain ⟨i, _, _, h3, h4⟩ := hfr.get (j := j) (y := y.1) (by rw [List.getElem?_eq_getElem hj, ej])
    exact ⟨h4, h3⟩
  obtain ⟨cl, ecl, hcl1, hcl2⟩ := ygg (env := X.env) scope.names [] fun n hn => I.ok.has n (.inl (hfree _ hn rfl).1)
  have hclos : closureFor scope X.env = pure cl := by
    unfold closureFor
    have : (forIn scope.names ([] : List (Str × Addr)) (fun (x : Str × NameKind) (r : List (Str × Addr)) => if (x.2 == NameKind.free) = true then do let c <- cellOf X.env x.1; pure (ForInStep.yield ((x.1, c) :: r)) else pure (ForInStep.yield r)) : Sem (List (Str × Addr))) = pure cl := ecl
    first
      | exact (by simpa using congrArg (· >>= fun r => pure r) this)
      | (rw [show (pure cl : Sem (List (Str × Addr))) = (pure cl >>= fun r => pure r) from rfl, <- this]; rfl)
  have hcle : ∀ y c, cl.lookup y = some c -> X.env.cells.lookup y = some c /\ (y, NameKind.free) ∈ scope.names := fun y c e => by
    by_cases hy : (y, NameKind.free) ∈ scope.names
    . exact ⟨by rw [<- hcl1 y hy]; exact e, hy⟩
    . rw [hcl2 y hy] at e; simp at e
  rw [exec_Assign_Name_used _ _ _ _ hsw]
  refine wpAny_bind (wpAny_standAt (wpAny_bind ?_))
  show wpAny _ X.A (do let _ <- comprehension (.ListComp elt [⟨.Name x px, iter, [], 0⟩] scope cpos) scope X.env _ (newList []) false (eval iter X.env) (some (assign (.Name y py) X.env))) _ _ s
  refine wpAny_bind (wpAny_mono (wpAny_comprehension_free (use := some (assign (.Name y py) X.env)) (Q := fun _ s' => SP X pins D0 .next s') rfl hs hclos hkind hnames ?_) (fun _ s' hq => wpAny_pure (wpAny_pure hq)) fun _ _ e => e)
  refine thn (hi pins s σ H _ I h) fun v s1 h1 => thn h1 fun itv s2 h2 => ?_
  obtain ⟨it, fp, tn, J, H2, e, I2, T, st2, f2, q2⟩ := h2
  subst e
  refine wpAny_newObj_type ?_
  -- the list D
  generalize hs3 : ({ s2 with heap := s2.heap.push { cls := .type "list", dict := none, data := .seq ([] : List Value).toArray } } : Shared) = s3
  generalize hD : s2.heap.objs.size = D
  have hDn : H2 D = none := by rw [<- hD]; exact I2.hok.fresh (Nat.le_refl _)
  have I3 : Inv X pins σ (upd H2 D (.lst [])) s3 := by
    rw [<- hs3, <- hD]
    exact I2.lnew (t' := s2.toks) (ys := []) (its := []) .nil (Nat.zero_le _)
  have k3 : ∀ b o, s2.heap.get? b = some o -> s3.heap.get? b = some o := fun b o e => by rw [<- hs3]; exact Heap.get?_push_of_some _ e
  have st3 : tn 0 s3.heap := T.keep _ _ _ st2 fun b _ o e => k3 b o e
  have fne : ∀ b ∈ fp, b ≠ D := fun b hb => by
    obtain ⟨o, e, _⟩ := T.obj _ _ st2 b hb
    rw [<- hD]
    exact Nat.ne_of_lt (Heap.lt_size e)
  have f3 : ∀ b ∈ fp, yuB X pins (upd H2 D (.lst [])) b := fun b hb => ⟨by rw [yU (fne b hb)]; exact (f2 b hb).1, (f2 b hb).2⟩
  have q3 := q2 D hDn
  generalize upd H2 D (.lst []) = H3 at I3 f3 q3
  obtain ⟨W, ⟨m0, w0⟩, turn⟩ := q3
  refine wpAny_newFunctionEnv hcell (by intro y hy; simp at hy) (fun h4 hns hsb => ?_) hkind
  try dsimp only at hns hsb ⊢
  generalize hC : s3.heap.objs.size = C at hns hsb ⊢
  have k4 : ∀ b o, s3.heap.get? b = some o -> h4.get? b = some o := fun b o e => (hsb.2 b (by rw [<- hC]; exact Nat.ne_of_lt (Heap.lt_size e))).trans (Heap.get?_push_of_some _ e)
  -- the block's context and its invariant
  have Cne : ∀ b o, s3.heap.get? b = some o -> b ≠ C := fun b o e => by rw [<- hC]; exact Nat.ne_of_lt (Heap.lt_size e)
  have stk := I3.stkSub
  have pinF : ∀ p ∈ X.pn ++ pins, p.1 ∉ frs X.stack := fun p hp z => by
    obtain ⟨_, _, n1, n2, _⟩ := I3.pin p hp
    rcases List.mem_cons.mp (stk _ z) with z | z
    . exact n1 z
    . exact n2 z
  have okC : (cxC X scope cl C (x :: fr) s3 H3 fp pins).Ok := by
    refine ⟨I3.ok.mod, by show (relabel scope X.env).kind = _; exact hkind, I3.ok.glob, I3.ok.blt, Nat.le_of_eq hC, fun y z c h1 h2 => I3.ok.inj y z c (hcle y c h1).1 (hcle z c h2).1, fun y hy => ?_, fun y c hf _ => (by cases hf), I3.ok.hd, I3.ok.frames, .inl rfl, fun b hb => ⟨?_, fun y c e z => ?_⟩, I3.bs, ?_, fun b o e hb => ?_, fun b hb z => ?_, I3.stack, I3.stkFree⟩
    . have hy : ((relabel scope X.env).names.lookup y = some .cell) \/ ((relabel scope X.env).names.lookup y = some .free) := hy
      rw [show (relabel scope X.env).names.lookup y = _ from ydG y scope.names] at hy
      cases e : scope.names.lookup y with
      | none => rw [e] at hy; simp at hy
      | some k =>
        have hm : (y, k) ∈ scope.names := PySem.mem_of_lookup e
        have hkf : k = .free := by
          rw [e] at hy
          cases k <;> simp at hy ⊢
          exact absurd rfl (hcell _ hm)
        subst hkf
        obtain ⟨c, hc'⟩ := I3.ok.has y (.inl (hfree _ hm rfl).1)
        exact ⟨c, by show cl.lookup y = _; rw [hcl1 y hm]; exact hc'⟩
    . obtain ⟨o, e, _⟩ := T.obj _ _ st3 b hb
      exact Cne b o e
    . exact (f3 b hb).2.2.2.2.1 y c (hcle y c e).1 z
    . exact Nat.le_trans I3.ok.bsz I3.sz
    . rcases (f3 b hb).2.2.2.1 with z | z
      . exact I3.ok.noex b o e z
      . exact absurd (Nat.lt_of_lt_of_le (Heap.lt_size e) (Nat.le_trans I3.ok.bsz z)) (Nat.lt_irrefl _)
    . rcases List.mem_cons.mp (stk _ z) with z | z
      . exact (f3 b hb).2.1 z
      . exact (f3 b hb).2.2.1 z
  have inn : ∀ v, (inner ix σ v) = some v :: ix.map fun i => (σ[i]?).getD none := fun _ => rfl
  have I4 : Inv (cxC X scope cl C (x :: fr) s3 H3 fp pins) [] (none :: ix.map fun i => (σ[i]?).getD none) H3 { s3 with heap := h4, toks := s3.toks + ([] : List (Str × Value)).length } := by
    refine ⟨okC, rfl, I3.bare, Un.kept k4, ⟨_, hns, fun j y v e1 e2 e3 => ?_⟩, fun y c e => ?_, I3.hok.fresh (Nat.le_of_eq hC), fun y c e => I3.freeC y c (hcle y c e).1, fun p hp => ?_, I3.hok.kept k4, ?_⟩
    . match j, e1, e2 with
      | 0, e1, e2 => simp at e2
      | j + 1, e1, e2 =>
        obtain ⟨i, hi1, hi2, hi3, hi4⟩ := hfr.get (j := j) (y := y) (by have e1' : (x :: fr)[j + 1]? = some y := e1; simpa using e1')
        have e2' : σ[i]? = some (some v) := by
          have e2 : (ix.map fun i => (σ[i]?).getD none)[j]? = some (some v) := by simpa using e2
          rw [List.getElem?_map, hi1] at e2
          simp at e2
          cases z : σ[i]? with
          | none => rw [z] at e2; simp at e2
          | some o => rw [z] at e2; simp at e2; rw [e2]
        obtain ⟨m, _, hl⟩ := I3.loc
        obtain ⟨u, r, l⟩ := hl i y v hi2 e2' (.inr (.inl hi4))
        refine ⟨u, r, ?_⟩
        rcases l with ⟨k, _⟩ | ⟨k, c, ec, z⟩
        . rw [hi4] at k; cases k
        . have hm : (y, NameKind.free) ∈ scope.names := PySem.mem_of_lookup hi3
          refine .inr ⟨.inl ?_, c, by show cl.lookup y = _; rw [hcl1 y hm]; exact ec, ?_⟩
          . show (relabel scope X.env).names.lookup y = _
            rw [show (relabel scope X.env).names.lookup y = _ from ydG y scope.names, hi3]
            simp [hfn, hi4]
          . obtain ⟨o, ho, hd⟩ := z
            exact ⟨o, k4 _ _ ho, hd⟩
    . obtain ⟨v, o, ho, hd⟩ := I3.cell y c (hcle y c e).1
      exact ⟨v, o, k4 _ _ ho, hd⟩
    . have hp : p ∈ X.pn ++ pins := by simpa [cxC] using hp
      obtain ⟨e, n, ne, nf, d⟩ := I3.pin p hp
      exact ⟨k4 _ _ e, n, Cne _ _ e, pinF p hp, d⟩
    . show (none :: ix.map fun i => (σ[i]?).getD none).length = (x :: fr).length
      rw [List.length_cons, List.length_cons, List.length_map, hfr.len]
  have st4 : tn 0 h4 := T.keep _ _ _ st3 fun b _ o e => k4 b o e
  have f4 : ∀ b ∈ fp, b ≠ C /\ b ∉ frs X.stack /\ (∀ y c, cl.lookup y = some c -> c ≠ b) /\ ∀ p ∈ (X.pn ++ pins) ++ ([] : List (Addr × Obj)), p.1 ≠ b := fun b hb => by
    obtain ⟨o, e, _⟩ := T.obj _ _ st3 b hb
    refine ⟨Cne b o e, fun z => ?_, fun y c e => (f3 b hb).2.2.2.2.1 y c (hcle y c e).1, fun p hp => (f3 b hb).2.2.2.2.2 p (by simpa using hp)⟩
    rcases List.mem_cons.mp (stk _ z) with z | z
    . exact (f3 b hb).2.1 z
    . exact (f3 b hb).2.2.1 z
  have stat : ∀ {H' : Hp}, (∀ b ∈ fp, H' b = none) -> ∀ b ∈ fp, yuB (cxC X scope cl C (x :: fr) s3 H3 fp pins) [] H' b := fun hn b hb => ⟨hn b hb, (f4 b hb).1, (f4 b hb).2.1, .inl hb, (f4 b hb).2.2.1, (f4 b hb).2.2.2⟩
  have fin : ∀ {σ' : St} {H' : Hp} {s' : Shared}, Inv (cxC X scope cl C (x :: fr) s3 H3 fp pins) [] σ' H' s' -> yty iy (.ref D) σ H' D0.nx -> compPost (model X.prog X.w) X.A X.xe (some (assign (.Name y py) X.env)) (fun _ s' => SP X pins D0 .next s') (.ref D) C (.ok .next) s' := fun {σ' H' s'} I' q' => by
    obtain ⟨m, hn, _⟩ := I'.loc
    have hCn : H' C = none := I'.free
    have U := I'.base
    have U' : Un (frs X.stack) fp H3 H' s3.heap s'.heap := ⟨U.keep, U.slot, U.free, U.there, U.tups, U.frzs, U.tbls⟩
    have IX : Inv X pins σ H' s' := I3.call' (s' := s') (by show s'.os = s3.os; exact I'.os) U' I'.hok I'.bare fun b hb => ⟨(f3 b hb).2.2.2.1, (f3 b hb).2.1, (f3 b hb).2.2.2.2.1, (f3 b hb).2.2.2.2.2⟩
    have hCf : yuB X pins H' C := I3.fpOk (Nat.le_of_eq hC) hCn
    obtain ⟨o, es, ep, eo, r1, r2, r3⟩ := hn
    have IP := IX.pinned (fp := [C]) (fun b hb => by have e : b = C := by simpa using hb
                                                     subst e; exact hCf) (fun b hb => by have e : b = C := by simpa using hb
                                                                                         subst e; exact ⟨o, eo, fun v z => by rw [r1] at z; cases z⟩)
    refine thn (ynN hN hyi hyx hyf _ s' σ H' (.ref D) (.ref D) D0.nx IP rfl q') fun _ s2 ⟨σ2, H2', I2', q2'⟩ => ?_
    have pc := I2'.pin (C, o) (List.mem_append_right _ (List.mem_append_right _ (yeF (by simp) eo)))
    exact ⟨m, ⟨o, es, ep, pc.1, r1, r2, r3⟩, fun h' sb => ⟨σ2, H2', I2'.unpinned.turned (t' := s2.toks) (fun b ob hb e => (sb.2 b hb).trans e) pc.2.1 hCf.2.1 hCf.2.2.2.1 hCf.2.2.2.2.1 hCf.2.2.2.2.2, q2'⟩⟩
  -- the loop
  have loop : ∀ s5 : Shared, s5 = { s3 with heap := h4, toks := s3.toks + ([] : List (Str × Value)).length } ->
      codeAny (model X.prog X.w) X.A (.compLoop (.ListComp elt [⟨.Name x px, iter, [], 0⟩] scope cpos) 0 (.ref it) (.ref D) (compEnvC scope cl C X.env)) (compPost (model X.prog X.w) X.A X.xe (some (assign (.Name y py) X.env)) (fun _ s' => SP X pins D0 .next s') (.ref D) C) s5 := by
    rintro s5 rfl
    refine codeAny_loop rfl (fun n s' => ∃ i o H', Inv (cxC X scope cl C (x :: fr) s3 H3 fp pins) [] (o :: ix.map fun i => (σ[i]?).getD none) H' s' /\ tn i s'.heap /\ (∀ b ∈ fp, H' b = none) /\ W i n H') ?_ m0 ⟨0, none, H3, I4, st4, fun b hb => (f3 b hb).1, w0⟩
    rintro n s6 ⟨i, o, H6, I6, st6, fr6, w6⟩
    show wpAny _ _ ((compTurn (.ListComp elt [⟨.Name x px, iter, [], 0⟩] scope cpos) 0 (.ref it) (.ref D) (compEnvC scope cl C X.env)).onRaise (fun x => do noteFrame x (compEnvC scope cl C X.env); theTreesLotGoes x)) _ _ s6
    refine wpAny_noted ?_
    rw [compTurn_list1]
    rcases turn i n H6 w6 with ⟨stop, qn⟩ | ⟨go, step⟩
    . refine wpAny_bind (wpAny_standAt (wpAny_bind (thn (T.done (cxC X scope cl C (x :: fr) s3 H3 fp pins) rfl rfl rfl hc i [] s6 _ H6 _ I6 (stat fr6) st6 stop) fun r s7 ⟨hr, I7⟩ => ?_)))
      subst hr
      exact wpAny_pure (fin I7 qn)
    . refine wpAny_bind (wpAny_standAt (wpAny_bind (thn (T.item (cxC X scope cl C (x :: fr) s3 H3 fp pins) rfl rfl rfl hc i [] s6 _ H6 _ I6 (stat fr6) st6 go) fun r s7 ⟨u, hr, h7⟩ => ?_)))
      subst hr
      refine wpAny_bind (thn h7 fun _ s8 ⟨y, H8, I8, r8, y8, st8, fr8⟩ => ?_)
      have I8' := I8.pinned (stat fr8) (T.obj _ _ st8)
      have hx' : Loc (cxC X scope cl C (x :: fr) s3 H3 fp pins).env.scope x := .inl (lookup_relabel_local hx)
      refine wpAny_bind (wpAny_mono (ynN (X := cxC X scope cl C (x :: fr) s3 H3 fp pins) (i := 0) (x := x) (pos := px) hnd rfl hx' (.inr (lookup_relabel_local hx)) _ s8 _ H8 y u (fun σ9 H9 => σ9 = inner ix σ y /\ H9 = H8) I8' r8 ⟨rfl, rfl⟩) (fun _ s9 ⟨σ9, H9, I9, e9, e9'⟩ => ?_) fun _ _ f => f.elim)
      subst e9 e9'
      refine wpAny_bind (wpAny_bind (wpAny_mono (he cl C s3 H3 fp pins _ s9 _ _ _ I9 (step y _ y8)) (fun v s10 ⟨z, H10, I10, r10, acc, a10, l10, m', hm', w10⟩ => ?_) fun _ _ f => f.elim))
      refine wpAny_bind (wpAny_mono (yfI (X := cxC X scope cl C (x :: fr) s3 H3 fp pins) _ s10 _ H10 (.ref D) [z] (.ref D) [v] (fun _ H11 => H11 = upd H10 D (.lst (acc ++ [z]))) I10 rfl (.cons r10 .nil) ⟨D, acc, z, rfl, rfl, a10, l10, rfl⟩) (fun _ s11 ⟨_, H11, I11, _, e11⟩ => ?_) fun _ _ f => f.elim)
      subst e11
      refine wpAny_pure (wpAny_pure ⟨rfl, m', hm', i + 1, some y, _, I11.unpinned, T.keep _ _ _ st8 fun b hb o e => (I11.pin (b, o) (List.mem_append_right _ (List.mem_append_right _ (yeF hb e)))).1, fun b hb => ?_, w10⟩)
      obtain ⟨o, e, d⟩ := T.obj _ _ st8 b hb
      exact (I11.pin (b, o) (List.mem_append_right _ (List.mem_append_right _ (yeF hb e)))).2.1
  exact codeAny_compStart_list (loop _ rfl) (T.self X.A 0 _ _ _ st4 (loop _ rfl))
end L2
namespace PX
open PySem L2 PySem.Spec PyProof.Rows
variable {X : Cx} {A : Nat -> Addr} {x y : Str} {py spos : Pos} {iy : Nat}
theorem yye {elt iter : Expr} {px : Pos} {scope : Scope} {cpos : Pos} {it : XA} {xe : XE} (ix : List Nat) (fr : List Str) (hc : X.calm = true) (hi : ZI X A (.Name x px) iter it) (hfr : FrOk X scope ix fr)
  (he : ∀ (cl : List (Str × Addr)) (C : Addr) (s₃ : Shared) (H₃ : Hp) (fp : List Addr) (pins : List (Addr × Obj)), ZE (cxC X scope cl C (x :: fr) s₃ H₃ fp pins) A elt xe)
  (hnd : (x :: fr).Nodup) (hkind : scope.kind = .function) (hcell : ∀ y ∈ scope.names, y.2 ≠ .cell) (hnames : ∀ y ∈ scope.names, y.2 = .local -> scope.names.lookup y.1 = some .local) (hfree0 : ∀ y ∈ scope.names, y.2 = .free -> y.1 ∈ fr) (hx : scope.names.lookup x = some .local) (hs : ∀ v, foldedSetIterable iter X.env v = pure v)
  (hN : X.N.Nodup) (hyi : X.N[iy]? = some y) (hyx : Loc X.env.scope y) (hyf : X.fn y = true \/ X.env.scope.names.lookup y = some .local) (hsw : swapsWith (.ListComp elt [⟨.Name x px, iter, [], 0⟩] scope cpos) (some (.Name y py)) spos.line X.env = pure true) : ZS X A (.Assign [.Name y py] (.ListComp elt [⟨.Name x px, iter, [], 0⟩] scope cpos) spos) (yfH (ymK (ytP it ix xe)) (ybh iy)) :=
 wS (yAZ ix fr hc hi.of hfr (te := cE (ckX X A) xe) (fun cl C s₃ H₃ fp pins => (he cl C s₃ H₃ fp pins).of) hnd hkind hcell hnames hfree0 hx hs hN hyi hyx hyf hsw) (yvf (yvb (ysO (K := ckX X A) ix sI sE)) (ylH iy))
theorem yBa {k lv : Nat} {f : Addr} {fd : FuncData} {ps : List Str} {p pos : Pos} {fi} (M : Mk X.K (A k) f) (F : FnOk X.prog X.w X.K X.mg X.base CX0 lv f fd ps (spI (ckX X A) 0 k fi)) (hr : Room (lv + 1) X.A) (m : Nm x) (hg : Gl X x) (hm : X.mg x = some (.ref (A k))) (hb : Binds X.K fd ps []) : ZO X A (.Call (.Name x p) [] [] pos) (ymP fi yq) :=
 wO (ywW M F hr hg hm hb .nil ytI m.d) (ysQ (K := ckX X A) (k := k) ylG yrK)
end PX
namespace PX
open PySem L2 PySem.Spec PyProof.Rows KasS PXS
section
variable {X : Cx} {A : Nat -> Addr}
theorem yvX : ∀ (vs : List Value) (ns : List Int), vs.length = ns.length -> (∀ (j : Nat) (v : Value), vs[j]? = some v -> ∃ t n, ns[j]? = some n /\ v = .int n t) -> IntsAre vs ns
 | [], [], _, _ => IntsAre.nil
 | [], _ :: _, h, _ => by cases h
 | _ :: _, [], h, _ => by cases h
 | v :: vs, n :: ns, hl, h => by
  obtain ⟨t, m, e1, e2⟩ := h 0 v rfl
  have e1 : some n = some m := e1
  cases e1
  subst e2
  have ih := yvX vs ns (by simpa using hl) fun j v e => by
   obtain ⟨t, n, e1, e2⟩ := h (j + 1) v (by simpa using e)
   exact ⟨t, n, by simpa using e1, e2⟩
  exact .cons _ _ ih
theorem yjj {vs : List Value} {ns : List Int} (h : IntsAre vs ns) : Vals (ns.map V.int) vs := by
 induction h with
 | nil => exact .nil
 | cons n t _ ih => exact .cons ⟨t, rfl⟩ ih
theorem ymc (hc : X.calm = true) : yjf X (.builtin "sorted") rSK := by
  intro pins s σ H xs us Q I rr hh
  obtain ⟨d, kvs, ns, rfl, hd, hk, h64, q⟩ := hh
  obtain ⟨u, rfl, rx⟩ := vals1 rr
  cases rx
  obtain ⟨z, sy, ws, kv, hD⟩ := I.hok d _ hd
  obtain ⟨ep, hat⟩ := hD.dictAt
  obtain ⟨kv1, kv2⟩ := yzj kv
  have lw : ws.length = kvs.length := by have := congrArg List.length kv1; simpa using this
  have ln : ns.length = kvs.length := by have := congrArg List.length hk; simpa using this.symm
  refine Calls.call_function_entry kind_sorted plain_sorted entry_sorted (args_sorted1 _) ?_
  unfold Builtin.«sorted»
  refine wpAny_bind (m := checkCount "sorted" 1 1 _) (wpAny_pure ?_)
  refine wpAny_bind (PySem.W.kdu_collect (A := X.A.in1) (PySem.W.kdl_dict (knd := ycZ X.prog X.w) (kvs := ws) (ep := ep) sy) (I.ok.hd hc) hat (by rw [lw]; exact z) fun h' tk acc keep hacc => ?_)
  have hal : acc.toList.length = ns.length := by rw [Array.length_toList, hacc.1]; omega
  refine wpAny_bind (wpAny_newList ?_ (by rw [hal, ln]; exact z))
  have ia : IntsAre acc.toList ns := yvX _ _ hal fun j v e => by
    obtain ⟨k, x, e1, e2⟩ := hacc.2 j v (by rw [<- Array.getElem?_toList]; exact e)
    have hj : j < ns.length := by have := (List.getElem?_eq_some_iff.mp e).1; omega
    have h1 : (ws.map (·.1))[j]? = some k := by rw [List.getElem?_map, e1]; rfl
    rw [kv1, hk, List.getElem?_map, List.getElem?_eq_getElem hj] at h1
    have h1 : k = .inl ns[j] := (Option.some.inj h1).symm
    rcases ybH e2 with ⟨i, tk, g1, g2⟩ | ⟨y, tk, g1, g2⟩
    . rw [h1] at g1; cases g1; exact ⟨tk, _, List.getElem?_eq_getElem hj, g2⟩
    . rw [h1] at g1; cases g1
  generalize hB : h'.objs.size = B
  have noB : s.heap.get? B = none := by
    cases e : s.heap.get? B with
    | none => rfl
    | some o => exact absurd (Heap.lt_size (keep B o e)) (by rw [hB]; exact Nat.lt_irrefl _)
  have free : H B = none := by
    cases e2 : H B with
    | none => rfl
    | some o => obtain ⟨u, hu⟩ := yti (I.hok B o e2); rw [noB] at hu; cases hu
  have hoL : (h'.push { cls := .type "list", data := .seq acc.toList.toArray }).get? B = some (seqObj "list" acc.toList.toArray 0) := by rw [<- hB]; exact Heap.get?_push_size _ rfl
  refine wpAny_bind (wpAny_holding (wpAny_call_entry PySem.F.slot_list_sort ⟨_, hoL, rfl⟩ PySem.F.entry_list_sort ?body (PySem.F.args_list_sort_1 _)))
  case body =>
    refine list_sort_tree (s := { s with heap := h'.push { cls := .type "list", data := .seq acc.toList.toArray }, toks := tk }) hoL ia (by omega) fun out ms i1 i2 i3 => ?_
    refine ⟨_, rfl, wpAny_pure ⟨_, rfl, ?_⟩⟩
    generalize hS : sortedHeap (h'.push { cls := .type "list", data := .seq acc.toList.toArray }) B acc.toList out = S
    have hFa : ∀ b o, b ≠ B -> h'.get? b = some o -> S.get? b = some o := fun b o hb e => by
      rw [<- hS]
      unfold sortedHeap
      exact (Heap.get?_update_other _ _ (Ne.symm hb)).trans (Heap.get?_push_of_some _ (Heap.get?_push_of_some _ ((Heap.get?_update_other _ _ (Ne.symm hb)).trans (Heap.get?_push_of_some _ e))))
    have hFB : ∃ c, S.get? B = some (seqObj "list" out c) := by
      rw [<- hS]
      unfold sortedHeap
      exact ⟨_, get?_update_seq (Heap.get?_push_of_some _ (Heap.get?_push_of_some _ (get?_update_seq hoL _))) _⟩
    refine ⟨.ref B, _, ?_, rfl, q B ms i2 i3 free⟩
    show L2.Inv X pins σ _ { s with heap := S, toks := tk }
    refine yvW I (fun b o e => hFa b o (fun z => by rw [z, noB] at e; cases e) (keep b o e)) (fun b o e => ?_) fun b o e e2 => ?_
    . rw [yU fun z => by rw [z, free] at e; cases e]; exact e
    . by_cases hb : b = B
      . subst hb
        rw [yK] at e2
        cases e2
        obtain ⟨c, hc⟩ := hFB
        refine ⟨noB, by rw [List.length_map, i2.length_eq, ln]; exact z, out.toList, c, yjj i1, by simpa using hc⟩
      . rw [yU hb, e] at e2; cases e2
variable {a : Expr} {xa : XE} {aa : XA} {pos p : Pos} {x : Str} {n : Nat}
theorem yBb (hc : X.calm = true) (ha : ZE X A a xa) (m : Nm x) (hg : Gl X x) (hm : X.mg x = none) (hv : bootBuiltins x = some (.builtin "sorted"))
    (he : starEach [a] X.env = (false, eval a X.env) :: starEach [] X.env) (hpl : (backTo pos (starEach [] X.env)).any (·.1) = false) : ZO X A (.Call (.Name x p) [a] [] pos) (ysJ ynC (yd xa yq)) :=
  wO (ynP (ymc hc) hg hm hv (yke ha.of ypI he) m.n m.d he hpl) (yvc (K := ckX X A) yAO (ysM sE ylG))
end
end PX
namespace PX
open PySem L2 PySem.Spec PyProof.Rows KasS PXS
section
variable {X : Cx} {A : Nat -> Addr} {tg a : Expr} {p pos : Pos} {xa : XE}
end
end PX
namespace PX
open PySem L2 PySem.Spec PyProof.Rows
section
variable {X : Cx} {A : Nat -> Addr}
theorem yhd : MtR X "str.find" yuU := by
  intro pins s σ H x xs v us Q I rx rv h
  obtain ⟨z, c, rfl, rfl, hz, hm, q⟩ := h
  obtain ⟨t, rfl⟩ := rx
  obtain ⟨u, rfl, tu, rfl⟩ := vals1 rv
  rcases yzQ z c with ⟨_, h2⟩ | ⟨r, h1, _⟩
  . exact absurd hm h2
  . refine SC.find ?_
    have e : (Txt.find z ⟨#[c]⟩ : Int) = ((z.cps.toList.idxOf c : Nat) : Int) := by
      unfold Txt.find
      rw [h1]
    rw [e]
    exact ⟨.int _, H, I.tok _, ⟨_, rfl⟩, q⟩
variable {pos p apos : Pos} {x m : Str} {e : Expr} {es : List Expr} {aa : XA} {n : Nat}
theorem ymd {a : Addr} {ss : List Str} (nm : Nm x) (hg : Gl X x) (hm : X.mg x = some (.ref a)) (hk : KTp X.K a (ss.map V.str)) : ZE X A (.Name x pos) (xC (.tup (ss.map PV.str))) := wE (yrv hg hm nm.d) (yxX (K := ckX X A) hk)
structure yBc (K : PySem.W.Frag) (C : Addr) (m : Str) (f : Addr) : Prop where
 rd : PySem.W.readsIn K C (.type "type") = true
 fc : PySem.W.findCls K (.ref C) (.type "type") m = some (.val (.ref f))
 sp : PySem.W.specialIn K (.ref C) "__getattribute__" = some (some (.builtin "type.__getattribute__"))
 kp : PySem.W.keepIn K (.ref f) = true
theorem yBd {C f : Addr} {k : Nat} {fd : FuncData} {ps : List Str} {sp : Sp} {E : XK} {t : TA} {pl : Sem Bool} {CX : CXT} (c : yBc X.K C m f) (hg : Gl X x) (hm : X.mg x = some (.ref C)) (F : FnOk X.prog X.w X.K X.mg X.base CX k f fd ps sp) (hr : Room k X.A) (hb : Binds X.K fd ps []) (hx : yji CX X E) (ha : PA X (e :: es) t)
    (hd : (x == ("__debug__" : Str)) = false)
    (hst : starEach (e :: es) X.env = (false, eval e X.env) :: starEach es X.env) (hpl : (backTo pos (starEach es X.env)).any (·.1) = false)
    (ht : eval (.Call (.Attribute (.Name x p) m apos) (e :: es) [] pos) X.env = (do
      let ov <- eval (.Name x p) X.env
      standAt apos.atName
      let (f, first) <- holding [ov] (getMethod ov m pl)
      callWith pos f first (backTo pos (starEach (e :: es) X.env)) (backToKw pos (keywordEach [] X.env)))) :
    PE X (.Call (.Attribute (.Name x p) m apos) (e :: es) [] pos) (ywU sp [] E t) := by
  intro pins s σ H Q I h
  refine PySem.W.methodCall_KW (pl := pl) (thn (yrv (X := X) hg hm hd pins s σ H (fun v H1 => v = .ref C /\ H1 = H) I ⟨rfl, rfl⟩) fun u s1 ⟨v, H1, I1, rx, ex, eh⟩ => ?_) ht
  subst ex eh
  obtain rfl : u = Value.ref C := rx
  refine PySem.W.method_cls I1.kIn c.sp (PySem.W.cls_value I1.kIn c.rd c.fc rfl ?_)
  have I1 := I1.tok (s1.toks + 1)
  refine PySem.W.callWith_K (first := []) (h₀ := X.base) I.ok.mod.kin c.kp (thn (ha pos pins _ σ H1 _ I1 h) fun us s2 ⟨vs, H2, I2, r, q2⟩ => ⟨I2.kIn, ?_⟩) hst hpl
  exact ysC (us := us) (vs := vs) F hr hb .nil hx I2 r q2
theorem yBe {C f : Addr} {lv k : Nat} {fd : FuncData} {ps : List Str} {fi} {pl : Sem Bool} {o : Expr} {sp : Pos} (c : yBc X.K C m f) (nm : Nm x) (hg : Gl X x) (hm : X.mg x = some (.ref C)) (F : FnOk X.prog X.w X.K X.mg X.base CX0 lv f fd ps (spJ (ckX X A) n k fi)) (hr : Room lv X.A) (hb : Binds X.K fd ps [])
    (ho : PE X o (yyz 0)) (ha : ZA X A es n aa) (hst : starEach (o :: es) X.env = (false, eval o X.env) :: starEach es X.env) (hpl : (backTo pos (starEach es X.env)).any (·.1) = false)
    (ht : eval (.Call (.Attribute (.Name x p) m apos) (o :: es) [] pos) X.env = (do
      let ov <- eval (.Name x p) X.env
      standAt apos.atName
      let (f, first) <- holding [ov] (getMethod ov m pl)
      callWith pos f first (backTo pos (starEach (o :: es) X.env)) (backToKw pos (keywordEach [] X.env))))
    (hq : swapsWith (.Call (.Attribute (.Name x p) m apos) (o :: es) [] pos) none sp.line X.env = pure false) : ZF X A (.Expr (.Call (.Attribute (.Name x p) m apos) (o :: es) [] pos) sp) (xBI k fi aa) :=
  wF (yrn (yBd (E := fun _ _ _ => False) c hg hm F hr hb ytI (yke ho ha.of hst) nm.d hst hpl ht) hq) (yAQ (K := ckX X A) sA ha.len)
end
section
variable {P : Program} {w : World} {K : PySem.W.Frag} {mg : Str -> Option Value} {base : Heap} {A : Nat -> Addr}
theorem yGy {x qual : Str} {st : Stmt} {f : Addr} {fd : FuncData} {N ps : List Str} {k kc n : Nat} {s : XS} (F : Fun K x qual st f fd) (S : yo N ps (yb st)) (hn : ps.length = n + 1) (hN : n + 1 <= N.length)
  (h : ∀ (cdv : Value) (Ar : Around) (outer : List Env) (sh : Shared) (H : Hp) (E : XK), Room k (Ar.deeper (envOfC qual (yb st) sh.heap.objs.size f cdv)) -> ZFs (ywX CX0 P w K mg base N qual (yb st) f cdv Ar outer sh H E).nox A (yi st) s) :
  FnOk P w K mg base CX0 (k + 1) f fd ps (spJ ⟨K, A⟩ n kc (ytT N.length kc s)) :=
 F.ok S (fun _ _ _ _ h => (yAP h).trans hn.symm) fun cdv Ar outer sh H vs Q E hr hq => ⟨_, (h cdv Ar outer sh H E hr).of, yvI (K := ⟨K, A⟩) hN sF hq⟩
end
end PX
namespace PX
open PySem L2 PySem.Spec PyProof.Rows
section
variable {X : Cx} {A : Nat -> Addr}
end
end PX
namespace My
open PySem L2 PX
theorem yzk {v0 v1 : PV} {h : AH} : yiL [0] "stack" (.ins 0 ["stack", "last_seen"] [v0, v1]) h = some (v0, h) := ydC (by decide) (by decide +kernel) (by rw [show List.idxOf ("stack" : Str) ["stack", "last_seen"] = 0 by decide +kernel]; rfl)
theorem yuv {v0 v1 : PV} {h : AH} : yiL [0] "last_seen" (.ins 0 ["stack", "last_seen"] [v0, v1]) h = some (v1, h) := ydC (by decide) (by decide +kernel) (by rw [show List.idxOf ("last_seen" : Str) ["stack", "last_seen"] = 1 by decide +kernel]; rfl)
theorem ycd {x : PV} {ρ : PSt} {h : AH} : yor [0] 0 "stack" (.own (.ins 0 [] []) :: ρ) x h = some (.nx (.own (.ins 0 ["stack"] [x]) :: ρ), h) := yfw (by decide) (by decide) (by decide +kernel)
theorem yY {v0 : PV} {x : PV} {ρ : PSt} {h : AH} : yor [0] 0 "last_seen" (.own (.ins 0 ["stack"] [v0]) :: ρ) x h = some (.nx (.own (.ins 0 ["stack", "last_seen"] [v0, x]) :: ρ), h) := yfw (by decide) (by decide) (by decide +kernel)
theorem yyf {v0 v1 v2 v3 : PV} {h : AH} : yiL [1] "held" (.ins 1 ["held", "width", "log", "found"] [v0, v1, v2, v3]) h = some (v0, h) := ydC (by decide) (by decide +kernel) (by rw [show List.idxOf ("held" : Str) ["held", "width", "log", "found"] = 0 by decide +kernel]; rfl)
theorem ywJ {v0 v1 v2 v3 : PV} {h : AH} : yiL [1] "width" (.ins 1 ["held", "width", "log", "found"] [v0, v1, v2, v3]) h = some (v1, h) := ydC (by decide) (by decide +kernel) (by rw [show List.idxOf ("width" : Str) ["held", "width", "log", "found"] = 1 by decide +kernel]; rfl)
theorem yzl {v0 v1 v2 v3 : PV} {h : AH} : yiL [1] "log" (.ins 1 ["held", "width", "log", "found"] [v0, v1, v2, v3]) h = some (v2, h) := ydC (by decide) (by decide +kernel) (by rw [show List.idxOf ("log" : Str) ["held", "width", "log", "found"] = 2 by decide +kernel]; rfl)
theorem ywK {v0 v1 v2 v3 : PV} {h : AH} : yiL [1] "found" (.ins 1 ["held", "width", "log", "found"] [v0, v1, v2, v3]) h = some (v3, h) := ydC (by decide) (by decide +kernel) (by rw [show List.idxOf ("found" : Str) ["held", "width", "log", "found"] = 3 by decide +kernel]; rfl)
theorem ybK {x : PV} {ρ : PSt} {h : AH} : yor [1] 0 "held" (.own (.ins 1 [] []) :: ρ) x h = some (.nx (.own (.ins 1 ["held"] [x]) :: ρ), h) := yfw (by decide) (by decide) (by decide +kernel)
theorem ybu {v0 : PV} {x : PV} {ρ : PSt} {h : AH} : yor [1] 0 "width" (.own (.ins 1 ["held"] [v0]) :: ρ) x h = some (.nx (.own (.ins 1 ["held", "width"] [v0, x]) :: ρ), h) := yfw (by decide) (by decide) (by decide +kernel)
theorem yce {v0 v1 : PV} {x : PV} {ρ : PSt} {h : AH} : yor [1] 0 "log" (.own (.ins 1 ["held", "width"] [v0, v1]) :: ρ) x h = some (.nx (.own (.ins 1 ["held", "width", "log"] [v0, v1, x]) :: ρ), h) := yfw (by decide) (by decide) (by decide +kernel)
theorem ybv {v0 v1 v2 : PV} {x : PV} {ρ : PSt} {h : AH} : yor [1] 0 "found" (.own (.ins 1 ["held", "width", "log"] [v0, v1, v2]) :: ρ) x h = some (.nx (.own (.ins 1 ["held", "width", "log", "found"] [v0, v1, v2, x]) :: ρ), h) := yfw (by decide) (by decide) (by decide +kernel)
theorem ycD {v0 v1 : PV} {h : AH} : yiL [3, 4, 5, 6, 7, 9, 10] "slot" (.ins 3 ["slot", "number"] [v0, v1]) h = some (v0, h) := ydC (by decide) (by decide +kernel) (by rw [show List.idxOf ("slot" : Str) ["slot", "number"] = 0 by decide +kernel]; rfl)
theorem ybL {v0 v1 : PV} {h : AH} : yiL [3] "number" (.ins 3 ["slot", "number"] [v0, v1]) h = some (v1, h) := ydC (by decide) (by decide +kernel) (by rw [show List.idxOf ("number" : Str) ["slot", "number"] = 1 by decide +kernel]; rfl)
theorem ycE {x : PV} {ρ : PSt} {h : AH} : yor [3, 4, 5, 6, 7, 9, 10] 0 "slot" (.own (.ins 3 [] []) :: ρ) x h = some (.nx (.own (.ins 3 ["slot"] [x]) :: ρ), h) := yfw (by decide) (by decide) (by decide +kernel)
theorem ybM {v0 : PV} {x : PV} {ρ : PSt} {h : AH} : yor [3] 0 "number" (.own (.ins 3 ["slot"] [v0]) :: ρ) x h = some (.nx (.own (.ins 3 ["slot", "number"] [v0, x]) :: ρ), h) := yfw (by decide) (by decide) (by decide +kernel)
theorem ybw {v0 v1 v2 v3 : PV} {h : AH} : yiL [4] "word" (.ins 4 ["word", "slot", "one", "other"] [v0, v1, v2, v3]) h = some (v0, h) := ydC (by decide) (by decide +kernel) (by rw [show List.idxOf ("word" : Str) ["word", "slot", "one", "other"] = 0 by decide +kernel]; rfl)
theorem ybx {v0 v1 v2 v3 : PV} {h : AH} : yiL [3, 4, 5, 6, 7, 9, 10] "slot" (.ins 4 ["word", "slot", "one", "other"] [v0, v1, v2, v3]) h = some (v1, h) := ydC (by decide) (by decide +kernel) (by rw [show List.idxOf ("slot" : Str) ["word", "slot", "one", "other"] = 1 by decide +kernel]; rfl)
theorem ybN {v0 v1 v2 v3 : PV} {h : AH} : yiL [4] "one" (.ins 4 ["word", "slot", "one", "other"] [v0, v1, v2, v3]) h = some (v2, h) := ydC (by decide) (by decide +kernel) (by rw [show List.idxOf ("one" : Str) ["word", "slot", "one", "other"] = 2 by decide +kernel]; rfl)
theorem ybj {v0 v1 v2 v3 : PV} {h : AH} : yiL [4] "other" (.ins 4 ["word", "slot", "one", "other"] [v0, v1, v2, v3]) h = some (v3, h) := ydC (by decide) (by decide +kernel) (by rw [show List.idxOf ("other" : Str) ["word", "slot", "one", "other"] = 3 by decide +kernel]; rfl)
theorem yby {x : PV} {ρ : PSt} {h : AH} : yor [4] 0 "word" (.own (.ins 4 [] []) :: ρ) x h = some (.nx (.own (.ins 4 ["word"] [x]) :: ρ), h) := yfw (by decide) (by decide) (by decide +kernel)
theorem ybz {v0 : PV} {x : PV} {ρ : PSt} {h : AH} : yor [3, 4, 5, 6, 7, 9, 10] 0 "slot" (.own (.ins 4 ["word"] [v0]) :: ρ) x h = some (.nx (.own (.ins 4 ["word", "slot"] [v0, x]) :: ρ), h) := yfw (by decide) (by decide) (by decide +kernel)
theorem ybO {v0 v1 : PV} {x : PV} {ρ : PSt} {h : AH} : yor [4] 0 "one" (.own (.ins 4 ["word", "slot"] [v0, v1]) :: ρ) x h = some (.nx (.own (.ins 4 ["word", "slot", "one"] [v0, v1, x]) :: ρ), h) := yfw (by decide) (by decide) (by decide +kernel)
theorem ybk {v0 v1 v2 : PV} {x : PV} {ρ : PSt} {h : AH} : yor [4] 0 "other" (.own (.ins 4 ["word", "slot", "one"] [v0, v1, v2]) :: ρ) x h = some (.nx (.own (.ins 4 ["word", "slot", "one", "other"] [v0, v1, v2, x]) :: ρ), h) := yfw (by decide) (by decide) (by decide +kernel)
theorem ycf {v0 v1 : PV} {h : AH} : yiL [3, 4, 5, 6, 7, 9, 10] "slot" (.ins 5 ["slot", "place"] [v0, v1]) h = some (v0, h) := ydC (by decide) (by decide +kernel) (by rw [show List.idxOf ("slot" : Str) ["slot", "place"] = 0 by decide +kernel]; rfl)
theorem ybP {v0 v1 : PV} {h : AH} : yiL [5, 6] "place" (.ins 5 ["slot", "place"] [v0, v1]) h = some (v1, h) := ydC (by decide) (by decide +kernel) (by rw [show List.idxOf ("place" : Str) ["slot", "place"] = 1 by decide +kernel]; rfl)
theorem ycg {x : PV} {ρ : PSt} {h : AH} : yor [3, 4, 5, 6, 7, 9, 10] 0 "slot" (.own (.ins 5 [] []) :: ρ) x h = some (.nx (.own (.ins 5 ["slot"] [x]) :: ρ), h) := yfw (by decide) (by decide) (by decide +kernel)
theorem ybQ {v0 : PV} {x : PV} {ρ : PSt} {h : AH} : yor [5, 6] 0 "place" (.own (.ins 5 ["slot"] [v0]) :: ρ) x h = some (.nx (.own (.ins 5 ["slot", "place"] [v0, x]) :: ρ), h) := yfw (by decide) (by decide) (by decide +kernel)
theorem ych {v0 v1 : PV} {h : AH} : yiL [5, 6] "place" (.ins 6 ["place", "slot"] [v0, v1]) h = some (v0, h) := ydC (by decide) (by decide +kernel) (by rw [show List.idxOf ("place" : Str) ["place", "slot"] = 0 by decide +kernel]; rfl)
theorem ycF {v0 v1 : PV} {h : AH} : yiL [3, 4, 5, 6, 7, 9, 10] "slot" (.ins 6 ["place", "slot"] [v0, v1]) h = some (v1, h) := ydC (by decide) (by decide +kernel) (by rw [show List.idxOf ("slot" : Str) ["place", "slot"] = 1 by decide +kernel]; rfl)
theorem yci {x : PV} {ρ : PSt} {h : AH} : yor [5, 6] 0 "place" (.own (.ins 6 [] []) :: ρ) x h = some (.nx (.own (.ins 6 ["place"] [x]) :: ρ), h) := yfw (by decide) (by decide) (by decide +kernel)
theorem ycG {v0 : PV} {x : PV} {ρ : PSt} {h : AH} : yor [3, 4, 5, 6, 7, 9, 10] 0 "slot" (.own (.ins 6 ["place"] [v0]) :: ρ) x h = some (.nx (.own (.ins 6 ["place", "slot"] [v0, x]) :: ρ), h) := yfw (by decide) (by decide) (by decide +kernel)
section
local macro_rules | `(tactic| walk_at "px") => `(tactic| simp only [yD, yoa, ymQ, yjm, yjn, x_c, yvn, yoc, ywF, yix, yjo, yjp, yxy, yod, yxz, ylJ, yhC, ymR, yoe, yvo, yof, yog, ylK, x_call, yxA, ymS, yxB, ygX, yjq, yiy, yiJ, yjr, yoh, yhD, yki, ymT, ykU, yjs, yjt, yoi, yoj, yok, yol, ymU, yom, yon, yoo, yop, yoq, x_i, yxC, yju, yjv, yjw, yos, yot, you, yov, yow, yox, yoy, yoz, yoA, yoB, yoC, yxD, yoD, yjx, yfA, yiz, yjy, yjz, yjA, ygY, ygD, yiA, yob, Option.bind_some, Option.bind_none, List.set_cons_zero, List.set_cons_succ, List.length_cons, List.length_nil, decide_eq_true_eq, Bool.not_eq_true', decide_eq_false_iff_not, if_true, if_false, ite_true, ite_false, and_self, Int.reducePow, Int.reduceToNat, Int.reduceLT, Int.reduceLE, Int.reduceNeg, Int.reduceAdd, Int.reduceSub, Nat.reduceLT, Nat.reduceLeDiff, Nat.reduceAdd, true_and, and_true, reduceIte, Nat.reduceEqDiff, eq_self, yut, yuu, yvA, ywG, yxM, yoJ, yoK, yoL, yoM, Int.reduceEq, Bool.not_true, Bool.not_false, ycd, yY, ybK, ybu, yce, ybv, ycD, ybL, ycE, ybM, ybw, ybx, ybN, ybj, yby, ybz, ybO, ybk, ycf, ybP, ycg, ybQ, ych, ycF, yci, ycG, ygZ, yha])
def yP : List (Nat × Nat × Bool) := [(3, 3, true), (3, 4, false), (3, 5, false), (3, 6, false), (3, 7, false), (3, 8, false), (3, 9, false), (3, 10, false), (3, 11, false), (4, 3, false), (4, 4, true), (4, 5, false), (4, 6, false), (4, 7, false), (4, 8, false), (4, 9, false), (4, 10, false), (4, 11, false), (5, 3, false), (5, 4, false), (5, 5, true), (5, 6, false), (5, 7, false), (5, 8, false), (5, 9, false), (5, 10, false), (5, 11, false), (6, 3, false), (6, 4, false), (6, 5, false), (6, 6, true), (6, 7, false), (6, 8, false), (6, 9, false), (6, 10, false), (6, 11, false)]
structure Fa (ck : Ck) : Prop where
 fl_stack : ∀ k ∈ ([0] : List Nat), Cls ck.K (ck.A k) /\ NoAttr ck.K (ck.A k) "stack"
 fl_last_seen : ∀ k ∈ ([0] : List Nat), Cls ck.K (ck.A k) /\ NoAttr ck.K (ck.A k) "last_seen"
 fl_held : ∀ k ∈ ([1] : List Nat), Cls ck.K (ck.A k) /\ NoAttr ck.K (ck.A k) "held"
 fl_width : ∀ k ∈ ([1] : List Nat), Cls ck.K (ck.A k) /\ NoAttr ck.K (ck.A k) "width"
 fl_log : ∀ k ∈ ([1] : List Nat), Cls ck.K (ck.A k) /\ NoAttr ck.K (ck.A k) "log"
 fl_found : ∀ k ∈ ([1] : List Nat), Cls ck.K (ck.A k) /\ NoAttr ck.K (ck.A k) "found"
 fl_slot : ∀ k ∈ ([3, 4, 5, 6, 7, 9, 10] : List Nat), Cls ck.K (ck.A k) /\ NoAttr ck.K (ck.A k) "slot"
 fl_number : ∀ k ∈ ([3] : List Nat), Cls ck.K (ck.A k) /\ NoAttr ck.K (ck.A k) "number"
 fl_word : ∀ k ∈ ([4] : List Nat), Cls ck.K (ck.A k) /\ NoAttr ck.K (ck.A k) "word"
 fl_one : ∀ k ∈ ([4] : List Nat), Cls ck.K (ck.A k) /\ NoAttr ck.K (ck.A k) "one"
 fl_other : ∀ k ∈ ([4] : List Nat), Cls ck.K (ck.A k) /\ NoAttr ck.K (ck.A k) "other"
 fl_place : ∀ k ∈ ([5, 6] : List Nat), Cls ck.K (ck.A k) /\ NoAttr ck.K (ck.A k) "place"
 fl_parts : ∀ k ∈ ([7, 8, 9] : List Nat), Cls ck.K (ck.A k) /\ NoAttr ck.K (ck.A k) "parts"
 fl_others : ∀ k ∈ ([7, 8, 9] : List Nat), Cls ck.K (ck.A k) /\ NoAttr ck.K (ck.A k) "others"
 fl_name : ∀ k ∈ ([9, 10] : List Nat), Cls ck.K (ck.A k) /\ NoAttr ck.K (ck.A k) "name"
 isa : ∀ r ∈ yP, ∀ (H : Hp) (a dx : Addr) (fs : List (Str × V)), H a = some (.ins (ck.A r.1) dx fs) -> IsI ck.K H (.ref a) (.ref (ck.A r.2.1)) r.2.2
noncomputable def ydH : List PV -> AH -> Option (Nd × AH) := ytT 1 0 (yM (ygW [0] 0 "stack" (ymK (ylE (yd (ymK (yql)) (yq))))) (ygW [0] 0 "last_seen" (ymK (yql))))
noncomputable def yfM : Fn := ygC 4 (yM (yfH (xOp (yhA) (yfm [0] "stack" (yg 0)) (xUn yEq (xC (.int 1)))) (ybh 3)) (yoI (yg 3) (yg 1) (yg 2)))
noncomputable def yff : Fn := ygC 3 (yM (yxT true (yfm [0] "stack" (yg 0)) (ybh 2) (yel (ybi (yvx false (yg 1) (yg 2))) (ydf (yrQ (yg 2) (yg 1))) (ycy))) (ydf (xC .non)))
noncomputable def yiP : Fn := ygC 1 (yeo (xBM ykV (yqk) (yfm [0] "stack" (yg 0)) (yd (ymK (yql)) (yq))))
noncomputable def yhP : Fn := ygC 3 (yM (yfH (xBM ykV (yxH) (yfm [0] "stack" (yg 0)) (yq)) (ybh 1)) (yM (yfH (xOp (yhA) (yfm [0] "stack" (yg 0)) (xUn yEq (xC (.int 1)))) (ybh 2)) (yeo (xBM yAN (yFq) (yg 2) (yd (yg 1) (yq))))))
noncomputable def ykm : Fn := ygC 1 (yeo (xBM ykV (yxH) (yfm [0] "stack" (yg 0)) (yq)))
noncomputable def yhQ : Fn := ygC 3 (yoI (yfm [0] "last_seen" (yg 0)) (yg 1) (yg 2))
noncomputable def ygN : Fn := ygC 1 (ydf (ymK (ylS (yfm [0] "last_seen" (yg 0)))))
noncomputable def yfN : Fn := ygC 2 (yM (yfH (xOp (yhA) (yfm [0] "stack" (yg 0)) (xC (.int 0))) (ybh 1)) (ydf (ymK (ylS (yg 1)))))
noncomputable def yjG : Fn := ygC 3 (yM (yel (ybi (xOp (oEq) (yg 0) (xC (.str "plus")))) (ydf (xOp oMod (xOp ywD (yg 1) (yg 2)) (xC (.int 18446744073709551616)))) (ycy)) (yM (yel (ybi (xOp (oEq) (yg 0) (xC (.str "minus")))) (ydf (xOp oMod (xOp yFf (yg 1) (yg 2)) (xC (.int 18446744073709551616)))) (ycy)) (yM (yel (ybi (xOp (oEq) (yg 0) (xC (.str "times")))) (ydf (xOp oMod (xOp yAu (yg 1) (yg 2)) (xC (.int 18446744073709551616)))) (ycy)) (yM (yel (ybi (xOp (oEq) (yg 0) (xC (.str "less")))) (ydf (xIf (ybi (xOp (oLt) (yg 1) (yg 2))) (xC (.int 1)) (xC (.int 0)))) (ycy)) (ydf (xIf (ybi (xOp (oEq) (yg 1) (yg 2))) (xC (.int 1)) (xC (.int 0))))))))
noncomputable def ydi : Fn := ygC 1 (ydf (xBM isStr (yeG) (xC (.str "abcdefgh")) (yd (yg 0) (yq))))
noncomputable def ydj : List PV -> AH -> Option (Nd × AH) := ytT 3 1 (yM (ygW [1] 0 "held" (ymK (ysJ (ydU) (yd (yg 1) (yq))))) (yM (ygW [1] 0 "width" (yg 2)) (ygW [1] 0 "log" (ymK (ymP ydH (yq))))))
noncomputable def yF : Fn := ygC 2 (ydf (xOp (yhA) (yfm [1] "held" (yg 0)) (yfd ydi (yd (yg 1) (yq)))))
noncomputable def ybt : Fn := ygC 3 (ylL (yfm [1] "held" (yg 0)) (yfd ydi (yd (yg 1) (yq))) (yg 2))
noncomputable def ybl : Fn := ygC 2 (ydf (xOp oMod (yC 1 "held_in" yF (yg 0) (yd (yg 1) (yq))) (yfm [1] "width" (yg 0))))
noncomputable def ycS : Fn := ygC 5 (yeo (yC 1 "hold" ybt (yg 0) (yd (yg 2) (yd (yfd yjG (yd (yg 1) (yd (yC 1 "held_in" yF (yg 0) (yd (yg 3) (yq))) (yd (yC 1 "held_in" yF (yg 0) (yd (yg 4) (yq))) (yq))))) (yq)))))
noncomputable def yeq : Fn := ygC 3 (yeo (yC 0 "write" yfM (yfm [1] "log" (yg 0)) (yd (yC 1 "box_at" ybl (yg 0) (yd (yg 1) (yq))) (yd (yC 1 "held_in" yF (yg 0) (yd (yg 2) (yq))) (yq)))))
noncomputable def ydI : Fn := ygC 2 (ydf (xOp (yEr) (yC 0 "own" yff (yfm [1] "log" (yg 0)) (yd (yC 1 "box_at" ybl (yg 0) (yd (yg 1) (yq))) (yq))) (xC .non)))
noncomputable def ydk : Fn := ygC 3 (yeo (yC 1 "hold" ybt (yg 0) (yd (yg 1) (yd (yC 0 "own" yff (yfm [1] "log" (yg 0)) (yd (yC 1 "box_at" ybl (yg 0) (yd (yg 2) (yq))) (yq))) (yq)))))
noncomputable def ycT : Fn := ygC 5 (yM (yfH (yC 1 "box_at" ybl (yg 0) (yd (yg 2) (yq))) (ybh 4)) (yM (yeo (yC 0 "see" yhQ (yfm [1] "log" (yg 0)) (yd (yg 4) (yd (xOp (yhA) (yg 3) (yg 4)) (yq))))) (yeo (yC 1 "hold" ybt (yg 0) (yd (yg 1) (yd (xOp (yhA) (yg 3) (yg 4)) (yq)))))))
noncomputable def ydJ : List PV -> AH -> Option (Nd × AH) := ytT 3 3 (yM (ygW [3, 4, 5, 6, 7, 9, 10] 0 "slot" (yg 1)) (ygW [3] 0 "number" (yg 2)))
noncomputable def ycz : List PV -> AH -> Option (Nd × AH) := ytT 5 4 (yM (ygW [4] 0 "word" (yg 1)) (yM (ygW [3, 4, 5, 6, 7, 9, 10] 0 "slot" (yg 2)) (yM (ygW [4] 0 "one" (yg 3)) (ygW [4] 0 "other" (yg 4)))))
noncomputable def ydl : List PV -> AH -> Option (Nd × AH) := ytT 3 5 (yM (ygW [3, 4, 5, 6, 7, 9, 10] 0 "slot" (yg 1)) (ygW [5, 6] 0 "place" (yg 2)))
noncomputable def ydK : List PV -> AH -> Option (Nd × AH) := ytT 3 6 (yM (ygW [5, 6] 0 "place" (yg 1)) (ygW [3, 4, 5, 6, 7, 9, 10] 0 "slot" (yg 2)))
noncomputable def ycU : List PV -> AH -> Option (Nd × AH) := ytT 3 1 (yM (xBI 1 ydj (yd (yg 2) (yd (xCB (ygV) (yd (yg 1) (yq))) (yq)))) (ygW [1] 0 "found" (xFz (ysJ (ydU) (yd (yg 1) (yq))))))
noncomputable def ycA : Fn := ygC 2 (yel (ybi (yC 1 "sees_at" ydI (yg 0) (yd (yfm [5, 6] "place" (yg 1)) (yq)))) (yeo (yC 1 "take_seen" ycT (yg 0) (yd (yfm [3, 4, 5, 6, 7, 9, 10] "slot" (yg 1)) (yd (yfm [5, 6] "place" (yg 1)) (yd (yfm [1] "found" (yg 0)) (yq)))))) (yeo (yC 1 "take_own" ydk (yg 0) (yd (yfm [3, 4, 5, 6, 7, 9, 10] "slot" (yg 1)) (yd (yfm [5, 6] "place" (yg 1)) (yq))))))
noncomputable def ycj : Fn := ygC 2 (yM (yel (ybi (xCB (yde yP) (yd (yg 1) (yd (xC (.cls 3)) (yq))))) (yeo (yC 1 "hold" ybt (yg 0) (yd (yfm [3, 4, 5, 6, 7, 9, 10] "slot" (yg 1)) (yd (yfm [3] "number" (yg 1)) (yq))))) (ycy)) (yM (yel (ybi (xCB (yde yP) (yd (yg 1) (yd (xC (.cls 4)) (yq))))) (yeo (yC 1 "do_reckon" ycS (yg 0) (yd (yfm [4] "word" (yg 1)) (yd (yfm [3, 4, 5, 6, 7, 9, 10] "slot" (yg 1)) (yd (yfm [4] "one" (yg 1)) (yd (yfm [4] "other" (yg 1)) (yq))))))) (ycy)) (yM (yel (ybi (xCB (yde yP) (yd (yg 1) (yd (xC (.cls 5)) (yq))))) (yeo (yC 1 "take_done" ycA (yg 0) (yd (yg 1) (yq)))) (ycy)) (yel (ybi (xCB (yde yP) (yd (yg 1) (yd (xC (.cls 6)) (yq))))) (yeo (yC 1 "do_put" yeq (yg 0) (yd (yfm [5, 6] "place" (yg 1)) (yd (yfm [3, 4, 5, 6, 7, 9, 10] "slot" (yg 1)) (yq))))) (ycy)))))
mutual
noncomputable def yN : Nat -> Fn
 | 0 => fun _ _ => none
 | n + 1 => ygC 4 (yM (ywB (xIL (yg 1)) (ybh 2) (yM (yfH (yC 1 "part_end" (ycV n) (yg 0) (yd (yg 2) (yq))) (ybh 3)) (yel (ybi (xOp (yxP) (yg 3) (xC (.tup [.str "done"])))) (ydf (yg 3)) (ycy)))) (ydf (xC (.tup [.str "done"]))))
noncomputable def ycV : Nat -> Fn
 | 0 => fun _ _ => none
 | n + 1 => ygC 2 (yM (yel (ybi (xCB (yde yP) (yd (yg 1) (yd (xC (.cls 7)) (yq))))) (ydf (yC 1 "if_end" (yiB n) (yg 0) (yd (yg 1) (yq)))) (ycy)) (yM (yel (ybi (xCB (yde yP) (yd (yg 1) (yd (xC (.cls 8)) (yq))))) (ydf (yC 1 "either_end" (ygi n) (yg 0) (yd (yg 1) (yq)))) (ycy)) (yM (yel (ybi (xCB (yde yP) (yd (yg 1) (yd (xC (.cls 9)) (yq))))) (ydf (yC 1 "try_end" (yhR n) (yg 0) (yd (yg 1) (yq)))) (ycy)) (yM (yel (ybi (xCB (yde yP) (yd (yg 1) (yd (xC (.cls 10)) (yq))))) (ydf (ymM (yd (xC (.str "fell")) (yd (yfm [9, 10] "name" (yg 1)) (yd (yC 1 "held_in" yF (yg 0) (yd (yfm [3, 4, 5, 6, 7, 9, 10] "slot" (yg 1)) (yq))) (yq)))))) (ycy)) (yM (yel (ybi (xCB (yde yP) (yd (yg 1) (yd (xC (.cls 11)) (yq))))) (ydf (xC (.tup [.str "waits"]))) (ycy)) (yM (yeo (yC 1 "plain_done" ycj (yg 0) (yd (yg 1) (yq)))) (ydf (xC (.tup [.str "done"])))))))))
noncomputable def yiB : Nat -> Fn
 | 0 => fun _ _ => none
 | n + 1 => ygC 2 (yM (yel (ybi (xOp (oNe) (yC 1 "held_in" yF (yg 0) (yd (yfm [3, 4, 5, 6, 7, 9, 10] "slot" (yg 1)) (yq))) (xC (.int 0)))) (ydf (yC 1 "list_end" (yN n) (yg 0) (yd (yfm [7, 8, 9] "parts" (yg 1)) (yq)))) (ycy)) (ydf (yC 1 "list_end" (yN n) (yg 0) (yd (yfm [7, 8, 9] "others" (yg 1)) (yq)))))
noncomputable def ygi : Nat -> Fn
 | 0 => fun _ _ => none
 | n + 1 => ygC 3 (yM (yfH (yC 1 "layered_end" (ydW n) (yg 0) (yd (yfm [7, 8, 9] "parts" (yg 1)) (yq))) (ybh 2)) (yM (yel (ybi (xOp (ywI) (yg 2) (xC (.tup [.str "waits"])))) (ydf (yC 1 "list_end" (yN n) (yg 0) (yd (yfm [7, 8, 9] "others" (yg 1)) (yq)))) (ycy)) (ydf (yg 2))))
noncomputable def yhR : Nat -> Fn
 | 0 => fun _ _ => none
 | n + 1 => ygC 3 (yM (yfH (yC 1 "layered_end" (ydW n) (yg 0) (yd (yfm [7, 8, 9] "parts" (yg 1)) (yq))) (ybh 2)) (yM (yel (yFd (ybi (xOp (oEq) (xOp (yhB) (yg 2) (xC (.int 0))) (xC (.str "fell")))) (ybi (xOp (oEq) (xOp (yhB) (yg 2) (xC (.int 1))) (yfm [9, 10] "name" (yg 1))))) (yM (yeo (yC 1 "hold" ybt (yg 0) (yd (yfm [3, 4, 5, 6, 7, 9, 10] "slot" (yg 1)) (yd (xOp (yhB) (yg 2) (xC (.int 2))) (yq))))) (ydf (yC 1 "list_end" (yN n) (yg 0) (yd (yfm [7, 8, 9] "others" (yg 1)) (yq))))) (ycy)) (ydf (yg 2))))
noncomputable def ydW : Nat -> Fn
 | 0 => fun _ _ => none
 | n + 1 => ygC 4 (yM (yfH (ymK (ysJ (ydU) (yd (yfm [1] "held" (yg 0)) (yq)))) (ybh 2)) (yM (yeo (yC 0 "begin" yiP (yfm [1] "log" (yg 0)) (yq))) (yM (yfH (yC 1 "list_end" (yN n) (yg 0) (yd (yg 1) (yq))) (ybh 3)) (yM (yel (ybi (xOp (ywI) (yg 3) (xC (.tup [.str "done"])))) (yeo (yC 0 "settle" yhP (yfm [1] "log" (yg 0)) (yq))) (yM (yeo (yC 0 "drop" ykm (yfm [1] "log" (yg 0)) (yq))) (yAL [1] "held" (yg 0) (yg 2)))) (ydf (yg 3))))))
end
noncomputable def ykn : Fn := ygC 5 (yM (yfH (ymK (ymP ycU (yd (yg 1) (yd (yg 2) (yq))))) (ybh 3)) (yM (yfH (yC 1 "list_end" (yN 20) (yg 3) (yd (yg 0) (yq))) (ybh 4)) (yM (yel (ybi (xOp (ywI) (yg 4) (xC (.tup [.str "done"])))) (ydf (ymM (yd (yg 4) (yd (yC 0 "saw" ygN (yfm [1] "log" (yg 3)) (yq)) (yd (yC 0 "wrote" yfN (yfm [1] "log" (yg 3)) (yq)) (yd (ymK (ysJ (ydU) (yd (yfm [1] "held" (yg 3)) (yq)))) (yq))))))) (ycy)) (ydf (ymM (yd (yg 4) (yd (yC 0 "saw" ygN (yfm [1] "log" (yg 3)) (yq)) (yd (ymK (ylE (yq))) (yd (ymK (ysJ (ydU) (yd (yg 2) (yq)))) (yq))))))))))
noncomputable def yck : Fn := ygC 1 (ydf (xOp oMod (xOp yAu (yg 0) (xC (.int 48271))) (xC (.int 999999999989))))
noncomputable def ycH : Fn := ygC 1 (ydf (xOp oMod (xOp yAu (yg 0) (xC (.int 982451653))) (xOp yCI (xC (.int 2)) (xC (.int 64)))))
noncomputable def yp : Nat -> Fn
 | 0 => fun _ _ => none
 | n + 1 => ygC 3 (yM (yel (ybi (xCB (yde yP) (yd (yg 1) (yd (xC (.ty "int")) (yq))))) (ydf (yrG (xCB (yde yP) (yd (yg 0) (yd (xC (.ty "int")) (yq)))) (yrG (yxc (xCB (yde yP) (yd (yg 0) (yd (xC (.ty "bool")) (yq))))) (xOp (oEq) (yg 0) (yg 1))))) (ycy)) (yM (yel (ybi (xCB (yde yP) (yd (yg 1) (yd (xC (.ty "str")) (yq))))) (ydf (yrG (xCB (yde yP) (yd (yg 0) (yd (xC (.ty "str")) (yq)))) (xOp (oEq) (yg 0) (yg 1)))) (ycy)) (yM (yel (ybi (xCB (yde yP) (yd (yg 1) (yd (xC (.ty "tuple")) (yq))))) (yel (yyN (ybi (xCB (yde yP) (yd (yg 0) (yd (xC (.ty "tuple")) (yq)))))) (ydf (xC (.bl false))) (ycy)) (yel (yyN (ybi (xCB (yde yP) (yd (yg 0) (yd (xC (.ty "list")) (yq)))))) (ydf (xC (.bl false))) (ycy))) (yM (yel (ybi (xOp (oNe) (xCB (ygV) (yd (yg 0) (yq))) (xCB (ygV) (yd (yg 1) (yq))))) (ydf (xC (.bl false))) (ycy)) (yM (ywB (yAr (yd (xCB (ygV) (yd (yg 1) (yq))) (yq))) (ybh 2) (yel (yyN (ybi (yfd (yp n) (yd (xOp (ywH) (yg 0) (yg 2)) (yd (xOp (ywH) (yg 1) (yg 2)) (yq)))))) (ydf (xC (.bl false))) (ycy))) (ydf (xC (.bl true))))))))
noncomputable def yfg : Fn := ygC 11 (yM (yfH (xSl yEs (xC (.str "abcdefgh")) (ylF) (yrH (xOp (yhA) (xFz (ylE (yd (xC (.int 2)) (yd (xC (.int 3)) (yd (xC (.int 8)) (yq)))))) (xOp oMod (yg 0) (xC (.int 3)))))) (ybh 2)) (yM (yfH (xCB (yxu) (yd (yg 2) (yq))) (ybh 3)) (yM (yfH (xOp oDiv (yg 0) (xC (.int 33))) (ybh 4)) (yM (yfH (xOp (yAw) (yg 2) (xOp oMod (yg 4) (yg 3))) (ybh 5)) (yM (yfH (xOp (yAw) (yg 2) (xOp oMod (xOp oDiv (yg 4) (yg 3)) (yg 3))) (ybh 6)) (yM (yfH (xOp (yAw) (yg 2) (xOp oMod (xOp oDiv (xOp oDiv (yg 4) (yg 3)) (yg 3)) (yg 3))) (ybh 7)) (yM (yfH (xOp oMod (xOp oDiv (yg 0) (xC (.int 3))) (xC (.int 11))) (ybh 8)) (yM (yel (ybi (xOp (oEq) (yg 8) (xC (.int 0)))) (ydf (xFz (ylE (yd (ymM (yd (xC (.str "let")) (yd (yg 5) (yd (yfd ycH (yd (yg 1) (yq))) (yq))))) (yq))))) (ycy)) (yM (yel (ybi (xOp (oLt) (yg 8) (xC (.int 3)))) (ydf (xFz (ylE (yd (ymM (yd (xC (.str "let")) (yd (yg 5) (yd (xOp oMod (xOp oDiv (yg 4) (xC (.int 1000))) (xC (.int 4))) (yq))))) (yq))))) (ycy)) (yM (yel (ybi (xOp (oLt) (yg 8) (xC (.int 5)))) (yM (yfH (xOp (yhA) (xFz (ylE (yd (xC (.str "plus")) (yd (xC (.str "minus")) (yd (xC (.str "times")) (yd (xC (.str "less")) (yd (xC (.str "same")) (yq)))))))) (xOp oMod (xOp oDiv (yg 4) (xC (.int 1000))) (xC (.int 5)))) (ybh 9)) (ydf (xFz (ylE (yd (ymM (yd (xC (.str "reckon")) (yd (yg 9) (yd (yg 5) (yd (yg 6) (yd (yg 7) (yq))))))) (yq)))))) (ycy)) (yM (yel (ybi (xOp (oLt) (yg 8) (xC (.int 7)))) (ydf (xFz (ylE (yd (ymM (yd (xC (.str "take")) (yd (yg 5) (yd (yg 6) (yq))))) (yq))))) (ycy)) (yM (yel (ybi (xOp (oLt) (yg 8) (xC (.int 9)))) (ydf (xFz (ylE (yd (ymM (yd (xC (.str "put")) (yd (yg 5) (yd (yg 6) (yq))))) (yq))))) (ycy)) (yM (yfH (xOp (yhA) (xFz (ylE (yd (xC (.str "plus")) (yd (xC (.str "minus")) (yd (xC (.str "times")) (yq)))))) (xOp oMod (xOp oDiv (yg 4) (xC (.int 1000))) (xC (.int 3)))) (ybh 9)) (yM (yfH (xFz (ylE (yd (ymM (yd (xC (.str "let")) (yd (yg 5) (yd (xOp oMod (xOp oDiv (yg 4) (xC (.int 3000))) (xC (.int 3))) (yq))))) (yd (ymM (yd (xC (.str "take")) (yd (yg 6) (yd (yg 5) (yq))))) (yq))))) (ybh 10)) (ydf (xFz (yCw yCM (yg 10) (xFz (ylE (yd (ymM (yd (xC (.str "reckon")) (yd (yg 9) (yd (yg 6) (yd (yg 6) (yd (yg 7) (yq))))))) (yd (ymM (yd (xC (.str "put")) (yd (yg 5) (yd (yg 6) (yq))))) (yq))))))))))))))))))))))
noncomputable def yfh : Fn := ygC 6 (yM (yfH (yfd yck (yd (yg 0) (yq))) (ybh 1)) (yM (yfH (xOp (yhA) (xFz (ylE (yd (xC (.int 1)) (yd (xC (.int 2)) (yd (xC (.int 3)) (yd (xOp ywD (xC (.int 1)) (xOp oMod (xOp oDiv (yg 1) (xC (.int 4))) (xC (.int 16)))) (yq))))))) (xOp oMod (yg 1) (xC (.int 4)))) (ybh 2)) (yM (yve (ylE (yq)) 3) (yM (ywB (yAr (yd (yg 2) (yq))) (ybh 4) (yM (yfH (xFz (ylE (yd (xOp oMod (xOp oDiv (xOp oDiv (yg 1) (xC (.int 64))) (xOp ywD (yg 4) (xC (.int 1)))) (xC (.int 5))) (yd (yfd ycH (yd (xOp ywD (yg 0) (xOp yAu (yg 4) (yg 4))) (yq))) (yq))))) (ybh 5)) (ymN 3 (xOp (yhA) (yg 5) (xOp oMod (xOp ywD (xOp oDiv (yg 1) (xC (.int 1000))) (yg 4)) (xC (.int 2))))))) (yCG 3 (ydf (yg 3)))))))
noncomputable def yfi : Fn := ygC 3 (yM (yfH (yfd yck (yd (yg 0) (yq))) (ybh 1)) (yM (yfH (ymK (ytP (yAr (yd (xC (.int 8)) (yq))) [1] (xOp oMod (xOp oDiv (yg 1) (xOp ywD (xOp yAu (yg 0) (yg 0)) (xC (.int 3)))) (xC (.int 4))))) (ybh 2)) (yM (ylL (yg 2) (xOp oMod (yg 1) (xC (.int 8))) (yfd ycH (yd (yg 0) (yq)))) (ydf (yg 2)))))
noncomputable def ygO : Fn := ygC 3 (yM (yel (ybi (xOp (oEq) (yg 0) (xC (.str "less")))) (ydf (xCB (yvm) (yd (xOp (oLt) (yg 1) (yg 2)) (yq)))) (ycy)) (yM (yel (ybi (xOp (oEq) (yg 0) (xC (.str "same")))) (ydf (xCB (yvm) (yd (xOp (oEq) (yg 1) (yg 2)) (yq)))) (ycy)) (yM (yel (ybi (xOp (oEq) (yg 0) (xC (.str "plus")))) (ydf (xOp oMod (xOp ywD (yg 1) (yg 2)) (xOp yCI (xC (.int 2)) (xC (.int 64))))) (ycy)) (yM (yel (ybi (xOp (oEq) (yg 0) (xC (.str "minus")))) (ydf (xOp oMod (xOp yFf (yg 1) (yg 2)) (xOp yCI (xC (.int 2)) (xC (.int 64))))) (ycy)) (ydf (xOp oMod (xOp yAu (yg 1) (yg 2)) (xOp yCI (xC (.int 2)) (xC (.int 64)))))))))
noncomputable def ydL : Fn := ygC 8 (yel (ybi (xOp (oEq) (xOp (yhB) (yg 0) (xC (.int 0))) (xC (.str "let")))) (ylL (yg 3) (xBM isStr (yeG) (xC (.str "abcdefgh")) (yd (xOp (yhB) (yg 0) (xC (.int 1))) (yq))) (xOp (yhB) (yg 0) (xC (.int 2)))) (yel (ybi (xOp (oEq) (xOp (yhB) (yg 0) (xC (.int 0))) (xC (.str "reckon")))) (yM (yfH (xOp (yhA) (yg 3) (xBM isStr (yeG) (xC (.str "abcdefgh")) (yd (xOp (yhB) (yg 0) (xC (.int 3))) (yq)))) (ybh 5)) (yM (yfH (xOp (yhA) (yg 3) (xBM isStr (yeG) (xC (.str "abcdefgh")) (yd (xOp (yhB) (yg 0) (xC (.int 4))) (yq)))) (ybh 6)) (ylL (yg 3) (xBM isStr (yeG) (xC (.str "abcdefgh")) (yd (xOp (yhB) (yg 0) (xC (.int 2))) (yq))) (yfd ygO (yd (xOp (yhB) (yg 0) (xC (.int 1))) (yd (yg 5) (yd (yg 6) (yq)))))))) (yel (ybi (xOp (oEq) (xOp (yhB) (yg 0) (xC (.int 0))) (xC (.str "put")))) (yM (yfH (xOp oMod (xOp (yhA) (yg 3) (xBM isStr (yeG) (xC (.str "abcdefgh")) (yd (xOp (yhB) (yg 0) (xC (.int 1))) (yq)))) (xCB (ygV) (yd (yg 1) (yq)))) (ybh 7)) (yoI (yg 4) (yg 7) (xOp (yhA) (yg 3) (xBM isStr (yeG) (xC (.str "abcdefgh")) (yd (xOp (yhB) (yg 0) (xC (.int 2))) (yq)))))) (yM (yfH (xOp oMod (xOp (yhA) (yg 3) (xBM isStr (yeG) (xC (.str "abcdefgh")) (yd (xOp (yhB) (yg 0) (xC (.int 2))) (yq)))) (xCB (ygV) (yd (yg 1) (yq)))) (ybh 7)) (yM (yel (ybi (yvx true (yg 7) (yg 4))) (yoI (yg 2) (yg 7) (xOp (yhA) (yg 1) (yg 7))) (ycy)) (ylL (yg 3) (xBM isStr (yeG) (xC (.str "abcdefgh")) (yd (xOp (yhB) (yg 0) (xC (.int 1))) (yq))) (yqm (yg 4) (yg 7) (xOp (yhA) (yg 1) (yg 7)))))))))
noncomputable def yec : Fn := ygC 1 (ydf (xFz (ytP (xIL (xFz (ysJ ynC (yd (yg 0) (yq))))) [0] (ymM (yd (yg 0) (yd (yrQ (yg 1) (yg 0)) (yq)))))))
noncomputable def yfO : Fn := ygC 3 (yM (yve (ylE (yq)) 1) (yM (ywB (xIL (yg 0)) (ybh 2) (yel (ybi (xOp (oEq) (xOp (yhB) (yg 2) (xC (.int 0))) (xC (.str "let")))) (ymN 1 (xFz (ymP ydJ (yd (xOp (yhB) (yg 2) (xC (.int 1))) (yd (xOp (yhB) (yg 2) (xC (.int 2))) (yq)))))) (yel (ybi (xOp (oEq) (xOp (yhB) (yg 2) (xC (.int 0))) (xC (.str "reckon")))) (ymN 1 (xFz (ymP ycz (yd (xOp (yhB) (yg 2) (xC (.int 1))) (yd (xOp (yhB) (yg 2) (xC (.int 2))) (yd (xOp (yhB) (yg 2) (xC (.int 3))) (yd (xOp (yhB) (yg 2) (xC (.int 4))) (yq)))))))) (yel (ybi (xOp (oEq) (xOp (yhB) (yg 2) (xC (.int 0))) (xC (.str "take")))) (ymN 1 (xFz (ymP ydl (yd (xOp (yhB) (yg 2) (xC (.int 1))) (yd (xOp (yhB) (yg 2) (xC (.int 2))) (yq)))))) (ymN 1 (xFz (ymP ydK (yd (xOp (yhB) (yg 2) (xC (.int 1))) (yd (xOp (yhB) (yg 2) (xC (.int 2))) (yq)))))))))) (yCG 1 (ydf (yg 1)))))
noncomputable def yfP : Fn := ygC 14 (yM (yfH (xFz (ylE (yq))) (ybh 2)) (yM (ywB (xIL (yg 0)) (ybh 3) (yfH (xFz (yCw yCM (yg 2) (yfd yfg (yd (yfd yck (yd (yg 3) (yq))) (yd (yg 3) (yq)))))) (ybh 2))) (yM (yfH (yfd yfh (yd (yg 1) (yq))) (ybh 4)) (yM (yfH (yfd yfi (yd (yg 1) (yq))) (ybh 5)) (yM (yfH (ymK (ysJ (ydU) (yd (yg 5) (yq)))) (ybh 6)) (yM (yfH (ymK (yql)) (ybh 7)) (yM (yfH (ymK (yql)) (ybh 8)) (yM (ywB (xIL (yg 2)) (ybh 9) (yeo (yfd ydL (yd (yg 9) (yd (yg 4) (yd (yg 7) (yd (yg 6) (yd (yg 8) (yq))))))))) (yM (yfH (ymM (yd (ymM (yd (xC (.str "done")) (yq))) (yd (yfd yec (yd (yg 7) (yq))) (yd (yfd yec (yd (yg 8) (yq))) (yd (yg 6) (yq)))))) (ybh 10)) (yM (yfH (yfd yfO (yd (yg 2) (yq))) (ybh 11)) (yM (yfH (xFz (ylE (yd (xFz (ysJ (ydU) (yd (yg 4) (yq)))) (yd (xFz (ysJ (ydU) (yd (yg 5) (yq)))) (yq))))) (ybh 12)) (yM (yfH (yfd ykn (yd (yg 11) (yd (xOp (yhA) (yg 12) (xC (.int 0))) (yd (xOp (yhA) (yg 12) (xC (.int 1))) (yq))))) (ybh 13)) (yM (yel (xOr (yyN (ybi (yfd (yp 5) (yd (yg 13) (yd (yg 10) (yq)))))) (xOr (ybi (xOp (yxP) (yg 12) (xFz (ylE (yd (yg 4) (yd (yg 5) (yq))))))) (ybi (xOp (oNe) (xCB (ygV) (yd (yg 11) (yq))) (xCB (ygV) (yd (yg 2) (yq))))))) (ydf (xC (.bl false))) (ycy)) (yM (yeo (xBM ykV (yqk) (xOp (yhB) (yg 13) (xC (.int 1))) (yd (ymM (yd (xC (.int 0)) (yd (xC (.int 0)) (yq)))) (yq)))) (yM (yeo (xBM ykV (yqk) (xOp (yhB) (yg 13) (xC (.int 2))) (yd (ymM (yd (xC (.int 0)) (yd (xC (.int 0)) (yq)))) (yq)))) (yM (yeo (xBM ykV (yqk) (xOp (yhB) (yg 13) (xC (.int 3))) (yd (xC (.int 0)) (yq)))) (ydf (yrG (yfd (yp 5) (yd (yfd ykn (yd (yg 11) (yd (xOp (yhA) (yg 12) (xC (.int 0))) (yd (xOp (yhA) (yg 12) (xC (.int 1))) (yq))))) (yd (yg 10) (yq)))) (xOp (ywI) (yg 12) (xFz (ylE (yd (yg 4) (yd (yg 5) (yq))))))))))))))))))))))))
noncomputable def yyg : Fn := ygC 3 (yM (ywB (yCZ (yd (xC (.int 0)) (yd (xCB (yvz) (yd (xC (.int 1)) (yd (xCB (ygV) (yd (yg 0) (yq))) (yq)))) (yd (xC (.int 19)) (yq))))) (ybh 1) (yM (yfH (xFz (yCx yBI (yg 0) (yrH (yg 1)) (yrH (xOp ywD (yg 1) (xC (.int 19)))))) (ybh 2)) (yel (yyN (ybi (yfd yfP (yd (yg 2) (yd (xOp ywD (xCB (yCP) (yd (xFz (yCx yBI (yg 2) (ylF) (yrH (xC (.int 1))))) (yq))) (xCB (ygV) (yd (yg 2) (yq)))) (yq)))))) (ydf (xC (.bl false))) (ycy)))) (ydf (xC (.bl true))))
section
variable {h : AH}
def Stk (h : AH) : List Nat -> List (List Key × List PV) -> Prop
 | [], [] => True
 | l :: ls, d :: ds => h[l]? = some (.dct d.1 d.2) /\ Stk h ls ds
 | _, _ => False
theorem Stk.len {h : AH} : ∀ {ls : List Nat} {ds : List (List Key × List PV)}, Stk h ls ds -> ds.length = ls.length
 | [], [], _ => rfl
 | _ :: _, _ :: _, s => by rw [List.length_cons, List.length_cons, Stk.len s.2]
 | [], _ :: _, s => s.elim
 | _ :: _, [], s => s.elim
theorem Stk.mono {h h' : AH} : ∀ {ls : List Nat} {ds : List (List Key × List PV)}, Stk h ls ds -> (∀ l ∈ ls, ∀ d, h[l]? = some d -> h'[l]? = some d) -> Stk h' ls ds
 | [], [], _, _ => trivial
 | l :: ls, _ :: _, s, k => ⟨k l List.mem_cons_self _ s.1, Stk.mono s.2 fun l hl => k l (List.mem_cons_of_mem _ hl)⟩
 | [], _ :: _, s, _ => s.elim
 | _ :: _, [], s, _ => s.elim
theorem Stk.app {h : AH} : ∀ {ls ms : List Nat} {ds es : List (List Key × List PV)}, Stk h ls ds -> Stk h ms es -> Stk h (ls ++ ms) (ds ++ es)
 | [], _, [], _, _, t => t
 | _ :: _, _, _ :: _, _, s, t => ⟨s.1, Stk.app s.2 t⟩
 | [], _, _ :: _, _, s, _ => s.elim
 | _ :: _, _, [], _, s, _ => s.elim
theorem Stk.get {h : AH} : ∀ {ls : List Nat} {ds : List (List Key × List PV)} (k : Nat), Stk h ls ds -> k < ls.length -> ∃ l d, ls[k]? = some l /\ ds[k]? = some d /\ h[l]? = some (.dct d.1 d.2)
 | l :: ls, d :: ds, 0, s, _ => ⟨l, d, rfl, rfl, s.1⟩
 | l :: ls, d :: ds, k + 1, s, hk => by
  obtain ⟨l', d', e1, e2, e3⟩ := Stk.get k s.2 (by simpa using hk)
  exact ⟨l', d', by simpa using e1, by simpa using e2, e3⟩
 | [], [], _, _, hk => by simp at hk
 | [], _ :: _, _, s, _ => s.elim
 | _ :: _, [], _, s, _ => s.elim
def yBK (ds : List (List Key × List PV)) (j : Key) : Nat -> PV
 | 0 => .non
 | k + 1 => match ds[k]? with | some d => (match ygS d.1 d.2 j with | some x => x | none => yBK ds j k) | none => .non
structure LG (h : AH) (o s b : Nat) (ls : List Nat) (ds : List (List Key × List PV)) (ks : List Key) (xs : List PV) : Prop where
 ob : h[o]? = some (.ins 0 ["stack", "last_seen"] [.loc s, .loc b])
 st : h[s]? = some (.lst (ls.map .loc))
 sn : h[b]? = some (.dct ks xs)
 dl : Stk h ls ds
theorem yrY {o s b : Nat} (e : h[o]? = some (.ins 0 ["stack", "last_seen"] [.loc s, .loc b])) : yiL [0] "stack" (.loc o) h = some (.loc s, h) := by
 unfold yiL yiI
 simp only [e]
 rw [if_pos (by decide +kernel), show List.idxOf ("stack" : Str) ["stack", "last_seen"] = 0 by decide +kernel]
 rfl
theorem yvY {o s b : Nat} (e : h[o]? = some (.ins 0 ["stack", "last_seen"] [.loc s, .loc b])) : yiL [0] "last_seen" (.loc o) h = some (.loc b, h) := by
 unfold yiL yiI
 simp only [e]
 rw [if_pos (by decide +kernel), show List.idxOf ("last_seen" : Str) ["stack", "last_seen"] = 1 by decide +kernel]
 rfl
theorem yBf {n : Nat} {l : List Nat} {t : Nat} (e : h[n]? = some (.lst ((l ++ [t]).map PV.loc))) : yhA (.loc n) (.int (-1)) h = some (.loc t, h) := by
 unfold yhA
 simp only [e]
 have : atI ((l ++ [t]).map PV.loc) (-1) = some (.loc t) := by
  unfold atI ixN
  simp
  rw [if_pos (by omega), Option.bind_some, show (-1 + ((l.length : Int) + 1)).toNat = l.length by omega]
  simp
 rw [this]
theorem yko {o s b : Nat} {m : Str} {f : Fn} {ys : List PV} {a : XE} {aa : XA} {ρ : PSt} {h0 h2 : AH} (e : h[o]? = some (.ins 0 ["stack", "last_seen"] [.loc s, .loc b])) (ea : a ρ h0 = some (.loc o, h)) (hm : m ∉ (["stack", "last_seen"] : List Str)) (eb : aa ρ h = some (ys, h2)) : yC 0 m f a aa ρ h0 = f (.loc o :: ys) h2 := by
 unfold yC yiI
 rw [ea, yD]
 simp only [e]
 rw [if_pos ⟨trivial, hm⟩, eb, yD]
theorem yBg {n : Nat} {ks : List Key} {xs : List PV} {i : Int} {ek ed : XE} {ρ : PSt} (ek' : ek ρ h = some (.int i, h)) (ed' : ed ρ h = some (.loc n, h)) (e : h[n]? = some (.dct ks xs)) : yvx false ek ed ρ h = some (.bl (ygS ks xs (.inl i)).isSome, h) := by
 unfold yvx
 rw [ek', yD, ed', yD]
 unfold yvw
 simp only [e, keyOf]
 rfl
theorem ytk {n : Nat} {ks : List Key} {xs : List PV} {i : Int} {x : PV} {ek ed : XE} {ρ : PSt} (ed' : ed ρ h = some (.loc n, h)) (ek' : ek ρ h = some (.int i, h)) (e : h[n]? = some (.dct ks xs)) (hx : ygS ks xs (.inl i) = some x) : yrQ ed ek ρ h = some (x, h) := by
 unfold yrQ
 rw [ed', yD, ek', yD]
 unfold yvw
 simp only [e, keyOf, hx]
theorem ylu {n : Nat} {ks : List Key} {xs : List PV} {i : Int} {x : PV} {ed ek ev : XE} {ρ : PSt} (ev' : ev ρ h = some (x, h)) (ed' : ed ρ h = some (.loc n, h)) (ek' : ek ρ h = some (.int i, h)) (e : h[n]? = some (.dct ks xs)) (hl : ks.length < 1000) :
  yoI ed ek ev ρ h = some (.nx ρ, h.set n (.dct (ydV ks xs (.inl i) x).1 (ydV ks xs (.inl i) x).2)) := by
 unfold yoI
 rw [ev', yD, ed', yD, ek', yD]
 simp only [e, keyOf]
 rw [if_pos hl]
end
section
variable {h : AH} {o s b : Nat} {ls : List Nat} {ds : List (List Key × List PV)} {ks : List Key} {xs : List PV}
theorem yyh {i : Int} (g : LG h o s b ls ds ks xs) : ∀ (k : Nat), k <= ls.length -> ∀ c : PVar,
  ob (yvE s true (ybh 2) (yel (ybi (yvx false (yg 1) (yg 2))) (ydf (yrQ (yg 2) (yg 1))) (ycy)) k (ls.length - k) [.val (.loc o), .val (.int i), c] h) (fun o h1 => ob (sqK (ydf (xC .non)) o h1) fnK) = some (yBK ds (.inl i) k, h) := by
 intro k
 induction k with
 | zero =>
  intro _ c
  unfold yvE
  simp only [g.st]
  rw [if_pos (by simp), yD, yjr]
  rfl
 | succ k ih =>
  intro hk c
  unfold yvE
  simp only [g.st]
  obtain ⟨l, d, e1, e2, e3⟩ := g.dl.get k (by omega)
  have e4 : (ls.map PV.loc)[k]? = some (.loc l) := by rw [List.getElem?_map, e1]; rfl
  simp only [if_true, e4]
  have er : ybh 2 (.loc l) [.val (.loc o), .val (.int i), c] = some [.val (.loc o), .val (.int i), .val (.loc l)] := rfl
  rw [er, Option.bind_some, ymT, yix, yBg (n := l) rfl rfl e3, yD, ywF, yD]
  have ek : ls.length - (k + 1) + 1 = ls.length - k := by omega
  unfold yBK
  simp only [e2]
  cases hg : ygS d.1 d.2 (.inl i) with
  | none =>
   rw [if_neg (by simp), yiy, yD]
   dsimp only
   rw [ek]
   exact ih (by omega) _
  | some x =>
   rw [if_pos (show (some x).isSome = true from rfl), yki, ytk (n := l) rfl rfl e3 hg, yD, yD]
   rfl
theorem yDv {i : Int} (g : LG h o s b ls ds ks xs) : yff [.loc o, .int i] h = some (yBK ds (.inl i) ls.length, h) := by
 unfold yff
 rw [yX]
 show ob (yM _ _ [.val (.loc o), .val (.int i), .no] h) fnK = _
 rw [yiJ]
 have := yyh (i := i) g ls.length (Nat.le_refl _) .no
 rw [Nat.sub_self] at this
 rw [ymQ, <- this]
 unfold yxT
 rw [yju, show yg 0 [PVar.val (.loc o), .val (.int i), .no] h = some (.loc o, h) from rfl, yD, yrY g.ob, yD]
 simp only [g.st, List.length_map]
theorem yyi {i : Int} {v : PV} {t : Nat} {d : List Key × List PV} (g : LG h o s b (ls ++ [t]) ds ks xs) (ht : h[t]? = some (.dct d.1 d.2)) (hl : d.1.length < 1000) : yfM [.loc o, .int i, v] h = some (.non, h.set t (.dct (ydV d.1 d.2 (.inl i) v).1 (ydV d.1 d.2 (.inl i) v).2)) := by
 unfold yfM
 rw [yX, yiJ, ykU, yvn, yju, show yg 0 ([PV.loc o, .int i, v].map .val ++ List.replicate (4 - [PV.loc o, .int i, v].length) .no) h = some (.loc o, h) from rfl, yD, yrY g.ob, yD]
 show ob (ob (ob (yhA (.loc s) (.int (-1)) h) _) _) _ = _
 rw [yBf g.st, yD]
 show ob (yoI (yg 3) (yg 1) (yg 2) [.val (.loc o), .val (.int i), .val v, .val (.loc t)] h) fnK = _
 rw [ylu (n := t) (i := i) (x := v) rfl rfl rfl ht hl, yD]
 rfl
theorem yDw {L : List PV} (g : LG h o s b ls ds ks xs) (e : sortI ks xs = some L) : ygN [.loc o] h = some (.loc h.length, h ++ [.lst L]) := by
 unfold ygN
 rw [yX, yki, ylK]
 unfold ylS
 rw [yju, show yg 0 ([PV.loc o].map .val ++ List.replicate (1 - [PV.loc o].length) .no) h = some (.loc o, h) from rfl, yD, yvY g.ob, yD]
 unfold yoG
 simp only [g.sn, e]
 rfl
end
section
variable {h : AH} {o s b : Nat} {ls : List Nat} {ds : List (List Key × List PV)} {ks : List Key} {xs : List PV}
theorem yDx {i : Int} {v : PV} (g : LG h o s b ls ds ks xs) (hl : ks.length < 1000) : yhQ [.loc o, .int i, v] h = some (.non, h.set b (.dct (ydV ks xs (.inl i) v).1 (ydV ks xs (.inl i) v).2)) := by
 unfold yhQ
 rw [yX]
 rw [ylu (n := b) (i := i) (x := v) rfl (by rw [yju]; show ob (some (PV.loc o, h)) _ = _; rw [yD, yvY g.ob]) rfl g.sn hl, yD]
 rfl
end
section
variable {h : AH} {o s b : Nat} {ls : List Nat} {ds : List (List Key × List PV)} {ks : List Key} {xs : List PV}
end
section
variable {h : AH}
def Tl (L : List PV) : Prop := L.length <= 1000 /\ ∀ x ∈ L, ∃ a b, x = .tup [.int a, .int b]
theorem yFZ {i : Int} : yde yP [.int i, .ty "int"] h = some (.bl true, h) := rfl
theorem yGa {i : Int} : yde yP [.int i, .ty "bool"] h = some (.bl false, h) := rfl
theorem yGb {xs} : yde yP [.tup xs, .ty "int"] h = some (.bl false, h) := rfl
theorem yGc {xs} : yde yP [.tup xs, .ty "str"] h = some (.bl false, h) := rfl
theorem yGd {xs} : yde yP [.tup xs, .ty "tuple"] h = some (.bl true, h) := rfl
theorem yGe {xs} : yde yP [.lst xs, .ty "int"] h = some (.bl false, h) := rfl
theorem yGf {xs} : yde yP [.lst xs, .ty "str"] h = some (.bl false, h) := rfl
theorem yDy {xs} : yde yP [.lst xs, .ty "tuple"] h = some (.bl false, h) := rfl
theorem yGg {n : Nat} {xs : List PV} (e : h[n]? = some (.lst xs)) : yde yP [.loc n, .ty "list"] h = some (.bl true, h) := by
 unfold yde ytU yda
 simp only [e]
 rfl
theorem yrZ {n : Nat} {xs : List PV} {i : Nat} (e : h[n]? = some (.lst xs)) (hi : i < xs.length) : ywH (.loc n) (.int i) h = some (xs[i], h) := by
 unfold ywH yhA
 simp only [e]
 rw [yen (List.getElem?_eq_getElem hi)]
local macro_rules | `(tactic| walk_at "pt") => `(tactic| simp only [yD, yoa, ymQ, yjm, yjn, x_c, yvn, yoc, ywF, yix, yjo, yjp, yxy, yod, yxz, ylJ, yhC, ymR, yoe, yvo, yof, yog, ylK, x_call, yxA, ymS, yxB, ygX, yjq, yiy, yiJ, yjr, yoh, yhD, yki, ymT, ykU, yjs, yjt, yoi, yoj, yok, yol, ymU, yom, yon, yoo, yop, yoq, x_i, yxC, yju, yjv, yjw, yos, yot, you, yov, yow, yox, yoy, yoz, yoA, yoB, yoC, yxD, yoD, yjx, yfA, yiz, yjy, yjz, yjA, ygY, ygD, yiA, yob, Option.bind_some, Option.bind_none, List.set_cons_zero, List.set_cons_succ, List.length_cons, List.length_nil, decide_eq_true_eq, Bool.not_eq_true', decide_eq_false_iff_not, if_true, if_false, ite_true, ite_false, and_self, Int.reducePow, Int.reduceToNat, Int.reduceLT, Int.reduceLE, Int.reduceNeg, Int.reduceAdd, Int.reduceSub, Nat.reduceLT, Nat.reduceLeDiff, Nat.reduceAdd, true_and, and_true, reduceIte, Nat.reduceEqDiff, eq_self, yut, yuu, yvA, ywG, yxM, yoJ, yoK, yoL, yoM, Int.reduceEq, Bool.not_true, Bool.not_false, ycd, yY, ybK, ybu, yce, ybv, ycD, ybL, ycE, ybM, ybw, ybx, ybN, ybj, yby, ybz, ybO, ybk, ycf, ybP, ycg, ybQ, ych, ycF, yci, ycG, ygZ, yha, yFZ, yGa, yGb, yGc, yGd, yGe, yGf, yDy, ne_eq, not_true_eq_false])
theorem ysa {n : Nat} {i : Int} : yp (n + 1) [.int i, .int i] h = some (.bl true, h) := by
 unfold yp
 rw [yX]
 show ob (yM _ _ [.val (.int i), .val (.int i), .no] h) fnK = _
 walk_at "pt"
theorem yBh {n : Nat} {a b : Int} : yp (n + 2) [.tup [.int a, .int b], .tup [.int a, .int b]] h = some (.bl true, h) := by
  unfold yp
  rw [yX]
  show ob (yM _ _ [.val (.tup [.int a, .int b]), .val (.tup [.int a, .int b]), .no] h) fnK = _
  walk_at "pt"
  rw [ynB (j := 2) (h1 := h) (by walk_at "pt"; rfl) (by omega) (by omega), yD]
  refine yhM (fun i ρ h1 => h1 = h /\ ∃ c, ρ = [.val (.tup [.int a, .int b]), .val (.tup [.int a, .int b]), c]) ⟨rfl, .no, rfl⟩ ?_ ?_
  . rintro i x ρ h1 hx ⟨rfl, c, rfl⟩
    obtain ⟨hi, rfl⟩ := ylN hx
    rw [Int.zero_add]
    refine ⟨_, [.val (.tup [.int a, .int b]), .val (.tup [.int a, .int b]), .val (.int i)], h1, rfl, .inl ?_, rfl, _, rfl⟩
    have hi : i < 2 := by simpa using hi
    walk_at "pt"
    rw [yen (List.getElem?_eq_getElem (show i < [PV.int a, .int b].length by simpa using hi))]
    walk_at "pt"
    match i, hi with
    | 0, _ => show ob (yp (n + 1) [.int a, .int a] h1) _ = _; rw [ysa]; walk_at "pt"
    | 1, _ => show ob (yp (n + 1) [.int b, .int b] h1) _ = _; rw [ysa]; walk_at "pt"
  . rintro ρ' h' ⟨rfl, c, rfl⟩
    walk_at "pt"
theorem yvZ {f : Nat} {L : List PV} (e : h[f]? = some (.lst L)) (hL : Tl L) : yp 4 [.loc f, .lst L] h = some (.bl true, h) := by
  unfold yp
  rw [yX]
  show ob (yM _ _ [.val (.loc f), .val (.lst L), .no] h) fnK = _
  walk_at "pt"
  rw [yGg e]
  walk_at "pt"
  rw [yoP e]
  walk_at "pt"
  rw [ynB (j := (L.length : Int)) (h1 := h) (by walk_at "pt") (by omega) (by have := hL.1; omega), yD]
  refine yhM (fun i ρ h1 => h1 = h /\ ∃ c, ρ = [.val (.loc f), .val (.lst L), c]) ⟨rfl, .no, rfl⟩ ?_ ?_
  . rintro i x ρ h1 hx ⟨rfl, c, rfl⟩
    obtain ⟨hi, rfl⟩ := ylN hx
    rw [Int.zero_add]
    have hi : i < L.length := by omega
    refine ⟨_, [.val (.loc f), .val (.lst L), .val (.int i)], h1, rfl, .inl ?_, rfl, _, rfl⟩
    walk_at "pt"
    rw [yrZ e hi]
    walk_at "pt"
    rw [yen (List.getElem?_eq_getElem hi)]
    obtain ⟨a, b, eq⟩ := hL.2 _ (List.getElem_mem hi)
    rw [eq]
    walk_at "pt"
    rw [yBh]
    walk_at "pt"
  . rintro ρ' h' ⟨rfl, c, rfl⟩
    walk_at "pt"
end
theorem ykH : ∀ {l₁ l₂ : List (Int × PV)}, l₁.Pairwise (fun a b => a.1 < b.1) -> l₂.Pairwise (fun a b => a.1 < b.1) -> (∀ a, a ∈ l₁ ↔ a ∈ l₂) -> l₁ = l₂
  | [], [], _, _, _ => rfl
  | [], b :: _, _, _, h => absurd ((h b).mpr List.mem_cons_self) (by simp)
  | a :: _, [], _, _, h => absurd ((h a).mp List.mem_cons_self) (by simp)
  | a :: r, b :: t, h1, h2, h => by
    obtain ⟨p1, p2⟩ := List.pairwise_cons.mp h1
    obtain ⟨q1, q2⟩ := List.pairwise_cons.mp h2
    have e : a = b := by
      rcases List.mem_cons.mp ((h a).mp List.mem_cons_self) with e | e
      . exact e
      rcases List.mem_cons.mp ((h b).mpr List.mem_cons_self) with e' | e'
      . exact e'.symm
      have := q1 a e
      have := p1 b e'
      omega
    subst e
    rw [ykH p2 q2 fun x => ⟨fun hx => ?_, fun hx => ?_⟩]
    . rcases List.mem_cons.mp ((h x).mp (List.mem_cons_of_mem _ hx)) with e | e
      . subst e; exact absurd (p1 _ hx) (Int.lt_irrefl _)
      . exact e
    . rcases List.mem_cons.mp ((h x).mpr (List.mem_cons_of_mem _ hx)) with e | e
      . subst e; exact absurd (q1 _ hx) (Int.lt_irrefl _)
      . exact e
theorem ylv {j : Int} {x : PV} : ∀ {js : List Int} {xs : List PV}, js.Nodup -> xs.length = js.length -> ((j, x) ∈ js.zip xs ↔ ygS (js.map .inl) xs (.inl j) = some x)
  | [], [], _, _ => by simp [ygS]
  | [], _ :: _, _, h => by cases h
  | _ :: _, [], _, h => by cases h
  | i :: js, y :: xs, hn, hl => by
    obtain ⟨n1, n2⟩ := List.nodup_cons.mp hn
    have ih := ylv (j := j) (x := x) n2 (by simpa using hl)
    rw [List.zip_cons_cons, List.mem_cons]
    show _ ↔ (if (Sum.inl i : Key) = .inl j then some y else ygS (js.map .inl) xs (.inl j)) = some x
    by_cases e : i = j
    . subst e
      rw [if_pos rfl]
      constructor
      . rintro (z | z)
        . cases z; rfl
        . exact absurd (List.of_mem_zip z).1 n1
      . intro z; cases z; exact .inl rfl
    . rw [if_neg fun z => e (by cases z; rfl), <- ih]
      constructor
      . rintro (z | z)
        . cases z; exact absurd rfl e
        . exact z
      . exact .inr
theorem hasK_int {j : Int} : ∀ {js : List Int}, ynz (js.map .inl) (.inl j) = true ↔ j ∈ js
  | [] => by simp [ynz]
  | i :: js => by
    show (if (Sum.inl i : Key) = .inl j then true else ynz (js.map .inl) (.inl j)) = true ↔ _
    by_cases e : i = j
    . subst e; simp
    . rw [if_neg fun z => e (by cases z; rfl), hasK_int, List.mem_cons]
      exact ⟨.inr, fun z => z.elim (fun z => absurd z.symm e) id⟩
theorem ytl {k : Key} {v : Int} : ∀ (ks : List Key) (vs : List Int), ∃ ws : List Int, setK ks (vs.map PV.int) k (.int v) = ws.map .int /\ ws.length = vs.length
  | [], vs => ⟨vs, by cases vs <;> rfl, rfl⟩
  | _ :: _, [] => ⟨[], rfl, rfl⟩
  | i :: ks, w :: vs => by
    obtain ⟨ws, e, l⟩ := ytl (k := k) (v := v) ks vs
    show ∃ ws : List Int, (if i = k then PV.int v :: setK ks (vs.map PV.int) k (.int v) else .int w :: setK ks (vs.map PV.int) k (.int v)) = ws.map .int /\ _
    split
    . exact ⟨v :: ws, by rw [e]; rfl, by simp [l]⟩
    . exact ⟨w :: ws, by rw [e]; rfl, by simp [l]⟩
structure ID (js vs : List Int) : Prop where
 nd : js.Nodup
 rg : ∀ j ∈ js, 0 <= j /\ j < 16
 ln : vs.length = js.length
theorem ID.put {js vs : List Int} (d : ID js vs) {j v : Int} (hj : 0 <= j /\ j < 16) : ∃ js' vs', ydV (js.map .inl) (vs.map PV.int) (.inl j) (.int v) = (js'.map .inl, vs'.map .int) /\ ID js' vs' /\ js'.length <= js.length + 1 := by
  unfold ydV
  by_cases h : j ∈ js
  . rw [if_pos (hasK_int.mpr h)]
    obtain ⟨ws, e, l⟩ := ytl (k := .inl j) (v := v) (js.map .inl) vs
    exact ⟨js, ws, by rw [e], ⟨d.nd, d.rg, by rw [l, d.ln]⟩, Nat.le_succ _⟩
  . rw [if_neg fun z => h (hasK_int.mp z)]
    refine ⟨js ++ [j], vs ++ [v], by simp, ⟨?_, ?_, by simp [d.ln]⟩, by simp⟩
    . rw [List.nodup_append]
      exact ⟨d.nd, by simp, fun a ha b hb z => by
        have : b = j := by simpa using hb
        subst this; subst z; exact h ha⟩
    . intro i hi
      rcases List.mem_append.mp hi with hi | hi
      . exact d.rg i hi
      . have : i = j := by simpa using hi
        subst this; exact hj
theorem yme : ∀ (js : List Int), ytY (js.map .inl) = some js
  | [] => rfl
  | j :: js => by
    show (ytY (js.map .inl)).map (j :: ·) = _
    rw [yme js]; rfl
def iv16 : List Int := (List.range 16).map fun (k : Nat) => (0 : Int) + (k : Int)
def pk (js vs : List Int) (i : Int) : Option (Int × PV) := (ygS (js.map .inl) (vs.map PV.int) (.inl i)).map fun x => (i, x)
theorem ywa {js vs : List Int} (d : ID js vs) : yoR (js.zip (vs.map PV.int)) = iv16.filterMap (pk js vs) := by
  have hl : (vs.map PV.int).length = js.length := by simp [d.ln]
  have hk : (js.zip (vs.map PV.int)).map (·.1) = js := List.map_fst_zip (by omega)
  refine ykH ?_ ?_ fun a => ?_
  . have h1 := ylt (js.zip (vs.map PV.int))
    have h2 : ((yoR (js.zip (vs.map PV.int))).map (·.1)).Nodup := by
      have := ((yeH (js.zip (vs.map PV.int))).map (·.1))
      rw [hk] at this
      exact this.nodup_iff.mpr d.nd
    exact (h1.and (List.pairwise_map.mp h2)).imp fun ⟨a, b⟩ => by omega
  . refine List.Pairwise.filterMap (R := fun a b => a < b) (pk js vs) (fun a a' hlt b hb b' hb' => ?_) (by decide)
    unfold pk at hb hb'
    obtain ⟨x, _, rfl⟩ := Option.map_eq_some_iff.mp hb
    obtain ⟨x', _, rfl⟩ := Option.map_eq_some_iff.mp hb'
    exact hlt
  . obtain ⟨j, x⟩ := a
    rw [(yeH _).mem_iff, ylv d.nd hl, List.mem_filterMap]
    constructor
    . intro e
      have hj : j ∈ js := (List.of_mem_zip ((ylv d.nd hl).mpr e)).1
      obtain ⟨r1, r2⟩ := d.rg j hj
      refine ⟨j, ?_, by unfold pk; rw [e]; rfl⟩
      unfold iv16
      exact List.mem_map.mpr ⟨j.toNat, List.mem_range.mpr (by omega), by omega⟩
    . rintro ⟨i, _, e⟩
      unfold pk at e
      obtain ⟨y, e1, e2⟩ := Option.map_eq_some_iff.mp e
      cases e2
      exact e1
def ysb (js vs : List Int) : List PV := (iv16.filterMap (pk js vs)).map fun p => .tup [.int p.1, p.2]
theorem ytm {js vs : List Int} (d : ID js vs) (h64 : js.length < 64) : sortI (js.map .inl) (vs.map PV.int) = some (ysb js vs) := by
 unfold sortI
 rw [yme]
 dsimp only
 rw [if_pos h64, ywa d]
 rfl
theorem yyj {ks : List Key} {j : Key} : ∀ {vs : List Int} {x : PV}, ygS ks (vs.map PV.int) j = some x -> ∃ v, x = .int v := by
  induction ks with
  | nil => intro vs x e; cases vs <;> cases e
  | cons k ks ih =>
    intro vs x e
    cases vs with
    | nil => cases e
    | cons v vs =>
      have e : (if k = j then some (PV.int v) else ygS ks (vs.map PV.int) j) = some x := e
      split at e
      . cases e; exact ⟨v, rfl⟩
      . exact ih e
inductive T where
 | let_ (r : Str) (n : Int)
 | reckon (w r s t : Str)
 | take (r s : Str)
 | put (s t : Str)
 | if_ (r : Str) (a b : List T)
 | either (a b : List T)
 | try_ (a : List T) (nm r : Str) (b : List T)
 | throw (nm r : Str)
 | wait
mutual
def ydD : T -> PV
 | .let_ r n => .ins 3 ["slot", "number"] [.str r, .int n]
 | .reckon w r s t => .ins 4 ["word", "slot", "one", "other"] [.str w, .str r, .str s, .str t]
 | .take r s => .ins 5 ["slot", "place"] [.str r, .str s]
 | .put s t => .ins 6 ["place", "slot"] [.str s, .str t]
 | .if_ r a b => .ins 7 ["slot", "parts", "others"] [.str r, .lst (ymf a), .lst (ymf b)]
 | .either a b => .ins 8 ["parts", "others"] [.lst (ymf a), .lst (ymf b)]
 | .try_ a nm r b => .ins 9 ["parts", "name", "slot", "others"] [.lst (ymf a), .str nm, .str r, .lst (ymf b)]
 | .throw nm r => .ins 10 ["name", "slot"] [.str nm, .str r]
 | .wait => .ins 11 [] []
def ymf : List T -> List PV
 | [] => []
 | t :: r => ydD t :: ymf r
end
def SL : List Str := ["a", "b", "c", "d", "e", "f", "g", "h"]
def okS (r : Str) : Prop := r ∈ SL
def sx (r : Str) : Nat := SL.idxOf r
def WDS : List Str := ["plus", "minus", "times", "less", "same"]
def okW (w : Str) : Prop := w ∈ WDS
def N64 (v : Int) : Prop := 0 <= v /\ v < 18446744073709551616
mutual
def okT : T -> Prop
 | .let_ r n => okS r /\ N64 n
 | .reckon w r s t => okW w /\ okS r /\ okS s /\ okS t
 | .take r s => okS r /\ okS s
 | .put s t => okS s /\ okS t
 | .if_ r a b => okS r /\ okL a /\ okL b
 | .either a b => okL a /\ okL b
 | .try_ a _ r b => okS r /\ okL a /\ okL b
 | .throw _ r => okS r
 | .wait => True
def okL : List T -> Prop
 | [] => True
 | t :: r => okT t /\ okL r
end
theorem yqv {r : Str} (h : okS r) : sx r < 8 := List.idxOf_lt_length_of_mem h
abbrev Vw := Int -> Option Int
def upV (f : Vw) (j v : Int) : Vw := fun i => if i = j then some v else f i
structure AS where
 hs : List Int
 v : Vw
 s : Vw
def rk (w : Str) (a b : Int) : Int :=
 if w = "plus" then (a + b) % 18446744073709551616 else if w = "minus" then (a - b) % 18446744073709551616 else if w = "times" then a * b % 18446744073709551616 else if w = "less" then (if a < b then 1 else 0) else if a = b then 1 else 0
def AS.at_ (σ : AS) (r : Str) : Int := σ.hs.getD (sx r) 0
def AS.put_ (σ : AS) (r : Str) (v : Int) : AS := ⟨σ.hs.set (sx r) v, σ.v, σ.s⟩
def AS.box (σ : AS) (bx : List Int) (r : Str) : Int := σ.at_ r % bx.length
def tkV (bx : List Int) (σ : AS) (r : Str) (j : Int) : Option Int -> AS
 | some v => σ.put_ r v
 | none => (⟨σ.hs, σ.v, upV σ.s j (bx.getD j.toNat 0)⟩ : AS).put_ r (bx.getD j.toNat 0)
def evP (bx : List Int) : T -> AS -> AS
 | .let_ r n, σ => σ.put_ r n
 | .reckon w r s t, σ => σ.put_ r (rk w (σ.at_ s) (σ.at_ t))
 | .take r s, σ => tkV bx σ r (σ.box bx s) (σ.v (σ.box bx s))
 | .put s t, σ => ⟨σ.hs, upV σ.v (σ.box bx s) (σ.at_ t), σ.s⟩
 | _, σ => σ
def gI (d : List Key × List PV) (j : Int) : Option Int := match ygS d.1 d.2 (.inl j) with | some (.int v) => some v | _ => none
def orV : Option Int -> Option Int -> Option Int
 | some v, _ => some v
 | none, b => b
def vwN (ds : List (List Key × List PV)) (j : Int) : Nat -> Option Int
 | 0 => none
 | k + 1 => match ds[k]? with | some d => orV (gI d j) (vwN ds j k) | none => none
def ofO : Option Int -> PV | none => .non | some v => .int v
section
variable {h h' : AH}
theorem ykX {i : Nat} {d : Nd} (e : h[i]? = some d) : i < h.length := (List.getElem?_eq_some_iff.mp e).1
theorem yhS {i : Nat} {d x : Nd} (e : h[i]? = some d) : (h ++ [x])[i]? = some d := by rw [List.getElem?_append_left (ykX e)]; exact e
theorem yw {i t : Nat} {d x : Nd} (hi : i ≠ t) (e : h[i]? = some d) : (h.set t x)[i]? = some d := (List.getElem?_set_ne (Ne.symm hi)).trans e
theorem set_same {t : Nat} {d x : Nd} (e : h[t]? = some d) : (h.set t x)[t]? = some x := List.getElem?_set_self (ykX e)
def Frm (N : Nat) (h h' : AH) : Prop := h.length <= h'.length /\ ∀ n, n < N -> h'[n]? = h[n]?
theorem Frm.refl {N : Nat} : Frm N h h := ⟨Nat.le_refl _, fun _ _ => rfl⟩
theorem Frm.trans {N : Nat} {h1 h2 : AH} (a : Frm N h h1) (b : Frm N h1 h2) : Frm N h h2 := ⟨Nat.le_trans a.1 b.1, fun n hn => (b.2 n hn).trans (a.2 n hn)⟩
theorem Frm.set {N t : Nat} {x : Nd} (a : Frm N h h') (ht : N <= t) : Frm N h (h'.set t x) := ⟨by rw [List.length_set]; exact a.1, fun n hn => (List.getElem?_set_ne (by omega)).trans (a.2 n hn)⟩
def isID (d : List Key × List PV) : Prop := ∃ js vs, d = (js.map .inl, vs.map .int) /\ ID js vs
theorem ID.le {js vs : List Int} (d : ID js vs) : js.length <= 16 := by
 have : js.length <= iv16.length := List.Nodup.length_le_of_subset d.nd fun j hj => by
  obtain ⟨r1, r2⟩ := d.rg j hj
  unfold iv16
  exact List.mem_map.mpr ⟨j.toNat, List.mem_range.mpr (by omega), by omega⟩
 exact this
theorem isID.put {d : List Key × List PV} (hd : isID d) {j v : Int} (hj : 0 <= j /\ j < 16) : isID (ydV d.1 d.2 (.inl j) (.int v)) := by
 obtain ⟨js, vs, rfl, d⟩ := hd
 obtain ⟨js', vs', e, d', _⟩ := d.put (v := v) hj
 exact ⟨js', vs', e, d'⟩
theorem isID.len {d : List Key × List PV} (hd : isID d) : d.1.length <= 16 := by
 obtain ⟨js, vs, rfl, d⟩ := hd
 show (js.map _).length <= 16
 rw [List.length_map]; exact d.le
theorem isID.nil : isID ([], []) := ⟨[], [], rfl, by simp, by simp, rfl⟩
theorem yyk {ks : List Key} {xs : List PV} {k j : Key} {x : PV} (hl : xs.length = ks.length) : ygS (ydV ks xs k x).1 (ydV ks xs k x).2 j = if k = j then some x else ygS ks xs j := by
  unfold ydV
  have app : ∀ (ks : List Key) (xs : List PV), xs.length = ks.length -> ynz ks k = false -> ygS (ks ++ [k]) (xs ++ [x]) j = if k = j then some x else ygS ks xs j := by
    intro ks
    induction ks with
    | nil => intro xs hl _; have : xs = [] := by simpa using hl
             subst this; show (if k = j then some x else none) = _; split <;> rfl
    | cons i ks ih =>
      intro xs hl hh
      cases xs with
      | nil => simp at hl
      | cons y xs =>
        have hh : (if i = k then true else ynz ks k) = false := hh
        have hik : ¬ i = k := fun z => by rw [if_pos z] at hh; cases hh
        rw [if_neg hik] at hh
        show (if i = j then some y else ygS (ks ++ [k]) (xs ++ [x]) j) = if k = j then some x else if i = j then some y else ygS ks xs j
        rw [ih xs (by simpa using hl) hh]
        by_cases h1 : i = j
        . rw [if_pos h1, if_neg fun z => hik (h1.trans z.symm), if_pos h1]
        . rw [if_neg h1, if_neg h1]
  have st : ∀ (ks : List Key) (xs : List PV), xs.length = ks.length -> ynz ks k = true -> ygS ks (setK ks xs k x) j = if k = j then some x else ygS ks xs j := by
    intro ks
    induction ks with
    | nil => intro xs hl hh; cases hh
    | cons i ks ih =>
      intro xs hl hh
      cases xs with
      | nil => simp at hl
      | cons y xs =>
        by_cases hik : i = k
        . subst hik
          have e : setK (i :: ks) (y :: xs) i x = x :: setK ks xs i x := if_pos rfl
          rw [e]
          show (if i = j then some x else ygS ks (setK ks xs i x) j) = if i = j then some x else if i = j then some y else ygS ks xs j
          by_cases h1 : i = j
          . rw [if_pos h1, if_pos h1]
          . rw [if_neg h1, if_neg h1, if_neg h1]
            by_cases h2 : ynz ks i = true
            . rw [ih xs (by simpa using hl) h2, if_neg h1]
            . have : ∀ (ks : List Key) (xs : List PV), ynz ks i = false -> setK ks xs i x = xs := by
                intro ks
                induction ks with
                | nil => intro xs _; cases xs <;> rfl
                | cons a ks ih2 =>
                  intro xs hh
                  have hh : (if a = i then true else ynz ks i) = false := hh
                  have hai : ¬ a = i := fun z => by rw [if_pos z] at hh; cases hh
                  rw [if_neg hai] at hh
                  cases xs with
                  | nil => rfl
                  | cons b xs =>
                    show (if a = i then x :: setK ks xs i x else b :: setK ks xs i x) = _
                    rw [if_neg hai, ih2 xs hh]
              rw [this ks xs (by simpa using h2)]
        . have hh : (if i = k then true else ynz ks k) = true := hh
          rw [if_neg hik] at hh
          have e : setK (i :: ks) (y :: xs) k x = y :: setK ks xs k x := if_neg hik
          rw [e]
          show (if i = j then some y else ygS ks (setK ks xs k x) j) = if k = j then some x else if i = j then some y else ygS ks xs j
          rw [ih xs (by simpa using hl) hh]
          by_cases h1 : i = j
          . rw [if_pos h1, if_neg fun z => hik (h1.trans z.symm), if_pos h1]
          . rw [if_neg h1, if_neg h1]
  by_cases hh : ynz ks k = true
  . rw [if_pos hh]; exact st ks xs hl hh
  . rw [if_neg hh]; exact app ks xs hl (by simpa using hh)
theorem isID.ln {d : List Key × List PV} (hd : isID d) : d.2.length = d.1.length := by
 obtain ⟨js, vs, rfl, d⟩ := hd
 simp [d.ln]
theorem isID.get {d : List Key × List PV} (hd : isID d) (j : Int) : ygS d.1 d.2 (.inl j) = (gI d j).map .int := by
 obtain ⟨js, vs, rfl, _⟩ := hd
 unfold gI
 cases e : ygS (js.map .inl) (vs.map PV.int) (.inl j) with
 | none => rfl
 | some x => obtain ⟨v, rfl⟩ := yyj e; rfl
theorem ytn {d : List Key × List PV} (hd : isID d) {k j v : Int} : gI (ydV d.1 d.2 (.inl k) (.int v)) j = if j = k then some v else gI d j := by
  unfold gI
  rw [yyk hd.ln]
  by_cases h : j = k
  . subst h; rw [if_pos rfl, if_pos rfl]
  . rw [if_neg fun z => h (by cases z; rfl), if_neg h]
theorem ywb {ds : List (List Key × List PV)} (hi : ∀ d ∈ ds, isID d) {j : Int} : ∀ k, yBK ds (.inl j) k = ofO (vwN ds j k)
 | 0 => rfl
 | k + 1 => by
  unfold yBK vwN
  cases e : ds[k]? with
  | none => rfl
  | some d =>
   have := (hi d (List.mem_of_getElem? e)).get j
   simp only [this]
   cases gI d j with
   | none => exact ywb hi k
   | some v => rfl
theorem ywc {es fs : List (List Key × List PV)} {j : Int} : ∀ k, k <= es.length -> vwN (es ++ fs) j k = vwN es j k
 | 0, _ => rfl
 | k + 1, hk => by
  unfold vwN
  rw [List.getElem?_append_left (by omega), ywc k (by omega)]
theorem yDz {es : List (List Key × List PV)} {d : List Key × List PV} {j : Int} : vwN (es ++ [d]) j (es ++ [d]).length = orV (gI d j) (vwN es j es.length) := by
 rw [List.length_append]
 show vwN (es ++ [d]) j (es.length + 1) = _
 rw [vwN]
 rw [List.getElem?_append_right (Nat.le_refl _), Nat.sub_self, ywc es.length (Nat.le_refl _)]
 rfl
end
theorem yoZ : (("minus" : Str) = "plus") = False := eq_false (by decide +kernel)
theorem ypa : (("plus" : Str) = "minus") = False := eq_false (by decide +kernel)
theorem ypb : (("times" : Str) = "plus") = False := eq_false (by decide +kernel)
theorem ypc : (("plus" : Str) = "times") = False := eq_false (by decide +kernel)
theorem ymV : (("times" : Str) = "minus") = False := eq_false (by decide +kernel)
theorem ymW : (("minus" : Str) = "times") = False := eq_false (by decide +kernel)
theorem yqw : (("less" : Str) = "plus") = False := eq_false (by decide +kernel)
theorem yqx : (("plus" : Str) = "less") = False := eq_false (by decide +kernel)
theorem ypd : (("less" : Str) = "minus") = False := eq_false (by decide +kernel)
theorem ype : (("minus" : Str) = "less") = False := eq_false (by decide +kernel)
theorem ypf : (("less" : Str) = "times") = False := eq_false (by decide +kernel)
theorem ypg : (("times" : Str) = "less") = False := eq_false (by decide +kernel)
theorem yqy : (("same" : Str) = "plus") = False := eq_false (by decide +kernel)
theorem yqz : (("plus" : Str) = "same") = False := eq_false (by decide +kernel)
theorem yph : (("same" : Str) = "minus") = False := eq_false (by decide +kernel)
theorem ypi : (("minus" : Str) = "same") = False := eq_false (by decide +kernel)
theorem ypj : (("same" : Str) = "times") = False := eq_false (by decide +kernel)
theorem ypk : (("times" : Str) = "same") = False := eq_false (by decide +kernel)
theorem yqA : (("same" : Str) = "less") = False := eq_false (by decide +kernel)
local macro_rules | `(tactic| walk_at "pw") => `(tactic| simp only [yD, yoa, ymQ, yjm, yjn, x_c, yvn, yoc, ywF, yix, yjo, yjp, yxy, yod, yxz, ylJ, yhC, ymR, yoe, yvo, yof, yog, ylK, x_call, yxA, ymS, yxB, ygX, yjq, yiy, yiJ, yjr, yoh, yhD, yki, ymT, ykU, yjs, yjt, yoi, yoj, yok, yol, ymU, yom, yon, yoo, yop, yoq, x_i, yxC, yju, yjv, yjw, yos, yot, you, yov, yow, yox, yoy, yoz, yoA, yoB, yoC, yxD, yoD, yjx, yfA, yiz, yjy, yjz, yjA, ygY, ygD, yiA, yob, Option.bind_some, Option.bind_none, List.set_cons_zero, List.set_cons_succ, List.length_cons, List.length_nil, decide_eq_true_eq, Bool.not_eq_true', decide_eq_false_iff_not, if_true, if_false, ite_true, ite_false, and_self, Int.reducePow, Int.reduceToNat, Int.reduceLT, Int.reduceLE, Int.reduceNeg, Int.reduceAdd, Int.reduceSub, Nat.reduceLT, Nat.reduceLeDiff, Nat.reduceAdd, true_and, and_true, reduceIte, Nat.reduceEqDiff, eq_self, yut, yuu, yvA, ywG, yxM, yoJ, yoK, yoL, yoM, Int.reduceEq, Bool.not_true, Bool.not_false, ycd, yY, ybK, ybu, yce, ybv, ycD, ybL, ycE, ybM, ybw, ybx, ybN, ybj, yby, ybz, ybO, ybk, ycf, ybP, ycg, ybQ, ych, ycF, yci, ycG, ygZ, yha, yoZ, ypa, ypb, ypc, ymV, ymW, yqw, yqx, ypd, ype, ypf, ypg, yqy, yqz, yph, ypi, ypj, ypk, yqA])
section
variable {h : AH}
structure DG (h : AH) (N d hl o s b : Nat) (l : List Nat) (t : Nat) (es : List (List Key × List PV)) (bx hs : List Int) (top : List Key × List PV) (sj sv : List Int) : Prop where
 ob : h[d]? = some (.ins 1 ["held", "width", "log", "found"] [.loc hl, .int bx.length, .loc o, .lst (bx.map .int)])
 hh : h[hl]? = some (.lst (hs.map .int))
 g : LG h o s b (l ++ [t]) (es ++ [top]) (sj.map .inl) (sv.map .int)
 st : Stk h l es
 tp : h[t]? = some (.dct top.1 top.2)
 nd : (d :: hl :: o :: s :: b :: (l ++ [t])).Nodup
 ge : ∀ x ∈ d :: hl :: o :: s :: b :: (l ++ [t]), N <= x
 idT : isID top
 idE : ∀ e ∈ es, isID e
 idS : ID sj sv
 h8 : hs.length = 8
 b1 : 1 <= bx.length
 b16 : bx.length <= 16
variable {N d hl o s b t : Nat} {l : List Nat} {es : List (List Key × List PV)} {bx hs : List Int} {top : List Key × List PV} {sj sv : List Int}
theorem ywd {u1 u2 u3 u4 : PV} (e : h[d]? = some (.ins 1 ["held", "width", "log", "found"] [u1, u2, u3, u4])) : yiL [1] "held" (.loc d) h = some (u1, h) := by
 unfold yiL yiI
 simp only [e]
 rw [if_pos (by decide +kernel), show List.idxOf ("held" : Str) ["held", "width", "log", "found"] = 0 by decide +kernel]
 rfl
theorem yBi {u1 u2 u3 u4 : PV} (e : h[d]? = some (.ins 1 ["held", "width", "log", "found"] [u1, u2, u3, u4])) : yiL [1] "width" (.loc d) h = some (u2, h) := by
 unfold yiL yiI
 simp only [e]
 rw [if_pos (by decide +kernel), show List.idxOf ("width" : Str) ["held", "width", "log", "found"] = 1 by decide +kernel]
 rfl
theorem yua {u1 u2 u3 u4 : PV} (e : h[d]? = some (.ins 1 ["held", "width", "log", "found"] [u1, u2, u3, u4])) : yiL [1] "log" (.loc d) h = some (u3, h) := by
 unfold yiL yiI
 simp only [e]
 rw [if_pos (by decide +kernel), show List.idxOf ("log" : Str) ["held", "width", "log", "found"] = 2 by decide +kernel]
 rfl
theorem yBj {u1 u2 u3 u4 : PV} (e : h[d]? = some (.ins 1 ["held", "width", "log", "found"] [u1, u2, u3, u4])) : yiL [1] "found" (.loc d) h = some (u4, h) := by
 unfold yiL yiI
 simp only [e]
 rw [if_pos (by decide +kernel), show List.idxOf ("found" : Str) ["held", "width", "log", "found"] = 3 by decide +kernel]
 rfl
theorem ylw {u1 u2 u3 u4 : PV} {m : Str} {f : Fn} {ys : List PV} {a : XE} {aa : XA} {ρ : PSt} {h0 h2 : AH} (e : h[d]? = some (.ins 1 ["held", "width", "log", "found"] [u1, u2, u3, u4])) (ea : a ρ h0 = some (.loc d, h)) (hm : m ∉ (["held", "width", "log", "found"] : List Str)) (eb : aa ρ h = some (ys, h2)) : yC 1 m f a aa ρ h0 = f (.loc d :: ys) h2 := by
 unfold yC yiI
 rw [ea, yD]
 simp only [e]
 rw [if_pos ⟨trivial, hm⟩, eb, yD]
theorem ygE {r : Str} (hr : okS r) : yeG (.str "abcdefgh") [.str r] h = some (.int (sx r), h) := by
 unfold okS SL at hr
 simp only [List.mem_cons, List.not_mem_nil, or_false] at hr
 rcases hr with rfl | rfl | rfl | rfl | rfl | rfl | rfl | rfl <;> (unfold yeG; simp only []; rfl)
theorem yjH {r : Str} (hr : okS r) : ydi [.str r] h = some (.int (sx r), h) := by
 unfold ydi
 rw [yX]
 show ob (ydf _ [.val (.str r)] h) fnK = _
 walk_at "px"
 rw [ygE hr, yD]
theorem ywe {n : Nat} {xs : List Int} {i : Nat} (e : h[n]? = some (.lst (xs.map .int))) (hi : i < xs.length) : yhA (.loc n) (.int i) h = some (.int (xs.getD i 0), h) := by
 unfold yhA
 simp only [e]
 have : (xs.map PV.int)[i]? = some (.int (xs.getD i 0)) := by
  rw [List.getElem?_map, List.getElem?_eq_getElem hi, List.getD_eq_getElem?_getD, List.getElem?_eq_getElem hi]; rfl
 rw [yen this]
theorem DG.nx (D : DG h N d hl o s b l t es bx hs top sj sv) : d ≠ hl /\ d ≠ o /\ d ≠ s /\ d ≠ b /\ d ∉ l ++ [t] /\ hl ≠ o /\ hl ≠ s /\ hl ≠ b /\ hl ∉ l ++ [t] /\ o ≠ s /\ o ≠ b /\ o ∉ l ++ [t] /\ s ≠ b /\ s ∉ l ++ [t] /\ b ∉ l ++ [t] /\ (l ++ [t]).Nodup := by
 obtain ⟨n1, r⟩ := List.nodup_cons.mp D.nd
 obtain ⟨n2, r⟩ := List.nodup_cons.mp r
 obtain ⟨n3, r⟩ := List.nodup_cons.mp r
 obtain ⟨n4, r⟩ := List.nodup_cons.mp r
 obtain ⟨n5, r⟩ := List.nodup_cons.mp r
 simp only [List.mem_cons, not_or] at n1 n2 n3 n4 n5
 exact ⟨n1.1, n1.2.1, n1.2.2.1, n1.2.2.2.1, n1.2.2.2.2, n2.1, n2.2.1, n2.2.2.1, n2.2.2.2, n3.1, n3.2.1, n3.2.2, n4.1, n4.2, n5, r⟩
theorem yip {r : Str} (D : DG h N d hl o s b l t es bx hs top sj sv) (hr : okS r) : yF [.loc d, .str r] h = some (.int (hs.getD (sx r) 0), h) := by
 unfold yF
 rw [yX]
 show ob (ydf _ [.val (.loc d), .val (.str r)] h) fnK = _
 walk_at "px"
 rw [ywd D.ob, yD, yjH hr, yD, ywe D.hh (by rw [D.h8]; exact yqv hr), yD]
theorem ypl {r : Str} {v : Int} (D : DG h N d hl o s b l t es bx hs top sj sv) (hr : okS r) : ybt [.loc d, .str r, .int v] h = some (.non, h.set hl (.lst ((hs.set (sx r) v).map .int))) := by
 unfold ybt
 rw [yX]
 show ob (ylL _ _ _ [.val (.loc d), .val (.str r), .val (.int v)] h) fnK = _
 unfold ylL
 show ob (ob (some (PV.int v, h)) _) _ = _
 rw [yD]
 walk_at "px"
 rw [ywd D.ob, yD, yjH hr, yD]
 have hi : sx r < hs.length := by rw [D.h8]; exact yqv hr
 have e : ixN (hs.map PV.int).length (sx r : Nat) = some (sx r) := by
  unfold ixN
  simp [hi]
 simp only [D.hh, e]
 rw [yD, List.map_set]
 rfl
theorem yjI {r : Str} (D : DG h N d hl o s b l t es bx hs top sj sv) (hr : okS r) : ybl [.loc d, .str r] h = some (.int (hs.getD (sx r) 0 % bx.length), h) := by
 unfold ybl
 rw [yX]
 show ob (ydf _ [.val (.loc d), .val (.str r)] h) fnK = _
 walk_at "px"
 rw [ylw D.ob rfl (by decide +kernel) rfl, yip D hr, yD, yBi D.ob, yD]
 have := D.b1
 walk_at "px"
 rw [if_pos (by omega)]
theorem yFt {w : Str} {x y : Int} (hw : okW w) (hx : N64 x) : yjG [.str w, .int x, .int y] h = some (.int (rk w x y), h) := by
  have hm : MulOk x y := .inl ⟨by have := hx.1; omega, hx.2⟩
  unfold yjG
  rw [yX]
  show ob (yM _ _ [.val (.str w), .val (.int x), .val (.int y)] h) fnK = _
  unfold okW WDS at hw
  simp only [List.mem_cons, List.not_mem_nil, or_false] at hw
  unfold rk
  rcases hw with rfl | rfl | rfl | rfl | rfl
  . walk_at "pw"
  . walk_at "pw"
  . walk_at "pw"
    rw [if_pos hm]
  . walk_at "pw"
    split <;> rfl
  . walk_at "pw"
    split <;> rfl
theorem yqB {w r p q : Str} (D : DG h N d hl o s b l t es bx hs top sj sv) (hw : okW w) (hr : okS r) (hp : okS p) (hq : okS q) (hN : ∀ v ∈ hs, N64 v) : ycS [.loc d, .str w, .str r, .str p, .str q] h = some (.non, h.set hl (.lst ((hs.set (sx r) (rk w (hs.getD (sx p) 0) (hs.getD (sx q) 0))).map .int))) := by
 have hi : sx p < hs.length := by rw [D.h8]; exact yqv hp
 have hv : N64 (hs.getD (sx p) 0) := hN _ (by rw [List.getD_eq_getElem?_getD, List.getElem?_eq_getElem hi]; exact List.getElem_mem hi)
 unfold ycS
 rw [yX]
 show ob (yeo _ [.val (.loc d), .val (.str w), .val (.str r), .val (.str p), .val (.str q)] h) fnK = _
 rw [yhD, ylw (h2 := h) (ys := [.str r, .int (rk w (hs.getD (sx p) 0) (hs.getD (sx q) 0))]) D.ob rfl (by decide +kernel) (by
  walk_at "px"
  rw [ylw D.ob rfl (by decide +kernel) rfl, yip D hp, yD, ylw D.ob rfl (by decide +kernel) rfl, yip D hq, yD, yFt hw hv]
  walk_at "px"), ypl D hr, yD, yD]
 rfl
theorem ywf {p q : Str} (D : DG h N d hl o s b l t es bx hs top sj sv) (hp : okS p) (hq : okS q) : yeq [.loc d, .str p, .str q] h = some (.non, h.set t (.dct (ydV top.1 top.2 (.inl (hs.getD (sx p) 0 % bx.length)) (.int (hs.getD (sx q) 0))).1 (ydV top.1 top.2 (.inl (hs.getD (sx p) 0 % bx.length)) (.int (hs.getD (sx q) 0))).2)) := by
 unfold yeq
 rw [yX]
 show ob (yeo _ [.val (.loc d), .val (.str p), .val (.str q)] h) fnK = _
 have hl' := D.idT.len
 rw [yhD, yko (h := h) (h2 := h) (ys := [.int (hs.getD (sx p) 0 % bx.length), .int (hs.getD (sx q) 0)]) D.g.ob (by
  walk_at "px"
  rw [yua D.ob]) (by decide +kernel) (by
  walk_at "px"
  rw [ylw D.ob rfl (by decide +kernel) rfl, yjI D hp, yD, ylw D.ob rfl (by decide +kernel) rfl, yip D hq, yD]), yyi D.g D.tp (by omega), yD, yD]
 rfl
theorem yzm {p : Str} (D : DG h N d hl o s b l t es bx hs top sj sv) (j : Int) : yff [.loc o, .int j] h = some (ofO (orV (gI top j) (vwN es j es.length)), h) := by
  rw [yDv D.g, ywb (fun e he => by
    rcases List.mem_append.mp he with he | he
    . exact D.idE e he
    . rw [List.mem_singleton.mp he]; exact D.idT), show (l ++ [t]).length = (es ++ [top]).length by rw [List.length_append, List.length_append, D.st.len]; rfl, yDz]
theorem yub {p : Str} (D : DG h N d hl o s b l t es bx hs top sj sv) (hp : okS p) : ydI [.loc d, .str p] h = some (.bl (isN (ofO (orV (gI top (hs.getD (sx p) 0 % bx.length)) (vwN es (hs.getD (sx p) 0 % bx.length) es.length)))), h) := by
 unfold ydI
 rw [yX]
 show ob (ydf _ [.val (.loc d), .val (.str p)] h) fnK = _
 walk_at "px"
 rw [yko (h := h) (h2 := h) (ys := [.int (hs.getD (sx p) 0 % bx.length)]) D.g.ob (by
  walk_at "px"
  rw [yua D.ob]) (by decide +kernel) (by
  walk_at "px"
  rw [ylw D.ob rfl (by decide +kernel) rfl, yjI D hp, yD]), yzm (p := p) D]
 walk_at "px"
theorem ysc {r p : Str} {v : Int} (D : DG h N d hl o s b l t es bx hs top sj sv) (hr : okS r) (hp : okS p) (hv : (orV (gI top (hs.getD (sx p) 0 % bx.length)) (vwN es (hs.getD (sx p) 0 % bx.length) es.length)) = some v) : ydk [.loc d, .str r, .str p] h = some (.non, h.set hl (.lst ((hs.set (sx r) v).map .int))) := by
 unfold ydk
 rw [yX]
 show ob (yeo _ [.val (.loc d), .val (.str r), .val (.str p)] h) fnK = _
 rw [yhD, ylw (h2 := h) (ys := [.str r, .int v]) D.ob rfl (by decide +kernel) (by
  walk_at "px"
  rw [yko (h := h) (h2 := h) (ys := [.int (hs.getD (sx p) 0 % bx.length)]) D.g.ob (by
   walk_at "px"
   rw [yua D.ob]) (by decide +kernel) (by
   walk_at "px"
   rw [ylw D.ob rfl (by decide +kernel) rfl, yjI D hp, yD]), yzm (p := p) D, hv]
  walk_at "px"
  rfl), ypl D hr, yD, yD]
 rfl
end
section
variable {h : AH} {N d hl o s b t : Nat} {l : List Nat} {es : List (List Key × List PV)} {bx hs : List Int} {top : List Key × List PV} {sj sv : List Int}
theorem DG.hold {hs' : List Int} (D : DG h N d hl o s b l t es bx hs top sj sv) (h8 : hs'.length = 8) : DG (h.set hl (.lst (hs'.map .int))) N d hl o s b l t es bx hs' top sj sv := by
 obtain ⟨n1, n2, n3, n4, n5, n6, n7, n8, n9, n10, n11, n12, n13, n14, n15, n16⟩ := D.nx
 have ne : ∀ x ∈ l ++ [t], x ≠ hl := fun x hx z => n9 (z ▸ hx)
 exact { D with
  ob := yw n1 D.ob
  hh := set_same D.hh
  g := ⟨yw (Ne.symm n6) D.g.ob, yw (Ne.symm n7) D.g.st, yw (Ne.symm n8) D.g.sn, D.g.dl.mono fun x hx d e => yw (ne x hx) e⟩
  st := D.st.mono fun x hx d e => yw (ne x (List.mem_append_left _ hx)) e
  tp := yw (ne t (by simp)) D.tp
  h8 := h8 }
theorem DG.write {top' : List Key × List PV} (D : DG h N d hl o s b l t es bx hs top sj sv) (hi : isID top') : DG (h.set t (.dct top'.1 top'.2)) N d hl o s b l t es bx hs top' sj sv := by
 obtain ⟨n1, n2, n3, n4, n5, n6, n7, n8, n9, n10, n11, n12, n13, n14, n15, n16⟩ := D.nx
 have m : t ∈ l ++ [t] := by simp
 have ne : ∀ x ∈ l, x ≠ t := fun x hx => (List.nodup_append.mp n16).2.2 x hx t (by simp)
 have st' : Stk (h.set t (.dct top'.1 top'.2)) l es := D.st.mono fun x hx d e => yw (ne x hx) e
 exact { D with
  ob := yw (fun z => n5 (z ▸ m)) D.ob
  hh := yw (fun z => n9 (z ▸ m)) D.hh
  g := ⟨yw (fun z => n12 (z ▸ m)) D.g.ob, yw (fun z => n14 (z ▸ m)) D.g.st, yw (fun z => n15 (z ▸ m)) D.g.sn, st'.app ⟨set_same D.tp, trivial⟩⟩
  st := st'
  tp := set_same D.tp
  idT := hi }
theorem DG.see {sj' sv' : List Int} (D : DG h N d hl o s b l t es bx hs top sj sv) (hi : ID sj' sv') : DG (h.set b (.dct (sj'.map .inl) (sv'.map .int))) N d hl o s b l t es bx hs top sj' sv' := by
 obtain ⟨n1, n2, n3, n4, n5, n6, n7, n8, n9, n10, n11, n12, n13, n14, n15, n16⟩ := D.nx
 have ne : ∀ x ∈ l ++ [t], x ≠ b := fun x hx z => n15 (z ▸ hx)
 exact { D with
  ob := yw n4 D.ob
  hh := yw n8 D.hh
  g := ⟨yw n11 D.g.ob, yw n13 D.g.st, set_same D.g.sn, D.g.dl.mono fun x hx d e => yw (ne x hx) e⟩
  st := D.st.mono fun x hx d e => yw (ne x (List.mem_append_left _ hx)) e
  tp := yw (ne t (by simp)) D.tp
  idS := hi }
theorem ixF {i : Int} (h0 : 0 <= i) (h1 : i < bx.length) : atI (bx.map PV.int) i = some (.int (bx.getD i.toNat 0)) := by
 obtain ⟨n, rfl⟩ := Int.eq_ofNat_of_zero_le h0
 have hi : n < bx.length := by omega
 have : (bx.map PV.int)[n]? = some (.int (bx.getD n 0)) := by
  rw [List.getElem?_map, List.getElem?_eq_getElem hi, List.getD_eq_getElem?_getD, List.getElem?_eq_getElem hi]; rfl
 exact yen this
theorem yqC (x : Int) (h1 : 1 <= bx.length) (h16 : bx.length <= 16) : 0 <= x % bx.length /\ x % bx.length < bx.length /\ x % bx.length < 16 := by
 have a := Int.emod_nonneg x (b := (bx.length : Int)) (by omega)
 have c := Int.emod_lt_of_pos x (b := (bx.length : Int)) (by omega)
 exact ⟨a, c, by omega⟩
theorem yqD {r p : Str} {sj' sv' : List Int} (D : DG h N d hl o s b l t es bx hs top sj sv) (hr : okS r) (hp : okS p)
  (hput : ydV (sj.map .inl) (sv.map PV.int) (.inl (hs.getD (sx p) 0 % bx.length)) (.int (bx.getD (hs.getD (sx p) 0 % bx.length).toNat 0)) = (sj'.map .inl, sv'.map .int)) (hi : ID sj' sv') :
  ycT [.loc d, .str r, .str p, .lst (bx.map .int)] h = some (.non, (h.set b (.dct (sj'.map .inl) (sv'.map .int))).set hl (.lst ((hs.set (sx r) (bx.getD (hs.getD (sx p) 0 % bx.length).toNat 0)).map .int))) := by
 obtain ⟨i1, i2, i3⟩ := yqC (bx := bx) (hs.getD (sx p) 0) D.b1 D.b16
 have sl := D.idS.le
 unfold ycT
 rw [yX]
 show ob (yM _ _ [.val (.loc d), .val (.str r), .val (.str p), .val (.lst (bx.map .int)), .no] h) fnK = _
 walk_at "px"
 rw [ylw D.ob rfl (by decide +kernel) rfl, yjI D hp, yD]
 rw [yko (h := h) (h2 := h) (ys := [.int (hs.getD (sx p) 0 % bx.length), .int (bx.getD (hs.getD (sx p) 0 % bx.length).toNat 0)]) D.g.ob (by
  walk_at "px"
  rw [yua D.ob]) (by decide +kernel) (by
  walk_at "px"
  rw [ixF i1 i2]
  rfl), yDx D.g (by rw [List.length_map]; omega), hput, yD]
 have D1 := D.see hi
 rw [ylw (h2 := h.set b (.dct (sj'.map .inl) (sv'.map .int))) (ys := [.str r, .int (bx.getD (hs.getD (sx p) 0 % bx.length).toNat 0)]) D1.ob rfl (by decide +kernel) (by
  walk_at "px"
  rw [ixF i1 i2]
  rfl), ypl D1 hr, yD]
structure PR (h : AH) (N d o s b : Nat) (l : List Nat) (t : Nat) (es : List (List Key × List PV)) (bx : List Int) (σ : AS) : Prop where
 ex : ∃ hl top sj sv, DG h N d hl o s b l t es bx σ.hs top sj sv /\ (∀ j, orV (gI top j) (vwN es j es.length) = σ.v j) /\ ∀ j, gI (sj.map .inl, sv.map PV.int) j = σ.s j
 nh : ∀ v ∈ σ.hs, N64 v
 nv : ∀ j v, σ.v j = some v -> N64 v
 nb : ∀ v ∈ bx, N64 v
theorem yGh {w : Str} {x y : Int} : N64 (rk w x y) := by
 unfold rk N64
 repeat' split
 all_goals omega
theorem yyl {hs : List Int} {i : Nat} {v : Int} (hN : ∀ v ∈ hs, N64 v) (hv : N64 v) : ∀ u ∈ hs.set i v, N64 u := fun u hu => by
  rcases List.mem_or_eq_of_mem_set hu with z | z
  . exact hN u z
  . rw [z]; exact hv
theorem ywg {hs : List Int} {i : Nat} (hN : ∀ v ∈ hs, N64 v) : N64 (hs.getD i 0) := by
 rw [List.getD_eq_getElem?_getD]
 cases e : hs[i]? with
 | none => exact ⟨Int.le_refl _, by decide⟩
 | some v => exact hN v (List.mem_of_getElem? e)
end
theorem yDA {ns : List Str} {xs : List PV} {h : AH} : yde yP [.ins 3 ns xs, .cls 3] h = some (.bl true, h) := id rfl
theorem yDB {ns : List Str} {xs : List PV} {h : AH} : yde yP [.ins 3 ns xs, .cls 4] h = some (.bl false, h) := id rfl
theorem yDC {ns : List Str} {xs : List PV} {h : AH} : yde yP [.ins 3 ns xs, .cls 5] h = some (.bl false, h) := id rfl
theorem yDD {ns : List Str} {xs : List PV} {h : AH} : yde yP [.ins 3 ns xs, .cls 6] h = some (.bl false, h) := id rfl
theorem yDE {ns : List Str} {xs : List PV} {h : AH} : yde yP [.ins 3 ns xs, .cls 7] h = some (.bl false, h) := id rfl
theorem yDF {ns : List Str} {xs : List PV} {h : AH} : yde yP [.ins 3 ns xs, .cls 8] h = some (.bl false, h) := id rfl
theorem yDG {ns : List Str} {xs : List PV} {h : AH} : yde yP [.ins 3 ns xs, .cls 9] h = some (.bl false, h) := id rfl
theorem yBk {ns : List Str} {xs : List PV} {h : AH} : yde yP [.ins 3 ns xs, .cls 10] h = some (.bl false, h) := id rfl
theorem yBl {ns : List Str} {xs : List PV} {h : AH} : yde yP [.ins 3 ns xs, .cls 11] h = some (.bl false, h) := id rfl
theorem yDH {ns : List Str} {xs : List PV} {h : AH} : yde yP [.ins 4 ns xs, .cls 3] h = some (.bl false, h) := id rfl
theorem yDI {ns : List Str} {xs : List PV} {h : AH} : yde yP [.ins 4 ns xs, .cls 4] h = some (.bl true, h) := id rfl
theorem yDJ {ns : List Str} {xs : List PV} {h : AH} : yde yP [.ins 4 ns xs, .cls 5] h = some (.bl false, h) := id rfl
theorem yDK {ns : List Str} {xs : List PV} {h : AH} : yde yP [.ins 4 ns xs, .cls 6] h = some (.bl false, h) := id rfl
theorem yDL {ns : List Str} {xs : List PV} {h : AH} : yde yP [.ins 4 ns xs, .cls 7] h = some (.bl false, h) := id rfl
theorem yDM {ns : List Str} {xs : List PV} {h : AH} : yde yP [.ins 4 ns xs, .cls 8] h = some (.bl false, h) := id rfl
theorem yDN {ns : List Str} {xs : List PV} {h : AH} : yde yP [.ins 4 ns xs, .cls 9] h = some (.bl false, h) := id rfl
theorem yBm {ns : List Str} {xs : List PV} {h : AH} : yde yP [.ins 4 ns xs, .cls 10] h = some (.bl false, h) := id rfl
theorem yBn {ns : List Str} {xs : List PV} {h : AH} : yde yP [.ins 4 ns xs, .cls 11] h = some (.bl false, h) := id rfl
theorem yDO {ns : List Str} {xs : List PV} {h : AH} : yde yP [.ins 5 ns xs, .cls 3] h = some (.bl false, h) := id rfl
theorem yDP {ns : List Str} {xs : List PV} {h : AH} : yde yP [.ins 5 ns xs, .cls 4] h = some (.bl false, h) := id rfl
theorem yDQ {ns : List Str} {xs : List PV} {h : AH} : yde yP [.ins 5 ns xs, .cls 5] h = some (.bl true, h) := id rfl
theorem yDR {ns : List Str} {xs : List PV} {h : AH} : yde yP [.ins 5 ns xs, .cls 6] h = some (.bl false, h) := id rfl
theorem yDS {ns : List Str} {xs : List PV} {h : AH} : yde yP [.ins 5 ns xs, .cls 7] h = some (.bl false, h) := id rfl
theorem yDT {ns : List Str} {xs : List PV} {h : AH} : yde yP [.ins 5 ns xs, .cls 8] h = some (.bl false, h) := id rfl
theorem yDU {ns : List Str} {xs : List PV} {h : AH} : yde yP [.ins 5 ns xs, .cls 9] h = some (.bl false, h) := id rfl
theorem yBo {ns : List Str} {xs : List PV} {h : AH} : yde yP [.ins 5 ns xs, .cls 10] h = some (.bl false, h) := id rfl
theorem yBp {ns : List Str} {xs : List PV} {h : AH} : yde yP [.ins 5 ns xs, .cls 11] h = some (.bl false, h) := id rfl
theorem yDV {ns : List Str} {xs : List PV} {h : AH} : yde yP [.ins 6 ns xs, .cls 3] h = some (.bl false, h) := id rfl
theorem yDW {ns : List Str} {xs : List PV} {h : AH} : yde yP [.ins 6 ns xs, .cls 4] h = some (.bl false, h) := id rfl
theorem yDX {ns : List Str} {xs : List PV} {h : AH} : yde yP [.ins 6 ns xs, .cls 5] h = some (.bl false, h) := id rfl
theorem yDY {ns : List Str} {xs : List PV} {h : AH} : yde yP [.ins 6 ns xs, .cls 6] h = some (.bl true, h) := id rfl
theorem yDZ {ns : List Str} {xs : List PV} {h : AH} : yde yP [.ins 6 ns xs, .cls 7] h = some (.bl false, h) := id rfl
theorem yEa {ns : List Str} {xs : List PV} {h : AH} : yde yP [.ins 6 ns xs, .cls 8] h = some (.bl false, h) := id rfl
theorem yEb {ns : List Str} {xs : List PV} {h : AH} : yde yP [.ins 6 ns xs, .cls 9] h = some (.bl false, h) := id rfl
theorem yBq {ns : List Str} {xs : List PV} {h : AH} : yde yP [.ins 6 ns xs, .cls 10] h = some (.bl false, h) := id rfl
theorem yBr {ns : List Str} {xs : List PV} {h : AH} : yde yP [.ins 6 ns xs, .cls 11] h = some (.bl false, h) := id rfl
local macro_rules | `(tactic| walk_at "pi") => `(tactic| simp only [yD, yoa, ymQ, yjm, yjn, x_c, yvn, yoc, ywF, yix, yjo, yjp, yxy, yod, yxz, ylJ, yhC, ymR, yoe, yvo, yof, yog, ylK, x_call, yxA, ymS, yxB, ygX, yjq, yiy, yiJ, yjr, yoh, yhD, yki, ymT, ykU, yjs, yjt, yoi, yoj, yok, yol, ymU, yom, yon, yoo, yop, yoq, x_i, yxC, yju, yjv, yjw, yos, yot, you, yov, yow, yox, yoy, yoz, yoA, yoB, yoC, yxD, yoD, yjx, yfA, yiz, yjy, yjz, yjA, ygY, ygD, yiA, yob, Option.bind_some, Option.bind_none, List.set_cons_zero, List.set_cons_succ, List.length_cons, List.length_nil, decide_eq_true_eq, Bool.not_eq_true', decide_eq_false_iff_not, if_true, if_false, ite_true, ite_false, and_self, Int.reducePow, Int.reduceToNat, Int.reduceLT, Int.reduceLE, Int.reduceNeg, Int.reduceAdd, Int.reduceSub, Nat.reduceLT, Nat.reduceLeDiff, Nat.reduceAdd, true_and, and_true, reduceIte, Nat.reduceEqDiff, eq_self, yut, yuu, yvA, ywG, yxM, yoJ, yoK, yoL, yoM, Int.reduceEq, Bool.not_true, Bool.not_false, ycd, yY, ybK, ybu, yce, ybv, ycD, ybL, ycE, ybM, ybw, ybx, ybN, ybj, yby, ybz, ybO, ybk, ycf, ybP, ycg, ybQ, ych, ycF, yci, ycG, ygZ, yha, yDA, yDB, yDC, yDD, yDE, yDF, yDG, yBk, yBl, yDH, yDI, yDJ, yDK, yDL, yDM, yDN, yBm, yBn, yDO, yDP, yDQ, yDR, yDS, yDT, yDU, yBo, yBp, yDV, yDW, yDX, yDY, yDZ, yEa, yEb, yBq, yBr])
section
variable {h : AH} {N d o s b t : Nat} {l : List Nat} {es : List (List Key × List PV)} {bx : List Int} {σ : AS}
def yiC : T -> Prop
 | .let_ .. => True
 | .reckon .. => True
 | .take .. => True
 | .put .. => True
 | _ => False
theorem yym {u : T} (hp : yiC u) (hu : okT u) (R : PR h N d o s b l t es bx σ) : ∃ h', ycj [.loc d, ydD u] h = some (.non, h') /\ PR h' N d o s b l t es bx (evP bx u σ) /\ Frm N h h' := by
  obtain ⟨⟨hl, top, sj, sv, D, hv, hs⟩, nh, nv, nb⟩ := R
  have gh : N <= hl := D.ge hl (by simp)
  have gb : N <= b := D.ge b (by simp)
  have gt : N <= t := D.ge t (by simp)
  have len8 : ∀ {i : Nat} {v : Int}, (σ.hs.set i v).length = 8 := by intro i v; rw [List.length_set]; exact D.h8
  unfold ycj
  cases u with
  | let_ r n =>
    obtain ⟨k1, k2⟩ := hu
    refine ⟨_, ?_, ⟨⟨hl, top, sj, sv, D.hold (hs' := σ.hs.set (sx r) n) len8, hv, hs⟩, yyl nh k2, nv, nb⟩, Frm.refl.set gh⟩
    rw [yX]
    show ob (yM _ _ [.val (.loc d), .val (.ins 3 ["slot", "number"] [.str r, .int n])] h) fnK = _
    walk_at "pi"
    rw [ylw (h2 := h) (ys := [.str r, .int n]) D.ob rfl (by decide +kernel) (by walk_at "pi"), ypl D k1, yD]
  | reckon w r p q =>
    obtain ⟨k0, k1, k2, k3⟩ := hu
    refine ⟨_, ?_, ⟨⟨hl, top, sj, sv, D.hold (hs' := σ.hs.set (sx r) (rk w (σ.hs.getD (sx p) 0) (σ.hs.getD (sx q) 0))) len8, hv, hs⟩, yyl nh yGh, nv, nb⟩, Frm.refl.set gh⟩
    rw [yX]
    show ob (yM _ _ [.val (.loc d), .val (.ins 4 ["word", "slot", "one", "other"] [.str w, .str r, .str p, .str q])] h) fnK = _
    walk_at "pi"
    rw [ylw (h2 := h) (ys := [.str w, .str r, .str p, .str q]) D.ob rfl (by decide +kernel) (by walk_at "pi"), yqB D k0 k1 k2 k3 nh, yD]
  | take r p =>
    obtain ⟨k1, k2⟩ := hu
    obtain ⟨i1, i2, i3⟩ := yqC (bx := bx) (σ.hs.getD (sx p) 0) D.b1 D.b16
    have hj := hv (σ.hs.getD (sx p) 0 % bx.length)
    have key : ∃ h', ycA [.loc d, .ins 5 ["slot", "place"] [.str r, .str p]] h = some (.non, h') /\ PR h' N d o s b l t es bx (evP bx (.take r p) σ) /\ Frm N h h' := by
      unfold ycA
      rw [yX]
      show ∃ h', ob (yel _ _ _ [.val (.loc d), .val (.ins 5 ["slot", "place"] [.str r, .str p])] h) fnK = _ /\ _
      walk_at "pi"
      rw [ylw (h2 := h) (ys := [.str p]) D.ob rfl (by decide +kernel) (by walk_at "pi"), yub D k2, yD]
      cases e : orV (gI top (σ.hs.getD (sx p) 0 % bx.length)) (vwN es (σ.hs.getD (sx p) 0 % bx.length) es.length) with
      | some v =>
        rw [e] at hj
        have ev : evP bx (.take r p) σ = ⟨σ.hs.set (sx r) v, σ.v, σ.s⟩ := by
          show tkV bx σ r (σ.hs.getD (sx p) 0 % bx.length) (σ.v (σ.hs.getD (sx p) 0 % bx.length)) = _
          rw [<- hj]
          rfl
        refine ⟨_, ?_, by rw [ev]; exact ⟨⟨hl, top, sj, sv, D.hold (hs' := σ.hs.set (sx r) v) len8, hv, hs⟩, yyl nh (nv _ _ hj.symm), nv, nb⟩, Frm.refl.set gh⟩
        show ob (oB (.bl false) h) _ = _
        walk_at "pi"
        rw [ylw (h2 := h) (ys := [.str r, .str p]) D.ob rfl (by decide +kernel) (by walk_at "pi"), ysc D k1 k2 e, yD]
      | none =>
        rw [e] at hj
        obtain ⟨sj', sv', hput, hi, _⟩ := D.idS.put (v := bx.getD (σ.hs.getD (sx p) 0 % bx.length).toNat 0) ⟨i1, i3⟩
        have ev : evP bx (.take r p) σ = ⟨σ.hs.set (sx r) (bx.getD (σ.hs.getD (sx p) 0 % bx.length).toNat 0), σ.v, upV σ.s (σ.hs.getD (sx p) 0 % bx.length) (bx.getD (σ.hs.getD (sx p) 0 % bx.length).toNat 0)⟩ := by
          show tkV bx σ r (σ.hs.getD (sx p) 0 % bx.length) (σ.v (σ.hs.getD (sx p) 0 % bx.length)) = _
          rw [<- hj]
          rfl
        have D2 := (D.see hi).hold (hs' := σ.hs.set (sx r) (bx.getD (σ.hs.getD (sx p) 0 % bx.length).toNat 0)) len8
        rw [ev]
        refine ⟨_, ?_, ⟨⟨hl, top, sj', sv', D2, hv, fun j => ?_⟩, yyl nh (ywg nb), nv, nb⟩, (Frm.refl.set gb).set gh⟩
        . show ob (oB (.bl true) h) _ = _
          walk_at "pi"
          rw [ylw (h2 := h) (ys := [.str r, .str p, .lst (bx.map .int)]) D.ob rfl (by decide +kernel) (by
            walk_at "pi"
            rw [yBj D.ob]
            rfl), yqD D k1 k2 hput hi, yD]
        . have hd : isID (sj.map .inl, sv.map PV.int) := ⟨sj, sv, rfl, D.idS⟩
          have := ytn hd (k := σ.hs.getD (sx p) 0 % bx.length) (j := j) (v := bx.getD (σ.hs.getD (sx p) 0 % bx.length).toNat 0)
          rw [hput] at this
          rw [this, hs]
          rfl
    obtain ⟨h', e1, R', F⟩ := key
    refine ⟨h', ?_, R', F⟩
    rw [yX]
    show ob (yM _ _ [.val (.loc d), .val (.ins 5 ["slot", "place"] [.str r, .str p])] h) fnK = _
    walk_at "pi"
    rw [ylw (h2 := h) (ys := [.ins 5 ["slot", "place"] [.str r, .str p]]) D.ob rfl (by decide +kernel) (by walk_at "pi"), e1, yD]
  | put p q =>
    obtain ⟨k1, k2⟩ := hu
    obtain ⟨i1, i2, i3⟩ := yqC (bx := bx) (σ.hs.getD (sx p) 0) D.b1 D.b16
    have D2 := D.write (D.idT.put (v := σ.hs.getD (sx q) 0) ⟨i1, i3⟩)
    refine ⟨_, ?_, ⟨⟨hl, _, sj, sv, D2, fun j => ?_, hs⟩, nh, fun j v e => ?_, nb⟩, Frm.refl.set gt⟩
    . rw [yX]
      show ob (yM _ _ [.val (.loc d), .val (.ins 6 ["place", "slot"] [.str p, .str q])] h) fnK = _
      walk_at "pi"
      rw [ylw (h2 := h) (ys := [.str p, .str q]) D.ob rfl (by decide +kernel) (by walk_at "pi"), ywf D k1 k2, yD]
    . rw [ytn D.idT]
      show _ = upV σ.v (σ.hs.getD (sx p) 0 % bx.length) (σ.hs.getD (sx q) 0) j
      unfold upV
      by_cases hj : j = σ.hs.getD (sx p) 0 % bx.length
      . rw [if_pos hj, if_pos hj]; rfl
      . rw [if_neg hj, if_neg hj]; exact hv j
    . have e : (if j = σ.hs.getD (sx p) 0 % bx.length then some (σ.hs.getD (sx q) 0) else σ.v j) = some v := e
      split at e
      . cases e; exact ywg nh
      . exact nv j v e
  | if_ _ _ _ => exact hp.elim
  | either _ _ => exact hp.elim
  | try_ _ _ _ _ => exact hp.elim
  | throw _ _ => exact hp.elim
  | wait => exact hp.elim
end
section
variable {h : AH} {N d o s b t : Nat} {l : List Nat} {es : List (List Key × List PV)} {bx : List Int} {σ : AS}
theorem PR.ob (R : PR h N d o s b l t es bx σ) : ∃ hl, h[d]? = some (.ins 1 ["held", "width", "log", "found"] [.loc hl, .int bx.length, .loc o, .lst (bx.map .int)]) := let ⟨hl, _, _, _, D, _⟩ := R.ex; ⟨hl, D.ob⟩
theorem yBs : yxP (.tup [.str "done"]) (.tup [.str "done"]) h = some (.bl false, h) := by
 unfold yxP pairE
 simp [ymL, eqP, sv, eqV]
theorem yBt : ywI (.tup [.str "done"]) (.tup [.str "done"]) h = some (.bl true, h) := by
 unfold ywI pairE
 simp [ymL, eqP, sv, eqV]
theorem yuc {n : Nat} {u : T} (hp : yiC u) (hu : okT u) (R : PR h N d o s b l t es bx σ) : ∃ h', ycV (n + 1) [.loc d, ydD u] h = some (.tup [.str "done"], h') /\ PR h' N d o s b l t es bx (evP bx u σ) /\ Frm N h h' := by
 obtain ⟨h', e, R', F⟩ := yym hp hu R
 obtain ⟨hl, eo⟩ := R.ob
 refine ⟨h', ?_, R', F⟩
 unfold ycV
 rw [yX]
 cases u with
 | let_ r n =>
  show ob (yM _ _ [.val (.loc d), .val (.ins 3 ["slot", "number"] [.str r, .int n])] h) fnK = _
  walk_at "pi"
  rw [ylw (h2 := h) (ys := [ydD (.let_ r n)]) eo rfl (by decide +kernel) rfl, e, yD]
 | reckon w r p q =>
  show ob (yM _ _ [.val (.loc d), .val (.ins 4 ["word", "slot", "one", "other"] [.str w, .str r, .str p, .str q])] h) fnK = _
  walk_at "pi"
  rw [ylw (h2 := h) (ys := [ydD (.reckon w r p q)]) eo rfl (by decide +kernel) rfl, e, yD]
 | take r p =>
  show ob (yM _ _ [.val (.loc d), .val (.ins 5 ["slot", "place"] [.str r, .str p])] h) fnK = _
  walk_at "pi"
  rw [ylw (h2 := h) (ys := [ydD (.take r p)]) eo rfl (by decide +kernel) rfl, e, yD]
 | put p q =>
  show ob (yM _ _ [.val (.loc d), .val (.ins 6 ["place", "slot"] [.str p, .str q])] h) fnK = _
  walk_at "pi"
  rw [ylw (h2 := h) (ys := [ydD (.put p q)]) eo rfl (by decide +kernel) rfl, e, yD]
 | if_ _ _ _ => exact hp.elim
 | either _ _ => exact hp.elim
 | try_ _ _ _ _ => exact hp.elim
 | throw _ _ => exact hp.elim
 | wait => exact hp.elim
def yto (bx : List Int) : List T -> AS -> AS
 | [], σ => σ
 | u :: r, σ => yto bx r (evP bx u σ)
theorem ynE {n : Nat} {ds : List PV} : ∀ (us : List T) (h : AH) (σ : AS) (c2 c3 : PVar), (∀ u ∈ us, yiC u /\ okT u) -> PR h N d o s b l t es bx σ -> ∃ h', ∃ c2' c3' : PVar,
  ynY (ybh 2) (yM (yfH (yC 1 "part_end" (ycV (n + 1)) (yg 0) (yd (yg 2) (yq))) (ybh 3)) (yel (ybi (xOp (yxP) (yg 3) (xC (.tup [.str "done"])))) (ydf (yg 3)) (ycy))) (us.map ydD) [.val (.loc d), .val (.lst ds), c2, c3] h
   = some (.nx [.val (.loc d), .val (.lst ds), c2', c3'], h') /\ PR h' N d o s b l t es bx (yto bx us σ) /\ Frm N h h'
 | [], h, σ, c2, c3, _, R => ⟨h, c2, c3, rfl, R, Frm.refl⟩
 | u :: us, h, σ, c2, c3, hu, R => by
  obtain ⟨k1, k2⟩ := hu u List.mem_cons_self
  obtain ⟨h1, e1, R1, F1⟩ := yuc (n := n) k1 k2 R
  obtain ⟨hl, eo⟩ := R.ob
  obtain ⟨h2, c2', c3', e2, R2, F2⟩ := ynE us h1 (evP bx u σ) (.val (ydD u)) (.val (.tup [.str "done"])) (fun v hv => hu v (List.mem_cons_of_mem _ hv)) R1
  refine ⟨h2, c2', c3', ?_, R2, F1.trans F2⟩
  rw [List.map_cons, yyT, show ybh 2 (ydD u) [.val (.loc d), .val (.lst ds), c2, c3] = some [.val (.loc d), .val (.lst ds), .val (ydD u), c3] from rfl, Option.bind_some, yiJ, ykU, ylw (h2 := h) (ys := [ydD u]) eo rfl (by decide +kernel) rfl, e1, yD]
  rw [show ybh 3 (.tup [.str "done"]) [.val (.loc d), .val (.lst ds), .val (ydD u), c3] = some [.val (.loc d), .val (.lst ds), .val (ydD u), .val (.tup [.str "done"])] from rfl, Option.bind_some, yD, yjr]
  walk_at "pi"
  rw [yBs]
  walk_at "pi"
  exact e2
theorem ymX {n : Nat} {us : List T} (hu : ∀ u ∈ us, yiC u /\ okT u) (R : PR h N d o s b l t es bx σ) : ∃ h', yN (n + 2) [.loc d, .lst (us.map ydD)] h = some (.tup [.str "done"], h') /\ PR h' N d o s b l t es bx (yto bx us σ) /\ Frm N h h' := by
 obtain ⟨h', c2, c3, e, R', F⟩ := ynE (n := n) (ds := us.map ydD) us h σ .no .no hu R
 refine ⟨h', ?_, R', F⟩
 unfold yN
 rw [yX]
 show ob (yM _ _ [.val (.loc d), .val (.lst (us.map ydD)), .no, .no] h) fnK = _
 rw [yiJ, ymU, show xIL (yg 1) [.val (.loc d), .val (.lst (us.map ydD)), .no, .no] h = some (us.map ydD, h) from rfl, yD, e, yD, yjr]
 walk_at "pi"
def ybU (f : Vw) : List PV := (iv16.filterMap fun i => (f i).map fun v => (i, PV.int v)).map fun p => .tup [.int p.1, p.2]
theorem ysd {js vs : List Int} (d : ID js vs) {f : Vw} (hf : ∀ j, gI (js.map .inl, vs.map PV.int) j = f j) : ysb js vs = ybU f := by
 unfold ysb ybU
 congr 2
 funext i
 unfold pk
 rw [(show isID (js.map .inl, vs.map PV.int) from ⟨js, vs, rfl, d⟩).get i, hf]
 cases f i <;> rfl
theorem ylx (f : Vw) : Tl (ybU f) := by
  refine ⟨?_, fun x hx => ?_⟩
  . unfold ybU
    rw [List.length_map]
    have := List.length_filterMap_le (fun i => (f i).map fun v => (i, PV.int v)) iv16
    have h : iv16.length = 16 := rfl
    omega
  . unfold ybU at hx
    obtain ⟨⟨i, y⟩, h1, rfl⟩ := List.mem_map.mp hx
    obtain ⟨a, _, h2⟩ := List.mem_filterMap.mp h1
    obtain ⟨z, h3, h4⟩ := Option.map_eq_some_iff.mp h2
    cases h4
    exact ⟨_, z, rfl⟩
theorem yzn {ρ : PSt} : yql ρ h = some (.dct [] [], h) := id rfl
theorem yBu : ydH [] h = some (.ins 0 ["stack", "last_seen"] [.loc (h.length + 1), .loc (h.length + 2)], h ++ [Nd.dct [] []] ++ [Nd.lst [.loc h.length]] ++ [Nd.dct [] []]) := by
 unfold ydH
 rw [yiK]
 show ob (yM _ _ [.own (.ins 0 [] [])] h) inK = _
 walk_at "px"
 simp only [yzn, yD]
 simp
end
section
variable {h : AH} {N d o s b t : Nat} {l : List Nat} {es : List (List Key × List PV)} {bx hs : List Int} {σ : AS}
def LV (h : AH) (x : PV) (xs : List PV) : Prop := ∀ e : List Nd, ydU [x] (h ++ e) = some (.lst xs, h ++ e) /\ ygV [x] (h ++ e) = some (.int xs.length, h ++ e)
theorem LV.lst {xs : List PV} : LV h (.lst xs) xs := fun e => ⟨ygD, yiz⟩
theorem LV.at_ {x : PV} {xs : List PV} (v : LV h x xs) : ydU [x] h = some (.lst xs, h) /\ ygV [x] h = some (.int xs.length, h) := by have := v []; rwa [List.append_nil] at this
local macro_rules | `(tactic| walk_at "pj") => `(tactic| simp only [yD, yoa, ymQ, yjm, yjn, x_c, yvn, yoc, ywF, yix, yjo, yjp, yxy, yod, yxz, ylJ, yhC, ymR, yoe, yvo, yof, yog, ylK, x_call, yxA, ymS, yxB, ygX, yjq, yiy, yiJ, yjr, yoh, yhD, yki, ymT, ykU, yjs, yjt, yoi, yoj, yok, yol, ymU, yom, yon, yoo, yop, yoq, x_i, yxC, yju, yjv, yjw, yos, yot, you, yov, yow, yox, yoy, yoz, yoA, yoB, yoC, yxD, yoD, yjx, yfA, yiz, yjy, yjz, yjA, ygY, ygD, yiA, yob, Option.bind_some, Option.bind_none, List.set_cons_zero, List.set_cons_succ, List.length_cons, List.length_nil, decide_eq_true_eq, Bool.not_eq_true', decide_eq_false_iff_not, if_true, if_false, ite_true, ite_false, and_self, Int.reducePow, Int.reduceToNat, Int.reduceLT, Int.reduceLE, Int.reduceNeg, Int.reduceAdd, Int.reduceSub, Nat.reduceLT, Nat.reduceLeDiff, Nat.reduceAdd, true_and, and_true, reduceIte, Nat.reduceEqDiff, eq_self, yut, yuu, yvA, ywG, yxM, yoJ, yoK, yoL, yoM, Int.reduceEq, Bool.not_true, Bool.not_false, ycd, yY, ybK, ybu, yce, ybv, ycD, ybL, ycE, ybM, ybw, ybx, ybN, ybj, yby, ybz, ybO, ybk, ycf, ybP, ycg, ybQ, ych, ycF, yci, ycG, ygZ, yha, yBu])
theorem ywh {y : PV} {w : Int} (v : LV h y (hs.map .int)) : ydj [y, .int w] h = some (.ins 1 ["held", "width", "log"] [.loc h.length, .int w, .loc (h.length + 4)],
  h ++ [Nd.lst (hs.map .int), .dct [] [], .lst [.loc (h.length + 1)], .dct [] [], .ins 0 ["stack", "last_seen"] [.loc (h.length + 2), .loc (h.length + 3)]]) := by
 unfold ydj
 rw [yiK]
 show ob (yM _ _ [.own (.ins 1 [] []), .val y, .val (.int w)] h) inK = _
 walk_at "pj"
 rw [v.at_.1]
 walk_at "pj"
 simp
theorem yud {x y : PV} (vx : LV h x (bx.map .int)) (vy : LV h y (hs.map .int)) : ycU [x, y] h = some (.ins 1 ["held", "width", "log", "found"] [.loc h.length, .int bx.length, .loc (h.length + 4), .lst (bx.map .int)],
  h ++ [Nd.lst (hs.map .int), .dct [] [], .lst [.loc (h.length + 1)], .dct [] [], .ins 0 ["stack", "last_seen"] [.loc (h.length + 2), .loc (h.length + 3)]]) := by
 unfold ycU
 rw [yiK]
 show ob (yM _ _ [.own (.ins 1 [] []), .val x, .val y] h) inK = _
 rw [yiJ, yGw rfl]
 walk_at "pj"
 rw [vx.at_.2, yD, ywh vy, yD, List.length_map]
 walk_at "pj"
 rw [(vx _).1]
 walk_at "pj"
theorem yyn (h8 : hs.length = 8) (b1 : 1 <= bx.length) (b16 : bx.length <= 16) (nh : ∀ v ∈ hs, N64 v) (nb : ∀ v ∈ bx, N64 v) :
  PR (h ++ [Nd.lst (hs.map .int), .dct [] [], .lst [.loc (h.length + 1)], .dct [] [], .ins 0 ["stack", "last_seen"] [.loc (h.length + 2), .loc (h.length + 3)]] ++ [.ins 1 ["held", "width", "log", "found"] [.loc h.length, .int bx.length, .loc (h.length + 4), .lst (bx.map .int)]])
   h.length (h.length + 5) (h.length + 4) (h.length + 2) (h.length + 3) [] (h.length + 1) [] bx ⟨hs, fun _ => none, fun _ => none⟩ := by
 have gx : ∀ (X : List Nd) (k : Nat), (h ++ X)[h.length + k]? = X[k]? := fun X k => by rw [List.getElem?_append_right (Nat.le_add_right _ _), Nat.add_sub_cancel_left]
 rw [List.append_assoc]
 refine ⟨⟨h.length, ([], []), [], [], ⟨gx _ 5, gx _ 0, ⟨gx _ 4, gx _ 2, gx _ 3, ⟨gx _ 1, trivial⟩⟩, trivial, gx _ 1, by simp, by simp, isID.nil, by simp, ⟨by simp, by simp, rfl⟩, h8, b1, b16⟩, fun j => rfl, fun j => rfl⟩, nh, (fun j v e => nomatch e), nb⟩
theorem yyo {l : Nat} {r : List Nat} {ds : List (List Key × List PV)} {ks : List Key} {xs : List PV} {js vs : List Int} (g : LG h o s b (l :: r) ds ks xs) (e : h[l]? = some (.dct (js.map .inl) (vs.map PV.int))) (d : ID js vs) : yfN [.loc o] h = some (.loc h.length, h ++ [.lst (ysb js vs)]) := by
 have ix : yhA (.loc s) (.int 0) h = some (.loc l, h) := by
  unfold yhA
  simp only [g.st]
  have : atI ((l :: r).map PV.loc) 0 = some (.loc l) := yen (j := 0) rfl
  rw [this]
 unfold yfN
 rw [yX, yiJ, ykU, yvn, yju, show yg 0 ([PV.loc o].map .val ++ List.replicate (2 - [PV.loc o].length) .no) h = some (.loc o, h) from rfl, yD, yrY g.ob, yD]
 show ob (ob (ob (yhA (.loc s) (.int 0) h) _) _) _ = _
 rw [ix, yD]
 show ob (ydf (ymK (ylS (yg 1))) [.val (.loc o), .val (.loc l)] h) fnK = _
 rw [yki, ylK]
 unfold ylS
 show ob (ob (ob (ob (some (PV.loc l, h)) _) _) _) _ = _
 rw [yD]
 unfold yoG
 have := d.le
 simp only [e, ytm d (by omega)]
 rfl
theorem DG.ext {hl : Nat} {top : List Key × List PV} {sj sv : List Int} {x : Nd} (D : DG h N d hl o s b l t es bx hs top sj sv) : DG (h ++ [x]) N d hl o s b l t es bx hs top sj sv :=
 { D with
  ob := yhS D.ob
  hh := yhS D.hh
  g := ⟨yhS D.g.ob, yhS D.g.st, yhS D.g.sn, D.g.dl.mono fun _ _ _ e => yhS e⟩
  st := D.st.mono fun _ _ _ e => yhS e
  tp := yhS D.tp }
theorem ymg {us : List T} {x y : PV} (hu : ∀ u ∈ us, yiC u /\ okT u) (vx : LV h x (bx.map .int)) (vy : LV h y (hs.map .int)) (h8 : hs.length = 8) (b1 : 1 <= bx.length) (b16 : bx.length <= 16) (nh : ∀ v ∈ hs, N64 v) (nb : ∀ v ∈ bx, N64 v) :
    ∃ h2, ykn [.lst (us.map ydD), x, y] h = some (.tup [.tup [.str "done"], .loc h2.length, .loc (h2.length + 1), .loc (h2.length + 2)],
      h2 ++ [.lst (ybU (yto bx us ⟨hs, fun _ => none, fun _ => none⟩).s)] ++ [.lst (ybU (yto bx us ⟨hs, fun _ => none, fun _ => none⟩).v)] ++ [.lst ((yto bx us ⟨hs, fun _ => none, fun _ => none⟩).hs.map .int)]) /\ Frm h.length h h2 /\ (yto bx us ⟨hs, fun _ => none, fun _ => none⟩).hs.length = 8 := by
  have R0 := yyn (h := h) h8 b1 b16 nh nb
  obtain ⟨h2, e, R, F⟩ := ymX (n := 18) hu R0
  obtain ⟨hl0, eo0⟩ := R0.ob
  refine ⟨h2, ?_, ?_, ?_⟩
  . unfold ykn
    rw [yX]
    show ob (yM _ _ [.val (.lst (us.map ydD)), .val x, .val y, .no, .no] h) fnK = _
    walk_at "pj"
    rw [yud vx vy, yD]
    rw [show (h ++ [Nd.lst (hs.map .int), .dct [] [], .lst [.loc (h.length + 1)], .dct [] [], .ins 0 ["stack", "last_seen"] [.loc (h.length + 2), .loc (h.length + 3)]]).length = h.length + 5 by simp]
    rw [ylw eo0 rfl (by decide +kernel) rfl, e, yD, yBt]
    walk_at "pj"
    obtain ⟨⟨hl, top, sj, sv, D, hv, hs'⟩, _⟩ := R
    obtain ⟨js, vs, rfl, hID⟩ := D.idT
    have sl := D.idS.le
    have so := ytm D.idS (by omega)
    rw [ysd D.idS hs'] at so
    rw [yko (h := h2) D.g.ob (by
      walk_at "pj"
      rw [yua D.ob]) (by decide +kernel) rfl, yDw D.g so, yD]
    have D1 := D.ext (x := .lst (ybU (yto bx us ⟨hs, fun _ => none, fun _ => none⟩).s))
    rw [yko D1.g.ob (by
      walk_at "pj"
      rw [yua D1.ob]) (by decide +kernel) rfl, yyo D1.g D1.tp hID, yD]
    have e2 : ysb js vs = ybU (yto bx us ⟨hs, fun _ => none, fun _ => none⟩).v := ysd hID fun j => by
      rw [<- hv j]
      show _ = orV _ none
      cases gI (js.map .inl, vs.map PV.int) j <;> rfl
    rw [e2]
    have D2 := D1.ext (x := .lst (ybU (yto bx us ⟨hs, fun _ => none, fun _ => none⟩).v))
    rw [ywd D2.ob, yD, yoO D2.hh, yD]
    simp
  . refine ⟨Nat.le_trans (by simp) F.1, fun n hn => (F.2 n hn).trans ?_⟩
    rw [List.append_assoc, List.getElem?_append_left hn]
  . obtain ⟨⟨hl, top, sj, sv, D, hv, hs'⟩, _⟩ := R
    exact D.h8
end
section
variable {h : AH}
def ynF : T -> PV
 | .let_ r n => .tup [.str "let", .str r, .int n]
 | .reckon w r s t => .tup [.str "reckon", .str w, .str r, .str s, .str t]
 | .take r s => .tup [.str "take", .str r, .str s]
 | .put s t => .tup [.str "put", .str s, .str t]
 | _ => .non
theorem yGi : (("reckon" : Str) = "let") = False := eq_false (by decide +kernel)
theorem yGj : (("take" : Str) = "let") = False := eq_false (by decide +kernel)
theorem yGk : (("take" : Str) = "reckon") = False := eq_false (by decide +kernel)
theorem yGl : (("take" : Str) = "put") = False := eq_false (by decide +kernel)
theorem yGm : (("put" : Str) = "let") = False := eq_false (by decide +kernel)
theorem yGn : (("put" : Str) = "reckon") = False := eq_false (by decide +kernel)
theorem yGo : (("put" : Str) = "take") = False := eq_false (by decide +kernel)
theorem yBv {z : Str} : isStr (.str z) h = true := rfl
theorem yEc {w : Str} {x y : Int} (hw : okW w) (hx : N64 x) : ygO [.str w, .int x, .int y] h = some (.int (rk w x y), h) := by
  have hm : MulOk x y := .inl ⟨by have := hx.1; omega, hx.2⟩
  unfold ygO
  rw [yX]
  show ob (yM _ _ [.val (.str w), .val (.int x), .val (.int y)] h) fnK = _
  unfold okW WDS at hw
  simp only [List.mem_cons, List.not_mem_nil, or_false] at hw
  unfold rk
  rcases hw with rfl | rfl | rfl | rfl | rfl
  . walk_at "pw"
  . walk_at "pw"
  . walk_at "pw"
    rw [if_pos hm]
  . walk_at "pw"
  . walk_at "pw"
local macro_rules | `(tactic| walk_at "pk") => `(tactic| simp only [yD, yoa, ymQ, yjm, yjn, x_c, yvn, yoc, ywF, yix, yjo, yjp, yxy, yod, yxz, ylJ, yhC, ymR, yoe, yvo, yof, yog, ylK, x_call, yxA, ymS, yxB, ygX, yjq, yiy, yiJ, yjr, yoh, yhD, yki, ymT, ykU, yjs, yjt, yoi, yoj, yok, yol, ymU, yom, yon, yoo, yop, yoq, x_i, yxC, yju, yjv, yjw, yos, yot, you, yov, yow, yox, yoy, yoz, yoA, yoB, yoC, yxD, yoD, yjx, yfA, yiz, yjy, yjz, yjA, ygY, ygD, yiA, yob, Option.bind_some, Option.bind_none, List.set_cons_zero, List.set_cons_succ, List.length_cons, List.length_nil, decide_eq_true_eq, Bool.not_eq_true', decide_eq_false_iff_not, if_true, if_false, ite_true, ite_false, and_self, Int.reducePow, Int.reduceToNat, Int.reduceLT, Int.reduceLE, Int.reduceNeg, Int.reduceAdd, Int.reduceSub, Nat.reduceLT, Nat.reduceLeDiff, Nat.reduceAdd, true_and, and_true, reduceIte, Nat.reduceEqDiff, eq_self, yut, yuu, yvA, ywG, yxM, yoJ, yoK, yoL, yoM, Int.reduceEq, Bool.not_true, Bool.not_false, ycd, yY, ybK, ybu, yce, ybv, ycD, ybL, ycE, ybM, ybw, ybx, ybN, ybj, yby, ybz, ybO, ybk, ycf, ybP, ycg, ybQ, ych, ycF, yci, ycG, ygZ, yha, yGi, yGj, yGk, yGl, yGm, yGn, yGo, yBv])
theorem yjJ {n : Nat} {xs : List Int} {i : Nat} {v : Int} {eo ei ev : XE} {ρ : PSt} (e1 : ev ρ h = some (.int v, h)) (e2 : eo ρ h = some (.loc n, h)) (e3 : ei ρ h = some (.int i, h)) (e : h[n]? = some (.lst (xs.map .int))) (hi : i < xs.length) : ylL eo ei ev ρ h = some (.nx ρ, h.set n (.lst ((xs.set i v).map .int))) := by
 unfold ylL
 rw [e1, yD, e2, yD, e3, yD]
 have e4 : ixN (xs.map PV.int).length (i : Nat) = some i := by
  unfold ixN
  simp [hi]
 simp only [e, e4]
 rw [List.map_set]
theorem yue {n : Nat} {ks : List Key} {xs : List PV} {i : Int} {ek ed : XE} {ρ : PSt} (ek' : ek ρ h = some (.int i, h)) (ed' : ed ρ h = some (.loc n, h)) (e : h[n]? = some (.dct ks xs)) : yvx true ek ed ρ h = some (.bl (!(ygS ks xs (.inl i)).isSome), h) := by
 unfold yvx
 rw [ek', yD, ed', yD]
 unfold yvw
 simp only [e, keyOf]
 rfl
theorem yqE {n : Nat} {ks : List Key} {xs : List PV} {i : Int} {y : PV} {ek ed ey : XE} {ρ : PSt} (ed' : ed ρ h = some (.loc n, h)) (ek' : ek ρ h = some (.int i, h)) (ey' : ey ρ h = some (y, h)) (e : h[n]? = some (.dct ks xs)) : yqm ed ek ey ρ h = some ((ygS ks xs (.inl i)).getD y, h) := by
 have hd : yvw (.loc n) h = some (ks, xs) := by unfold yvw; simp only [e]
 unfold yqm
 rw [ed', yD, hd, if_pos (show (some (ks, xs)).isSome = true from rfl), ek', yD, ey', yD, hd]
 rfl
structure LS (h : AH) (a c w : Nat) (σ : AS) : Prop where
 ex : ∃ sj sv wj wv, h[c]? = some (.dct (sj.map .inl) (sv.map PV.int)) /\ h[w]? = some (.dct (wj.map .inl) (wv.map PV.int)) /\ ID sj sv /\ ID wj wv /\ (∀ j, gI (sj.map .inl, sv.map PV.int) j = σ.s j) /\ ∀ j, gI (wj.map .inl, wv.map PV.int) j = σ.v j
 hh : h[a]? = some (.lst (σ.hs.map .int))
 ne : a ≠ c /\ a ≠ w /\ c ≠ w
 h8 : σ.hs.length = 8
 nh : ∀ v ∈ σ.hs, N64 v
 nv : ∀ j v, σ.v j = some v -> N64 v
def Fr3 (a c w : Nat) (h h' : AH) : Prop := h'.length = h.length /\ ∀ n, n ≠ a -> n ≠ c -> n ≠ w -> h'[n]? = h[n]?
theorem Fr3.refl {a c w : Nat} : Fr3 a c w h h := ⟨rfl, fun _ _ _ _ => rfl⟩
theorem Fr3.set {a c w t : Nat} {h' : AH} {x : Nd} (f : Fr3 a c w h h') (ht : t = a \/ t = c \/ t = w) : Fr3 a c w h (h'.set t x) := ⟨by rw [List.length_set]; exact f.1, fun n h1 h2 h3 => (List.getElem?_set_ne (by rcases ht with rfl | rfl | rfl <;> exact fun z => (by first | exact h1 z.symm | exact h2 z.symm | exact h3 z.symm))).trans (f.2 n h1 h2 h3)⟩
variable {a c w : Nat} {σ : AS} {bx : List Int}
theorem yuf {u : T} (hp : yiC u) (hu : okT u) (b1 : 1 <= bx.length) (b16 : bx.length <= 16) (nb : ∀ v ∈ bx, N64 v) (L : LS h a c w σ) : ∃ h', ydL [ynF u, .lst (bx.map .int), .loc c, .loc a, .loc w] h = some (.non, h') /\ LS h' a c w (evP bx u σ) /\ Fr3 a c w h h' := by
  obtain ⟨⟨sj, sv, wj, wv, e1, e2, i1, i2, f1, f2⟩, hh, ⟨n1, n2, n3⟩, h8, nh, nv⟩ := L
  have ix : ∀ {r : Str}, okS r -> yhA (.loc a) (.int (sx r)) h = some (.int (σ.hs.getD (sx r) 0), h) := fun hr => ywe hh (by rw [h8]; exact yqv hr)
  have len8 : ∀ {i : Nat} {v : Int}, (σ.hs.set i v).length = 8 := by intro i v; rw [List.length_set]; exact h8
  unfold ydL
  cases u with
  | let_ r n =>
    obtain ⟨k1, k2⟩ := hu
    refine ⟨_, ?_, ⟨⟨sj, sv, wj, wv, yw (Ne.symm n1) e1, yw (Ne.symm n2) e2, i1, i2, f1, f2⟩, set_same hh, ⟨n1, n2, n3⟩, len8, yyl nh k2, nv⟩, Fr3.refl.set (.inl rfl)⟩
    rw [yX]
    show ob (yel _ _ _ [.val (.tup [.str "let", .str r, .int n]), .val (.lst (bx.map .int)), .val (.loc c), .val (.loc a), .val (.loc w), .no, .no, .no] h) fnK = _
    walk_at "pk"
    rw [yjJ (n := a) (i := sx r) (v := n) rfl rfl (by
      walk_at "pk"
      rw [ygE k1]) hh (by rw [h8]; exact yqv k1), yD]
    rfl
  | reckon q r x y =>
    obtain ⟨k0, k1, k2, k3⟩ := hu
    refine ⟨_, ?_, ⟨⟨sj, sv, wj, wv, yw (Ne.symm n1) e1, yw (Ne.symm n2) e2, i1, i2, f1, f2⟩, set_same hh, ⟨n1, n2, n3⟩, len8, yyl nh yGh, nv⟩, Fr3.refl.set (.inl rfl)⟩
    rw [yX]
    show ob (yel _ _ _ [.val (.tup [.str "reckon", .str q, .str r, .str x, .str y]), .val (.lst (bx.map .int)), .val (.loc c), .val (.loc a), .val (.loc w), .no, .no, .no] h) fnK = _
    walk_at "pk"
    rw [ygE k2, yD, ix k2, yD, ygE k3, yD, ix k3, yD]
    rw [yjJ (n := a) (i := sx r) (v := rk q (σ.hs.getD (sx x) 0) (σ.hs.getD (sx y) 0)) (by
      walk_at "pk"
      rw [yEc k0 (ywg nh)]) rfl (by
      walk_at "pk"
      rw [ygE k1]) hh (by rw [h8]; exact yqv k1), yD]
    rfl
  | take r p =>
    obtain ⟨k1, k2⟩ := hu
    obtain ⟨b2, b3, b4⟩ := yqC (bx := bx) (σ.hs.getD (sx p) 0) b1 b16
    have hj := f2 (σ.hs.getD (sx p) 0 % bx.length)
    have hg := (show isID (wj.map .inl, wv.map PV.int) from ⟨wj, wv, rfl, i2⟩).get (σ.hs.getD (sx p) 0 % bx.length)
    rw [yX]
    show ∃ h', ob (yel _ _ _ [.val (.tup [.str "take", .str r, .str p]), .val (.lst (bx.map .int)), .val (.loc c), .val (.loc a), .val (.loc w), .no, .no, .no] h) fnK = _ /\ _
    walk_at "pk"
    rw [ygE k2, yD, ix k2, yD]
    rw [List.length_map]
    walk_at "pk"
    rw [if_pos (by omega)]
    rw [yue (n := w) (i := σ.hs.getD (sx p) 0 % bx.length) rfl rfl e2, yD, hg, hj]
    cases hv : σ.v (σ.hs.getD (sx p) 0 % bx.length) with
    | some v =>
      rw [hv] at hj
      have ev : evP bx (.take r p) σ = ⟨σ.hs.set (sx r) v, σ.v, σ.s⟩ := by
        show tkV bx σ r (σ.hs.getD (sx p) 0 % bx.length) (σ.v (σ.hs.getD (sx p) 0 % bx.length)) = _
        rw [hv]
        rfl
      rw [ev]
      refine ⟨_, ?_, ⟨⟨sj, sv, wj, wv, yw (Ne.symm n1) e1, yw (Ne.symm n2) e2, i1, i2, f1, f2⟩, set_same hh, ⟨n1, n2, n3⟩, len8, yyl nh (nv _ _ hv), nv⟩, Fr3.refl.set (.inl rfl)⟩
      show ob (oB (.bl false) h) _ = _
      walk_at "pk"
      rw [yjJ (n := a) (i := sx r) (v := v) (by
        rw [yqE (n := w) (i := σ.hs.getD (sx p) 0 % bx.length) (y := .int (bx.getD (σ.hs.getD (sx p) 0 % bx.length).toNat 0)) rfl rfl (by
          walk_at "pk"
          rw [ixF b2 b3]
          rfl) e2, hg, hj]
        rfl) rfl (by
        walk_at "pk"
        rw [ygE k1]) hh (by rw [h8]; exact yqv k1), yD]
      rfl
    | none =>
      rw [hv] at hj
      obtain ⟨sj', sv', hput, hi, _⟩ := i1.put (v := bx.getD (σ.hs.getD (sx p) 0 % bx.length).toNat 0) ⟨b2, b4⟩
      have ev : evP bx (.take r p) σ = ⟨σ.hs.set (sx r) (bx.getD (σ.hs.getD (sx p) 0 % bx.length).toNat 0), σ.v, upV σ.s (σ.hs.getD (sx p) 0 % bx.length) (bx.getD (σ.hs.getD (sx p) 0 % bx.length).toNat 0)⟩ := by
        show tkV bx σ r (σ.hs.getD (sx p) 0 % bx.length) (σ.v (σ.hs.getD (sx p) 0 % bx.length)) = _
        rw [hv]
        rfl
      rw [ev]
      have hd : isID (sj.map .inl, sv.map PV.int) := ⟨sj, sv, rfl, i1⟩
      have sl := i1.le
      refine ⟨(h.set c (.dct (sj'.map .inl) (sv'.map .int))).set a (.lst ((σ.hs.set (sx r) (bx.getD (σ.hs.getD (sx p) 0 % bx.length).toNat 0)).map .int)), ?_, ⟨⟨sj', sv', wj, wv, yw (Ne.symm n1) (set_same e1), yw (Ne.symm n2) (yw (Ne.symm n3) e2), hi, i2, fun j => ?_, f2⟩, set_same (yw n1 hh), ⟨n1, n2, n3⟩, len8, yyl nh (ywg nb), nv⟩, (Fr3.refl.set (.inr (.inl rfl))).set (.inl rfl)⟩
      . show ob (oB (.bl true) h) _ = _
        walk_at "pk"
        rw [ylu (n := c) (i := σ.hs.getD (sx p) 0 % bx.length) (x := .int (bx.getD (σ.hs.getD (sx p) 0 % bx.length).toNat 0)) (by
          walk_at "pk"
          rw [ixF b2 b3]
          rfl) rfl rfl e1 (by rw [List.length_map]; omega), hput, yD, yjr]
        rw [yjJ (n := a) (i := sx r) (v := bx.getD (σ.hs.getD (sx p) 0 % bx.length).toNat 0) (by
          rw [yqE (n := w) (i := σ.hs.getD (sx p) 0 % bx.length) (y := .int (bx.getD (σ.hs.getD (sx p) 0 % bx.length).toNat 0)) rfl rfl (by
            walk_at "pk"
            rw [ixF b2 b3]
            rfl) (yw (Ne.symm n3) e2), hg, hj]
          rfl) rfl (by
          walk_at "pk"
          rw [ygE k1]) (yw n1 hh) (by rw [h8]; exact yqv k1), yD]
        rfl
      . have := ytn hd (k := σ.hs.getD (sx p) 0 % bx.length) (j := j) (v := bx.getD (σ.hs.getD (sx p) 0 % bx.length).toNat 0)
        rw [hput] at this
        rw [this, f1]
        rfl
  | put p q =>
    obtain ⟨k1, k2⟩ := hu
    obtain ⟨b2, b3, b4⟩ := yqC (bx := bx) (σ.hs.getD (sx p) 0) b1 b16
    obtain ⟨wj', wv', hput, hi, _⟩ := i2.put (v := σ.hs.getD (sx q) 0) ⟨b2, b4⟩
    have hd : isID (wj.map .inl, wv.map PV.int) := ⟨wj, wv, rfl, i2⟩
    have sl := i2.le
    refine ⟨h.set w (.dct (wj'.map .inl) (wv'.map .int)), ?_, ⟨⟨sj, sv, wj', wv', yw n3 e1, set_same e2, i1, hi, f1, fun j => ?_⟩, yw n2 hh, ⟨n1, n2, n3⟩, h8, nh, fun j v e => ?_⟩, Fr3.refl.set (.inr (.inr rfl))⟩
    . rw [yX]
      show ob (yel _ _ _ [.val (.tup [.str "put", .str p, .str q]), .val (.lst (bx.map .int)), .val (.loc c), .val (.loc a), .val (.loc w), .no, .no, .no] h) fnK = _
      walk_at "pk"
      rw [ygE k1, yD, ix k1, yD, List.length_map]
      walk_at "pk"
      rw [if_pos (by omega)]
      rw [ylu (n := w) (i := σ.hs.getD (sx p) 0 % bx.length) (x := .int (σ.hs.getD (sx q) 0)) (by
        walk_at "pk"
        rw [ygE k2, yD, ix k2]) rfl rfl e2 (by rw [List.length_map]; omega), hput, yD]
      rfl
    . have := ytn hd (k := σ.hs.getD (sx p) 0 % bx.length) (j := j) (v := σ.hs.getD (sx q) 0)
      rw [hput] at this
      rw [this, f2]
      rfl
    . have e : (if j = σ.hs.getD (sx p) 0 % bx.length then some (σ.hs.getD (sx q) 0) else σ.v j) = some v := e
      split at e
      . cases e; exact ywg nh
      . exact nv j v e
  | if_ _ _ _ => exact hp.elim
  | either _ _ => exact hp.elim
  | try_ _ _ _ _ => exact hp.elim
  | throw _ _ => exact hp.elim
  | wait => exact hp.elim
end
section
variable {h : AH}
theorem ywi {js vs : List Int} (d : ID js vs) : (yoR (js.zip (vs.map PV.int))).map (·.1) = ylT js := by
  have hl : (vs.map PV.int).length = js.length := by simp [d.ln]
  have hk : (js.zip (vs.map PV.int)).map (·.1) = js := List.map_fst_zip (by omega)
  refine ytb ?_ ?_
  . have := (yeH (js.zip (vs.map PV.int))).map (·.1)
    rw [hk] at this
    exact this
  . exact List.pairwise_map.mpr (ylt _)
theorem ywj {js vs : List Int} {e : XE} {inn : PV -> PSt} (d : ID js vs) (he : ∀ (j : Int) (x : PV), ygS (js.map .inl) (vs.map PV.int) (.inl j) = some x -> e (inn (.int j)) h = some (.tup [.int j, x], h)) :
    yxl e inn ((ylT js).map .int) h = some (ysb js vs, h) := by
  have hl : (vs.map PV.int).length = js.length := by simp [d.ln]
  have e1 : (ylT js).map PV.int = (yoR (js.zip (vs.map PV.int))).map fun p => .int p.1 := by
    rw [<- ywi d, List.map_map]; rfl
  rw [e1, yrS (fun p : Int × PV => .int p.1) (fun p => .tup [.int p.1, p.2]) fun p hp => he p.1 p.2 ?_]
  . unfold ysb
    rw [ywa d]
  . exact (ylv d.nd hl).mp ((yeH _).mem_iff.mp hp)
theorem ytp {n : Nat} {js vs : List Int} (e : h[n]? = some (.dct (js.map .inl) (vs.map PV.int))) (d : ID js vs) {f : Vw} (hf : ∀ j, gI (js.map .inl, vs.map PV.int) j = f j) : yec [.loc n] h = some (.lst (ybU f), h) := by
  have hl := d.le
  rw [<- ysd d hf]
  unfold yec
  rw [yX]
  show ob (ydf _ [.val (.loc n)] h) fnK = _
  rw [yki, yvo, yiA]
  have il : xIL (xFz (ysJ ynC (yd (yg 0) yq))) [.val (.loc n)] h = some ((ylT js).map .int, h) := by
    unfold xIL
    rw [yvo, ymS, yhC, show yg 0 [PVar.val (.loc n)] h = some (.loc n, h) from rfl, yD, ylJ, yD, yD]
    unfold ynC yoG
    simp only [e, yme]
    rw [if_pos (by omega), yD]
    rfl
  have sl : ((ylT js).map PV.int).length <= 100000 := by rw [List.length_map, (ykl js).length_eq]; omega
  rw [il, yD, if_pos sl, ywj d fun j x hx => ?_]
  . rfl
  . show ymM _ [.val (.int j), .val (.loc n)] h = _
    rw [ymR, yhC, show yg 0 [PVar.val (.int j), .val (.loc n)] h = some (.int j, h) from rfl, yD, yhC, ytk (n := n) (i := j) rfl rfl e hx, yD, ylJ, yD, yD, yD, if_pos (by simp)]
theorem yEd {r n : PV} : ydJ [r, n] h = some (.ins 3 ["slot", "number"] [r, n], h) := by
 unfold ydJ
 rw [yiK]
 show ob (yM _ _ [.own (.ins 3 [] []), .val r, .val n] h) inK = _
 walk_at "px"
theorem ywk {w r s t : PV} : ycz [w, r, s, t] h = some (.ins 4 ["word", "slot", "one", "other"] [w, r, s, t], h) := by
 unfold ycz
 rw [yiK]
 show ob (yM _ _ [.own (.ins 4 [] []), .val w, .val r, .val s, .val t] h) inK = _
 walk_at "px"
theorem yBw {r s : PV} : ydl [r, s] h = some (.ins 5 ["slot", "place"] [r, s], h) := by
 unfold ydl
 rw [yiK]
 show ob (yM _ _ [.own (.ins 5 [] []), .val r, .val s] h) inK = _
 walk_at "px"
theorem yEe {r s : PV} : ydK [r, s] h = some (.ins 6 ["place", "slot"] [r, s], h) := by
 unfold ydK
 rw [yiK]
 show ob (yM _ _ [.own (.ins 6 [] []), .val r, .val s] h) inK = _
 walk_at "px"
local macro_rules | `(tactic| walk_at "pm") => `(tactic| simp only [yD, yoa, ymQ, yjm, yjn, x_c, yvn, yoc, ywF, yix, yjo, yjp, yxy, yod, yxz, ylJ, yhC, ymR, yoe, yvo, yof, yog, ylK, x_call, yxA, ymS, yxB, ygX, yjq, yiy, yiJ, yjr, yoh, yhD, yki, ymT, ykU, yjs, yjt, yoi, yoj, yok, yol, ymU, yom, yon, yoo, yop, yoq, x_i, yxC, yju, yjv, yjw, yos, yot, you, yov, yow, yox, yoy, yoz, yoA, yoB, yoC, yxD, yoD, yjx, yfA, yiz, yjy, yjz, yjA, ygY, ygD, yiA, yob, Option.bind_some, Option.bind_none, List.set_cons_zero, List.set_cons_succ, List.length_cons, List.length_nil, decide_eq_true_eq, Bool.not_eq_true', decide_eq_false_iff_not, if_true, if_false, ite_true, ite_false, and_self, Int.reducePow, Int.reduceToNat, Int.reduceLT, Int.reduceLE, Int.reduceNeg, Int.reduceAdd, Int.reduceSub, Nat.reduceLT, Nat.reduceLeDiff, Nat.reduceAdd, true_and, and_true, reduceIte, Nat.reduceEqDiff, eq_self, yut, yuu, yvA, ywG, yxM, yoJ, yoK, yoL, yoM, Int.reduceEq, Bool.not_true, Bool.not_false, ycd, yY, ybK, ybu, yce, ybv, ycD, ybL, ycE, ybM, ybw, ybx, ybN, ybj, yby, ybz, ybO, ybk, ycf, ybP, ycg, ybQ, ych, ycF, yci, ycG, ygZ, yha, yEd, ywk, yBw, yEe, yGi, yGj, yGk, yGl, yGm, yGn, yGo])
theorem yBx {us : List T} (hu : ∀ u ∈ us, yiC u) (hl : us.length <= 1000) : yfO [.lst (us.map ynF)] h = some (.lst (us.map ydD), h) := by
  unfold yfO
  rw [yX]
  show ob (yM _ _ [.val (.lst (us.map ynF)), .no, .no] h) fnK = _
  walk_at "pm"
  rw [show xIL (yg 0) [PVar.val (.lst (us.map ynF)), .own (.lst []), .no] h = some (us.map ynF, h) from rfl, yD]
  refine yhM (fun i ρ h1 => h1 = h /\ ∃ c, ρ = [.val (.lst (us.map ynF)), .own (.lst ((us.take i).map ydD)), c]) ⟨rfl, .no, rfl⟩ ?_ ?_
  . rintro i x ρ h1 hx ⟨rfl, c, rfl⟩
    rw [List.getElem?_map] at hx
    obtain ⟨u, hu1, rfl⟩ := Option.map_eq_some_iff.mp hx
    have hi := (List.getElem?_eq_some_iff.mp hu1).1
    have ht : us.take (i + 1) = us.take i ++ [u] := by
      rw [List.take_add_one, hu1]; rfl
    refine ⟨_, [.val (.lst (us.map ynF)), .own (.lst ((us.take (i + 1)).map ydD)), .val (ynF u)], h1, rfl, .inl ?_, rfl, _, rfl⟩
    have hp := hu u (List.mem_of_getElem? hu1)
    have hb : ((us.take i).map ydD).length < 100000 := by rw [List.length_map, List.length_take]; omega
    rw [ht, List.map_append]
    cases u with
    | let_ r n =>
      show yel _ _ _ [.val (.lst (us.map ynF)), .own (.lst ((us.take i).map ydD)), .val (.tup [.str "let", .str r, .int n])] h1 = _
      walk_at "pm"
      rw [yqn (xs := (us.take i).map ydD) rfl]
      walk_at "pm"
      rw [if_pos hb]
      rfl
    | reckon w r p q =>
      show yel _ _ _ [.val (.lst (us.map ynF)), .own (.lst ((us.take i).map ydD)), .val (.tup [.str "reckon", .str w, .str r, .str p, .str q])] h1 = _
      walk_at "pm"
      rw [yqn (xs := (us.take i).map ydD) rfl]
      walk_at "pm"
      rw [if_pos hb]
      rfl
    | take r p =>
      show yel _ _ _ [.val (.lst (us.map ynF)), .own (.lst ((us.take i).map ydD)), .val (.tup [.str "take", .str r, .str p])] h1 = _
      walk_at "pm"
      rw [yqn (xs := (us.take i).map ydD) rfl]
      walk_at "pm"
      rw [if_pos hb]
      rfl
    | put p q =>
      show yel _ _ _ [.val (.lst (us.map ynF)), .own (.lst ((us.take i).map ydD)), .val (.tup [.str "put", .str p, .str q])] h1 = _
      walk_at "pm"
      rw [yqn (xs := (us.take i).map ydD) rfl]
      walk_at "pm"
      rw [if_pos hb]
      rfl
    | if_ _ _ _ => exact hp.elim
    | either _ _ => exact hp.elim
    | try_ _ _ _ _ => exact hp.elim
    | throw _ _ => exact hp.elim
    | wait => exact hp.elim
  . rintro ρ' h' ⟨rfl, c, rfl⟩
    rw [List.length_map, List.take_length]
    walk_at "pm"
end
section
variable {h : AH}
theorem yhT (a : Int) {b : Int} (h : 0 < b) : 0 <= a % b /\ a % b < b := ⟨Int.emod_nonneg a (by omega), Int.emod_lt_of_pos a h⟩
def yEw (c : Int) : Int := c * 48271 % 999999999989
theorem ypm (c : Int) : yck [.int c] h = some (.int (yEw c), h) := by
 unfold yck
 rw [yX]
 show ob (ydf _ [.val (.int c)] h) fnK = _
 walk_at "px"
 rfl
def yse (c : Int) : Int := c * 982451653 % 18446744073709551616
theorem ypn (c : Int) : ycH [.int c] h = some (.int (yse c), h) := by
 unfold ycH
 rw [yX]
 show ob (ydf _ [.val (.int c)] h) fnK = _
 walk_at "px"
 rfl
theorem ywl (c : Int) : N64 (yse c) := yhT _ (by decide)
theorem yBy {α : Type} (xs : List α) (i n : Int) (hn : xs.length = n) (h0 : 0 <= i) (h1 : i < n) : ∃ x, atI xs i = some x /\ x ∈ xs := by
 obtain ⟨j, rfl⟩ : ∃ j : Nat, i = (j : Int) := ⟨i.toNat, by omega⟩
 have hj : j < xs.length := by omega
 exact ⟨xs[j], yen (List.getElem?_eq_getElem hj), List.getElem_mem hj⟩
theorem yug (m : Int) : ∃ (L : Int) (z : Str), atI [PV.int 2, PV.int 3, PV.int 8] (m % 3) = some (.int L) /\ yEs (.str "abcdefgh") none (some L) h = some (.str z, h) /\ (z.length : Int) = L /\ 0 < L /\ L <= 8 /\ (z.cps.toList.length : Int) = L /\ ∀ n ∈ z.cps.toList, (⟨#[n]⟩ : Str) ∈ SL := by
  have b : m % 3 = 0 \/ m % 3 = 1 \/ m % 3 = 2 := by omega
  rcases b with e | e | e
  . exact ⟨2, "ab", by rw [e]; exact yut, rfl, by decide +kernel, by decide, by decide, by decide +kernel, by decide +kernel⟩
  . exact ⟨3, "abc", by rw [e]; exact yuu, rfl, by decide +kernel, by decide, by decide, by decide +kernel, by decide +kernel⟩
  . exact ⟨8, "abcdefgh", by rw [e]; exact yvA, rfl, by decide +kernel, by decide, by decide, by decide +kernel, by decide +kernel⟩
def PlT (ts : List T) : Prop := ∀ t ∈ ts, yiC t /\ okT t
theorem pl1 {t : T} (h1 : yiC t) (h2 : okT t) : PlT [t] := fun u hu => by rw [List.mem_singleton.mp hu]; exact ⟨h1, h2⟩
theorem yzo : PlT [] := fun u hu => by simp at hu
theorem ypo {t : T} {r : List T} (h1 : yiC t) (h2 : okT t) (h3 : PlT r) : PlT (t :: r) := fun u hu => (List.mem_cons.mp hu).elim (fun e => by rw [e]; exact ⟨h1, h2⟩) (h3 u)
theorem yEf {ts us : List T} (h1 : PlT ts) (h2 : PlT us) : PlT (ts ++ us) := fun u hu => (List.mem_append.mp hu).elim (h1 u) (h2 u)
theorem yyp (m c : Int) : ∃ ts, PlT ts /\ ts.length <= 4 /\ yfg [.int m, .int c] h = some (.lst (ts.map ynF), h) := by
  unfold yfg
  rw [yX]
  show ∃ ts, PlT ts /\ ts.length <= 4 /\ ob (yM _ _ [.val (.int m), .val (.int c), .no, .no, .no, .no, .no, .no, .no, .no, .no] h) fnK = _
  obtain ⟨L, z, e1, e2, e3, e4, e5, e6, e7⟩ := yug (h := h) m
  have ix : ∀ k : Int, ∃ n, atI z.cps.toList (k % L) = some n /\ okS ⟨#[n]⟩ := fun k => by
    obtain ⟨x, hx, hm⟩ := yBy z.cps.toList (k % L) L e6 (yhT k e4).1 (yhT k e4).2
    exact ⟨x, hx, e7 x hm⟩
  have hz : z.length <= 100000 := by omega
  have hL : 0 < L /\ L < 1073741824 := by omega
  obtain ⟨n1, i1, o1⟩ := ix (m / 33)
  obtain ⟨n2, i2, o2⟩ := ix (m / 33 / L)
  obtain ⟨n3, i3, o3⟩ := ix (m / 33 / L / L)
  have m5 := yhT (m / 33 / 1000) (show (0 : Int) < 5 by decide)
  have m3 := yhT (m / 33 / 1000) (show (0 : Int) < 3 by decide)
  obtain ⟨x5, a5, j5⟩ := yBy (WDS.map PV.str) (m / 33 / 1000 % 5) 5 rfl m5.1 m5.2
  obtain ⟨w5', hw5, rfl⟩ := List.mem_map.mp j5
  obtain ⟨x3, a3, j3⟩ := yBy ((["plus", "minus", "times"] : List Str).map PV.str) (m / 33 / 1000 % 3) 3 rfl m3.1 m3.2
  obtain ⟨w3', hw3, rfl⟩ := List.mem_map.mp j3
  have hw3 : okW w3' := by
    simp only [List.mem_cons, List.not_mem_nil, or_false] at hw3
    rcases hw3 with rfl | rfl | rfl <;> simp [okW, WDS]
  have a5 : atI [PV.str "plus", PV.str "minus", PV.str "times", PV.str "less", PV.str "same"] (m / 33 / 1000 % 5) = some (.str w5') := a5
  have a3 : atI [PV.str "plus", PV.str "minus", PV.str "times"] (m / 33 / 1000 % 3) = some (.str w3') := a3
  have sm4 : N64 (m / 33 / 1000 % 4) := by have := yhT (m / 33 / 1000) (show (0 : Int) < 4 by decide); exact ⟨this.1, by omega⟩
  have sm3 : N64 (m / 33 / 3000 % 3) := by have := yhT (m / 33 / 3000) (show (0 : Int) < 3 by decide); exact ⟨this.1, by omega⟩
  (try walk_at "px")
  rw [e1]
  (try walk_at "px")
  rw [e2]
  (try walk_at "px")
  rw [if_pos hz]
  (try walk_at "px")
  rw [e3]
  (try simp only [e4, hL, and_self, if_true])
  rw [i1, i2, i3]
  simp only [Option.bind_some, hz, if_true, yD, ypn, a5, a3]
  (try walk_at "px")
  simp only [sgn]
  generalize (⟨#[n1]⟩ : Str) = s1 at *
  generalize (⟨#[n2]⟩ : Str) = s2 at *
  generalize (⟨#[n3]⟩ : Str) = s3 at *
  split
  . exact ⟨[.let_ s1 (yse c)], pl1 trivial ⟨o1, ywl c⟩, by simp, rfl⟩
  split
  . exact ⟨[.let_ s1 _], pl1 trivial ⟨o1, sm4⟩, by simp, rfl⟩
  split
  . exact ⟨[.reckon w5' s1 s2 s3], pl1 trivial ⟨hw5, o1, o2, o3⟩, by simp, rfl⟩
  split
  . exact ⟨[.take s1 s2], pl1 trivial ⟨o1, o2⟩, by simp, rfl⟩
  split
  . exact ⟨[.put s1 s2], pl1 trivial ⟨o1, o2⟩, by simp, rfl⟩
  . exact ⟨[.let_ s1 _, .take s2 s1, .reckon w3' s2 s2 s3, .put s1 s2], ypo trivial ⟨o1, sm3⟩ (ypo trivial ⟨o2, o1⟩ (ypo trivial ⟨hw3, o2, o2, o3⟩ (ypo trivial ⟨o1, o2⟩ yzo))), by simp, rfl⟩
theorem yyq (c : Int) : ∃ bx : List Int, 1 <= bx.length /\ bx.length <= 16 /\ (∀ v ∈ bx, N64 v) /\ yfh [.int c] h = some (.lst (bx.map .int), h) := by
  unfold yfh
  rw [yX]
  show ∃ bx : List Int, 1 <= bx.length /\ bx.length <= 16 /\ (∀ v ∈ bx, N64 v) /\ ob (yM _ _ [.val (.int c), .no, .no, .no, .no, .no] h) fnK = _
  walk_at "px"
  rw [ypm]
  walk_at "px"
  generalize yEw c = m
  have b16 := yhT (m / 4) (show (0 : Int) < 16 by decide)
  obtain ⟨n, en, n1, n16⟩ : ∃ n : Nat, atI [PV.int 1, .int 2, .int 3, .int (1 + m / 4 % 16)] (m % 4) = some (.int n) /\ 1 <= n /\ n <= 16 := by
    have b4 : m % 4 = 0 \/ m % 4 = 1 \/ m % 4 = 2 \/ m % 4 = 3 := by omega
    rcases b4 with e | e | e | e <;> rw [e]
    . exact ⟨1, yut, by omega, by omega⟩
    . exact ⟨2, yuu, by omega, by omega⟩
    . exact ⟨3, yvA, by omega, by omega⟩
    . exact ⟨(1 + m / 4 % 16).toNat, by rw [ywG]; congr 2; omega, by omega, by omega⟩
  rw [en, Option.bind_some, yD]
  rw [ynB (j := (n : Int)) (h1 := h) (by walk_at "px") (by omega) (by omega), yD]
  refine yoN (P := fun (q : Option (PV × AH)) => ∃ bx : List Int, 1 <= bx.length /\ bx.length <= 16 /\ (∀ v ∈ bx, N64 v) /\ q = some (.lst (bx.map .int), h)) (fun i ρ h1 => h1 = h /\ ∃ bx : List Int, bx.length = i /\ (∀ v ∈ bx, N64 v) /\ ∃ c4 c5 : PVar, ρ = [.val (.int c), .val (.int m), .val (.int n), .own (.lst (bx.map .int)), c4, c5]) (fun _ _ => False) ⟨rfl, [], rfl, by simp, .no, .no, rfl⟩ ?_ ?_ (fun _ _ z => z.elim)
  . rintro i x ρ h1 hx ⟨rfl, bx, hb, hN, c4, c5, rfl⟩
    obtain ⟨hi, rfl⟩ := ylN hx
    rw [Int.zero_add]
    have hi : i < n := by simpa using hi
    have m5 := yhT (m / 64 / ((i : Int) + 1)) (show (0 : Int) < 5 by decide)
    obtain ⟨v, ev, hv⟩ : ∃ v : Int, atI [PV.int (m / 64 / ((i : Int) + 1) % 5), .int (yse (c + (i : Int) * i))] ((m / 1000 + i) % 2) = some (.int v) /\ N64 v := by
      have b2 : (m / 1000 + i) % 2 = 0 \/ (m / 1000 + i) % 2 = 1 := by omega
      rcases b2 with e | e <;> rw [e]
      . exact ⟨_, yut, m5.1, by omega⟩
      . exact ⟨_, yuu, ywl _⟩
    refine ⟨_, .nx [.val (.int c), .val (.int m), .val (.int n), .own (.lst ((bx ++ [v]).map .int)), .val (.int i), .val (.lst [.int (m / 64 / ((i : Int) + 1) % 5), .int (yse (c + (i : Int) * i))])], h1, rfl, ?_, rfl, bx ++ [v], by simp [hb], fun u hu => ?_, _, _, rfl⟩
    . walk_at "px"
      rw [if_pos (by omega), if_pos (show MulOk i i from .inl ⟨by omega, by omega⟩), ypn, yD, yqn (xs := bx.map .int) rfl]
      walk_at "px"
      rw [ev, Option.bind_some, yD, if_pos (by rw [List.length_map]; omega), List.map_append]
      rfl
    . rcases List.mem_append.mp hu with hu | hu
      . exact hN u hu
      . rw [List.mem_singleton.mp hu]; exact hv
  . rintro ρ' h' ⟨rfl, bx, hb, hN, c4, c5, rfl⟩
    walk_at "px"
    have hb : bx.length = n := by rw [hb]; simp [ytQ]
    exact ⟨bx, by omega, by omega, hN, rfl⟩
theorem yyr (c : Int) : ∃ hs : List Int, hs.length = 8 /\ (∀ v ∈ hs, N64 v) /\ yfi [.int c] h = some (.loc h.length, h ++ [.lst (hs.map .int)]) := by
  unfold yfi
  rw [yX]
  show ∃ hs : List Int, hs.length = 8 /\ (∀ v ∈ hs, N64 v) /\ ob (yM _ _ [.val (.int c), .no, .no] h) fnK = _
  walk_at "px"
  rw [ypm]
  walk_at "px"
  generalize yEw c = m
  rw [ynB (j := 8) (h1 := h) (by walk_at "px") (by omega) (by omega), yD]
  have e8 : ytQ 0 (8 : Int).toNat = ([0, 1, 2, 3, 4, 5, 6, 7] : List Int).map .int := rfl
  rw [e8, if_pos (by decide), yrS (fun k : Int => PV.int k) (fun k : Int => .int (m / (k * k + 3) % 4)) fun k hk => ?_]
  . have m8 := yhT m (show (0 : Int) < 8 by decide)
    obtain ⟨i, hi⟩ := Int.eq_ofNat_of_zero_le m8.1
    have hN : ∀ v ∈ ([0, 1, 2, 3, 4, 5, 6, 7] : List Int).map (fun k => m / (k * k + 3) % 4), N64 v := fun v hv => by
      obtain ⟨k, _, rfl⟩ := List.mem_map.mp hv
      have := yhT (m / (k * k + 3)) (show (0 : Int) < 4 by decide)
      exact ⟨this.1, by omega⟩
    refine ⟨(([0, 1, 2, 3, 4, 5, 6, 7] : List Int).map (fun k => m / (k * k + 3) % 4)).set i (yse c), by simp, yyl hN (ywl c), ?_⟩
    rw [show ([0, 1, 2, 3, 4, 5, 6, 7] : List Int).map (fun k : Int => PV.int (m / (k * k + 3) % 4)) = (([0, 1, 2, 3, 4, 5, 6, 7] : List Int).map (fun k => m / (k * k + 3) % 4)).map .int by rw [List.map_map]; rfl]
    generalize hl : ([0, 1, 2, 3, 4, 5, 6, 7] : List Int).map (fun k => m / (k * k + 3) % 4) = hs0
    have h8 : hs0.length = 8 := by rw [<- hl]; rfl
    walk_at "px"
    rw [yjJ (n := h.length) (xs := hs0) (i := i) (v := yse c) (by
      walk_at "px"
      rw [ypn]) rfl (by
      walk_at "px"
      rw [hi]) (by simp) (by omega), yD, yjr]
    walk_at "px"
    simp
  . show xOp _ _ _ [.val (.int k), .val (.int m)] h = _
    simp only [List.mem_cons, List.not_mem_nil, or_false] at hk
    rcases hk with rfl | rfl | rfl | rfl | rfl | rfl | rfl | rfl <;> (walk_at "px"; rfl)
end
section
variable {h : AH}
theorem yFu {z : Str} : yde yP [.str z, .ty "int"] h = some (.bl false, h) := rfl
theorem yFv {z : Str} : yde yP [.str z, .ty "str"] h = some (.bl true, h) := rfl
theorem yFw {n : Nat} {xs : List PV} (e : h[n]? = some (.lst xs)) : yde yP [.loc n, .ty "int"] h = some (.bl false, h) := by
 unfold yde ytU yda
 simp only [e]
 rfl
theorem yFx {n : Nat} {xs : List PV} (e : h[n]? = some (.lst xs)) : yde yP [.loc n, .ty "str"] h = some (.bl false, h) := by
 unfold yde ytU yda
 simp only [e]
 rfl
theorem yFy {n : Nat} {xs : List PV} (e : h[n]? = some (.lst xs)) : yde yP [.loc n, .ty "tuple"] h = some (.bl false, h) := by
 unfold yde ytU yda
 simp only [e]
 rfl
local macro_rules | `(tactic| walk_at "pt") => `(tactic| simp only [yD, yoa, ymQ, yjm, yjn, x_c, yvn, yoc, ywF, yix, yjo, yjp, yxy, yod, yxz, ylJ, yhC, ymR, yoe, yvo, yof, yog, ylK, x_call, yxA, ymS, yxB, ygX, yjq, yiy, yiJ, yjr, yoh, yhD, yki, ymT, ykU, yjs, yjt, yoi, yoj, yok, yol, ymU, yom, yon, yoo, yop, yoq, x_i, yxC, yju, yjv, yjw, yos, yot, you, yov, yow, yox, yoy, yoz, yoA, yoB, yoC, yxD, yoD, yjx, yfA, yiz, yjy, yjz, yjA, ygY, ygD, yiA, yob, Option.bind_some, Option.bind_none, List.set_cons_zero, List.set_cons_succ, List.length_cons, List.length_nil, decide_eq_true_eq, Bool.not_eq_true', decide_eq_false_iff_not, if_true, if_false, ite_true, ite_false, and_self, Int.reducePow, Int.reduceToNat, Int.reduceLT, Int.reduceLE, Int.reduceNeg, Int.reduceAdd, Int.reduceSub, Nat.reduceLT, Nat.reduceLeDiff, Nat.reduceAdd, true_and, and_true, reduceIte, Nat.reduceEqDiff, eq_self, yut, yuu, yvA, ywG, yxM, yoJ, yoK, yoL, yoM, Int.reduceEq, Bool.not_true, Bool.not_false, ycd, yY, ybK, ybu, yce, ybv, ycD, ybL, ycE, ybM, ybw, ybx, ybN, ybj, yby, ybz, ybO, ybk, ycf, ybP, ycg, ybQ, ych, ycF, yci, ycG, ygZ, yha, yFZ, yGa, yGb, yGc, yGd, yGe, yGf, yDy, yFu, yFv, ne_eq, not_true_eq_false])
theorem yBz {n : Nat} {z : Str} : yp (n + 1) [.str z, .str z] h = some (.bl true, h) := by
 unfold yp
 rw [yX]
 show ob (yM _ _ [.val (.str z), .val (.str z), .no] h) fnK = _
 walk_at "pt"
theorem ytq {n : Nat} {xs ys : List PV} (hl : xs.length = ys.length) (hs : ys.length <= 1000) (k : ∀ (i : Nat) (x y : PV), xs[i]? = some x -> ys[i]? = some y -> yp n [x, y] h = some (.bl true, h)) : yp (n + 1) [.tup xs, .tup ys] h = some (.bl true, h) := by
  unfold yp
  rw [yX]
  show ob (yM _ _ [.val (.tup xs), .val (.tup ys), .no] h) fnK = _
  walk_at "pt"
  rw [hl]
  walk_at "pt"
  rw [ynB (j := (ys.length : Int)) (h1 := h) (by walk_at "pt") (by omega) (by omega), yD]
  refine yhM (fun i ρ h1 => h1 = h /\ ∃ c, ρ = [.val (.tup xs), .val (.tup ys), c]) ⟨rfl, .no, rfl⟩ ?_ ?_
  . rintro i x ρ h1 hx ⟨rfl, c, rfl⟩
    obtain ⟨hi, rfl⟩ := ylN hx
    rw [Int.zero_add]
    have hi : i < ys.length := by omega
    refine ⟨_, [.val (.tup xs), .val (.tup ys), .val (.int i)], h1, rfl, .inl ?_, rfl, _, rfl⟩
    walk_at "pt"
    rw [yen (List.getElem?_eq_getElem (show i < xs.length by omega)), yen (List.getElem?_eq_getElem hi)]
    walk_at "pt"
    rw [k i _ _ (List.getElem?_eq_getElem (show i < xs.length by omega)) (List.getElem?_eq_getElem hi)]
    walk_at "pt"
  . rintro ρ' h' ⟨rfl, c, rfl⟩
    walk_at "pt"
theorem yys {n f g : Nat} {xs : List Int} (e1 : h[f]? = some (.lst (xs.map .int))) (e2 : h[g]? = some (.lst (xs.map .int))) (hs : xs.length <= 1000) : yp (n + 2) [.loc f, .loc g] h = some (.bl true, h) := by
  unfold yp
  rw [yX]
  show ob (yM _ _ [.val (.loc f), .val (.loc g), .no] h) fnK = _
  walk_at "pt"
  rw [yFw e2]
  walk_at "pt"
  rw [yFx e2]
  walk_at "pt"
  rw [yFy e2]
  walk_at "pt"
  rw [yGg e1]
  walk_at "pt"
  rw [yoP e1]
  walk_at "pt"
  rw [yoP e2]
  walk_at "pt"
  rw [ynB (j := (xs.length : Int)) (h1 := h) (by walk_at "pt"; rw [yoP e2, List.length_map]; walk_at "pt") (by omega) (by omega), yD]
  refine yhM (fun i ρ h1 => h1 = h /\ ∃ c, ρ = [.val (.loc f), .val (.loc g), c]) ⟨rfl, .no, rfl⟩ ?_ ?_
  . rintro i x ρ h1 hx ⟨rfl, c, rfl⟩
    obtain ⟨hi, rfl⟩ := ylN hx
    rw [Int.zero_add]
    have hi : i < (xs.map PV.int).length := by rw [List.length_map]; omega
    refine ⟨_, [.val (.loc f), .val (.loc g), .val (.int i)], h1, rfl, .inl ?_, rfl, _, rfl⟩
    walk_at "pt"
    rw [yrZ e1 hi, yD, yrZ e2 hi, yD, List.getElem_map, ysa]
    walk_at "pt"
  . rintro ρ' h' ⟨rfl, c, rfl⟩
    walk_at "pt"
theorem yqF {a1 a2 a3 lf : Nat} {s v : Vw} {hs : List Int} (e1 : h[a1]? = some (.lst (ybU s))) (e2 : h[a2]? = some (.lst (ybU v))) (e3 : h[a3]? = some (.lst (hs.map .int))) (e4 : h[lf]? = some (.lst (hs.map .int))) (h8 : hs.length = 8) :
  yp 5 [.tup [.tup [.str "done"], .loc a1, .loc a2, .loc a3], .tup [.tup [.str "done"], .lst (ybU s), .lst (ybU v), .loc lf]] h = some (.bl true, h) := by
 refine ytq rfl (by simp) fun i x y hx hy => ?_
 match i, hx, hy with
 | 0, hx, hy =>
  cases hx; cases hy
  refine ytq rfl (by simp) fun i x y hx hy => ?_
  match i, hx, hy with
  | 0, hx, hy => cases hx; cases hy; exact yBz
 | 1, hx, hy => cases hx; cases hy; exact yvZ e1 (ylx s)
 | 2, hx, hy => cases hx; cases hy; exact yvZ e2 (ylx v)
 | 3, hx, hy => cases hx; cases hy; exact yys e3 e4 (by omega)
theorem ywm {xs ys : List Int} {n : Nat} (e : h[n]? = some (.lst (ys.map .int))) : yxP (.lst [.lst (xs.map .int), .lst (ys.map .int)]) (.lst [.lst (xs.map .int), .loc n]) h = some (.bl false, h) /\ ywI (.lst [.lst (xs.map .int), .lst (ys.map .int)]) (.lst [.lst (xs.map .int), .loc n]) h = some (.bl true, h) := by
 have hi : ∀ (m : Nat) (zs : List Int), ymL (eqP (m + 1) h) (zs.map .int) (zs.map .int) = some true := by
  intro m zs
  induction zs with
  | nil => rfl
  | cons z zs ih =>
   rw [List.map_cons]
   unfold ymL
   rw [ih, show eqP (m + 1) h (.int z) (.int z) = some true by simp [eqP, sv, eqV]]
   rfl
 have h1 : eqP 40 h (.lst (xs.map .int)) (.lst (xs.map .int)) = some true := by
  show pairE (eqP 39 h) h (.lst (xs.map .int)) (.lst (xs.map .int)) = _
  unfold pairE yda
  simp only [if_true]
  exact hi 38 xs
 have h2 : eqP 40 h (.lst (ys.map .int)) (.loc n) = some true := by
  show pairE (eqP 39 h) h (.lst (ys.map .int)) (.loc n) = _
  unfold pairE yda
  simp only [e, if_true]
  exact hi 38 ys
 have h3 : pairE (eqP 40 h) h (.lst [.lst (xs.map .int), .lst (ys.map .int)]) (.lst [.lst (xs.map .int), .loc n]) = some true := by
  unfold pairE yda
  simp only [List.length_cons, List.length_nil, if_true]
  unfold ymL
  rw [h1]
  unfold ymL
  rw [h2]
  rfl
 unfold yxP ywI
 rw [h3]
 exact ⟨rfl, rfl⟩
end
section
variable {h : AH}
local macro_rules | `(tactic| walk_at "pd") => `(tactic| simp only [yD, yoa, ymQ, yjm, yjn, x_c, yvn, yoc, ywF, yix, yjo, yjp, yxy, yod, yxz, ylJ, yhC, ymR, yoe, yvo, yof, yog, ylK, x_call, yxA, ymS, yxB, ygX, yjq, yiy, yiJ, yjr, yoh, yhD, yki, ymT, ykU, yjs, yjt, yoi, yoj, yok, yol, ymU, yom, yon, yoo, yop, yoq, x_i, yxC, yju, yjv, yjw, yos, yot, you, yov, yow, yox, yoy, yoz, yoA, yoB, yoC, yxD, yoD, yjx, yfA, yiz, yjy, yjz, yjA, ygY, ygD, yiA, yob, Option.bind_some, Option.bind_none, List.set_cons_zero, List.set_cons_succ, List.length_cons, List.length_nil, decide_eq_true_eq, Bool.not_eq_true', decide_eq_false_iff_not, if_true, if_false, ite_true, ite_false, and_self, Int.reducePow, Int.reduceToNat, Int.reduceLT, Int.reduceLE, Int.reduceNeg, Int.reduceAdd, Int.reduceSub, Nat.reduceLT, Nat.reduceLeDiff, Nat.reduceAdd, true_and, and_true, reduceIte, Nat.reduceEqDiff, eq_self, yut, yuu, yvA, ywG, yxM, yoJ, yoK, yoL, yoM, Int.reduceEq, Bool.not_true, Bool.not_false, ycd, yY, ybK, ybu, yce, ybv, ycD, ybL, ycE, ybM, ybw, ybx, ybN, ybj, yby, ybz, ybO, ybk, ycf, ybP, ycg, ybQ, ych, ycF, yci, ycG, ygZ, yha, ypm, ypn, yzn])
theorem yqG {bx : List Int} {u : T} : ∀ (us : List T) (σ : AS), yto bx (us ++ [u]) σ = evP bx u (yto bx us σ)
 | [], σ => rfl
 | v :: us, σ => yqG us (evP bx v σ)
theorem yBA (cells : List Int) (c : Int) (hl : cells.length <= 19) : ∃ h', yfP [.lst (cells.map .int), .int c] h = some (.bl true, h') := by
  unfold yfP
  rw [yX]
  show ∃ h', ob (yM _ _ [.val (.lst (cells.map .int)), .val (.int c), .no, .no, .no, .no, .no, .no, .no, .no, .no, .no, .no, .no] h) fnK = _
  walk_at "pd"
  rw [show xIL (yg 0) [PVar.val (.lst (cells.map .int)), .val (.int c), .val (.lst []), .no, .no, .no, .no, .no, .no, .no, .no, .no, .no, .no] h = some (cells.map .int, h) from rfl, yD]
  refine yoN (P := fun (q : Option (PV × AH)) => ∃ h', q = some (.bl true, h')) (fun i ρ h1 => h1 = h /\ ∃ us : List T, PlT us /\ us.length <= 4 * i /\ ∃ c3 : PVar, ρ = [.val (.lst (cells.map .int)), .val (.int c), .val (.lst (us.map ynF)), c3, .no, .no, .no, .no, .no, .no, .no, .no, .no, .no]) (fun _ _ => False) ⟨rfl, [], yzo, by simp, .no, rfl⟩ ?_ ?_ (fun _ _ z => z.elim)
  . rintro i x ρ h1 hx ⟨rfl, us, hP, hb, c3, rfl⟩
    rw [List.getElem?_map] at hx
    obtain ⟨z, hz, rfl⟩ := Option.map_eq_some_iff.mp hx
    have hi := (List.getElem?_eq_some_iff.mp hz).1
    obtain ⟨ts, t1, t2, t3⟩ := yyp (h := h1) (yEw z) z
    refine ⟨_, .nx [.val (.lst (cells.map .int)), .val (.int c), .val (.lst ((us ++ ts).map ynF)), .val (.int z), .no, .no, .no, .no, .no, .no, .no, .no, .no, .no], h1, rfl, ?_, rfl, us ++ ts, yEf hP t1, by rw [List.length_append]; omega, _, rfl⟩
    walk_at "pd"
    rw [t3]
    walk_at "pd"
    rw [if_pos (by rw [List.length_map, List.length_map]; omega), List.map_append]
  . rintro ρ' h' ⟨rfl, us, hP, hb, c3, rfl⟩
    rw [List.length_map] at hb
    walk_at "pd"
    obtain ⟨bx, b1, b16, nb, eb⟩ := yyq (h := h') c
    rw [eb, yD]
    obtain ⟨hs, h8, nh, es⟩ := yyr (h := h') c
    rw [es, yD]
    have e0 : (h' ++ [Nd.lst (hs.map .int)])[h'.length]? = some (.lst (hs.map .int)) := by simp
    rw [yoO e0, yD]
    have gx : ∀ (X : List Nd) (k : Nat), (h' ++ X)[h'.length + k]? = X[k]? := fun X k => by rw [List.getElem?_append_right (Nat.le_add_right _ _), Nat.add_sub_cancel_left]
    rw [show h' ++ [Nd.lst (hs.map .int)] ++ [Nd.lst (hs.map .int)] ++ [Nd.dct [] []] ++ [Nd.dct [] []] = h' ++ [Nd.lst (hs.map .int), .lst (hs.map .int), .dct [] [], .dct [] []] by simp,
      show (h' ++ [Nd.lst (hs.map .int)]).length = h'.length + 1 by simp, show (h' ++ [Nd.lst (hs.map .int)] ++ [Nd.lst (hs.map .int)]).length = h'.length + 2 by simp, show (h' ++ [Nd.lst (hs.map .int)] ++ [Nd.lst (hs.map .int)] ++ [Nd.dct [] []]).length = h'.length + 3 by simp]
    have L0 : LS (h' ++ [Nd.lst (hs.map .int), .lst (hs.map .int), .dct [] [], .dct [] []]) (h'.length + 1) (h'.length + 2) (h'.length + 3) ⟨hs, fun _ => none, fun _ => none⟩ :=
      ⟨⟨[], [], [], [], gx _ 2, gx _ 3, ⟨by simp, by simp, rfl⟩, ⟨by simp, by simp, rfl⟩, fun _ => rfl, fun _ => rfl⟩, gx _ 1, by omega, h8, nh, fun j v e => nomatch e⟩
    have eN : (h' ++ [Nd.lst (hs.map .int), .lst (hs.map .int), .dct [] [], .dct [] []])[h'.length]? = some (.lst (hs.map .int)) := gx _ 0
    generalize h' ++ [Nd.lst (hs.map .int), .lst (hs.map .int), .dct [] [], .dct [] []] = h2 at L0 eN ⊢
    generalize hN : h'.length = n0 at *
    have na : n0 ≠ n0 + 1 /\ n0 ≠ n0 + 2 /\ n0 ≠ n0 + 3 := by omega
    generalize n0 + 1 = a at *
    generalize n0 + 2 = b at *
    generalize n0 + 3 = w at *
    rw [show xIL (yg 2) [PVar.val (.lst (cells.map .int)), .val (.int c), .val (.lst (us.map ynF)), c3, .val (.lst (bx.map .int)), .val (.loc n0), .val (.loc a), .val (.loc b), .val (.loc w), .no, .no, .no, .no, .no] h2 = some (us.map ynF, h2) from rfl, yD]
    refine yoN (P := fun (q : Option (PV × AH)) => ∃ h', q = some (.bl true, h')) (fun i ρ h3 => LS h3 a b w (yto bx (us.take i) ⟨hs, fun _ => none, fun _ => none⟩) /\ Fr3 a b w h2 h3 /\ ∃ c9 : PVar, ρ = [.val (.lst (cells.map .int)), .val (.int c), .val (.lst (us.map ynF)), c3, .val (.lst (bx.map .int)), .val (.loc n0), .val (.loc a), .val (.loc b), .val (.loc w), c9, .no, .no, .no, .no]) (fun _ _ => False) ⟨L0, Fr3.refl, .no, rfl⟩ ?_ ?_ (fun _ _ z => z.elim)
    . rintro i x ρ h3 hx ⟨L, F, c9, rfl⟩
      rw [List.getElem?_map] at hx
      obtain ⟨u, hu, rfl⟩ := Option.map_eq_some_iff.mp hx
      obtain ⟨k1, k2⟩ := hP u (List.mem_of_getElem? hu)
      obtain ⟨h4, e4, L4, F4⟩ := yuf k1 k2 b1 b16 nb L
      refine ⟨_, .nx [.val (.lst (cells.map .int)), .val (.int c), .val (.lst (us.map ynF)), c3, .val (.lst (bx.map .int)), .val (.loc n0), .val (.loc a), .val (.loc b), .val (.loc w), .val (ynF u), .no, .no, .no, .no], h4, rfl, ?_, ?_, ⟨F4.1.trans F.1, fun n h1 h2 h3 => (F4.2 n h1 h2 h3).trans (F.2 n h1 h2 h3)⟩, _, rfl⟩
      . walk_at "pd"
        rw [e4, yD]
      . rw [show us.take (i + 1) = us.take i ++ [u] by rw [List.take_add_one, hu]; rfl, yqG]
        exact L4
    . rintro ρ' h3 ⟨L, F, c9, rfl⟩
      rw [List.length_map, List.take_length] at L
      have eN3 : h3[n0]? = some (.lst (hs.map .int)) := (F.2 n0 na.1 na.2.1 na.2.2).trans eN
      obtain ⟨⟨sj, sv, wj, wv, e1, e2, i1, i2, f1, f2⟩, hh, _, _, _, _⟩ := L
      have ul : us.length <= 1000 := by omega
      (try walk_at "pd")
      rw [ytp e1 i1 f1, yD, ytp e2 i2 f2, yD]
      rw [yBx (fun u hu => (hP u hu).1) ul, yD, yoO eN3]
      (try walk_at "pd")
      obtain ⟨h4, e4, F4, g8⟩ := ymg (h := h3) (us := us) (x := .lst (bx.map .int)) (y := .lst (hs.map .int)) hP LV.lst LV.lst h8 b1 b16 nh nb
      rw [e4, yD]
      have al := fun (h : AH) => ymg (h := h) (us := us) (x := .lst (bx.map .int)) (y := .lst (hs.map .int)) hP LV.lst LV.lst h8 b1 b16 nh nb
      generalize yto bx us ⟨hs, fun _ => none, fun _ => none⟩ = τ at *
      have gy : ∀ (X : List Nd) (k : Nat), (h4 ++ X)[h4.length + k]? = X[k]? := fun X k => by rw [List.getElem?_append_right (Nat.le_add_right _ _), Nat.add_sub_cancel_left]
      have ea : h4[a]? = some (.lst (τ.hs.map .int)) := (F4.2 a (ykX hh)).trans hh
      have en : h4[n0]? = some (.lst (hs.map .int)) := (F4.2 n0 (ykX eN3)).trans eN3
      rw [show h4 ++ [Nd.lst (ybU τ.s)] ++ [Nd.lst (ybU τ.v)] ++ [Nd.lst (τ.hs.map .int)] = h4 ++ [Nd.lst (ybU τ.s), .lst (ybU τ.v), .lst (τ.hs.map .int)] by simp]
      have q1 := gy [Nd.lst (ybU τ.s), .lst (ybU τ.v), .lst (τ.hs.map .int)] 0
      have q2 := gy [Nd.lst (ybU τ.s), .lst (ybU τ.v), .lst (τ.hs.map .int)] 1
      have q3 := gy [Nd.lst (ybU τ.s), .lst (ybU τ.v), .lst (τ.hs.map .int)] 2
      have qa : (h4 ++ [Nd.lst (ybU τ.s), .lst (ybU τ.v), .lst (τ.hs.map .int)])[a]? = some (.lst (τ.hs.map .int)) := by rw [List.getElem?_append_left (ykX ea)]; exact ea
      have qn : (h4 ++ [Nd.lst (ybU τ.s), .lst (ybU τ.v), .lst (τ.hs.map .int)])[n0]? = some (.lst (hs.map .int)) := by rw [List.getElem?_append_left (ykX en)]; exact en
      have la := ykX ea
      have ln := ykX en
      generalize h4 ++ [Nd.lst (ybU τ.s), .lst (ybU τ.v), .lst (τ.hs.map .int)] = h5 at *
      rw [Nat.add_zero] at q1
      generalize h4.length = M at *
      have q1 : h5[M]? = some (.lst (ybU τ.s)) := q1
      have q2 : h5[M + 1]? = some (.lst (ybU τ.v)) := q2
      have q3 : h5[M + 2]? = some (.lst (τ.hs.map .int)) := q3
      have t1 := (ylx τ.s).1
      have t2 := (ylx τ.v).1
      rw [yqF q1 q2 q3 qa g8]
      (try walk_at "pd")
      rw [(ywm qn).1]
      (try walk_at "pd")
      rw [List.length_map, List.length_map, if_neg (by simp)]
      (try walk_at "pd")
      rw [if_pos (ylO q1), yrT q1 (by omega), yD]
      have q2' := yw (x := .lst (ybU τ.s ++ [.tup [.int 0, .int 0]])) (show M + 1 ≠ M by omega) q2
      have q3' := yw (x := .lst (ybU τ.s ++ [.tup [.int 0, .int 0]])) (show M + 2 ≠ M by omega) q3
      (try walk_at "pd")
      rw [if_pos (ylO q2'), yrT q2' (by omega), yD]
      have q3'' := yw (x := .lst (ybU τ.v ++ [.tup [.int 0, .int 0]])) (show M + 2 ≠ M + 1 by omega) q3'
      (try walk_at "pd")
      rw [if_pos (ylO q3''), yrT q3'' (by rw [List.length_map]; omega), yD]
      have qa3 := yw (x := .lst (τ.hs.map .int ++ [.int 0])) (show a ≠ M + 2 by omega) (yw (x := .lst (ybU τ.v ++ [.tup [.int 0, .int 0]])) (show a ≠ M + 1 by omega) (yw (x := .lst (ybU τ.s ++ [.tup [.int 0, .int 0]])) (show a ≠ M by omega) qa))
      have qn3 := yw (x := .lst (τ.hs.map .int ++ [.int 0])) (show n0 ≠ M + 2 by omega) (yw (x := .lst (ybU τ.v ++ [.tup [.int 0, .int 0]])) (show n0 ≠ M + 1 by omega) (yw (x := .lst (ybU τ.s ++ [.tup [.int 0, .int 0]])) (show n0 ≠ M by omega) qn))
      generalize ((h5.set M (.lst (ybU τ.s ++ [.tup [.int 0, .int 0]]))).set (M + 1) (.lst (ybU τ.v ++ [.tup [.int 0, .int 0]]))).set (M + 2) (.lst (τ.hs.map .int ++ [.int 0])) = h6 at *
      obtain ⟨h7, e7, F7, _⟩ := al h6
      rw [e7, yD]
      have ga : ∀ (X : List Nd) (k : Nat), (h7 ++ X)[h7.length + k]? = X[k]? := fun X k => by rw [List.getElem?_append_right (Nat.le_add_right _ _), Nat.add_sub_cancel_left]
      have ea7 : h7[a]? = some (.lst (τ.hs.map .int)) := (F7.2 a (ykX qa3)).trans qa3
      have en7 : h7[n0]? = some (.lst (hs.map .int)) := (F7.2 n0 (ykX qn3)).trans qn3
      rw [show h7 ++ [Nd.lst (ybU τ.s)] ++ [Nd.lst (ybU τ.v)] ++ [Nd.lst (τ.hs.map .int)] = h7 ++ [Nd.lst (ybU τ.s), .lst (ybU τ.v), .lst (τ.hs.map .int)] by simp]
      rw [yqF (h := h7 ++ [Nd.lst (ybU τ.s), .lst (ybU τ.v), .lst (τ.hs.map .int)]) (a1 := h7.length) (a2 := h7.length + 1) (a3 := h7.length + 2) (lf := a) (hs := τ.hs) (ga _ 0) (ga _ 1) (ga _ 2) (by rw [List.getElem?_append_left (ykX ea7)]; exact ea7) g8]
      (try walk_at "pd")
      rw [(ywm (by rw [List.getElem?_append_left (ykX en7)]; exact en7)).2]
      exact ⟨_, rfl⟩
theorem ytr (cs : List Int) (lo hi : Option Int) : ytS (cs.map PV.int) lo hi = (ytS cs lo hi).map .int := by
 unfold ytS
 rw [List.length_map, List.map_take, List.map_drop]
theorem yEg (cs : List Int) (k : Nat) : (ytS cs (some (k : Int)) (some ((k : Int) + 19))).length <= 19 := by
 unfold ytS
 rw [show (k : Int) + 19 = ((k + 19 : Nat) : Int) by omega, HT.sIx_nat, HT.sIx_nat, List.length_take]
 omega
theorem yEh (ns : List Int) (hl : ns.length <= 63) : ∃ h', yyg [.scr ns] h = some (.bl true, h') := by
  unfold yyg
  rw [yX]
  show ∃ h', ob (yM _ _ [.val (.scr ns), .no, .no] h) fnK = _
  (try walk_at "px")
  have hmax : yvz [.int 1, .int (ns.length : Int)] h = some (.int (max 1 (ns.length : Int)), h) := by
    unfold yvz
    show some (PV.int (if (ns.length : Int) > 1 then (ns.length : Int) else 1), h) = _
    congr 3
    split <;> omega
  rw [yDa (i := 0) (j := max 1 (ns.length : Int)) (c := 19) (h1 := h) (by (try walk_at "px"); rw [hmax]; (try walk_at "px")) (by omega), yD]
  refine yoN (P := fun (q : Option (PV × AH)) => ∃ h', q = some (.bl true, h')) (fun i ρ h1 => ∃ c1 c2 : PVar, ρ = [.val (.scr ns), c1, c2]) (fun _ _ => False) ⟨.no, .no, rfl⟩ ?_ ?_ (fun _ _ z => z.elim)
  . rintro i x ρ h1 hx ⟨c1, c2, rfl⟩
    obtain ⟨k, rfl⟩ : ∃ k : Nat, x = .int (k : Int) := by
      unfold yyY at hx
      rw [List.getElem?_map] at hx
      obtain ⟨j, hj, rfl⟩ := Option.map_eq_some_iff.mp hx
      exact ⟨j * 19, by simp⟩
    have hcl := yEg ns k
    generalize hcs : ytS ns (some (k : Int)) (some ((k : Int) + 19)) = cs at hcl
    have hs : yCP [.lst (ytS (cs.map PV.int) none (some 1))] h1 = some (.int (ytS cs none (some 1)).sum, h1) := by
      rw [ytr]
      unfold yCP yda
      simp only [ynv]
    obtain ⟨h2, e2⟩ := yBA (h := h1) cs ((ytS cs none (some 1)).sum + cs.length) hcl
    refine ⟨_, .nx [.val (.scr ns), .val (.int k), .val (.lst (cs.map .int))], h2, rfl, ?_, _, _, rfl⟩
    (try walk_at "px")
    rw [ytr, hcs, hs]
    (try walk_at "px")
    rw [List.length_map, e2]
    (try walk_at "px")
  . rintro ρ' h' ⟨c1, c2, rfl⟩
    (try walk_at "px")
    exact ⟨_, rfl⟩
end
end
def top (i : Nat) : Stmt := PySem.Challenge.pw_retryhall_k16_alone_plain_parts.main.body.getD i (.Pass ⟨0, 0, 0, 0⟩)
abbrev ybA : Stmt := inClass (top 2) 0
abbrev ycI : Stmt := inClass (top 2) 1
abbrev yer : Stmt := inClass (top 2) 2
abbrev ycJ : Stmt := inClass (top 2) 3
abbrev ycl : Stmt := inClass (top 2) 4
abbrev ydu : Stmt := inClass (top 2) 5
abbrev yes : Stmt := inClass (top 2) 7
abbrev yet : Stmt := inClass (top 2) 8
abbrev ycK : Stmt := inClass (top 2) 9
abbrev yfC : Stmt := top 6
abbrev ycm : Stmt := top 7
abbrev ybm : Stmt := inClass (top 9) 0
abbrev ybB : Stmt := inClass (top 9) 1
abbrev ycL : Stmt := inClass (top 9) 2
abbrev ybR : Stmt := inClass (top 9) 3
abbrev yZ : Stmt := inClass (top 9) 4
abbrev ybS : Stmt := inClass (top 9) 5
abbrev ybC : Stmt := inClass (top 9) 6
abbrev ybn : Stmt := inClass (top 9) 7
abbrev yba : Stmt := inClass (top 9) 8
abbrev ybD : Stmt := inClass (top 12) 0
abbrev yQ : Stmt := inClass (top 13) 0
abbrev ybo : Stmt := inClass (top 14) 0
abbrev ybE : Stmt := inClass (top 15) 0
abbrev ybb : Stmt := inClass (top 25) 0
abbrev yR : Stmt := inClass (top 25) 8
abbrev yH : Stmt := inClass (top 25) 7
abbrev ybc : Stmt := inClass (top 25) 1
abbrev ybd : Stmt := inClass (top 25) 2
abbrev ybF : Stmt := inClass (top 25) 3
abbrev yI : Stmt := inClass (top 25) 4
abbrev ybp : Stmt := inClass (top 25) 5
abbrev yz : Stmt := inClass (top 25) 6
abbrev yhe : Stmt := top 24
abbrev ycn : Stmt := top 27
abbrev ycM : Stmt := top 28
abbrev yco : Stmt := top 29
abbrev ycp : Stmt := top 30
abbrev ycq : Stmt := top 31
abbrev ycr : Stmt := top 32
abbrev ydv : Stmt := top 33
abbrev ybG : Stmt := top 34
abbrev ycs : Stmt := top 35
abbrev ycN : Stmt := top 36
abbrev ycO : Stmt := top 37
abbrev ykY : Stmt := top 38
theorem ymh : yo ["self"] ["self"] (yb ybA) := ⟨rfl, rfl, rfl, by decide +kernel, rfl, by decide +kernel, by decide +kernel⟩
theorem ykI : yo ["self", "box", "number", "top"] ["self", "box", "number"] (yb ycI) := ⟨rfl, rfl, rfl, by decide +kernel, rfl, by decide +kernel, by decide +kernel⟩
theorem ynG : yo ["self", "box", "layer"] ["self", "box"] (yb yer) := ⟨rfl, rfl, rfl, by decide +kernel, rfl, by decide +kernel, by decide +kernel⟩
theorem yqH : yo ["self"] ["self"] (yb ycJ) := ⟨rfl, rfl, rfl, by decide +kernel, rfl, by decide +kernel, by decide +kernel⟩
theorem yhf : yo ["self", "top", "beneath"] ["self"] (yb ycl) := ⟨rfl, rfl, rfl, by decide +kernel, rfl, by decide +kernel, by decide +kernel⟩
theorem ysf : yo ["self"] ["self"] (yb ydu) := ⟨rfl, rfl, rfl, by decide +kernel, rfl, by decide +kernel, by decide +kernel⟩
theorem yuh : yo ["self", "box", "number"] ["self", "box", "number"] (yb yes) := ⟨rfl, rfl, rfl, by decide +kernel, rfl, by decide +kernel, by decide +kernel⟩
theorem yui : yo ["self"] ["self"] (yb yet) := ⟨rfl, rfl, rfl, by decide +kernel, rfl, by decide +kernel, by decide +kernel⟩
theorem ykJ : yo ["self", "lowest"] ["self"] (yb ycK) := ⟨rfl, rfl, rfl, by decide +kernel, rfl, by decide +kernel, by decide +kernel⟩
theorem ywn : yo ["word", "one", "other"] ["word", "one", "other"] (yb yfC) := ⟨rfl, rfl, rfl, by decide +kernel, rfl, by decide +kernel, by decide +kernel⟩
theorem ypp : yo ["slot"] ["slot"] (yb ycm) := ⟨rfl, rfl, rfl, by decide +kernel, rfl, by decide +kernel, by decide +kernel⟩
theorem ykZ : yo ["self", "slots", "width"] ["self", "slots", "width"] (yb ybm) := ⟨rfl, rfl, rfl, by decide +kernel, rfl, by decide +kernel, by decide +kernel⟩
theorem ymi : yo ["self", "slot"] ["self", "slot"] (yb ybB) := ⟨rfl, rfl, rfl, by decide +kernel, rfl, by decide +kernel, by decide +kernel⟩
theorem yqI : yo ["self", "slot", "number"] ["self", "slot", "number"] (yb ycL) := ⟨rfl, rfl, rfl, by decide +kernel, rfl, by decide +kernel, by decide +kernel⟩
theorem ymY : yo ["self", "place"] ["self", "place"] (yb ybR) := ⟨rfl, rfl, rfl, by decide +kernel, rfl, by decide +kernel, by decide +kernel⟩
theorem ykp : yo ["self", "word", "slot", "one", "other"] ["self", "word", "slot", "one", "other"] (yb yZ) := ⟨rfl, rfl, rfl, by decide +kernel, rfl, by decide +kernel, by decide +kernel⟩
theorem ymZ : yo ["self", "place", "slot"] ["self", "place", "slot"] (yb ybS) := ⟨rfl, rfl, rfl, by decide +kernel, rfl, by decide +kernel, by decide +kernel⟩
theorem ymj : yo ["self", "place"] ["self", "place"] (yb ybC) := ⟨rfl, rfl, rfl, by decide +kernel, rfl, by decide +kernel, by decide +kernel⟩
theorem yla : yo ["self", "slot", "place"] ["self", "slot", "place"] (yb ybn) := ⟨rfl, rfl, rfl, by decide +kernel, rfl, by decide +kernel, by decide +kernel⟩
theorem ygP : yo ["self", "slot", "place", "numbers", "box"] ["self", "slot", "place", "numbers"] (yb yba) := ⟨rfl, rfl, rfl, by decide +kernel, rfl, by decide +kernel, by decide +kernel⟩
theorem ymk : yo ["self", "slot", "number"] ["self", "slot", "number"] (yb ybD) := ⟨rfl, rfl, rfl, by decide +kernel, rfl, by decide +kernel, by decide +kernel⟩
theorem yjK : yo ["self", "word", "slot", "one", "other"] ["self", "word", "slot", "one", "other"] (yb yQ) := ⟨rfl, rfl, rfl, by decide +kernel, rfl, by decide +kernel, by decide +kernel⟩
theorem ylb : yo ["self", "slot", "place"] ["self", "slot", "place"] (yb ybo) := ⟨rfl, rfl, rfl, by decide +kernel, rfl, by decide +kernel, by decide +kernel⟩
theorem yml : yo ["self", "place", "slot"] ["self", "place", "slot"] (yb ybE) := ⟨rfl, rfl, rfl, by decide +kernel, rfl, by decide +kernel, by decide +kernel⟩
theorem ykq : yo ["self", "boxes", "slots"] ["self", "boxes", "slots"] (yb ybb) := ⟨rfl, rfl, rfl, by decide +kernel, rfl, by decide +kernel, by decide +kernel⟩
theorem yjL : yo ["self", "part"] ["self", "part"] (yb yR) := ⟨rfl, rfl, rfl, by decide +kernel, rfl, by decide +kernel, by decide +kernel⟩
theorem yiQ : yo ["self", "part"] ["self", "part"] (yb yH) := ⟨rfl, rfl, rfl, by decide +kernel, rfl, by decide +kernel, by decide +kernel⟩
theorem yeI : yo ["self", "parts", "part", "end"] ["self", "parts"] (yb ybc) := ⟨rfl, rfl, rfl, by decide +kernel, rfl, by decide +kernel, by decide +kernel⟩
theorem ykr : yo ["self", "part"] ["self", "part"] (yb ybd) := ⟨rfl, rfl, rfl, by decide +kernel, rfl, by decide +kernel, by decide +kernel⟩
theorem ymm : yo ["self", "part"] ["self", "part"] (yb ybF) := ⟨rfl, rfl, rfl, by decide +kernel, rfl, by decide +kernel, by decide +kernel⟩
theorem yfQ : yo ["self", "part", "end"] ["self", "part"] (yb yI) := ⟨rfl, rfl, rfl, by decide +kernel, rfl, by decide +kernel, by decide +kernel⟩
theorem yhE : yo ["self", "part", "end"] ["self", "part"] (yb ybp) := ⟨rfl, rfl, rfl, by decide +kernel, rfl, by decide +kernel, by decide +kernel⟩
theorem ydE : yo ["self", "parts", "before", "end"] ["self", "parts"] (yb yz) := ⟨rfl, rfl, rfl, by decide +kernel, rfl, by decide +kernel, by decide +kernel⟩
theorem sc_alone : yo ["deed", "boxes", "slots", "doing", "end"] ["deed", "boxes", "slots"] (yb yhe) := ⟨rfl, rfl, rfl, by decide +kernel, rfl, by decide +kernel, by decide +kernel⟩
theorem ypq : yo ["_law_cell"] ["_law_cell"] (yb ycn) := ⟨rfl, rfl, rfl, by decide +kernel, rfl, by decide +kernel, by decide +kernel⟩
theorem yqJ : yo ["_law_cell"] ["_law_cell"] (yb ycM) := ⟨rfl, rfl, rfl, by decide +kernel, rfl, by decide +kernel, by decide +kernel⟩
theorem yjM : yo ["_law_found", "_law_due", "_law_k"] ["_law_found", "_law_due"] (yb yco) := ⟨rfl, rfl, rfl, by decide +kernel, rfl, by decide +kernel, by decide +kernel⟩
theorem ybq : yo ["_law_mixed_here", "_law_cell", "_law_letters", "_law_many", "_law_rest", "_law_one", "_law_other", "_law_third", "_law_way", "_law_word", "_law_tree"] ["_law_mixed_here", "_law_cell"] (yb ycp) := ⟨rfl, rfl, rfl, by decide +kernel, rfl, by decide +kernel, by decide +kernel⟩
theorem ydw : yo ["_law_cell", "_law_mixed_here", "_law_many", "_law_boxes_here", "_law_k", "_law_some"] ["_law_cell"] (yb ycq) := ⟨rfl, rfl, rfl, by decide +kernel, rfl, by decide +kernel, by decide +kernel⟩
theorem yhg : yo ["_law_cell", "_law_mixed_here", "_law_slots_here"] ["_law_cell"] (yb ycr) := ⟨rfl, rfl, rfl, by decide +kernel, rfl, by decide +kernel, by decide +kernel⟩
theorem ysg : yo ["_law_word", "_law_one", "_law_other"] ["_law_word", "_law_one", "_law_other"] (yb ydv) := ⟨rfl, rfl, rfl, by decide +kernel, rfl, by decide +kernel, by decide +kernel⟩
theorem ydm : yo ["_law_part", "_law_boxes_here", "_law_saw", "_law_slots_here", "_law_written", "_law_one", "_law_other", "_law_box"] ["_law_part", "_law_boxes_here", "_law_saw", "_law_slots_here", "_law_written"] (yb ybG) := ⟨rfl, rfl, rfl, by decide +kernel, rfl, by decide +kernel, by decide +kernel⟩
theorem ypr : yo ["_law_found"] ["_law_found"] (yb ycs) := ⟨rfl, rfl, rfl, by decide +kernel, rfl, by decide +kernel, by decide +kernel⟩
theorem yhU : yo ["_law_tree", "_law_made_here", "_law_part"] ["_law_tree"] (yb ycN) := ⟨rfl, rfl, rfl, by decide +kernel, rfl, by decide +kernel, by decide +kernel⟩
theorem yW : yo ["_law_cells", "_law_cell", "_law_tree", "_law_each", "_law_boxes_here", "_law_slots_here", "_law_left", "_law_saw", "_law_written", "_law_part", "_law_due", "_law_deed_here", "_law_handed", "_law_found"] ["_law_cells", "_law_cell"] (yb ycO) := ⟨rfl, rfl, rfl, by decide +kernel, rfl, by decide +kernel, by decide +kernel⟩
theorem sc_law : yo ["_law_script", "_law_at", "_law_cells"] ["_law_script"] (yb ykY) := ⟨rfl, rfl, rfl, by decide +kernel, rfl, by decide +kernel, by decide +kernel⟩
structure Ads where
 A : Nat -> Addr
 yeS : Addr
 yeT : FuncData
 yhh : Addr
 yhi : FuncData
 yhV : Addr
 yhW : FuncData
 yhj : Addr
 yhk : FuncData
 ygj : Addr
 ygk : FuncData
 yiq : Addr
 yir : FuncData
 yjN : Addr
 yjO : FuncData
 yjP : Addr
 yjQ : FuncData
 yhl : Addr
 yhm : FuncData
 a_reckon : Addr
 d_reckon : FuncData
 yfj : Addr
 yfk : FuncData
 ydn : Addr
 yeu : FuncData
 ycv : Addr
 ycw : FuncData
 ydo : Addr
 ydp : FuncData
 ycP : Addr
 ycQ : FuncData
 ydM : Addr
 ydN : FuncData
 yfD : Addr
 yfE : FuncData
 yeU : Addr
 yeV : FuncData
 yev : Addr
 yew : FuncData
 ydO : Addr
 ydP : FuncData
 yeW : Addr
 yeX : FuncData
 ydx : Addr
 ydy : FuncData
 yex : Addr
 yey : FuncData
 yeY : Addr
 yeZ : FuncData
 ydQ : Addr
 ydR : FuncData
 ydz : Addr
 ydA : FuncData
 ydb : Addr
 ydc : FuncData
 ydS : Addr
 ydT : FuncData
 yfo : Addr
 yfp : FuncData
 ygF : Addr
 ygG : FuncData
 yez : Addr
 yeA : FuncData
 yfR : Addr
 yfS : FuncData
 ydX : Addr
 ydY : FuncData
 a_alone : Addr
 d_alone : FuncData
 yed : Addr
 yee : FuncData
 yeJ : Addr
 yeK : FuncData
 ygl : Addr
 ygm : FuncData
 ygn : Addr
 ygo : FuncData
 ygp : Addr
 ygq : FuncData
 ygr : Addr
 ygs : FuncData
 yis : Addr
 yit : FuncData
 yfa : Addr
 yfb : FuncData
 ygt : Addr
 ygu : FuncData
 yhn : Addr
 yho : FuncData
 yhp : Addr
 yhq : FuncData
 a_law : Addr
 d_law : FuncData
 k_DONE : Addr
 k_SLOTS : Tok
 k_WAITS : Addr
 k_WIDE : Tok
abbrev ybI (K : PySem.W.Frag) (t : Ads) : Ck := ⟨K, t.A⟩
structure Txt (K : PySem.W.Frag) (mg : Str -> Option Value) (t : Ads) : Prop where
 yna : Fun K "__init__" "Log.__init__" ybA t.yeS t.yeT
 ynb : Binds K t.yeT ["self"] []
 ysh : Fun K "write" "Log.write" ycI t.yhh t.yhi
 ysi : Binds K t.yhi ["self", "box", "number"] []
 ywo : Fun K "own" "Log.own" yer t.yhV t.yhW
 yqK : Binds K t.yhW ["self", "box"] []
 ysj : Fun K "begin" "Log.begin" ycJ t.yhj t.yhk
 ysk : Binds K t.yhk ["self"] []
 yqL : Fun K "settle" "Log.settle" ycl t.ygj t.ygk
 yqM : Binds K t.ygk ["self"] []
 yuj : Fun K "drop" "Log.drop" ydu t.yiq t.yir
 yuk : Binds K t.yir ["self"] []
 ywp : Fun K "see" "Log.see" yes t.yjN t.yjO
 ywq : Binds K t.yjO ["self", "box", "number"] []
 ywr : Fun K "saw" "Log.saw" yet t.yjP t.yjQ
 yqN : Binds K t.yjQ ["self"] []
 ysl : Fun K "wrote" "Log.wrote" ycK t.yhl t.yhm
 ysm : Binds K t.yhm ["self"] []
 F_reckon : Fun K "reckon" "reckon" yfC t.a_reckon t.d_reckon
 b_reckon : Binds K t.d_reckon ["word", "one", "other"] []
 m_reckon : mg "reckon" = some (.ref t.a_reckon)
 yhX : Fun K "slot_index" "slot_index" ycm t.yfj t.yfk
 ykK : Binds K t.yfk ["slot"] []
 ykL : mg "slot_index" = some (.ref t.yfj)
 ymn : Fun K "__init__" "Doer.__init__" ybm t.ydn t.yeu
 ymo : Binds K t.yeu ["self", "slots", "width"] []
 ync : Fun K "held_in" "Doer.held_in" ybB t.ycv t.ycw
 ycX : Binds K t.ycw ["self", "slot"] []
 ysn : Fun K "hold" "Doer.hold" ycL t.ydo t.ydp
 yfT : Binds K t.ydp ["self", "slot", "number"] []
 yps : Fun K "box_at" "Doer.box_at" ybR t.ycP t.ycQ
 yfF : Binds K t.ycQ ["self", "place"] []
 ylc : Fun K "do_reckon" "Doer.do_reckon" yZ t.ydM t.ydN
 yle : Binds K t.ydN ["self", "word", "slot", "one", "other"] []
 ypt : Fun K "do_put" "Doer.do_put" ybS t.yfD t.yfE
 ypu : Binds K t.yfE ["self", "place", "slot"] []
 ynd : Fun K "sees_at" "Doer.sees_at" ybC t.yeU t.yeV
 yne : Binds K t.yeV ["self", "place"] []
 ymp : Fun K "take_own" "Doer.take_own" ybn t.yev t.yew
 ymq : Binds K t.yew ["self", "slot", "place"] []
 ylf : Fun K "take_seen" "Doer.take_seen" yba t.ydO t.ydP
 ylg : Binds K t.ydP ["self", "slot", "place", "numbers"] []
 ynf : Fun K "__init__" "Let.__init__" ybD t.yeW t.yeX
 yng : Binds K t.yeX ["self", "slot", "number"] []
 yks : Fun K "__init__" "Reckon.__init__" yQ t.ydx t.ydy
 ykt : Binds K t.ydy ["self", "word", "slot", "one", "other"] []
 ymr : Fun K "__init__" "Take.__init__" ybo t.yex t.yey
 yms : Binds K t.yey ["self", "slot", "place"] []
 ynh : Fun K "__init__" "Put.__init__" ybE t.yeY t.yeZ
 yni : Binds K t.yeZ ["self", "place", "slot"] []
 ylh : Fun K "__init__" "Doing.__init__" ybb t.ydQ t.ydR
 yli : Binds K t.ydR ["self", "boxes", "slots"] []
 yku : Fun K "take_done" "Doing.take_done" yR t.ydz t.ydA
 ykv : Binds K t.ydA ["self", "part"] []
 yjR : Fun K "plain_done" "Doing.plain_done" yH t.ydb t.ydc
 yjS : Binds K t.ydc ["self", "part"] []
 ylj : Fun K "list_end" "Doing.list_end" ybc t.ydS t.ydT
 ycc : Binds K t.ydT ["self", "parts"] []
 ylk : Fun K "part_end" "Doing.part_end" ybd t.yfo t.yfp
 yll : Binds K t.yfp ["self", "part"] []
 ynj : Fun K "if_end" "Doing.if_end" ybF t.ygF t.ygG
 ynk : Binds K t.ygG ["self", "part"] []
 yjT : Fun K "either_end" "Doing.either_end" yI t.yez t.yeA
 yjU : Binds K t.yeA ["self", "part"] []
 ymt : Fun K "try_end" "Doing.try_end" ybp t.yfR t.yfS
 ymu : Binds K t.yfS ["self", "part"] []
 yiR : Fun K "layered_end" "Doing.layered_end" yz t.ydX t.ydY
 yfU : Binds K t.ydY ["self", "parts"] []
 F_alone : Fun K "alone" "alone" yhe t.a_alone t.d_alone
 b_alone : Binds K t.d_alone ["deed", "boxes", "slots"] []
 m_alone : mg "alone" = some (.ref t.a_alone)
 ygv : Fun K "_law_mixed" "_law_mixed" ycn t.yed t.yee
 yhY : Binds K t.yee ["_law_cell"] []
 yhZ : mg "_law_mixed" = some (.ref t.yed)
 yhr : Fun K "_law_wide" "_law_wide" ycM t.yeJ t.yeK
 yiS : Binds K t.yeK ["_law_cell"] []
 yiT : mg "_law_wide" = some (.ref t.yeJ)
 ygw : Fun K "_law_alike" "_law_alike" yco t.ygl t.ygm
 yia : Binds K t.ygm ["_law_found", "_law_due"] []
 yib : mg "_law_alike" = some (.ref t.ygl)
 ykM : Fun K "_law_plain" "_law_plain" ycp t.ygn t.ygo
 yqO : Binds K t.ygo ["_law_mixed_here", "_law_cell"] []
 yqP : mg "_law_plain" = some (.ref t.ygn)
 ykN : Fun K "_law_boxes" "_law_boxes" ycq t.ygp t.ygq
 yqQ : Binds K t.ygq ["_law_cell"] []
 yqR : mg "_law_boxes" = some (.ref t.ygp)
 ykO : Fun K "_law_slots" "_law_slots" ycr t.ygr t.ygs
 yqS : Binds K t.ygs ["_law_cell"] []
 yqT : mg "_law_slots" = some (.ref t.ygr)
 ynH : Fun K "_law_sum" "_law_sum" ydv t.yis t.yit
 yul : Binds K t.yit ["_law_word", "_law_one", "_law_other"] []
 yum : mg "_law_sum" = some (.ref t.yis)
 yiD : Fun K "_law_plainly" "_law_plainly" ybG t.yfa t.yfb
 ynl : Binds K t.yfb ["_law_part", "_law_boxes_here", "_law_saw", "_law_slots_here", "_law_written"] []
 ynm : mg "_law_plainly" = some (.ref t.yfa)
 yic : Fun K "_law_pairs" "_law_pairs" ycs t.ygt t.ygu
 ykP : Binds K t.ygu ["_law_found"] []
 ykQ : mg "_law_pairs" = some (.ref t.ygt)
 ymv : Fun K "_law_made" "_law_made" ycN t.yhn t.yho
 yso : Binds K t.yho ["_law_tree"] []
 ysp : mg "_law_made" = some (.ref t.yhn)
 ymw : Fun K "_law_deed" "_law_deed" ycO t.yhp t.yhq
 ysq : Binds K t.yhq ["_law_cells", "_law_cell"] []
 ysr : mg "_law_deed" = some (.ref t.yhp)
 F_law : Fun K "law" "law" ykY t.a_law t.d_law
 b_law : Binds K t.d_law ["_law_script"] []
 m_law : mg "law" = some (.ref t.a_law)
 m_Log : mg "Log" = some (.ref (t.A 0))
 mk_Log : Mk K (t.A 0) t.yeS
 m_Doing : mg "Doing" = some (.ref (t.A 1))
 mk_Doing : Mk K (t.A 1) t.ydQ
 m_Doer : mg "Doer" = some (.ref (t.A 2))
 mk_Doer : Mk K (t.A 2) t.ydn
 m_Let : mg "Let" = some (.ref (t.A 3))
 mk_Let : Mk K (t.A 3) t.yeW
 m_Reckon : mg "Reckon" = some (.ref (t.A 4))
 mk_Reckon : Mk K (t.A 4) t.ydx
 m_Take : mg "Take" = some (.ref (t.A 5))
 mk_Take : Mk K (t.A 5) t.yex
 m_Put : mg "Put" = some (.ref (t.A 6))
 mk_Put : Mk K (t.A 6) t.yeY
 m_If : mg "If" = some (.ref (t.A 7))
 m_Either : mg "Either" = some (.ref (t.A 8))
 m_Try : mg "Try" = some (.ref (t.A 9))
 m_Throw : mg "Throw" = some (.ref (t.A 10))
 m_Wait : mg "Wait" = some (.ref (t.A 11))
 mk_Wait : PySem.W.makesIn K (t.A 11) = true
 io_Wait : PySem.W.findIn K (.ref (t.A 11)) "__init__" = some (some (.builtin "object.__init__"))
 kp_Wait : PySem.W.keepIn K (.ref (t.A 11)) = true
 yqU : yjh K (t.A 0) "write" t.yhh
 ynI : yjh K (t.A 0) "own" t.yhV
 yqV : yjh K (t.A 0) "begin" t.yhj
 ypv : yjh K (t.A 0) "settle" t.ygj
 yss : yjh K (t.A 0) "drop" t.yiq
 yun : yjh K (t.A 0) "see" t.yjN
 ynJ : yjh K (t.A 0) "saw" t.yjP
 yqW : yjh K (t.A 0) "wrote" t.yhl
 ms_Doing_held_in : yjh K (t.A 1) "held_in" t.ycv
 ms_Doing_hold : yjh K (t.A 1) "hold" t.ydo
 ms_Doing_box_at : yjh K (t.A 1) "box_at" t.ycP
 ms_Doing_do_reckon : yjh K (t.A 1) "do_reckon" t.ydM
 ms_Doing_do_put : yjh K (t.A 1) "do_put" t.yfD
 ms_Doing_sees_at : yjh K (t.A 1) "sees_at" t.yeU
 ms_Doing_take_own : yjh K (t.A 1) "take_own" t.yev
 ms_Doing_take_seen : yjh K (t.A 1) "take_seen" t.ydO
 yjV : yjh K (t.A 1) "take_done" t.ydz
 yiU : yjh K (t.A 1) "plain_done" t.ydb
 ybV : yjh K (t.A 1) "list_end" t.ydS
 ykw : yjh K (t.A 1) "part_end" t.yfo
 ymx : yjh K (t.A 1) "if_end" t.ygF
 yiV : yjh K (t.A 1) "either_end" t.yez
 ylm : yjh K (t.A 1) "try_end" t.yfR
 yfy : yjh K (t.A 1) "layered_end" t.ydX
 cf_Doer : yBc K (t.A 2) "__init__" t.ydn
 cl : ∀ k, Cls K (t.A k)
 fa : Fa (ybI K t)
 z_bool : mg "bool" = none
 z_int : mg "int" = none
 z_isinstance : mg "isinstance" = none
 z_len : mg "len" = none
 z_list : mg "list" = none
 z_max : mg "max" = none
 z_range : mg "range" = none
 z_reversed : mg "reversed" = none
 z_sorted : mg "sorted" = none
 z_str : mg "str" = none
 z_sum : mg "sum" = none
 z_tuple : mg "tuple" = none
 m_DONE : mg "DONE" = some (.ref t.k_DONE)
 kt_DONE : KTp K t.k_DONE ((["done"] : List Str).map V.str)
 m_SLOTS : mg "SLOTS" = some (.str "abcdefgh" t.k_SLOTS)
 m_WAITS : mg "WAITS" = some (.ref t.k_WAITS)
 kt_WAITS : KTp K t.k_WAITS ((["waits"] : List Str).map V.str)
 m_WIDE : mg "WIDE" = some (.int 18446744073709551616 t.k_WIDE)
theorem ymy : Nm "DONE" := ⟨by decide +kernel, by decide +kernel, by decide +kernel⟩
theorem yBB : Nm "Doer" := ⟨by decide +kernel, by decide +kernel, by decide +kernel⟩
theorem yyt : Nm "Doing" := ⟨by decide +kernel, by decide +kernel, by decide +kernel⟩
theorem yws : Nm "Either" := ⟨by decide +kernel, by decide +kernel, by decide +kernel⟩
theorem yFz : Nm "If" := ⟨by decide +kernel, by decide +kernel, by decide +kernel⟩
theorem yzp : Nm "Let" := ⟨by decide +kernel, by decide +kernel, by decide +kernel⟩
theorem yEi : Nm "Log" := ⟨by decide +kernel, by decide +kernel, by decide +kernel⟩
theorem yzq : Nm "Put" := ⟨by decide +kernel, by decide +kernel, by decide +kernel⟩
theorem yqX : Nm "Reckon" := ⟨by decide +kernel, by decide +kernel, by decide +kernel⟩
theorem yyu : Nm "SLOTS" := ⟨by decide +kernel, by decide +kernel, by decide +kernel⟩
theorem ywt : Nm "Take" := ⟨by decide +kernel, by decide +kernel, by decide +kernel⟩
theorem yyv : Nm "Throw" := ⟨by decide +kernel, by decide +kernel, by decide +kernel⟩
theorem yEj : Nm "Try" := ⟨by decide +kernel, by decide +kernel, by decide +kernel⟩
theorem yts : Nm "WAITS" := ⟨by decide +kernel, by decide +kernel, by decide +kernel⟩
theorem yst : Nm "WIDE" := ⟨by decide +kernel, by decide +kernel, by decide +kernel⟩
theorem yBC : Nm "Wait" := ⟨by decide +kernel, by decide +kernel, by decide +kernel⟩
theorem yhs : Nm "_law_alike" := ⟨by decide +kernel, by decide +kernel, by decide +kernel⟩
theorem ynK : Nm "_law_at" := ⟨by decide +kernel, by decide +kernel, by decide +kernel⟩
theorem ydq : Nm "_law_box" := ⟨by decide +kernel, by decide +kernel, by decide +kernel⟩
theorem ypw : Nm "_law_boxes" := ⟨by decide +kernel, by decide +kernel, by decide +kernel⟩
theorem yt : Nm "_law_boxes_here" := ⟨by decide +kernel, by decide +kernel, by decide +kernel⟩
theorem yct : Nm "_law_cell" := ⟨by decide +kernel, by decide +kernel, by decide +kernel⟩
theorem yfG : Nm "_law_cells" := ⟨by decide +kernel, by decide +kernel, by decide +kernel⟩
theorem yqY : Nm "_law_deed" := ⟨by decide +kernel, by decide +kernel, by decide +kernel⟩
theorem yeL : Nm "_law_deed_here" := ⟨by decide +kernel, by decide +kernel, by decide +kernel⟩
theorem ycx : Nm "_law_due" := ⟨by decide +kernel, by decide +kernel, by decide +kernel⟩
theorem ykR : Nm "_law_each" := ⟨by decide +kernel, by decide +kernel, by decide +kernel⟩
theorem yA : Nm "_law_found" := ⟨by decide +kernel, by decide +kernel, by decide +kernel⟩
theorem ycY : Nm "_law_handed" := ⟨by decide +kernel, by decide +kernel, by decide +kernel⟩
theorem yfl : Nm "_law_k" := ⟨by decide +kernel, by decide +kernel, by decide +kernel⟩
theorem ykS : Nm "_law_left" := ⟨by decide +kernel, by decide +kernel, by decide +kernel⟩
theorem yeB : Nm "_law_letters" := ⟨by decide +kernel, by decide +kernel, by decide +kernel⟩
theorem yqZ : Nm "_law_made" := ⟨by decide +kernel, by decide +kernel, by decide +kernel⟩
theorem yS : Nm "_law_made_here" := ⟨by decide +kernel, by decide +kernel, by decide +kernel⟩
theorem ydr : Nm "_law_many" := ⟨by decide +kernel, by decide +kernel, by decide +kernel⟩
theorem yht : Nm "_law_mixed" := ⟨by decide +kernel, by decide +kernel, by decide +kernel⟩
theorem yJ : Nm "_law_mixed_here" := ⟨by decide +kernel, by decide +kernel, by decide +kernel⟩
theorem ybr : Nm "_law_one" := ⟨by decide +kernel, by decide +kernel, by decide +kernel⟩
theorem yT : Nm "_law_other" := ⟨by decide +kernel, by decide +kernel, by decide +kernel⟩
theorem yjW : Nm "_law_pairs" := ⟨by decide +kernel, by decide +kernel, by decide +kernel⟩
theorem ym : Nm "_law_part" := ⟨by decide +kernel, by decide +kernel, by decide +kernel⟩
theorem ypx : Nm "_law_plain" := ⟨by decide +kernel, by decide +kernel, by decide +kernel⟩
theorem ymz : Nm "_law_plainly" := ⟨by decide +kernel, by decide +kernel, by decide +kernel⟩
theorem yds : Nm "_law_rest" := ⟨by decide +kernel, by decide +kernel, by decide +kernel⟩
theorem yiW : Nm "_law_saw" := ⟨by decide +kernel, by decide +kernel, by decide +kernel⟩
theorem yiE : Nm "_law_script" := ⟨by decide +kernel, by decide +kernel, by decide +kernel⟩
theorem ypy : Nm "_law_slots" := ⟨by decide +kernel, by decide +kernel, by decide +kernel⟩
theorem yn : Nm "_law_slots_here" := ⟨by decide +kernel, by decide +kernel, by decide +kernel⟩
theorem yra : Nm "_law_some" := ⟨by decide +kernel, by decide +kernel, by decide +kernel⟩
theorem ysu : Nm "_law_sum" := ⟨by decide +kernel, by decide +kernel, by decide +kernel⟩
theorem yjX : Nm "_law_third" := ⟨by decide +kernel, by decide +kernel, by decide +kernel⟩
theorem yef : Nm "_law_tree" := ⟨by decide +kernel, by decide +kernel, by decide +kernel⟩
theorem yfV : Nm "_law_way" := ⟨by decide +kernel, by decide +kernel, by decide +kernel⟩
theorem yid : Nm "_law_wide" := ⟨by decide +kernel, by decide +kernel, by decide +kernel⟩
theorem yeg : Nm "_law_word" := ⟨by decide +kernel, by decide +kernel, by decide +kernel⟩
theorem ydt : Nm "_law_written" := ⟨by decide +kernel, by decide +kernel, by decide +kernel⟩
theorem ytt : Nm "alone" := ⟨by decide +kernel, by decide +kernel, by decide +kernel⟩
theorem ywu : Nm "before" := ⟨by decide +kernel, by decide +kernel, by decide +kernel⟩
theorem yuo : Nm "beneath" := ⟨by decide +kernel, by decide +kernel, by decide +kernel⟩
theorem yBD : Nm "bool" := ⟨by decide +kernel, by decide +kernel, by decide +kernel⟩
theorem ymA : Nm "box" := ⟨by decide +kernel, by decide +kernel, by decide +kernel⟩
theorem ypz : Nm "boxes" := ⟨by decide +kernel, by decide +kernel, by decide +kernel⟩
theorem yBE : Nm "deed" := ⟨by decide +kernel, by decide +kernel, by decide +kernel⟩
theorem yjY : Nm "doing" := ⟨by decide +kernel, by decide +kernel, by decide +kernel⟩
theorem ygQ : Nm "end" := ⟨by decide +kernel, by decide +kernel, by decide +kernel⟩
theorem ytu : Nm "int" := ⟨by decide +kernel, by decide +kernel, by decide +kernel⟩
theorem yu : Nm "isinstance" := ⟨by decide +kernel, by decide +kernel, by decide +kernel⟩
theorem ytv : Nm "layer" := ⟨by decide +kernel, by decide +kernel, by decide +kernel⟩
theorem yie : Nm "len" := ⟨by decide +kernel, by decide +kernel, by decide +kernel⟩
theorem yhu : Nm "list" := ⟨by decide +kernel, by decide +kernel, by decide +kernel⟩
theorem ywv : Nm "lowest" := ⟨by decide +kernel, by decide +kernel, by decide +kernel⟩
theorem yEk : Nm "max" := ⟨by decide +kernel, by decide +kernel, by decide +kernel⟩
theorem yjZ : Nm "number" := ⟨by decide +kernel, by decide +kernel, by decide +kernel⟩
theorem ynL : Nm "numbers" := ⟨by decide +kernel, by decide +kernel, by decide +kernel⟩
theorem ymB : Nm "one" := ⟨by decide +kernel, by decide +kernel, by decide +kernel⟩
theorem yhv : Nm "other" := ⟨by decide +kernel, by decide +kernel, by decide +kernel⟩
theorem yB : Nm "part" := ⟨by decide +kernel, by decide +kernel, by decide +kernel⟩
theorem ytw : Nm "parts" := ⟨by decide +kernel, by decide +kernel, by decide +kernel⟩
theorem yhw : Nm "place" := ⟨by decide +kernel, by decide +kernel, by decide +kernel⟩
theorem yww : Nm "reckon" := ⟨by decide +kernel, by decide +kernel, by decide +kernel⟩
theorem yk : Nm "self" := ⟨by decide +kernel, by decide +kernel, by decide +kernel⟩
theorem yfW : Nm "slot" := ⟨by decide +kernel, by decide +kernel, by decide +kernel⟩
theorem yka : Nm "slot_index" := ⟨by decide +kernel, by decide +kernel, by decide +kernel⟩
theorem yly : Nm "slots" := ⟨by decide +kernel, by decide +kernel, by decide +kernel⟩
theorem ymC : Nm "sorted" := ⟨by decide +kernel, by decide +kernel, by decide +kernel⟩
theorem yzr : Nm "str" := ⟨by decide +kernel, by decide +kernel, by decide +kernel⟩
theorem yEl : Nm "sum" := ⟨by decide +kernel, by decide +kernel, by decide +kernel⟩
theorem yzs : Nm "top" := ⟨by decide +kernel, by decide +kernel, by decide +kernel⟩
theorem ytx : Nm "tuple" := ⟨by decide +kernel, by decide +kernel, by decide +kernel⟩
theorem yyw : Nm "width" := ⟨by decide +kernel, by decide +kernel, by decide +kernel⟩
theorem ykx : Nm "word" := ⟨by decide +kernel, by decide +kernel, by decide +kernel⟩
section
variable {P : Program} {w : World} {K : PySem.W.Frag} {mg : Str -> Option Value} {base : Heap} {t : Ads}
theorem ywx {n : Nat} {ck : Ck} {vs : List V} {H : Hp} {Q : VK} {E : XK} (h : spE ck n (fun _ _ => none) vs H Q E) : False := by
 obtain ⟨_, _, _, _, _, _, _, _, q, _⟩ := h
 cases q
theorem yiX {f : Addr} {fd : FuncData} {ps : List Str} {k n : Nat} {ck : Ck} : FnOk P w K mg base CX0 k f fd ps (spE ck n fun _ _ => none) := ⟨fun vs H Q E h => (ywx h).elim, fun A outer s H args us vs Q E _ _ _ _ h => (ywx h).elim⟩
theorem ymD (T : Txt K mg t)  : FnOk P w K mg base CX0 (0 + 1) t.yeS t.yeT ["self"] (spI (ybI K t) 0 0 ydH) := by
 have fa := T.fa
 exact zin T.yna ymh rfl (by decide) fun cdv Ar outer sh H E hr => (yeR (yfx fa.fl_stack (ydg (i := 0) rfl (Or.inl rfl) yk.d yk.c) (yiv (ygM (ya (yiv yqu) ye rfl))) rfl) (yiN (yfx fa.fl_last_seen (ydg (i := 0) rfl (Or.inl rfl) yk.d yk.c) (yiv yqu) rfl)))
theorem yrb (T : Txt K mg t)  : FnOk P w K mg base CX0 (0 + 1) t.yhh t.yhi ["self", "box", "number"] (spE (ybI K t) 3 yfM) := by
 have fa := T.fa
 exact zfn T.ysh ykI fun cdv Ar outer sh H E hr => (yf (ybg (i := 3) ykI.nd rfl (Or.inl rfl) (yep ix_list yfL (ybJ fa.fl_stack (yc (i := 0) yk rfl (Or.inl rfl)) rfl) (yFX yyE yCK z_int) (fun _ _ => rfl)) rfl (Or.inl rfl)) (yh (yoU (ynR hr) (yc (i := 3) yzs rfl (Or.inl rfl)) (yc (i := 1) ymA rfl (Or.inl rfl)) (yc (i := 2) yjZ rfl (Or.inl rfl)) rfl)))
theorem yup (T : Txt K mg t)  : FnOk P w K mg base CX0 (0 + 1) t.yhV t.yhW ["self", "box"] (spE (ybI K t) 2 yff) := by
 have fa := T.fa
 exact zfn T.ywo ynG fun cdv Ar outer sh H E hr => (yf (yAY PassesOwn.never rfl rfl T.z_reversed (ybJ fa.fl_stack (yc (i := 0) yk rfl (Or.inl rfl)) rfl) rfl rfl (yhO (i := 2) ynG.nd rfl (Or.inl rfl) (Or.inl rfl)) (yh (yca (yDp (ynR hr) (yc (i := 1) ymA rfl (Or.inl rfl)) (yc (i := 2) ytv rfl (Or.inl rfl)) (by with_unfolding_all rfl)) (yh (yv (yze (ynR hr) (yc (i := 2) ytv rfl (Or.inl rfl)) (yc (i := 1) ymA rfl (Or.inl rfl)) (fun _ _ => rfl)))) yG)) (fun _ => rfl)) (yh (yv yDd)))
theorem yrc (T : Txt K mg t)  : FnOk P w K mg base CX0 (0 + 1) t.yhj t.yhk ["self"] (spE (ybI K t) 1 yiP) := by
 have fa := T.fa
 exact zfn T.ysj yqH fun cdv Ar outer sh H E hr => (yh (ybZ (ytc PySem.F.plainAttrs_list PySem.F.slot_list_append PySem.F.type_list_append yfI ysU (ybJ fa.fl_stack (yc (i := 0) yk rfl (Or.inl rfl)) rfl) (ya (yiv yqu) ye rfl) rfl rfl rfl rfl rfl) rfl))
theorem ypA (T : Txt K mg t)  : FnOk P w K mg base CX0 (0 + 1) t.ygj t.ygk ["self"] (spE (ybI K t) 1 yhP) := by
 have fa := T.fa
 exact zfn T.yqL yhf fun cdv Ar outer sh H E hr => (yf (ybg (i := 1) yhf.nd rfl (Or.inl rfl) (yDn PySem.F.plainAttrs_list PySem.F.slot_list_pop PySem.F.type_list_pop yyK yyX (ybJ fa.fl_stack (yc (i := 0) yk rfl (Or.inl rfl)) rfl) rfl rfl) rfl (Or.inl rfl)) (yf (ybg (i := 2) yhf.nd rfl (Or.inl rfl) (yep ix_list yfL (ybJ fa.fl_stack (yc (i := 0) yk rfl (Or.inl rfl)) rfl) (yFX yyE yCK z_int) (fun _ _ => rfl)) rfl (Or.inl rfl)) (yh (ybZ (ytc PySem.F.plainAttrs_dict PySem.F.slot_dict_update PySem.F.type_dict_update yDu yFr (yc (i := 2) yuo rfl (Or.inl rfl)) (ya (yc (i := 1) yzs rfl (Or.inl rfl)) ye rfl) rfl rfl rfl rfl rfl) rfl))))
theorem ysv (T : Txt K mg t)  : FnOk P w K mg base CX0 (0 + 1) t.yiq t.yir ["self"] (spE (ybI K t) 1 ykm) := by
 have fa := T.fa
 exact zfn T.yuj ysf fun cdv Ar outer sh H E hr => (yh (ybZ (yDn PySem.F.plainAttrs_list PySem.F.slot_list_pop PySem.F.type_list_pop yyK yyX (ybJ fa.fl_stack (yc (i := 0) yk rfl (Or.inl rfl)) rfl) rfl rfl) rfl))
theorem yuq (T : Txt K mg t)  : FnOk P w K mg base CX0 (0 + 1) t.yjN t.yjO ["self", "box", "number"] (spE (ybI K t) 3 yhQ) := by
 have fa := T.fa
 exact zfn T.ywp yuh fun cdv Ar outer sh H E hr => (yh (yoU (ynR hr) (ybJ fa.fl_last_seen (yc (i := 0) yk rfl (Or.inl rfl)) rfl) (yc (i := 1) ymA rfl (Or.inl rfl)) (yc (i := 2) yjZ rfl (Or.inl rfl)) rfl))
theorem yur (T : Txt K mg t)  : FnOk P w K mg base CX0 (0 + 1) t.yjP t.yjQ ["self"] (spE (ybI K t) 1 ygN) := by
 have fa := T.fa
 exact zfn T.ywr yui fun cdv Ar outer sh H E hr => (yh (yv (yiv (PXS.z_sortI rfl (ybJ fa.fl_last_seen (yc (i := 0) yk rfl (Or.inl rfl)) rfl) ymC rfl T.z_sorted ylX rfl rfl rfl rfl))))
theorem yrd (T : Txt K mg t)  : FnOk P w K mg base CX0 (0 + 1) t.yhl t.yhm ["self"] (spE (ybI K t) 1 yfN) := by
 have fa := T.fa
 exact zfn T.ysl ykJ fun cdv Ar outer sh H E hr => (yf (ybg (i := 1) ykJ.nd rfl (Or.inl rfl) (yep ix_list yfL (ybJ fa.fl_stack (yc (i := 0) yk rfl (Or.inl rfl)) rfl) z_int (fun _ _ => rfl)) rfl (Or.inl rfl)) (yh (yv (yiv (PXS.z_sortI rfl (yc (i := 1) ywv rfl (Or.inl rfl)) ymC rfl T.z_sorted ylX rfl rfl rfl rfl)))))
theorem ywy (T : Txt K mg t)  : FnOk P w K mg base CX0 (0 + 1) t.a_reckon t.d_reckon ["word", "one", "other"] (spE (ybI K t) 3 yjG) := by
 have fa := T.fa
 exact zfn T.F_reckon ywn fun cdv Ar outer sh H E hr => (yf (yca (ybY ygB ymO (yc (i := 0) ykx rfl (Or.inl rfl)) z_str (ybs _)) (yh (yv (yej ycB yfe (yej yjg ynZ (yc (i := 1) ymB rfl (Or.inl rfl)) (yc (i := 2) yhv rfl (Or.inl rfl))) (yvJ yst rfl T.m_WIDE)))) yG) (yf (yca (ybY ygB ymO (yc (i := 0) ykx rfl (Or.inl rfl)) z_str (ybs _)) (yh (yv (yej ycB yfe (yej yyD yCJ (yc (i := 1) ymB rfl (Or.inl rfl)) (yc (i := 2) yhv rfl (Or.inl rfl))) (yvJ yst rfl T.m_WIDE)))) yG) (yf (yca (ybY ygB ymO (yc (i := 0) ykx rfl (Or.inl rfl)) z_str (ybs _)) (yh (yv (yej ycB yfe (yej ynq ytR (yc (i := 1) ymB rfl (Or.inl rfl)) (yc (i := 2) yhv rfl (Or.inl rfl))) (yvJ yst rfl T.m_WIDE)))) yG) (yf (yca (ybY ygB ymO (yc (i := 0) ykx rfl (Or.inl rfl)) z_str (ybs _)) (yh (yv (yDg (ybY ytA yBH (yc (i := 1) ymB rfl (Or.inl rfl)) (yc (i := 2) yhv rfl (Or.inl rfl)) (ybs _)) z_int z_int))) yG) (yh (yv (yDg (ybY ygB ymO (yc (i := 1) ymB rfl (Or.inl rfl)) (yc (i := 2) yhv rfl (Or.inl rfl)) (ybs _)) z_int z_int)))))))
theorem ypB (T : Txt K mg t)  : FnOk P w K mg base CX0 (0 + 1) t.yfj t.yfk ["slot"] (spE (ybI K t) 1 ydi) := by
 have fa := T.fa
 exact zfn T.yhX ypp fun cdv Ar outer sh H E hr => (yh (yv (ytc PySem.F.plainAttrs_str PySem.F.slot_str_find PySem.F.type_str_find yhd yfz (yDe yyu rfl T.m_SLOTS) (ya (yc (i := 0) yfW rfl (Or.inl rfl)) ye rfl) rfl rfl rfl rfl rfl)))
theorem ymE (T : Txt K mg t) (yeh : FnOk P w K mg base CX0 (1) t.yfj t.yfk ["slot"] (spE (ybI K t) 1 ydi)) : FnOk P w K mg base CX0 (1 + 1) t.ycv t.ycw ["self", "slot"] (spE (ybI K t) 2 yF) := by
 have fa := T.fa
 exact zfn T.ync ymi fun cdv Ar outer sh H E hr => (yh (yv (yep ix_list yfL (ybJ fa.fl_held (yc (i := 0) yk rfl (Or.inl rfl)) rfl) (ydh yeh (hr.mono (by omega)) yka rfl T.ykL T.yhX.kp T.ykK (ya (yc (i := 1) yfW rfl (Or.inl rfl)) ye rfl) rfl rfl) (fun _ _ => rfl))))
theorem yre (T : Txt K mg t) (yeh : FnOk P w K mg base CX0 (1) t.yfj t.yfk ["slot"] (spE (ybI K t) 1 ydi)) : FnOk P w K mg base CX0 (1 + 1) t.ydo t.ydp ["self", "slot", "number"] (spE (ybI K t) 3 ybt) := by
 have fa := T.fa
 exact zfn T.ysn yqI fun cdv Ar outer sh H E hr => (yh (ylW (yc (i := 2) yjZ rfl (Or.inl rfl)) (ybJ fa.fl_held (yc (i := 0) yk rfl (Or.inl rfl)) rfl) (ydh yeh (hr.mono (by omega)) yka rfl T.ykL T.yhX.kp T.ykK (ya (yc (i := 1) yfW rfl (Or.inl rfl)) ye rfl) rfl rfl) (fun _ => rfl) rfl rfl rfl))
theorem ynn (T : Txt K mg t) (yx : FnOk P w K mg base CX0 (2) t.ycv t.ycw ["self", "slot"] (spE (ybI K t) 2 yF)) : FnOk P w K mg base CX0 (2 + 1) t.ycP t.ycQ ["self", "place"] (spE (ybI K t) 2 ybl) := by
 have fa := T.fa
 exact zfn T.yps ymY fun cdv Ar outer sh H E hr => (yh (yv (yej ycB yfe (yE (yc (i := 0) yk rfl (Or.inl rfl)) (T.cl 1) T.ms_Doing_held_in yx (hr.mono (by omega)) T.ycX (ya (yc (i := 1) yhw rfl (Or.inl rfl)) ye rfl) rfl rfl rfl) (ybJ fa.fl_width (yc (i := 0) yk rfl (Or.inl rfl)) rfl))))
theorem yln (T : Txt K mg t) (ygH : FnOk P w K mg base CX0 (1) t.yeS t.yeT ["self"] (spI (ybI K t) 0 0 ydH)) : FnOk P w K mg base CX0 (2 + 1) t.ydn t.yeu ["self", "slots", "width"] (spJ (ybI K t) 2 1 ydj) := by
 have fa := T.fa
 exact yGy T.ymn ykZ rfl (by decide) fun cdv Ar outer sh H E hr => (yeR (yfx fa.fl_held (ydg (i := 0) rfl (Or.inl rfl) yk.d yk.c) (yiv (ykG ycC ygh yhu rfl T.z_list ygT (ya (yc (i := 1) yly rfl (Or.inl rfl)) ye rfl) rfl rfl)) rfl) (yeR (yfx fa.fl_width (ydg (i := 0) rfl (Or.inl rfl) yk.d yk.c) (yc (i := 2) yyw rfl (Or.inl rfl)) rfl) (yiN (yfx fa.fl_log (ydg (i := 0) rfl (Or.inl rfl) yk.d yk.c) (yiv (yBa T.mk_Log ygH (hr.mono (by omega)) yEi rfl T.m_Log T.ynb)) rfl))))
theorem yky (T : Txt K mg t) (yx : FnOk P w K mg base CX0 (2) t.ycv t.ycw ["self", "slot"] (spE (ybI K t) 2 yF)) (yV : FnOk P w K mg base CX0 (2) t.ydo t.ydp ["self", "slot", "number"] (spE (ybI K t) 3 ybt)) (G_reckon : FnOk P w K mg base CX0 (1) t.a_reckon t.d_reckon ["word", "one", "other"] (spE (ybI K t) 3 yjG)) : FnOk P w K mg base CX0 (2 + 1) t.ydM t.ydN ["self", "word", "slot", "one", "other"] (spE (ybI K t) 5 ycS) := by
 have fa := T.fa
 exact zfn T.ylc ykp fun cdv Ar outer sh H E hr => (yh (ybZ (yE (yc (i := 0) yk rfl (Or.inl rfl)) (T.cl 1) T.ms_Doing_hold yV (hr.mono (by omega)) T.yfT (ya (yc (i := 2) yfW rfl (Or.inl rfl)) (ya (ydh G_reckon (hr.mono (by omega)) yww rfl T.m_reckon T.F_reckon.kp T.b_reckon (ya (yc (i := 1) ykx rfl (Or.inl rfl)) (ya (yE (yc (i := 0) yk rfl (Or.inl rfl)) (T.cl 1) T.ms_Doing_held_in yx (hr.mono (by omega)) T.ycX (ya (yc (i := 3) ymB rfl (Or.inl rfl)) ye rfl) rfl rfl rfl) (ya (yE (yc (i := 0) yk rfl (Or.inl rfl)) (T.cl 1) T.ms_Doing_held_in yx (hr.mono (by omega)) T.ycX (ya (yc (i := 4) yhv rfl (Or.inl rfl)) ye rfl) rfl rfl rfl) ye rfl) rfl) rfl) rfl rfl) ye rfl) rfl) rfl rfl rfl) rfl))
theorem yno (T : Txt K mg t) (ybe : FnOk P w K mg base CX0 (3) t.ycP t.ycQ ["self", "place"] (spE (ybI K t) 2 ybl)) (yx : FnOk P w K mg base CX0 (2) t.ycv t.ycw ["self", "slot"] (spE (ybI K t) 2 yF)) (yiY : FnOk P w K mg base CX0 (1) t.yhh t.yhi ["self", "box", "number"] (spE (ybI K t) 3 yfM)) : FnOk P w K mg base CX0 (3 + 1) t.yfD t.yfE ["self", "place", "slot"] (spE (ybI K t) 3 yeq) := by
 have fa := T.fa
 exact zfn T.ypt ymZ fun cdv Ar outer sh H E hr => (yh (ybZ (yE (ybJ fa.fl_log (yc (i := 0) yk rfl (Or.inl rfl)) rfl) (T.cl 0) T.yqU yiY (hr.mono (by omega)) T.ysi (ya (yE (yc (i := 0) yk rfl (Or.inl rfl)) (T.cl 1) T.ms_Doing_box_at ybe (hr.mono (by omega)) T.yfF (ya (yc (i := 1) yhw rfl (Or.inl rfl)) ye rfl) rfl rfl rfl) (ya (yE (yc (i := 0) yk rfl (Or.inl rfl)) (T.cl 1) T.ms_Doing_held_in yx (hr.mono (by omega)) T.ycX (ya (yc (i := 2) yfW rfl (Or.inl rfl)) ye rfl) rfl rfl rfl) ye rfl) rfl) rfl rfl rfl) rfl))
theorem ymF (T : Txt K mg t) (ybe : FnOk P w K mg base CX0 (3) t.ycP t.ycQ ["self", "place"] (spE (ybI K t) 2 ybl)) (ygR : FnOk P w K mg base CX0 (1) t.yhV t.yhW ["self", "box"] (spE (ybI K t) 2 yff)) : FnOk P w K mg base CX0 (3 + 1) t.yeU t.yeV ["self", "place"] (spE (ybI K t) 2 ydI) := by
 have fa := T.fa
 exact zfn T.ynd ymj fun cdv Ar outer sh H E hr => (yh (yv (ytZ yCi yFi (yE (ybJ fa.fl_log (yc (i := 0) yk rfl (Or.inl rfl)) rfl) (T.cl 0) T.ynI ygR (hr.mono (by omega)) T.yqK (ya (yE (yc (i := 0) yk rfl (Or.inl rfl)) (T.cl 1) T.ms_Doing_box_at ybe (hr.mono (by omega)) T.yfF (ya (yc (i := 1) yhw rfl (Or.inl rfl)) ye rfl) rfl rfl rfl) ye rfl) rfl rfl rfl) yDd (ybs _))))
theorem ylo (T : Txt K mg t) (ybe : FnOk P w K mg base CX0 (3) t.ycP t.ycQ ["self", "place"] (spE (ybI K t) 2 ybl)) (yV : FnOk P w K mg base CX0 (2) t.ydo t.ydp ["self", "slot", "number"] (spE (ybI K t) 3 ybt)) (ygR : FnOk P w K mg base CX0 (1) t.yhV t.yhW ["self", "box"] (spE (ybI K t) 2 yff)) : FnOk P w K mg base CX0 (3 + 1) t.yev t.yew ["self", "slot", "place"] (spE (ybI K t) 3 ydk) := by
 have fa := T.fa
 exact zfn T.ymp yla fun cdv Ar outer sh H E hr => (yh (ybZ (yE (yc (i := 0) yk rfl (Or.inl rfl)) (T.cl 1) T.ms_Doing_hold yV (hr.mono (by omega)) T.yfT (ya (yc (i := 1) yfW rfl (Or.inl rfl)) (ya (yE (ybJ fa.fl_log (yc (i := 0) yk rfl (Or.inl rfl)) rfl) (T.cl 0) T.ynI ygR (hr.mono (by omega)) T.yqK (ya (yE (yc (i := 0) yk rfl (Or.inl rfl)) (T.cl 1) T.ms_Doing_box_at ybe (hr.mono (by omega)) T.yfF (ya (yc (i := 2) yhw rfl (Or.inl rfl)) ye rfl) rfl rfl rfl) ye rfl) rfl rfl rfl) ye rfl) rfl) rfl rfl rfl) rfl))
theorem ykz (T : Txt K mg t) (ybe : FnOk P w K mg base CX0 (3) t.ycP t.ycQ ["self", "place"] (spE (ybI K t) 2 ybl)) (yV : FnOk P w K mg base CX0 (2) t.ydo t.ydp ["self", "slot", "number"] (spE (ybI K t) 3 ybt)) (ymG : FnOk P w K mg base CX0 (1) t.yjN t.yjO ["self", "box", "number"] (spE (ybI K t) 3 yhQ)) : FnOk P w K mg base CX0 (3 + 1) t.ydO t.ydP ["self", "slot", "place", "numbers"] (spE (ybI K t) 4 ycT) := by
 have fa := T.fa
 exact zfn T.ylf ygP fun cdv Ar outer sh H E hr => (yf (ybg (i := 4) ygP.nd rfl (Or.inl rfl) (yE (yc (i := 0) yk rfl (Or.inl rfl)) (T.cl 1) T.ms_Doing_box_at ybe (hr.mono (by omega)) T.yfF (ya (yc (i := 2) yhw rfl (Or.inl rfl)) ye rfl) rfl rfl rfl) rfl (Or.inl rfl)) (yf (ybZ (yE (ybJ fa.fl_log (yc (i := 0) yk rfl (Or.inl rfl)) rfl) (T.cl 0) T.yun ymG (hr.mono (by omega)) T.ywq (ya (yc (i := 4) ymA rfl (Or.inl rfl)) (ya (yep ix_list yfL (yc (i := 3) ynL rfl (Or.inl rfl)) (yc (i := 4) ymA rfl (Or.inl rfl)) (fun _ _ => rfl)) ye rfl) rfl) rfl rfl rfl) rfl) (yh (ybZ (yE (yc (i := 0) yk rfl (Or.inl rfl)) (T.cl 1) T.ms_Doing_hold yV (hr.mono (by omega)) T.yfT (ya (yc (i := 1) yfW rfl (Or.inl rfl)) (ya (yep ix_list yfL (yc (i := 3) ynL rfl (Or.inl rfl)) (yc (i := 4) ymA rfl (Or.inl rfl)) (fun _ _ => rfl)) ye rfl) rfl) rfl rfl rfl) rfl))))
theorem ymH (T : Txt K mg t)  : FnOk P w K mg base CX0 (0 + 1) t.yeW t.yeX ["self", "slot", "number"] (spI (ybI K t) 2 3 ydJ) := by
 have fa := T.fa
 exact zin T.ynf ymk rfl (by decide) fun cdv Ar outer sh H E hr => (yeR (yfx fa.fl_slot (ydg (i := 0) rfl (Or.inl rfl) yk.d yk.c) (yc (i := 1) yfW rfl (Or.inl rfl)) rfl) (yiN (yfx fa.fl_number (ydg (i := 0) rfl (Or.inl rfl) yk.d yk.c) (yc (i := 2) yjZ rfl (Or.inl rfl)) rfl)))
theorem ykb (T : Txt K mg t)  : FnOk P w K mg base CX0 (0 + 1) t.ydx t.ydy ["self", "word", "slot", "one", "other"] (spI (ybI K t) 4 4 ycz) := by
 have fa := T.fa
 exact zin T.yks yjK rfl (by decide) fun cdv Ar outer sh H E hr => (yeR (yfx fa.fl_word (ydg (i := 0) rfl (Or.inl rfl) yk.d yk.c) (yc (i := 1) ykx rfl (Or.inl rfl)) rfl) (yeR (yfx fa.fl_slot (ydg (i := 0) rfl (Or.inl rfl) yk.d yk.c) (yc (i := 2) yfW rfl (Or.inl rfl)) rfl) (yeR (yfx fa.fl_one (ydg (i := 0) rfl (Or.inl rfl) yk.d yk.c) (yc (i := 3) ymB rfl (Or.inl rfl)) rfl) (yiN (yfx fa.fl_other (ydg (i := 0) rfl (Or.inl rfl) yk.d yk.c) (yc (i := 4) yhv rfl (Or.inl rfl)) rfl)))))
theorem ylp (T : Txt K mg t)  : FnOk P w K mg base CX0 (0 + 1) t.yex t.yey ["self", "slot", "place"] (spI (ybI K t) 2 5 ydl) := by
 have fa := T.fa
 exact zin T.ymr ylb rfl (by decide) fun cdv Ar outer sh H E hr => (yeR (yfx fa.fl_slot (ydg (i := 0) rfl (Or.inl rfl) yk.d yk.c) (yc (i := 1) yfW rfl (Or.inl rfl)) rfl) (yiN (yfx fa.fl_place (ydg (i := 0) rfl (Or.inl rfl) yk.d yk.c) (yc (i := 2) yhw rfl (Or.inl rfl)) rfl)))
theorem ymI (T : Txt K mg t)  : FnOk P w K mg base CX0 (0 + 1) t.yeY t.yeZ ["self", "place", "slot"] (spI (ybI K t) 2 6 ydK) := by
 have fa := T.fa
 exact zin T.ynh yml rfl (by decide) fun cdv Ar outer sh H E hr => (yeR (yfx fa.fl_place (ydg (i := 0) rfl (Or.inl rfl) yk.d yk.c) (yc (i := 1) yhw rfl (Or.inl rfl)) rfl) (yiN (yfx fa.fl_slot (ydg (i := 0) rfl (Or.inl rfl) yk.d yk.c) (yc (i := 2) yfW rfl (Or.inl rfl)) rfl)))
theorem ykA (T : Txt K mg t) (yfX : FnOk P w K mg base CX0 (3) t.ydn t.yeu ["self", "slots", "width"] (spJ (ybI K t) 2 1 ydj)) : FnOk P w K mg base CX0 (4 + 1) t.ydQ t.ydR ["self", "boxes", "slots"] (spI (ybI K t) 2 1 ycU) := by
 have fa := T.fa
 exact zin T.ylh ykq rfl (by decide) fun cdv Ar outer sh H E hr => (yeR (yBe T.cf_Doer yBB rfl T.m_Doer yfX (hr.mono (by omega)) T.ymo (ydg (i := 0) rfl (Or.inl rfl) yk.d yk.c) (ya (yc (i := 2) yly rfl (Or.inl rfl)) (ya (yje ybT yiw yie rfl T.z_len yhI (ya (yc (i := 1) ypz rfl (Or.inl rfl)) ye rfl) rfl rfl) ye rfl) rfl) rfl rfl rfl rfl) (yiN (yfx fa.fl_found (ydg (i := 0) rfl (Or.inl rfl) yk.d yk.c) (yjE (ykG ycC ygh yhu rfl T.z_list ygT (ya (yc (i := 1) ypz rfl (Or.inl rfl)) ye rfl) rfl rfl)) rfl)))
theorem ykc (T : Txt K mg t) (ygI : FnOk P w K mg base CX0 (4) t.yeU t.yeV ["self", "place"] (spE (ybI K t) 2 ydI)) (yfY : FnOk P w K mg base CX0 (4) t.yev t.yew ["self", "slot", "place"] (spE (ybI K t) 3 ydk)) (yfq : FnOk P w K mg base CX0 (4) t.ydO t.ydP ["self", "slot", "place", "numbers"] (spE (ybI K t) 4 ycT)) : FnOk P w K mg base CX0 (4 + 1) t.ydz t.ydA ["self", "part"] (spE (ybI K t) 2 ycA) := by
 have fa := T.fa
 exact zfn T.yku yjL fun cdv Ar outer sh H E hr => (yh (yca (yeE (yE (yc (i := 0) yk rfl (Or.inl rfl)) (T.cl 1) T.ms_Doing_sees_at ygI (hr.mono (by omega)) T.yne (ya (ybJ fa.fl_place (yc (i := 1) yB rfl (Or.inl rfl)) rfl) ye rfl) rfl rfl rfl) (fun _ => rfl)) (yh (ybZ (yE (yc (i := 0) yk rfl (Or.inl rfl)) (T.cl 1) T.ms_Doing_take_seen yfq (hr.mono (by omega)) T.ylg (ya (ybJ fa.fl_slot (yc (i := 1) yB rfl (Or.inl rfl)) rfl) (ya (ybJ fa.fl_place (yc (i := 1) yB rfl (Or.inl rfl)) rfl) (ya (ybJ fa.fl_found (yc (i := 0) yk rfl (Or.inl rfl)) rfl) ye rfl) rfl) rfl) rfl rfl rfl) rfl)) (yh (ybZ (yE (yc (i := 0) yk rfl (Or.inl rfl)) (T.cl 1) T.ms_Doing_take_own yfY (hr.mono (by omega)) T.ymq (ya (ybJ fa.fl_slot (yc (i := 1) yB rfl (Or.inl rfl)) rfl) (ya (ybJ fa.fl_place (yc (i := 1) yB rfl (Or.inl rfl)) rfl) ye rfl) rfl) rfl rfl rfl) rfl))))
theorem yiZ (T : Txt K mg t) (yhx : FnOk P w K mg base CX0 (4) t.yfD t.yfE ["self", "place", "slot"] (spE (ybI K t) 3 yeq)) (yfr : FnOk P w K mg base CX0 (3) t.ydM t.ydN ["self", "word", "slot", "one", "other"] (spE (ybI K t) 5 ycS)) (yV : FnOk P w K mg base CX0 (2) t.ydo t.ydp ["self", "slot", "number"] (spE (ybI K t) 3 ybt)) (yeM : FnOk P w K mg base CX0 (5) t.ydz t.ydA ["self", "part"] (spE (ybI K t) 2 ycA)) : FnOk P w K mg base CX0 (5 + 1) t.ydb t.ydc ["self", "part"] (spE (ybI K t) 2 ycj) := by
 have fa := T.fa
 exact zfn T.yjR yiQ fun cdv Ar outer sh H E hr => (yf (yca (yeE (yje yL (yhK (K := ckX _ _) fa.isa) yu rfl T.z_isinstance yr (ya (yc (i := 1) yB rfl (Or.inl rfl)) (ya (yjD yzp rfl T.m_Let) ye rfl) rfl) rfl rfl) (fun _ => rfl)) (yh (ybZ (yE (yc (i := 0) yk rfl (Or.inl rfl)) (T.cl 1) T.ms_Doing_hold yV (hr.mono (by omega)) T.yfT (ya (ybJ fa.fl_slot (yc (i := 1) yB rfl (Or.inl rfl)) rfl) (ya (ybJ fa.fl_number (yc (i := 1) yB rfl (Or.inl rfl)) rfl) ye rfl) rfl) rfl rfl rfl) rfl)) yG) (yf (yca (yeE (yje yL (yhK (K := ckX _ _) fa.isa) yu rfl T.z_isinstance yr (ya (yc (i := 1) yB rfl (Or.inl rfl)) (ya (yjD yqX rfl T.m_Reckon) ye rfl) rfl) rfl rfl) (fun _ => rfl)) (yh (ybZ (yE (yc (i := 0) yk rfl (Or.inl rfl)) (T.cl 1) T.ms_Doing_do_reckon yfr (hr.mono (by omega)) T.yle (ya (ybJ fa.fl_word (yc (i := 1) yB rfl (Or.inl rfl)) rfl) (ya (ybJ fa.fl_slot (yc (i := 1) yB rfl (Or.inl rfl)) rfl) (ya (ybJ fa.fl_one (yc (i := 1) yB rfl (Or.inl rfl)) rfl) (ya (ybJ fa.fl_other (yc (i := 1) yB rfl (Or.inl rfl)) rfl) ye rfl) rfl) rfl) rfl) rfl rfl rfl) rfl)) yG) (yf (yca (yeE (yje yL (yhK (K := ckX _ _) fa.isa) yu rfl T.z_isinstance yr (ya (yc (i := 1) yB rfl (Or.inl rfl)) (ya (yjD ywt rfl T.m_Take) ye rfl) rfl) rfl rfl) (fun _ => rfl)) (yh (ybZ (yE (yc (i := 0) yk rfl (Or.inl rfl)) (T.cl 1) T.yjV yeM (hr.mono (by omega)) T.ykv (ya (yc (i := 1) yB rfl (Or.inl rfl)) ye rfl) rfl rfl rfl) rfl)) yG) (yh (yca (yeE (yje yL (yhK (K := ckX _ _) fa.isa) yu rfl T.z_isinstance yr (ya (yc (i := 1) yB rfl (Or.inl rfl)) (ya (yjD yzq rfl T.m_Put) ye rfl) rfl) rfl rfl) (fun _ => rfl)) (yh (ybZ (yE (yc (i := 0) yk rfl (Or.inl rfl)) (T.cl 1) T.ms_Doing_do_put yhx (hr.mono (by omega)) T.ypu (ya (ybJ fa.fl_place (yc (i := 1) yB rfl (Or.inl rfl)) rfl) (ya (ybJ fa.fl_slot (yc (i := 1) yB rfl (Or.inl rfl)) rfl) ye rfl) rfl) rfl rfl rfl) rfl)) yG)))))
structure yGz (P : Program) (w : World) (K : PySem.W.Frag) (mg : Str -> Option Value) (base : Heap) (t : Ads) (n : Nat) : Prop where
 yhF : FnOk P w K mg base CX0 (n + 8) t.ydS t.ydT ["self", "parts"] (spE (ybI K t) 2 (yN n))
 yhG : FnOk P w K mg base CX0 (n + 8) t.yfo t.yfp ["self", "part"] (spE (ybI K t) 2 (ycV n))
 yiF : FnOk P w K mg base CX0 (n + 8) t.ygF t.ygG ["self", "part"] (spE (ybI K t) 2 (yiB n))
 ygx : FnOk P w K mg base CX0 (n + 8) t.yez t.yeA ["self", "part"] (spE (ybI K t) 2 (ygi n))
 yif : FnOk P w K mg base CX0 (n + 8) t.yfR t.yfS ["self", "part"] (spE (ybI K t) 2 (yhR n))
 yfZ : FnOk P w K mg base CX0 (n + 8) t.ydX t.ydY ["self", "parts"] (spE (ybI K t) 2 (ydW n))
theorem ywz (T : Txt K mg t) (yx : FnOk P w K mg base CX0 (2) t.ycv t.ycw ["self", "slot"] (spE (ybI K t) 2 yF)) (yV : FnOk P w K mg base CX0 (2) t.ydo t.ydp ["self", "slot", "number"] (spE (ybI K t) 3 ybt)) (ydd : FnOk P w K mg base CX0 (6) t.ydb t.ydc ["self", "part"] (spE (ybI K t) 2 ycj)) (yhy : FnOk P w K mg base CX0 (1) t.yhj t.yhk ["self"] (spE (ybI K t) 1 yiP)) (yiu : FnOk P w K mg base CX0 (1) t.yiq t.yir ["self"] (spE (ybI K t) 1 ykm)) (ygy : FnOk P w K mg base CX0 (1) t.ygj t.ygk ["self"] (spE (ybI K t) 1 yhP))  : ∀ n, yGz P w K mg base t n
 | 0 => ⟨yiX, yiX, yiX, yiX, yiX, yiX⟩
 | n + 1 => by
  have fa := T.fa
  have I := ywz T yx yV ydd yhy yiu ygy n
  have ybf := I.yhF
  have yhH := I.yhG
  have yiG := I.yiF
  have ygz := I.ygx
  have yig := I.yif
  have ydZ := I.yfZ
  exact ⟨zfn T.ylj yeI fun cdv Ar outer sh H E hr => (yf (ylV PassesOwn.never rfl (ylU (yc (i := 1) ytw rfl (Or.inl rfl))) (yhO (i := 2) yeI.nd rfl (Or.inl rfl) (Or.inl rfl)) (yf (ybg (i := 3) yeI.nd rfl (Or.inl rfl) (yE (yc (i := 0) yk rfl (Or.inl rfl)) (T.cl 1) T.ykw yhH (hr.mono (by omega)) T.yll (ya (yc (i := 2) yB rfl (Or.inl rfl)) ye rfl) rfl rfl rfl) rfl (Or.inl rfl)) (yh (yca (ybY (yzf (ynD hr)) yDc (yc (i := 3) ygQ rfl (Or.inl rfl)) (ymd (ss := ["done"]) ymy rfl T.m_DONE T.kt_DONE) (ybs _)) (yh (yv (yc (i := 3) ygQ rfl (Or.inl rfl)))) yG))) (fun _ => rfl)) (yh (yv (ymd (ss := ["done"]) ymy rfl T.m_DONE T.kt_DONE)))),
   zfn T.ylk ykr fun cdv Ar outer sh H E hr => (yf (yca (yeE (yje yL (yhK (K := ckX _ _) fa.isa) yu rfl T.z_isinstance yr (ya (yc (i := 1) yB rfl (Or.inl rfl)) (ya (yjD yFz rfl T.m_If) ye rfl) rfl) rfl rfl) (fun _ => rfl)) (yh (yv (yE (yc (i := 0) yk rfl (Or.inl rfl)) (T.cl 1) T.ymx yiG (hr.mono (by omega)) T.ynk (ya (yc (i := 1) yB rfl (Or.inl rfl)) ye rfl) rfl rfl rfl))) yG) (yf (yca (yeE (yje yL (yhK (K := ckX _ _) fa.isa) yu rfl T.z_isinstance yr (ya (yc (i := 1) yB rfl (Or.inl rfl)) (ya (yjD yws rfl T.m_Either) ye rfl) rfl) rfl rfl) (fun _ => rfl)) (yh (yv (yE (yc (i := 0) yk rfl (Or.inl rfl)) (T.cl 1) T.yiV ygz (hr.mono (by omega)) T.yjU (ya (yc (i := 1) yB rfl (Or.inl rfl)) ye rfl) rfl rfl rfl))) yG) (yf (yca (yeE (yje yL (yhK (K := ckX _ _) fa.isa) yu rfl T.z_isinstance yr (ya (yc (i := 1) yB rfl (Or.inl rfl)) (ya (yjD yEj rfl T.m_Try) ye rfl) rfl) rfl rfl) (fun _ => rfl)) (yh (yv (yE (yc (i := 0) yk rfl (Or.inl rfl)) (T.cl 1) T.ylm yig (hr.mono (by omega)) T.ymu (ya (yc (i := 1) yB rfl (Or.inl rfl)) ye rfl) rfl rfl rfl))) yG) (yf (yca (yeE (yje yL (yhK (K := ckX _ _) fa.isa) yu rfl T.z_isinstance yr (ya (yc (i := 1) yB rfl (Or.inl rfl)) (ya (yjD yyv rfl T.m_Throw) ye rfl) rfl) rfl rfl) (fun _ => rfl)) (yh (yv (yhN (ya z_str (ya (ybJ fa.fl_name (yc (i := 1) yB rfl (Or.inl rfl)) rfl) (ya (yE (yc (i := 0) yk rfl (Or.inl rfl)) (T.cl 1) T.ms_Doing_held_in yx (hr.mono (by omega)) T.ycX (ya (ybJ fa.fl_slot (yc (i := 1) yB rfl (Or.inl rfl)) rfl) ye rfl) rfl rfl rfl) ye rfl) rfl) rfl)))) yG) (yf (yca (yeE (yje yL (yhK (K := ckX _ _) fa.isa) yu rfl T.z_isinstance yr (ya (yc (i := 1) yB rfl (Or.inl rfl)) (ya (yjD yBC rfl T.m_Wait) ye rfl) rfl) rfl rfl) (fun _ => rfl)) (yh (yv (ymd (ss := ["waits"]) yts rfl T.m_WAITS T.kt_WAITS))) yG) (yf (ybZ (yE (yc (i := 0) yk rfl (Or.inl rfl)) (T.cl 1) T.yiU ydd (hr.mono (by omega)) T.yjS (ya (yc (i := 1) yB rfl (Or.inl rfl)) ye rfl) rfl rfl rfl) rfl) (yh (yv (ymd (ss := ["done"]) ymy rfl T.m_DONE T.kt_DONE))))))))),
   zfn T.ynj ymm fun cdv Ar outer sh H E hr => (yf (yca (ybY yzA yFh (yE (yc (i := 0) yk rfl (Or.inl rfl)) (T.cl 1) T.ms_Doing_held_in yx (hr.mono (by omega)) T.ycX (ya (ybJ fa.fl_slot (yc (i := 1) yB rfl (Or.inl rfl)) rfl) ye rfl) rfl rfl rfl) z_int (ybs _)) (yh (yv (yE (yc (i := 0) yk rfl (Or.inl rfl)) (T.cl 1) T.ybV ybf (hr.mono (by omega)) T.ycc (ya (ybJ fa.fl_parts (yc (i := 1) yB rfl (Or.inl rfl)) rfl) ye rfl) rfl rfl rfl))) yG) (yh (yv (yE (yc (i := 0) yk rfl (Or.inl rfl)) (T.cl 1) T.ybV ybf (hr.mono (by omega)) T.ycc (ya (ybJ fa.fl_others (yc (i := 1) yB rfl (Or.inl rfl)) rfl) ye rfl) rfl rfl rfl)))),
   zfn T.yjT yfQ fun cdv Ar outer sh H E hr => (yf (ybg (i := 2) yfQ.nd rfl (Or.inl rfl) (yE (yc (i := 0) yk rfl (Or.inl rfl)) (T.cl 1) T.yfy ydZ (hr.mono (by omega)) T.yfU (ya (ybJ fa.fl_parts (yc (i := 1) yB rfl (Or.inl rfl)) rfl) ye rfl) rfl rfl rfl) rfl (Or.inl rfl)) (yf (yca (ybY (yte (ynD hr)) yxQ (yc (i := 2) ygQ rfl (Or.inl rfl)) (ymd (ss := ["waits"]) yts rfl T.m_WAITS T.kt_WAITS) (ybs _)) (yh (yv (yE (yc (i := 0) yk rfl (Or.inl rfl)) (T.cl 1) T.ybV ybf (hr.mono (by omega)) T.ycc (ya (ybJ fa.fl_others (yc (i := 1) yB rfl (Or.inl rfl)) rfl) ye rfl) rfl rfl rfl))) yG) (yh (yv (yc (i := 2) ygQ rfl (Or.inl rfl)))))),
   zfn T.ymt yhE fun cdv Ar outer sh H E hr => (yf (ybg (i := 2) yhE.nd rfl (Or.inl rfl) (yE (yc (i := 0) yk rfl (Or.inl rfl)) (T.cl 1) T.yfy ydZ (hr.mono (by omega)) T.yfU (ya (ybJ fa.fl_parts (yc (i := 1) yB rfl (Or.inl rfl)) rfl) ye rfl) rfl rfl rfl) rfl (Or.inl rfl)) (yf (yca (yFY (yDh (ybY ygB ymO (yep ix_tup ydB (yc (i := 2) ygQ rfl (Or.inl rfl)) z_int (fun _ _ => rfl)) z_str (ybs _)) (yAS (ybY ygB ymO (yep ix_tup ydB (yc (i := 2) ygQ rfl (Or.inl rfl)) z_int (fun _ _ => rfl)) (ybJ fa.fl_name (yc (i := 1) yB rfl (Or.inl rfl)) rfl) (ybs _))))) (yf (ybZ (yE (yc (i := 0) yk rfl (Or.inl rfl)) (T.cl 1) T.ms_Doing_hold yV (hr.mono (by omega)) T.yfT (ya (ybJ fa.fl_slot (yc (i := 1) yB rfl (Or.inl rfl)) rfl) (ya (yep ix_tup ydB (yc (i := 2) ygQ rfl (Or.inl rfl)) z_int (fun _ _ => rfl)) ye rfl) rfl) rfl rfl rfl) rfl) (yh (yv (yE (yc (i := 0) yk rfl (Or.inl rfl)) (T.cl 1) T.ybV ybf (hr.mono (by omega)) T.ycc (ya (ybJ fa.fl_others (yc (i := 1) yB rfl (Or.inl rfl)) rfl) ye rfl) rfl rfl rfl)))) yG) (yh (yv (yc (i := 2) ygQ rfl (Or.inl rfl)))))),
   zfn T.yiR ydE fun cdv Ar outer sh H E hr => (yf (ybg (i := 2) ydE.nd rfl (Or.inl rfl) (yiv (ykG ycC ygh yhu rfl T.z_list ygT (ya (ybJ fa.fl_held (yc (i := 0) yk rfl (Or.inl rfl)) rfl) ye rfl) rfl rfl)) rfl (Or.inl rfl)) (yf (ybZ (yin (ybJ fa.fl_log (yc (i := 0) yk rfl (Or.inl rfl)) rfl) (T.cl 0) T.yqV yhy (hr.mono (by omega)) T.ysk rfl) rfl) (yf (ybg (i := 3) ydE.nd rfl (Or.inl rfl) (yE (yc (i := 0) yk rfl (Or.inl rfl)) (T.cl 1) T.ybV ybf (hr.mono (by omega)) T.ycc (ya (yc (i := 1) ytw rfl (Or.inl rfl)) ye rfl) rfl rfl rfl) rfl (Or.inl rfl)) (yf (yca (ybY (yte (ynD hr)) yxQ (yc (i := 3) ygQ rfl (Or.inl rfl)) (ymd (ss := ["done"]) ymy rfl T.m_DONE T.kt_DONE) (ybs _)) (yh (ybZ (yin (ybJ fa.fl_log (yc (i := 0) yk rfl (Or.inl rfl)) rfl) (T.cl 0) T.ypv ygy (hr.mono (by omega)) T.yqM rfl) rfl)) (yf (ybZ (yin (ybJ fa.fl_log (yc (i := 0) yk rfl (Or.inl rfl)) rfl) (T.cl 0) T.yss yiu (hr.mono (by omega)) T.yuk rfl) rfl) (yh (yAV fa.fl_held (yc (i := 0) yk rfl (Or.inl rfl)) (yc (i := 2) ywu rfl (Or.inl rfl)) rfl)))) (yh (yv (yc (i := 3) ygQ rfl (Or.inl rfl))))))))⟩
theorem yyx (T : Txt K mg t) (yfs : FnOk P w K mg base CX0 (5) t.ydQ t.ydR ["self", "boxes", "slots"] (spI (ybI K t) 2 1 ycU)) (ybf : FnOk P w K mg base CX0 (28) t.ydS t.ydT ["self", "parts"] (spE (ybI K t) 2 (yN 20))) (ykd : FnOk P w K mg base CX0 (1) t.yjP t.yjQ ["self"] (spE (ybI K t) 1 ygN)) (yja : FnOk P w K mg base CX0 (1) t.yhl t.yhm ["self"] (spE (ybI K t) 1 yfN)) : FnOk P w K mg base CX0 (28 + 1) t.a_alone t.d_alone ["deed", "boxes", "slots"] (spE (ybI K t) 3 ykn) := by
 have fa := T.fa
 exact zfn T.F_alone sc_alone fun cdv Ar outer sh H E hr => (yf (ybg (i := 3) sc_alone.nd rfl (Or.inl rfl) (yiv (yqs T.mk_Doing yfs (hr.mono (by omega)) yyt rfl T.m_Doing T.yli (ya (yc (i := 1) ypz rfl (Or.inl rfl)) (ya (yc (i := 2) yly rfl (Or.inl rfl)) ye rfl) rfl) rfl rfl)) rfl (Or.inl rfl)) (yf (ybg (i := 4) sc_alone.nd rfl (Or.inl rfl) (yE (yc (i := 3) yjY rfl (Or.inl rfl)) (T.cl 1) T.ybV ybf (hr.mono (by omega)) T.ycc (ya (yc (i := 0) yBE rfl (Or.inl rfl)) ye rfl) rfl rfl rfl) rfl (Or.inl rfl)) (yf (yca (ybY (yte (ynD hr)) yxQ (yc (i := 4) ygQ rfl (Or.inl rfl)) (ymd (ss := ["done"]) ymy rfl T.m_DONE T.kt_DONE) (ybs _)) (yh (yv (yhN (ya (yc (i := 4) ygQ rfl (Or.inl rfl)) (ya (yin (ybJ fa.fl_log (yc (i := 3) yjY rfl (Or.inl rfl)) rfl) (T.cl 0) T.ynJ ykd (hr.mono (by omega)) T.yqN rfl) (ya (yin (ybJ fa.fl_log (yc (i := 3) yjY rfl (Or.inl rfl)) rfl) (T.cl 0) T.yqW yja (hr.mono (by omega)) T.ysm rfl) (ya (yiv (ykG ycC ygh yhu rfl T.z_list ygT (ya (ybJ fa.fl_held (yc (i := 3) yjY rfl (Or.inl rfl)) rfl) ye rfl) rfl rfl)) ye rfl) rfl) rfl) rfl)))) yG) (yh (yv (yhN (ya (yc (i := 4) ygQ rfl (Or.inl rfl)) (ya (yin (ybJ fa.fl_log (yc (i := 3) yjY rfl (Or.inl rfl)) rfl) (T.cl 0) T.ynJ ykd (hr.mono (by omega)) T.yqN rfl) (ya (yiv (ygM ye)) (ya (yiv (ykG ycC ygh yhu rfl T.z_list ygT (ya (yc (i := 2) yly rfl (Or.inl rfl)) ye rfl) rfl rfl)) ye rfl) rfl) rfl) rfl)))))))
theorem ypC (T : Txt K mg t)  : FnOk P w K mg base CX0 (0 + 1) t.yed t.yee ["_law_cell"] (spE (ybI K t) 1 yck) := by
 have fa := T.fa
 exact zfn T.ygv ypq fun cdv Ar outer sh H E hr => (yh (yv (yej ycB yfe (yej ynq ytR (yc (i := 0) yct rfl (Or.inl rfl)) z_int) z_int)))
theorem yrf (T : Txt K mg t)  : FnOk P w K mg base CX0 (0 + 1) t.yeJ t.yeK ["_law_cell"] (spE (ybI K t) 1 ycH) := by
 have fa := T.fa
 exact zfn T.yhr yqJ fun cdv Ar outer sh H E hr => (yh (yv (yej ycB yfe (yej ynq ytR (yc (i := 0) yct rfl (Or.inl rfl)) z_int) (yej ysB yxt z_int z_int))))
structure yGA (P : Program) (w : World) (K : PySem.W.Frag) (mg : Str -> Option Value) (base : Heap) (t : Ads) (n : Nat) : Prop where
 ykT : FnOk P w K mg base CX0 (n + 3) t.ygl t.ygm ["_law_found", "_law_due"] (spE (ybI K t) 2 (yp n))
theorem ywA (T : Txt K mg t)   : ∀ n, yGA P w K mg base t n
 | 0 => ⟨yiX⟩
 | n + 1 => by
  have fa := T.fa
  have I := ywA T  n
  have yei := I.ykT
  exact ⟨zfn T.ygw yjM fun cdv Ar outer sh H E hr => (yf (yca (yeE (yje yL (yhK (K := ckX _ _) fa.isa) yu rfl T.z_isinstance yr (ya (yc (i := 1) ycx rfl (Or.inl rfl)) (ya (yqq ytu rfl T.z_int ysH) ye rfl) rfl) rfl rfl) (fun _ => rfl)) (yh (yv (yxY (yje yL (yhK (K := ckX _ _) fa.isa) yu rfl T.z_isinstance yr (ya (yc (i := 0) yA rfl (Or.inl rfl)) (ya (yqq ytu rfl T.z_int ysH) ye rfl) rfl) rfl rfl) (yxY (yFs (yje yL (yhK (K := ckX _ _) fa.isa) yu rfl T.z_isinstance yr (ya (yc (i := 0) yA rfl (Or.inl rfl)) (ya (yqq yBD rfl T.z_bool yzT) ye rfl) rfl) rfl rfl)) (yAR (ytZ ygB ymO (yc (i := 0) yA rfl (Or.inl rfl)) (yc (i := 1) ycx rfl (Or.inl rfl)) (ybs _))))))) yG) (yf (yca (yeE (yje yL (yhK (K := ckX _ _) fa.isa) yu rfl T.z_isinstance yr (ya (yc (i := 1) ycx rfl (Or.inl rfl)) (ya (yqq yzr rfl T.z_str yyM) ye rfl) rfl) rfl rfl) (fun _ => rfl)) (yh (yv (yxY (yje yL (yhK (K := ckX _ _) fa.isa) yu rfl T.z_isinstance yr (ya (yc (i := 0) yA rfl (Or.inl rfl)) (ya (yqq yzr rfl T.z_str yyM) ye rfl) rfl) rfl rfl) (yAR (ytZ ygB ymO (yc (i := 0) yA rfl (Or.inl rfl)) (yc (i := 1) ycx rfl (Or.inl rfl)) (ybs _)))))) yG) (yf (yca (yeE (yje yL (yhK (K := ckX _ _) fa.isa) yu rfl T.z_isinstance yr (ya (yc (i := 1) ycx rfl (Or.inl rfl)) (ya (yqq ytx rfl T.z_tuple ysI) ye rfl) rfl) rfl rfl) (fun _ => rfl)) (yh (yca (yqr (yeE (yje yL (yhK (K := ckX _ _) fa.isa) yu rfl T.z_isinstance yr (ya (yc (i := 0) yA rfl (Or.inl rfl)) (ya (yqq ytx rfl T.z_tuple ysI) ye rfl) rfl) rfl rfl) (fun _ => rfl))) (yh (yv yzd)) yG)) (yh (yca (yqr (yeE (yje yL (yhK (K := ckX _ _) fa.isa) yu rfl T.z_isinstance yr (ya (yc (i := 0) yA rfl (Or.inl rfl)) (ya (yqq yhu rfl T.z_list ygT) ye rfl) rfl) rfl rfl) (fun _ => rfl))) (yh (yv yzd)) yG))) (yf (yca (ybY yzA yFh (yje ybT yiw yie rfl T.z_len yhI (ya (yc (i := 0) yA rfl (Or.inl rfl)) ye rfl) rfl rfl) (yje ybT yiw yie rfl T.z_len yhI (ya (yc (i := 1) ycx rfl (Or.inl rfl)) ye rfl) rfl rfl) (ybs _)) (yh (yv yzd)) yG) (yf (ylV PassesOwn.never rfl (yrV rfl T.z_range (ya (yje ybT yiw yie rfl T.z_len yhI (ya (yc (i := 1) ycx rfl (Or.inl rfl)) ye rfl) rfl rfl) ye rfl) rfl) (yhO (i := 2) yjM.nd rfl (Or.inl rfl) (Or.inl rfl)) (yh (yca (yqr (yeE (ydh yei (hr.mono (by omega)) yhs rfl T.yib T.ygw.kp T.yia (ya (yep yyH yCX (yc (i := 0) yA rfl (Or.inl rfl)) (yc (i := 2) yfl rfl (Or.inl rfl)) (fun _ _ => rfl)) (ya (yep yyH yCX (yc (i := 1) ycx rfl (Or.inl rfl)) (yc (i := 2) yfl rfl (Or.inl rfl)) (fun _ _ => rfl)) ye rfl) rfl) rfl rfl) (fun _ => rfl))) (yh (yv yzd)) yG)) (fun _ => rfl)) (yh (yv yzd)))))))⟩
theorem ypD (T : Txt K mg t) (ycR : FnOk P w K mg base CX0 (1) t.yeJ t.yeK ["_law_cell"] (spE (ybI K t) 1 ycH)) : FnOk P w K mg base CX0 (1 + 1) t.ygn t.ygo ["_law_mixed_here", "_law_cell"] (spE (ybI K t) 2 yfg) := by
 have fa := T.fa
 exact zfn T.ykM ybq fun cdv Ar outer sh H E hr => (yf (ybg (i := 2) ybq.nd rfl (Or.inl rfl) (yGx yCt yFj z_str yDk (yoT (yep ix_list yfL (yjE (ygM (ya z_int (ya z_int (ya z_int ye rfl) rfl) rfl))) (yej ycB yfe (yc (i := 0) yJ rfl (Or.inl rfl)) z_int) (fun _ _ => rfl)))) rfl (Or.inl rfl)) (yf (ybg (i := 3) ybq.nd rfl (Or.inl rfl) (yje ypP yCO yie rfl T.z_len yhI (ya (yc (i := 2) yeB rfl (Or.inl rfl)) ye rfl) rfl rfl) rfl (Or.inl rfl)) (yf (ybg (i := 4) ybq.nd rfl (Or.inl rfl) (yej yem yjk (yc (i := 0) yJ rfl (Or.inl rfl)) z_int) rfl (Or.inl rfl)) (yf (ybg (i := 5) ybq.nd rfl (Or.inl rfl) (yep ysG yAx (yc (i := 2) yeB rfl (Or.inl rfl)) (yej ycB yfe (yc (i := 4) yds rfl (Or.inl rfl)) (yc (i := 3) ydr rfl (Or.inl rfl))) (fun _ _ => rfl)) rfl (Or.inl rfl)) (yf (ybg (i := 6) ybq.nd rfl (Or.inl rfl) (yep ysG yAx (yc (i := 2) yeB rfl (Or.inl rfl)) (yej ycB yfe (yej yem yjk (yc (i := 4) yds rfl (Or.inl rfl)) (yc (i := 3) ydr rfl (Or.inl rfl))) (yc (i := 3) ydr rfl (Or.inl rfl))) (fun _ _ => rfl)) rfl (Or.inl rfl)) (yf (ybg (i := 7) ybq.nd rfl (Or.inl rfl) (yep ysG yAx (yc (i := 2) yeB rfl (Or.inl rfl)) (yej ycB yfe (yej yem yjk (yej yem yjk (yc (i := 4) yds rfl (Or.inl rfl)) (yc (i := 3) ydr rfl (Or.inl rfl))) (yc (i := 3) ydr rfl (Or.inl rfl))) (yc (i := 3) ydr rfl (Or.inl rfl))) (fun _ _ => rfl)) rfl (Or.inl rfl)) (yf (ybg (i := 8) ybq.nd rfl (Or.inl rfl) (yej ycB yfe (yej yem yjk (yc (i := 0) yJ rfl (Or.inl rfl)) z_int) z_int) rfl (Or.inl rfl)) (yf (yca (ybY ygB ymO (yc (i := 8) yfV rfl (Or.inl rfl)) z_int (ybs _)) (yh (yv (yjE (ygM (ya (yhN (ya z_str (ya (yc (i := 5) ybr rfl (Or.inl rfl)) (ya (ydh ycR (hr.mono (by omega)) yid rfl T.yiT T.yhr.kp T.yiS (ya (yc (i := 1) yct rfl (Or.inl rfl)) ye rfl) rfl rfl) ye rfl) rfl) rfl)) ye rfl))))) yG) (yf (yca (ybY ytA yBH (yc (i := 8) yfV rfl (Or.inl rfl)) z_int (ybs _)) (yh (yv (yjE (ygM (ya (yhN (ya z_str (ya (yc (i := 5) ybr rfl (Or.inl rfl)) (ya (yej ycB yfe (yej yem yjk (yc (i := 4) yds rfl (Or.inl rfl)) z_int) z_int) ye rfl) rfl) rfl)) ye rfl))))) yG) (yf (yca (ybY ytA yBH (yc (i := 8) yfV rfl (Or.inl rfl)) z_int (ybs _)) (yf (ybg (i := 9) ybq.nd rfl (Or.inl rfl) (yep ix_list yfL (yjE (ygM (ya z_str (ya z_str (ya z_str (ya z_str (ya z_str ye rfl) rfl) rfl) rfl) rfl))) (yej ycB yfe (yej yem yjk (yc (i := 4) yds rfl (Or.inl rfl)) z_int) z_int) (fun _ _ => rfl)) rfl (Or.inl rfl)) (yh (yv (yjE (ygM (ya (yhN (ya z_str (ya (yc (i := 9) yeg rfl (Or.inl rfl)) (ya (yc (i := 5) ybr rfl (Or.inl rfl)) (ya (yc (i := 6) yT rfl (Or.inl rfl)) (ya (yc (i := 7) yjX rfl (Or.inl rfl)) ye rfl) rfl) rfl) rfl) rfl)) ye rfl)))))) yG) (yf (yca (ybY ytA yBH (yc (i := 8) yfV rfl (Or.inl rfl)) z_int (ybs _)) (yh (yv (yjE (ygM (ya (yhN (ya z_str (ya (yc (i := 5) ybr rfl (Or.inl rfl)) (ya (yc (i := 6) yT rfl (Or.inl rfl)) ye rfl) rfl) rfl)) ye rfl))))) yG) (yf (yca (ybY ytA yBH (yc (i := 8) yfV rfl (Or.inl rfl)) z_int (ybs _)) (yh (yv (yjE (ygM (ya (yhN (ya z_str (ya (yc (i := 5) ybr rfl (Or.inl rfl)) (ya (yc (i := 6) yT rfl (Or.inl rfl)) ye rfl) rfl) rfl)) ye rfl))))) yG) (yf (ybg (i := 9) ybq.nd rfl (Or.inl rfl) (yep ix_list yfL (yjE (ygM (ya z_str (ya z_str (ya z_str ye rfl) rfl) rfl))) (yej ycB yfe (yej yem yjk (yc (i := 4) yds rfl (Or.inl rfl)) z_int) z_int) (fun _ _ => rfl)) rfl (Or.inl rfl)) (yf (ybg (i := 10) ybq.nd rfl (Or.inl rfl) (yjE (ygM (ya (yhN (ya z_str (ya (yc (i := 5) ybr rfl (Or.inl rfl)) (ya (yej ycB yfe (yej yem yjk (yc (i := 4) yds rfl (Or.inl rfl)) z_int) z_int) ye rfl) rfl) rfl)) (ya (yhN (ya z_str (ya (yc (i := 6) yT rfl (Or.inl rfl)) (ya (yc (i := 5) ybr rfl (Or.inl rfl)) ye rfl) rfl) rfl)) ye rfl) rfl))) rfl (Or.inl rfl)) (yh (yv (yjE (yDf yyL yCN (yc (i := 10) yef rfl (Or.inl rfl)) (yjE (ygM (ya (yhN (ya z_str (ya (yc (i := 9) yeg rfl (Or.inl rfl)) (ya (yc (i := 6) yT rfl (Or.inl rfl)) (ya (yc (i := 6) yT rfl (Or.inl rfl)) (ya (yc (i := 7) yjX rfl (Or.inl rfl)) ye rfl) rfl) rfl) rfl) rfl)) (ya (yhN (ya z_str (ya (yc (i := 5) ybr rfl (Or.inl rfl)) (ya (yc (i := 6) yT rfl (Or.inl rfl)) ye rfl) rfl) rfl)) ye rfl) rfl)))))))))))))))))))))
theorem ypE (T : Txt K mg t) (ycu : FnOk P w K mg base CX0 (1) t.yed t.yee ["_law_cell"] (spE (ybI K t) 1 yck)) (ycR : FnOk P w K mg base CX0 (1) t.yeJ t.yeK ["_law_cell"] (spE (ybI K t) 1 ycH)) : FnOk P w K mg base CX0 (1 + 1) t.ygp t.ygq ["_law_cell"] (spE (ybI K t) 1 yfh) := by
 have fa := T.fa
 exact zfn T.ykN ydw fun cdv Ar outer sh H E hr => (yf (ybg (i := 1) ydw.nd rfl (Or.inl rfl) (ydh ycu (hr.mono (by omega)) yht rfl T.yhZ T.ygv.kp T.yhY (ya (yc (i := 0) yct rfl (Or.inl rfl)) ye rfl) rfl rfl) rfl (Or.inl rfl)) (yf (ybg (i := 2) ydw.nd rfl (Or.inl rfl) (yep ix_list yfL (yjE (ygM (ya z_int (ya z_int (ya z_int (ya (yej yjg ynZ z_int (yej ycB yfe (yej yem yjk (yc (i := 1) yJ rfl (Or.inl rfl)) z_int) z_int)) ye rfl) rfl) rfl) rfl))) (yej ycB yfe (yc (i := 1) yJ rfl (Or.inl rfl)) z_int) (fun _ _ => rfl)) rfl (Or.inl rfl)) (yf (yvK (i := 3) ydw.nd rfl (Or.inl rfl) (ygM ye) rfl (Or.inl rfl)) (yf (ylV PassesOwn.never rfl (yrV rfl T.z_range (ya (yc (i := 2) ydr rfl (Or.inl rfl)) ye rfl) rfl) (yhO (i := 4) ydw.nd rfl (Or.inl rfl) (Or.inl rfl)) (yf (ybg (i := 5) ydw.nd rfl (Or.inl rfl) (yjE (ygM (ya (yej ycB yfe (yej yem yjk (yej yem yjk (yc (i := 1) yJ rfl (Or.inl rfl)) z_int) (yej yjg ynZ (yc (i := 4) yfl rfl (Or.inl rfl)) z_int)) z_int) (ya (ydh ycR (hr.mono (by omega)) yid rfl T.yiT T.yhr.kp T.yiS (ya (yej yjg ynZ (yc (i := 0) yct rfl (Or.inl rfl)) (yej ynq ytR (yc (i := 4) yfl rfl (Or.inl rfl)) (yc (i := 4) yfl rfl (Or.inl rfl)))) ye rfl) rfl rfl) ye rfl) rfl))) rfl (Or.inl rfl)) (yh (yqt (ydg (i := 3) rfl (Or.inl rfl) yt.d yt.c) (yep ix_list yfL (yc (i := 5) yra rfl (Or.inl rfl)) (yej ycB yfe (yej yjg ynZ (yej yem yjk (yc (i := 1) yJ rfl (Or.inl rfl)) z_int) (yc (i := 4) yfl rfl (Or.inl rfl))) z_int) (fun _ _ => rfl)) rfl rfl rfl rfl rfl rfl))) (fun _ => rfl)) (yvL 3 (yh (yv (yc (i := 3) yt rfl (Or.inl rfl)))))))))
theorem ypF (T : Txt K mg t) (ycu : FnOk P w K mg base CX0 (1) t.yed t.yee ["_law_cell"] (spE (ybI K t) 1 yck)) (ycR : FnOk P w K mg base CX0 (1) t.yeJ t.yeK ["_law_cell"] (spE (ybI K t) 1 ycH)) : FnOk P w K mg base CX0 (1 + 1) t.ygr t.ygs ["_law_cell"] (spE (ybI K t) 1 yfi) := by
 have fa := T.fa
 exact zfn T.ykO yhg fun cdv Ar outer sh H E hr => (yf (ybg (i := 1) yhg.nd rfl (Or.inr rfl) (ydh ycu (hr.mono (by omega)) yht rfl T.yhZ T.ygv.kp T.yhY (ya (yc (i := 0) yct rfl (Or.inl rfl)) ye rfl) rfl rfl) rfl (Or.inl rfl)) (yf (yye (iy := 2) [1] ["_law_mixed_here"] rfl (yrV rfl T.z_range (ya z_int ye rfl) rfl) ⟨rfl, rfl, rfl, True.intro⟩ (fun _ _ _ _ _ _ => (yej ycB yfe (yej yem yjk (yc (i := 1) yJ rfl (Or.inr (Or.inl rfl))) (yej yjg ynZ (yej ynq ytR (yc (i := 0) yfl rfl (Or.inl rfl)) (yc (i := 0) yfl rfl (Or.inl rfl))) z_int)) z_int)) (by decide +kernel) rfl (by decide +kernel) (by decide +kernel) (by decide +kernel) rfl (fun _ => rfl) yhg.nd rfl (Or.inl rfl) (Or.inl rfl) rfl) (yf (ylW (ydh ycR (hr.mono (by omega)) yid rfl T.yiT T.yhr.kp T.yiS (ya (yc (i := 0) yct rfl (Or.inl rfl)) ye rfl) rfl rfl) (yc (i := 2) yn rfl (Or.inl rfl)) (yej ycB yfe (yc (i := 1) yJ rfl (Or.inr (Or.inl rfl))) z_int) (fun _ => rfl) rfl rfl rfl) (yh (yv (yc (i := 2) yn rfl (Or.inl rfl)))))))
theorem ysw (T : Txt K mg t)  : FnOk P w K mg base CX0 (0 + 1) t.yis t.yit ["_law_word", "_law_one", "_law_other"] (spE (ybI K t) 3 ygO) := by
 have fa := T.fa
 exact zfn T.ynH ysg fun cdv Ar outer sh H E hr => (yf (yca (ybY ygB ymO (yc (i := 0) yeg rfl (Or.inl rfl)) z_str (ybs _)) (yh (yv (yDm ypH yyS ytu rfl T.z_int ysH (ya (ytZ ytA yBH (yc (i := 1) ybr rfl (Or.inl rfl)) (yc (i := 2) yT rfl (Or.inl rfl)) (ybs _)) ye rfl) rfl rfl))) yG) (yf (yca (ybY ygB ymO (yc (i := 0) yeg rfl (Or.inl rfl)) z_str (ybs _)) (yh (yv (yDm ypH yyS ytu rfl T.z_int ysH (ya (ytZ ygB ymO (yc (i := 1) ybr rfl (Or.inl rfl)) (yc (i := 2) yT rfl (Or.inl rfl)) (ybs _)) ye rfl) rfl rfl))) yG) (yf (yca (ybY ygB ymO (yc (i := 0) yeg rfl (Or.inl rfl)) z_str (ybs _)) (yh (yv (yej ycB yfe (yej yjg ynZ (yc (i := 1) ybr rfl (Or.inl rfl)) (yc (i := 2) yT rfl (Or.inl rfl))) (yej ysB yxt z_int z_int)))) yG) (yf (yca (ybY ygB ymO (yc (i := 0) yeg rfl (Or.inl rfl)) z_str (ybs _)) (yh (yv (yej ycB yfe (yej yyD yCJ (yc (i := 1) ybr rfl (Or.inl rfl)) (yc (i := 2) yT rfl (Or.inl rfl))) (yej ysB yxt z_int z_int)))) yG) (yh (yv (yej ycB yfe (yej ynq ytR (yc (i := 1) ybr rfl (Or.inl rfl)) (yc (i := 2) yT rfl (Or.inl rfl))) (yej ysB yxt z_int z_int))))))))
theorem ymJ (T : Txt K mg t) (ykB : FnOk P w K mg base CX0 (1) t.yis t.yit ["_law_word", "_law_one", "_law_other"] (spE (ybI K t) 3 ygO)) : FnOk P w K mg base CX0 (1 + 1) t.yfa t.yfb ["_law_part", "_law_boxes_here", "_law_saw", "_law_slots_here", "_law_written"] (spE (ybI K t) 5 ydL) := by
 have fa := T.fa
 exact zfn T.yiD ydm fun cdv Ar outer sh H E hr => (yh (yca (ybY ygB ymO (yep ix_tup ydB (yc (i := 0) ym rfl (Or.inl rfl)) z_int (fun _ _ => rfl)) z_str (ybs _)) (yh (ylW (yep ix_tup ydB (yc (i := 0) ym rfl (Or.inl rfl)) z_int (fun _ _ => rfl)) (yc (i := 3) yn rfl (Or.inl rfl)) (ytc PySem.F.plainAttrs_str PySem.F.slot_str_find PySem.F.type_str_find yhd yfz z_str (ya (yep ix_tup ydB (yc (i := 0) ym rfl (Or.inl rfl)) z_int (fun _ _ => rfl)) ye rfl) rfl rfl rfl rfl rfl) (fun _ => rfl) rfl rfl rfl)) (yh (yca (ybY ygB ymO (yep ix_tup ydB (yc (i := 0) ym rfl (Or.inl rfl)) z_int (fun _ _ => rfl)) z_str (ybs _)) (yf (ybg (i := 5) ydm.nd rfl (Or.inl rfl) (yep ix_list yfL (yc (i := 3) yn rfl (Or.inl rfl)) (ytc PySem.F.plainAttrs_str PySem.F.slot_str_find PySem.F.type_str_find yhd yfz z_str (ya (yep ix_tup ydB (yc (i := 0) ym rfl (Or.inl rfl)) z_int (fun _ _ => rfl)) ye rfl) rfl rfl rfl rfl rfl) (fun _ _ => rfl)) rfl (Or.inl rfl)) (yf (ybg (i := 6) ydm.nd rfl (Or.inl rfl) (yep ix_list yfL (yc (i := 3) yn rfl (Or.inl rfl)) (ytc PySem.F.plainAttrs_str PySem.F.slot_str_find PySem.F.type_str_find yhd yfz z_str (ya (yep ix_tup ydB (yc (i := 0) ym rfl (Or.inl rfl)) z_int (fun _ _ => rfl)) ye rfl) rfl rfl rfl rfl rfl) (fun _ _ => rfl)) rfl (Or.inl rfl)) (yh (ylW (ydh ykB (hr.mono (by omega)) ysu rfl T.yum T.ynH.kp T.yul (ya (yep ix_tup ydB (yc (i := 0) ym rfl (Or.inl rfl)) z_int (fun _ _ => rfl)) (ya (yc (i := 5) ybr rfl (Or.inl rfl)) (ya (yc (i := 6) yT rfl (Or.inl rfl)) ye rfl) rfl) rfl) rfl rfl) (yc (i := 3) yn rfl (Or.inl rfl)) (ytc PySem.F.plainAttrs_str PySem.F.slot_str_find PySem.F.type_str_find yhd yfz z_str (ya (yep ix_tup ydB (yc (i := 0) ym rfl (Or.inl rfl)) z_int (fun _ _ => rfl)) ye rfl) rfl rfl rfl rfl rfl) (fun _ => rfl) rfl rfl rfl)))) (yh (yca (ybY ygB ymO (yep ix_tup ydB (yc (i := 0) ym rfl (Or.inl rfl)) z_int (fun _ _ => rfl)) z_str (ybs _)) (yf (ybg (i := 7) ydm.nd rfl (Or.inl rfl) (yej ycB yfe (yep ix_list yfL (yc (i := 3) yn rfl (Or.inl rfl)) (ytc PySem.F.plainAttrs_str PySem.F.slot_str_find PySem.F.type_str_find yhd yfz z_str (ya (yep ix_tup ydB (yc (i := 0) ym rfl (Or.inl rfl)) z_int (fun _ _ => rfl)) ye rfl) rfl rfl rfl rfl rfl) (fun _ _ => rfl)) (yje ybT yiw yie rfl T.z_len yhI (ya (yc (i := 1) yt rfl (Or.inl rfl)) ye rfl) rfl rfl)) rfl (Or.inl rfl)) (yh (yoU (ynR hr) (yc (i := 4) ydt rfl (Or.inl rfl)) (yc (i := 7) ydq rfl (Or.inl rfl)) (yep ix_list yfL (yc (i := 3) yn rfl (Or.inl rfl)) (ytc PySem.F.plainAttrs_str PySem.F.slot_str_find PySem.F.type_str_find yhd yfz z_str (ya (yep ix_tup ydB (yc (i := 0) ym rfl (Or.inl rfl)) z_int (fun _ _ => rfl)) ye rfl) rfl rfl rfl rfl rfl) (fun _ _ => rfl)) rfl))) (yf (ybg (i := 7) ydm.nd rfl (Or.inl rfl) (yej ycB yfe (yep ix_list yfL (yc (i := 3) yn rfl (Or.inl rfl)) (ytc PySem.F.plainAttrs_str PySem.F.slot_str_find PySem.F.type_str_find yhd yfz z_str (ya (yep ix_tup ydB (yc (i := 0) ym rfl (Or.inl rfl)) z_int (fun _ _ => rfl)) ye rfl) rfl rfl rfl rfl rfl) (fun _ _ => rfl)) (yje ybT yiw yie rfl T.z_len yhI (ya (yc (i := 1) yt rfl (Or.inl rfl)) ye rfl) rfl rfl)) rfl (Or.inl rfl)) (yf (yca (yvM (ynR hr) (yc (i := 7) ydq rfl (Or.inl rfl)) (yc (i := 4) ydt rfl (Or.inl rfl)) (by with_unfolding_all rfl)) (yh (yoU (ynR hr) (yc (i := 2) yiW rfl (Or.inl rfl)) (yc (i := 7) ydq rfl (Or.inl rfl)) (yep ix_list yfL (yc (i := 1) yt rfl (Or.inl rfl)) (yc (i := 7) ydq rfl (Or.inl rfl)) (fun _ _ => rfl)) rfl)) yG) (yh (ylW (yAT (ynR hr) (yc (i := 4) ydt rfl (Or.inl rfl)) (yc (i := 7) ydq rfl (Or.inl rfl)) (yep ix_list yfL (yc (i := 1) yt rfl (Or.inl rfl)) (yc (i := 7) ydq rfl (Or.inl rfl)) (fun _ _ => rfl)) ⟨rfl, rfl, rfl, rfl⟩) (yc (i := 3) yn rfl (Or.inl rfl)) (ytc PySem.F.plainAttrs_str PySem.F.slot_str_find PySem.F.type_str_find yhd yfz z_str (ya (yep ix_tup ydB (yc (i := 0) ym rfl (Or.inl rfl)) z_int (fun _ _ => rfl)) ye rfl) rfl rfl rfl rfl rfl) (fun _ => rfl) rfl rfl rfl))))))))))
theorem ypG (T : Txt K mg t)  : FnOk P w K mg base CX0 (0 + 1) t.ygt t.ygu ["_law_found"] (spE (ybI K t) 1 yec) := by
 have fa := T.fa
 exact zfn T.yic ypr fun cdv Ar outer sh H E hr => (yh (yv (yjE (yDo [0] ["_law_found"] rfl (ylU (yjE (yBb rfl (yc (i := 0) yA rfl (Or.inr (Or.inl rfl))) ymC rfl T.z_sorted ylX rfl rfl))) ⟨rfl, rfl, rfl, True.intro⟩ (fun _ _ _ _ _ _ => (yhN (ya (yc (i := 0) ydq rfl (Or.inl rfl)) (ya (yze (ynR hr) (yc (i := 1) yA rfl (Or.inr (Or.inl rfl))) (yc (i := 0) ydq rfl (Or.inl rfl)) (fun _ _ => rfl)) ye rfl) rfl))) (by decide +kernel) rfl (by decide +kernel) (by decide +kernel) (by decide +kernel) rfl (fun _ => rfl)))))
theorem yrg (T : Txt K mg t) (ygJ : FnOk P w K mg base CX0 (1) t.yeW t.yeX ["self", "slot", "number"] (spI (ybI K t) 2 3 ydJ)) (ygK : FnOk P w K mg base CX0 (1) t.yeY t.yeZ ["self", "place", "slot"] (spI (ybI K t) 2 6 ydK)) (yeN : FnOk P w K mg base CX0 (1) t.ydx t.ydy ["self", "word", "slot", "one", "other"] (spI (ybI K t) 4 4 ycz)) (yga : FnOk P w K mg base CX0 (1) t.yex t.yey ["self", "slot", "place"] (spI (ybI K t) 2 5 ydl)) : FnOk P w K mg base CX0 (2 + 1) t.yhn t.yho ["_law_tree"] (spE (ybI K t) 1 yfO) := by
 have fa := T.fa
 exact zfn T.ymv yhU fun cdv Ar outer sh H E hr => (yf (yvK (i := 1) yhU.nd rfl (Or.inl rfl) (ygM ye) rfl (Or.inl rfl)) (yf (ylV PassesOwn.never rfl (ylU (yc (i := 0) yef rfl (Or.inl rfl))) (yhO (i := 2) yhU.nd rfl (Or.inl rfl) (Or.inl rfl)) (yh (yca (ybY ygB ymO (yep ix_tup ydB (yc (i := 2) ym rfl (Or.inl rfl)) z_int (fun _ _ => rfl)) z_str (ybs _)) (yh (yqt (ydg (i := 1) rfl (Or.inl rfl) yS.d yS.c) (yjE (yqs T.mk_Let ygJ (hr.mono (by omega)) yzp rfl T.m_Let T.yng (ya (yep ix_tup ydB (yc (i := 2) ym rfl (Or.inl rfl)) z_int (fun _ _ => rfl)) (ya (yep ix_tup ydB (yc (i := 2) ym rfl (Or.inl rfl)) z_int (fun _ _ => rfl)) ye rfl) rfl) rfl rfl)) rfl rfl rfl rfl rfl rfl)) (yh (yca (ybY ygB ymO (yep ix_tup ydB (yc (i := 2) ym rfl (Or.inl rfl)) z_int (fun _ _ => rfl)) z_str (ybs _)) (yh (yqt (ydg (i := 1) rfl (Or.inl rfl) yS.d yS.c) (yjE (yqs T.mk_Reckon yeN (hr.mono (by omega)) yqX rfl T.m_Reckon T.ykt (ya (yep ix_tup ydB (yc (i := 2) ym rfl (Or.inl rfl)) z_int (fun _ _ => rfl)) (ya (yep ix_tup ydB (yc (i := 2) ym rfl (Or.inl rfl)) z_int (fun _ _ => rfl)) (ya (yep ix_tup ydB (yc (i := 2) ym rfl (Or.inl rfl)) z_int (fun _ _ => rfl)) (ya (yep ix_tup ydB (yc (i := 2) ym rfl (Or.inl rfl)) z_int (fun _ _ => rfl)) ye rfl) rfl) rfl) rfl) rfl rfl)) rfl rfl rfl rfl rfl rfl)) (yh (yca (ybY ygB ymO (yep ix_tup ydB (yc (i := 2) ym rfl (Or.inl rfl)) z_int (fun _ _ => rfl)) z_str (ybs _)) (yh (yqt (ydg (i := 1) rfl (Or.inl rfl) yS.d yS.c) (yjE (yqs T.mk_Take yga (hr.mono (by omega)) ywt rfl T.m_Take T.yms (ya (yep ix_tup ydB (yc (i := 2) ym rfl (Or.inl rfl)) z_int (fun _ _ => rfl)) (ya (yep ix_tup ydB (yc (i := 2) ym rfl (Or.inl rfl)) z_int (fun _ _ => rfl)) ye rfl) rfl) rfl rfl)) rfl rfl rfl rfl rfl rfl)) (yh (yqt (ydg (i := 1) rfl (Or.inl rfl) yS.d yS.c) (yjE (yqs T.mk_Put ygK (hr.mono (by omega)) yzq rfl T.m_Put T.yni (ya (yep ix_tup ydB (yc (i := 2) ym rfl (Or.inl rfl)) z_int (fun _ _ => rfl)) (ya (yep ix_tup ydB (yc (i := 2) ym rfl (Or.inl rfl)) z_int (fun _ _ => rfl)) ye rfl) rfl) rfl rfl)) rfl rfl rfl rfl rfl rfl)))))))) (fun _ => rfl)) (yvL 1 (yh (yv (yc (i := 1) yS rfl (Or.inl rfl)))))))
theorem yrh (T : Txt K mg t) (yei : FnOk P w K mg base CX0 (8) t.ygl t.ygm ["_law_found", "_law_due"] (spE (ybI K t) 2 (yp 5))) (yih : FnOk P w K mg base CX0 (2) t.ygp t.ygq ["_law_cell"] (spE (ybI K t) 1 yfh)) (yjb : FnOk P w K mg base CX0 (3) t.yhn t.yho ["_law_tree"] (spE (ybI K t) 1 yfO)) (ycu : FnOk P w K mg base CX0 (1) t.yed t.yee ["_law_cell"] (spE (ybI K t) 1 yck)) (ygA : FnOk P w K mg base CX0 (1) t.ygt t.ygu ["_law_found"] (spE (ybI K t) 1 yec)) (yii : FnOk P w K mg base CX0 (2) t.ygn t.ygo ["_law_mixed_here", "_law_cell"] (spE (ybI K t) 2 yfg)) (ygL : FnOk P w K mg base CX0 (2) t.yfa t.yfb ["_law_part", "_law_boxes_here", "_law_saw", "_law_slots_here", "_law_written"] (spE (ybI K t) 5 ydL)) (yij : FnOk P w K mg base CX0 (2) t.ygr t.ygs ["_law_cell"] (spE (ybI K t) 1 yfi)) (G_alone : FnOk P w K mg base CX0 (29) t.a_alone t.d_alone ["deed", "boxes", "slots"] (spE (ybI K t) 3 ykn)) : FnOk P w K mg base CX0 (29 + 1) t.yhp t.yhq ["_law_cells", "_law_cell"] (spE (ybI K t) 2 yfP) := by
 have fa := T.fa
 exact zfn T.ymw yW fun cdv Ar outer sh H E hr => (yf (ybg (i := 2) yW.nd rfl (Or.inl rfl) (yjE (ygM ye)) rfl (Or.inl rfl)) (yf (ylV PassesOwn.never rfl (ylU (yc (i := 0) yfG rfl (Or.inl rfl))) (yhO (i := 3) yW.nd rfl (Or.inl rfl) (Or.inl rfl)) (yh (ybg (i := 2) yW.nd rfl (Or.inl rfl) (yjE (yDf yyL yCN (yc (i := 2) yef rfl (Or.inl rfl)) (ydh yii (hr.mono (by omega)) ypx rfl T.yqP T.ykM.kp T.yqO (ya (ydh ycu (hr.mono (by omega)) yht rfl T.yhZ T.ygv.kp T.yhY (ya (yc (i := 3) ykR rfl (Or.inl rfl)) ye rfl) rfl rfl) (ya (yc (i := 3) ykR rfl (Or.inl rfl)) ye rfl) rfl) rfl rfl))) rfl (Or.inl rfl))) (fun _ => rfl)) (yf (ybg (i := 4) yW.nd rfl (Or.inl rfl) (ydh yih (hr.mono (by omega)) ypw rfl T.yqR T.ykN.kp T.yqQ (ya (yc (i := 1) yct rfl (Or.inl rfl)) ye rfl) rfl rfl) rfl (Or.inl rfl)) (yf (ybg (i := 5) yW.nd rfl (Or.inl rfl) (ydh yij (hr.mono (by omega)) ypy rfl T.yqT T.ykO.kp T.yqS (ya (yc (i := 1) yct rfl (Or.inl rfl)) ye rfl) rfl rfl) rfl (Or.inl rfl)) (yf (ybg (i := 6) yW.nd rfl (Or.inl rfl) (yiv (ykG ycC ygh yhu rfl T.z_list ygT (ya (yc (i := 5) yn rfl (Or.inl rfl)) ye rfl) rfl rfl)) rfl (Or.inl rfl)) (yf (ybg (i := 7) yW.nd rfl (Or.inl rfl) (yiv yqu) rfl (Or.inl rfl)) (yf (ybg (i := 8) yW.nd rfl (Or.inl rfl) (yiv yqu) rfl (Or.inl rfl)) (yf (ylV PassesOwn.never rfl (ylU (yc (i := 2) yef rfl (Or.inl rfl))) (yhO (i := 9) yW.nd rfl (Or.inl rfl) (Or.inl rfl)) (yh (ybZ (ydh ygL (hr.mono (by omega)) ymz rfl T.ynm T.yiD.kp T.ynl (ya (yc (i := 9) ym rfl (Or.inl rfl)) (ya (yc (i := 4) yt rfl (Or.inl rfl)) (ya (yc (i := 7) yiW rfl (Or.inl rfl)) (ya (yc (i := 6) ykS rfl (Or.inl rfl)) (ya (yc (i := 8) ydt rfl (Or.inl rfl)) ye rfl) rfl) rfl) rfl) rfl) rfl rfl) rfl)) (fun _ => rfl)) (yf (ybg (i := 10) yW.nd rfl (Or.inl rfl) (yhN (ya (yhN (ya z_str ye rfl)) (ya (ydh ygA (hr.mono (by omega)) yjW rfl T.ykQ T.yic.kp T.ykP (ya (yc (i := 7) yiW rfl (Or.inl rfl)) ye rfl) rfl rfl) (ya (ydh ygA (hr.mono (by omega)) yjW rfl T.ykQ T.yic.kp T.ykP (ya (yc (i := 8) ydt rfl (Or.inl rfl)) ye rfl) rfl rfl) (ya (yc (i := 6) ykS rfl (Or.inl rfl)) ye rfl) rfl) rfl) rfl)) rfl (Or.inl rfl)) (yf (ybg (i := 11) yW.nd rfl (Or.inl rfl) (ydh yjb (hr.mono (by omega)) yqZ rfl T.ysp T.ymv.kp T.yso (ya (yc (i := 2) yef rfl (Or.inl rfl)) ye rfl) rfl rfl) rfl (Or.inl rfl)) (yf (ybg (i := 12) yW.nd rfl (Or.inl rfl) (yjE (ygM (ya (yjE (ykG ycC ygh yhu rfl T.z_list ygT (ya (yc (i := 4) yt rfl (Or.inl rfl)) ye rfl) rfl rfl)) (ya (yjE (ykG ycC ygh yhu rfl T.z_list ygT (ya (yc (i := 5) yn rfl (Or.inl rfl)) ye rfl) rfl rfl)) ye rfl) rfl))) rfl (Or.inl rfl)) (yf (ybg (i := 13) yW.nd rfl (Or.inl rfl) (ydh G_alone (hr.mono (by omega)) ytt rfl T.m_alone T.F_alone.kp T.b_alone (ya (yc (i := 11) yeL rfl (Or.inl rfl)) (ya (yep ix_list yfL (yc (i := 12) ycY rfl (Or.inl rfl)) z_int (fun _ _ => rfl)) (ya (yep ix_list yfL (yc (i := 12) ycY rfl (Or.inl rfl)) z_int (fun _ _ => rfl)) ye rfl) rfl) rfl) rfl rfl) rfl (Or.inl rfl)) (yf (yca (yFY (yDi (yqr (yeE (ydh yei (hr.mono (by omega)) yhs rfl T.yib T.ygw.kp T.yia (ya (yc (i := 13) yA rfl (Or.inl rfl)) (ya (yc (i := 10) ycx rfl (Or.inl rfl)) ye rfl) rfl) rfl rfl) (fun _ => rfl))) (yDi (ybY (yzf (ynD hr)) yDc (yc (i := 12) ycY rfl (Or.inl rfl)) (yjE (ygM (ya (yc (i := 4) yt rfl (Or.inl rfl)) (ya (yc (i := 5) yn rfl (Or.inl rfl)) ye rfl) rfl))) (ybs _)) (yDj (ybY yzA yFh (yje ybT yiw yie rfl T.z_len yhI (ya (yc (i := 11) yeL rfl (Or.inl rfl)) ye rfl) rfl rfl) (yje ybT yiw yie rfl T.z_len yhI (ya (yc (i := 2) yef rfl (Or.inl rfl)) ye rfl) rfl rfl) (ybs _)))))) (yh (yv yzd)) yG) (yf (ybZ (ytc PySem.F.plainAttrs_list PySem.F.slot_list_append PySem.F.type_list_append yfI ysU (yep ix_tup ydB (yc (i := 13) yA rfl (Or.inl rfl)) z_int (fun _ _ => rfl)) (ya (yhN (ya z_int (ya z_int ye rfl) rfl)) ye rfl) rfl rfl rfl rfl rfl) rfl) (yf (ybZ (ytc PySem.F.plainAttrs_list PySem.F.slot_list_append PySem.F.type_list_append yfI ysU (yep ix_tup ydB (yc (i := 13) yA rfl (Or.inl rfl)) z_int (fun _ _ => rfl)) (ya (yhN (ya z_int (ya z_int ye rfl) rfl)) ye rfl) rfl rfl rfl rfl rfl) rfl) (yf (ybZ (ytc PySem.F.plainAttrs_list PySem.F.slot_list_append PySem.F.type_list_append yfI ysU (yep ix_tup ydB (yc (i := 13) yA rfl (Or.inl rfl)) z_int (fun _ _ => rfl)) (ya z_int ye rfl) rfl rfl rfl rfl rfl) rfl) (yh (yv (yxY (ydh yei (hr.mono (by omega)) yhs rfl T.yib T.ygw.kp T.yia (ya (ydh G_alone (hr.mono (by omega)) ytt rfl T.m_alone T.F_alone.kp T.b_alone (ya (yc (i := 11) yeL rfl (Or.inl rfl)) (ya (yep ix_list yfL (yc (i := 12) ycY rfl (Or.inl rfl)) z_int (fun _ _ => rfl)) (ya (yep ix_list yfL (yc (i := 12) ycY rfl (Or.inl rfl)) z_int (fun _ _ => rfl)) ye rfl) rfl) rfl) rfl rfl) (ya (yc (i := 10) ycx rfl (Or.inl rfl)) ye rfl) rfl) rfl rfl) (yAR (ytZ (yte (ynD hr)) yxQ (yc (i := 12) ycY rfl (Or.inl rfl)) (yjE (ygM (ya (yc (i := 4) yt rfl (Or.inl rfl)) (ya (yc (i := 5) yn rfl (Or.inl rfl)) ye rfl) rfl))) (ybs _))))))))))))))))))))))
theorem yEm (T : Txt K mg t) (yjc : FnOk P w K mg base CX0 (30) t.yhp t.yhq ["_law_cells", "_law_cell"] (spE (ybI K t) 2 yfP)) : FnOk P w K mg base CX0 (30 + 1) t.a_law t.d_law ["_law_script"] (spE (ybI K t) 1 yyg) := by
 have fa := T.fa
 exact zfn T.F_law sc_law fun cdv Ar outer sh H E hr => (yf (ylV PassesOwn.never rfl (yAU rfl T.z_range (ya z_int (ya (yje (yuI rfl) yCW yEk rfl T.z_max yDq (ya z_int (ya (yje ybT yiw yie rfl T.z_len yhI (ya (yc (i := 0) yiE rfl (Or.inl rfl)) ye rfl) rfl rfl) ye rfl) rfl) rfl rfl) (ya z_int ye rfl) rfl) rfl) rfl rfl) (yhO (i := 1) sc_law.nd rfl (Or.inl rfl) (Or.inl rfl)) (yf (ybg (i := 2) sc_law.nd rfl (Or.inl rfl) (yjE (yDl yuR yCL (yc (i := 0) yiE rfl (Or.inl rfl)) (yoT (yc (i := 1) ynK rfl (Or.inl rfl))) (yoT (yej yjg ynZ (yc (i := 1) ynK rfl (Or.inl rfl)) z_int)))) rfl (Or.inl rfl)) (yh (yca (yqr (yeE (ydh yjc (hr.mono (by omega)) yqY rfl T.ysr T.ymw.kp T.ysq (ya (yc (i := 2) yfG rfl (Or.inl rfl)) (ya (yej yjg ynZ (yje (yxa rfl) yFk yEl rfl T.z_sum yCu (ya (yjE (yDl yuR yCL (yc (i := 2) yfG rfl (Or.inl rfl)) yDk (yoT z_int))) ye rfl) rfl rfl) (yje ybT yiw yie rfl T.z_len yhI (ya (yc (i := 2) yfG rfl (Or.inl rfl)) ye rfl) rfl rfl)) ye rfl) rfl) rfl rfl) (fun _ => rfl))) (yh (yv yzd)) yG))) (fun _ => rfl)) (yh (yv yzd)))
def yyy (K : PySem.W.Frag) : Sp := fun vs H Q _ => ∃ (a : Addr) (ns : List Int), vs = [.ref a] /\ SqL K H a (ns.map V.int) /\ ns.length <= 63 /\ ∀ H', Q (.bl true) H'
theorem yEn {A : Nat -> Addr} : ∀ vs H Q E, yyy K vs H Q E -> spE ⟨K, A⟩ 1 yyg vs H Q E := by
 rintro _ H Q E ⟨a, ns, rfl, hS, hl, q⟩
 obtain ⟨h', e⟩ := yEh (h := []) ns hl
 exact ⟨⟨H, H, [], []⟩, [.scr ns], .bl true, h', rfl, ⟨Same.refl _, rfl, List.nodup_nil, fun n d a e => by simp at e⟩, ⟨.ref a, [], rfl, ⟨a, rfl, hS⟩, rfl⟩, rfl, e, fun v W' _ _ rv => by rw [show v = _ from rv]; exact q _⟩
end
theorem all_mk {l : PySem.W.OpenLaw} {w : World} {K : PySem.W.Frag} {h : Heap} {mg : Str -> Option Value} {fa CLog CDoing CDoer CLet CReckon CTake CPut CIf CEither CTry CThrow CWait f1 f2 f3 f4 f5 f6 f7 f8 f9 f10 f11 f12 f13 f14 f15 f16 f17 f18 f19 f20 f21 f22 f23 f24 f25 f26 f27 f28 f29 f30 f31 f32 f33 f34 f35 f36 f37 f38 f39 f40 f41 f42 f43 f44 f45 f46 u1 u3 : Addr} {u2 u4 : Tok} (X : K.In h) (G : h.Ns mainGlobals mg) (hfa : mg "law" = some (.ref fa))
  {od1 an1 : Option Addr} {sl1 : Array (Option Value)} {oc1 kV1 dc1 pm1 cd1 ct1 : Value} {od2 an2 : Option Addr} {sl2 : Array (Option Value)} {oc2 kV2 dc2 pm2 cd2 ct2 : Value} {od3 an3 : Option Addr} {sl3 : Array (Option Value)} {oc3 kV3 dc3 pm3 cd3 ct3 : Value} {od4 an4 : Option Addr} {sl4 : Array (Option Value)} {oc4 kV4 dc4 pm4 cd4 ct4 : Value} {od5 an5 : Option Addr} {sl5 : Array (Option Value)} {oc5 kV5 dc5 pm5 cd5 ct5 : Value} {od6 an6 : Option Addr} {sl6 : Array (Option Value)} {oc6 kV6 dc6 pm6 cd6 ct6 : Value} {od7 an7 : Option Addr} {sl7 : Array (Option Value)} {oc7 kV7 dc7 pm7 cd7 ct7 : Value} {od8 an8 : Option Addr} {sl8 : Array (Option Value)} {oc8 kV8 dc8 pm8 cd8 ct8 : Value} {od9 an9 : Option Addr} {sl9 : Array (Option Value)} {oc9 kV9 dc9 pm9 cd9 ct9 : Value} {od10 an10 : Option Addr} {sl10 : Array (Option Value)} {oc10 kV10 dc10 pm10 cd10 ct10 : Value} {od11 an11 : Option Addr} {sl11 : Array (Option Value)} {oc11 kV11 dc11 pm11 cd11 ct11 : Value} {od12 an12 : Option Addr} {sl12 : Array (Option Value)} {oc12 kV12 dc12 pm12 cd12 ct12 : Value} {od13 an13 : Option Addr} {sl13 : Array (Option Value)} {oc13 kV13 dc13 pm13 cd13 ct13 : Value} {od14 an14 : Option Addr} {sl14 : Array (Option Value)} {oc14 kV14 dc14 pm14 cd14 ct14 : Value} {od15 an15 : Option Addr} {sl15 : Array (Option Value)} {oc15 kV15 dc15 pm15 cd15 ct15 : Value} {od16 an16 : Option Addr} {sl16 : Array (Option Value)} {oc16 kV16 dc16 pm16 cd16 ct16 : Value} {od17 an17 : Option Addr} {sl17 : Array (Option Value)} {oc17 kV17 dc17 pm17 cd17 ct17 : Value} {od18 an18 : Option Addr} {sl18 : Array (Option Value)} {oc18 kV18 dc18 pm18 cd18 ct18 : Value} {od19 an19 : Option Addr} {sl19 : Array (Option Value)} {oc19 kV19 dc19 pm19 cd19 ct19 : Value} {od20 an20 : Option Addr} {sl20 : Array (Option Value)} {oc20 kV20 dc20 pm20 cd20 ct20 : Value} {od21 an21 : Option Addr} {sl21 : Array (Option Value)} {oc21 kV21 dc21 pm21 cd21 ct21 : Value} {od22 an22 : Option Addr} {sl22 : Array (Option Value)} {oc22 kV22 dc22 pm22 cd22 ct22 : Value} {od23 an23 : Option Addr} {sl23 : Array (Option Value)} {oc23 kV23 dc23 pm23 cd23 ct23 : Value} {od24 an24 : Option Addr} {sl24 : Array (Option Value)} {oc24 kV24 dc24 pm24 cd24 ct24 : Value} {od25 an25 : Option Addr} {sl25 : Array (Option Value)} {oc25 kV25 dc25 pm25 cd25 ct25 : Value} {od26 an26 : Option Addr} {sl26 : Array (Option Value)} {oc26 kV26 dc26 pm26 cd26 ct26 : Value} {od27 an27 : Option Addr} {sl27 : Array (Option Value)} {oc27 kV27 dc27 pm27 cd27 ct27 : Value} {od28 an28 : Option Addr} {sl28 : Array (Option Value)} {oc28 kV28 dc28 pm28 cd28 ct28 : Value} {od29 an29 : Option Addr} {sl29 : Array (Option Value)} {oc29 kV29 dc29 pm29 cd29 ct29 : Value} {od30 an30 : Option Addr} {sl30 : Array (Option Value)} {oc30 kV30 dc30 pm30 cd30 ct30 : Value} {od31 an31 : Option Addr} {sl31 : Array (Option Value)} {oc31 kV31 dc31 pm31 cd31 ct31 : Value} {od32 an32 : Option Addr} {sl32 : Array (Option Value)} {oc32 kV32 dc32 pm32 cd32 ct32 : Value} {od33 an33 : Option Addr} {sl33 : Array (Option Value)} {oc33 kV33 dc33 pm33 cd33 ct33 : Value} {od34 an34 : Option Addr} {sl34 : Array (Option Value)} {oc34 kV34 dc34 pm34 cd34 ct34 : Value} {od35 an35 : Option Addr} {sl35 : Array (Option Value)} {oc35 kV35 dc35 pm35 cd35 ct35 : Value} {od36 an36 : Option Addr} {sl36 : Array (Option Value)} {oc36 kV36 dc36 pm36 cd36 ct36 : Value} {od37 an37 : Option Addr} {sl37 : Array (Option Value)} {oc37 kV37 dc37 pm37 cd37 ct37 : Value} {od38 an38 : Option Addr} {sl38 : Array (Option Value)} {oc38 kV38 dc38 pm38 cd38 ct38 : Value} {od39 an39 : Option Addr} {sl39 : Array (Option Value)} {oc39 kV39 dc39 pm39 cd39 ct39 : Value} {od40 an40 : Option Addr} {sl40 : Array (Option Value)} {oc40 kV40 dc40 pm40 cd40 ct40 : Value} {od41 an41 : Option Addr} {sl41 : Array (Option Value)} {oc41 kV41 dc41 pm41 cd41 ct41 : Value} {od42 an42 : Option Addr} {sl42 : Array (Option Value)} {oc42 kV42 dc42 pm42 cd42 ct42 : Value} {od43 an43 : Option Addr} {sl43 : Array (Option Value)} {oc43 kV43 dc43 pm43 cd43 ct43 : Value} {od44 an44 : Option Addr} {sl44 : Array (Option Value)} {oc44 kV44 dc44 pm44 cd44 ct44 : Value} {od45 an45 : Option Addr} {sl45 : Array (Option Value)} {oc45 kV45 dc45 pm45 cd45 ct45 : Value} {od46 an46 : Option Addr} {sl46 : Array (Option Value)} {oc46 kV46 dc46 pm46 cd46 ct46 : Value} {qd1 : Option Addr} {qn1 : Nat} {qs1 : Array (Option Value)} {qt1_0 : Tok} {qd3 : Option Addr} {qn3 : Nat} {qs3 : Array (Option Value)} {qt3_0 : Tok}
  (nCLog : PySem.W.nsIn K mainGlobals "Log" = some (some (.ref CLog)))
  (nCDoing : PySem.W.nsIn K mainGlobals "Doing" = some (some (.ref CDoing)))
  (nCDoer : PySem.W.nsIn K mainGlobals "Doer" = some (some (.ref CDoer)))
  (nCLet : PySem.W.nsIn K mainGlobals "Let" = some (some (.ref CLet)))
  (nCReckon : PySem.W.nsIn K mainGlobals "Reckon" = some (some (.ref CReckon)))
  (nCTake : PySem.W.nsIn K mainGlobals "Take" = some (some (.ref CTake)))
  (nCPut : PySem.W.nsIn K mainGlobals "Put" = some (some (.ref CPut)))
  (nCIf : PySem.W.nsIn K mainGlobals "If" = some (some (.ref CIf)))
  (nCEither : PySem.W.nsIn K mainGlobals "Either" = some (some (.ref CEither)))
  (nCTry : PySem.W.nsIn K mainGlobals "Try" = some (some (.ref CTry)))
  (nCThrow : PySem.W.nsIn K mainGlobals "Throw" = some (some (.ref CThrow)))
  (nCWait : PySem.W.nsIn K mainGlobals "Wait" = some (some (.ref CWait)))
  (ygb : PySem.W.findIn K (.ref CLog) "__init__" = some (some (.ref f1)))
  (yeO : PySem.W.findIn K (.ref CDoing) "__init__" = some (some (.ref f25)))
  (yft : PySem.W.findIn K (.ref CDoer) "__init__" = some (some (.ref f12)))
  (ygc : PySem.W.findIn K (.ref CLet) "__init__" = some (some (.ref f21)))
  (yeC : PySem.W.findIn K (.ref CReckon) "__init__" = some (some (.ref f22)))
  (yfu : PySem.W.findIn K (.ref CTake) "__init__" = some (some (.ref f23)))
  (ygd : PySem.W.findIn K (.ref CPut) "__init__" = some (some (.ref f24)))
  (yik : PySem.W.findIn K (.ref CLog) "write" = some (some (.ref f2)))
  (ykC : PySem.W.findIn K (.ref CLog) "own" = some (some (.ref f3)))
  (yil : PySem.W.findIn K (.ref CLog) "begin" = some (some (.ref f4)))
  (yhz : PySem.W.findIn K (.ref CLog) "settle" = some (some (.ref f5)))
  (yjd : PySem.W.findIn K (.ref CLog) "drop" = some (some (.ref f6)))
  (ykD : PySem.W.findIn K (.ref CLog) "see" = some (some (.ref f7)))
  (ykE : PySem.W.findIn K (.ref CLog) "saw" = some (some (.ref f8)))
  (yim : PySem.W.findIn K (.ref CLog) "wrote" = some (some (.ref f9)))
  (fs_Doing_held_in : PySem.W.findIn K (.ref CDoing) "held_in" = some (some (.ref f13)))
  (fs_Doing_hold : PySem.W.findIn K (.ref CDoing) "hold" = some (some (.ref f14)))
  (fs_Doing_box_at : PySem.W.findIn K (.ref CDoing) "box_at" = some (some (.ref f15)))
  (fs_Doing_do_reckon : PySem.W.findIn K (.ref CDoing) "do_reckon" = some (some (.ref f16)))
  (fs_Doing_do_put : PySem.W.findIn K (.ref CDoing) "do_put" = some (some (.ref f17)))
  (fs_Doing_sees_at : PySem.W.findIn K (.ref CDoing) "sees_at" = some (some (.ref f18)))
  (fs_Doing_take_own : PySem.W.findIn K (.ref CDoing) "take_own" = some (some (.ref f19)))
  (fs_Doing_take_seen : PySem.W.findIn K (.ref CDoing) "take_seen" = some (some (.ref f20)))
  (yeD : PySem.W.findIn K (.ref CDoing) "take_done" = some (some (.ref f26)))
  (yea : PySem.W.findIn K (.ref CDoing) "plain_done" = some (some (.ref f27)))
  (yeP : PySem.W.findIn K (.ref CDoing) "list_end" = some (some (.ref f28)))
  (yeQ : PySem.W.findIn K (.ref CDoing) "part_end" = some (some (.ref f29)))
  (yge : PySem.W.findIn K (.ref CDoing) "if_end" = some (some (.ref f30)))
  (yeb : PySem.W.findIn K (.ref CDoing) "either_end" = some (some (.ref f31)))
  (yfv : PySem.W.findIn K (.ref CDoing) "try_end" = some (some (.ref f32)))
  (ydF : PySem.W.findIn K (.ref CDoing) "layered_end" = some (some (.ref f33)))
  (cr_Doer : PySem.W.readsIn K CDoer (.type "type") = true)
  (cc_Doer : PySem.W.findCls K (.ref CDoer) (.type "type") "__init__" = some (.val (.ref f12)))
  (cs_Doer : PySem.W.specialIn K (.ref CDoer) "__getattribute__" = some (some (.builtin "type.__getattribute__")))
  (i1 : PySem.W.isFn K (.ref f1) = true)
  (l1 : K.lookup f1 = some ⟨oc1, od1, .func (PySem.W.fnOf "__init__" "Log.__init__" (yj ybA) (yi ybA) (yb ybA) .none kV1 dc1 pm1 an1 cd1 ct1), sl1⟩)
  (c1 : PySem.W.codeIn K cd1 "Log.__init__" = true)
  (k1 : PySem.W.keepIn K (.ref f1) = true)
  (i2 : PySem.W.isFn K (.ref f2) = true)
  (l2 : K.lookup f2 = some ⟨oc2, od2, .func (PySem.W.fnOf "write" "Log.write" (yj ycI) (yi ycI) (yb ycI) .none kV2 dc2 pm2 an2 cd2 ct2), sl2⟩)
  (c2 : PySem.W.codeIn K cd2 "Log.write" = true)
  (k2 : PySem.W.keepIn K (.ref f2) = true)
  (i3 : PySem.W.isFn K (.ref f3) = true)
  (l3 : K.lookup f3 = some ⟨oc3, od3, .func (PySem.W.fnOf "own" "Log.own" (yj yer) (yi yer) (yb yer) .none kV3 dc3 pm3 an3 cd3 ct3), sl3⟩)
  (c3 : PySem.W.codeIn K cd3 "Log.own" = true)
  (k3 : PySem.W.keepIn K (.ref f3) = true)
  (i4 : PySem.W.isFn K (.ref f4) = true)
  (l4 : K.lookup f4 = some ⟨oc4, od4, .func (PySem.W.fnOf "begin" "Log.begin" (yj ycJ) (yi ycJ) (yb ycJ) .none kV4 dc4 pm4 an4 cd4 ct4), sl4⟩)
  (c4 : PySem.W.codeIn K cd4 "Log.begin" = true)
  (k4 : PySem.W.keepIn K (.ref f4) = true)
  (i5 : PySem.W.isFn K (.ref f5) = true)
  (l5 : K.lookup f5 = some ⟨oc5, od5, .func (PySem.W.fnOf "settle" "Log.settle" (yj ycl) (yi ycl) (yb ycl) .none kV5 dc5 pm5 an5 cd5 ct5), sl5⟩)
  (c5 : PySem.W.codeIn K cd5 "Log.settle" = true)
  (k5 : PySem.W.keepIn K (.ref f5) = true)
  (i6 : PySem.W.isFn K (.ref f6) = true)
  (l6 : K.lookup f6 = some ⟨oc6, od6, .func (PySem.W.fnOf "drop" "Log.drop" (yj ydu) (yi ydu) (yb ydu) .none kV6 dc6 pm6 an6 cd6 ct6), sl6⟩)
  (c6 : PySem.W.codeIn K cd6 "Log.drop" = true)
  (k6 : PySem.W.keepIn K (.ref f6) = true)
  (i7 : PySem.W.isFn K (.ref f7) = true)
  (l7 : K.lookup f7 = some ⟨oc7, od7, .func (PySem.W.fnOf "see" "Log.see" (yj yes) (yi yes) (yb yes) .none kV7 dc7 pm7 an7 cd7 ct7), sl7⟩)
  (c7 : PySem.W.codeIn K cd7 "Log.see" = true)
  (k7 : PySem.W.keepIn K (.ref f7) = true)
  (i8 : PySem.W.isFn K (.ref f8) = true)
  (l8 : K.lookup f8 = some ⟨oc8, od8, .func (PySem.W.fnOf "saw" "Log.saw" (yj yet) (yi yet) (yb yet) .none kV8 dc8 pm8 an8 cd8 ct8), sl8⟩)
  (c8 : PySem.W.codeIn K cd8 "Log.saw" = true)
  (k8 : PySem.W.keepIn K (.ref f8) = true)
  (i9 : PySem.W.isFn K (.ref f9) = true)
  (l9 : K.lookup f9 = some ⟨oc9, od9, .func (PySem.W.fnOf "wrote" "Log.wrote" (yj ycK) (yi ycK) (yb ycK) .none kV9 dc9 pm9 an9 cd9 ct9), sl9⟩)
  (c9 : PySem.W.codeIn K cd9 "Log.wrote" = true)
  (k9 : PySem.W.keepIn K (.ref f9) = true)
  (a10 : PySem.W.nsIn K mainGlobals "reckon" = some (some (.ref f10)))
  (l10 : K.lookup f10 = some ⟨oc10, od10, .func (PySem.W.fnOf "reckon" "reckon" (yj yfC) (yi yfC) (yb yfC) .none kV10 dc10 pm10 an10 cd10 ct10), sl10⟩)
  (c10 : PySem.W.codeIn K cd10 "reckon" = true)
  (k10 : PySem.W.keepIn K (.ref f10) = true)
  (a11 : PySem.W.nsIn K mainGlobals "slot_index" = some (some (.ref f11)))
  (l11 : K.lookup f11 = some ⟨oc11, od11, .func (PySem.W.fnOf "slot_index" "slot_index" (yj ycm) (yi ycm) (yb ycm) .none kV11 dc11 pm11 an11 cd11 ct11), sl11⟩)
  (c11 : PySem.W.codeIn K cd11 "slot_index" = true)
  (k11 : PySem.W.keepIn K (.ref f11) = true)
  (i12 : PySem.W.isFn K (.ref f12) = true)
  (l12 : K.lookup f12 = some ⟨oc12, od12, .func (PySem.W.fnOf "__init__" "Doer.__init__" (yj ybm) (yi ybm) (yb ybm) .none kV12 dc12 pm12 an12 cd12 ct12), sl12⟩)
  (c12 : PySem.W.codeIn K cd12 "Doer.__init__" = true)
  (k12 : PySem.W.keepIn K (.ref f12) = true)
  (i13 : PySem.W.isFn K (.ref f13) = true)
  (l13 : K.lookup f13 = some ⟨oc13, od13, .func (PySem.W.fnOf "held_in" "Doer.held_in" (yj ybB) (yi ybB) (yb ybB) .none kV13 dc13 pm13 an13 cd13 ct13), sl13⟩)
  (c13 : PySem.W.codeIn K cd13 "Doer.held_in" = true)
  (k13 : PySem.W.keepIn K (.ref f13) = true)
  (i14 : PySem.W.isFn K (.ref f14) = true)
  (l14 : K.lookup f14 = some ⟨oc14, od14, .func (PySem.W.fnOf "hold" "Doer.hold" (yj ycL) (yi ycL) (yb ycL) .none kV14 dc14 pm14 an14 cd14 ct14), sl14⟩)
  (c14 : PySem.W.codeIn K cd14 "Doer.hold" = true)
  (k14 : PySem.W.keepIn K (.ref f14) = true)
  (i15 : PySem.W.isFn K (.ref f15) = true)
  (l15 : K.lookup f15 = some ⟨oc15, od15, .func (PySem.W.fnOf "box_at" "Doer.box_at" (yj ybR) (yi ybR) (yb ybR) .none kV15 dc15 pm15 an15 cd15 ct15), sl15⟩)
  (c15 : PySem.W.codeIn K cd15 "Doer.box_at" = true)
  (k15 : PySem.W.keepIn K (.ref f15) = true)
  (i16 : PySem.W.isFn K (.ref f16) = true)
  (l16 : K.lookup f16 = some ⟨oc16, od16, .func (PySem.W.fnOf "do_reckon" "Doer.do_reckon" (yj yZ) (yi yZ) (yb yZ) .none kV16 dc16 pm16 an16 cd16 ct16), sl16⟩)
  (c16 : PySem.W.codeIn K cd16 "Doer.do_reckon" = true)
  (k16 : PySem.W.keepIn K (.ref f16) = true)
  (i17 : PySem.W.isFn K (.ref f17) = true)
  (l17 : K.lookup f17 = some ⟨oc17, od17, .func (PySem.W.fnOf "do_put" "Doer.do_put" (yj ybS) (yi ybS) (yb ybS) .none kV17 dc17 pm17 an17 cd17 ct17), sl17⟩)
  (c17 : PySem.W.codeIn K cd17 "Doer.do_put" = true)
  (k17 : PySem.W.keepIn K (.ref f17) = true)
  (i18 : PySem.W.isFn K (.ref f18) = true)
  (l18 : K.lookup f18 = some ⟨oc18, od18, .func (PySem.W.fnOf "sees_at" "Doer.sees_at" (yj ybC) (yi ybC) (yb ybC) .none kV18 dc18 pm18 an18 cd18 ct18), sl18⟩)
  (c18 : PySem.W.codeIn K cd18 "Doer.sees_at" = true)
  (k18 : PySem.W.keepIn K (.ref f18) = true)
  (i19 : PySem.W.isFn K (.ref f19) = true)
  (l19 : K.lookup f19 = some ⟨oc19, od19, .func (PySem.W.fnOf "take_own" "Doer.take_own" (yj ybn) (yi ybn) (yb ybn) .none kV19 dc19 pm19 an19 cd19 ct19), sl19⟩)
  (c19 : PySem.W.codeIn K cd19 "Doer.take_own" = true)
  (k19 : PySem.W.keepIn K (.ref f19) = true)
  (i20 : PySem.W.isFn K (.ref f20) = true)
  (l20 : K.lookup f20 = some ⟨oc20, od20, .func (PySem.W.fnOf "take_seen" "Doer.take_seen" (yj yba) (yi yba) (yb yba) .none kV20 dc20 pm20 an20 cd20 ct20), sl20⟩)
  (c20 : PySem.W.codeIn K cd20 "Doer.take_seen" = true)
  (k20 : PySem.W.keepIn K (.ref f20) = true)
  (i21 : PySem.W.isFn K (.ref f21) = true)
  (l21 : K.lookup f21 = some ⟨oc21, od21, .func (PySem.W.fnOf "__init__" "Let.__init__" (yj ybD) (yi ybD) (yb ybD) .none kV21 dc21 pm21 an21 cd21 ct21), sl21⟩)
  (c21 : PySem.W.codeIn K cd21 "Let.__init__" = true)
  (k21 : PySem.W.keepIn K (.ref f21) = true)
  (i22 : PySem.W.isFn K (.ref f22) = true)
  (l22 : K.lookup f22 = some ⟨oc22, od22, .func (PySem.W.fnOf "__init__" "Reckon.__init__" (yj yQ) (yi yQ) (yb yQ) .none kV22 dc22 pm22 an22 cd22 ct22), sl22⟩)
  (c22 : PySem.W.codeIn K cd22 "Reckon.__init__" = true)
  (k22 : PySem.W.keepIn K (.ref f22) = true)
  (i23 : PySem.W.isFn K (.ref f23) = true)
  (l23 : K.lookup f23 = some ⟨oc23, od23, .func (PySem.W.fnOf "__init__" "Take.__init__" (yj ybo) (yi ybo) (yb ybo) .none kV23 dc23 pm23 an23 cd23 ct23), sl23⟩)
  (c23 : PySem.W.codeIn K cd23 "Take.__init__" = true)
  (k23 : PySem.W.keepIn K (.ref f23) = true)
  (i24 : PySem.W.isFn K (.ref f24) = true)
  (l24 : K.lookup f24 = some ⟨oc24, od24, .func (PySem.W.fnOf "__init__" "Put.__init__" (yj ybE) (yi ybE) (yb ybE) .none kV24 dc24 pm24 an24 cd24 ct24), sl24⟩)
  (c24 : PySem.W.codeIn K cd24 "Put.__init__" = true)
  (k24 : PySem.W.keepIn K (.ref f24) = true)
  (i25 : PySem.W.isFn K (.ref f25) = true)
  (l25 : K.lookup f25 = some ⟨oc25, od25, .func (PySem.W.fnOf "__init__" "Doing.__init__" (yj ybb) (yi ybb) (yb ybb) .none kV25 dc25 pm25 an25 cd25 ct25), sl25⟩)
  (c25 : PySem.W.codeIn K cd25 "Doing.__init__" = true)
  (k25 : PySem.W.keepIn K (.ref f25) = true)
  (i26 : PySem.W.isFn K (.ref f26) = true)
  (l26 : K.lookup f26 = some ⟨oc26, od26, .func (PySem.W.fnOf "take_done" "Doing.take_done" (yj yR) (yi yR) (yb yR) .none kV26 dc26 pm26 an26 cd26 ct26), sl26⟩)
  (c26 : PySem.W.codeIn K cd26 "Doing.take_done" = true)
  (k26 : PySem.W.keepIn K (.ref f26) = true)
  (i27 : PySem.W.isFn K (.ref f27) = true)
  (l27 : K.lookup f27 = some ⟨oc27, od27, .func (PySem.W.fnOf "plain_done" "Doing.plain_done" (yj yH) (yi yH) (yb yH) .none kV27 dc27 pm27 an27 cd27 ct27), sl27⟩)
  (c27 : PySem.W.codeIn K cd27 "Doing.plain_done" = true)
  (k27 : PySem.W.keepIn K (.ref f27) = true)
  (i28 : PySem.W.isFn K (.ref f28) = true)
  (l28 : K.lookup f28 = some ⟨oc28, od28, .func (PySem.W.fnOf "list_end" "Doing.list_end" (yj ybc) (yi ybc) (yb ybc) .none kV28 dc28 pm28 an28 cd28 ct28), sl28⟩)
  (c28 : PySem.W.codeIn K cd28 "Doing.list_end" = true)
  (k28 : PySem.W.keepIn K (.ref f28) = true)
  (i29 : PySem.W.isFn K (.ref f29) = true)
  (l29 : K.lookup f29 = some ⟨oc29, od29, .func (PySem.W.fnOf "part_end" "Doing.part_end" (yj ybd) (yi ybd) (yb ybd) .none kV29 dc29 pm29 an29 cd29 ct29), sl29⟩)
  (c29 : PySem.W.codeIn K cd29 "Doing.part_end" = true)
  (k29 : PySem.W.keepIn K (.ref f29) = true)
  (i30 : PySem.W.isFn K (.ref f30) = true)
  (l30 : K.lookup f30 = some ⟨oc30, od30, .func (PySem.W.fnOf "if_end" "Doing.if_end" (yj ybF) (yi ybF) (yb ybF) .none kV30 dc30 pm30 an30 cd30 ct30), sl30⟩)
  (c30 : PySem.W.codeIn K cd30 "Doing.if_end" = true)
  (k30 : PySem.W.keepIn K (.ref f30) = true)
  (i31 : PySem.W.isFn K (.ref f31) = true)
  (l31 : K.lookup f31 = some ⟨oc31, od31, .func (PySem.W.fnOf "either_end" "Doing.either_end" (yj yI) (yi yI) (yb yI) .none kV31 dc31 pm31 an31 cd31 ct31), sl31⟩)
  (c31 : PySem.W.codeIn K cd31 "Doing.either_end" = true)
  (k31 : PySem.W.keepIn K (.ref f31) = true)
  (i32 : PySem.W.isFn K (.ref f32) = true)
  (l32 : K.lookup f32 = some ⟨oc32, od32, .func (PySem.W.fnOf "try_end" "Doing.try_end" (yj ybp) (yi ybp) (yb ybp) .none kV32 dc32 pm32 an32 cd32 ct32), sl32⟩)
  (c32 : PySem.W.codeIn K cd32 "Doing.try_end" = true)
  (k32 : PySem.W.keepIn K (.ref f32) = true)
  (i33 : PySem.W.isFn K (.ref f33) = true)
  (l33 : K.lookup f33 = some ⟨oc33, od33, .func (PySem.W.fnOf "layered_end" "Doing.layered_end" (yj yz) (yi yz) (yb yz) .none kV33 dc33 pm33 an33 cd33 ct33), sl33⟩)
  (c33 : PySem.W.codeIn K cd33 "Doing.layered_end" = true)
  (k33 : PySem.W.keepIn K (.ref f33) = true)
  (a34 : PySem.W.nsIn K mainGlobals "alone" = some (some (.ref f34)))
  (l34 : K.lookup f34 = some ⟨oc34, od34, .func (PySem.W.fnOf "alone" "alone" (yj yhe) (yi yhe) (yb yhe) .none kV34 dc34 pm34 an34 cd34 ct34), sl34⟩)
  (c34 : PySem.W.codeIn K cd34 "alone" = true)
  (k34 : PySem.W.keepIn K (.ref f34) = true)
  (a35 : PySem.W.nsIn K mainGlobals "_law_mixed" = some (some (.ref f35)))
  (l35 : K.lookup f35 = some ⟨oc35, od35, .func (PySem.W.fnOf "_law_mixed" "_law_mixed" (yj ycn) (yi ycn) (yb ycn) .none kV35 dc35 pm35 an35 cd35 ct35), sl35⟩)
  (c35 : PySem.W.codeIn K cd35 "_law_mixed" = true)
  (k35 : PySem.W.keepIn K (.ref f35) = true)
  (a36 : PySem.W.nsIn K mainGlobals "_law_wide" = some (some (.ref f36)))
  (l36 : K.lookup f36 = some ⟨oc36, od36, .func (PySem.W.fnOf "_law_wide" "_law_wide" (yj ycM) (yi ycM) (yb ycM) .none kV36 dc36 pm36 an36 cd36 ct36), sl36⟩)
  (c36 : PySem.W.codeIn K cd36 "_law_wide" = true)
  (k36 : PySem.W.keepIn K (.ref f36) = true)
  (a37 : PySem.W.nsIn K mainGlobals "_law_alike" = some (some (.ref f37)))
  (l37 : K.lookup f37 = some ⟨oc37, od37, .func (PySem.W.fnOf "_law_alike" "_law_alike" (yj yco) (yi yco) (yb yco) .none kV37 dc37 pm37 an37 cd37 ct37), sl37⟩)
  (c37 : PySem.W.codeIn K cd37 "_law_alike" = true)
  (k37 : PySem.W.keepIn K (.ref f37) = true)
  (a38 : PySem.W.nsIn K mainGlobals "_law_plain" = some (some (.ref f38)))
  (l38 : K.lookup f38 = some ⟨oc38, od38, .func (PySem.W.fnOf "_law_plain" "_law_plain" (yj ycp) (yi ycp) (yb ycp) .none kV38 dc38 pm38 an38 cd38 ct38), sl38⟩)
  (c38 : PySem.W.codeIn K cd38 "_law_plain" = true)
  (k38 : PySem.W.keepIn K (.ref f38) = true)
  (a39 : PySem.W.nsIn K mainGlobals "_law_boxes" = some (some (.ref f39)))
  (l39 : K.lookup f39 = some ⟨oc39, od39, .func (PySem.W.fnOf "_law_boxes" "_law_boxes" (yj ycq) (yi ycq) (yb ycq) .none kV39 dc39 pm39 an39 cd39 ct39), sl39⟩)
  (c39 : PySem.W.codeIn K cd39 "_law_boxes" = true)
  (k39 : PySem.W.keepIn K (.ref f39) = true)
  (a40 : PySem.W.nsIn K mainGlobals "_law_slots" = some (some (.ref f40)))
  (l40 : K.lookup f40 = some ⟨oc40, od40, .func (PySem.W.fnOf "_law_slots" "_law_slots" (yj ycr) (yi ycr) (yb ycr) .none kV40 dc40 pm40 an40 cd40 ct40), sl40⟩)
  (c40 : PySem.W.codeIn K cd40 "_law_slots" = true)
  (k40 : PySem.W.keepIn K (.ref f40) = true)
  (a41 : PySem.W.nsIn K mainGlobals "_law_sum" = some (some (.ref f41)))
  (l41 : K.lookup f41 = some ⟨oc41, od41, .func (PySem.W.fnOf "_law_sum" "_law_sum" (yj ydv) (yi ydv) (yb ydv) .none kV41 dc41 pm41 an41 cd41 ct41), sl41⟩)
  (c41 : PySem.W.codeIn K cd41 "_law_sum" = true)
  (k41 : PySem.W.keepIn K (.ref f41) = true)
  (a42 : PySem.W.nsIn K mainGlobals "_law_plainly" = some (some (.ref f42)))
  (l42 : K.lookup f42 = some ⟨oc42, od42, .func (PySem.W.fnOf "_law_plainly" "_law_plainly" (yj ybG) (yi ybG) (yb ybG) .none kV42 dc42 pm42 an42 cd42 ct42), sl42⟩)
  (c42 : PySem.W.codeIn K cd42 "_law_plainly" = true)
  (k42 : PySem.W.keepIn K (.ref f42) = true)
  (a43 : PySem.W.nsIn K mainGlobals "_law_pairs" = some (some (.ref f43)))
  (l43 : K.lookup f43 = some ⟨oc43, od43, .func (PySem.W.fnOf "_law_pairs" "_law_pairs" (yj ycs) (yi ycs) (yb ycs) .none kV43 dc43 pm43 an43 cd43 ct43), sl43⟩)
  (c43 : PySem.W.codeIn K cd43 "_law_pairs" = true)
  (k43 : PySem.W.keepIn K (.ref f43) = true)
  (a44 : PySem.W.nsIn K mainGlobals "_law_made" = some (some (.ref f44)))
  (l44 : K.lookup f44 = some ⟨oc44, od44, .func (PySem.W.fnOf "_law_made" "_law_made" (yj ycN) (yi ycN) (yb ycN) .none kV44 dc44 pm44 an44 cd44 ct44), sl44⟩)
  (c44 : PySem.W.codeIn K cd44 "_law_made" = true)
  (k44 : PySem.W.keepIn K (.ref f44) = true)
  (a45 : PySem.W.nsIn K mainGlobals "_law_deed" = some (some (.ref f45)))
  (l45 : K.lookup f45 = some ⟨oc45, od45, .func (PySem.W.fnOf "_law_deed" "_law_deed" (yj ycO) (yi ycO) (yb ycO) .none kV45 dc45 pm45 an45 cd45 ct45), sl45⟩)
  (c45 : PySem.W.codeIn K cd45 "_law_deed" = true)
  (k45 : PySem.W.keepIn K (.ref f45) = true)
  (a46 : PySem.W.nsIn K mainGlobals "law" = some (some (.ref f46)))
  (l46 : K.lookup f46 = some ⟨oc46, od46, .func (PySem.W.fnOf "law" "law" (yj ykY) (yi ykY) (yb ykY) .none kV46 dc46 pm46 an46 cd46 ct46), sl46⟩)
  (c46 : PySem.W.codeIn K cd46 "law" = true)
  (k46 : PySem.W.keepIn K (.ref f46) = true)
  (pgLog : PySem.W.plainGet K CLog Str.empty = true)
  (hdLog : PySem.W.hasDictIn K CLog = true)
  (poLog : PySem.W.plainOver K CLog = true)
  (saLog : PySem.W.findIn K (.ref CLog) "__setattr__" = some (some (.builtin "object.__setattr__")))
  (mkLog : PySem.W.makesIn K CLog = true)
  (kcLog : PySem.W.keepIn K (.ref CLog) = true)
  (pgDoing : PySem.W.plainGet K CDoing Str.empty = true)
  (hdDoing : PySem.W.hasDictIn K CDoing = true)
  (poDoing : PySem.W.plainOver K CDoing = true)
  (saDoing : PySem.W.findIn K (.ref CDoing) "__setattr__" = some (some (.builtin "object.__setattr__")))
  (mkDoing : PySem.W.makesIn K CDoing = true)
  (kcDoing : PySem.W.keepIn K (.ref CDoing) = true)
  (pgDoer : PySem.W.plainGet K CDoer Str.empty = true)
  (hdDoer : PySem.W.hasDictIn K CDoer = true)
  (poDoer : PySem.W.plainOver K CDoer = true)
  (saDoer : PySem.W.findIn K (.ref CDoer) "__setattr__" = some (some (.builtin "object.__setattr__")))
  (mkDoer : PySem.W.makesIn K CDoer = true)
  (kcDoer : PySem.W.keepIn K (.ref CDoer) = true)
  (pgLet : PySem.W.plainGet K CLet Str.empty = true)
  (hdLet : PySem.W.hasDictIn K CLet = true)
  (poLet : PySem.W.plainOver K CLet = true)
  (saLet : PySem.W.findIn K (.ref CLet) "__setattr__" = some (some (.builtin "object.__setattr__")))
  (mkLet : PySem.W.makesIn K CLet = true)
  (kcLet : PySem.W.keepIn K (.ref CLet) = true)
  (haLet : PySem.W.findIn K (.ref CLet) "__class__" = some (some (.builtin "object.__class__")))
  (hmLet : PySem.W.mroIn K CLet (.type "object") = some true)
  (pgReckon : PySem.W.plainGet K CReckon Str.empty = true)
  (hdReckon : PySem.W.hasDictIn K CReckon = true)
  (poReckon : PySem.W.plainOver K CReckon = true)
  (saReckon : PySem.W.findIn K (.ref CReckon) "__setattr__" = some (some (.builtin "object.__setattr__")))
  (mkReckon : PySem.W.makesIn K CReckon = true)
  (kcReckon : PySem.W.keepIn K (.ref CReckon) = true)
  (haReckon : PySem.W.findIn K (.ref CReckon) "__class__" = some (some (.builtin "object.__class__")))
  (hmReckon : PySem.W.mroIn K CReckon (.type "object") = some true)
  (pgTake : PySem.W.plainGet K CTake Str.empty = true)
  (hdTake : PySem.W.hasDictIn K CTake = true)
  (poTake : PySem.W.plainOver K CTake = true)
  (saTake : PySem.W.findIn K (.ref CTake) "__setattr__" = some (some (.builtin "object.__setattr__")))
  (mkTake : PySem.W.makesIn K CTake = true)
  (kcTake : PySem.W.keepIn K (.ref CTake) = true)
  (haTake : PySem.W.findIn K (.ref CTake) "__class__" = some (some (.builtin "object.__class__")))
  (hmTake : PySem.W.mroIn K CTake (.type "object") = some true)
  (pgPut : PySem.W.plainGet K CPut Str.empty = true)
  (hdPut : PySem.W.hasDictIn K CPut = true)
  (poPut : PySem.W.plainOver K CPut = true)
  (saPut : PySem.W.findIn K (.ref CPut) "__setattr__" = some (some (.builtin "object.__setattr__")))
  (mkPut : PySem.W.makesIn K CPut = true)
  (kcPut : PySem.W.keepIn K (.ref CPut) = true)
  (haPut : PySem.W.findIn K (.ref CPut) "__class__" = some (some (.builtin "object.__class__")))
  (hmPut : PySem.W.mroIn K CPut (.type "object") = some true)
  (pgIf : PySem.W.plainGet K CIf Str.empty = true)
  (hdIf : PySem.W.hasDictIn K CIf = true)
  (poIf : PySem.W.plainOver K CIf = true)
  (saIf : PySem.W.findIn K (.ref CIf) "__setattr__" = some (some (.builtin "object.__setattr__")))
  (haIf : PySem.W.findIn K (.ref CIf) "__class__" = some (some (.builtin "object.__class__")))
  (hmIf : PySem.W.mroIn K CIf (.type "object") = some true)
  (pgEither : PySem.W.plainGet K CEither Str.empty = true)
  (hdEither : PySem.W.hasDictIn K CEither = true)
  (poEither : PySem.W.plainOver K CEither = true)
  (saEither : PySem.W.findIn K (.ref CEither) "__setattr__" = some (some (.builtin "object.__setattr__")))
  (haEither : PySem.W.findIn K (.ref CEither) "__class__" = some (some (.builtin "object.__class__")))
  (hmEither : PySem.W.mroIn K CEither (.type "object") = some true)
  (pgTry : PySem.W.plainGet K CTry Str.empty = true)
  (hdTry : PySem.W.hasDictIn K CTry = true)
  (poTry : PySem.W.plainOver K CTry = true)
  (saTry : PySem.W.findIn K (.ref CTry) "__setattr__" = some (some (.builtin "object.__setattr__")))
  (haTry : PySem.W.findIn K (.ref CTry) "__class__" = some (some (.builtin "object.__class__")))
  (hmTry : PySem.W.mroIn K CTry (.type "object") = some true)
  (pgThrow : PySem.W.plainGet K CThrow Str.empty = true)
  (hdThrow : PySem.W.hasDictIn K CThrow = true)
  (poThrow : PySem.W.plainOver K CThrow = true)
  (saThrow : PySem.W.findIn K (.ref CThrow) "__setattr__" = some (some (.builtin "object.__setattr__")))
  (haThrow : PySem.W.findIn K (.ref CThrow) "__class__" = some (some (.builtin "object.__class__")))
  (hmThrow : PySem.W.mroIn K CThrow (.type "object") = some true)
  (pgWait : PySem.W.plainGet K CWait Str.empty = true)
  (hdWait : PySem.W.hasDictIn K CWait = true)
  (poWait : PySem.W.plainOver K CWait = true)
  (saWait : PySem.W.findIn K (.ref CWait) "__setattr__" = some (some (.builtin "object.__setattr__")))
  (mkWait : PySem.W.makesIn K CWait = true)
  (kcWait : PySem.W.keepIn K (.ref CWait) = true)
  (ioWait : PySem.W.findIn K (.ref CWait) "__init__" = some (some (.builtin "object.__init__")))
  (haWait : PySem.W.findIn K (.ref CWait) "__class__" = some (some (.builtin "object.__class__")))
  (hmWait : PySem.W.mroIn K CWait (.type "object") = some true)
  (naLog_stack : PySem.W.findIn K (.ref CLog) "stack" = some none)
  (naLog_last_seen : PySem.W.findIn K (.ref CLog) "last_seen" = some none)
  (naDoing_held : PySem.W.findIn K (.ref CDoing) "held" = some none)
  (naDoing_width : PySem.W.findIn K (.ref CDoing) "width" = some none)
  (naDoing_log : PySem.W.findIn K (.ref CDoing) "log" = some none)
  (naDoing_found : PySem.W.findIn K (.ref CDoing) "found" = some none)
  (naLet_slot : PySem.W.findIn K (.ref CLet) "slot" = some none)
  (naReckon_slot : PySem.W.findIn K (.ref CReckon) "slot" = some none)
  (naTake_slot : PySem.W.findIn K (.ref CTake) "slot" = some none)
  (naPut_slot : PySem.W.findIn K (.ref CPut) "slot" = some none)
  (naIf_slot : PySem.W.findIn K (.ref CIf) "slot" = some none)
  (naTry_slot : PySem.W.findIn K (.ref CTry) "slot" = some none)
  (naThrow_slot : PySem.W.findIn K (.ref CThrow) "slot" = some none)
  (naLet_number : PySem.W.findIn K (.ref CLet) "number" = some none)
  (naReckon_word : PySem.W.findIn K (.ref CReckon) "word" = some none)
  (naReckon_one : PySem.W.findIn K (.ref CReckon) "one" = some none)
  (naReckon_other : PySem.W.findIn K (.ref CReckon) "other" = some none)
  (naTake_place : PySem.W.findIn K (.ref CTake) "place" = some none)
  (naPut_place : PySem.W.findIn K (.ref CPut) "place" = some none)
  (naIf_parts : PySem.W.findIn K (.ref CIf) "parts" = some none)
  (naEither_parts : PySem.W.findIn K (.ref CEither) "parts" = some none)
  (naTry_parts : PySem.W.findIn K (.ref CTry) "parts" = some none)
  (naIf_others : PySem.W.findIn K (.ref CIf) "others" = some none)
  (naEither_others : PySem.W.findIn K (.ref CEither) "others" = some none)
  (naTry_others : PySem.W.findIn K (.ref CTry) "others" = some none)
  (naTry_name : PySem.W.findIn K (.ref CTry) "name" = some none)
  (naThrow_name : PySem.W.findIn K (.ref CThrow) "name" = some none)
  (sb3_4 : PySem.W.subIn K (.ref CLet) (.ref CReckon) = some false)
  (ne3_4 : (CLet == CReckon) = false)
  (sb3_5 : PySem.W.subIn K (.ref CLet) (.ref CTake) = some false)
  (ne3_5 : (CLet == CTake) = false)
  (sb3_6 : PySem.W.subIn K (.ref CLet) (.ref CPut) = some false)
  (ne3_6 : (CLet == CPut) = false)
  (sb3_7 : PySem.W.subIn K (.ref CLet) (.ref CIf) = some false)
  (ne3_7 : (CLet == CIf) = false)
  (sb3_8 : PySem.W.subIn K (.ref CLet) (.ref CEither) = some false)
  (ne3_8 : (CLet == CEither) = false)
  (sb3_9 : PySem.W.subIn K (.ref CLet) (.ref CTry) = some false)
  (ne3_9 : (CLet == CTry) = false)
  (sb3_10 : PySem.W.subIn K (.ref CLet) (.ref CThrow) = some false)
  (ne3_10 : (CLet == CThrow) = false)
  (sb3_11 : PySem.W.subIn K (.ref CLet) (.ref CWait) = some false)
  (ne3_11 : (CLet == CWait) = false)
  (sb4_3 : PySem.W.subIn K (.ref CReckon) (.ref CLet) = some false)
  (ne4_3 : (CReckon == CLet) = false)
  (sb4_5 : PySem.W.subIn K (.ref CReckon) (.ref CTake) = some false)
  (ne4_5 : (CReckon == CTake) = false)
  (sb4_6 : PySem.W.subIn K (.ref CReckon) (.ref CPut) = some false)
  (ne4_6 : (CReckon == CPut) = false)
  (sb4_7 : PySem.W.subIn K (.ref CReckon) (.ref CIf) = some false)
  (ne4_7 : (CReckon == CIf) = false)
  (sb4_8 : PySem.W.subIn K (.ref CReckon) (.ref CEither) = some false)
  (ne4_8 : (CReckon == CEither) = false)
  (sb4_9 : PySem.W.subIn K (.ref CReckon) (.ref CTry) = some false)
  (ne4_9 : (CReckon == CTry) = false)
  (sb4_10 : PySem.W.subIn K (.ref CReckon) (.ref CThrow) = some false)
  (ne4_10 : (CReckon == CThrow) = false)
  (sb4_11 : PySem.W.subIn K (.ref CReckon) (.ref CWait) = some false)
  (ne4_11 : (CReckon == CWait) = false)
  (sb5_3 : PySem.W.subIn K (.ref CTake) (.ref CLet) = some false)
  (ne5_3 : (CTake == CLet) = false)
  (sb5_4 : PySem.W.subIn K (.ref CTake) (.ref CReckon) = some false)
  (ne5_4 : (CTake == CReckon) = false)
  (sb5_6 : PySem.W.subIn K (.ref CTake) (.ref CPut) = some false)
  (ne5_6 : (CTake == CPut) = false)
  (sb5_7 : PySem.W.subIn K (.ref CTake) (.ref CIf) = some false)
  (ne5_7 : (CTake == CIf) = false)
  (sb5_8 : PySem.W.subIn K (.ref CTake) (.ref CEither) = some false)
  (ne5_8 : (CTake == CEither) = false)
  (sb5_9 : PySem.W.subIn K (.ref CTake) (.ref CTry) = some false)
  (ne5_9 : (CTake == CTry) = false)
  (sb5_10 : PySem.W.subIn K (.ref CTake) (.ref CThrow) = some false)
  (ne5_10 : (CTake == CThrow) = false)
  (sb5_11 : PySem.W.subIn K (.ref CTake) (.ref CWait) = some false)
  (ne5_11 : (CTake == CWait) = false)
  (sb6_3 : PySem.W.subIn K (.ref CPut) (.ref CLet) = some false)
  (ne6_3 : (CPut == CLet) = false)
  (sb6_4 : PySem.W.subIn K (.ref CPut) (.ref CReckon) = some false)
  (ne6_4 : (CPut == CReckon) = false)
  (sb6_5 : PySem.W.subIn K (.ref CPut) (.ref CTake) = some false)
  (ne6_5 : (CPut == CTake) = false)
  (sb6_7 : PySem.W.subIn K (.ref CPut) (.ref CIf) = some false)
  (ne6_7 : (CPut == CIf) = false)
  (sb6_8 : PySem.W.subIn K (.ref CPut) (.ref CEither) = some false)
  (ne6_8 : (CPut == CEither) = false)
  (sb6_9 : PySem.W.subIn K (.ref CPut) (.ref CTry) = some false)
  (ne6_9 : (CPut == CTry) = false)
  (sb6_10 : PySem.W.subIn K (.ref CPut) (.ref CThrow) = some false)
  (ne6_10 : (CPut == CThrow) = false)
  (sb6_11 : PySem.W.subIn K (.ref CPut) (.ref CWait) = some false)
  (ne6_11 : (CPut == CWait) = false)
  (ty3 : PySem.W.typeIn K (.ref CLet) = some (.type "type"))
  (ty4 : PySem.W.typeIn K (.ref CReckon) = some (.type "type"))
  (ty5 : PySem.W.typeIn K (.ref CTake) = some (.type "type"))
  (ty6 : PySem.W.typeIn K (.ref CPut) = some (.type "type"))
  (ty7 : PySem.W.typeIn K (.ref CIf) = some (.type "type"))
  (ty8 : PySem.W.typeIn K (.ref CEither) = some (.type "type"))
  (ty9 : PySem.W.typeIn K (.ref CTry) = some (.type "type"))
  (ty10 : PySem.W.typeIn K (.ref CThrow) = some (.type "type"))
  (ty11 : PySem.W.typeIn K (.ref CWait) = some (.type "type"))
  (hn : PySem.W.specialIn K (.builtin "object.__class__") "__get__" = some (some (.builtin "getset_descriptor.__get__")))
  (htk : PySem.W.takesIn K (.builtin "object.__class__") = some true)
  (z1 : PySem.W.nsIn K mainGlobals "bool" = some none)
  (z2 : PySem.W.nsIn K mainGlobals "int" = some none)
  (z3 : PySem.W.nsIn K mainGlobals "isinstance" = some none)
  (z4 : PySem.W.nsIn K mainGlobals "len" = some none)
  (z5 : PySem.W.nsIn K mainGlobals "list" = some none)
  (z6 : PySem.W.nsIn K mainGlobals "max" = some none)
  (z7 : PySem.W.nsIn K mainGlobals "range" = some none)
  (z8 : PySem.W.nsIn K mainGlobals "reversed" = some none)
  (z9 : PySem.W.nsIn K mainGlobals "sorted" = some none)
  (z10 : PySem.W.nsIn K mainGlobals "str" = some none)
  (z11 : PySem.W.nsIn K mainGlobals "sum" = some none)
  (z12 : PySem.W.nsIn K mainGlobals "tuple" = some none)
  (q1 : PySem.W.nsIn K mainGlobals "DONE" = some (some (.ref u1)))
  (qk1 : K.lookup u1 = some ⟨.type "tuple", qd1, .seq #[.str "done" qt1_0] qn1, qs1⟩)
  (q2 : PySem.W.nsIn K mainGlobals "SLOTS" = some (some (.str "abcdefgh" u2)))
  (q3 : PySem.W.nsIn K mainGlobals "WAITS" = some (some (.ref u3)))
  (qk3 : K.lookup u3 = some ⟨.type "tuple", qd3, .seq #[.str "waits" qt3_0] qn3, qs3⟩)
  (q4 : PySem.W.nsIn K mainGlobals "WIDE" = some (some (.int 18446744073709551616 u4))) :
  ∃ fd : FuncData, (∀ (s : Shared) (v : Value), BindsTo s fd ⟨[v], []⟩ [("_law_script", v)]) /\ ∀ base : Heap, K.In base -> base.Ns mainGlobals mg -> FnOk l.prog w K mg base CX0 31 fa fd ["_law_script"] (yyy K) := by
 have e := hfa.symm.trans (PySem.W.mg_of X G a46)
 cases e
 have F1 := yO (st := ybA) l1 c1 k1
 have b1 := F1.binds (ps := ["self"]) fun _ _ _ _ _ _ us hl => match us, hl with | [_], _ => rfl
 have F2 := yO (st := ycI) l2 c2 k2
 have b2 := F2.binds (ps := ["self", "box", "number"]) fun _ _ _ _ _ _ us hl => match us, hl with | [_, _, _], _ => rfl
 have F3 := yO (st := yer) l3 c3 k3
 have b3 := F3.binds (ps := ["self", "box"]) fun _ _ _ _ _ _ us hl => match us, hl with | [_, _], _ => rfl
 have F4 := yO (st := ycJ) l4 c4 k4
 have b4 := F4.binds (ps := ["self"]) fun _ _ _ _ _ _ us hl => match us, hl with | [_], _ => rfl
 have F5 := yO (st := ycl) l5 c5 k5
 have b5 := F5.binds (ps := ["self"]) fun _ _ _ _ _ _ us hl => match us, hl with | [_], _ => rfl
 have F6 := yO (st := ydu) l6 c6 k6
 have b6 := F6.binds (ps := ["self"]) fun _ _ _ _ _ _ us hl => match us, hl with | [_], _ => rfl
 have F7 := yO (st := yes) l7 c7 k7
 have b7 := F7.binds (ps := ["self", "box", "number"]) fun _ _ _ _ _ _ us hl => match us, hl with | [_, _, _], _ => rfl
 have F8 := yO (st := yet) l8 c8 k8
 have b8 := F8.binds (ps := ["self"]) fun _ _ _ _ _ _ us hl => match us, hl with | [_], _ => rfl
 have F9 := yO (st := ycK) l9 c9 k9
 have b9 := F9.binds (ps := ["self"]) fun _ _ _ _ _ _ us hl => match us, hl with | [_], _ => rfl
 have F10 := yO (st := yfC) l10 c10 k10
 have b10 := F10.binds (ps := ["word", "one", "other"]) fun _ _ _ _ _ _ us hl => match us, hl with | [_, _, _], _ => rfl
 have F11 := yO (st := ycm) l11 c11 k11
 have b11 := F11.binds (ps := ["slot"]) fun _ _ _ _ _ _ us hl => match us, hl with | [_], _ => rfl
 have F12 := yO (st := ybm) l12 c12 k12
 have b12 := F12.binds (ps := ["self", "slots", "width"]) fun _ _ _ _ _ _ us hl => match us, hl with | [_, _, _], _ => rfl
 have F13 := yO (st := ybB) l13 c13 k13
 have b13 := F13.binds (ps := ["self", "slot"]) fun _ _ _ _ _ _ us hl => match us, hl with | [_, _], _ => rfl
 have F14 := yO (st := ycL) l14 c14 k14
 have b14 := F14.binds (ps := ["self", "slot", "number"]) fun _ _ _ _ _ _ us hl => match us, hl with | [_, _, _], _ => rfl
 have F15 := yO (st := ybR) l15 c15 k15
 have b15 := F15.binds (ps := ["self", "place"]) fun _ _ _ _ _ _ us hl => match us, hl with | [_, _], _ => rfl
 have F16 := yO (st := yZ) l16 c16 k16
 have b16 := F16.binds (ps := ["self", "word", "slot", "one", "other"]) fun _ _ _ _ _ _ us hl => match us, hl with | [_, _, _, _, _], _ => rfl
 have F17 := yO (st := ybS) l17 c17 k17
 have b17 := F17.binds (ps := ["self", "place", "slot"]) fun _ _ _ _ _ _ us hl => match us, hl with | [_, _, _], _ => rfl
 have F18 := yO (st := ybC) l18 c18 k18
 have b18 := F18.binds (ps := ["self", "place"]) fun _ _ _ _ _ _ us hl => match us, hl with | [_, _], _ => rfl
 have F19 := yO (st := ybn) l19 c19 k19
 have b19 := F19.binds (ps := ["self", "slot", "place"]) fun _ _ _ _ _ _ us hl => match us, hl with | [_, _, _], _ => rfl
 have F20 := yO (st := yba) l20 c20 k20
 have b20 := F20.binds (ps := ["self", "slot", "place", "numbers"]) fun _ _ _ _ _ _ us hl => match us, hl with | [_, _, _, _], _ => rfl
 have F21 := yO (st := ybD) l21 c21 k21
 have b21 := F21.binds (ps := ["self", "slot", "number"]) fun _ _ _ _ _ _ us hl => match us, hl with | [_, _, _], _ => rfl
 have F22 := yO (st := yQ) l22 c22 k22
 have b22 := F22.binds (ps := ["self", "word", "slot", "one", "other"]) fun _ _ _ _ _ _ us hl => match us, hl with | [_, _, _, _, _], _ => rfl
 have F23 := yO (st := ybo) l23 c23 k23
 have b23 := F23.binds (ps := ["self", "slot", "place"]) fun _ _ _ _ _ _ us hl => match us, hl with | [_, _, _], _ => rfl
 have F24 := yO (st := ybE) l24 c24 k24
 have b24 := F24.binds (ps := ["self", "place", "slot"]) fun _ _ _ _ _ _ us hl => match us, hl with | [_, _, _], _ => rfl
 have F25 := yO (st := ybb) l25 c25 k25
 have b25 := F25.binds (ps := ["self", "boxes", "slots"]) fun _ _ _ _ _ _ us hl => match us, hl with | [_, _, _], _ => rfl
 have F26 := yO (st := yR) l26 c26 k26
 have b26 := F26.binds (ps := ["self", "part"]) fun _ _ _ _ _ _ us hl => match us, hl with | [_, _], _ => rfl
 have F27 := yO (st := yH) l27 c27 k27
 have b27 := F27.binds (ps := ["self", "part"]) fun _ _ _ _ _ _ us hl => match us, hl with | [_, _], _ => rfl
 have F28 := yO (st := ybc) l28 c28 k28
 have b28 := F28.binds (ps := ["self", "parts"]) fun _ _ _ _ _ _ us hl => match us, hl with | [_, _], _ => rfl
 have F29 := yO (st := ybd) l29 c29 k29
 have b29 := F29.binds (ps := ["self", "part"]) fun _ _ _ _ _ _ us hl => match us, hl with | [_, _], _ => rfl
 have F30 := yO (st := ybF) l30 c30 k30
 have b30 := F30.binds (ps := ["self", "part"]) fun _ _ _ _ _ _ us hl => match us, hl with | [_, _], _ => rfl
 have F31 := yO (st := yI) l31 c31 k31
 have b31 := F31.binds (ps := ["self", "part"]) fun _ _ _ _ _ _ us hl => match us, hl with | [_, _], _ => rfl
 have F32 := yO (st := ybp) l32 c32 k32
 have b32 := F32.binds (ps := ["self", "part"]) fun _ _ _ _ _ _ us hl => match us, hl with | [_, _], _ => rfl
 have F33 := yO (st := yz) l33 c33 k33
 have b33 := F33.binds (ps := ["self", "parts"]) fun _ _ _ _ _ _ us hl => match us, hl with | [_, _], _ => rfl
 have F34 := yO (st := yhe) l34 c34 k34
 have b34 := F34.binds (ps := ["deed", "boxes", "slots"]) fun _ _ _ _ _ _ us hl => match us, hl with | [_, _, _], _ => rfl
 have F35 := yO (st := ycn) l35 c35 k35
 have b35 := F35.binds (ps := ["_law_cell"]) fun _ _ _ _ _ _ us hl => match us, hl with | [_], _ => rfl
 have F36 := yO (st := ycM) l36 c36 k36
 have b36 := F36.binds (ps := ["_law_cell"]) fun _ _ _ _ _ _ us hl => match us, hl with | [_], _ => rfl
 have F37 := yO (st := yco) l37 c37 k37
 have b37 := F37.binds (ps := ["_law_found", "_law_due"]) fun _ _ _ _ _ _ us hl => match us, hl with | [_, _], _ => rfl
 have F38 := yO (st := ycp) l38 c38 k38
 have b38 := F38.binds (ps := ["_law_mixed_here", "_law_cell"]) fun _ _ _ _ _ _ us hl => match us, hl with | [_, _], _ => rfl
 have F39 := yO (st := ycq) l39 c39 k39
 have b39 := F39.binds (ps := ["_law_cell"]) fun _ _ _ _ _ _ us hl => match us, hl with | [_], _ => rfl
 have F40 := yO (st := ycr) l40 c40 k40
 have b40 := F40.binds (ps := ["_law_cell"]) fun _ _ _ _ _ _ us hl => match us, hl with | [_], _ => rfl
 have F41 := yO (st := ydv) l41 c41 k41
 have b41 := F41.binds (ps := ["_law_word", "_law_one", "_law_other"]) fun _ _ _ _ _ _ us hl => match us, hl with | [_, _, _], _ => rfl
 have F42 := yO (st := ybG) l42 c42 k42
 have b42 := F42.binds (ps := ["_law_part", "_law_boxes_here", "_law_saw", "_law_slots_here", "_law_written"]) fun _ _ _ _ _ _ us hl => match us, hl with | [_, _, _, _, _], _ => rfl
 have F43 := yO (st := ycs) l43 c43 k43
 have b43 := F43.binds (ps := ["_law_found"]) fun _ _ _ _ _ _ us hl => match us, hl with | [_], _ => rfl
 have F44 := yO (st := ycN) l44 c44 k44
 have b44 := F44.binds (ps := ["_law_tree"]) fun _ _ _ _ _ _ us hl => match us, hl with | [_], _ => rfl
 have F45 := yO (st := ycO) l45 c45 k45
 have b45 := F45.binds (ps := ["_law_cells", "_law_cell"]) fun _ _ _ _ _ _ us hl => match us, hl with | [_, _], _ => rfl
 have F46 := yO (st := ykY) l46 c46 k46
 have b46 := F46.binds (ps := ["_law_script"]) fun _ _ _ _ _ _ us hl => match us, hl with | [_], _ => rfl
 let AA : Nat -> Addr := fun k => match k with | 0 => CLog | 1 => CDoing | 2 => CDoer | 3 => CLet | 4 => CReckon | 5 => CTake | 6 => CPut | 7 => CIf | 8 => CEither | 9 => CTry | 10 => CThrow | 11 => CWait | _ => CLog
 have CL : ∀ k, Cls K (AA k) := fun k => match k with | 0 => ⟨pgLog, hdLog, poLog, saLog⟩ | 1 => ⟨pgDoing, hdDoing, poDoing, saDoing⟩ | 2 => ⟨pgDoer, hdDoer, poDoer, saDoer⟩ | 3 => ⟨pgLet, hdLet, poLet, saLet⟩ | 4 => ⟨pgReckon, hdReckon, poReckon, saReckon⟩ | 5 => ⟨pgTake, hdTake, poTake, saTake⟩ | 6 => ⟨pgPut, hdPut, poPut, saPut⟩ | 7 => ⟨pgIf, hdIf, poIf, saIf⟩ | 8 => ⟨pgEither, hdEither, poEither, saEither⟩ | 9 => ⟨pgTry, hdTry, poTry, saTry⟩ | 10 => ⟨pgThrow, hdThrow, poThrow, saThrow⟩ | 11 => ⟨pgWait, hdWait, poWait, saWait⟩ | _ + 12 => ⟨pgLog, hdLog, poLog, saLog⟩
 have TY3 : ∀ (H : Hp) (a dx : Addr) (fs : List (Str × V)), H a = some (.ins CLet dx fs) -> ylC K H (.ref a) (.ref CLet) := fun H a dx fs e => .ins e (CL 3) haLet hn htk hmLet
 have TY4 : ∀ (H : Hp) (a dx : Addr) (fs : List (Str × V)), H a = some (.ins CReckon dx fs) -> ylC K H (.ref a) (.ref CReckon) := fun H a dx fs e => .ins e (CL 4) haReckon hn htk hmReckon
 have TY5 : ∀ (H : Hp) (a dx : Addr) (fs : List (Str × V)), H a = some (.ins CTake dx fs) -> ylC K H (.ref a) (.ref CTake) := fun H a dx fs e => .ins e (CL 5) haTake hn htk hmTake
 have TY6 : ∀ (H : Hp) (a dx : Addr) (fs : List (Str × V)), H a = some (.ins CPut dx fs) -> ylC K H (.ref a) (.ref CPut) := fun H a dx fs e => .ins e (CL 6) haPut hn htk hmPut
 have TY7 : ∀ (H : Hp) (a dx : Addr) (fs : List (Str × V)), H a = some (.ins CIf dx fs) -> ylC K H (.ref a) (.ref CIf) := fun H a dx fs e => .ins e (CL 7) haIf hn htk hmIf
 have TY8 : ∀ (H : Hp) (a dx : Addr) (fs : List (Str × V)), H a = some (.ins CEither dx fs) -> ylC K H (.ref a) (.ref CEither) := fun H a dx fs e => .ins e (CL 8) haEither hn htk hmEither
 have TY9 : ∀ (H : Hp) (a dx : Addr) (fs : List (Str × V)), H a = some (.ins CTry dx fs) -> ylC K H (.ref a) (.ref CTry) := fun H a dx fs e => .ins e (CL 9) haTry hn htk hmTry
 have TY10 : ∀ (H : Hp) (a dx : Addr) (fs : List (Str × V)), H a = some (.ins CThrow dx fs) -> ylC K H (.ref a) (.ref CThrow) := fun H a dx fs e => .ins e (CL 10) haThrow hn htk hmThrow
 have TY11 : ∀ (H : Hp) (a dx : Addr) (fs : List (Str × V)), H a = some (.ins CWait dx fs) -> ylC K H (.ref a) (.ref CWait) := fun H a dx fs e => .ins e (CL 11) haWait hn htk hmWait
 have T : Txt K mg ⟨AA, f1, PySem.W.fnOf "__init__" "Log.__init__" (yj ybA) (yi ybA) (yb ybA) .none kV1 dc1 pm1 an1 cd1 ct1, f2, PySem.W.fnOf "write" "Log.write" (yj ycI) (yi ycI) (yb ycI) .none kV2 dc2 pm2 an2 cd2 ct2, f3, PySem.W.fnOf "own" "Log.own" (yj yer) (yi yer) (yb yer) .none kV3 dc3 pm3 an3 cd3 ct3, f4, PySem.W.fnOf "begin" "Log.begin" (yj ycJ) (yi ycJ) (yb ycJ) .none kV4 dc4 pm4 an4 cd4 ct4, f5, PySem.W.fnOf "settle" "Log.settle" (yj ycl) (yi ycl) (yb ycl) .none kV5 dc5 pm5 an5 cd5 ct5, f6, PySem.W.fnOf "drop" "Log.drop" (yj ydu) (yi ydu) (yb ydu) .none kV6 dc6 pm6 an6 cd6 ct6, f7, PySem.W.fnOf "see" "Log.see" (yj yes) (yi yes) (yb yes) .none kV7 dc7 pm7 an7 cd7 ct7, f8, PySem.W.fnOf "saw" "Log.saw" (yj yet) (yi yet) (yb yet) .none kV8 dc8 pm8 an8 cd8 ct8, f9, PySem.W.fnOf "wrote" "Log.wrote" (yj ycK) (yi ycK) (yb ycK) .none kV9 dc9 pm9 an9 cd9 ct9, f10, PySem.W.fnOf "reckon" "reckon" (yj yfC) (yi yfC) (yb yfC) .none kV10 dc10 pm10 an10 cd10 ct10, f11, PySem.W.fnOf "slot_index" "slot_index" (yj ycm) (yi ycm) (yb ycm) .none kV11 dc11 pm11 an11 cd11 ct11, f12, PySem.W.fnOf "__init__" "Doer.__init__" (yj ybm) (yi ybm) (yb ybm) .none kV12 dc12 pm12 an12 cd12 ct12, f13, PySem.W.fnOf "held_in" "Doer.held_in" (yj ybB) (yi ybB) (yb ybB) .none kV13 dc13 pm13 an13 cd13 ct13, f14, PySem.W.fnOf "hold" "Doer.hold" (yj ycL) (yi ycL) (yb ycL) .none kV14 dc14 pm14 an14 cd14 ct14, f15, PySem.W.fnOf "box_at" "Doer.box_at" (yj ybR) (yi ybR) (yb ybR) .none kV15 dc15 pm15 an15 cd15 ct15, f16, PySem.W.fnOf "do_reckon" "Doer.do_reckon" (yj yZ) (yi yZ) (yb yZ) .none kV16 dc16 pm16 an16 cd16 ct16, f17, PySem.W.fnOf "do_put" "Doer.do_put" (yj ybS) (yi ybS) (yb ybS) .none kV17 dc17 pm17 an17 cd17 ct17, f18, PySem.W.fnOf "sees_at" "Doer.sees_at" (yj ybC) (yi ybC) (yb ybC) .none kV18 dc18 pm18 an18 cd18 ct18, f19, PySem.W.fnOf "take_own" "Doer.take_own" (yj ybn) (yi ybn) (yb ybn) .none kV19 dc19 pm19 an19 cd19 ct19, f20, PySem.W.fnOf "take_seen" "Doer.take_seen" (yj yba) (yi yba) (yb yba) .none kV20 dc20 pm20 an20 cd20 ct20, f21, PySem.W.fnOf "__init__" "Let.__init__" (yj ybD) (yi ybD) (yb ybD) .none kV21 dc21 pm21 an21 cd21 ct21, f22, PySem.W.fnOf "__init__" "Reckon.__init__" (yj yQ) (yi yQ) (yb yQ) .none kV22 dc22 pm22 an22 cd22 ct22, f23, PySem.W.fnOf "__init__" "Take.__init__" (yj ybo) (yi ybo) (yb ybo) .none kV23 dc23 pm23 an23 cd23 ct23, f24, PySem.W.fnOf "__init__" "Put.__init__" (yj ybE) (yi ybE) (yb ybE) .none kV24 dc24 pm24 an24 cd24 ct24, f25, PySem.W.fnOf "__init__" "Doing.__init__" (yj ybb) (yi ybb) (yb ybb) .none kV25 dc25 pm25 an25 cd25 ct25, f26, PySem.W.fnOf "take_done" "Doing.take_done" (yj yR) (yi yR) (yb yR) .none kV26 dc26 pm26 an26 cd26 ct26, f27, PySem.W.fnOf "plain_done" "Doing.plain_done" (yj yH) (yi yH) (yb yH) .none kV27 dc27 pm27 an27 cd27 ct27, f28, PySem.W.fnOf "list_end" "Doing.list_end" (yj ybc) (yi ybc) (yb ybc) .none kV28 dc28 pm28 an28 cd28 ct28, f29, PySem.W.fnOf "part_end" "Doing.part_end" (yj ybd) (yi ybd) (yb ybd) .none kV29 dc29 pm29 an29 cd29 ct29, f30, PySem.W.fnOf "if_end" "Doing.if_end" (yj ybF) (yi ybF) (yb ybF) .none kV30 dc30 pm30 an30 cd30 ct30, f31, PySem.W.fnOf "either_end" "Doing.either_end" (yj yI) (yi yI) (yb yI) .none kV31 dc31 pm31 an31 cd31 ct31, f32, PySem.W.fnOf "try_end" "Doing.try_end" (yj ybp) (yi ybp) (yb ybp) .none kV32 dc32 pm32 an32 cd32 ct32, f33, PySem.W.fnOf "layered_end" "Doing.layered_end" (yj yz) (yi yz) (yb yz) .none kV33 dc33 pm33 an33 cd33 ct33, f34, PySem.W.fnOf "alone" "alone" (yj yhe) (yi yhe) (yb yhe) .none kV34 dc34 pm34 an34 cd34 ct34, f35, PySem.W.fnOf "_law_mixed" "_law_mixed" (yj ycn) (yi ycn) (yb ycn) .none kV35 dc35 pm35 an35 cd35 ct35, f36, PySem.W.fnOf "_law_wide" "_law_wide" (yj ycM) (yi ycM) (yb ycM) .none kV36 dc36 pm36 an36 cd36 ct36, f37, PySem.W.fnOf "_law_alike" "_law_alike" (yj yco) (yi yco) (yb yco) .none kV37 dc37 pm37 an37 cd37 ct37, f38, PySem.W.fnOf "_law_plain" "_law_plain" (yj ycp) (yi ycp) (yb ycp) .none kV38 dc38 pm38 an38 cd38 ct38, f39, PySem.W.fnOf "_law_boxes" "_law_boxes" (yj ycq) (yi ycq) (yb ycq) .none kV39 dc39 pm39 an39 cd39 ct39, f40, PySem.W.fnOf "_law_slots" "_law_slots" (yj ycr) (yi ycr) (yb ycr) .none kV40 dc40 pm40 an40 cd40 ct40, f41, PySem.W.fnOf "_law_sum" "_law_sum" (yj ydv) (yi ydv) (yb ydv) .none kV41 dc41 pm41 an41 cd41 ct41, f42, PySem.W.fnOf "_law_plainly" "_law_plainly" (yj ybG) (yi ybG) (yb ybG) .none kV42 dc42 pm42 an42 cd42 ct42, f43, PySem.W.fnOf "_law_pairs" "_law_pairs" (yj ycs) (yi ycs) (yb ycs) .none kV43 dc43 pm43 an43 cd43 ct43, f44, PySem.W.fnOf "_law_made" "_law_made" (yj ycN) (yi ycN) (yb ycN) .none kV44 dc44 pm44 an44 cd44 ct44, f45, PySem.W.fnOf "_law_deed" "_law_deed" (yj ycO) (yi ycO) (yb ycO) .none kV45 dc45 pm45 an45 cd45 ct45, fa, PySem.W.fnOf "law" "law" (yj ykY) (yi ykY) (yb ykY) .none kV46 dc46 pm46 an46 cd46 ct46, u1, u2, u3, u4⟩ := ⟨F1, b1, F2, b2, F3, b3, F4, b4, F5, b5, F6, b6, F7, b7, F8, b8, F9, b9, F10, b10, PySem.W.mg_of X G a10, F11, b11, PySem.W.mg_of X G a11, F12, b12, F13, b13, F14, b14, F15, b15, F16, b16, F17, b17, F18, b18, F19, b19, F20, b20, F21, b21, F22, b22, F23, b23, F24, b24, F25, b25, F26, b26, F27, b27, F28, b28, F29, b29, F30, b30, F31, b31, F32, b32, F33, b33, F34, b34, PySem.W.mg_of X G a34, F35, b35, PySem.W.mg_of X G a35, F36, b36, PySem.W.mg_of X G a36, F37, b37, PySem.W.mg_of X G a37, F38, b38, PySem.W.mg_of X G a38, F39, b39, PySem.W.mg_of X G a39, F40, b40, PySem.W.mg_of X G a40, F41, b41, PySem.W.mg_of X G a41, F42, b42, PySem.W.mg_of X G a42, F43, b43, PySem.W.mg_of X G a43, F44, b44, PySem.W.mg_of X G a44, F45, b45, PySem.W.mg_of X G a45, F46, b46, PySem.W.mg_of X G a46, PySem.W.mg_of X G nCLog, ⟨mkLog, ygb, i1, kcLog⟩, PySem.W.mg_of X G nCDoing, ⟨mkDoing, yeO, i25, kcDoing⟩, PySem.W.mg_of X G nCDoer, ⟨mkDoer, yft, i12, kcDoer⟩, PySem.W.mg_of X G nCLet, ⟨mkLet, ygc, i21, kcLet⟩, PySem.W.mg_of X G nCReckon, ⟨mkReckon, yeC, i22, kcReckon⟩, PySem.W.mg_of X G nCTake, ⟨mkTake, yfu, i23, kcTake⟩, PySem.W.mg_of X G nCPut, ⟨mkPut, ygd, i24, kcPut⟩, PySem.W.mg_of X G nCIf, PySem.W.mg_of X G nCEither, PySem.W.mg_of X G nCTry, PySem.W.mg_of X G nCThrow, PySem.W.mg_of X G nCWait, mkWait, ioWait, kcWait, ⟨yik, i2, k2⟩, ⟨ykC, i3, k3⟩, ⟨yil, i4, k4⟩, ⟨yhz, i5, k5⟩, ⟨yjd, i6, k6⟩, ⟨ykD, i7, k7⟩, ⟨ykE, i8, k8⟩, ⟨yim, i9, k9⟩, ⟨fs_Doing_held_in, i13, k13⟩, ⟨fs_Doing_hold, i14, k14⟩, ⟨fs_Doing_box_at, i15, k15⟩, ⟨fs_Doing_do_reckon, i16, k16⟩, ⟨fs_Doing_do_put, i17, k17⟩, ⟨fs_Doing_sees_at, i18, k18⟩, ⟨fs_Doing_take_own, i19, k19⟩, ⟨fs_Doing_take_seen, i20, k20⟩, ⟨yeD, i26, k26⟩, ⟨yea, i27, k27⟩, ⟨yeP, i28, k28⟩, ⟨yeQ, i29, k29⟩, ⟨yge, i30, k30⟩, ⟨yeb, i31, k31⟩, ⟨yfv, i32, k32⟩, ⟨ydF, i33, k33⟩, ⟨cr_Doer, cc_Doer, cs_Doer, k12⟩, CL, ⟨all_cons ⟨CL 0, naLog_stack⟩ (fun k hk => absurd hk (by simp)), all_cons ⟨CL 0, naLog_last_seen⟩ (fun k hk => absurd hk (by simp)), all_cons ⟨CL 1, naDoing_held⟩ (fun k hk => absurd hk (by simp)), all_cons ⟨CL 1, naDoing_width⟩ (fun k hk => absurd hk (by simp)), all_cons ⟨CL 1, naDoing_log⟩ (fun k hk => absurd hk (by simp)), all_cons ⟨CL 1, naDoing_found⟩ (fun k hk => absurd hk (by simp)), all_cons ⟨CL 3, naLet_slot⟩ (all_cons ⟨CL 4, naReckon_slot⟩ (all_cons ⟨CL 5, naTake_slot⟩ (all_cons ⟨CL 6, naPut_slot⟩ (all_cons ⟨CL 7, naIf_slot⟩ (all_cons ⟨CL 9, naTry_slot⟩ (all_cons ⟨CL 10, naThrow_slot⟩ (fun k hk => absurd hk (by simp)))))))), all_cons ⟨CL 3, naLet_number⟩ (fun k hk => absurd hk (by simp)), all_cons ⟨CL 4, naReckon_word⟩ (fun k hk => absurd hk (by simp)), all_cons ⟨CL 4, naReckon_one⟩ (fun k hk => absurd hk (by simp)), all_cons ⟨CL 4, naReckon_other⟩ (fun k hk => absurd hk (by simp)), all_cons ⟨CL 5, naTake_place⟩ (all_cons ⟨CL 6, naPut_place⟩ (fun k hk => absurd hk (by simp))), all_cons ⟨CL 7, naIf_parts⟩ (all_cons ⟨CL 8, naEither_parts⟩ (all_cons ⟨CL 9, naTry_parts⟩ (fun k hk => absurd hk (by simp)))), all_cons ⟨CL 7, naIf_others⟩ (all_cons ⟨CL 8, naEither_others⟩ (all_cons ⟨CL 9, naTry_others⟩ (fun k hk => absurd hk (by simp)))), all_cons ⟨CL 9, naTry_name⟩ (all_cons ⟨CL 10, naThrow_name⟩ (fun k hk => absurd hk (by simp))), all_cons (fun H p dx fs e => ⟨_, _, TY3 H p dx fs e, rfl, ylq⟩) (all_cons (fun H p dx fs e => ⟨_, _, TY3 H p dx fs e, rfl, yy ne3_4 hmReckon ty4 sb3_4⟩) (all_cons (fun H p dx fs e => ⟨_, _, TY3 H p dx fs e, rfl, yy ne3_5 hmTake ty5 sb3_5⟩) (all_cons (fun H p dx fs e => ⟨_, _, TY3 H p dx fs e, rfl, yy ne3_6 hmPut ty6 sb3_6⟩) (all_cons (fun H p dx fs e => ⟨_, _, TY3 H p dx fs e, rfl, yy ne3_7 hmIf ty7 sb3_7⟩) (all_cons (fun H p dx fs e => ⟨_, _, TY3 H p dx fs e, rfl, yy ne3_8 hmEither ty8 sb3_8⟩) (all_cons (fun H p dx fs e => ⟨_, _, TY3 H p dx fs e, rfl, yy ne3_9 hmTry ty9 sb3_9⟩) (all_cons (fun H p dx fs e => ⟨_, _, TY3 H p dx fs e, rfl, yy ne3_10 hmThrow ty10 sb3_10⟩) (all_cons (fun H p dx fs e => ⟨_, _, TY3 H p dx fs e, rfl, yy ne3_11 hmWait ty11 sb3_11⟩) (all_cons (fun H p dx fs e => ⟨_, _, TY4 H p dx fs e, rfl, yy ne4_3 hmLet ty3 sb4_3⟩) (all_cons (fun H p dx fs e => ⟨_, _, TY4 H p dx fs e, rfl, ylq⟩) (all_cons (fun H p dx fs e => ⟨_, _, TY4 H p dx fs e, rfl, yy ne4_5 hmTake ty5 sb4_5⟩) (all_cons (fun H p dx fs e => ⟨_, _, TY4 H p dx fs e, rfl, yy ne4_6 hmPut ty6 sb4_6⟩) (all_cons (fun H p dx fs e => ⟨_, _, TY4 H p dx fs e, rfl, yy ne4_7 hmIf ty7 sb4_7⟩) (all_cons (fun H p dx fs e => ⟨_, _, TY4 H p dx fs e, rfl, yy ne4_8 hmEither ty8 sb4_8⟩) (all_cons (fun H p dx fs e => ⟨_, _, TY4 H p dx fs e, rfl, yy ne4_9 hmTry ty9 sb4_9⟩) (all_cons (fun H p dx fs e => ⟨_, _, TY4 H p dx fs e, rfl, yy ne4_10 hmThrow ty10 sb4_10⟩) (all_cons (fun H p dx fs e => ⟨_, _, TY4 H p dx fs e, rfl, yy ne4_11 hmWait ty11 sb4_11⟩) (all_cons (fun H p dx fs e => ⟨_, _, TY5 H p dx fs e, rfl, yy ne5_3 hmLet ty3 sb5_3⟩) (all_cons (fun H p dx fs e => ⟨_, _, TY5 H p dx fs e, rfl, yy ne5_4 hmReckon ty4 sb5_4⟩) (all_cons (fun H p dx fs e => ⟨_, _, TY5 H p dx fs e, rfl, ylq⟩) (all_cons (fun H p dx fs e => ⟨_, _, TY5 H p dx fs e, rfl, yy ne5_6 hmPut ty6 sb5_6⟩) (all_cons (fun H p dx fs e => ⟨_, _, TY5 H p dx fs e, rfl, yy ne5_7 hmIf ty7 sb5_7⟩) (all_cons (fun H p dx fs e => ⟨_, _, TY5 H p dx fs e, rfl, yy ne5_8 hmEither ty8 sb5_8⟩) (all_cons (fun H p dx fs e => ⟨_, _, TY5 H p dx fs e, rfl, yy ne5_9 hmTry ty9 sb5_9⟩) (all_cons (fun H p dx fs e => ⟨_, _, TY5 H p dx fs e, rfl, yy ne5_10 hmThrow ty10 sb5_10⟩) (all_cons (fun H p dx fs e => ⟨_, _, TY5 H p dx fs e, rfl, yy ne5_11 hmWait ty11 sb5_11⟩) (all_cons (fun H p dx fs e => ⟨_, _, TY6 H p dx fs e, rfl, yy ne6_3 hmLet ty3 sb6_3⟩) (all_cons (fun H p dx fs e => ⟨_, _, TY6 H p dx fs e, rfl, yy ne6_4 hmReckon ty4 sb6_4⟩) (all_cons (fun H p dx fs e => ⟨_, _, TY6 H p dx fs e, rfl, yy ne6_5 hmTake ty5 sb6_5⟩) (all_cons (fun H p dx fs e => ⟨_, _, TY6 H p dx fs e, rfl, ylq⟩) (all_cons (fun H p dx fs e => ⟨_, _, TY6 H p dx fs e, rfl, yy ne6_7 hmIf ty7 sb6_7⟩) (all_cons (fun H p dx fs e => ⟨_, _, TY6 H p dx fs e, rfl, yy ne6_8 hmEither ty8 sb6_8⟩) (all_cons (fun H p dx fs e => ⟨_, _, TY6 H p dx fs e, rfl, yy ne6_9 hmTry ty9 sb6_9⟩) (all_cons (fun H p dx fs e => ⟨_, _, TY6 H p dx fs e, rfl, yy ne6_10 hmThrow ty10 sb6_10⟩) (all_cons (fun H p dx fs e => ⟨_, _, TY6 H p dx fs e, rfl, yy ne6_11 hmWait ty11 sb6_11⟩) (fun k hk => absurd hk (by simp [yP])))))))))))))))))))))))))))))))))))))⟩, PySem.W.mg_none_of X G z1, PySem.W.mg_none_of X G z2, PySem.W.mg_none_of X G z3, PySem.W.mg_none_of X G z4, PySem.W.mg_none_of X G z5, PySem.W.mg_none_of X G z6, PySem.W.mg_none_of X G z7, PySem.W.mg_none_of X G z8, PySem.W.mg_none_of X G z9, PySem.W.mg_none_of X G z10, PySem.W.mg_none_of X G z11, PySem.W.mg_none_of X G z12, PySem.W.mg_of X G q1, ⟨_, _, _, qk1, rfl, rfl, (by show 1 <= sizeLine; decide), .cons ⟨_, rfl⟩ (.nil)⟩, PySem.W.mg_of X G q2, PySem.W.mg_of X G q3, ⟨_, _, _, qk3, rfl, rfl, (by show 1 <= sizeLine; decide), .cons ⟨_, rfl⟩ (.nil)⟩, PySem.W.mg_of X G q4⟩
 refine ⟨PySem.W.fnOf "law" "law" (yj ykY) (yi ykY) (yb ykY) .none kV46 dc46 pm46 an46 cd46 ct46, fun s v => .of_eq rfl, fun base _ _ => ?_⟩
 have ygH := ymD (P := l.prog) (w := w) (base := base) T 
 have yiY := yrb (P := l.prog) (w := w) (base := base) T 
 have ygR := yup (P := l.prog) (w := w) (base := base) T 
 have yhy := yrc (P := l.prog) (w := w) (base := base) T 
 have ygy := ypA (P := l.prog) (w := w) (base := base) T 
 have yiu := ysv (P := l.prog) (w := w) (base := base) T 
 have ymG := yuq (P := l.prog) (w := w) (base := base) T 
 have ykd := yur (P := l.prog) (w := w) (base := base) T 
 have yja := yrd (P := l.prog) (w := w) (base := base) T 
 have G_reckon := ywy (P := l.prog) (w := w) (base := base) T 
 have yeh := ypB (P := l.prog) (w := w) (base := base) T 
 have yx := ymE (P := l.prog) (w := w) (base := base) T yeh
 have yV := yre (P := l.prog) (w := w) (base := base) T yeh
 have ybe := ynn (P := l.prog) (w := w) (base := base) T yx
 have yfX := yln (P := l.prog) (w := w) (base := base) T ygH
 have yfr := yky (P := l.prog) (w := w) (base := base) T yx yV G_reckon
 have yhx := yno (P := l.prog) (w := w) (base := base) T ybe yx yiY
 have ygI := ymF (P := l.prog) (w := w) (base := base) T ybe ygR
 have yfY := ylo (P := l.prog) (w := w) (base := base) T ybe yV ygR
 have yfq := ykz (P := l.prog) (w := w) (base := base) T ybe yV ymG
 have ygJ := ymH (P := l.prog) (w := w) (base := base) T 
 have yeN := ykb (P := l.prog) (w := w) (base := base) T 
 have yga := ylp (P := l.prog) (w := w) (base := base) T 
 have ygK := ymI (P := l.prog) (w := w) (base := base) T 
 have yfs := ykA (P := l.prog) (w := w) (base := base) T yfX
 have yeM := ykc (P := l.prog) (w := w) (base := base) T ygI yfY yfq
 have ydd := yiZ (P := l.prog) (w := w) (base := base) T yhx yfr yV yeM
 have GR1 := ywz (P := l.prog) (w := w) (base := base) T yx yV ydd yhy yiu ygy 20
 have ybf := GR1.yhF
 have yhH := GR1.yhG
 have yiG := GR1.yiF
 have ygz := GR1.ygx
 have yig := GR1.yif
 have ydZ := GR1.yfZ
 have G_alone := yyx (P := l.prog) (w := w) (base := base) T yfs ybf ykd yja
 have ycu := ypC (P := l.prog) (w := w) (base := base) T 
 have ycR := yrf (P := l.prog) (w := w) (base := base) T 
 have GR0 := ywA (P := l.prog) (w := w) (base := base) T  5
 have yei := GR0.ykT
 have yii := ypD (P := l.prog) (w := w) (base := base) T ycR
 have yih := ypE (P := l.prog) (w := w) (base := base) T ycu ycR
 have yij := ypF (P := l.prog) (w := w) (base := base) T ycu ycR
 have ykB := ysw (P := l.prog) (w := w) (base := base) T 
 have ygL := ymJ (P := l.prog) (w := w) (base := base) T ykB
 have ygA := ypG (P := l.prog) (w := w) (base := base) T 
 have yjb := yrg (P := l.prog) (w := w) (base := base) T ygJ ygK yeN yga
 have yjc := yrh (P := l.prog) (w := w) (base := base) T yei yih yjb ycu ygA yii ygL yij G_alone
 have G_law := yEm (P := l.prog) (w := w) (base := base) T yjc
 exact G_law.imp yEn
theorem walk {l : PySem.W.OpenLaw} {q : Program} {loose : List Str} {XP : (Str -> Option Value) -> Heap -> Prop} {YP : World -> Heap -> Prop} {d : DefRec} {K : Params -> PySem.W.Frag} (hn : l.most = some 63) (hdf : d.params.defaults = [])
  (hY : ∀ (w : World) (h : Heap), YP w h -> (K w.params).In h)
  (F : ∀ (w : World) (mg : Str -> Option Value) (fa : Addr) (h : Heap), (K w.params).In h -> h.Ns mainGlobals mg -> mg d.name = some (.ref fa) ->
   ∃ fd : FuncData, (∀ (s : Shared) (u : Value), BindsTo s fd ⟨[u], []⟩ [("_law_script", u)]) /\ ∀ base : Heap, (K w.params).In base -> base.Ns mainGlobals mg -> FnOk l.prog w (K w.params) mg base CX0 31 fa fd ["_law_script"] (yyy (K w.params))) :
  PySem.W.WalkO q loose XP YP l.row.toRowW d [] (fun f vs => PySem.call f vs) :=
 L2.walk_of (n := 63) (k := 31) (x := "_law_script") (CX := fun _ => CX0) (sp := fun w => yyy (K w.params)) hn (by decide) hdf ⟨rfl, by decide, by decide⟩ hY F (fun _ _ a ns hl _ hS => ⟨a, ns, rfl, hS, hl, fun _ => rfl⟩) fun _ _ _ _ _ z => z
end My
def PySem.W.Fast.tw9032558621622771286 : Unit := ()
def PySem.W.Fast.tw13663378156362002432 : Unit := ()
def PySem.W.Fast.tw16541617956995039520 : Unit := ()
def PySem.W.Fast.tw5261210633194025595 : Unit := ()
def PySem.W.Fast.tw14435768183759504406 : Unit := ()
def PySem.W.Fast.tw341928373010236157 : Unit := ()
def PySem.W.Fast.tw9842084555541893642 : Unit := ()
def PySem.W.Fast.tw13211771393849318861 : Unit := ()
def PySem.W.Fast.tw4912147141212354739 : Unit := ()
def PySem.W.Fast.tw15154629831084380854 : Unit := ()
def PySem.W.Fast.tw13734715305802931301 : Unit := ()
def PySem.W.Fast.tw11300729660439929961 : Unit := ()
def PySem.W.Fast.tw14239538061686858773 : Unit := ()
def PySem.W.Fast.tw9633563747185403635 : Unit := ()
def PySem.W.Fast.tw3199554907930214996 : Unit := ()
def PySem.W.Fast.tw7464258429954936405 : Unit := ()
def PySem.W.Fast.tw8211473145168591995 : Unit := ()
def PySem.W.Fast.tw3168148287481772954 : Unit := ()
def PySem.W.Fast.tw11799117991274210836 : Unit := ()
def PySem.W.Fast.tw10531026959031245000 : Unit := ()
def PySem.W.Fast.tw1580947901773434170 : Unit := ()
def PySem.W.Fast.tw14514244143852556591 : Unit := ()
def PySem.W.Fast.tw11664646620753053271 : Unit := ()
def PySem.W.Fast.tw4311746094175503312 : Unit := ()
def PySem.W.Fast.tw8052560145477601329 : Unit := ()
def PySem.W.Fast.tw2326427110209905872 : Unit := ()
def PySem.W.Fast.tw14690239545502710277 : Unit := ()
def PySem.W.Fast.tw18351678405636346642 : Unit := ()
def PySem.W.Fast.tw11812142113763396895 : Unit := ()
def PySem.W.Fast.tw11719480859124359898 : Unit := ()
def PySem.W.Fast.tw6009750223526471786 : Unit := ()
def PySem.W.Fast.tw8476289642578788941 : Unit := ()
def PySem.W.Fast.tw3210286504629378101 : Unit := ()
def PySem.W.Fast.tw6777240170073849986 : Unit := ()
def PySem.W.Fast.tw15415234752482362731 : Unit := ()
def PySem.W.Fast.tw7313531862394510461 : Unit := ()
def PySem.W.Fast.tw5660621853712666670 : Unit := ()
def PySem.W.Fast.tw12341999556009084058 : Unit := ()
def PySem.W.Fast.tw8635618621955393301 : Unit := ()
def PySem.W.Fast.tw4759970017267844637 : Unit := ()
def PySem.W.Fast.tw5351651529745435002 : Unit := ()
def PySem.W.Fast.tw147760887139093747 : Unit := ()
def PySem.W.Fast.tw10840048178512431070 : Unit := ()
def PySem.W.Fast.tw302017155623451026 : Unit := ()
def PySem.W.Fast.tw5148711499388416346 : Unit := ()
def PySem.W.Fast.tw2795669436504078583 : Unit := ()
def PySem.W.Fast.tw17949774351004594418 : Unit := ()
def PySem.W.Fast.tw6206507087366213709 : Unit := ()
def PySem.W.Fast.tw16570502109751963608 : Unit := ()
def PySem.W.Fast.tw5154017041694459340 : Unit := ()
def PySem.W.Fast.tw12520441545089395630 : Unit := ()
def PySem.W.Fast.tw16656208409057196980 : Unit := ()
def PySem.W.Fast.tw127225442563683740 : Unit := ()
def PySem.W.Fast.tw5265452024896666924 : Unit := ()
def PySem.W.Fast.tw13795557172501135260 : Unit := ()
def PySem.W.Fast.tw10057343463547278677 : Unit := ()
def PySem.W.Fast.tw6081102097826075347 : Unit := ()
def PySem.W.Fast.tw10197465685497300911 : Unit := ()
def PySem.W.Fast.tw7855180319621407027 : Unit := ()
def PySem.W.Fast.tw10778571027149944742 : Unit := ()
def PySem.W.Fast.tw16018592190572435112 : Unit := ()
def PySem.W.Fast.tw12445361088127577304 : Unit := ()
def PySem.W.Fast.tw4287638464391124950 : Unit := ()
def PySem.W.Fast.tw16269159479230985023 : Unit := ()
def PySem.W.Fast.tw6302345500501597206 : Unit := ()
def PySem.W.Fast.tw16825778703326632055 : Unit := ()
def PySem.W.Fast.tw9903494881256622545 : Unit := ()
def PySem.W.Fast.tw4103314926231559469 : Unit := ()
def PySem.W.Fast.tw17633915822640825173 : Unit := ()
def PySem.W.Fast.tw3960175808772084176 : Unit := ()
def PySem.W.Fast.tw9645661970964750910 : Unit := ()
def PySem.W.Fast.tw14441706072682520112 : Unit := ()
def PySem.W.Fast.tw12312578854655439906 : Unit := ()
def PySem.W.Fast.tw9494253578341796223 : Unit := ()
def PySem.W.Fast.tw16519826678030251914 : Unit := ()
def PySem.W.Fast.tw11509076910164108694 : Unit := ()
def PySem.W.Fast.tw7506354146855832303 : Unit := ()
def PySem.W.Fast.tw15130127392284515640 : Unit := ()
def PySem.W.Fast.tw14929948200582618544 : Unit := ()
def PySem.W.Fast.tw10180131174488413074 : Unit := ()
def PySem.W.Fast.tw13920208047484699886 : Unit := ()
def PySem.W.Fast.tw10118067061164856945 : Unit := ()
def PySem.W.Fast.tw10565402136799672821 : Unit := ()
def PySem.W.Fast.tw2762312970411197487 : Unit := ()
def PySem.W.Fast.tw17287961013009175725 : Unit := ()
def PySem.W.Fast.tw6678770598407846336 : Unit := ()
def PySem.W.Fast.tw5279034287443591089 : Unit := ()
def PySem.W.Fast.tw6381961999728031610 : Unit := ()
def PySem.W.Fast.tw17455571527587009167 : Unit := ()
def PySem.W.Fast.tw8283273179056881020 : Unit := ()
def PySem.W.Fast.tw16213378989663430620 : Unit := ()
def PySem.W.Fast.tw12406289606462341124 : Unit := ()
def PySem.W.Fast.tw17582708569809856884 : Unit := ()
def PySem.W.Fast.tw17842719970826244500 : Unit := ()
def PySem.W.Fast.tw10433669318095902387 : Unit := ()
def PySem.W.Fast.tw1937163008007429629 : Unit := ()
def PySem.W.Fast.tw14965756567012600995 : Unit := ()
def PySem.W.Fast.tw9728031419286431250 : Unit := ()
def PySem.W.Fast.tw6888399212685707168 : Unit := ()
def PySem.W.Fast.tw8204199910706705652 : Unit := ()
def PySem.W.Fast.tw6768569309570857912 : Unit := ()
def PySem.W.Fast.tw14068055975646937520 : Unit := ()
def PySem.W.Fast.tw16453986372210958791 : Unit := ()
def PySem.W.Fast.tw2974341727210297377 : Unit := ()
def PySem.W.Fast.tw853398831381267975 : Unit := ()
def PySem.W.Fast.tw4102815888526263942 : Unit := ()
def PySem.W.Fast.tw16626935250303854404 : Unit := ()
def PySem.W.Fast.tw10513322130085255163 : Unit := ()
def PySem.W.Fast.tw12954044321920343677 : Unit := ()
def PySem.W.Fast.tw11470757784266365581 : Unit := ()
def PySem.W.Fast.tw8063063143016163282 : Unit := ()
def PySem.W.Fast.tw761156676099776043 : Unit := ()
def PySem.W.Fast.tw14046004696505764883 : Unit := ()
def PySem.W.Fast.tw15823480152364879324 : Unit := ()
def PySem.W.Fast.tw15439729505332728539 : Unit := ()
def PySem.W.Fast.tw2868589550792772371 : Unit := ()
def PySem.W.Fast.tw9405178367640056780 : Unit := ()
def PySem.W.Fast.tw10417049404600068725 : Unit := ()
def PySem.W.Fast.tw1747576894486217811 : Unit := ()
def PySem.W.Fast.tw16403685751570281557 : Unit := ()
def PySem.W.Fast.tw13924889201667090960 : Unit := ()
def PySem.W.Fast.tw12677358505275041881 : Unit := ()
def PySem.W.Fast.tw15076766331402155493 : Unit := ()
def PySem.W.Fast.tw5071476885660012704 : Unit := ()
def PySem.W.Fast.tw10000439004688246913 : Unit := ()
def PySem.W.Fast.tw5715598593753939859 : Unit := ()
def PySem.W.Fast.tw15649308860552099202 : Unit := ()
def PySem.W.Fast.tw3136630817565454797 : Unit := ()
def PySem.W.Fast.tw12194802213672720066 : Unit := ()
def PySem.W.Fast.tw17344688728627027273 : Unit := ()
def PySem.W.Fast.tw11411607326010158430 : Unit := ()
def PySem.W.Fast.tw45219591537240010 : Unit := ()
def PySem.W.Fast.tw9848598119549766179 : Unit := ()
def PySem.W.Fast.tw5755125523606049834 : Unit := ()
def PySem.W.Fast.tw8084771226365481564 : Unit := ()
def PySem.W.Fast.tw1444881510548663738 : Unit := ()
def PySem.W.Fast.tw3107421851766714845 : Unit := ()
def PySem.W.Fast.tw11507844871135648919 : Unit := ()
def PySem.W.Fast.tw10621257835422157509 : Unit := ()
def PySem.W.Fast.tw6113037556268222645 : Unit := ()
def PySem.W.Fast.tw5825330552046243518 : Unit := ()
def PySem.W.Fast.tw5056221846843398660 : Unit := ()
def PySem.W.Fast.tw8476675521480000730 : Unit := ()
def PySem.W.Fast.tw6285787866719968107 : Unit := ()
def PySem.W.Fast.tw2900520693112186887 : Unit := ()
def PySem.W.Fast.tw6714553178555261335 : Unit := ()
def PySem.W.Fast.tw12897328729135438784 : Unit := ()
def PySem.W.Fast.tw14930403711812580736 : Unit := ()
def PySem.W.Fast.tw4522865708780999421 : Unit := ()
def PySem.W.Fast.tw16665852081410299010 : Unit := ()
def PySem.W.Fast.tw12314993372864517749 : Unit := ()
def PySem.W.Fast.tw5860212566166834326 : Unit := ()
def PySem.W.Fast.tw9537337760987576745 : Unit := ()
def PySem.W.Fast.tw9350359649283889339 : Unit := ()
def PySem.W.Fast.tw16059267106726641103 : Unit := ()
def PySem.W.Fast.tw7518027229154150753 : Unit := ()
def PySem.W.Fast.tw15061782002725577522 : Unit := ()
def PySem.W.Fast.tw13812695048726099207 : Unit := ()
def PySem.W.Fast.tw10225621013318810615 : Unit := ()
def PySem.W.Fast.tw13127153564934773468 : Unit := ()
def PySem.W.Fast.tw1837500447244390498 : Unit := ()
def PySem.W.Fast.tw8960105090512967133 : Unit := ()
def PySem.W.Fast.tw15638574007427634589 : Unit := ()
def PySem.W.Fast.tw8558895968097875861 : Unit := ()
def PySem.W.Fast.tw17122632694293524941 : Unit := ()
def PySem.W.Fast.tw1517025964720981602 : Unit := ()
def PySem.W.Fast.tw686425154504330371 : Unit := ()
def PySem.W.Fast.tw83359970110608477 : Unit := ()
def PySem.W.Fast.tw6265810915335702264 : Unit := ()
def PySem.W.Fast.tw14342173944909311625 : Unit := ()
def PySem.W.Fast.tw16760954552152976551 : Unit := ()
def PySem.W.Fast.tw1528574062451120969 : Unit := ()
def PySem.W.Fast.tw6640842955933803533 : Unit := ()
def PySem.W.Fast.tw9135992959750394840 : Unit := ()
def PySem.W.Fast.tw12826844618718390222 : Unit := ()
def PySem.W.Fast.tw10576695137990454412 : Unit := ()
def PySem.W.Fast.tw6329327147692306610 : Unit := ()
def PySem.W.Fast.tw15938047378964656872 : Unit := ()
def PySem.W.Fast.tw10547879644431955349 : Unit := ()
def PySem.W.Fast.tw14510422736069541984 : Unit := ()
def PySem.W.Fast.tw4845730930489112819 : Unit := ()
def PySem.W.Fast.tw11729394676030482134 : Unit := ()
def PySem.W.Fast.tw7682745865576435648 : Unit := ()
def PySem.W.Fast.tw3163212313542114900 : Unit := ()
def PySem.W.Fast.tw16232194826128362916 : Unit := ()
def PySem.W.Fast.tw581421326035031336 : Unit := ()
def PySem.W.Fast.tw13611141763830688612 : Unit := ()
def PySem.W.Fast.tw16465689925172072363 : Unit := ()
def PySem.W.Fast.tw7225989080931074229 : Unit := ()
def PySem.W.Fast.tw7819993984910647323 : Unit := ()
def PySem.W.Fast.tw4398883223909403638 : Unit := ()
def PySem.W.Fast.tw9880817500625267024 : Unit := ()
def PySem.W.Fast.tw8433729980565580725 : Unit := ()
def PySem.W.Fast.tw13459885917348920176 : Unit := ()
def PySem.W.Fast.tw8482012657395450302 : Unit := ()
def PySem.W.Fast.tw5594442957213410958 : Unit := ()
def PySem.W.Fast.tw8458233637406077168 : Unit := ()
def PySem.W.Fast.tw17080149678638729905 : Unit := ()
def PySem.W.Fast.tw17032153251959843732 : Unit := ()
def PySem.W.Fast.tw3196912815460382832 : Unit := ()
def PySem.W.Fast.tw7858541052466652981 : Unit := ()
def PySem.W.Fast.tw18026615727883941476 : Unit := ()
def PySem.W.Fast.tw6973609193872489108 : Unit := ()
def PySem.W.Fast.tw10067137816501302978 : Unit := ()
def PySem.W.Fast.tw15077797291168725416 : Unit := ()
def PySem.W.Fast.tw2180663224537258134 : Unit := ()
def PySem.W.Fast.tw1322325795616085169 : Unit := ()
def PySem.W.Fast.tw2977006395539714848 : Unit := ()
def PySem.W.Fast.tw11439676394530691602 : Unit := ()
def PySem.W.Fast.tw6941378326300687039 : Unit := ()
def PySem.W.Fast.tw13064074467444303723 : Unit := ()
def PySem.W.Fast.tw12487529003332318013 : Unit := ()
def PySem.W.Fast.tw1392528828352275828 : Unit := ()
def PySem.W.Fast.tw16468035077293459918 : Unit := ()
def PySem.W.Fast.tw10110837525484315792 : Unit := ()
def PySem.W.Fast.tw4539491538829605837 : Unit := ()
def PySem.W.Fast.tw12837772372954251891 : Unit := ()
def PySem.W.Fast.tw2848112503225224864 : Unit := ()
def PySem.W.Fast.tw12086527071796434018 : Unit := ()
def PySem.W.Fast.tw7561618648596844594 : Unit := ()
def PySem.W.Fast.tw10018746514767591945 : Unit := ()
def PySem.W.Fast.tw9893352814930066487 : Unit := ()
def PySem.W.Fast.tw4734296173286490989 : Unit := ()
def PySem.W.Fast.tw12830669470253970889 : Unit := ()
def PySem.W.Fast.tw10938870473280433665 : Unit := ()
def PySem.W.Fast.tw17838405759593771693 : Unit := ()
def PySem.W.Fast.tw8876899532005309766 : Unit := ()
def PySem.W.Fast.tw14655387220747326800 : Unit := ()
def PySem.W.Fast.tw3052601863535382585 : Unit := ()
def PySem.W.Fast.tw9606290900521273150 : Unit := ()
def PySem.W.Fast.tw1888836406233947945 : Unit := ()
def PySem.W.Fast.tw1434031537448298735 : Unit := ()
def PySem.W.Fast.tw11537182466735933355 : Unit := ()
def PySem.W.Fast.tw10955273116818938246 : Unit := ()
def PySem.W.Fast.tw16614615631445998160 : Unit := ()
def PySem.W.Fast.tw7467893428624411888 : Unit := ()
def PySem.W.Fast.tw5563921476848770722 : Unit := ()
def PySem.W.Fast.tw7289183556047828308 : Unit := ()
def PySem.W.Fast.tw2800782349991748756 : Unit := ()
def PySem.W.Fast.tw4195626041025106842 : Unit := ()
def PySem.W.Fast.tw16000226092632256265 : Unit := ()
def PySem.W.Fast.tw8316490489606391101 : Unit := ()
def PySem.W.Fast.tw9704475791268433679 : Unit := ()
def PySem.W.Fast.tw1670994623527553485 : Unit := ()
def PySem.W.Fast.tw14622379453260970846 : Unit := ()
def PySem.W.Fast.tw9407543727399623950 : Unit := ()
def PySem.W.Fast.tw13873557637669137674 : Unit := ()
def PySem.W.Fast.tw3111409875184293566 : Unit := ()
def PySem.W.Fast.tw3578251422868137630 : Unit := ()
def PySem.W.Fast.tw9566946591944496685 : Unit := ()
def PySem.W.Fast.tw11748596403575188929 : Unit := ()
def PySem.W.Fast.tw17999877837614731612 : Unit := ()
def PySem.W.Fast.tw7731312621567078774 : Unit := ()
def PySem.W.Fast.tw15420071389349022083 : Unit := ()
def PySem.W.Fast.tw10441380117090827300 : Unit := ()
def PySem.W.Fast.tw502530019268253863 : Unit := ()
def PySem.W.Fast.tw6032126880102144751 : Unit := ()
def PySem.W.Fast.tw6129311193542261476 : Unit := ()
def PySem.W.Fast.tw5155210422851336459 : Unit := ()
def PySem.W.Fast.tw5809450211556035792 : Unit := ()
def PySem.W.Fast.tw11181664977720601620 : Unit := ()
def PySem.W.Fast.tw13467911545040343183 : Unit := ()
def PySem.W.Fast.tw10645290889260389417 : Unit := ()
def PySem.W.Fast.tw589017051379100541 : Unit := ()
def PySem.W.Fast.tw18298394567854903364 : Unit := ()
def PySem.W.Fast.tw566585180956863077 : Unit := ()
def PySem.W.Fast.tw238051953114514344 : Unit := ()
def PySem.W.Fast.tw16674711250166553054 : Unit := ()
def PySem.W.Fast.tw7234612849852390368 : Unit := ()
def PySem.W.Fast.tw3535597296066643112 : Unit := ()
def PySem.W.Fast.tw10633379273170989928 : Unit := ()
def PySem.W.Fast.tw14824171265499277900 : Unit := ()
def PySem.W.Fast.tw8201450091425692052 : Unit := ()
def PySem.W.Fast.tw16352234988181779651 : Unit := ()
def PySem.W.Fast.tw11632043930905773962 : Unit := ()
def PySem.W.Fast.tw15682977400836415356 : Unit := ()
def PySem.W.Fast.tw6623570405671400512 : Unit := ()
def PySem.W.Fast.tw4078983812744656018 : Unit := ()
def PySem.W.Fast.tw13835000030925620599 : Unit := ()
def PySem.W.Fast.tw5664235492283612932 : Unit := ()
def PySem.W.Fast.tw7933706232929288244 : Unit := ()
def PySem.W.Fast.tw13562459864840699817 : Unit := ()
def PySem.W.Fast.tw16148750318074445457 : Unit := ()
def PySem.W.Fast.tw17620686538448085525 : Unit := ()
def PySem.W.Fast.tw17115823174248785727 : Unit := ()
def PySem.W.Fast.tw15273977379901342017 : Unit := ()
def PySem.W.Fast.tw16228764482954479726 : Unit := ()
def PySem.W.Fast.tw15740563928742654579 : Unit := ()
def PySem.W.Fast.tw5398255589610510369 : Unit := ()
def PySem.W.Fast.tw15453999575746344926 : Unit := ()
def PySem.W.Fast.tw2929802649458204597 : Unit := ()
def PySem.W.Fast.tw10536599264517621275 : Unit := ()
def PySem.W.Fast.tw9470811440206150879 : Unit := ()
def PySem.W.Fast.tw4440058347712908741 : Unit := ()
def PySem.W.Fast.tw13715624401085914492 : Unit := ()
def PySem.W.Fast.tw6455550975771421977 : Unit := ()
def PySem.W.Fast.tw6553032928851325237 : Unit := ()
def PySem.W.Fast.tw16018287189597512328 : Unit := ()
def PySem.W.Fast.tw5861763761160703842 : Unit := ()
def PySem.W.Fast.tw4926575696932863740 : Unit := ()
def PySem.W.Fast.tw11343149583373312101 : Unit := ()
def PySem.W.Fast.tw5158755183562073902 : Unit := ()
def PySem.W.Fast.tw75087961341085018 : Unit := ()
def PySem.W.Fast.tw15218499317437916930 : Unit := ()
def PySem.W.Fast.tw14716599153857373529 : Unit := ()
def PySem.W.Fast.tw6732393471044937399 : Unit := ()
def PySem.W.Fast.tw14038744141497040051 : Unit := ()
def PySem.W.Fast.tw10587502708302009439 : Unit := ()
def PySem.W.Fast.tw2612709227248048018 : Unit := ()
def PySem.W.Fast.tw874925663273608738 : Unit := ()
def PySem.W.Fast.tw16389399146313661111 : Unit := ()
def PySem.W.Fast.tw8209613872885508811 : Unit := ()
def PySem.W.Fast.tw15847817335592968452 : Unit := ()
def PySem.W.Fast.tw5384202234067637415 : Unit := ()
def PySem.W.Fast.tw15616119079164801451 : Unit := ()
def PySem.W.Fast.tw11586512957790380194 : Unit := ()
def PySem.W.Fast.tw14040096271871508498 : Unit := ()
def PySem.W.Fast.tw8663118011702696172 : Unit := ()
def PySem.W.Fast.tw13922756391790841184 : Unit := ()
def PySem.W.Fast.tw772899042371585946 : Unit := ()
def PySem.W.Fast.tw4197627438225228785 : Unit := ()
def PySem.W.Fast.tw13018264162459292955 : Unit := ()
def PySem.W.Fast.tw1140342632059122383 : Unit := ()
def PySem.W.Fast.tw14248538368925438852 : Unit := ()
def PySem.W.Fast.tw6442685429100667168 : Unit := ()
def PySem.W.Fast.tw15872084199027630126 : Unit := ()
def PySem.W.Fast.tw17256475163711903169 : Unit := ()
def PySem.W.Fast.tw12683933845278029116 : Unit := ()
def PySem.W.Fast.tw10361195141244526357 : Unit := ()
def PySem.W.Fast.tw15293629039102682410 : Unit := ()
def PySem.W.Fast.tw1408687186926557428 : Unit := ()
def PySem.W.Fast.tw214046288583127628 : Unit := ()
def PySem.W.Fast.tw8111375039060871616 : Unit := ()
def PySem.W.Fast.tw4318171737275252812 : Unit := ()
def PySem.W.Fast.tw13088581616143180341 : Unit := ()
def PySem.W.Fast.tw7067807136787980133 : Unit := ()
def PySem.W.Fast.tw16544901425565352068 : Unit := ()
def PySem.W.Fast.tw14528696306336186093 : Unit := ()
def PySem.W.Fast.tw2807979851578946448 : Unit := ()
def PySem.W.Fast.tw16496117500587465754 : Unit := ()
def PySem.W.Fast.tw12692795753116203327 : Unit := ()
def PySem.W.Fast.tw17978871909309713408 : Unit := ()
def PySem.W.Fast.tw14381971362859725540 : Unit := ()
def PySem.W.Fast.tw8686069079687383764 : Unit := ()
def PySem.W.Fast.tw4547018671161203098 : Unit := ()
def PySem.W.Fast.tw9169688576918489306 : Unit := ()
def PySem.W.Fast.tw11341721497984910566 : Unit := ()
def PySem.W.Fast.tw6730509425399717173 : Unit := ()
def PySem.W.Fast.tw5062449949022344082 : Unit := ()
def PySem.W.Fast.tw13936286994407673864 : Unit := ()
def PySem.W.Fast.tw5244607105372511216 : Unit := ()
def PySem.W.Fast.tw14229907221859577837 : Unit := ()
def PySem.W.Fast.tw6163644672749489356 : Unit := ()
def PySem.W.Fast.tw15744071793358930440 : Unit := ()
def PySem.W.Fast.tw6407232721237769195 : Unit := ()
def PySem.W.Fast.tw9250040320103755187 : Unit := ()
def PySem.W.Fast.tw11149777794869275406 : Unit := ()
def PySem.W.Fast.tw7988770820566643830 : Unit := ()
def PySem.W.Fast.tw1347302701796527319 : Unit := ()
def PySem.W.Fast.tw15214353887447304727 : Unit := ()
def PySem.W.Fast.tw7948159323933063454 : Unit := ()
def PySem.W.Fast.tw3794674125306667535 : Unit := ()
def PySem.W.Fast.tw5663158797045902598 : Unit := ()
def PySem.W.Fast.tw2463509761971736468 : Unit := ()
def PySem.W.Fast.tw14573324639860887293 : Unit := ()
def PySem.W.Fast.tw13369498578985827652 : Unit := ()
def PySem.W.Fast.tw16029703721707053633 : Unit := ()
def PySem.W.Fast.tw13737964667167692652 : Unit := ()
def PySem.W.Fast.tw16085393860119038552 : Unit := ()
def PySem.W.Fast.tw12839897220641529423 : Unit := ()
def PySem.W.Fast.tw6267001647090178101 : Unit := ()
def PySem.W.Fast.tw6984014623731478909 : Unit := ()
def PySem.W.Fast.tw17637933616597697502 : Unit := ()
def PySem.W.Fast.tw351022695206131386 : Unit := ()
def PySem.W.Fast.tw10237102302689506309 : Unit := ()
def PySem.W.Fast.tw5075950738905902289 : Unit := ()
def PySem.W.Fast.tw2135413163313585220 : Unit := ()
def PySem.W.Fast.tw5461513570336483985 : Unit := ()
def PySem.W.Fast.tw7820462509186078701 : Unit := ()
def PySem.W.Fast.tw13837778413113834082 : Unit := ()
def PySem.W.Fast.tw4973784408443253427 : Unit := ()
def PySem.W.Fast.tw52082081065386669 : Unit := ()
def PySem.W.Fast.tw9194290738388958397 : Unit := ()
def PySem.W.Fast.tw14462645840421104 : Unit := ()
def PySem.W.Fast.tw5459035663131305343 : Unit := ()
def PySem.W.Fast.tw3910039319727156857 : Unit := ()
def PySem.W.Fast.tw15677456529276235605 : Unit := ()
def PySem.W.Fast.tw8831776236156752716 : Unit := ()
def PySem.W.Fast.tw18120196541658946501 : Unit := ()
def PySem.W.Fast.tw15821701285784389528 : Unit := ()
def PySem.W.Fast.tw7485084920966650625 : Unit := ()
def PySem.W.Fast.tw15838436077869548690 : Unit := ()
def PySem.W.Fast.tw1777019569833136202 : Unit := ()
def PySem.W.Fast.tw3457593887253528936 : Unit := ()
def PySem.W.Fast.tw17743464673219075408 : Unit := ()
def PySem.W.Fast.tw9855501147598019687 : Unit := ()
def PySem.W.Fast.tw8643343433930125680 : Unit := ()
def PySem.W.Fast.tw11781039099380106078 : Unit := ()
def PySem.W.Fast.tw6382555666411297511 : Unit := ()
def PySem.W.Fast.tw6525811068579244422 : Unit := ()
def PySem.W.Fast.tw2732649425338133662 : Unit := ()
def PySem.W.Fast.tw322027463620637231 : Unit := ()
def PySem.W.Fast.tw11704192592081054475 : Unit := ()
def PySem.W.Fast.tw13381986318592582222 : Unit := ()
def PySem.W.Fast.tw13577323200469786400 : Unit := ()
def PySem.W.Fast.tw6108321028022220906 : Unit := ()
def PySem.W.Fast.tw4308367212968929241 : Unit := ()
def PySem.W.Fast.tw10242316890164639075 : Unit := ()
def PySem.W.Fast.tw14321248778363976709 : Unit := ()
def PySem.W.Fast.tw3529365333323644190 : Unit := ()
def PySem.W.Fast.tw16553696848513916828 : Unit := ()
def PySem.W.Fast.tw7090088558170864287 : Unit := ()
def PySem.W.Fast.tw11013700837840579137 : Unit := ()
def PySem.W.Fast.tw411477634084049238 : Unit := ()
def PySem.W.Fast.tw8217832566301785347 : Unit := ()
def PySem.W.Fast.tw11992090048448548300 : Unit := ()
def PySem.W.Fast.tw18101960996517240702 : Unit := ()
def PySem.W.Fast.tw4879621763837473442 : Unit := ()
def PySem.W.Fast.tw8736525025962019751 : Unit := ()
def PySem.W.Fast.tw8232487988817231967 : Unit := ()
def PySem.W.Fast.tw5931131729104837572 : Unit := ()
def PySem.W.Fast.tw10452534301350447862 : Unit := ()
def PySem.W.Fast.tw12275475588781217845 : Unit := ()
def PySem.W.Fast.tw13053233682857267529 : Unit := ()
def PySem.W.Fast.tw11484035044988844229 : Unit := ()
def PySem.W.Fast.tw5045951250867322616 : Unit := ()
def PySem.W.Fast.tw15025842479551796535 : Unit := ()
def PySem.W.Fast.tw12442392159922159193 : Unit := ()
def PySem.W.Fast.tw565581502184330966 : Unit := ()
def PySem.W.Fast.tw4574557635098643986 : Unit := ()
def PySem.W.Fast.tw595808593886457193 : Unit := ()
def PySem.W.Fast.tw10964824347455816379 : Unit := ()
def PySem.W.Fast.tw13118707439113750990 : Unit := ()
def PySem.W.Fast.tw4785852474660832116 : Unit := ()
def PySem.W.Fast.tw6890487977181060434 : Unit := ()
def PySem.W.Fast.tw7304056974431893038 : Unit := ()
def PySem.W.Fast.tw14047176619668783092 : Unit := ()
def PySem.W.Fast.tw1536569906644120486 : Unit := ()
def PySem.W.Fast.tw15925421868732382268 : Unit := ()
def PySem.W.Fast.tw8233757654775146522 : Unit := ()
def PySem.W.Fast.tw15605893213721349344 : Unit := ()
def PySem.W.Fast.tw3067382419979776634 : Unit := ()
def PySem.W.Fast.tw11777554488699524526 : Unit := ()
def PySem.W.Fast.tw1783825737863789444 : Unit := ()
def PySem.W.Fast.tw222357439742006044 : Unit := ()
def PySem.W.Fast.tw14929613962649974559 : Unit := ()
def PySem.W.Fast.tw13361130437145597365 : Unit := ()
def PySem.W.Fast.tw11298844573853246685 : Unit := ()
def PySem.W.Fast.tw15888267357436222765 : Unit := ()
def PySem.W.Fast.tw15563404837946933451 : Unit := ()
def PySem.W.Fast.tw2009465622549404311 : Unit := ()
def PySem.W.Fast.tw4421489635636315791 : Unit := ()
def PySem.W.Fast.tw17125562128461090074 : Unit := ()
def PySem.W.Fast.tw7961056884245351197 : Unit := ()
def PySem.W.Fast.tw18039145262357896965 : Unit := ()
def PySem.W.Fast.tw12862605146662478185 : Unit := ()
def PySem.W.Fast.tw11430920793843677330 : Unit := ()
def PySem.W.Fast.tw13473027344440774929 : Unit := ()
def PySem.W.Fast.tw15312814551340271439 : Unit := ()
def PySem.W.Fast.tw11797310585947995686 : Unit := ()
def PySem.W.Fast.tw2728058060889156910 : Unit := ()
def PySem.W.Fast.tw6861210045229872954 : Unit := ()
def PySem.W.Fast.tw2963847599186474794 : Unit := ()
def PySem.W.Fast.tw1284576078670398517 : Unit := ()
def PySem.W.Fast.tw6161912398586412588 : Unit := ()
def PySem.W.Fast.tw11034320716402298638 : Unit := ()
def PySem.W.Fast.tw14484661293473345611 : Unit := ()
def PySem.W.Fast.tw11046439252730116739 : Unit := ()
def PySem.W.Fast.tw458204818834589322 : Unit := ()
def PySem.W.Fast.tw1459355948049439428 : Unit := ()
def PySem.W.Fast.tw12111010778360663777 : Unit := ()
def PySem.W.Fast.tw16156151315953281098 : Unit := ()
def PySem.W.Fast.tw3777489428524288629 : Unit := ()
def PySem.W.Fast.tw18260590386165404573 : Unit := ()
def PySem.W.Fast.tw9803433923278766358 : Unit := ()
def PySem.W.Fast.tw1140235968649039961 : Unit := ()
def PySem.W.Fast.tw16187402141570086696 : Unit := ()
def PySem.W.Fast.tw18013066338855736905 : Unit := ()
def PySem.W.Fast.tw14758461237964465182 : Unit := ()
def PySem.W.Fast.tw13407432354531243560 : Unit := ()
def PySem.W.Fast.tw6765993444262122180 : Unit := ()
def PySem.W.Fast.tw6976966562561827488 : Unit := ()
def PySem.W.Fast.tw4392451356045637239 : Unit := ()
def PySem.W.Fast.tw5977076711083576520 : Unit := ()
def PySem.W.Fast.tw9290274557291260626 : Unit := ()
def PySem.W.Fast.tw12292472525515420058 : Unit := ()
def PySem.W.Fast.tw11698406599949576656 : Unit := ()
def PySem.W.Fast.tw6437699805142174278 : Unit := ()
def PySem.W.Fast.tw17690383319044683231 : Unit := ()
def PySem.W.Fast.tw15179049716747332353 : Unit := ()
def PySem.W.Fast.tw17952484615494863037 : Unit := ()
def PySem.W.Fast.tw5478557295127402038 : Unit := ()
def PySem.W.Fast.tw8433669975349814565 : Unit := ()
def PySem.W.Fast.tw33011278578528852 : Unit := ()
def PySem.W.Fast.tw1440721608377436039 : Unit := ()
def PySem.W.Fast.tw15896748119453197837 : Unit := ()
def PySem.W.Fast.tw2119582437978666132 : Unit := ()
def PySem.W.Fast.tw3095240156260507725 : Unit := ()
def PySem.W.Fast.tw5306986528021669699 : Unit := ()
def PySem.W.Fast.tw18140087347672941447 : Unit := ()
def PySem.W.Fast.tw7101570472590004443 : Unit := ()
def PySem.W.Fast.tw8930890499409654710 : Unit := ()
def PySem.W.Fast.tw10242979022007306219 : Unit := ()
def PySem.W.Fast.tw11274886995207593122 : Unit := ()
def PySem.W.Fast.tw13604952779623612735 : Unit := ()
def PySem.W.Fast.tw3101267580638089108 : Unit := ()
def PySem.W.Fast.tw462374636308005849 : Unit := ()
def PySem.W.Fast.tw17342365209789136830 : Unit := ()
def PySem.W.Fast.tw12604989626098445699 : Unit := ()
def PySem.W.Fast.tw7157860227654732168 : Unit := ()
def PySem.W.Fast.tw13057722271689691832 : Unit := ()
def PySem.W.Fast.tw6281136332480660627 : Unit := ()
def PySem.W.Fast.tw15543871938354254388 : Unit := ()
def PySem.W.Fast.tw9260186475731024713 : Unit := ()
def PySem.W.Fast.tw6199450160558326979 : Unit := ()
def PySem.W.Fast.tw4743145320389166723 : Unit := ()
def PySem.W.Fast.tw15409053787651113795 : Unit := ()
def PySem.W.Fast.tw8004481664702400986 : Unit := ()
def PySem.W.Fast.tw10639727248573087010 : Unit := ()
def PySem.W.Fast.tw13048277167083187576 : Unit := ()
def PySem.W.Fast.tw12333620042527520562 : Unit := ()
def PySem.W.Fast.tw9740166914778874532 : Unit := ()
def PySem.W.Fast.tw2393281612005205942 : Unit := ()
def PySem.W.Fast.tw2899832825550452550 : Unit := ()
def PySem.W.Fast.tw4266825962972614786 : Unit := ()
def PySem.W.Fast.tw7438990826329774156 : Unit := ()
def PySem.W.Fast.tw10434736421558153601 : Unit := ()
def PySem.W.Fast.tw1209561133638575265 : Unit := ()
def PySem.W.Fast.tw10874730659118781319 : Unit := ()
def PySem.W.Fast.tw14268221912163101835 : Unit := ()
def PySem.W.Fast.tw12417954479192930926 : Unit := ()
def PySem.W.Fast.tw9215526501685327852 : Unit := ()
def PySem.W.Fast.tw252987036744833914 : Unit := ()
def PySem.W.Fast.tw5357901158666000811 : Unit := ()
def PySem.W.Fast.tw18333342850923623842 : Unit := ()
def PySem.W.Fast.tw8509868546542586329 : Unit := ()
def PySem.W.Fast.tw1922103438112772636 : Unit := ()
def PySem.W.Fast.tw5759021003899670012 : Unit := ()
def PySem.W.Fast.tw17369520466539680844 : Unit := ()
def PySem.W.Fast.tw2651146408078302017 : Unit := ()
def PySem.W.Fast.tw1963581801186938458 : Unit := ()
def PySem.W.Fast.tw17479436476681667363 : Unit := ()
def PySem.W.Fast.tw10031916194243497768 : Unit := ()
def PySem.W.Fast.tw7014706133948224126 : Unit := ()
def PySem.W.Fast.tw18272930245204556018 : Unit := ()
def PySem.W.Fast.tw18117054535265189623 : Unit := ()
def PySem.W.Fast.tw7145082964840022663 : Unit := ()
def PySem.W.Fast.tw11359741541241025832 : Unit := ()
def PySem.W.Fast.tw13832344755258778634 : Unit := ()
def PySem.W.Fast.tw6622340021634509050 : Unit := ()
def PySem.W.Fast.tw17648920672119502361 : Unit := ()
def PySem.W.Fast.tw1267927226408097053 : Unit := ()
def PySem.W.Fast.tw15361646971290891779 : Unit := ()
def PySem.W.Fast.tw2873985728930525695 : Unit := ()
def PySem.W.Fast.tw919176405501362773 : Unit := ()
def PySem.W.Fast.tw2243916697160748611 : Unit := ()
def PySem.W.Fast.tw10661240632257859654 : Unit := ()
def PySem.W.Fast.tw6252721008634214754 : Unit := ()
def PySem.W.Fast.tw16151096296324976061 : Unit := ()
def PySem.W.Fast.tw3500357955478191285 : Unit := ()
def PySem.W.Fast.tw2834781011369335308 : Unit := ()
def PySem.W.Fast.tw12825587646352241430 : Unit := ()
def PySem.W.Fast.tw11799210399081167639 : Unit := ()
def PySem.W.Fast.tw9253205594268452232 : Unit := ()
def PySem.W.Fast.tw17125248183200237269 : Unit := ()
def PySem.W.Fast.tw4080347143245070069 : Unit := ()
def PySem.W.Fast.tw12823583640864146985 : Unit := ()
def PySem.W.Fast.tw3918400082588650048 : Unit := ()
def PySem.W.Fast.tw15042432573661845414 : Unit := ()
def PySem.W.Fast.tw11853798385109095950 : Unit := ()
def PySem.W.Fast.tw14812910094963388992 : Unit := ()
def PySem.W.Fast.tw17514930210226398275 : Unit := ()
def PySem.W.Fast.tw9771745561878044773 : Unit := ()
def PySem.W.Fast.tw13902208255015816485 : Unit := ()
def PySem.W.Fast.tw9782244571029159868 : Unit := ()
def PySem.W.Fast.tw16224119195727963843 : Unit := ()
def PySem.W.Fast.tw12790562814312108058 : Unit := ()
def PySem.W.Fast.tw16995466832090798997 : Unit := ()
def PySem.W.Fast.tw3272828193485051900 : Unit := ()
def PySem.W.Fast.tw12207426799371518805 : Unit := ()
def PySem.W.Fast.tw15190407044067333677 : Unit := ()
def PySem.W.Fast.tw4689222214021289213 : Unit := ()
def PySem.W.Fast.tw2877137181013237264 : Unit := ()
def PySem.W.Fast.tw1924724069846558861 : Unit := ()
def PySem.W.Fast.tw7400455640465910288 : Unit := ()
def PySem.W.Fast.tw3724575559021060316 : Unit := ()
def PySem.W.Fast.tw14472895555762520728 : Unit := ()
def PySem.W.Fast.tw11536382164627406573 : Unit := ()
def PySem.W.Fast.tw4136707698716447387 : Unit := ()
def PySem.W.Fast.tw6058867918035366847 : Unit := ()
def PySem.W.Fast.tw14531487715787543993 : Unit := ()
def PySem.W.Fast.tw1328704873755190066 : Unit := ()
def PySem.W.Fast.tw3729267644828626647 : Unit := ()
def PySem.W.Fast.tw17160329817737852028 : Unit := ()
def PySem.W.Fast.tw243790294820171187 : Unit := ()
def PySem.W.Fast.tw4968103533217307318 : Unit := ()
def PySem.W.Fast.tw15570321454418584501 : Unit := ()
def PySem.W.Fast.tw13838224186126778776 : Unit := ()
def PySem.W.Fast.tw14039409990944316416 : Unit := ()
def PySem.W.Fast.tw4010725779979988288 : Unit := ()
def PySem.W.Fast.tw9115752754448155157 : Unit := ()
def PySem.W.Fast.tw4810767815005428179 : Unit := ()
def PySem.W.Fast.tw7501704710817962519 : Unit := ()
def PySem.W.Fast.tw7257273437982996649 : Unit := ()
def PySem.W.Fast.tw17176153363675522783 : Unit := ()
def PySem.W.Fast.tw2048620539479675863 : Unit := ()
def PySem.W.Fast.tw17998084100590378273 : Unit := ()
def PySem.W.Fast.tw13015823532856118097 : Unit := ()
def PySem.W.Fast.tw6591030725006432105 : Unit := ()
def PySem.W.Fast.tw14165193605595477107 : Unit := ()
def PySem.W.Fast.tw5724872526209173504 : Unit := ()
def PySem.W.Fast.tw13295701925056815753 : Unit := ()
def PySem.W.Fast.tw3766107143747278489 : Unit := ()
def PySem.W.Fast.tw7111272058410553563 : Unit := ()
def PySem.W.Fast.tw17191986793525395979 : Unit := ()
def PySem.W.Fast.tw10682662038471940581 : Unit := ()
def PySem.W.Fast.tw10520409157535788607 : Unit := ()
def PySem.W.Fast.tw401146773257062914 : Unit := ()
def PySem.W.Fast.tw12972335177496505130 : Unit := ()
def PySem.W.Fast.tw3659043354500595567 : Unit := ()
def PySem.W.Fast.tw2352759875543682903 : Unit := ()
def PySem.W.Fast.tw6768903825085306622 : Unit := ()
def PySem.W.Fast.tw3023689137433230025 : Unit := ()
def PySem.W.Fast.tw5318058185534762900 : Unit := ()
def PySem.W.Fast.tw16252681567726048496 : Unit := ()
def PySem.W.Fast.tw18190511194950108888 : Unit := ()
def PySem.W.Fast.tw11084294797120528686 : Unit := ()
def PySem.W.Fast.tw7846475069553020110 : Unit := ()
def PySem.W.Fast.tw5957497395683014396 : Unit := ()
def PySem.W.Fast.tw4658589318614507649 : Unit := ()
def PySem.W.Fast.tw8786869273829763615 : Unit := ()
def PySem.W.Fast.tw7361592880285490676 : Unit := ()
def PySem.W.Fast.tw1130078964402540956 : Unit := ()
def PySem.W.Fast.tw4780941832519236422 : Unit := ()
def PySem.W.Fast.tw9391605027896732465 : Unit := ()
def PySem.W.Fast.tw2191046977783334304 : Unit := ()
def PySem.W.Fast.tw16807310945736346651 : Unit := ()
def PySem.W.Fast.tw12670175998213422793 : Unit := ()
def PySem.W.Fast.tw17984849242402008113 : Unit := ()
def PySem.W.Fast.tw10934615233303960375 : Unit := ()
def PySem.W.Fast.tw17756489209131452641 : Unit := ()
def PySem.W.Fast.tw6750795517006584225 : Unit := ()
def PySem.W.Fast.tw12941657477667707481 : Unit := ()
def PySem.W.Fast.tw15169929791206475455 : Unit := ()
def PySem.W.Fast.tw9821468783614866708 : Unit := ()
def PySem.W.Fast.tw5508177325536471680 : Unit := ()
def PySem.W.Fast.tw1527733383432142769 : Unit := ()
def PySem.W.Fast.tw5413731449680043219 : Unit := ()
open PySem PySem.W PyProof.Rows
set_option maxRecDepth 100000 in
set_option maxHeartbeats 0 in
theorem PySem.Challenge.cw_retryhall_k16_alone_plain_parts_holds : PySem.Challenge.rw_retryhall_k16_alone_plain_parts.Holds := by
 w_on; o_law; k_head; (case hw => w_witness2)
 k_fill
 refine My.walk (l := PySem.Challenge.rw_retryhall_k16_alone_plain_parts) rfl rfl (fun w h Y => PySem.W.kIn_of Y) ?F
 case F =>
  intro w mg fa h KX G hmg
  refine' My.all_mk KX G hmg ?nCLog ?nCDoing ?nCDoer ?nCLet ?nCReckon ?nCTake ?nCPut ?nCIf ?nCEither ?nCTry ?nCThrow ?nCWait ?ygb ?yeO ?yft ?ygc ?yeC ?yfu ?ygd ?yik ?ykC ?yil ?yhz ?yjd ?ykD ?ykE ?yim ?fs_Doing_held_in ?fs_Doing_hold ?fs_Doing_box_at ?fs_Doing_do_reckon ?fs_Doing_do_put ?fs_Doing_sees_at ?fs_Doing_take_own ?fs_Doing_take_seen ?yeD ?yea ?yeP ?yeQ ?yge ?yeb ?yfv ?ydF ?cr_Doer ?cc_Doer ?cs_Doer ?i1 ?l1 ?c1 ?k1 ?i2 ?l2 ?c2 ?k2 ?i3 ?l3 ?c3 ?k3 ?i4 ?l4 ?c4 ?k4 ?i5 ?l5 ?c5 ?k5 ?i6 ?l6 ?c6 ?k6 ?i7 ?l7 ?c7 ?k7 ?i8 ?l8 ?c8 ?k8 ?i9 ?l9 ?c9 ?k9 ?a10 ?l10 ?c10 ?k10 ?a11 ?l11 ?c11 ?k11 ?i12 ?l12 ?c12 ?k12 ?i13 ?l13 ?c13 ?k13 ?i14 ?l14 ?c14 ?k14 ?i15 ?l15 ?c15 ?k15 ?i16 ?l16 ?c16 ?k16 ?i17 ?l17 ?c17 ?k17 ?i18 ?l18 ?c18 ?k18 ?i19 ?l19 ?c19 ?k19 ?i20 ?l20 ?c20 ?k20 ?i21 ?l21 ?c21 ?k21 ?i22 ?l22 ?c22 ?k22 ?i23 ?l23 ?c23 ?k23 ?i24 ?l24 ?c24 ?k24 ?i25 ?l25 ?c25 ?k25 ?i26 ?l26 ?c26 ?k26 ?i27 ?l27 ?c27 ?k27 ?i28 ?l28 ?c28 ?k28 ?i29 ?l29 ?c29 ?k29 ?i30 ?l30 ?c30 ?k30 ?i31 ?l31 ?c31 ?k31 ?i32 ?l32 ?c32 ?k32 ?i33 ?l33 ?c33 ?k33 ?a34 ?l34 ?c34 ?k34 ?a35 ?l35 ?c35 ?k35 ?a36 ?l36 ?c36 ?k36 ?a37 ?l37 ?c37 ?k37 ?a38 ?l38 ?c38 ?k38 ?a39 ?l39 ?c39 ?k39 ?a40 ?l40 ?c40 ?k40 ?a41 ?l41 ?c41 ?k41 ?a42 ?l42 ?c42 ?k42 ?a43 ?l43 ?c43 ?k43 ?a44 ?l44 ?c44 ?k44 ?a45 ?l45 ?c45 ?k45 ?a46 ?l46 ?c46 ?k46 ?pgLog ?hdLog ?poLog ?saLog ?mkLog ?kcLog ?pgDoing ?hdDoing ?poDoing ?saDoing ?mkDoing ?kcDoing ?pgDoer ?hdDoer ?poDoer ?saDoer ?mkDoer ?kcDoer ?pgLet ?hdLet ?poLet ?saLet ?mkLet ?kcLet ?haLet ?hmLet ?pgReckon ?hdReckon ?poReckon ?saReckon ?mkReckon ?kcReckon ?haReckon ?hmReckon ?pgTake ?hdTake ?poTake ?saTake ?mkTake ?kcTake ?haTake ?hmTake ?pgPut ?hdPut ?poPut ?saPut ?mkPut ?kcPut ?haPut ?hmPut ?pgIf ?hdIf ?poIf ?saIf ?haIf ?hmIf ?pgEither ?hdEither ?poEither ?saEither ?haEither ?hmEither ?pgTry ?hdTry ?poTry ?saTry ?haTry ?hmTry ?pgThrow ?hdThrow ?poThrow ?saThrow ?haThrow ?hmThrow ?pgWait ?hdWait ?poWait ?saWait ?mkWait ?kcWait ?ioWait ?haWait ?hmWait ?naLog_stack ?naLog_last_seen ?naDoing_held ?naDoing_width ?naDoing_log ?naDoing_found ?naLet_slot ?naReckon_slot ?naTake_slot ?naPut_slot ?naIf_slot ?naTry_slot ?naThrow_slot ?naLet_number ?naReckon_word ?naReckon_one ?naReckon_other ?naTake_place ?naPut_place ?naIf_parts ?naEither_parts ?naTry_parts ?naIf_others ?naEither_others ?naTry_others ?naTry_name ?naThrow_name ?sb3_4 ?ne3_4 ?sb3_5 ?ne3_5 ?sb3_6 ?ne3_6 ?sb3_7 ?ne3_7 ?sb3_8 ?ne3_8 ?sb3_9 ?ne3_9 ?sb3_10 ?ne3_10 ?sb3_11 ?ne3_11 ?sb4_3 ?ne4_3 ?sb4_5 ?ne4_5 ?sb4_6 ?ne4_6 ?sb4_7 ?ne4_7 ?sb4_8 ?ne4_8 ?sb4_9 ?ne4_9 ?sb4_10 ?ne4_10 ?sb4_11 ?ne4_11 ?sb5_3 ?ne5_3 ?sb5_4 ?ne5_4 ?sb5_6 ?ne5_6 ?sb5_7 ?ne5_7 ?sb5_8 ?ne5_8 ?sb5_9 ?ne5_9 ?sb5_10 ?ne5_10 ?sb5_11 ?ne5_11 ?sb6_3 ?ne6_3 ?sb6_4 ?ne6_4 ?sb6_5 ?ne6_5 ?sb6_7 ?ne6_7 ?sb6_8 ?ne6_8 ?sb6_9 ?ne6_9 ?sb6_10 ?ne6_10 ?sb6_11 ?ne6_11 ?ty3 ?ty4 ?ty5 ?ty6 ?ty7 ?ty8 ?ty9 ?ty10 ?ty11 ?hn ?htk ?z1 ?z2 ?z3 ?z4 ?z5 ?z6 ?z7 ?z8 ?z9 ?z10 ?z11 ?z12 ?q1 ?qk1 ?q2 ?q3 ?qk3 ?q4
  (case nCLog => k_is)
  (case nCDoing => k_is)
  (case nCDoer => k_is)
  (case nCLet => k_is)
  (case nCReckon => k_is)
  (case nCTake => k_is)
  (case nCPut => k_is)
  (case nCIf => k_is)
  (case nCEither => k_is)
  (case nCTry => k_is)
  (case nCThrow => k_is)
  (case nCWait => k_is)
  (case ygb => k_is)
  (case yeO => k_is)
  (case yft => k_is)
  (case ygc => k_is)
  (case yeC => k_is)
  (case yfu => k_is)
  (case ygd => k_is)
  (case yik => k_is)
  (case ykC => k_is)
  (case yil => k_is)
  (case yhz => k_is)
  (case yjd => k_is)
  (case ykD => k_is)
  (case ykE => k_is)
  (case yim => k_is)
  (case fs_Doing_held_in => k_is)
  (case fs_Doing_hold => k_is)
  (case fs_Doing_box_at => k_is)
  (case fs_Doing_do_reckon => k_is)
  (case fs_Doing_do_put => k_is)
  (case fs_Doing_sees_at => k_is)
  (case fs_Doing_take_own => k_is)
  (case fs_Doing_take_seen => k_is)
  (case yeD => k_is)
  (case yea => k_is)
  (case yeP => k_is)
  (case yeQ => k_is)
  (case yge => k_is)
  (case yeb => k_is)
  (case yfv => k_is)
  (case ydF => k_is)
  (case cr_Doer => k_is)
  (case cc_Doer => k_is)
  (case cs_Doer => k_is)
  (case i1 => k_is)
  (case l1 => k_is)
  (case c1 => k_is)
  (case k1 => k_is)
  (case i2 => k_is)
  (case l2 => k_is)
  (case c2 => k_is)
  (case k2 => k_is)
  (case i3 => k_is)
  (case l3 => k_is)
  (case c3 => k_is)
  (case k3 => k_is)
  (case i4 => k_is)
  (case l4 => k_is)
  (case c4 => k_is)
  (case k4 => k_is)
  (case i5 => k_is)
  (case l5 => k_is)
  (case c5 => k_is)
  (case k5 => k_is)
  (case i6 => k_is)
  (case l6 => k_is)
  (case c6 => k_is)
  (case k6 => k_is)
  (case i7 => k_is)
  (case l7 => k_is)
  (case c7 => k_is)
  (case k7 => k_is)
  (case i8 => k_is)
  (case l8 => k_is)
  (case c8 => k_is)
  (case k8 => k_is)
  (case i9 => k_is)
  (case l9 => k_is)
  (case c9 => k_is)
  (case k9 => k_is)
  (case a10 => k_is)
  (case l10 => k_is)
  (case c10 => k_is)
  (case k10 => k_is)
  (case a11 => k_is)
  (case l11 => k_is)
  (case c11 => k_is)
  (case k11 => k_is)
  (case i12 => k_is)
  (case l12 => k_is)
  (case c12 => k_is)
  (case k12 => k_is)
  (case i13 => k_is)
  (case l13 => k_is)
  (case c13 => k_is)
  (case k13 => k_is)
  (case i14 => k_is)
  (case l14 => k_is)
  (case c14 => k_is)
  (case k14 => k_is)
  (case i15 => k_is)
  (case l15 => k_is)
  (case c15 => k_is)
  (case k15 => k_is)
  (case i16 => k_is)
  (case l16 => k_is)
  (case c16 => k_is)
  (case k16 => k_is)
  (case i17 => k_is)
  (case l17 => k_is)
  (case c17 => k_is)
  (case k17 => k_is)
  (case i18 => k_is)
  (case l18 => k_is)
  (case c18 => k_is)
  (case k18 => k_is)
  (case i19 => k_is)
  (case l19 => k_is)
  (case c19 => k_is)
  (case k19 => k_is)
  (case i20 => k_is)
  (case l20 => k_is)
  (case c20 => k_is)
  (case k20 => k_is)
  (case i21 => k_is)
  (case l21 => k_is)
  (case c21 => k_is)
  (case k21 => k_is)
  (case i22 => k_is)
  (case l22 => k_is)
  (case c22 => k_is)
  (case k22 => k_is)
  (case i23 => k_is)
  (case l23 => k_is)
  (case c23 => k_is)
  (case k23 => k_is)
  (case i24 => k_is)
  (case l24 => k_is)
  (case c24 => k_is)
  (case k24 => k_is)
  (case i25 => k_is)
  (case l25 => k_is)
  (case c25 => k_is)
  (case k25 => k_is)
  (case i26 => k_is)
  (case l26 => k_is)
  (case c26 => k_is)
  (case k26 => k_is)
  (case i27 => k_is)
  (case l27 => k_is)
  (case c27 => k_is)
  (case k27 => k_is)
  (case i28 => k_is)
  (case l28 => k_is)
  (case c28 => k_is)
  (case k28 => k_is)
  (case i29 => k_is)
  (case l29 => k_is)
  (case c29 => k_is)
  (case k29 => k_is)
  (case i30 => k_is)
  (case l30 => k_is)
  (case c30 => k_is)
  (case k30 => k_is)
  (case i31 => k_is)
  (case l31 => k_is)
  (case c31 => k_is)
  (case k31 => k_is)
  (case i32 => k_is)
  (case l32 => k_is)
  (case c32 => k_is)
  (case k32 => k_is)
  (case i33 => k_is)
  (case l33 => k_is)
  (case c33 => k_is)
  (case k33 => k_is)
  (case a34 => k_is)
  (case l34 => k_is)
  (case c34 => k_is)
  (case k34 => k_is)
  (case a35 => k_is)
  (case l35 => k_is)
  (case c35 => k_is)
  (case k35 => k_is)
  (case a36 => k_is)
  (case l36 => k_is)
  (case c36 => k_is)
  (case k36 => k_is)
  (case a37 => k_is)
  (case l37 => k_is)
  (case c37 => k_is)
  (case k37 => k_is)
  (case a38 => k_is)
  (case l38 => k_is)
  (case c38 => k_is)
  (case k38 => k_is)
  (case a39 => k_is)
  (case l39 => k_is)
  (case c39 => k_is)
  (case k39 => k_is)
  (case a40 => k_is)
  (case l40 => k_is)
  (case c40 => k_is)
  (case k40 => k_is)
  (case a41 => k_is)
  (case l41 => k_is)
  (case c41 => k_is)
  (case k41 => k_is)
  (case a42 => k_is)
  (case l42 => k_is)
  (case c42 => k_is)
  (case k42 => k_is)
  (case a43 => k_is)
  (case l43 => k_is)
  (case c43 => k_is)
  (case k43 => k_is)
  (case a44 => k_is)
  (case l44 => k_is)
  (case c44 => k_is)
  (case k44 => k_is)
  (case a45 => k_is)
  (case l45 => k_is)
  (case c45 => k_is)
  (case k45 => k_is)
  (case a46 => k_is)
  (case l46 => k_is)
  (case c46 => k_is)
  (case k46 => k_is)
  (case pgLog => k_is)
  (case hdLog => k_is)
  (case poLog => k_is)
  (case saLog => k_is)
  (case mkLog => k_is)
  (case kcLog => k_is)
  (case pgDoing => k_is)
  (case hdDoing => k_is)
  (case poDoing => k_is)
  (case saDoing => k_is)
  (case mkDoing => k_is)
  (case kcDoing => k_is)
  (case pgDoer => k_is)
  (case hdDoer => k_is)
  (case poDoer => k_is)
  (case saDoer => k_is)
  (case mkDoer => k_is)
  (case kcDoer => k_is)
  (case pgLet => k_is)
  (case hdLet => k_is)
  (case poLet => k_is)
  (case saLet => k_is)
  (case mkLet => k_is)
  (case kcLet => k_is)
  (case haLet => k_is)
  (case hmLet => k_is)
  (case pgReckon => k_is)
  (case hdReckon => k_is)
  (case poReckon => k_is)
  (case saReckon => k_is)
  (case mkReckon => k_is)
  (case kcReckon => k_is)
  (case haReckon => k_is)
  (case hmReckon => k_is)
  (case pgTake => k_is)
  (case hdTake => k_is)
  (case poTake => k_is)
  (case saTake => k_is)
  (case mkTake => k_is)
  (case kcTake => k_is)
  (case haTake => k_is)
  (case hmTake => k_is)
  (case pgPut => k_is)
  (case hdPut => k_is)
  (case poPut => k_is)
  (case saPut => k_is)
  (case mkPut => k_is)
  (case kcPut => k_is)
  (case haPut => k_is)
  (case hmPut => k_is)
  (case pgIf => k_is)
  (case hdIf => k_is)
  (case poIf => k_is)
  (case saIf => k_is)
  (case haIf => k_is)
  (case hmIf => k_is)
  (case pgEither => k_is)
  (case hdEither => k_is)
  (case poEither => k_is)
  (case saEither => k_is)
  (case haEither => k_is)
  (case hmEither => k_is)
  (case pgTry => k_is)
  (case hdTry => k_is)
  (case poTry => k_is)
  (case saTry => k_is)
  (case haTry => k_is)
  (case hmTry => k_is)
  (case pgThrow => k_is)
  (case hdThrow => k_is)
  (case poThrow => k_is)
  (case saThrow => k_is)
  (case haThrow => k_is)
  (case hmThrow => k_is)
  (case pgWait => k_is)
  (case hdWait => k_is)
  (case poWait => k_is)
  (case saWait => k_is)
  (case mkWait => k_is)
  (case kcWait => k_is)
  (case ioWait => k_is)
  (case haWait => k_is)
  (case hmWait => k_is)
  (case naLog_stack => k_is)
  (case naLog_last_seen => k_is)
  (case naDoing_held => k_is)
  (case naDoing_width => k_is)
  (case naDoing_log => k_is)
  (case naDoing_found => k_is)
  (case naLet_slot => k_is)
  (case naReckon_slot => k_is)
  (case naTake_slot => k_is)
  (case naPut_slot => k_is)
  (case naIf_slot => k_is)
  (case naTry_slot => k_is)
  (case naThrow_slot => k_is)
  (case naLet_number => k_is)
  (case naReckon_word => k_is)
  (case naReckon_one => k_is)
  (case naReckon_other => k_is)
  (case naTake_place => k_is)
  (case naPut_place => k_is)
  (case naIf_parts => k_is)
  (case naEither_parts => k_is)
  (case naTry_parts => k_is)
  (case naIf_others => k_is)
  (case naEither_others => k_is)
  (case naTry_others => k_is)
  (case naTry_name => k_is)
  (case naThrow_name => k_is)
  (case sb3_4 => k_is)
  (case ne3_4 => decide)
  (case sb3_5 => k_is)
  (case ne3_5 => decide)
  (case sb3_6 => k_is)
  (case ne3_6 => decide)
  (case sb3_7 => k_is)
  (case ne3_7 => decide)
  (case sb3_8 => k_is)
  (case ne3_8 => decide)
  (case sb3_9 => k_is)
  (case ne3_9 => decide)
  (case sb3_10 => k_is)
  (case ne3_10 => decide)
  (case sb3_11 => k_is)
  (case ne3_11 => decide)
  (case sb4_3 => k_is)
  (case ne4_3 => decide)
  (case sb4_5 => k_is)
  (case ne4_5 => decide)
  (case sb4_6 => k_is)
  (case ne4_6 => decide)
  (case sb4_7 => k_is)
  (case ne4_7 => decide)
  (case sb4_8 => k_is)
  (case ne4_8 => decide)
  (case sb4_9 => k_is)
  (case ne4_9 => decide)
  (case sb4_10 => k_is)
  (case ne4_10 => decide)
  (case sb4_11 => k_is)
  (case ne4_11 => decide)
  (case sb5_3 => k_is)
  (case ne5_3 => decide)
  (case sb5_4 => k_is)
  (case ne5_4 => decide)
  (case sb5_6 => k_is)
  (case ne5_6 => decide)
  (case sb5_7 => k_is)
  (case ne5_7 => decide)
  (case sb5_8 => k_is)
  (case ne5_8 => decide)
  (case sb5_9 => k_is)
  (case ne5_9 => decide)
  (case sb5_10 => k_is)
  (case ne5_10 => decide)
  (case sb5_11 => k_is)
  (case ne5_11 => decide)
  (case sb6_3 => k_is)
  (case ne6_3 => decide)
  (case sb6_4 => k_is)
  (case ne6_4 => decide)
  (case sb6_5 => k_is)
  (case ne6_5 => decide)
  (case sb6_7 => k_is)
  (case ne6_7 => decide)
  (case sb6_8 => k_is)
  (case ne6_8 => decide)
  (case sb6_9 => k_is)
  (case ne6_9 => decide)
  (case sb6_10 => k_is)
  (case ne6_10 => decide)
  (case sb6_11 => k_is)
  (case ne6_11 => decide)
  (case ty3 => k_is)
  (case ty4 => k_is)
  (case ty5 => k_is)
  (case ty6 => k_is)
  (case ty7 => k_is)
  (case ty8 => k_is)
  (case ty9 => k_is)
  (case ty10 => k_is)
  (case ty11 => k_is)
  (case hn => k_is)
  (case htk => k_is)
  (case z1 => k_is)
  (case z2 => k_is)
  (case z3 => k_is)
  (case z4 => k_is)
  (case z5 => k_is)
  (case z6 => k_is)
  (case z7 => k_is)
  (case z8 => k_is)
  (case z9 => k_is)
  (case z10 => k_is)
  (case z11 => k_is)
  (case z12 => k_is)
  (case q1 => k_is)
  (case qk1 => k_is)
  (case q2 => k_is)
  (case q3 => k_is)
  (case qk3 => k_is)
  (case q4 => k_is)
