import PyProof.Rows.All
import Wide.All
import OpenK.AllK
import Wide.FinOn
import Lean
import PyProof.EqAt
import PyProof.EqKinds
import PyProof.TupleCall
import PySem.Challenge.RW_retryhall_k18_alone_try
set_option Elab.async false
set_option linter.all false
set_option maxRecDepth 100000
set_option maxHeartbeats 4000000
open PySem.W (fnOf findIn keepIn subIn codeIn nsIn isFn mg_of plainGet hasDictIn makesIn plainOver instObj typeIn emptyDict mroIn mg_none_of kia_one)
local macro_rules | `(tactic| rfl')=>`(tactic| decide +kernel)
noncomputable section
namespace L2
open PySem PySem.Spec PyProof.Rows
abbrev Key:=Sum Int Str
def ytN:Key->Value->Bool
 | .inl k,v=>Value.isInt k v
 | .inr x,v=>Value.isStrOf x v
def yLQ (w:World):Key->Int
 | .inl k=>hashInt k
 | .inr x=>hashStr w x
theorem ybV:∀ {k:Key}{v:Value},ytN k v=true->(∃ i t,k=Sum.inl i/\v=Value.int i t)\/(∃ x t,k=Sum.inr x/\v=Value.str x t)
 | .inl i,v,h=>by
  obtain ⟨t,e⟩:=Value.isInt_shape (k:=i) (v:=v) h
  exact .inl ⟨i,t,rfl,e⟩
 | .inr x,v,h=>by
  obtain ⟨t,e⟩:=Value.isStrOf_shape (x:=x) (v:=v) h
  exact .inr ⟨x,t,rfl,e⟩
theorem yxv (i:Int) (t:Tok):ytN (.inl i) (.int i t)=true:=by simp [ytN,Value.isInt]
theorem yxw (x:Str) (t:Tok):ytN (.inr x) (.str x t)=true:=by simp [ytN,Value.isStrOf]
theorem yGr (a b:Int):decide ((Sum.inl a:Key)=Sum.inl b)=(a == b):=by
 by_cases e:a=b
 .subst e;simp
 .have h:¬ (Sum.inl a:Key)=Sum.inl b:=fun q=>e (Sum.inl.inj q)
  rw [decide_eq_false h]
  exact (beq_eq_false_iff_ne.mpr e).symm
theorem yGs (a b:Str):decide ((Sum.inr a:Key)=Sum.inr b)=decide (a=b):=by
 by_cases e:a=b
 .subst e;simp
 .have h:¬ (Sum.inr a:Key)=Sum.inr b:=fun q=>e (Sum.inr.inj q)
  rw [decide_eq_false h,decide_eq_false e]
theorem yGt (a:Int) (b:Str):decide ((Sum.inl a:Key)=Sum.inr b)=false:=decide_eq_false (fun q=>nomatch q)
theorem yGu (a:Str) (b:Int):decide ((Sum.inr a:Key)=Sum.inl b)=false:=decide_eq_false (fun q=>nomatch q)
noncomputable def ydp (prog:Program) (w:World):PySem.KeyKind prog w Key where
 is:=ytN
 hash:=yLQ w
 inj:=fun v a b ha hb=>by
  rcases ybV ha with ⟨i,t,rfl,rfl⟩|⟨x,t,rfl,rfl⟩
  .rcases ybV hb with ⟨j,u,rfl,e⟩|⟨y,u,rfl,e⟩
   .injection e with e1 _;rw [e1]
   .exact nomatch e
  .rcases ybV hb with ⟨j,u,rfl,e⟩|⟨y,u,rfl,e⟩
   .exact nomatch e
   .injection e with e1 _;rw [e1]
 byValue:=fun k v h=>by
  rcases ybV h with ⟨i,t,rfl,rfl⟩|⟨x,t,rfl,rfl⟩<;>rfl
 pyHash:=fun hv h=>by
  rcases ybV hv with ⟨i,t,rfl,rfl⟩|⟨x,t,rfl,rfl⟩
  .exact wpAny_pyHash_int h
  .exact wpAny_pyHash_str h
 eqBool:=fun hu hv h=>by
  rcases ybV hu with ⟨i,t,rfl,rfl⟩|⟨x,t,rfl,rfl⟩
  .rcases ybV hv with ⟨j,u,rfl,rfl⟩|⟨y,u,rfl,rfl⟩
   .rw [yGr] at h;exact wpAny_eqBool_int h
   .rw [yGt] at h;exact SeqAt.EqAt.int_str i t y u _ _ _ _ h
  .rcases ybV hv with ⟨j,u,rfl,rfl⟩|⟨y,u,rfl,rfl⟩
   .rw [yGu] at h;exact SeqAt.EqAt.str_int x t j u _ _ _ _ h
   .rw [yGs] at h;exact wpAny_eqBool_str h
 «strs»:=fun k x t v h=>by
  rcases ybV h with ⟨i,u,rfl,e⟩|⟨y,u,rfl,e⟩
  .exact nomatch e
  .injection e with e1 _
   subst e1
   cases v<;>rfl
theorem ytO (prog:Program) (w:World) (i:Int) (t:Tok):(ydp prog w).is (.inl i) (.int i t)=true:=yxv i t
theorem ytP (prog:Program) (w:World) (x:Str) (t:Tok):(ydp prog w).is (.inr x) (.str x t)=true:=yxw x t
end L2
namespace L2
open PySem PySem.Spec PyProof.Rows
inductive V where
 | non|bl (b:Bool)|int (i:Int)|str (x:Str)|byt (b:Array UInt8)|flt (b:UInt64)|ref (a:Addr)|ty (n:String)
 deriving DecidableEq
noncomputable def RelV:V->Value->Prop
 | .non,u=>u=Value.none
 | .bl b,u=>u=Value.bool b
 | .int i,u=>∃ t,u=Value.int i t
 | .str x,u=>∃ t,u=Value.str x t
 | .byt b,u=>∃ t,u=Value.bytes b t
 | .flt b,u=>∃ t,u=Value.float b t
 | .ref a,u=>u=Value.ref a
 | .ty n,u=>u=Value.type n
abbrev Vals:List V->List Value->Prop:=Paired RelV
theorem Vals.length {xs:List V}{us:List Value}(r:Vals xs us):xs.length=us.length:=Paired.length r
theorem Vals.get:∀ {xs:List V}{us:List Value}{i:Nat}{x:V},Vals xs us->xs[i]?=some x->∃ u,us[i]?=some u/\RelV x u
 | _,_,_,_,.nil,e=>by simp at e
 | _,_,0,_,.cons r _,e=>by simp at e;subst e;exact ⟨_,rfl,r⟩
 | _,_,i+1,x,.cons _ t,e=>by
  obtain ⟨u,h1,h2⟩:=Vals.get (i:=i) (x:=x) t (by simpa using e)
  exact ⟨u,by simpa using h1,h2⟩
theorem Vals.set {x:V}{u:Value}(r:RelV x u):∀ {xs:List V}{us:List Value}(i:Nat),Vals xs us->Vals (xs.set i x) (us.set i u)
 | _,_,_,.nil=>.nil
 | _,_,0,.cons _ t=>.cons r t
 | _,_,i+1,.cons q t=>.cons q (Vals.set r i t)
theorem Vals.append:∀ {xs ys:List V}{us ws:List Value},Vals xs us->Vals ys ws->Vals (xs++ys) (us++ws)
 | _,_,_,_,.nil,s=>s
 | _,_,_,_,.cons r t,s=>.cons r (Vals.append t s)
theorem Vals.take:∀ {xs:List V}{us:List Value}(n:Nat),Vals xs us->Vals (xs.take n) (us.take n)
 | _,_,0,_=>.nil
 | _,_,_+1,.nil=>.nil
 | _,_,n+1,.cons r t=>.cons r (Vals.take n t)
theorem Vals.drop:∀ {xs:List V}{us:List Value}(n:Nat),Vals xs us->Vals (xs.drop n) (us.drop n)
 | _,_,0,r=>r
 | _,_,_+1,.nil=>.nil
 | _,_,n+1,.cons _ t=>Vals.drop n t
def RelO:Option V->Option Value->Prop
 | some v,some u=>RelV v u
 | none,none=>True
 | _,_=>False
def KV {κ:Type}:List (κ×V)->List (κ×Value)->Prop:=Paired fun (p:κ×V) (q:κ×Value)=>p.1=q.1/\RelV p.2 q.2
def kV:Key->V
 | .inl i=>.int i
 | .inr x=>.str x
inductive HO where
 | lst (xs:List V)
 | tup (xs:List V)
 | dK (kvs:List (Key×V))|dT (kvs:List (List Key×V))
 | set (S:Int->Bool) (n:Nat)
 | ins (C dx:Addr) (fs:List (Str×V))
 | own (x:Addr)
 | xd (fs:List (Str×V))
 | met (f x:Addr)
 | rng (lo hi:Int)
 | frz (o:Obj) (u:HO)
 | tbl (ps:Array Value)
 | ext (φ:Heap->Prop)
abbrev Hp:=Addr->Option HO
def upd (H:Hp) (a:Addr) (o:HO):Hp:=fun b=>if b=a then some o else H b
theorem yQ {H:Hp}{a:Addr}{o:HO}:upd H a o a=some o:=by unfold upd;rw [if_pos rfl]
theorem ybc {H:Hp}{a b:Addr}{o:HO}(h:b≠a):upd H a o b=H b:=by unfold upd;rw [if_neg h]
theorem yJi {H:Hp}{a b:Addr}{o u:HO}(h:H a=some o) (h':H b=some u) (d:o≠u):a≠b:=by
 intro e;subst e;rw [h] at h';exact d (Option.some.inj h')
theorem yck {H:Hp}{a b:Addr}{o:HO}(h:H a=some o) (h':H b=none):a≠b:=by
 intro e;subst e;rw [h] at h';cases h'
section
variable (P:Program) (w:World)
noncomputable def ObjOk (H:Hp) (h:Heap) (a:Addr):HO->Prop
 | .lst xs=>xs.length<=sizeLine/\∃ (its:List Value) (n:Nat),Vals xs its/\h.get? a=some { cls:=.type "list",data:=.seq its.toArray n }
 | .tup xs=>xs.length<=sizeLine/\∃ its:List Value,Vals xs its/\IsTup h a its.toArray
 | .dK kvs=>kvs.length<=sizeLine/\(a == sysModules)=false/\∃ vs,KV kvs vs/\h.DictOf (ydp P w) a vs
 | .dT kvs=>kvs.length<=sizeLine/\(a == sysModules)=false/\∃ xs:List (List Key×Addr×Value),
   Paired (fun (p:List Key×V) (q:List Key×Addr×Value)=>p.1=q.1/\H q.2.1=some (.tup (p.1.map kV))/\RelV p.2 q.2.2) kvs xs /\
   ∃ o es ep,h.get? a=some o/\o.ExactDict/\o.data=.dict es ep/\es.toList=xs.map (entryOfKey (tupleKind (ydp P w)))/\(xs.map (·.1)).Nodup
 | .set S n=>h.SetOf (intKind P w) a S n
 | .ins C dx fs=>H dx=some (.own a)/\fs.length<=1000/\dx≠a/\h.get? a=some (instObj C dx) /\
   ∃ mA,h.Ns1 dx mA/\(∀ f,RelO (fs.lookup f) (mA f))/\PySem.Within mA (fs.map (·.1))
 | .own _=>∃ o,h.get? a=some o
 | .xd fs=>∃ mA,h.Ns1 a mA/\∀ f,RelO (fs.lookup f) (mA f)
 | .rng lo hi=>∃ t u v,h.get? a=some { cls:=.type "range",data:=.fields #[.int lo t,.int hi u,.int 1 v] }
 | .frz o u=>h.get? a=some o/\ObjOk H h a u
 | .tbl ps=>h.get? a=some { cls:=.none,data:=.fields ps }
 | .met f x=>h.get? a=some (PySem.W.methodObj (.ref f) (.ref x))
 | .ext φ=>φ h/\(∃ o,h.get? a=some o)/\∀ h1 h2:Heap,φ h1->(∀ o,h1.get? a=some o->h2.get? a=some o)->φ h2
def HOk (H:Hp) (h:Heap):Prop:=∀ a o,H a=some o->ObjOk P w H h a o
end
section
variable {P:Program}{w:World}{H H':Hp}{h h':Heap}{a:Addr}{o:HO}
theorem ObjOk.lt (x:ObjOk P w H h a o):a<h.objs.size:=by
 cases o with
 | lst xs=>obtain ⟨_,_,_,_,e⟩:=x;exact Heap.lt_size e
 | tup xs=>obtain ⟨_,_,_,p⟩:=x;exact p.lt
 | dK kvs=>obtain ⟨_,_,_,_,o,_,_,e,_⟩:=x;exact Heap.lt_size e
 | dT kvs=>obtain ⟨_,_,_,_,o,_,_,e,_⟩:=x;exact Heap.lt_size e
 | set S n=>obtain ⟨o,_,_,_,e,_⟩:=x;exact Heap.lt_size e
 | ins C dx fs=>obtain ⟨_,_,_,e,_⟩:=x;exact Heap.lt_size e
 | own y=>obtain ⟨_,e⟩:=x;exact Heap.lt_size e
 | xd fs=>obtain ⟨_,⟨_,_,_,e,_⟩,_⟩:=x;exact Heap.lt_size e
 | rng lo hi=>obtain ⟨_,_,_,e⟩:=x;exact Heap.lt_size e
 | frz ob u=>obtain ⟨e,_⟩:=x;exact Heap.lt_size e
 | tbl ps=>exact Heap.lt_size (show h.get? a=some _ from x)
 | met f y=>exact Heap.lt_size (show h.get? a=some _ from x)
 | ext φ=>obtain ⟨_,⟨_,e⟩,_⟩:=x;exact Heap.lt_size e
theorem Paired.mapP {α β:Type}{F G:α->β->Prop}:∀ {l₁:List α}{l₂:List β},Paired F l₁ l₂->(∀ a b,F a b->G a b)->Paired G l₁ l₂
 | _,_,.nil,_=>.nil
 | _,_,.cons r t,f=>.cons (f _ _ r) (Paired.mapP t f)
theorem ObjOk.stay (x:ObjOk P w H h a o) (k:∀ b u,(b=a\/H b=some (.own a))->h.get? b=some u->h'.get? b=some u)
  (ho:∀ b,H b=some (.own a)->H' b=some (.own a)) (ht:∀ b xs,H b=some (.tup xs)->H' b=some (.tup xs)):ObjOk P w H' h' a o:=by
 induction o with
 | lst xs=>obtain ⟨z,its,n,r,e⟩:=x;exact ⟨z,its,n,r,k _ _ (.inl rfl) e⟩
 | tup xs=>obtain ⟨z,its,r,ob,e,c⟩:=x;exact ⟨z,its,r,ob,k _ _ (.inl rfl) e,c⟩
 | dK kvs=>obtain ⟨z,y,vs,r,ob,es,ep,e,c⟩:=x;exact ⟨z,y,vs,r,ob,es,ep,k _ _ (.inl rfl) e,c⟩
 | dT kvs =>
  obtain ⟨z,y,xs,r,ob,es,ep,e,c⟩:=x
  exact ⟨z,y,xs,Paired.mapP r fun p q z=>⟨z.1,ht _ _ z.2.1,z.2.2⟩,ob,es,ep,k _ _ (.inl rfl) e,c⟩
 | set S n=>obtain ⟨ob,es,ep,t,e,c⟩:=x;exact ⟨ob,es,ep,t,k _ _ (.inl rfl) e,c⟩
 | ins C dx fs =>
  obtain ⟨d,z,ne,e,mA,⟨od,es,ep,e2,c⟩,r⟩:=x
  exact ⟨ho _ d,z,ne,k _ _ (.inl rfl) e,mA,⟨od,es,ep,k _ _ (.inr d) e2,c⟩,r⟩
 | own y=>obtain ⟨ob,e⟩:=x;exact ⟨ob,k _ _ (.inl rfl) e⟩
 | xd fs=>obtain ⟨mA,⟨od,es,ep,e,c⟩,r⟩:=x;exact ⟨mA,⟨od,es,ep,k _ _ (.inl rfl) e,c⟩,r⟩
 | rng lo hi=>obtain ⟨t,u,v,e⟩:=x;exact ⟨t,u,v,k _ _ (.inl rfl) e⟩
 | frz ob u ih=>obtain ⟨e,q⟩:=x;exact ⟨k _ _ (.inl rfl) e,ih q⟩
 | tbl ps =>
  have e:h.get? a=some { cls:=.none,data:=.fields ps }:=x
  show h'.get? a=some { cls:=.none,data:=.fields ps }
  exact k a _ (.inl rfl) e
 | met f y =>
  have e:h.get? a=some (PySem.W.methodObj (.ref f) (.ref y)):=x
  show h'.get? a=some (PySem.W.methodObj (.ref f) (.ref y))
  exact k a _ (.inl rfl) e
 | ext φ=>obtain ⟨p,⟨o,e⟩,st⟩:=x;exact ⟨st _ _ p fun o q=>k _ _ (.inl rfl) q,⟨o,k _ _ (.inl rfl) e⟩,st⟩
theorem HOk.lt (x:HOk P w H h) (e:H a=some o):a<h.objs.size:=(x a o e).lt
theorem HOk.fresh (x:HOk P w H h) (e:h.objs.size<=a):H a=none:=by
 cases q:H a with
 | none=>rfl
 | some u=>exact absurd (Nat.lt_of_lt_of_le (x.lt q) e) (Nat.lt_irrefl _)
theorem HOk.kept (x:HOk P w H h) (k:∀ b u,h.get? b=some u->h'.get? b=some u):HOk P w H h':=fun a o e =>
 (x a o e).stay (fun b u _ q=>k b u q) (fun _ q=>q) fun _ _ q=>q
theorem HOk.laid (x:HOk P w H h) (k:∀ b u,h.get? b=some u->h'.get? b=some u) (hp:h.objs.size<=a) (new:ObjOk P w (upd H a o) h' a o):HOk P w (upd H a o) h':=fun b u e=>by
 have hn:=x.fresh hp
 by_cases hb:b=a
 .subst hb;rw [yQ] at e;cases e;exact new
 .rw [ybc hb] at e
  exact (x b u e).stay (fun c v _ q=>k c v q) (fun c q=>by rw [ybc (yck q hn)];exact q) fun c xs q=>by rw [ybc (yck q hn)];exact q
end
def Rd (H:Hp) (a:Addr) (u:HO):Prop:=H a=some u\/∃ o,H a=some (.frz o u)
theorem Rd.ok {P:Program}{w:World}{H:Hp}{h:Heap}{a:Addr}{u:HO}(r:Rd H a u) (x:HOk P w H h):ObjOk P w H h a u:=by
 rcases r with r|⟨o,r⟩
 .exact x a u r
 .obtain ⟨_,q⟩:=x a _ r
  exact q
noncomputable def Mut:Option HO->Prop
 | some (.lst _)=>True
 | some (.dK _)=>True
 | some (.dT _)=>True
 | some (.set _ _)=>True
 | some (.ins _ _ _)=>True
 | some (.ext _)=>True
 | _=>False
section
variable {P:Program}{w:World}{H:Hp}{h h':Heap}{x e:Addr}{o':HO}
theorem HOk.write (ok:HOk P w H h) (mu:Mut (H x)) (he:e=x\/H e=some (.own x)) (k:∀ b u,b≠e->h.get? b=some u->h'.get? b=some u) (heo:∃ u,h'.get? e=some u)
  (new:ObjOk P w (upd H x o') h' x o'):HOk P w (upd H x o') h':=fun b u q=>by
 have nown:∀ c y,H c=some (.own y)->c≠x:=fun c y r z=>by subst z;rw [r] at mu;exact mu
 have ntup:∀ c xs,H c=some (.tup xs)->c≠x:=fun c xs r z=>by subst z;rw [r] at mu;exact mu
 by_cases hb:b=x
 .subst hb;rw [yQ] at q;cases q;exact new
 .rw [ybc hb] at q
  by_cases hbe:b=e
  .have q':H b=some (.own x):=by
    rcases he with z|z
    .exact absurd (hbe.trans z) hb
    .rw [hbe];exact z
   rw [q] at q';cases q'
   obtain ⟨v,hv⟩:=heo
   exact ⟨v,by rw [hbe];exact hv⟩
  .refine (ok b u q).stay (fun c v hc r=>k c v ?_ r) (fun c r=>by rw [ybc (nown c b r)];exact r) fun c xs r=>by rw [ybc (ntup c xs r)];exact r
   rcases hc with rfl|hc
   .exact hbe
   .rintro rfl
    rcases he with z|z
    .exact nown c b hc z
    .rw [hc] at z;cases z;exact hb rfl
end
structure Un (fs ex:List Addr) (H H':Hp) (h h':Heap):Prop where
 keep:∀ b o,h.get? b=some o->H b=none->b∉fs->b∉ex->h'.get? b=some o
 slot:∀ b o,h.get? b=some o->H b=none->b∈fs->b∉ex->∃ sl,h'.get? b=some { o with slots:=sl }
 free:∀ b o,h.get? b=some o->H b=none->b∉ex->H' b=none
 there:∀ b o,h.get? b=some o->b∉ex->∃ o',h'.get? b=some o'
 tups:∀ b xs,H b=some (.tup xs)->H' b=some (.tup xs)
 frzs:∀ b o u,H b=some (.frz o u)->H' b=some (.frz o u)
 tbls:∀ b ps,H b=some (.tbl ps)->∃ more,H' b=some (.tbl (ps++more))
section
variable {fs fs' ex ex':List Addr}{H H1 H2:Hp}{h h1 h2 h':Heap}{a x e:Addr}{o:HO}
theorem Un.any (u:Un fs ex H H1 h h1) {b:Addr}{ob:Obj}(q:h.get? b=some ob) (n:H b=none) (hx:b∉ex):∃ sl,h1.get? b=some { ob with slots:=sl }:=by
 by_cases hb:b∈fs
 .exact u.slot b ob q n hb hx
 .exact ⟨ob.slots,u.keep b ob q n hb hx⟩
theorem Un.kept (k:∀ b u,h.get? b=some u->h'.get? b=some u):Un fs ex H H h h' :=
 ⟨fun b ob q _ _ _=>k b ob q,fun b ob q _ _ _=>⟨ob.slots,k b ob q⟩,fun _ _ _ n _=>n,fun b ob q _=>⟨ob,k b ob q⟩,fun _ _ q=>q,fun _ _ _ q=>q,fun _ ps q=>⟨#[],by rw [q];simp⟩⟩
theorem Un.refl:Un fs ex H H h h:=Un.kept fun _ _ q=>q
theorem Un.laid (k:∀ b u,h.get? b=some u->h'.get? b=some u) (hp:h.objs.size<=a) (hn:H a=none):Un fs ex H (upd H a o) h h' where
 keep:=fun b u q _ _ _=>k b u q
 slot:=fun b u q _ _ _=>⟨u.slots,k b u q⟩
 free:=fun b u q n _=>by rw [ybc (Nat.ne_of_lt (Nat.lt_of_lt_of_le (Heap.lt_size q) hp))];exact n
 there:=fun b u q _=>⟨u,k b u q⟩
 tups:=fun b xs q=>by rw [ybc (yck q hn)];exact q
 frzs:=fun b u xs q=>by rw [ybc (yck q hn)];exact q
 tbls:=fun b ps q=>⟨#[],by rw [ybc (yck q hn),q];simp⟩
theorem Un.write (mu:Mut (H x)) (he:e=x\/H e=some (.own x)) (k:∀ b u,b≠e->h.get? b=some u->h'.get? b=some u) (heo:∃ u,h'.get? e=some u):Un fs ex H (upd H x o) h h':=by
 have hx:∀ b,H b=none->b≠x:=fun b n z=>by subst z;rw [n] at mu;exact mu
 have hb:∀ b,H b=none->b≠e:=fun b n z=>by
  subst z
  rcases he with r|r
  .exact hx b n r
  .rw [n] at r;cases r
 have hm:∀ b u,H b=some u->¬ Mut (some u)->b≠x:=fun b u q nm z=>by subst z;rw [q] at mu;exact nm mu
 refine ⟨fun b u q n _ _=>k b u (hb b n) q,fun b u q n _ _=>⟨u.slots,k b u (hb b n) q⟩,fun b u q n _=>by rw [ybc (hx b n)];exact n,fun b u q _=>?_,
  fun b xs q=>by rw [ybc (hm b _ q fun z=>z)];exact q,fun b u xs q=>by rw [ybc (hm b _ q fun z=>z)];exact q,fun b ps q=>⟨#[],by rw [ybc (hm b _ q fun z=>z),q];simp⟩⟩
 by_cases hbe:b=e
 .subst hbe;exact heo
 .exact ⟨u,k b u hbe q⟩
end
def trk (h:Heap) (H:Hp):List Addr:=(List.range h.objs.size).filter fun a=>(H a).isSome
def yAt (h:Heap) (H:Hp):Heap:=PySem.W.hideAll h (trk h H)
theorem yxx (h:Heap) (H:Hp):(yAt h H).objs.size=h.objs.size:=PySem.W.hideAll_size _ _
theorem yAu {h:Heap}{H:Hp}{b:Addr}{o:Obj}(e:h.get? b=some o) (n:H b=none):(yAt h H).get? b=some o :=
 PySem.W.hideAll_get _ e fun hm=>by
  have q:(H b).isSome=true:=(List.mem_filter.mp hm).2
  rw [n] at q;simp at q
theorem yDX {h:Heap}{H:Hp}{b:Addr}{o:Obj}(e:(yAt h H).get? b=some o):h.get? b=some o/\H b=none:=by
 have e':h.get? b=some o:=PySem.W.of_hideAll (trk h H) e
 refine ⟨e',?_⟩
 cases q:H b with
 | none=>rfl
 | some x =>
  have hm:b∈trk h H:=List.mem_filter.mpr ⟨List.mem_range.mpr (Heap.lt_size e'),by simp [q]⟩
  have z:(yAt h H).get? b=none:=PySem.W.hideAll_none (trk h H) hm
  rw [z] at e;cases e
noncomputable def yDY (g h:Heap) (L:Addr):List (Addr×Obj):=(List.range h.objs.size).filterMap fun a=>if a=L\/(g.get? a).isSome=true then none else (h.get? a).map fun o=>(a,o)
def rest (g h:Heap) (L d:Addr):List (Addr×Obj):=(yDY g h L).filter fun p=>decide (p.1≠d)
end L2
namespace L2
open PySem PySem.Spec PyProof.Rows
structure Mod (K:PySem.W.Frag) (mg:Str->Option Value) (base:Heap):Prop where
 kin:K.In base
 glob:base.Ns mainGlobals mg
 blt:∃ mb,base.Ns builtinsNs mb/\∀ x:Str,x≠"__name__"->mb x=bootBuiltins x
 nolimit:base.NoLimit
structure Cx where
 prog:Program
 w:World
 K:PySem.W.Frag
 mg:Str->Option Value
 base:Heap
 A:Around
 N:List Str
 s₀:Shared
 H₀:Hp
 env:Env
 outer:List Env
 stack:List Env
 ex:List Addr
 fn:Str->Bool
 calm:Bool
 pn:List (Addr×Obj)
 xe:Value->Shared->Prop
def frs (l:List Env):List Addr:=l.filterMap (·.frame)
abbrev Cx.fs (X:Cx):List Addr:=frs X.outer
noncomputable def Vis (sc:Scope) (x:Str):Prop:=sc.names.lookup x=some .local \/ sc.names.lookup x=some .cell\/sc.names.lookup x=some .free
def Loc (sc:Scope) (x:Str):Prop:=sc.names.lookup x=some .local \/ sc.names.lookup x=some .cell
noncomputable def Look (env:Env) (h:Heap) (m:Str->Option Value) (x:Str) (u:Value):Prop :=
 (env.kindOf x=some .local/\m x=some u)\/((env.kindOf x=some .cell\/env.kindOf x=some .free)/\∃ c,env.cells.lookup x=some c/\h.IsCell c (some u))
structure Cx.Ok (X:Cx):Prop where
 mod:Mod X.K X.mg X.base
 kind:X.env.scope.kind=.function
 glob:X.env.globals=mainGlobals
 blt:X.env.builtins=builtinsNs
 above:X.s₀.heap.objs.size<=X.env.locals
 inj:∀ x y c,X.env.cells.lookup x=some c->X.env.cells.lookup y=some c->x=y
 has:∀ x,(X.env.kindOf x=some .cell\/X.env.kindOf x=some .free)->∃ c,X.env.cells.lookup x=some c
 cab:∀ x c,X.fn x=true->X.env.cells.lookup x=some c->X.s₀.heap.objs.size<=c
 hd:X.calm=true->X.A.handled=none
 frames:X.A.frames=some X.stack
 stk:X.stack=X.outer\/(X.stack=X.env::X.outer/\X.env.frame=some X.env.locals)
 exf:∀ b∈X.ex,b≠X.env.locals/\∀ x c,X.env.cells.lookup x=some c->c≠b
 bs:∀ b o,X.base.get? b=some o->X.s₀.heap.get? b=some o/\X.H₀ b=none
 bsz:X.base.objs.size<=X.s₀.heap.objs.size
 noex:∀ b o,X.base.get? b=some o->b∉X.ex
 exfs:∀ b∈X.ex,b∉X.fs
 funs:X.s₀.heap.FunFrames X.base X.outer
 frf:∀ b∈X.fs,X.H₀ b=none
structure Inv (X:Cx) (pins:List (Addr×Obj)) (σ:List (Option V)) (H:Hp) (s:Shared):Prop where
 ok:X.Ok
 os:s.os=X.s₀.os
 bare:AllBare s.gens
 base:Un X.fs X.ex X.H₀ H X.s₀.heap s.heap
 loc:∃ m,s.heap.Ns X.env.locals m/\∀ (i:Nat) (x:Str) (v:V),X.N[i]?=some x->σ[i]?=some (some v)->Vis X.env.scope x->∃ u,RelV v u/\Look X.env s.heap m x u
 cell:∀ x c,X.env.cells.lookup x=some c->∃ v,s.heap.IsCell c v
 free:H X.env.locals=none
 freeC:∀ x c,X.env.cells.lookup x=some c->H c=none
 pin:∀ p∈X.pn++pins,s.heap.get? p.1=some p.2/\H p.1=none/\p.1≠X.env.locals/\p.1∉X.fs/\∀ v,p.2.data≠.cell v
 hok:HOk X.prog X.w H s.heap
 len:σ.length=X.N.length
section
variable {X:Cx}{pins:List (Addr×Obj)}{σ:List (Option V)}{H H':Hp}{s:Shared}{h':Heap}
theorem Cx.Ok.nofr (ok:X.Ok) {b:Addr}{o:Obj}(e:X.base.get? b=some o):b∉X.fs:=fun hb=>by
 have:=(ok.funs.mem hb).1
 rw [e] at this;cases this
theorem Inv.bs (I:Inv X pins σ H s):∀ b o,X.base.get? b=some o->s.heap.get? b=some o/\H b=none:=fun b o e =>
 ⟨I.base.keep b o (I.ok.bs b o e).1 (I.ok.bs b o e).2 (I.ok.nofr e) (I.ok.noex b o e),I.base.free b o (I.ok.bs b o e).1 (I.ok.bs b o e).2 (I.ok.noex b o e)⟩
theorem Inv.bk (I:Inv X pins σ H s):∀ b o,X.base.get? b=some o->s.heap.get? b=some o:=fun b o e=>(I.bs b o e).1
theorem Inv.mod (I:Inv X pins σ H s):Mod X.K X.mg X.base:=I.ok.mod
theorem Inv.kIn (I:Inv X pins σ H s):X.K.In s.heap:=I.ok.mod.kin.keeps I.bk
theorem Inv.lt (I:Inv X pins σ H s):X.env.locals<s.heap.objs.size:=let ⟨_,hn,_⟩:=I.loc;hn.lt
theorem Inv.sz (I:Inv X pins σ H s):X.s₀.heap.objs.size<=s.heap.objs.size:=Nat.le_trans I.ok.above (Nat.le_of_lt I.lt)
theorem Inv.nofs (I:Inv X pins σ H s) {a:Addr}(h:s.heap.objs.size<=a):a∉X.fs:=fun hb=>by
 obtain ⟨_,o,ho,_⟩:=I.ok.funs.mem hb
 exact absurd (Nat.lt_of_lt_of_le (Heap.lt_size ho) (Nat.le_trans I.sz h)) (Nat.lt_irrefl _)
theorem Inv.cne (I:Inv X pins σ H s):∀ x c,X.env.cells.lookup x=some c->c≠X.env.locals:=fun x c e z=>by
 obtain ⟨v,o,ho,hd⟩:=I.cell x c e
 obtain ⟨m,⟨o',es,ep,ho',hd',_⟩,_⟩:=I.loc
 rw [z,ho'] at ho;cases ho;rw [hd'] at hd;cases hd
theorem Inv.funs (I:Inv X pins σ H s):s.heap.FunFrames X.base X.outer:=by
 have all:∀ (l:List Env),(∀ b∈frs l,b∈X.fs)->X.s₀.heap.FunFrames X.base l->s.heap.FunFrames X.base l:=by
  intro l
  induction l with
  | nil=>intro _ _;trivial
  | cons env r ih =>
   intro hs hl
   obtain ⟨hk,⟨L,o,hf,hn,ho,hd⟩,hr⟩:=hl
   have hL:L∈X.fs:=hs L (by unfold frs;rw [List.filterMap_cons,hf];exact List.mem_cons_self)
   obtain ⟨sl,e⟩:=I.base.slot L o ho (I.ok.frf L hL) hL fun z=>I.ok.exfs L z hL
   exact ⟨hk,⟨L,_,hf,hn,e,hd⟩,ih (fun b hb=>hs b (by unfold frs;rw [List.filterMap_cons,hf];exact List.mem_cons_of_mem _ hb)) hr⟩
 exact all X.outer (fun _ hb=>hb) I.ok.funs
theorem Inv.stack (I:Inv X pins σ H s):s.heap.FunFrames X.base X.stack:=by
 rcases I.ok.stk with e|⟨e,hf⟩
 .rw [e];exact I.funs
 .rw [e]
  obtain ⟨m,hn,_⟩:=I.loc
  refine .cons (by rw [I.ok.kind];decide) hf hn ?_ I.funs
  exact Heap.get?_none_of_le (Nat.le_trans I.ok.bsz I.ok.above)
theorem Inv.stkSub (I:Inv X pins σ H s):∀ b∈frs X.stack,b∈X.env.locals::X.fs:=fun b hb=>by
 rcases I.ok.stk with e|⟨e,hf⟩
 .rw [e] at hb;exact List.mem_cons_of_mem _ hb
 .rw [e] at hb
  unfold frs at hb
  rw [List.filterMap_cons,hf] at hb
  exact hb
theorem Inv.stkFree (I:Inv X pins σ H s):∀ b∈frs X.stack,H b=none:=fun b hb=>by
 rcases List.mem_cons.mp (I.stkSub b hb) with e|hb
 .rw [e];exact I.free
 .obtain ⟨_,o,ho,_⟩:=I.ok.funs.mem hb
  exact I.base.free b o ho (I.ok.frf b hb) fun z=>I.ok.exfs b z hb
theorem Inv.step {g':Array GenState}{t':Nat}{d':Drawn}{ch:List Addr}(I:Inv X pins σ H s)
  (hch:∀ b∈ch,(b∈X.ex\/X.s₀.heap.objs.size<=b)/\b≠X.env.locals/\(∀ x c,X.env.cells.lookup x=some c->c≠b)/\∀ p∈X.pn++pins,p.1≠b)
  (keep:∀ b o,b≠X.env.locals->b∉X.fs->b∉ch->s.heap.get? b=some o->H b=none->h'.get? b=some o)
  (slot:∀ b o,b≠X.env.locals->b∈X.fs->b∉ch->s.heap.get? b=some o->H b=none->∃ sl,h'.get? b=some { o with slots:=sl }) (free:∀ b o,b∉ch->s.heap.get? b=some o->H b=none->H' b=none)
  (there:∀ b o,b∉ch->s.heap.get? b=some o->∃ o',h'.get? b=some o')
  (tups:∀ b xs,H b=some (.tup xs)->H' b=some (.tup xs)) (frzs:∀ b o u,H b=some (.frz o u)->H' b=some (.frz o u)) (tbls:∀ b ps,H b=some (.tbl ps)->∃ more,H' b=some (.tbl (ps++more)))
  (ns:∀ m,s.heap.Ns X.env.locals m->h'.Ns X.env.locals m) (hok:HOk X.prog X.w H' h') (hg:AllBare g') :
  Inv X pins σ H' { s with heap:=h',gens:=g',drawn:=d',toks:=t' }:=by
 have neL:∀ b o,X.s₀.heap.get? b=some o->b≠X.env.locals:=fun b o e=>Nat.ne_of_lt (Nat.lt_of_lt_of_le (Heap.lt_size e) I.ok.above)
 have neC:∀ b o,X.s₀.heap.get? b=some o->b∉X.ex->b∉ch:=fun b o e hx hb=>by
  rcases (hch b hb).1 with z|z
  .exact hx z
  .exact absurd (Nat.lt_of_lt_of_le (Heap.lt_size e) z) (Nat.lt_irrefl _)
 have cellK:∀ x c,X.env.cells.lookup x=some c->∀ v,s.heap.IsCell c v->h'.IsCell c v:=fun x c e v ⟨o,ho,hd⟩=>by
  have nch:c∉ch:=fun z=>(hch c z).2.2.1 x c e rfl
  by_cases hc:c∈X.fs
  .obtain ⟨sl,q⟩:=slot c o (I.cne x c e) hc nch ho (I.freeC x c e)
   exact ⟨_,q,hd⟩
  .exact ⟨o,keep c o (I.cne x c e) hc nch ho (I.freeC x c e),hd⟩
 refine ⟨I.ok,I.os,hg,⟨fun b o e n hb hx=>?_,fun b o e n hb hx=>?_,fun b o e n hx=>?_,fun b o e hx=>?_,fun b xs e=>tups b xs (I.base.tups b xs e),fun b o xs e=>frzs b o xs (I.base.frzs b o xs e),fun b ps e=>?_⟩,?_,fun x c e=>?_,?_,fun x c e=>?_,fun p hp=>?_,hok,I.len⟩
 .exact keep b o (neL b o e) hb (neC b o e hx) (I.base.keep b o e n hb hx) (I.base.free b o e n hx)
 .obtain ⟨sl,e1⟩:=I.base.slot b o e n hb hx
  obtain ⟨sl',e2⟩:=slot b _ (neL b o e) hb (neC b o e hx) e1 (I.base.free b o e n hx)
  exact ⟨sl',e2⟩
 .obtain ⟨o',e1⟩:=I.base.there b o e hx
  exact free b o' (neC b o e hx) e1 (I.base.free b o e n hx)
 .obtain ⟨o',e1⟩:=I.base.there b o e hx
  exact there b o' (neC b o e hx) e1
 .obtain ⟨m1,e1⟩:=I.base.tbls b ps e
  obtain ⟨m2,e2⟩:=tbls b _ e1
  exact ⟨m1++m2,by rw [e2,Array.append_assoc]⟩
 .obtain ⟨m,hn,hl⟩:=I.loc
  refine ⟨m,ns m hn,fun i x v e1 e2 e3=>?_⟩
  obtain ⟨u,r,l⟩:=hl i x v e1 e2 e3
  refine ⟨u,r,?_⟩
  rcases l with l|⟨k,c,e,z⟩
  .exact .inl l
  .exact .inr ⟨k,c,e,cellK x c e _ z⟩
 .obtain ⟨v,z⟩:=I.cell x c e
  exact ⟨v,cellK x c e v z⟩
 .obtain ⟨m,⟨o,_,_,ho,_⟩,_⟩:=I.loc
  exact free _ o (fun z=>(hch _ z).2.1 rfl) ho I.free
 .obtain ⟨v,o,ho,hd⟩:=I.cell x c e
  exact free c o (fun z=>(hch c z).2.2.1 x c e rfl) ho (I.freeC x c e)
 .obtain ⟨e,n,ne,nf,d⟩:=I.pin p hp
  have nch:p.1∉ch:=fun z=>(hch p.1 z).2.2.2 p hp rfl
  exact ⟨keep p.1 p.2 ne nf nch e n,free p.1 p.2 nch e n,ne,nf,d⟩
theorem Inv.un {t':Nat}(I:Inv X pins σ H s) (u:Un X.fs [] H H' s.heap h') (hok:HOk X.prog X.w H' h'):Inv X pins σ H' { s with heap:=h',toks:=t' }:=by
 obtain ⟨m,⟨o,es,ep,ho,r⟩,_⟩:=id I.loc
 obtain ⟨sl,hL⟩:=u.any ho I.free (by simp)
 exact I.step (g':=s.gens) (d':=s.drawn) (ch:=[]) (fun _ z=>nomatch z) (fun b o _ hb _ e n=>u.keep b o e n hb (by simp)) (fun b o _ hb _ e n=>u.slot b o e n hb (by simp)) (fun b o _ e n=>u.free b o e n (by simp)) (fun b o _ e=>u.there b o e (by simp)) u.tups u.frzs u.tbls (fun m' hm=>by
  obtain ⟨o',es',ep',ho',r'⟩:=hm
  rw [ho] at ho';cases ho'
  exact ⟨_,es',ep',hL,r'⟩) hok I.bare
theorem Inv.call {g':Array GenState}{t':Nat}{d':Drawn}{ch:List Addr}(I:Inv X pins σ H s) (u:Un (frs X.stack) ch H H' s.heap h') (hok:HOk X.prog X.w H' h') (hg:AllBare g')
  (hch:∀ b∈ch,(b∈X.ex\/X.s₀.heap.objs.size<=b)/\b≠X.env.locals/\(∀ x c,X.env.cells.lookup x=some c->c≠b)/\∀ p∈X.pn++pins,p.1≠b) :
  Inv X pins σ H' { s with heap:=h',gens:=g',drawn:=d',toks:=t' }:=by
 obtain ⟨m,⟨o,es,ep,ho,r⟩,_⟩:=id I.loc
 obtain ⟨sl,hL⟩:=u.any ho I.free fun z=>(hch _ z).2.1 rfl
 exact I.step (ch:=ch) hch (fun b o hL hb hc e n=>u.keep b o e n (fun z=>(List.mem_cons.mp (I.stkSub b z)).elim hL hb) hc) (fun b o _ _ hc e n=>u.any e n hc) (fun b o hc e n=>u.free b o e n hc) (fun b o hc e=>u.there b o e hc) u.tups u.frzs u.tbls (fun m' hm=>by
  obtain ⟨o',es',ep',ho',r'⟩:=hm
  rw [ho] at ho';cases ho'
  exact ⟨_,es',ep',hL,r'⟩) hok hg
theorem Inv.turned {t':Nat}{it:Addr}(I:Inv X pins σ H s) (k:∀ b o,b≠it->s.heap.get? b=some o->h'.get? b=some o) (hn:H it=none) (hL:it≠X.env.locals)
  (h1:it∈X.ex\/X.s₀.heap.objs.size<=it) (h2:∀ x c,X.env.cells.lookup x=some c->c≠it) (h3:∀ p∈X.pn++pins,p.1≠it):Inv X pins σ H { s with heap:=h',toks:=t' }:=by
 have nit:∀ b u,H b=some u->b≠it:=fun b u e z=>by rw [z,hn] at e;cases e
 refine I.step (g':=s.gens) (d':=s.drawn) (ch:=[it]) (fun b hb=>?_) (fun b o _ _ hc e _=>k b o (fun z=>hc (by simp [z])) e) (fun b o _ _ hc e _=>⟨o.slots,k b o (fun z=>hc (by simp [z])) e⟩) (fun _ _ _ _ n=>n)
  (fun b o hc e=>⟨o,k b o (fun z=>hc (by simp [z])) e⟩) (fun _ _ e=>e) (fun _ _ _ e=>e) (fun b ps e=>⟨#[],by rw [e];simp⟩) (fun m hm=>?_) (fun b u e=>?_) I.bare
 .have e:b=it:=by simpa using hb
  subst e
  exact ⟨h1,hL,h2,h3⟩
 .obtain ⟨o,es,ep,ho,r⟩:=hm
  exact ⟨o,es,ep,k _ o (Ne.symm hL) ho,r⟩
 .refine (I.hok b u e).stay (fun c v hc q=>k c v ?_ q) (fun _ q=>q) fun _ _ q=>q
  rcases hc with z|z
  .rw [z];exact nit b u e
  .exact nit c _ z
theorem Inv.tok (I:Inv X pins σ H s) (t:Nat):Inv X pins σ H { s with toks:=t }:=I.un (h':=s.heap) (t':=t) Un.refl I.hok
theorem Inv.kept {t':Nat}(I:Inv X pins σ H s) (k:∀ b u,s.heap.get? b=some u->h'.get? b=some u):Inv X pins σ H { s with heap:=h',toks:=t' }:=I.un (Un.kept k) (I.hok.kept k)
theorem Inv.laid {a:Addr}{o:HO}{t':Nat}(I:Inv X pins σ H s) (k:∀ b u,s.heap.get? b=some u->h'.get? b=some u) (hp:s.heap.objs.size<=a) (new:ObjOk X.prog X.w (upd H a o) h' a o) :
  Inv X pins σ (upd H a o) { s with heap:=h',toks:=t' }:=I.un (Un.laid k hp (I.hok.fresh hp)) (I.hok.laid k hp new)
theorem Inv.write {x e:Addr}{o:HO}{t':Nat}(I:Inv X pins σ H s) (mu:Mut (H x)) (he:e=x\/H e=some (.own x)) (k:∀ b u,b≠e->s.heap.get? b=some u->h'.get? b=some u) (heo:∃ u,h'.get? e=some u)
  (new:ObjOk X.prog X.w (upd H x o) h' x o):Inv X pins σ (upd H x o) { s with heap:=h',toks:=t' }:=I.un (Un.write mu he k heo) (I.hok.write mu he k heo new)
theorem Inv.pins_of {pins':List (Addr×Obj)}(I:Inv X pins σ H s) (h:∀ p∈pins',s.heap.get? p.1=some p.2/\H p.1=none/\p.1≠X.env.locals/\p.1∉X.fs/\∀ v,p.2.data≠.cell v):Inv X pins' σ H s :=
 ⟨I.ok,I.os,I.bare,I.base,I.loc,I.cell,I.free,I.freeC,fun p hp=>(List.mem_append.mp hp).elim (fun z=>I.pin p (List.mem_append_left _ z)) (h p),I.hok,I.len⟩
theorem yvo {N:List Str}(hN:N.Nodup) {i j:Nat}{x:Str}(a:N[i]?=some x) (b:N[j]?=some x):i=j:=by
 obtain ⟨h1,e1⟩:=List.getElem?_eq_some_iff.mp a
 obtain ⟨h2,e2⟩:=List.getElem?_eq_some_iff.mp b
 exact (List.getElem_inj hN).mp (e1.trans e2.symm)
theorem yxy {M:Model}{A:Around}{E:Value->Shared->Prop}{i:Nat}{x:Str}{v:V}{u:Value}{Q:Unit->Shared->Prop}(I:Inv X pins σ H s) (hN:X.N.Nodup) (hi:X.N[i]?=some x) (hx:Loc X.env.scope x) (r:RelV v u)
  (h:∀ s',Inv X pins (σ.set i (some v)) H s'->(∃ a,Heap.SameBut a s.heap s'.heap/\(a=X.env.locals\/X.env.cells.lookup x=some a))->Q () s') (hf:X.fn x=true\/X.env.scope.names.lookup x=some .local:=by first|exact .inl rfl|exact .inr rfl|assumption):wpAny M A (storeName X.env x u) Q E s:=by
 obtain ⟨m,hn,hl⟩:=id I.loc
 have hcls:(X.env.scope.kind == .class || (X.env.scope.kind == .module && X.env.locals != X.env.globals))=false:=by rw [I.ok.kind];rfl
 have hiσ:i<σ.length:=by rw [I.len];exact (List.getElem?_eq_some_iff.mp hi).1
 have cne:=I.cne
 have tracked:∀ {a:Addr}{h':Heap},(∃ o,s.heap.get? a=some o/\H a=none)->Heap.SameBut a s.heap h'->HOk X.prog X.w H h':=fun {a h'} ha hs b ob e=>by
  obtain ⟨_,_,hfree⟩:=ha
  refine (I.hok b ob e).stay (fun c w' hc q=>(hs.2 c ?_).trans q) (fun _ q=>q) fun _ _ q=>q
  rintro rfl
  rcases hc with rfl|hc
  .rw [hfree] at e;cases e
  .rw [hfree] at hc;cases hc
 rcases hx with hk|hk
 .refine wpAny_storeName_local hk hn (fun h' hn' hs=>?_) hcls
  obtain ⟨oL,_,_,hoL,_⟩:=id hn
  refine h _ ⟨I.ok,I.os,I.bare,⟨fun b o e n hb hx=>?_,fun b o e n hb hx=>?_,I.base.free,fun b o e hx=>?_,I.base.tups,I.base.frzs,I.base.tbls⟩,⟨_,hn',fun j y v' e1 e2 e3=>?_⟩,fun y c e=>?_,I.free,I.freeC,fun p hp=>?_,tracked ⟨oL,hoL,I.free⟩ hs,by simpa using I.len⟩ ⟨_,hs,.inl rfl⟩
  .exact (hs.2 b (Nat.ne_of_lt (Nat.lt_of_lt_of_le (Heap.lt_size e) I.ok.above))).trans (I.base.keep b o e n hb hx)
  .obtain ⟨sl,e1⟩:=I.base.slot b o e n hb hx
   exact ⟨sl,(hs.2 b (Nat.ne_of_lt (Nat.lt_of_lt_of_le (Heap.lt_size e) I.ok.above))).trans e1⟩
  .obtain ⟨o',e1⟩:=I.base.there b o e hx
   exact ⟨o',(hs.2 b (Nat.ne_of_lt (Nat.lt_of_lt_of_le (Heap.lt_size e) I.ok.above))).trans e1⟩
  .by_cases hj:j=i
   .subst hj
    rw [hi] at e1;cases e1
    rw [List.getElem?_set_self hiσ] at e2
    cases e2
    exact ⟨u,r,.inl ⟨hk,by simp⟩⟩
   .rw [List.getElem?_set_ne (Ne.symm hj)] at e2
    obtain ⟨u',r',q⟩:=hl j y v' e1 e2 e3
    refine ⟨u',r',?_⟩
    rcases q with ⟨k,e⟩|⟨k,c,e,z⟩
    .refine .inl ⟨k,?_⟩
     have:y≠x:=fun e=>hj (yvo hN e1 (e ▸ hi))
     simp [this,e]
    .exact .inr ⟨k,c,e,z.sameBut hs (cne y c e)⟩
  .obtain ⟨w',z⟩:=I.cell y c e
   exact ⟨w',z.sameBut hs (cne y c e)⟩
  .obtain ⟨e,n,ne,nf,d⟩:=I.pin p hp
   exact ⟨(hs.2 p.1 ne).trans e,n,ne,nf,d⟩
 .have hfn:X.fn x=true:=by
   rcases hf with z|z
   .exact z
   .rw [z] at hk;cases hk
  obtain ⟨c,hc⟩:=I.ok.has x (.inl hk)
  obtain ⟨w',z⟩:=I.cell x c hc
  refine wpAny_storeName_cell I.ok.kind hk hc z (fun h' hc' hs=>?_)
  obtain ⟨oc,hoc,hocd⟩:=id z
  refine h { s with heap:=h' } ⟨I.ok,I.os,I.bare,⟨fun b o e n hb hx=>?_,fun b o e n hb hx=>?_,I.base.free,fun b o e hx=>?_,I.base.tups,I.base.frzs,I.base.tbls⟩,⟨m,hn.sameBut hs (Ne.symm (cne x c hc)),fun j y v' e1 e2 e3=>?_⟩,fun y c' e=>?_,I.free,I.freeC,fun p hp=>?_,tracked ⟨oc,hoc,I.freeC x c hc⟩ hs,by simpa using I.len⟩ ⟨c,hs,.inr hc⟩
  .exact (hs.2 b (Nat.ne_of_lt (Nat.lt_of_lt_of_le (Heap.lt_size e) (I.ok.cab x c hfn hc)))).trans (I.base.keep b o e n hb hx)
  .obtain ⟨sl,e1⟩:=I.base.slot b o e n hb hx
   exact ⟨sl,(hs.2 b (Nat.ne_of_lt (Nat.lt_of_lt_of_le (Heap.lt_size e) (I.ok.cab x c hfn hc)))).trans e1⟩
  .obtain ⟨o',e1⟩:=I.base.there b o e hx
   exact ⟨o',(hs.2 b (Nat.ne_of_lt (Nat.lt_of_lt_of_le (Heap.lt_size e) (I.ok.cab x c hfn hc)))).trans e1⟩
  .by_cases hj:j=i
   .subst hj
    rw [hi] at e1;cases e1
    rw [List.getElem?_set_self hiσ] at e2
    cases e2
    exact ⟨u,r,.inr ⟨.inl hk,c,hc,hc'⟩⟩
   .rw [List.getElem?_set_ne (Ne.symm hj)] at e2
    obtain ⟨u',r',q⟩:=hl j y v' e1 e2 e3
    refine ⟨u',r',?_⟩
    rcases q with q|⟨k,c',e,z'⟩
    .exact .inl q
    .refine .inr ⟨k,c',e,z'.sameBut hs ?_⟩
     rintro rfl
     exact hj (yvo hN e1 (I.ok.inj _ _ _ e hc ▸ hi))
  .by_cases hcc:c'=c
   .subst hcc;exact ⟨_,hc'⟩
   .obtain ⟨w2,z2⟩:=I.cell y c' e
    exact ⟨w2,z2.sameBut hs hcc⟩
  .obtain ⟨e,n,ne,nf,d⟩:=I.pin p hp
   refine ⟨(hs.2 p.1 ?_).trans e,n,ne,nf,d⟩
   intro q
   rw [q,hoc] at e
   have q':oc=p.2:=Option.some.inj e
   exact d w' (by rw [<- q'];exact hocd)
theorem yvp {M:Model}{A:Around}{E:Value->Shared->Prop}{i:Nat}{x:Str}{v:V}{u:Value}{Q:Unit->Shared->Prop}(I:Inv X pins σ H s) (hN:X.N.Nodup) (hi:X.N[i]?=some x) (hx:Loc X.env.scope x) (r:RelV v u)
  (h:∀ s',Inv X pins (σ.set i (some v)) H s'->Q () s') (hf:X.fn x=true\/X.env.scope.names.lookup x=some .local:=by first|exact .inl rfl|exact .inr rfl|assumption):wpAny M A (storeName X.env x u) Q E s :=
 yxy I hN hi hx r (fun s' I' _=>h s' I') hf
theorem Inv.call' {s':Shared}{ch:List Addr}(I:Inv X pins σ H s) (ho:s'.os=s.os) (u:Un (frs X.stack) ch H H' s.heap s'.heap) (hok:HOk X.prog X.w H' s'.heap) (hg:AllBare s'.gens)
  (hch:∀ b∈ch,(b∈X.ex\/X.s₀.heap.objs.size<=b)/\b≠X.env.locals/\(∀ x c,X.env.cells.lookup x=some c->c≠b)/\∀ p∈X.pn++pins,p.1≠b):Inv X pins σ H' s':=by
 obtain ⟨h',g',d',t',o'⟩:=s'
 have e:o'=s.os:=ho
 subst e
 exact I.call (g':=g') (t':=t') (d':=d') u hok hg hch
end
abbrev XK:=Value->Option Addr->Hp->Prop
abbrev St:=List (Option V)
abbrev VK:=V->Hp->Prop
abbrev TE:=St->Hp->VK->Prop
abbrev TT:=St->Hp->(Bool->Hp->Prop)->Prop
abbrev TA:=St->Hp->(List V->Hp->Prop)->Prop
structure Ends where
 nx:St->Hp->Prop
 rt:VK
 bk:St->Hp->Prop:=fun _ _=>False
 ct:St->Hp->Prop:=fun _ _=>False
abbrev TS:=Ends->St->Hp->Prop
noncomputable def EP (X:Cx) (pins:List (Addr×Obj)) (σ:St) (Q:VK) (u:Value) (s':Shared):Prop:=∃ v H',Inv X pins σ H' s'/\RelV v u/\Q v H'
noncomputable def TP (X:Cx) (pins:List (Addr×Obj)) (σ:St) (Q:Bool->Hp->Prop) (b:Bool) (s':Shared):Prop:=∃ H',Inv X pins σ H' s'/\Q b H'
noncomputable def AP (X:Cx) (pins:List (Addr×Obj)) (σ:St) (Q:List V->Hp->Prop) (us:List Value) (s':Shared):Prop:=∃ vs H',Inv X pins σ H' s'/\Vals vs us/\Q vs H'
noncomputable def SP (X:Cx) (pins:List (Addr×Obj)) (D:Ends) (f:Flow) (s':Shared):Prop :=
 match f with
 | .next=>∃ σ' H',Inv X pins σ' H' s'/\D.nx σ' H'
 | .brk=>∃ σ' H',Inv X pins σ' H' s'/\D.bk σ' H'
 | .cont=>∃ σ' H',Inv X pins σ' H' s'/\D.ct σ' H'
 | .ret u=>∃ v σ' H',Inv X pins σ' H' s'/\RelV v u/\D.rt v H'
noncomputable def PE (X:Cx) (e:Expr) (t:TE):Prop :=
 ∀ (pins:List (Addr×Obj)) (s:Shared) (σ:St) (H:Hp) (Q:VK),Inv X pins σ H s->t σ H Q->wpAny (model X.prog X.w) X.A (eval e X.env) (EP X pins σ Q) X.xe s
noncomputable def PT (X:Cx) (e:Expr) (t:TT):Prop :=
 ∀ (pins:List (Addr×Obj)) (s:Shared) (σ:St) (H:Hp) (Q:Bool->Hp->Prop),Inv X pins σ H s->t σ H Q->wpAny (model X.prog X.w) X.A (isTrue e X.env (eval e X.env)) (TP X pins σ Q) X.xe s
noncomputable def PW (X:Cx) (e:Expr) (t:TT):Prop :=
 ∀ (whole:Sem Value) (pins:List (Addr×Obj)) (s:Shared) (σ:St) (H:Hp) (Q:Bool->Hp->Prop),Inv X pins σ H s->t σ H Q->wpAny (model X.prog X.w) X.A (isTrue e X.env whole) (TP X pins σ Q) X.xe s
theorem PW.pt {X:Cx}{e:Expr}{t:TT}(h:PW X e t):PT X e t:=h _
noncomputable def PA (X:Cx) (es:List Expr) (t:TA):Prop :=
 ∀ (pos:Pos) (pins:List (Addr×Obj)) (s:Shared) (σ:St) (H:Hp) (Q:List V->Hp->Prop),Inv X pins σ H s->t σ H Q->wpAny (model X.prog X.w) X.A (spliced (backTo pos (starEach es X.env))) (AP X pins σ Q) X.xe s
noncomputable def PS (X:Cx) (st:Stmt) (t:TS):Prop :=
 ∀ (pins:List (Addr×Obj)) (s:Shared) (σ:St) (H:Hp) (D:Ends),Inv X pins σ H s->t D σ H->wpAny (model X.prog X.w) X.A (exec st X.env) (SP X pins D) X.xe s
noncomputable def PSs (X:Cx) (st:List Stmt) (t:TS):Prop :=
 ∀ (pins:List (Addr×Obj)) (s:Shared) (σ:St) (H:Hp) (D:Ends),Inv X pins σ H s->t D σ H->wpAny (model X.prog X.w) X.A (execs st X.env) (SP X pins D) X.xe s
theorem thn {α:Type}{t:Sem α}{Q Q':α->Shared->Prop}{M:Model}{A:Around}{E:Value->Shared->Prop}{s:Shared}(h:wpAny M A t Q E s) (hQ:∀ a s,Q a s->Q' a s):wpAny M A t Q' E s:=wpAny_mono h hQ fun _ _ x=>x
end L2
namespace L2
open PySem PySem.Spec PyProof.Rows
section
variable {X:Cx}
def yCv (i:Nat):TE:=fun σ H Q=>∃ v,σ[i]?=some (some v)/\Q v H
def tC (v:V):TE:=fun _ H Q=>Q v H
theorem ybv {i:Nat}{x:Str}{pos:Pos}(hN:X.N[i]?=some x) (hv:Vis X.env.scope x) (hd:(x == ("__debug__":Str))=false:=by decide) (hcd:(x == ("__classdict__":Str))=false:=by decide):PE X (.Name x pos) (yCv i):=by
 intro pins s σ H Q I h
 obtain ⟨v,e,h⟩:=h
 obtain ⟨m,hn,hl⟩:=I.loc
 obtain ⟨u,r,l⟩:=hl i x v hN e hv
 have fin:EP X pins σ Q u s:=⟨v,H,I,r,h⟩
 rcases l with ⟨hk,hm⟩|⟨hk,c,hc,hcell⟩
 .exact wpAny_Name (wpAny_loadName_local I.ok.kind hk hn hm fin) hd
 .rcases hk with hk|hk
  .exact wpAny_Name (wpAny_loadName_cell I.ok.kind hk hc hcell fin) hd
  .exact wpAny_Name (wpAny_loadName_free I.ok.kind hk hc hcell fin hcd) hd
theorem yGv {i j pos}:PE X (.Constant (.int i) j pos) (tC (.int i)):=fun _ _ _ H _ I h=>wpAny_Constant_int ⟨.int i,H,I.tok _,⟨_,rfl⟩,h⟩
theorem yJj {b j pos}:PE X (.Constant (.bool b) j pos) (tC (.bl b)):=fun _ _ _ H _ I h=>Constant_bool ⟨.bl b,H,I,rfl,h⟩
theorem yGw {j pos}:PE X (.Constant .none j pos) (tC .non):=fun _ _ _ H _ I h=>Constant_none ⟨.non,H,I,rfl,h⟩
theorem yGx {x j pos}:PE X (.Constant (.str x) j pos) (tC (.str x)):=fun _ _ _ H _ I h=>Calls.Constant_str ⟨.str x,H,I.tok _,⟨_,rfl⟩,h⟩
def Gl (X:Cx) (x:Str):Prop:=X.env.kindOf x=some .globalImplicit
theorem ynD {E:Value->Shared->Prop}{pins:List (Addr×Obj)}{s:Shared}{σ:St}{H:Hp}{x:Str}{u:Value}{pos:Pos}{Q:Value->Shared->Prop}(I:Inv X pins σ H s) (hg:Gl X x) (hm:X.mg x=some u) (h:Q u s)
  (hd:(x == ("__debug__":Str))=false:=by decide):wpAny (model X.prog X.w) X.A (eval (.Name x pos) X.env) Q E s :=
 Calls.Name_function_global I.ok.kind hg (Calls.loadGlobal_global (by rw [I.ok.glob];exact I.mod.glob.keeps I.bk) hm h) hd
theorem ypJ {E:Value->Shared->Prop}{pins:List (Addr×Obj)}{s:Shared}{σ:St}{H:Hp}{x:Str}{u:Value}{pos:Pos}{Q:Value->Shared->Prop}(I:Inv X pins σ H s) (hg:Gl X x) (hm:X.mg x=none) (hv:bootBuiltins x=some u) (h:Q u s)
  (hn:x≠"__name__":=by decide) (hd:(x == ("__debug__":Str))=false:=by decide):wpAny (model X.prog X.w) X.A (eval (.Name x pos) X.env) Q E s:=by
 obtain ⟨mb,h1,h2⟩:=I.mod.blt
 exact Calls.Name_function_global I.ok.kind hg (Calls.loadGlobal_builtin (by rw [I.ok.glob];exact I.mod.glob.keeps I.bk) hm (by rw [I.ok.blt];exact h1.keeps I.bk) ((h2 x hn).trans hv) h) hd
theorem ytQ {x:Str}{v:V}{u:Value}{pos:Pos}(hg:Gl X x) (hm:X.mg x=some u) (r:RelV v u) (hd:(x == ("__debug__":Str))=false:=by decide):PE X (.Name x pos) (tC v) :=
 fun _ _ _ H _ I h=>ynD I hg hm ⟨v,H,I,r,h⟩ hd
theorem yDZ {x:Str}{v:V}{u:Value}{pos:Pos}(hg:Gl X x) (hm:X.mg x=none) (hv:bootBuiltins x=some u) (r:RelV v u) (hn:x≠"__name__":=by decide) (hd:(x == ("__debug__":Str))=false:=by decide):PE X (.Name x pos) (tC v) :=
 fun _ _ _ H _ I h=>ypJ I hg hm hv ⟨v,H,I,r,h⟩ hn hd
variable {a b:Expr}{ta tb:TE}{pos:Pos}
noncomputable def PC (X:Cx) (op:CmpOp) (a b:Expr) (t:TE):Prop :=
 ∀ (pins:List (Addr×Obj)) (s:Shared) (σ:St) (H:Hp) (Q:VK),Inv X pins σ H s->t σ H Q ->
  wpAny (model X.prog X.w) X.A (eval a X.env) (fun v s₁=>wpAny (model X.prog X.w) X.A (eval b X.env) (fun u s₂=>wpAny (model X.prog X.w) X.A (compareOp op v u) (EP X pins σ Q) X.xe s₂) X.xe s₁) X.xe s
theorem yAv (b:Expr) {op:CmpOp}(h:op≠.In) (h2:op≠.NotIn):behindInMarks op b=false:=by
 have e1:(op == CmpOp.In)=false:=by cases op<;>first|rfl|exact absurd rfl h
 have e2:(op == CmpOp.NotIn)=false:=by cases op<;>first|rfl|exact absurd rfl h2
 cases b<;>simp [behindInMarks,e1,e2]
def tB (t:TE):TT:=fun σ H Q=>t σ H fun x H1=>∃ c,x=.bl c/\Q c H1
theorem yCw {op:CmpOp}{t:TE}(h:PC X op a b t) (h1:behindInMarks op b=false:=by first|exact yAv _ (by decide) (by decide)|rfl):PT X (.Compare a [op] [b] pos) (tB t):=by
 intro pins s σ H Q I hw
 refine wpAny_isTrue_Compare1 (thn (h pins s σ H _ I hw) fun v s1 h1=>thn h1 fun u s2 h2=>thn h2 fun c s3 ⟨x,H1,I1,r1,q1⟩=>?_) h1
 obtain ⟨d,rfl,q⟩:=q1
 cases r1
 exact wpAny_truthy_bool ⟨H1,I1,q⟩
theorem yGy {e:Expr}{t:TE}(h:PE X e t) (he:∀ whole,isTrue e X.env whole=(do let v <- whole;standAt e.pos;holding [v] (truthy v)):=by intro _;rfl):PT X e (tB t):=by
 intro pins s σ H Q I hw
 refine isTrue_plain (thn (h pins s σ H _ I hw) fun v s1 ⟨x,H1,I1,r1,q1⟩=>?_) (he _)
 obtain ⟨d,rfl,q⟩:=q1
 cases r1
 exact wpAny_truthy_bool ⟨H1,I1,q⟩
variable {tA tB':TT}{rest:List Expr}
def yKX (t u:TT):TT:=fun σ H Q=>t σ H fun c H1=>if c=true then u σ H1 Q else Q false H1
def tOr (t u:TT):TT:=fun σ H Q=>t σ H fun c H1=>if c=true then Q true H1 else u σ H1 Q
def yJk (t:TT):TT:=fun σ H Q=>t σ H fun c H1=>Q (!c) H1
theorem yEa (ha:PT X a tA):PW X (.BoolOp .And [a] pos) tA:=by
 intro wh pins s σ H Q I h
 refine isTrue_and (thn (ha pins s σ H Q I h) fun c s1 e=>?_)
 cases c with
 | true=>exact isTrue_and_nil e
 | false=>exact e
theorem yGz (ha:PT X a tA):PW X (.BoolOp .Or [a] pos) tA:=by
 intro wh pins s σ H Q I h
 refine isTrue_or (thn (ha pins s σ H Q I h) fun c s1 e=>?_)
 cases c with
 | false=>exact isTrue_or_nil e
 | true=>exact e
theorem yGA (ha:PT X a tA) (hb:PW X (.BoolOp .And (b::rest) pos) tB'):PW X (.BoolOp .And (a::b::rest) pos) (yKX tA tB'):=by
 intro wh pins s σ H Q I h
 refine isTrue_and (thn (ha pins s σ H _ I h) fun c s1 ⟨H1,I1,q1⟩=>?_)
 cases c with
 | true=>exact hb wh pins s1 σ H1 Q I1 q1
 | false=>exact ⟨H1,I1,q1⟩
theorem yJl (ha:PT X a tA) (hb:PW X (.BoolOp .Or (b::rest) pos) tB'):PW X (.BoolOp .Or (a::b::rest) pos) (tOr tA tB'):=by
 intro wh pins s σ H Q I h
 refine isTrue_or (thn (ha pins s σ H _ I h) fun c s1 ⟨H1,I1,q1⟩=>?_)
 cases c with
 | true=>exact ⟨H1,I1,q1⟩
 | false=>exact hb wh pins s1 σ H1 Q I1 q1
theorem yGB (ha:PT X a tA):PT X (.UnaryOp .Not a pos) (yJk tA):=by
 intro pins s σ H Q I h
 exact isTrue_not (ha pins s σ H (fun c H1=>Q (!c) H1) I h)
def yGC (ta tb:TE):TE:=fun σ H Q=>ta σ H fun x H1=>∃ c,x=.bl c/\if c=true then tb σ H1 Q else Q (.bl false) H1
def yGD (ta:TE):TE:=fun σ H Q=>ta σ H fun x H1=>∃ c,x=.bl c/\Q (.bl (!c)) H1
theorem yGE {op} {t:TE}(h:PE X a t):PE X (.BoolOp op [a] pos) t:=fun pins s σ H Q I hw=>BoolOp_one (h pins s σ H Q I hw)
theorem yGF (ha:PE X a ta) (hb:PE X (.BoolOp .And (b::rest) pos) tb):PE X (.BoolOp .And (a::b::rest) pos) (yGC ta tb):=by
 intro pins s σ H Q I h
 refine BoolOp_and (thn (ha pins s σ H _ I h) fun v s1 ⟨x,H1,I1,r1,q1⟩=>?_)
 obtain ⟨c,rfl,q1⟩:=q1
 cases r1
 refine wpAny_truthy_bool ?_
 cases c with
 | true=>exact hb pins s1 σ H1 Q I1 q1
 | false=>exact ⟨.bl false,H1,I1,rfl,q1⟩
theorem yGG (ha:PE X a ta):PE X (.UnaryOp .Not a pos) (yGD ta):=by
 intro pins s σ H Q I h
 refine UnaryOp_ (thn (ha pins s σ H _ I h) fun v s1 ⟨x,H1,I1,r1,q1⟩=>?_)
 obtain ⟨c,rfl,q1⟩:=q1
 cases r1
 exact not_of (wpAny_truthy_bool ⟨.bl (!c),H1,I1,rfl,q1⟩)
def tIf (t:TT) (ta tb:TE):TE:=fun σ H Q=>t σ H fun c H1=>if c=true then ta σ H1 Q else tb σ H1 Q
theorem yAw {c:Expr}(hc:PT X c tA) (ha:PE X a ta) (hb:PE X b tb):PE X (.IfExp c a b pos) (tIf tA ta tb):=by
 intro pins s σ H Q I h
 refine wpAny_IfExp (thn (hc pins s σ H _ I h) fun d s1 ⟨H1,I1,q1⟩=>?_)
 cases d with
 | true=>exact ha pins s1 σ H1 Q I1 q1
 | false=>exact hb pins s1 σ H1 Q I1 q1
end
end L2
namespace L2
open PySem PySem.Spec PyProof.Rows
noncomputable def SqL (K:PySem.W.Frag) (H:Hp) (a:Addr) (xs:List V):Prop :=
 Rd H a (.lst xs) \/
  ∃ (o:Obj) (its:Array Value) (n:Nat),K.lookup a=some o/\o.cls=.type "list"/\o.dict=none/\o.data=.seq its n/\its.size<=sizeLine/\Vals xs its.toList
noncomputable def SqT (K:PySem.W.Frag) (H:Hp) (a:Addr) (xs:List V):Prop :=
 Rd H a (.tup xs) \/
  ∃ (o:Obj) (its:Array Value) (n:Nat),K.lookup a=some o/\o.cls=.type "tuple"/\o.data=.seq its n/\its.size<=sizeLine/\Vals xs its.toList
noncomputable def yLR:Value->Option V
 | .none=>some .non
 | .bool b=>some (.bl b)
 | .int i _=>some (.int i)
 | .str x _=>some (.str x)
 | .bytes b _=>some (.byt b)
 | .float b _=>some (.flt b)
 | .ref a=>some (.ref a)
 | .type n=>some (.ty n)
 | _=>none
theorem RelV.abs {x:V}{u:Value}(r:RelV x u):yLR u=some x:=by
 cases x with
 | non=>cases r;rfl
 | bl _=>cases r;rfl
 | int _=>obtain ⟨t,rfl⟩:=r;rfl
 | str _=>obtain ⟨t,rfl⟩:=r;rfl
 | byt _=>obtain ⟨t,rfl⟩:=r;rfl
 | flt _=>obtain ⟨t,rfl⟩:=r;rfl
 | ref _=>cases r;rfl
 | ty _=>cases r;rfl
theorem RelV.inj {x y:V}{u:Value}(r:RelV x u) (q:RelV y u):x=y:=Option.some.inj (r.abs.symm.trans q.abs)
theorem Vals.inj:∀ {xs ys:List V}{us:List Value},Vals xs us->Vals ys us->xs=ys
 | _,_,_,.nil,.nil=>rfl
 | _,_,_,.cons r t,.cons r' t'=>by rw [r.inj r',Vals.inj t t']
section
variable {X:Cx}{pins:List (Addr×Obj)}{σ:St}{H:Hp}{s:Shared}{a:Addr}{xs ys:List V}
theorem SqL.of {K:PySem.W.Frag}(h:H a=some (.lst xs)):SqL K H a xs:=.inl (.inl h)
theorem SqT.of {K:PySem.W.Frag}(h:H a=some (.tup xs)):SqT K H a xs:=.inl (.inl h)
theorem Inv.list (I:Inv X pins σ H s) (h:SqL X.K H a xs):∃ its:List Value,Vals xs its/\PlainL s.heap a its.toArray/\xs.length<=sizeLine:=by
 rcases h with h|⟨o,its,n,hk,hc,hd,hs,hz,r⟩
 .obtain ⟨z,its,n,r,e⟩:=h.ok I.hok
  exact ⟨its,r,⟨_,n,e,rfl,rfl,rfl⟩,z⟩
 .refine ⟨its.toList,r,⟨o,n,I.kIn a o hk,hc,hd,by simpa using hs⟩,?_⟩
  have e:=r.length
  simp only [Array.length_toList] at e
  omega
theorem Inv.tuple (I:Inv X pins σ H s) (h:SqT X.K H a xs):∃ its:List Value,Vals xs its/\IsTup s.heap a its.toArray/\xs.length<=sizeLine:=by
 rcases h with h|⟨o,its,n,hk,hc,hs,hz,r⟩
 .obtain ⟨z,its,r,p⟩:=h.ok I.hok
  exact ⟨its,r,p,z⟩
 .refine ⟨its.toList,r,⟨o,I.kIn a o hk,hc,n,by simpa using hs⟩,?_⟩
  have e:=r.length
  simp only [Array.length_toList] at e
  omega
theorem Inv.list_inj (I:Inv X pins σ H s) (h:SqL X.K H a xs) (h':SqL X.K H a ys):xs=ys:=by
 obtain ⟨its,r,⟨o,n,e,_,_,d⟩,_⟩:=I.list h
 obtain ⟨its',r',⟨o',n',e',_,_,d'⟩,_⟩:=I.list h'
 rw [e] at e';cases e'
 rw [d] at d'
 injection d' with d1 _
 have:its=its':=by simpa using congrArg Array.toList d1
 subst this
 exact r.inj r'
end
abbrev Cx.wish (X:Cx) (E:Value->Shared->Prop):Cx:={ X with xe:=E }
abbrev Cx.nox (X:Cx):Cx:=X.wish fun _ _=>False
theorem Cx.Ok.wish {X:Cx}(ok:X.Ok) (E:Value->Shared->Prop):(X.wish E).Ok :=
 ⟨ok.mod,ok.kind,ok.glob,ok.blt,ok.above,ok.inj,ok.has,ok.cab,ok.hd,ok.frames,ok.stk,ok.exf,ok.bs,ok.bsz,ok.noex,ok.exfs,ok.funs,ok.frf⟩
theorem Cx.Ok.unwish {X:Cx}{E:Value->Shared->Prop}(ok:(X.wish E).Ok):X.Ok :=
 ⟨ok.mod,ok.kind,ok.glob,ok.blt,ok.above,ok.inj,ok.has,ok.cab,ok.hd,ok.frames,ok.stk,ok.exf,ok.bs,ok.bsz,ok.noex,ok.exfs,ok.funs,ok.frf⟩
section
variable {X:Cx}{pins:List (Addr×Obj)}{σ:St}{H:Hp}{s:Shared}{E:Value->Shared->Prop}
theorem Inv.wish (I:Inv X pins σ H s) (E:Value->Shared->Prop):Inv (X.wish E) pins σ H s:=⟨I.ok.wish E,I.os,I.bare,I.base,I.loc,I.cell,I.free,I.freeC,I.pin,I.hok,I.len⟩
theorem Inv.unwish (I:Inv (X.wish E) pins σ H s):Inv X pins σ H s:=⟨I.ok.unwish,I.os,I.bare,I.base,I.loc,I.cell,I.free,I.freeC,I.pin,I.hok,I.len⟩
theorem SP.unwish {D:Ends}{f:Flow}{s':Shared}(h:SP (X.wish E) pins D f s'):SP X pins D f s':=by
 cases f with
 | next=>obtain ⟨σ',H',I,q⟩:=h;exact ⟨σ',H',I.unwish,q⟩
 | brk=>obtain ⟨σ',H',I,q⟩:=h;exact ⟨σ',H',I.unwish,q⟩
 | cont=>obtain ⟨σ',H',I,q⟩:=h;exact ⟨σ',H',I.unwish,q⟩
 | ret u=>obtain ⟨v,σ',H',I,r,q⟩:=h;exact ⟨v,σ',H',I.unwish,r,q⟩
theorem PSs.nox {st:List Stmt}{t:TS}(h:PSs X.nox st t):PSs X st t:=fun pins s σ H D I hw =>
 wpAny_mono (h pins s σ H D (I.wish _) hw) (fun _ _ q=>q.unwish) fun _ _ z=>False.elim z
end
section
variable {X:Cx}{st:Stmt}{rest:List Stmt}{t u:TS}{e:Expr}{te:TE}{pos:Pos}
def yGH:TS:=fun D σ H=>D.nx σ H
def yJm (t u:TS):TS:=fun D σ H=>t { D with nx:=u D } σ H
theorem yEb:PSs X [] yGH:=fun _ _ σ H _ I h=>wpAny_execs_nil ⟨σ,H,I,h⟩
theorem yvq (h1:PS X st t) (h2:PSs X rest u):PSs X (st::rest) (yJm t u):=by
 intro pins s σ H D I h
 refine wpAny_execs_cons (thn (h1 pins s σ H { D with nx:=u D } I h) fun f s1 q=>?_)
 cases f with
 | next =>
  obtain ⟨σ',H',I',q⟩:=q
  exact h2 pins s1 σ' H' D I' q
 | ret v=>exact q
 | brk=>exact q
 | cont=>exact q
theorem yxz (h1:PS X st t):PSs X [st] t:=by
 intro pins s σ H D I h
 refine wpAny_execs_cons (thn (h1 pins s σ H D I h) fun f s1 q=>?_)
 cases f with
 | next=>exact wpAny_execs_nil q
 | ret v=>exact q
 | brk=>exact q
 | cont=>exact q
theorem Inv.quiet {pins:List (Addr×Obj)}{σ:St}{H:Hp}{s:Shared}(I:Inv X pins σ H s):interactive X.env=false:=by simp [interactive,I.ok.kind]
def yAx (te:TE):TS:=fun D σ H=>te σ H fun _ H1=>D.nx σ H1
theorem ytR (he:PE X e te) (hs:swapsWith e none pos.line X.env=pure false:=by rfl):PS X (.Expr e pos) (yAx te):=by
 intro pins s σ H D I h
 exact wpAny_Expr_any (thn (he pins s σ H _ I h) fun v s1 ⟨x,H1,I1,r1,q1⟩=>⟨σ,H1,I1,q1⟩) I.quiet hs
def yKY (te:TE):TS:=fun D σ H=>te σ H D.rt
theorem yGI (he:PE X e te):PS X (.Return (some e) pos) (yKY te):=by
 intro pins s σ H D I h
 exact wpAny_Return_some (thn (he pins s σ H _ I h) fun v s1 ⟨x,H1,I1,r1,q1⟩=>⟨x,σ,H1,I1,r1,q1⟩)
def yKZ (c:TT) (t u:TS):TS:=fun D σ H=>c σ H fun b H1=>if b=true then t D σ H1 else u D σ H1
theorem yJn {c:Expr}{a b:List Stmt}{tc:TT}(hc:PT X c tc) (ha:PSs X a t) (hb:PSs X b u):PS X (.If c a b pos) (yKZ tc t u):=by
 intro pins s σ H D I h
 refine wpAny_If (thn (hc pins s σ H _ I h) fun d s1 ⟨H1,I1,q1⟩=>?_)
 cases d with
 | true=>exact ha pins s1 σ H1 D I1 q1
 | false=>exact hb pins s1 σ H1 D I1 q1
end
abbrev TG:=V->St->Hp->(St->Hp->Prop)->Prop
abbrev TGs:=List V->St->Hp->(St->Hp->Prop)->Prop
noncomputable def PG (X:Cx) (target:Expr) (t:TG):Prop :=
 ∀ (pins:List (Addr×Obj)) (s:Shared) (σ:St) (H:Hp) (v:V) (u:Value) (Q:St->Hp->Prop),Inv X pins σ H s->RelV v u->t v σ H Q ->
  wpAny (model X.prog X.w) X.A (assign target X.env u) (fun _ s'=>∃ σ' H',Inv X pins σ' H' s'/\Q σ' H') X.xe s
noncomputable def PGs (X:Cx) (ts:List Expr) (t:TGs):Prop :=
 ∀ (pins:List (Addr×Obj)) (s:Shared) (σ:St) (H:Hp) (vs:List V) (us:List Value) (Q:St->Hp->Prop),Inv X pins σ H s->Vals vs us->t vs σ H Q ->
  wpAny (model X.prog X.w) X.A (assignInOrder ((assignEach ts X.env).map (·.2)) us) (fun _ s'=>∃ σ' H',Inv X pins σ' H' s'/\Q σ' H') X.xe s
abbrev yJo:=V->V->V->Hp->(Hp->Prop)->Prop
noncomputable def yLa (X:Cx) (t:yJo):Prop :=
 ∀ (pins:List (Addr×Obj)) (s:Shared) (σ:St) (H:Hp) (o i v:V) (ov iv u:Value) (Q:Hp->Prop),Inv X pins σ H s->RelV o ov->RelV i iv->RelV v u->t o i v H Q ->
  wpAny (model X.prog X.w) X.A (setItem ov iv u) (fun _ s'=>∃ H',Inv X pins σ H' s'/\Q H') X.xe s
section
variable {X:Cx}{pos:Pos}
def ywm (i:Nat):TG:=fun v σ H Q=>Q (σ.set i (some v)) H
theorem yqg {i:Nat}{x:Str}(hN:X.N.Nodup) (hi:X.N[i]?=some x) (hx:Loc X.env.scope x) (hf:X.fn x=true\/X.env.scope.names.lookup x=some .local:=by first|exact .inl rfl|exact .inr rfl|assumption):PG X (.Name x pos) (ywm i):=by
 intro pins s σ H v u Q I r h
 exact wpAny_assign_Name (yvp I hN hi hx r (fun s' I'=>⟨_,H,I',h⟩) hf)
def yLb:TGs:=fun vs σ H Q=>vs=[]/\Q σ H
def yGJ (t:TG) (u:TGs):TGs:=fun vs σ H Q=>∃ v r,vs=v::r/\t v σ H fun σ' H'=>u r σ' H' Q
theorem yEc:PGs X [] yLb:=by
 intro pins s σ H vs us Q I r h
 obtain ⟨e,h⟩:=h
 subst e
 cases r
 exact assignInOrder_nil ⟨σ,H,I,h⟩
theorem yAy {e:Expr}{es:List Expr}{t:TG}{u:TGs}(h1:PG X e t) (h2:PGs X es u)
  (hs:(assignEach (e::es) X.env).map (·.2)=assign e X.env::(assignEach es X.env).map (·.2):=by rfl):PGs X (e::es) (yGJ t u):=by
 intro pins s σ H vs us Q I r h
 obtain ⟨v,vr,e1,h⟩:=h
 subst e1
 cases r with
 | cons r rr =>
  rw [hs]
  refine assignInOrder_cons (thn (h1 pins s σ H _ _ _ I r h) fun _ s1 ⟨σ1,H1,I1,q1⟩=>?_)
  exact h2 pins s1 σ1 H1 _ _ Q I1 rr q1
def yLc (K:PySem.W.Frag) (n:Nat) (t:TGs):TG:=fun v σ H Q=>∃ a xs,v=.ref a/\SqT K H a xs/\xs.length=n/\t xs σ H Q
theorem yGK {es:List Expr}{k:Nat}{t:TGs}{n:Nat}(hc:X.calm=true) (h:PGs X es t)
  (hn:(assignEach es X.env).length=n:=by rfl) (hst:(assignEach es X.env).findIdx? (·.1)=none:=by rfl):PG X (.Tuple es k pos) (yLc X.K n t):=by
 intro pins s σ H v u Q I r hw
 obtain ⟨a,xs,e1,hq,hl,hw⟩:=hw
 subst e1
 cases r
 obtain ⟨its,rv,ht,hz⟩:=I.tuple hq
 refine assign_Tuple_tuple (I.ok.hd hc) ht (by simp [hn,<- hl,rv.length]) hst fun h' hx=>?_
 have I1:Inv X pins σ H { s with heap:=h' }:=I.kept (t':=s.toks) fun b o e=>hx b o (Nat.ne_of_lt (Heap.lt_size e)) e
 exact h pins _ σ H xs _ Q I1 (by simpa using rv) hw
def yLd (to ti:TE) (t:yJo):TG:=fun v σ H Q=>to σ H fun o H1=>ti σ H1 fun i H2=>t o i v H2 fun H3=>Q σ H3
theorem yGL {o i:Expr}{to ti:TE}{t:yJo}(ho:PE X o to) (hi:PE X i ti) (hs:yLa X t)
  (ha:∀ v,assign (.Subscript o i pos) X.env v=(do
   let ov <- holding [v] (eval o X.env)
   let iv <- holding [v,ov] (eval i X.env)
   standAt pos
   holding [v,ov,iv] (setItem ov iv v)
   release [v,ov,iv] []):=by intro _;rfl):PG X (.Subscript o i pos) (yLd to ti t):=by
 intro pins s σ H v u Q I r h
 rw [ha]
 refine wpAny_bind (wpAny_holding (thn (ho pins s σ H _ I h) fun ov s1 ⟨x,H1,I1,r1,q1⟩=>?_))
 refine wpAny_bind (wpAny_holding (thn (hi pins s1 σ H1 _ I1 q1) fun iv s2 ⟨y,H2,I2,r2,q2⟩=>?_))
 refine wpAny_bind (wpAny_standAt (wpAny_bind (wpAny_holding (thn (hs pins s2 σ H2 x y v ov iv u _ I2 r1 r2 r q2) fun _ s3 ⟨H3,I3,q3⟩=>?_))))
 exact wpAny_release ⟨σ,H3,I3,q3⟩
def yGj (te:TE) (g:TG):TS:=fun D σ H=>te σ H fun x H1=>g x σ H1 D.nx
theorem yCx {tg e:Expr}{te:TE}{g:TG}(he:PE X e te) (hg:PG X tg g) (hs:swapsWithSole [tg] e pos.line X.env=pure false:=by rfl) (hw:swappedStores [tg] e X.env=pure none:=by rfl)
  (h1:(assignEach [tg] X.env).map (·.2)=[assign tg X.env]:=by rfl):PS X (.Assign [tg] e pos) (yGj te g):=by
 intro pins s σ H D I h
 refine wpAny_Assign_stores (thn (he pins s σ H _ I h) fun v s1 ⟨x,H1,I1,r1,q1⟩=>?_) hs hw
 rw [h1]
 exact thn (hg pins s1 σ H1 x v _ I1 r1 q1) fun _ s2 q=>q
theorem yCy {i:Nat}{x:Str}{e:Expr}{te:TE}{pos':Pos}(hN:X.N.Nodup) (hi:X.N[i]?=some x) (hx:Loc X.env.scope x) (he:PE X e te) (hs:swapsWith e (some (.Name x pos')) pos.line X.env=pure false:=by rfl) (hf:X.fn x=true\/X.env.scope.names.lookup x=some .local:=by first|exact .inl rfl|exact .inr rfl|assumption) :
  PS X (.Assign [.Name x pos'] e pos) (yGj te (ywm i)):=by
 intro pins s σ H D I h
 refine wpAny_Assign_Name (thn (he pins s σ H _ I h) fun v s1 ⟨y,H1,I1,r1,q1⟩=>?_) hs
 exact yvp I1 hN hi hx r1 (fun s2 I2=>⟨_,H1,I2,q1⟩) hf
end
section
variable {X:Cx}{pos:Pos}
noncomputable def yCz (c:TT) (tb:TS):TS:=fun D σ H=>∃ W:Nat->St->Hp->Prop,(∃ m,W m σ H)/\∀ m σ H,W m σ H ->
 c σ H fun b H1=>if b=true then ∃ N:St->Hp->Prop,(∀ σ' H',N σ' H'->∃ m',m'<m/\W m' σ' H')/\tb { D with nx:=N,ct:=N,bk:=D.nx } σ H1 else D.nx σ H1
theorem yAz {c:Expr}{body:List Stmt}{tc:TT}{tb:TS}(hp:PassesOwn (model X.prog X.w) X.A X.env X.xe) (hc:PT X c tc) (hb:PSs X body tb):PS X (.While c body [] pos) (yCz tc tb):=by
 intro pins s σ H D I h
 obtain ⟨W,⟨m0,w0⟩,turn⟩:=h
 refine wpAny_While (codeAny_whileLoop (fun n s'=>∃ σ' H',Inv X pins σ' H' s'/\W n σ' H') ?_ m0 ⟨σ,H,I,w0⟩)
 rintro n s1 ⟨σ1,H1,I1,w1⟩
 refine wpAny_passesOwn hp (thn (hc pins s1 σ1 H1 _ I1 (turn n σ1 H1 w1)) fun b s2 ⟨H2,I2,q2⟩=>?_)
 cases b with
 | true =>
  obtain ⟨N,hN,q2⟩:=q2
  rw [if_pos rfl]
  refine wpAny_passesOwn hp (thn (hb pins s2 σ1 H2 _ I2 q2) fun f s3 q3=>?_)
  cases f with
  | next =>
   obtain ⟨σ3,H3,I3,n3⟩:=q3
   obtain ⟨m',hm,w3⟩:=hN σ3 H3 n3
   exact ⟨m',hm,σ3,H3,I3,w3⟩
  | cont =>
   obtain ⟨σ3,H3,I3,n3⟩:=q3
   obtain ⟨m',hm,w3⟩:=hN σ3 H3 n3
   exact ⟨m',hm,σ3,H3,I3,w3⟩
  | brk=>exact q3
  | ret v=>exact q3
 | false =>
  rw [if_neg Bool.false_ne_true]
  exact wpAny_execs_nil ⟨σ1,H2,I2,q2⟩
end
structure It where
 go:Nat->Hp->Prop
 yld:Nat->Hp->V->Hp->Prop
 stop:Nat->Hp->Prop
noncomputable def yxA (X:Cx) (pins:List (Addr×Obj)) (H:Hp) (b:Addr):Prop :=
 H b=none/\b≠X.env.locals/\b∉X.fs/\(b∈X.ex\/X.s₀.heap.objs.size<=b)/\(∀ x c,X.env.cells.lookup x=some c->c≠b)/\∀ p∈X.pn++pins,p.1≠b
theorem Inv.fpOk {X:Cx}{pins:List (Addr×Obj)}{σ:St}{H H':Hp}{s:Shared}{b:Addr}(I:Inv X pins σ H s) (hb:s.heap.objs.size<=b) (hn:H' b=none):yxA X pins H' b:=by
 refine ⟨hn,Nat.ne_of_gt (Nat.lt_of_lt_of_le I.lt hb),I.nofs hb,.inr (Nat.le_trans I.sz hb),fun x c e z=>?_,fun p hp z=>?_⟩
 .obtain ⟨v,q⟩:=I.cell x c e
  exact absurd (Nat.lt_of_lt_of_le q.lt (by rw [z];exact hb)) (Nat.lt_irrefl _)
 .exact absurd (Nat.lt_of_lt_of_le (Heap.lt_size (I.pin p hp).1) (by rw [z];exact hb)) (Nat.lt_irrefl _)
structure Turn (P:Program) (w:World) (K:PySem.W.Frag) (tg:Expr) (J:It) (fp:List Addr) (it:Addr) (tn:Nat->Heap->Prop):Prop where
 mem:it∈fp
 obj:∀ i h,tn i h->∀ b∈fp,∃ o,h.get? b=some o/\∀ v,o.data≠.cell v
 keep:∀ i h h',tn i h->(∀ b∈fp,∀ o,h.get? b=some o->h'.get? b=some o)->tn i h'
 item:∀ (X:Cx),X.prog=P->X.w=w->X.K=K->X.calm=true->∀ (i:Nat) (pins:List (Addr×Obj)) (s:Shared) (σ:St) (H:Hp) (E:Value->Shared->Prop),Inv X pins σ H s->(∀ b∈fp,yxA X pins H b)->tn i s.heap->J.go i H ->
  wpAny (model P w) X.A (pyNext (.ref it)) (fun r s1=>∃ u,r=some u /\
   wpAny (model P w) X.A (letOwnedTupleGo tg (.ref it) u) (fun _ s2=>∃ x H',Inv X pins σ H' s2/\RelV x u/\J.yld i H x H'/\tn (i+1) s2.heap/\∀ b∈fp,H' b=none) E s1) E s
 done:∀ (X:Cx),X.prog=P->X.w=w->X.K=K->X.calm=true->∀ (i:Nat) (pins:List (Addr×Obj)) (s:Shared) (σ:St) (H:Hp) (E:Value->Shared->Prop),Inv X pins σ H s->(∀ b∈fp,yxA X pins H b)->tn i s.heap->J.stop i H ->
  wpAny (model P w) X.A (pyNext (.ref it)) (fun r s1=>r=none/\Inv X pins σ H s1) E s
 self:∀ (A:Around) (i:Nat) (s:Shared) (Q:Value->Shared->Prop) (E:Value->Shared->Prop),tn i s.heap->Q (.ref it) s->wpAny (model P w) A (pyIter (.ref it)) Q E s
abbrev TI:=St->Hp->(It->Hp->Prop)->Prop
noncomputable def PIE (X:Cx) (pins:List (Addr×Obj)) (σ:St) (tg:Expr) (R:It->Hp->Prop) (itv:Value) (s2:Shared):Prop :=
 ∃ (it:Addr) (fp:List Addr) (tn:Nat->Heap->Prop) (J:It) (H':Hp),itv=.ref it/\Inv X pins σ H' s2/\Turn X.prog X.w X.K tg J fp it tn/\tn 0 s2.heap/\(∀ b∈fp,yxA X pins H' b)/\R J H'
noncomputable def PI (X:Cx) (tg iter:Expr) (wi:TI):Prop :=
 ∀ (pins:List (Addr×Obj)) (s:Shared) (σ:St) (H:Hp) (R:It->Hp->Prop),Inv X pins σ H s->wi σ H R ->
  wpAny (model X.prog X.w) X.A (eval iter X.env) (fun v s1=>wpAny (model X.prog X.w) X.A (pyIter v) (PIE X pins σ tg R) X.xe s1) X.xe s
theorem yAA {M:Model}{A:Around}{E:Value->Shared->Prop}{s:Shared}{tg:Expr}{it:Addr}{u:Value}{o:Obj}{n:String}{vs:Array Value}{Q:Unit->Shared->Prop}(ho:s.heap.get? it=some o) (hc:o.cls=.type n) (hd:o.data=.fields vs)
    (hn:["enumerate","zip","dict_itemiterator","dict_reverseitemiterator","odict_iterator","itertools.zip_longest","itertools.pairwise"].contains n=false) (hQ:Q () s):wpAny M A (letOwnedTupleGo tg (.ref it) u) Q E s:=by
  unfold letOwnedTupleGo
  cases tg<;>first
    | exact wpAny_pure hQ
    | (cases u<;>first
        | exact wpAny_pure hQ
        | (refine wpAny_bind (wpAny_load ho ?_)
           rw [hc,hd]
           show wpAny M A (if (["enumerate","zip","dict_itemiterator","dict_reverseitemiterator","odict_iterator","itertools.zip_longest","itertools.pairwise"].contains n && vs[0]? == some (rawInt _))=true then _ else _) Q E s
           rw [if_neg (by intro h;rw [hn,Bool.false_and] at h;cases h)]
           exact wpAny_pure hQ))
noncomputable def Itl (K:PySem.W.Frag) (a:Addr):It :=
 ⟨fun i H=>∃ xs x,SqL K H a xs/\xs[i]?=some x,fun i H x H'=>H'=H/\∀ xs,SqL K H a xs->xs[i]?=some x,fun i H=>∃ xs,SqL K H a xs/\xs.length<=i⟩
def Itr (lo:Int) (n:Nat):It:=⟨fun i _=>i<n,fun i H x H'=>H'=H/\x=.int (lo+i),fun i _=>n<=i⟩
theorem yxB {P:Program}{w:World}{K:PySem.W.Frag}{tg:Expr}(a it:Addr):Turn P w K tg (Itl K a) [it] it (fun i h=>h.IsListIter it a i) where
 mem:=by simp
 obj:=fun i h st b hb=>by
  have e:b=it:=by simpa using hb
  subst e
  obtain ⟨o,e,c,d⟩:=st
  exact ⟨o,e,fun v z=>by rw [d] at z;cases z⟩
 keep:=fun i h h' st k=>st.at fun o e=>k it (by simp) o e
 item:=by
  intro X hP hw hK hc i pins s σ H E I hf st hg
  subst hP hw hK
  obtain ⟨xs,x,hq,hx⟩:=hg
  obtain ⟨its,rv,p,hz⟩:=I.list hq
  obtain ⟨u,hu,ru⟩:=rv.get hx
  obtain ⟨f0,f1,f2,f3,f4,f5⟩:=hf it (by simp)
  refine wpAny_pyNext_list_item st p.isList (x:=u) (by simpa using hu) fun h' st' sb=>?_
  have I1:Inv X pins σ H { s with heap:=h' }:=I.turned (t':=s.toks) (fun b o hb e=>(sb.2 b hb).trans e) f0 f1 f3 f4 f5
  obtain ⟨o,e,c,d⟩:=id st'
  exact ⟨u,rfl,yAA (s:={ s with heap:=h' }) e c d (by decide) ⟨x,H,I1,ru,⟨rfl,fun ys hy=>by rw [I.list_inj hy hq];exact hx⟩,st',fun b hb=>(hf b hb).1⟩⟩
 done:=by
  intro X hP hw hK hc i pins s σ H E I hf st hg
  subst hP hw hK
  obtain ⟨xs,hq,hx⟩:=hg
  obtain ⟨its,rv,p,hz⟩:=I.list hq
  obtain ⟨f0,f1,f2,f3,f4,f5⟩:=hf it (by simp)
  have hl:=rv.length
  exact wpAny_pyNext_list_end (I.ok.hd hc) st p.isList (by simp;omega) fun h' eb=>⟨rfl,I.turned (t':=s.toks) (fun b o hb e=>eb b o hb e) f0 f1 f3 f4 f5⟩
 self:=fun _ _ _ _ _ st h=>wpAny_pyIter_listiter st h
theorem ywn {P:Program}{w:World}{K:PySem.W.Frag}{tg:Expr}(it:Addr) (lo:Int) (n:Nat):Turn P w K tg (Itr lo n) [it] it (fun i h=>IsRangeIter h it (lo+(i:Nat)*1) ((n:Int)-(i:Nat)) 1) where
 mem:=by simp
 obj:=fun i h st b hb=>by
  have e:b=it:=by simpa using hb
  subst e
  exact ⟨_,st,fun v z=>by
   have z':Data.fields _=Data.cell v:=z
   cases z'⟩
 keep:=fun i h h' st k=>k it (by simp) _ st
 item:=by
  intro X hP hw hK hc i pins s σ H E I hf st hg
  subst hP hw hK
  obtain ⟨f0,f1,f2,f3,f4,f5⟩:=hf it (by simp)
  have W:=Walks.range (prog:=X.prog) (w:=X.w) (I.ok.hd hc) it lo 1 n
  refine W.item i s _ _ hg st fun v h' tk hv st' kk=>?_
  obtain ⟨t,rfl⟩:=hv
  have I1:Inv X pins σ H { s with heap:=h',toks:=tk }:=I.turned (fun b o hb e=>kk b o (by simpa using hb) e) f0 f1 f3 f4 f5
  refine ⟨_,rfl,yAA (s:={ s with heap:=h',toks:=tk }) (n:="range_iterator") st' rfl rfl (by decide) ⟨.int (lo+i),H,I1,⟨t,?_⟩,⟨rfl,rfl⟩,st',fun b hb=>(hf b hb).1⟩⟩
  rw [Int.mul_one]
 done:=by
  intro X hP hw hK hc i pins s σ H E I hf st hg
  subst hP hw hK
  obtain ⟨f0,f1,f2,f3,f4,f5⟩:=hf it (by simp)
  exact wpAny_pyNext_range_end (I.ok.hd hc) st (by have:n<=i:=hg;omega) fun h' eb=>⟨rfl,I.turned (t':=s.toks) (fun b o hb e=>eb b o hb e) f0 f1 f3 f4 f5⟩
 self:=fun _ _ _ _ _ st h=>wpAny_pyIter_rangeiter st h
end L2
namespace L2
open PySem PySem.Spec PyProof.Rows
section
variable {X:Cx}{tg:Expr}
def yGM (K:PySem.W.Frag) (tl:TE):TI:=fun σ H R=>tl σ H fun x H1=>∃ a,x=.ref a/\(∃ xs,SqL K H1 a xs)/\R (Itl K a) H1
theorem yEd {l:Expr}{tl:TE}(hl:PE X l tl):PI X tg l (yGM X.K tl):=by
 intro pins s σ H R I h
 refine thn (hl pins s σ H _ I h) fun v s1 ⟨x,H1,I1,r1,q1⟩=>?_
 obtain ⟨a,e,⟨xs,hq⟩,q⟩:=q1
 subst e
 cases r1
 obtain ⟨its,rv,p,hz⟩:=I1.list hq
 refine wpAny_pyIter_list p.isList ?_
 refine ⟨s1.heap.objs.size,[s1.heap.objs.size],_,_,H1,rfl,I1.kept (t':=s1.toks) fun b o e=>Heap.get?_push_of_some _ e,yxB a _,⟨_,Heap.get?_push_size _ rfl,rfl,rfl⟩,fun b hb=>?_,q⟩
 have e:b=s1.heap.objs.size:=by simpa using hb
 subst e
 exact I1.fpOk (Nat.le_refl _) (I1.hok.fresh (Nat.le_refl _))
theorem yAB {pins:List (Addr×Obj)}{σ:St}{H:Hp}{s:Shared}{R:It->Hp->Prop}{E:Value->Shared->Prop}{lo hi:Int}{t u v:Tok}{tk:Nat}(I:Inv X pins σ H s) (h1:-(2 ^ 62)<=lo) (h2:lo<2 ^ 62) (h3:-(2 ^ 62)<=hi) (h4:hi<2 ^ 62)
  (q:R (Itr lo (hi-lo).toNat) H):wpAny (model X.prog X.w) X.A (pyIter (.ref s.heap.objs.size)) (PIE X pins σ tg R) E { s with heap:=s.heap.push { cls:=.type "range",data:=.fields #[.int lo t,.int hi u,.int 1 v] },toks:=tk }:=by
 refine wpAny_pyIter_range (IsRange.new ..) (small_one h1 h2 h3 h4) ?_
 have I1:Inv X pins σ H { s with heap:=s.heap.push { cls:=.type "range",data:=.fields #[.int lo t,.int hi u,.int 1 v] },toks:=tk }:=I.kept fun b o e=>Heap.get?_push_of_some _ e
 refine ⟨(s.heap.push { cls:=.type "range",data:=.fields #[.int lo t,.int hi u,.int 1 v] }).objs.size,[(s.heap.push { cls:=.type "range",data:=.fields #[.int lo t,.int hi u,.int 1 v] }).objs.size],_,_,H,rfl,
  I1.kept (t':=tk) fun b o e=>Heap.get?_push_of_some _ e,ywn _ lo (hi-lo).toNat,?_,fun b hb=>?_,q⟩
 .have e1:lo+((0:Nat):Int)*1=lo:=by simp
  have e2:(((hi-lo).toNat:Nat):Int)-((0:Nat):Int)=Builtin.Range.rangeSize lo hi 1:=by rw [rangeSize_one];split<;>omega
  show IsRangeIter _ _ (lo+((0:Nat):Int)*1) ((((hi-lo).toNat:Nat):Int)-((0:Nat):Int)) 1
  rw [e1,e2]
  exact Heap.get?_push_size _ rfl
 .have e:b=(s.heap.push { cls:=.type "range",data:=.fields #[.int lo t,.int hi u,.int 1 v] }).objs.size:=by simpa using hb
  subst e
  exact I1.fpOk (Nat.le_refl _) (I1.hok.fresh (Nat.le_refl _))
def yGN (ta:TA):TI:=fun σ H R=>ta σ H fun vs H1=>∃ j:Int,vs=[.int j]/\-(2 ^ 62)<=j/\j<2 ^ 62/\R (Itr 0 j.toNat) H1
theorem yxC {a:Expr}{ta:TA}{p pos:Pos}(hg:Gl X "range") (hm:X.mg "range" = none) (ha:PA X [a] ta) (hs:starEach [a] X.env=[(false,eval a X.env)]:=by rfl):PI X tg (.Call (.Name "range" p) [a] [] pos) (yGN ta):=by
 intro pins s σ H R I h
 refine Call_ (ypJ I hg hm boot_range (PyProof.Rows.callWith_type1 (thn (ha pos pins s σ H _ I h) fun us s1 ⟨vs,H1,I1,r1,q1⟩=>?_) hs rfl))
 obtain ⟨j,e,q1,q2,q⟩:=q1
 subst e
 cases r1 with
 | cons r rr =>
  cases rr
  obtain ⟨t,rfl⟩:=r
  exact call_range_1 (yAB I1 (by omega) (by omega) q1 q2 (by simpa using q))
noncomputable def yJp (wi:TI) (g:TG) (tb:TS):TS:=fun D σ H=>wi σ H fun J H1=>∃ W:Nat->Nat->St->Hp->Prop,(∃ m,W 0 m σ H1)/\∀ i m σ H,W i m σ H ->
 (J.stop i H/\D.nx σ H)\/(J.go i H/\∃ N:St->Hp->Prop,(∀ σ' H',N σ' H'->∃ m',m'<m/\W (i+1) m' σ' H')/\∀ x H',J.yld i H x H'->g x σ H' fun σ2 H2=>tb { D with nx:=N,ct:=N,bk:=D.nx } σ2 H2)
def yvr (fp:List Addr) (h:Heap):List (Addr×Obj):=fp.filterMap fun b=>(h.get? b).map fun o=>(b,o)
theorem yfe {fp:List Addr}{h:Heap}{b:Addr}{o:Obj}(hb:b∈fp) (e:h.get? b=some o):(b,o)∈yvr fp h:=List.mem_filterMap.mpr ⟨b,hb,by rw [e];rfl⟩
theorem yxD {fp:List Addr}{h:Heap}{p:Addr×Obj}(hp:p∈yvr fp h):p.1∈fp/\h.get? p.1=some p.2:=by
 obtain ⟨b,hb,e⟩:=List.mem_filterMap.mp hp
 cases q:h.get? b with
 | none=>rw [q] at e;cases e
 | some o =>
  rw [q] at e
  have e':(b,o)=p:=Option.some.inj e
  subst e'
  exact ⟨hb,q⟩
theorem Inv.pinned {pins:List (Addr×Obj)}{σ:St}{H:Hp}{s:Shared}{fp:List Addr}(I:Inv X pins σ H s) (hf:∀ b∈fp,yxA X pins H b) (ho:∀ b∈fp,∃ o,s.heap.get? b=some o/\∀ v,o.data≠.cell v):Inv X (pins++yvr fp s.heap) σ H s :=
 I.pins_of fun p hp=>(List.mem_append.mp hp).elim (fun z=>I.pin p (List.mem_append_right _ z)) fun z=>by
  obtain ⟨hb,e⟩:=yxD z
  obtain ⟨f0,f1,f2,_⟩:=hf p.1 hb
  obtain ⟨o,e',d⟩:=ho p.1 hb
  rw [e] at e';cases e'
  exact ⟨e,f0,f1,f2,d⟩
theorem Inv.unpinned {pins pl:List (Addr×Obj)}{σ:St}{H:Hp}{s:Shared}(I:Inv X (pins++pl) σ H s):Inv X pins σ H s:=I.pins_of fun p hp=>I.pin p (List.mem_append_right _ (List.mem_append_left _ hp))
theorem yCA {iter:Expr}{body:List Stmt}{wi:TI}{g:TG}{tb:TS}{pos:Pos}(hp:PassesOwn (model X.prog X.w) X.A X.env X.xe) (hc:X.calm=true) (hi:PI X tg iter wi) (hg:PG X tg g) (hb:PSs X body tb)
  (hs:∀ x,foldedSetIterable iter X.env x=pure x:=by intro _;rfl):PS X (.For tg iter body [] pos) (yJp wi g tb):=by
 intro pins s σ H D I h
 refine wpAny_For (thn (hi pins s σ H _ I h) fun v s1 h1=>thn h1 fun itv s2 h2=>?_) hs
 obtain ⟨it,fp,tn,J,H2,e,I2,T,st2,f2,W,⟨m0,w0⟩,turn⟩:=h2
 subst e
 have stat:∀ {H':Hp},(∀ b∈fp,H' b=none)->∀ b∈fp,yxA X pins H' b:=fun hn b hb=>⟨hn b hb,(f2 b hb).2⟩
 refine codeAny_forLoop_any (fun n s'=>∃ i σ' H',Inv X pins σ' H' s'/\tn i s'.heap/\(∀ b∈fp,H' b=none)/\W i n σ' H') ?_ m0 ⟨0,σ,H2,I2,st2,fun b hb=>(f2 b hb).1,w0⟩
 rintro n s3 ⟨i,σ3,H3,I3,st3,fr3,w3⟩
 rcases turn i n σ3 H3 w3 with ⟨stop,qn⟩|⟨go,N,hN,step⟩
 .refine wpAny_passesOwn hp (thn (T.done X rfl rfl rfl hc i pins s3 σ3 H3 X.xe I3 (stat fr3) st3 stop) fun r s4 ⟨hr,I4⟩=>?_)
  subst hr
  exact wpAny_execs_nil ⟨σ3,H3,I4,qn⟩
 .refine wpAny_passesOwn hp (thn (T.item X rfl rfl rfl hc i pins s3 σ3 H3 X.xe I3 (stat fr3) st3 go) fun r s4 ⟨u,hr,h4⟩=>?_)
  subst hr
  refine wpAny_passesOwn hp (thn h4 fun _ s5 ⟨x,H5,I5,r5,y5,st5,fr5⟩=>?_)
  have I5':=I5.pinned (stat fr5) (T.obj _ _ st5)
  refine wpAny_passesOwn hp (thn (hg _ s5 σ3 H5 x u _ I5' r5 (step x H5 y5)) fun _ s6 ⟨σ6,H6,I6,q6⟩=>?_)
  refine wpAny_passesOwn hp (thn (hb _ s6 σ6 H6 _ I6 q6) fun f s7 q7=>?_)
  have again:∀ {σ7:St}{H7:Hp},Inv X (pins++yvr fp s5.heap) σ7 H7 s7->N σ7 H7->∃ m,m<n/\∃ i σ' H',Inv X pins σ' H' s7/\tn i s7.heap/\(∀ b∈fp,H' b=none)/\W i m σ' H':=fun {σ7 H7} I7 n7=>by
   obtain ⟨m',hm,w7⟩:=hN σ7 H7 n7
   refine ⟨m',hm,i+1,σ7,H7,I7.unpinned,T.keep _ _ _ st5 fun b hb o e=>(I7.pin (b,o) (List.mem_append_right _ (List.mem_append_right _ (yfe hb e)))).1,fun b hb=>?_,w7⟩
   obtain ⟨o,e,d⟩:=T.obj _ _ st5 b hb
   exact (I7.pin (b,o) (List.mem_append_right _ (List.mem_append_right _ (yfe hb e)))).2.1
  cases f with
  | next=>obtain ⟨σ7,H7,I7,n7⟩:=q7;exact again I7 n7
  | cont=>obtain ⟨σ7,H7,I7,n7⟩:=q7;exact again I7 n7
  | brk=>obtain ⟨σ7,H7,I7,q7⟩:=q7;exact ⟨σ7,H7,I7.unpinned,q7⟩
  | ret v=>obtain ⟨x7,σ7,H7,I7,r7,q7⟩:=q7;exact ⟨x7,σ7,H7,I7.unpinned,r7,q7⟩
end
end L2
namespace L2
open PySem PySem.Spec PyProof.Rows
abbrev R2:=V->V->Hp->VK->Prop
noncomputable def OpR (X:Cx) (f:Value->Value->Sem Value) (r:R2):Prop :=
 ∀ (pins:List (Addr×Obj)) (s:Shared) (σ:St) (H:Hp) (x y:V) (v u:Value) (Q:VK),Inv X pins σ H s->RelV x v->RelV y u->r x y H Q ->
  wpAny (model X.prog X.w) X.A (f v u) (EP X pins σ Q) X.xe s
noncomputable def UnR (X:Cx) (f:Value->Sem Value) (r:V->Hp->VK->Prop):Prop :=
 ∀ (pins:List (Addr×Obj)) (s:Shared) (σ:St) (H:Hp) (x:V) (v:Value) (Q:VK),Inv X pins σ H s->RelV x v->r x H Q ->
  wpAny (model X.prog X.w) X.A (f v) (EP X pins σ Q) X.xe s
noncomputable def yjW (X:Cx) (f:Value) (r:List V->Hp->VK->Prop):Prop :=
 ∀ (pins:List (Addr×Obj)) (s:Shared) (σ:St) (H:Hp) (xs:List V) (us:List Value) (Q:VK),Inv X pins σ H s->Vals xs us->r xs H Q ->
  wpAny (model X.prog X.w) X.A (call f us) (EP X pins σ Q) X.xe s
def tOp (r:R2) (ta tb:TE):TE:=fun σ H Q=>ta σ H fun x H1=>tb σ H1 fun y H2=>r x y H2 Q
def tUn (r:V->Hp->VK->Prop) (ta:TE):TE:=fun σ H Q=>ta σ H fun x H1=>r x H1 Q
def rI (C:Int->Int->Prop) (g:Int->Int->V):R2:=fun x y H Q=>∃ i j,x=.int i/\y=.int j/\C i j/\Q (g i j) H
def rI0 (g:Int->Int->V):R2:=fun x y H Q=>∃ i j,x=.int i/\y=.int j/\Q (g i j) H
def rU (g:Int->V):V->Hp->VK->Prop:=fun x H Q=>∃ i,x=.int i/\Q (g i) H
section
variable {X:Cx}{a b c:Expr}{ta tb tc:TE}{pos:Pos}
theorem yJq (ha:PE X a ta) (hb:PE X b tb) {pins:List (Addr×Obj)}{s:Shared}{σ:St}{H:Hp}{R:V->V->Hp->Prop}(I:Inv X pins σ H s)
  (h:ta σ H fun x H1=>tb σ H1 fun y H2=>R x y H2) {Q:Value->Shared->Prop}{f:Value->Value->Sem Value}
  (hf:∀ v u s2 x y H2,Inv X pins σ H2 s2->RelV x v->RelV y u->R x y H2->wpAny (model X.prog X.w) X.A (f v u) Q X.xe s2) :
  wpAny (model X.prog X.w) X.A (eval a X.env) (fun v s₁=>wpAny (model X.prog X.w) X.A (eval b X.env) (fun u s₂=>wpAny (model X.prog X.w) X.A (f v u) Q X.xe s₂) X.xe s₁) X.xe s:=by
 refine thn (ha pins s σ H _ I h) fun v s1 ⟨x,H1,I1,r1,q1⟩=>?_
 refine thn (hb pins s1 σ H1 _ I1 q1) fun u s2 ⟨y,H2,I2,r2,q2⟩=>?_
 exact hf v u s2 x y H2 I2 r1 r2 q2
theorem yGO {op:Operator}{r:R2}(ho:OpR X (binaryOp op) r) (ha:PE X a ta) (hb:PE X b tb):PE X (.BinOp a op b pos) (tOp r ta tb):=by
 intro pins s σ H Q I h
 exact wpAny_BinOp (yJq ha hb I h fun v u s2 x y H2 I2 rx ry q=>ho pins s2 σ H2 x y v u Q I2 rx ry q)
theorem yJr {op:UnaryOp}{r:V->Hp->VK->Prop}(ho:UnR X (unaryOp op) r) (ha:PE X a ta):PE X (.UnaryOp op a pos) (tUn r ta):=by
 intro pins s σ H Q I h
 exact UnaryOp_ (thn (ha pins s σ H _ I h) fun v s1 ⟨x,H1,I1,r1,q1⟩=>ho pins s1 σ H1 x v Q I1 r1 q1)
theorem opI {f:Value->Value->Sem Value}{C:Int->Int->Prop}{g:Int->Int->Int}
  (rule:∀ (i j:Int) (t u:Tok) (s:Shared) (Q:Value->Shared->Prop) (E:Value->Shared->Prop),C i j->Q (.int (g i j) s.toks) { s with toks:=s.toks+1 }->wpAny (model X.prog X.w) X.A (f (.int i t) (.int j u)) Q E s) :
  OpR X f (rI C fun i j=>.int (g i j)):=by
 intro pins s σ H x y v u Q I rx ry h
 obtain ⟨i,j,rfl,rfl,hc,q⟩:=h
 obtain ⟨t,rfl⟩:=rx
 obtain ⟨t',rfl⟩:=ry
 exact rule i j t t' s _ _ hc ⟨.int (g i j),H,I.tok _,⟨_,rfl⟩,q⟩
theorem yLe {f:Value->Value->Sem Value}{g:Int->Int->Int}
  (rule:∀ (i j:Int) (t u:Tok) (s:Shared) (Q:Value->Shared->Prop) (E:Value->Shared->Prop),Q (.int (g i j) s.toks) { s with toks:=s.toks+1 }->wpAny (model X.prog X.w) X.A (f (.int i t) (.int j u)) Q E s) :
  OpR X f (rI0 fun i j=>.int (g i j)):=by
 intro pins s σ H x y v u Q I rx ry h
 obtain ⟨i,j,rfl,rfl,q⟩:=h
 obtain ⟨t,rfl⟩:=rx
 obtain ⟨t',rfl⟩:=ry
 exact rule i j t t' s _ _ ⟨.int (g i j),H,I.tok _,⟨_,rfl⟩,q⟩
theorem yLS {f:Value->Value->Sem Value}{g:Int->Int->Bool}
  (rule:∀ (i j:Int) (t u:Tok) (s:Shared) (Q:Value->Shared->Prop) (E:Value->Shared->Prop),Q (.bool (g i j)) s->wpAny (model X.prog X.w) X.A (f (.int i t) (.int j u)) Q E s) :
  OpR X f (rI0 fun i j=>.bl (g i j)):=by
 intro pins s σ H x y v u Q I rx ry h
 obtain ⟨i,j,rfl,rfl,q⟩:=h
 obtain ⟨t,rfl⟩:=rx
 obtain ⟨t',rfl⟩:=ry
 exact rule i j t t' s _ _ ⟨.bl (g i j),H,I,rfl,q⟩
def yLf (i j:Int):Prop:=0<j/\j<1073741824
def yJs (i j:Int):Prop:=0<=j/\j<=1000000/\i.natAbs<2 ^ 64
def CMul (i j:Int):Prop:=(-(2 ^ 64)<i/\i<2 ^ 64)\/(-(2 ^ 64)<j/\j<2 ^ 64)
theorem CMul.ok {i j:Int}(h:CMul i j):IntMulOk i j:=by
 rcases h with ⟨h1,h2⟩|⟨h1,h2⟩
 .exact .of_left (intBits_le_64 h1 h2)
 .exact .of_right (intBits_le_64 h1 h2)
theorem ydT:OpR X (binaryOp .Add) (rI0 fun i j=>.int (i+j)):=yLe fun _ _ _ _ _ _ _ q=>add_int q
theorem yvs:OpR X (binaryOp .Sub) (rI0 fun i j=>.int (i-j)):=yLe fun _ _ _ _ _ _ _ q=>sub_int q
theorem ynE:OpR X (binaryOp .Mult) (rI CMul fun i j=>.int (i*j)):=opI fun _ _ _ _ _ _ _ hc q=>mul_int q hc.ok
theorem ybe:OpR X (binaryOp .FloorDiv) (rI yLf fun i j=>.int (i/j)):=opI fun i j _ _ _ _ _ hc q=>by
 have h1:(0:Int)<j:=hc.1
 have h2:j<1073741824:=hc.2
 exact floordiv_int (by omega) (by rw [Int.fdiv_eq_ediv_of_nonneg i (by omega)];exact q) (.inl (PyProof.noPylong_small (by omega)))
theorem ybd:OpR X (binaryOp .Mod) (rI (fun _ j=>0<j) fun i j=>.int (i%j)):=opI fun i j _ _ _ _ _ hc q=>by
 have h1:(0:Int)<j:=hc
 exact mod_int' (by omega) (by rw [Int.fmod_eq_emod_of_nonneg i (by omega)];exact q)
theorem yvt:OpR X (binaryOp .Pow) (rI yJs fun i j=>.int (i ^ j.toNat)):=opI fun _ _ _ _ _ _ _ hc q=>pow_int_small hc.1 hc.2.1 hc.2.2 q
theorem unI {f:Value->Sem Value}{g:Int->Int}
  (rule:∀ (i:Int) (t:Tok) (s:Shared) (Q:Value->Shared->Prop) (E:Value->Shared->Prop),Q (.int (g i) s.toks) { s with toks:=s.toks+1 }->wpAny (model X.prog X.w) X.A (f (.int i t)) Q E s) :
  UnR X f (rU fun i=>.int (g i)):=by
 intro pins s σ H x v Q I rx h
 obtain ⟨i,rfl,q⟩:=h
 obtain ⟨t,rfl⟩:=rx
 exact rule i t s _ _ ⟨.int (g i),H,I.tok _,⟨_,rfl⟩,q⟩
theorem yCB:UnR X (unaryOp .USub) (rU fun i=>.int (-i)):=unI fun _ _ _ _ _ q=>neg_int q
end
noncomputable def yEe:V->V->Bool
 | .non,.non=>true|.non,.int _=>true|.int _,.non=>true|.non,.bl _=>true|.bl _,.non=>true|.non,.str _=>true|.str _,.non=>true
 | .int _,.int _=>true|.bl _,.bl _=>true|.str _,.str _=>true|.byt _,.byt _=>true
 | .int _,.str _=>true|.str _,.int _=>true|.bl _,.str _=>true|.str _,.bl _=>true
 | _,_=>false
def rEq:R2:=fun x y H Q=>yEe x y=true/\Q (.bl (decide (x=y))) H
def rNe:R2:=fun x y H Q=>yEe x y=true/\Q (.bl (!decide (x=y))) H
theorem yxE {i j:Int}:decide (V.int i=V.int j)=(i == j):=by
 rw [Bool.eq_iff_iff]
 simp
theorem yCC {i j:Bool}:decide (V.bl i=V.bl j)=(i == j):=by
 rw [Bool.eq_iff_iff]
 simp
theorem yxF {i j:Str}:decide (V.str i=V.str j)=(i == j):=by
 rw [Bool.eq_iff_iff]
 simp
theorem yxG {i j:Array UInt8}:decide (V.byt i=V.byt j)=(i.toList == j.toList):=by
 rw [Bool.eq_iff_iff]
 cases i
 cases j
 simp
section
variable {X:Cx}{a b c:Expr}{ta tb tc:TE}{pos:Pos}
theorem ycc {pins:List (Addr×Obj)}{σ:St}{H:Hp}{s:Shared}{Q:VK}{k k':Bool}(I:Inv X pins σ H s) (q:Q (.bl k) H) (e:k=k'):EP X pins σ Q (.bool k') s:=by
 subst e
 exact ⟨.bl k,H,I,rfl,q⟩
theorem ydq:OpR X (compareOp .Eq) rEq:=by
 intro pins s σ H x y v u Q I rx ry h
 obtain ⟨hs,q⟩:=h
 cases x with
 | non =>
  cases rx
  cases y with
  | non=>cases ry;exact PySem.EqNone.eq_none_none (ycc I q (by simp))
  | bl j=>cases ry;exact PySem.EqNone.eq_none_bool (ycc I q (by simp))
  | int j=>obtain ⟨t',rfl⟩:=ry;exact PySem.EqNone.eq_none_int (ycc I q (by simp))
  | str j=>obtain ⟨t',rfl⟩:=ry;exact PySem.EqNone.eq_none_str (ycc I q (by simp))
  | _=>exact absurd (show false=true from hs) Bool.false_ne_true
 | bl i =>
  cases rx
  cases y with
  | non=>cases ry;exact PySem.EqNone.eq_bool_none (ycc I q (by simp))
  | bl j=>cases ry;exact eq_bool (ycc I q yCC)
  | str j=>obtain ⟨t',rfl⟩:=ry;exact PySem.EqMixed.eq_bool_str (ycc I q (by simp))
  | _=>exact absurd (show false=true from hs) Bool.false_ne_true
 | int i =>
  obtain ⟨t,rfl⟩:=rx
  cases y with
  | non=>cases ry;exact PySem.EqNone.eq_int_none (ycc I q (by simp))
  | int j=>obtain ⟨t',rfl⟩:=ry;exact eq_int (ycc I q yxE)
  | str j=>obtain ⟨t',rfl⟩:=ry;exact PySem.EqMixed.eq_int_str (ycc I q (by simp))
  | _=>exact absurd (show false=true from hs) Bool.false_ne_true
 | str i =>
  obtain ⟨t,rfl⟩:=rx
  cases y with
  | non=>cases ry;exact PySem.EqNone.eq_str_none (ycc I q (by simp))
  | bl j=>cases ry;exact PySem.EqMixed.eq_str_bool (ycc I q (by simp))
  | int j=>obtain ⟨t',rfl⟩:=ry;exact PySem.EqMixed.eq_str_int (ycc I q (by simp))
  | str j=>obtain ⟨t',rfl⟩:=ry;exact eq_str (ycc I q yxF)
  | _=>exact absurd (show false=true from hs) Bool.false_ne_true
 | byt i =>
  obtain ⟨t,rfl⟩:=rx
  cases y with
  | byt j=>obtain ⟨t',rfl⟩:=ry;exact PySem.W.eq_bytes (ycc I q yxG)
  | _=>exact absurd (show false=true from hs) Bool.false_ne_true
 | _=>cases y<;>exact absurd (show false=true from hs) Bool.false_ne_true
theorem yGP:OpR X (compareOp .NotEq) rNe:=by
 intro pins s σ H x y v u Q I rx ry h
 obtain ⟨hs,q⟩:=h
 cases x with
 | non =>
  cases rx
  cases y with
  | non=>cases ry;exact PySem.EqNone.ne_none_none (ycc I q (by simp))
  | bl j=>cases ry;exact PySem.EqNone.ne_none_bool (ycc I q (by simp))
  | int j=>obtain ⟨t',rfl⟩:=ry;exact PySem.EqNone.ne_none_int (ycc I q (by simp))
  | str j=>obtain ⟨t',rfl⟩:=ry;exact PySem.EqNone.ne_none_str (ycc I q (by simp))
  | _=>exact absurd (show false=true from hs) Bool.false_ne_true
 | bl i =>
  cases rx
  cases y with
  | non=>cases ry;exact PySem.EqNone.ne_bool_none (ycc I q (by simp))
  | bl j=>cases ry;exact ne_bool (ycc I q (congrArg not yCC))
  | str j=>obtain ⟨t',rfl⟩:=ry;exact PySem.EqMixed.ne_bool_str (ycc I q (by simp))
  | _=>exact absurd (show false=true from hs) Bool.false_ne_true
 | int i =>
  obtain ⟨t,rfl⟩:=rx
  cases y with
  | non=>cases ry;exact PySem.EqNone.ne_int_none (ycc I q (by simp))
  | int j=>obtain ⟨t',rfl⟩:=ry;exact ne_int (ycc I q (congrArg not yxE))
  | str j=>obtain ⟨t',rfl⟩:=ry;exact PySem.EqMixed.ne_int_str (ycc I q (by simp))
  | _=>exact absurd (show false=true from hs) Bool.false_ne_true
 | str i =>
  obtain ⟨t,rfl⟩:=rx
  cases y with
  | non=>cases ry;exact PySem.EqNone.ne_str_none (ycc I q (by simp))
  | bl j=>cases ry;exact PySem.EqMixed.ne_str_bool (ycc I q (by simp))
  | int j=>obtain ⟨t',rfl⟩:=ry;exact PySem.EqMixed.ne_str_int (ycc I q (by simp))
  | str j=>obtain ⟨t',rfl⟩:=ry;exact ne_str (ycc I q (congrArg not yxF))
  | _=>exact absurd (show false=true from hs) Bool.false_ne_true
 | byt i =>
  obtain ⟨t,rfl⟩:=rx
  cases y with
  | byt j=>obtain ⟨t',rfl⟩:=ry;exact PySem.W.ne_bytes (ycc I q (congrArg not yxG))
  | _=>exact absurd (show false=true from hs) Bool.false_ne_true
 | _=>cases y<;>exact absurd (show false=true from hs) Bool.false_ne_true
theorem yrN:OpR X (compareOp .Lt) (rI0 fun i j=>.bl (decide (i<j))):=yLS fun _ _ _ _ _ _ _ q=>lt_int q
theorem yxH:OpR X (compareOp .Is) (fun x y H Q=>y=.non/\Q (.bl (decide (x=.non))) H):=by
 intro pins s σ H x y v u Q I rx ry h
 obtain ⟨rfl,q⟩:=h
 cases ry
 refine is_none_gen (ycc I q ?_)
 cases x<;>first
  | (cases rx;rfl)
  | (obtain ⟨t,rfl⟩:=rx;rfl)
theorem yEf:OpR X (compareOp .IsNot) (fun x y H Q=>y=.non/\Q (.bl (!decide (x=.non))) H):=by
 intro pins s σ H x y v u Q I rx ry h
 obtain ⟨rfl,q⟩:=h
 cases ry
 refine isnot_none_gen (ycc I q ?_)
 cases x<;>first
  | (cases rx;rfl)
  | (obtain ⟨t,rfl⟩:=rx;rfl)
theorem yL (b:Expr) {op:CmpOp}(h:op≠.In:=by decide) (h2:op≠.NotIn:=by decide):behindInMarks op b=false:=by
 have e1:(op == CmpOp.In)=false:=by cases op<;>first|rfl|exact absurd rfl h
 have e2:(op == CmpOp.NotIn)=false:=by cases op<;>first|rfl|exact absurd rfl h2
 cases b<;>simp [behindInMarks,e1,e2]
theorem yEg {op:CmpOp}{r:R2}(ho:OpR X (compareOp op) r) (ha:PE X a ta) (hb:PE X b tb) (hm:behindInMarks op b=false):PE X (.Compare a [op] [b] pos) (tOp r ta tb):=by
 intro pins s σ H Q I h
 exact wpAny_Compare1 (yJq ha hb I h fun v u s2 x y H2 I2 rx ry q=>ho pins s2 σ H2 x y v u Q I2 rx ry q) hm
def yGQ (t:TE):TT:=fun σ H Q=>t σ H fun x H'=>∃ k,x=.bl k/\Q k H'
theorem yEh {op:CmpOp}{r:R2}(ho:OpR X (compareOp op) r) (ha:PE X a ta) (hb:PE X b tb) (hm:behindInMarks op b=false):PT X (.Compare a [op] [b] pos) (yGQ (tOp r ta tb)):=by
 intro pins s σ H Q I h
 refine wpAny_isTrue_Compare1 (thn (ha pins s σ H _ I h) fun v s1 ⟨x,H1,I1,r1,q1⟩=>thn (hb pins s1 σ H1 _ I1 q1) fun u s2 ⟨y,H2,I2,r2,q2⟩ =>
  thn (ho pins s2 σ H2 x y v u _ I2 r1 r2 q2) fun c s3 ⟨z,H3,I3,r3,k,e,q3⟩=>?_) hm
 subst e
 cases r3
 exact wpAny_truthy_bool ⟨H3,I3,q3⟩
theorem ypK:(sizeLine:Nat)<2 ^ 63:=by rw [sizeLine_eq];decide
theorem ywo:OpR X (binaryOp .Add) (fun x y H Q=>∃ i j,x=.str i/\y=.str j/\i.length+j.length<=sizeLine/\Q (.str (i++j)) H):=by
 intro pins s σ H x y v u Q I rx ry h
 obtain ⟨i,j,rfl,rfl,hz,q⟩:=h
 obtain ⟨t,rfl⟩:=rx
 obtain ⟨t',rfl⟩:=ry
 exact add_str (fun t' tk=>⟨.str (i++j),H,I.tok _,⟨_,rfl⟩,q⟩) hz
theorem vals1 {x:V}{us:List Value}(r:Vals [x] us):∃ u,us=[u]/\RelV x u:=by
 cases r with
 | cons r1 r2=>cases r2;exact ⟨_,rfl,r1⟩
theorem vals2 {x y:V}{us:List Value}(r:Vals [x,y] us):∃ u w',us=[u,w']/\RelV x u/\RelV y w':=by
 cases r with
 | cons r1 r2 =>
  cases r2 with
  | cons r3 r4=>cases r4;exact ⟨_,_,rfl,r1,r3⟩
theorem yxI (hc:X.calm=true):yjW X (.builtin "max") (fun xs H Q=>∃ i j,xs=[.int i,.int j]/\Q (.int (if j>i then j else i)) H):=by
 intro pins s σ H xs us Q I r h
 obtain ⟨i,j,rfl,q⟩:=h
 obtain ⟨u,w',rfl,⟨t,rfl⟩,⟨t',rfl⟩⟩:=vals2 r
 refine max_two_ints (I.ok.hd hc) fun h' tk k=>⟨_,H,I.kept k,?_,q⟩
 by_cases hj:j>i
 .rw [if_pos hj,if_pos hj];exact ⟨_,rfl⟩
 .rw [if_neg hj,if_neg hj];exact ⟨_,rfl⟩
theorem ynF:yjW X (.type "int") (fun xs H Q=>(∃ i,xs=[.int i]/\Q (.int i) H)\/∃ k,xs=[.bl k]/\Q (.int (if k then 1 else 0)) H):=by
 intro pins s σ H xs us Q I r h
 rcases h with ⟨i,rfl,q⟩|⟨k,rfl,q⟩
 .obtain ⟨u,rfl,t,rfl⟩:=vals1 r
  exact call_int_int ⟨.int i,H,I,⟨_,rfl⟩,q⟩
 .obtain ⟨u,rfl,r1⟩:=vals1 r
  cases r1
  exact call_int_bool ⟨.int (if k then 1 else 0),H,I.tok _,⟨_,rfl⟩,q⟩
end
end L2
namespace L2
open PySem PySem.Spec PyProof.Rows
structure ObjM (h:Heap) (x dx C:Addr) (mA:Str->Option Value):Prop where
 obj:h.get? x=some (instObj C dx)
 ns:h.Ns1 dx mA
 ne:dx≠x
theorem yxJ {h:Heap}{dx:Addr}{mA:Str->Option Value}(n:h.Ns1 dx mA):∃ od,h.get? dx=some od/\∀ name,PySem.W.lookIn name od=some (mA name):=by
 obtain ⟨o,es,ep,ho,hd,hk,_,hm⟩:=n
 refine ⟨o,ho,fun name=>?_⟩
 have e:=hm name
 unfold nsFind findBy at e
 rw [<- Array.find?_toList] at e
 unfold PySem.W.lookIn
 rw [hd]
 dsimp only
 split
 .rename_i y q
  rw [q] at e
  exact congrArg some e
 .rename_i q
  rw [q] at e
  have a:es.toList.any (·.refKey)=false:=by
   rw [List.any_eq_false]
   intro y hy
   obtain ⟨z,t,hkey⟩:=hk y (Array.mem_toList_iff.mp hy)
   simp [DictEntry.refKey,hkey]
  have a':¬ es.toList.any (·.refKey)=true:=by rw [a];exact Bool.false_ne_true
  rw [if_neg a']
  exact congrArg some e
theorem ObjM.look {h:Heap}{x dx C:Addr}{mA:Str->Option Value}(I:ObjM h x dx C mA):∃ od,PySem.W.InstAt h x (instObj C dx) C (some od)/\∀ name,PySem.W.lookIn name od=some (mA name) :=
 let ⟨od,ho,hl⟩:=yxJ I.ns
 ⟨od,⟨I.obj,rfl,rfl,ho⟩,hl⟩
section
variable {prog:Program}{w:World}{A:Around}{E:Value->Shared->Prop}{s:Shared}{K:PySem.W.Frag}{x dx C f:Addr}{mA:Str->Option Value}{name:Str}{v:Value}
theorem yEi {expr:Bool}{Q:Value->Shared->Prop}(X:K.In s.heap) (I:ObjM s.heap x dx C mA) (hg:plainGet K C name=true) (hh:hasDictIn K C=true)
  (ha:findIn K (.ref C) name=some none) (hv:mA name=some v) (hv':PySem.W.handedIn v=true) (h:Q v { s with toks:=s.toks+1 }) :
  wpAny (model prog w) A (getAttr (.ref x) name expr) Q E s:=by
 obtain ⟨od,J,hl⟩:=I.look
 exact PySem.W.get_value X J (PySem.W.plainGet_of hg).1 (PySem.W.findObj_own hh ha rfl (by rw [hl,hv])) hv' h
theorem yAC {pl:Sem Bool}{Q:Value×List Value->Shared->Prop}(X:K.In s.heap) (I:ObjM s.heap x dx C mA) (hg:plainGet K C name=true)
  (hf:findIn K (.ref C) name=some (some (.ref f))) (ht:isFn K (.ref f)=true) (hv:mA name=none) (h:Q (.ref f,[.ref x]) s) :
  wpAny (model prog w) A (getMethod (.ref x) name pl) Q E s:=by
 obtain ⟨od,J,hl⟩:=I.look
 exact PySem.W.method_fn X J (PySem.W.plainGet_of hg).1 (PySem.W.plainGet_of hg).2 hf (beq_iff_eq.mp ht) (by show (PySem.W.lookIn name od).map (·.isSome)=some false;rw [hl,hv];rfl) h
theorem yEj {ns:List Str}{Q:Unit->Shared->Prop}(X:K.In s.heap) (I:ObjM s.heap x dx C mA)
  (hs:findIn K (.ref C) "__setattr__" = some (some (.builtin "object.__setattr__"))) (hp:plainOver K C=true) (ht:PySem.W.takerIn K C name=some none) (hh:hasDictIn K C=true)
  (hw:PySem.Within mA ns) (hsz:ns.length<=sizeLine)
  (h:∀ h',ObjM h' x dx C (fun y=>if y=name then some v else mA y)->Heap.SameBut dx s.heap h'->Q () { s with heap:=h',toks:=s.toks+2 }) :
  wpAny (model prog w) A (setAttr (.ref x) name v) Q E s:=by
 obtain ⟨od,J,hl⟩:=I.look
 refine PySem.W.set_plain X J hs (PySem.W.osa_open (s:={ s with toks:=s.toks+1 }) (r:=none) X J hp ht fun b=>?_)
 obtain ⟨cd,hc,hd'⟩:=PySem.W.any_some hh
 have hx:s.heap.get? x=some ⟨.ref C,some dx,.plain,#[]⟩:=I.obj
 refine wpAny_bind (wpAny_pure (wpAny_bind (wpAny_bind (wpAny_loadPart hx (wpAny_bind (PySem.W.Looks.here (s:={ s with toks:=s.toks+1 }) (PySem.W.looks_clsIn X hc) ?_))))))
 rw [hd']
 refine wpAny_pure (a:=some dx) (wpAny_bind (wpAny_pure (wpAny_bind ?_)))
 refine wpAny_nsSet1 (s:={ s with toks:=s.toks+1 }) I.ns fun h' hn2 hs2=>?_
 obtain ⟨oD,esD,epD,hoD,hdD,hcD⟩:=hn2.count (PySem.Within.cons name v hw)
 refine wpAny_bind (wpAny_lookBehind hoD (by rw [hdD];exact pastItsLine_dict (Nat.le_trans hcD (by rw [List.length_cons];omega))) ?_)
 exact wpAny_pure (h _ ⟨(hs2.2 _ (Ne.symm I.ne)).trans I.obj,hn2,I.ne⟩ hs2)
theorem yAD {R:Result->Shared->Prop}{vs:List Value}{kw:List (Str×Value)}(X:K.In s.heap) (hm:makesIn K C=true)
  (hi:findIn K (.ref C) "__init__" = some (some (.ref f))) (hf:typeIn K (.ref f)=some (.type "function"))
  (h:codeAny (model prog w) (A.under (.builtin "type.__call__" ⟨.ref C::vs,kw⟩)) (.call (.ref f) ⟨.ref (s.heap.objs.size+1)::vs,kw⟩) (PySem.W.InitBack (s.heap.objs.size+1) R)
   { s with heap:=(s.heap.push emptyDict).push (instObj C s.heap.objs.size) }) :
  codeAny (model prog w) A (.call (.ref C) ⟨vs,kw⟩) R s:=by
 obtain ⟨hh,g,d,t,os⟩:=s
 exact PySem.W.make_core (PySem.W.makes_of X hm) (PySem.W.looks_findIn X hi) (fun self=>PySem.W.bind_fn X self hf) (.inl rfl) h
end
def ypL (f:Str) (v:V):List (Str×V)->List (Str×V)
 | []=>[(f,v)]
 | (g,x)::r=>if g=f then (g,v)::r else (g,x)::ypL f v r
theorem ynG (f g:Str) (v:V):∀ fs:List (Str×V),(ypL f v fs).lookup g=if g=f then some v else fs.lookup g
 | []=>by
  show List.lookup g [(f,v)]=_
  by_cases h:g=f
  .have hb:(g == f)=true:=beq_iff_eq.mpr h
   simp only [List.lookup,hb,if_pos h]
  .have hb:(g == f)=false:=beq_eq_false_iff_ne.mpr h
   simp only [List.lookup,hb,if_neg h]
 | (k,x)::r=>by
  have ih:=ynG f g v r
  rw [show ypL f v ((k,x)::r)=(if k=f then (k,v)::r else (k,x)::ypL f v r) from rfl]
  by_cases hk:k=f
  .rw [if_pos hk]
   by_cases h:g=k
   .have hb:(g == k)=true:=beq_iff_eq.mpr h
    simp only [List.lookup,hb,if_pos (h.trans hk)]
   .have hb:(g == k)=false:=beq_eq_false_iff_ne.mpr h
    simp only [List.lookup,hb,if_neg (fun e:g=f=>h (e.trans hk.symm))]
  .rw [if_neg hk]
   by_cases h:g=k
   .have hb:(g == k)=true:=beq_iff_eq.mpr h
    simp only [List.lookup,hb,if_neg (fun e:g=f=>hk (h.symm.trans e))]
   .have hb:(g == k)=false:=beq_eq_false_iff_ne.mpr h
    simp only [List.lookup,hb]
    exact ih
theorem ynH (f:Str) (v:V):∀ fs:List (Str×V),f∈(ypL f v fs).map (·.1)/\∀ g,g∈fs.map (·.1)->g∈(ypL f v fs).map (·.1)
 | []=>⟨by simp [ypL],fun g h=>by simp at h⟩
 | (k,x)::r=>by
  obtain ⟨i1,i2⟩:=ynH f v r
  rw [show ypL f v ((k,x)::r)=(if k=f then (k,v)::r else (k,x)::ypL f v r) from rfl]
  by_cases hk:k=f
  .rw [if_pos hk]
   subst hk
   exact ⟨by simp,fun g h=>by simpa using h⟩
  .rw [if_neg hk]
   refine ⟨?_,fun g h=>?_⟩
   .rw [List.map_cons]
    exact List.mem_cons_of_mem _ i1
   .rw [List.map_cons] at h ⊢
    rcases List.mem_cons.mp h with e|e
    .exact List.mem_cons.mpr (.inl e)
    .exact List.mem_cons_of_mem _ (i2 g e)
theorem ynI (f:Str) (v:V):∀ fs:List (Str×V),(ypL f v fs).length<=fs.length+1
 | []=>by simp [ypL]
 | (k,x)::r=>by
  have ih:=ynI f v r
  rw [show ypL f v ((k,x)::r)=(if k=f then (k,v)::r else (k,x)::ypL f v r) from rfl]
  by_cases hk:k=f
  .rw [if_pos hk,List.length_cons,List.length_cons];omega
  .rw [if_neg hk,List.length_cons,List.length_cons];omega
theorem RelO.some_of {v:V}{o:Option Value}(r:RelO (some v) o):∃ u,o=some u/\RelV v u:=by
 cases o with
 | none=>exact (show False from r).elim
 | some u=>exact ⟨u,rfl,r⟩
theorem RelO.none_of {o:Option Value}(r:RelO none o):o=none:=by
 cases o with
 | none=>rfl
 | some u=>exact (show False from r).elim
theorem yxK {v:V}{u:Value}(r:RelV v u):PySem.W.handedIn u=true:=by
 cases v with
 | non=>cases (show u=Value.none from r);rfl
 | bl b=>cases (show u=Value.bool b from r);rfl
 | int i=>obtain ⟨t,e⟩:=(show ∃ t,u=Value.int i t from r);cases e;rfl
 | str x=>obtain ⟨t,e⟩:=(show ∃ t,u=Value.str x t from r);cases e;rfl
 | byt b=>obtain ⟨t,e⟩:=(show ∃ t,u=Value.bytes b t from r);cases e;rfl
 | flt b=>obtain ⟨t,e⟩:=(show ∃ t,u=Value.float b t from r);cases e;rfl
 | ref a=>cases (show u=Value.ref a from r);rfl
 | ty n=>cases (show u=Value.type n from r);rfl
section
variable {P:Program}{w:World}{H H':Hp}{h h':Heap}{a C dx:Addr}{fs fs':List (Str×V)}
theorem yqh (hok:HOk P w H h) (e:H a=some (.ins C dx fs)):∃ mA,ObjM h a dx C mA/\(∀ f,RelO (fs.lookup f) (mA f))/\PySem.Within mA (fs.map (·.1))/\fs.length<=1000/\H dx=some (.own a):=by
 obtain ⟨d,z,ne,ob,mA,n,r,q⟩:=(show ObjOk P w H h a (.ins C dx fs) from hok a _ e)
 exact ⟨mA,⟨ob,n,ne⟩,r,q,z,d⟩
end
structure Cls (K:PySem.W.Frag) (C:Addr):Prop where
 pg:plainGet K C Str.empty=true
 hd:hasDictIn K C=true
 po:plainOver K C=true
 sa:findIn K (.ref C) "__setattr__" = some (some (.builtin "object.__setattr__"))
theorem Cls.get {K:PySem.W.Frag}{C:Addr}(c:Cls K C) (f:Str):plainGet K C f=true:=c.pg
def NoAttr (K:PySem.W.Frag) (C:Addr) (f:Str):Prop:=findIn K (.ref C) f=some none
theorem NoAttr.taker {K:PySem.W.Frag}{C:Addr}{f:Str}(n:NoAttr K C f):PySem.W.takerIn K C f=some none:=by
 unfold PySem.W.takerIn
 rw [show findIn K (.ref C) f=some none from n]
 rfl
structure ykI (K:PySem.W.Frag) (C:Addr) (m:Str) (f:Addr):Prop where
 at_:findIn K (.ref C) m=some (some (.ref f))
 fn:isFn K (.ref f)=true
 kp:keepIn K (.ref f)=true
section
variable {X:Cx}{pins:List (Addr×Obj)}{σ:St}{H:Hp}{s:Shared}{a C dx:Addr}{fs:List (Str×V)}{f:Str}{v:V}{A:Around}{E:Value->Shared->Prop}
theorem ywp {b:Bool}{Q:Value->Shared->Prop}(I:Inv X pins σ H s) (e:H a=some (.ins C dx fs)) (c:Cls X.K C) (n:NoAttr X.K C f) (l:fs.lookup f=some v)
  (h:∀ u s',Inv X pins σ H s'->RelV v u->Q u s'):wpAny (model X.prog X.w) A (getAttr (.ref a) f b) Q E s:=by
 obtain ⟨mA,O,r,_,_,_⟩:=yqh I.hok e
 obtain ⟨u,hu,ru⟩:=RelO.some_of (v:=v) (o:=mA f) (by rw [<- l];exact r f)
 exact yEi I.kIn O (c.get f) c.hd n hu (yxK ru) (h u _ (I.tok _) ru)
theorem ypM {m:Str}{g:Addr}{pl:Sem Bool}{Q:Value×List Value->Shared->Prop}(I:Inv X pins σ H s) (e:H a=some (.ins C dx fs)) (c:Cls X.K C) (k:ykI X.K C m g) (l:fs.lookup m=none)
  (h:Q (.ref g,[.ref a]) s):wpAny (model X.prog X.w) A (getMethod (.ref a) m pl) Q E s:=by
 obtain ⟨mA,O,r,_,_,_⟩:=yqh I.hok e
 have hn:mA m=none:=RelO.none_of (by rw [<- l];exact r m)
 exact yAC I.kIn O (c.get m) k.at_ k.fn hn h
theorem ywq {y:V}{u:Value}{Q:Unit->Shared->Prop}(I:Inv X pins σ H s) (e:H a=some (.ins C dx fs)) (c:Cls X.K C) (n:NoAttr X.K C f) (hl:fs.length<1000) (ry:RelV y u)
  (h:∀ s',Inv X pins σ (upd H a (.ins C dx (ypL f y fs))) s'->Q () s'):wpAny (model X.prog X.w) A (setAttr (.ref a) f u) Q E s:=by
 obtain ⟨mA,O,r,wi,_,ho⟩:=yqh I.hok e
 have hz:(fs.map (·.1)).length<=sizeLine:=by rw [List.length_map,sizeLine_eq];omega
 refine yEj I.kIn O c.sa c.po n.taker c.hd wi hz fun h' O' sb=>h _ ?_
 have hd:∃ o,h'.get? dx=some o:=let ⟨o,_,_,e',_⟩:=O'.ns;⟨o,e'⟩
 refine I.write (x:=a) (e:=dx) (by rw [e];exact True.intro) (.inr ho) (fun b q hb z=>(sb.2 b hb).trans z) hd ?_
 refine ⟨by rw [ybc O.ne];exact ho,?_,O.ne,O'.obj,_,O'.ns,fun g=>?_,fun g hg=>?_⟩
 .have:=ynI f y fs;omega
 .show RelO ((ypL f y fs).lookup g) (if g=f then some u else mA g)
  rw [ynG]
  by_cases q:g=f
  .rw [if_pos q,if_pos q];exact ry
  .rw [if_neg q,if_neg q];exact r g
 .by_cases q:g=f
  .rw [q];exact (ynH f y fs).1
  .refine (ynH f y fs).2 g (wi g fun z=>hg ?_)
   show (if g=f then some u else mA g)=none
   rw [if_neg q];exact z
theorem Inv.made (I:Inv X pins σ H s):Inv X pins σ (upd (upd H s.heap.objs.size (.own (s.heap.objs.size+1))) (s.heap.objs.size+1) (.ins C s.heap.objs.size []))
  { s with heap:=(s.heap.push emptyDict).push (instObj C s.heap.objs.size) }:=by
 have e1:(s.heap.push emptyDict).get? s.heap.objs.size=some emptyDict:=Heap.get?_push_size s.heap rfl
 have e2:((s.heap.push emptyDict).push (instObj C s.heap.objs.size)).get? (s.heap.objs.size+1)=some (instObj C s.heap.objs.size):=by
  have:=Heap.get?_push_size (s.heap.push emptyDict) (o:=instObj C s.heap.objs.size) rfl
  rwa [Heap.size_push] at this
 have e3:(s.heap.push emptyDict).Ns s.heap.objs.size (fun _=>none):=⟨emptyDict,#[],_,e1,rfl,(fun e he=>absurd he (by simp)),fun _=>rfl⟩
 have I1:=I.laid (a:=s.heap.objs.size) (o:=.own (s.heap.objs.size+1)) (h':=s.heap.push emptyDict) (t':=s.toks) (fun b u q=>Heap.get?_push_of_some _ q) (Nat.le_refl _) ⟨_,e1⟩
 refine I1.laid (a:=s.heap.objs.size+1) (o:=.ins C s.heap.objs.size []) (t':=s.toks) (fun b u q=>Heap.get?_push_of_some _ q) (Nat.le_of_eq (Heap.size_push _ _)) ?_
 have ne:s.heap.objs.size≠s.heap.objs.size+1:=Nat.ne_of_lt (Nat.lt_succ_self _)
 refine ⟨by rw [ybc ne,yQ],Nat.zero_le _,ne,e2,fun _=>none,(Heap.Ns1.of_empty e3).at fun o q=>Heap.get?_push_of_some _ q,fun _=>True.intro,fun y hy=>absurd rfl hy⟩
theorem yEk {prog:Program}{w:World}{env:Env}{e:Expr}{f:Str}{pos:Pos}{s:Shared}{Q:Value->Shared->Prop}(hb:attributeBase e f env (eval e env)=eval e env)
  (h:wpAny (model prog w) A (eval e env) (fun o s₁=>wpAny (model prog w) A (getAttr o f true) Q E s₁) E s):wpAny (model prog w) A (eval (.Attribute e f pos) env) Q E s :=
 Attribute_any_ h (by rw [arm_eval_Attribute,hb])
end
noncomputable def yLg (K:PySem.W.Frag) (ta:TE) (f:Str):TE:=fun σ H Q=>ta σ H fun x H1=>∃ a C dx fs v,x=.ref a/\H1 a=some (.ins C dx fs)/\Cls K C/\NoAttr K C f/\fs.lookup f=some v/\Q v H1
noncomputable def yJt (K:PySem.W.Frag) (ta tv:TE) (f:Str):TS:=fun D σ H=>tv σ H fun y H1=>ta σ H1 fun x H2=>∃ a C dx fs,x=.ref a/\H2 a=some (.ins C dx fs)/\Cls K C/\NoAttr K C f/\fs.length<1000 /\
 D.nx σ (upd H2 a (.ins C dx (ypL f y fs)))
section
variable {X:Cx}{o e value:Expr}{f:Str}{pos pos' tpos:Pos}{ta tv:TE}
theorem yGR (he:PE X e ta) (hb:attributeBase e f X.env (eval e X.env)=eval e X.env):PE X (.Attribute e f pos) (yLg X.K ta f):=by
 intro pins s σ H Q I h
 refine yEk hb (thn (he pins s σ H _ I h) fun u s1 ⟨x,H1,I1,rx,a,C,dx,fs,v,ex,ea,c,n,l,q⟩=>?_)
 subst ex
 obtain rfl:u=Value.ref a:=rx
 exact ywp I1 ea c n l fun u' s2 I2 ru=>⟨v,H1,I2,ru,q⟩
theorem yCD (ha:PE X o ta) (hv:PE X value tv) (hs:swapsWith value (some (.Attribute o f pos')) pos.line X.env=pure false):PS X (.Assign [.Attribute o f pos'] value pos) (yJt X.K ta tv f):=by
 intro pins s σ H D I h
 refine plainObj_wpAny_Assign_Attribute (thn (hv pins s σ H _ I h) fun u s1 ⟨y,H1,I1,ry,q⟩=>thn (ha pins s1 σ H1 _ I1 q) fun ov s2 ⟨x,H2,I2,rx,a,C,dx,fs,ex,ea,c,n,l,q2⟩=>?_) hs
 subst ex
 obtain rfl:ov=Value.ref a:=rx
 exact ywq I2 ea c n l ry fun s3 I3=>⟨σ,_,I3,q2⟩
end
section
variable {X:Cx}{pins:List (Addr×Obj)}{σ:St}{H:Hp}{s:Shared}{A:Around}{E:Value->Shared->Prop}{Q:Value->Shared->Prop}{c:Value}{b:Bool}
inductive ynJ (K:PySem.W.Frag) (H:Hp):V->Value->Prop where
 | non:ynJ K H .non (.type "NoneType")
 | bl (x:Bool):ynJ K H (.bl x) (.type "bool")
 | int (i:Int):ynJ K H (.int i) (.type "int")
 | str (x:Str):ynJ K H (.str x) (.type "str")
 | flt (x:UInt64):ynJ K H (.flt x) (.type "float")
 | lst {a:Addr}{xs:List V}(e:H a=some (.lst xs)):ynJ K H (.ref a) (.type "list")
 | frz {a:Addr}{o:Obj}{xs:List V}(e:H a=some (.frz o (.lst xs))):ynJ K H (.ref a) (.type "list")
 | tup {a:Addr}{xs:List V}(e:H a=some (.tup xs)):ynJ K H (.ref a) (.type "tuple")
 | kt {a:Addr}{o:Obj}(e:K.lookup a=some o) (c:o.cls=.type "tuple"):ynJ K H (.ref a) (.type "tuple")
 | dK {a:Addr}{kvs:List (Key×V)}(e:H a=some (.dK kvs)):ynJ K H (.ref a) (.type "dict")
 | dT {a:Addr}{kvs:List (List Key×V)}(e:H a=some (.dT kvs)):ynJ K H (.ref a) (.type "dict")
 | ins {a C dx:Addr}{fs:List (Str×V)}(e:H a=some (.ins C dx fs)) (cl:Cls K C) (ha:findIn K (.ref C) "__class__" = some (some (.builtin "object.__class__")))
   (hn:PySem.W.specialIn K (.builtin "object.__class__") "__get__" = some (some (.builtin "getset_descriptor.__get__"))) (htk:PySem.W.takesIn K (.builtin "object.__class__")=some true)
   (hm:mroIn K C (.type "object")=some true):ynJ K H (.ref a) (.ref C)
theorem yxL {x:V}{u t:Value}(I:Inv X pins σ H s) (rx:RelV x u) (ty:ynJ X.K H x t) (e:PySem.W.kitOne X.K t c=some b) (h:∀ tk,Q (.bool b) { s with toks:=tk }) :
  wpAny (model X.prog X.w) A (call (.builtin "isinstance") [u,c]) Q E s:=by
 cases ty with
 | non=>cases (show u=Value.none from rx);exact kia_one PySem.W.kitx_none I.kIn True.intro e (fun z=>nomatch z) h
 | bl y=>cases (show u=Value.bool y from rx);exact kia_one PySem.W.kitx_bool I.kIn True.intro e (fun z=>nomatch z) h
 | int i=>obtain ⟨t,q⟩:=(show ∃ t,u=Value.int i t from rx);cases q;exact kia_one PySem.W.kitx_int I.kIn True.intro e (fun z=>nomatch z) h
 | str y=>obtain ⟨t,q⟩:=(show ∃ t,u=Value.str y t from rx);cases q;exact kia_one PySem.W.kitx_str I.kIn True.intro e (fun z=>nomatch z) h
 | flt y=>obtain ⟨t,q⟩:=(show ∃ t,u=Value.float y t from rx);cases q;exact kia_one PySem.W.kitx_float I.kIn True.intro e (fun z=>nomatch z) h
 | @lst a xs ea =>
  cases (show u=Value.ref a from rx)
  obtain ⟨_,_,n,_,h1⟩:=(show ObjOk X.prog X.w H s.heap a (.lst xs) from I.hok a _ ea)
  exact kia_one PySem.W.kitx_list I.kIn ⟨_,h1,rfl⟩ e (fun z=>nomatch z) h
 | @frz a ob xs ea =>
  cases (show u=Value.ref a from rx)
  obtain ⟨_,_,_,n,_,h1⟩:=(show ObjOk X.prog X.w H s.heap a (.frz ob (.lst xs)) from I.hok a _ ea)
  exact kia_one PySem.W.kitx_list I.kIn ⟨_,h1,rfl⟩ e (fun z=>nomatch z) h
 | @tup a xs ea =>
  cases (show u=Value.ref a from rx)
  obtain ⟨_,_,_,p⟩:=(show ObjOk X.prog X.w H s.heap a (.tup xs) from I.hok a _ ea)
  obtain ⟨o,h1,h2,_⟩:=p
  exact kia_one PySem.W.kitx_tuple I.kIn ⟨o,h1,h2⟩ e (fun z=>nomatch z) h
 | @kt a ob ek ck =>
  cases (show u=Value.ref a from rx)
  exact kia_one PySem.W.kitx_tuple I.kIn ⟨ob,I.kIn a ob ek,ck⟩ e (fun z=>nomatch z) h
 | @dK a kvs ea =>
  cases (show u=Value.ref a from rx)
  obtain ⟨_,_,vs,_,p⟩:=(show ObjOk X.prog X.w H s.heap a (.dK kvs) from I.hok a _ ea)
  obtain ⟨o,es,ep,h1,h2,_⟩:=p
  exact kia_one PySem.W.kitx_dict I.kIn ⟨o,h1,h2.1⟩ e (fun z=>nomatch z) h
 | @dT a kvs ea =>
  cases (show u=Value.ref a from rx)
  obtain ⟨_,_,xs,_,o,es,ep,h1,h2,_⟩:=(show ObjOk X.prog X.w H s.heap a (.dT kvs) from I.hok a _ ea)
  exact kia_one PySem.W.kitx_dict I.kIn ⟨o,h1,h2.1⟩ e (fun z=>nomatch z) h
 | @ins a C dx fs ea cl ha hn htk hm =>
  cases (show u=Value.ref a from rx)
  obtain ⟨mA,O,_⟩:=yqh I.hok ea
  obtain ⟨od,J,_⟩:=O.look
  exact kia_one (PySem.W.kitx_own (cl.get _) cl.hd ha hn htk hm) I.kIn J e (fun z=>nomatch z) h
end
end L2
namespace L2
open PySem PySem.Spec PyProof.Rows
structure Room (k:Nat) (A:Around):Prop where
 hd:A.handled=none
 dp:A.depth+3*k+5<recursionLimit
 un:A.units+16*k+200<cLine
theorem Room.mono {j k:Nat}{A:Around}(r:Room k A) (h:j<=k):Room j A:=⟨r.hd,by have:=r.dp;omega,by have:=r.un;omega⟩
theorem Room.deeper {k:Nat}{A:Around}(r:Room (k+1) A) (env:Env):Room k (A.deeper env) :=
 ⟨r.hd,by have:=r.dp;show A.depth+1+3*k+5<_;omega,by have:=r.un;show A.units+3+16*k+200<_;omega⟩
theorem ywr {A:Around}{C:Addr}{us:List Value}{kw:List (Str×Value)}:(A.under (.builtin "type.__call__" ⟨.ref C::us,kw⟩)).depth=A.depth+1:=by
 first|rfl|simp [Around.under,Code.weight,Code.isCreation,Code.isGuard,Code.isCaller,Code.frames,Code.isFrame,guardIds]
theorem yws {A:Around}{C:Addr}{us:List Value}{kw:List (Str×Value)}:(A.under (.builtin "type.__call__" ⟨.ref C::us,kw⟩)).units=A.units+1:=by
 first|rfl|simp [Around.under,Code.cUnits,Code.frames,Code.isFrame]
theorem Room.make {k:Nat}{A:Around}(r:Room (k+1) A) (C:Addr) (us:List Value) (kw:List (Str×Value)):Room k (A.under (.builtin "type.__call__" ⟨.ref C::us,kw⟩)) :=
 ⟨r.hd,by have:=r.dp;rw [ywr];omega,by have:=r.un;rw [yws];omega⟩
theorem Room.depth {k:Nat}{A:Around}(r:Room k A):A.depth<recursionLimit:=by have:=r.dp;omega
theorem Room.units {k:Nat}{A:Around}(r:Room k A):A.units+64<cLine:=by have:=r.un;omega
def yEl:TA:=fun _ H Q=>Q [] H
def yxM (ta:TE) (tr:TA):TA:=fun σ H Q=>ta σ H fun x H1=>tr σ H1 fun xs H2=>Q (x::xs) H2
section
variable {X:Cx}{e:Expr}{es:List Expr}{te:TE}{t:TA}{pos:Pos}
theorem yrO:PA X [] yEl:=fun _ _ _ _ H Q I h=>Calls.spliced_nil ⟨[],H,I,.nil,h⟩
theorem ylH (ha:PE X e te) (hr:PA X es t) (hs:starEach (e::es) X.env=(false,eval e X.env)::starEach es X.env:=by rfl):PA X (e::es) (yxM te t):=by
 intro pos pins s σ H Q I h
 rw [hs]
 show wpAny _ _ (spliced ((false,eval e X.env)::backTo pos (starEach es X.env))) _ _ s
 refine Calls.spliced_cons (thn (ha pins s σ H _ I h) fun u s1 ⟨x,H1,I1,r1,q1⟩=>?_)
 exact thn (hr pos pins s1 σ H1 _ I1 q1) fun us s2 ⟨xs,H2,I2,r2,q2⟩=>⟨x::xs,H2,I2,.cons r1 r2,q2⟩
def yLh (t:TA):TE:=fun σ H Q=>t σ H fun xs H1=>xs.length<=sizeLine/\∀ p,H1 p=none->Q (.ref p) (upd H1 p (.tup xs))
def yLi (t:TA):TE:=fun σ H Q=>t σ H fun xs H1=>xs.length<=sizeLine/\∀ p,H1 p=none->Q (.ref p) (upd H1 p (.lst xs))
theorem yGS {x1} (h:PA X es t):PE X (.Tuple es x1 pos) (yLh t):=by
 intro pins s σ H Q I hq
 refine wpAny_Tuple_spliced (thn (h pos pins s σ H _ I hq) fun us s1 ⟨xs,H1,I1,r,z,q⟩=>⟨by rw [<- r.length];exact z,?_⟩)
 have hf:H1 s1.heap.objs.size=none:=I1.hok.fresh (Nat.le_refl _)
 refine ⟨.ref s1.heap.objs.size,upd H1 s1.heap.objs.size (.tup xs),I1.laid (t':=s1.toks) (fun b u e=>Heap.get?_push_of_some _ e) (Nat.le_refl _) ?_,rfl,q _ hf⟩
 exact ⟨z,us,r,⟨_,Heap.get?_push_size _ rfl,rfl,_,rfl⟩⟩
theorem yGT (h:PA X es t):PE X (.List es pos) (yLi t):=by
 intro pins s σ H Q I hq
 refine wpAny_List_spliced (thn (h pos pins s σ H _ I hq) fun us s1 ⟨xs,H1,I1,r,z,q⟩=>⟨by rw [<- r.length];exact z,?_⟩)
 have hf:H1 s1.heap.objs.size=none:=I1.hok.fresh (Nat.le_refl _)
 refine ⟨.ref s1.heap.objs.size,upd H1 s1.heap.objs.size (.lst xs),I1.laid (t':=s1.toks) (fun b u e=>Heap.get?_push_of_some _ e) (Nat.le_refl _) ?_,rfl,q _ hf⟩
 exact ⟨z,us,0,r,Heap.get?_push_size _ rfl⟩
end
abbrev Sp:=List V->Hp->VK->XK->Prop
abbrev CXT:=List Env->Hp->Shared->XK->Value->Shared->Prop
structure Env0 (P:Program) (w:World) (K:PySem.W.Frag) (mg:Str->Option Value) (base:Heap) (A:Around) (outer:List Env) (s:Shared) (H:Hp):Prop where
 frames:A.frames=some outer
 mod:Mod K mg base
 bs:∀ b o,base.get? b=some o->s.heap.get? b=some o/\H b=none
 bsz:base.objs.size<=s.heap.objs.size
 funs:s.heap.FunFrames base outer
 frf:∀ b∈frs outer,H b=none
 hok:HOk P w H s.heap
 bare:AllBare s.gens
noncomputable def CE (outer:List Env) (P:Program) (w:World) (H:Hp) (s:Shared) (Q:VK) (u:Value) (s':Shared):Prop :=
 ∃ v H',s'.os=s.os/\AllBare s'.gens/\Un (frs outer) [] H H' s.heap s'.heap/\HOk P w H' s'.heap/\RelV v u/\Q v H'
noncomputable def CR (CX:CXT) (outer:List Env) (P:Program) (w:World) (H:Hp) (s:Shared) (Q:VK) (E:XK) (r:Result) (s':Shared):Prop :=
 match r with
 | .ok (.ret u)=>CE outer P w H s Q u s'
 | .ok _=>False
 | .error e=>CX outer H s E e s'
structure FnOk (P:Program) (w:World) (K:PySem.W.Frag) (mg:Str->Option Value) (base:Heap) (CX:CXT) (k:Nat) (f:Addr) (fd:FuncData) (ps:List Str) (sp:Sp):Prop where
 len:∀ vs H Q E,sp vs H Q E->vs.length=ps.length
 run:∀ (A:Around) (outer:List Env) (s:Shared) (H:Hp) (args:Args) (us:List Value) (vs:List V) (Q:VK) (E:XK),Room k A->Env0 P w K mg base A outer s H->BindsTo s fd args (ps.zip us)->Vals vs us->sp vs H Q E ->
  codeAny (model P w) A (.call (.ref f) args) (CR CX outer P w H s Q E) s
theorem FnOk.imp {P:Program}{w:World}{K:PySem.W.Frag}{mg:Str->Option Value}{base:Heap}{CX:CXT}{k:Nat}{f:Addr}{fd:FuncData}{ps:List Str}{sp sp':Sp}(F:FnOk P w K mg base CX k f fd ps sp)
  (h:∀ vs H Q E,sp' vs H Q E->sp vs H Q E):FnOk P w K mg base CX k f fd ps sp' :=
 ⟨fun vs H Q E q=>F.len vs H Q E (h _ _ _ _ q),fun A outer s H args us vs Q E hr he hb hv hs=>F.run A outer s H args us vs Q E hr he hb hv (h _ _ _ _ hs)⟩
theorem Env0.make {P:Program}{w:World}{K:PySem.W.Frag}{mg:Str->Option Value}{base:Heap}{A:Around}{outer:List Env}{s:Shared}{H:Hp}(e:Env0 P w K mg base A outer s H) (C:Addr) (us:List Value) (kw:List (Str×Value)) :
  Env0 P w K mg base (A.under (.builtin "type.__call__" ⟨.ref C::us,kw⟩)) outer s H:=⟨by first|exact e.frames|(simpa [Around.under,Code.envs,Code.isFrame,pushEnvs] using e.frames),e.mod,e.bs,e.bsz,e.funs,e.frf,e.hok,e.bare⟩
section
variable {X:Cx}{pins:List (Addr×Obj)}{σ:St}{H:Hp}{s s':Shared}
theorem Inv.env0 (I:Inv X pins σ H s):Env0 X.prog X.w X.K X.mg X.base X.A X.stack s H :=
 ⟨I.ok.frames,I.ok.mod,I.bs,Nat.le_trans I.ok.bsz I.sz,I.stack,I.stkFree,I.hok,I.bare⟩
theorem Inv.after {Q:VK}{u:Value}(I:Inv X pins σ H s) (h:CE X.stack X.prog X.w H s Q u s'):EP X pins σ Q u s':=by
 obtain ⟨v,H',os,bare,un,hok,r,q⟩:=h
 obtain ⟨hh,g,d,t,os'⟩:=s'
 obtain rfl:os'=s.os:=os
 exact ⟨v,H',I.call (h':=hh) (g':=g) (d':=d) (t':=t) (ch:=[]) un hok bare (fun b z=>absurd z (by simp)),r,q⟩
end
def yAE (sp:Sp) (dvs:List V) (E:XK) (t:TA):TE:=fun σ H Q=>t σ H fun vs H1=>sp (vs++dvs) H1 Q E
noncomputable def yEm (C:Addr) (m:Str) (sp:Sp) (dvs:List V) (E:XK) (ta:TE) (t:TA):TE:=fun σ H Q=>ta σ H fun x H1=>∃ a dx fs,x=.ref a/\H1 a=some (.ins C dx fs)/\fs.lookup m=none /\
 t σ H1 fun vs H2=>sp (x::(vs++dvs)) H2 Q E
noncomputable def yEn (C:Addr) (sp:Sp) (dvs:List V) (E:XK) (t:TA):TE:=fun σ H Q=>t σ H fun vs H1=>∀ x dx,H1 x=none->H1 dx=none->dx≠x ->
 sp (.ref x::(vs++dvs)) (upd (upd H1 dx (.own x)) x (.ins C dx [])) (fun v H2=>v=.non/\Q (.ref x) H2) E
noncomputable def Binds (K:PySem.W.Frag) (fd:FuncData) (ps:List Str) (ds:List Value):Prop :=
 ∀ (s:Shared) (us:List Value),K.In s.heap->(us++ds).length=ps.length->BindsTo s fd ⟨us,[]⟩ (ps.zip (us++ds))
theorem Binds.all {K:PySem.W.Frag}{fd:FuncData}{ps:List Str}(h:∀ us:List Value,us.length=ps.length->bindArgs fd ⟨us,[]⟩=pure (ps.zip us)):Binds K fd ps []:=fun s us _ hl=>by
 rw [List.append_nil] at hl ⊢
 exact .of_eq (h us hl)
noncomputable def ykJ (CX:CXT) (X:Cx) (E:XK):Prop:=∀ (pins:List (Addr×Obj)) (σ:St) (H:Hp) (s:Shared) (e:Value) (s':Shared),Inv X pins σ H s->CX X.stack H s E e s'->X.xe e s'
section
variable {X:Cx}{CX:CXT}{k:Nat}{f C:Addr}{fd:FuncData}{ps:List Str}{sp:Sp}{dvs:List V}{ds:List Value}{E:XK}{x m:Str}{p pos apos:Pos}{e o:Expr}{es:List Expr}{ta:TE}{t:TA}
theorem yvu {pins:List (Addr×Obj)}{σ:St}{H:Hp}{s:Shared}{Q:VK}{us:List Value}{vs:List V}(F:FnOk X.prog X.w X.K X.mg X.base CX k f fd ps sp) (hr:Room k X.A) (hb:Binds X.K fd ps ds) (hd:Vals dvs ds) (hx:ykJ CX X E)
  (I:Inv X pins σ H s) (r:Vals vs us) (h:sp (vs++dvs) H Q E):wpAny (model X.prog X.w) X.A (call (.ref f) us) (EP X pins σ Q) X.xe s:=by
 have r2:Vals (vs++dvs) (us++ds):=r.append hd
 have hl:(us++ds).length=ps.length:=by rw [<- r2.length];exact F.len _ _ _ _ h
 refine wpAny_call (codeAny_mono (F.run X.A X.stack s H ⟨us,[]⟩ (us++ds) (vs++dvs) Q E hr I.env0 (hb s us I.kIn hl) r2 h) fun r s' hq=>?_)
 cases r with
 | error e=>exact hx pins σ H s e s' I hq
 | ok fl =>
  cases fl with
  | ret u=>exact I.after hq
  | next=>exact False.elim hq
  | brk=>exact False.elim hq
  | cont=>exact False.elim hq
theorem yEo (F:FnOk X.prog X.w X.K X.mg X.base CX k f fd ps sp) (hr:Room k X.A) (hg:Gl X x) (hm:X.mg x=some (.ref f)) (hk:keepIn X.K (.ref f)=true) (hb:Binds X.K fd ps ds) (hd:Vals dvs ds) (hx:ykJ CX X E)
  (ha:PA X (e::es) t) (hdb:(x == ("__debug__":Str))=false:=by decide) (he:starEach (e::es) X.env=(false,eval e X.env)::starEach es X.env:=by rfl) (hpl:(backTo pos (starEach es X.env)).any (·.1)=false:=by rfl) :
  PE X (.Call (.Name x p) (e::es) [] pos) (yAE sp dvs E t):=by
 intro pins s σ H Q I h
 refine wpAny_Call_Name_kw (ynD I hg hm ?_ hdb)
 refine PySem.W.callWith_K (h₀:=X.base) I.ok.mod.kin hk (thn (ha pos pins s σ H _ I h) fun us s1 ⟨vs,H1,I1,r,q⟩=>⟨I1.kIn,?_⟩) he hpl
 exact yvu F hr hb hd hx I1 r q
theorem yEp {pl:Sem Bool}(he:PE X o ta) (c:Cls X.K C) (hm:ykI X.K C m f) (F:FnOk X.prog X.w X.K X.mg X.base CX k f fd ps sp) (hr:Room k X.A) (hb:Binds X.K fd ps ds) (hd:Vals dvs ds) (hx:ykJ CX X E) (ha:PA X (e::es) t)
  (hst:starEach (e::es) X.env=(false,eval e X.env)::starEach es X.env:=by rfl) (hpl:(backTo pos (starEach es X.env)).any (·.1)=false:=by rfl)
  (ht:eval (.Call (.Attribute o m apos) (e::es) [] pos) X.env=(do
   let ov <- eval o X.env
   standAt apos.atName
   let (f,first) <- holding [ov] (getMethod ov m pl)
   callWith pos f first (backTo pos (starEach (e::es) X.env)) (backToKw pos (keywordEach [] X.env))):=by rfl) :
  PE X (.Call (.Attribute o m apos) (e::es) [] pos) (yEm C m sp dvs E ta t):=by
 intro pins s σ H Q I h
 refine PySem.W.methodCall_KW (pl:=pl) (thn (he pins s σ H _ I h) fun u s1 ⟨x,H1,I1,rx,a,dx,fs,ex,ea,l,q⟩=>?_) ht
 subst ex
 obtain rfl:u=Value.ref a:=rx
 refine ypM I1 ea c hm l ?_
 refine PySem.W.callWith_K (first:=[.ref a]) (h₀:=X.base) I.ok.mod.kin hm.kp (thn (ha pos pins s1 σ H1 _ I1 q) fun us s2 ⟨vs,H2,I2,r,q2⟩=>⟨I2.kIn,?_⟩) hst hpl
 exact yvu (us:=.ref a::us) (vs:=.ref a::vs) F hr hb hd hx I2 (.cons rfl r) q2
theorem yAF {pl:Sem Bool}(he:PE X o ta) (c:Cls X.K C) (hm:ykI X.K C m f) (F:FnOk X.prog X.w X.K X.mg X.base CX k f fd ps sp) (hr:Room k X.A) (hb:Binds X.K fd ps ds) (hd:Vals dvs ds) (hx:ykJ CX X E)
  (ht:eval (.Call (.Attribute o m apos) [] [] pos) X.env=(do
   let ov <- eval o X.env
   standAt apos.atName
   let (f,first) <- holding [ov] (getMethod ov m pl)
   callWith pos f first (backTo pos (starEach [] X.env)) (backToKw pos (keywordEach [] X.env))):=by rfl) :
  PE X (.Call (.Attribute o m apos) [] [] pos) (yEm C m sp dvs E ta yEl):=by
 intro pins s σ H Q I h
 refine PySem.W.methodCall_KW (pl:=pl) (thn (he pins s σ H _ I h) fun u s1 ⟨x,H1,I1,rx,a,dx,fs,ex,ea,l,q⟩=>?_) ht
 subst ex
 obtain rfl:u=Value.ref a:=rx
 refine ypM I1 ea c hm l ?_
 exact PySem.W.callWith_K0 (first:=[.ref a]) I1.kIn hm.kp (yvu (us:=[.ref a]) (vs:=[.ref a]) F hr hb hd hx I1 (.cons rfl .nil) q)
structure Mk (K:PySem.W.Frag) (C f:Addr):Prop where
 makes:makesIn K C=true
 init:findIn K (.ref C) "__init__" = some (some (.ref f))
 fn:isFn K (.ref f)=true
 kp:keepIn K (.ref C)=true
theorem yvv {pins:List (Addr×Obj)}{σ:St}{H:Hp}{s:Shared}{Q:VK}{us:List Value}{vs:List V}(M:Mk X.K C f) (F:FnOk X.prog X.w X.K X.mg X.base CX k f fd ps sp) (hr:Room (k+1) X.A) (hb:Binds X.K fd ps ds) (hd:Vals dvs ds)
  (hx:ykJ CX X E) (I:Inv X pins σ H s) (r:Vals vs us)
  (h:∀ x dx,H x=none->H dx=none->dx≠x->sp (.ref x::(vs++dvs)) (upd (upd H dx (.own x)) x (.ins C dx [])) (fun v H2=>v=.non/\Q (.ref x) H2) E) :
  wpAny (model X.prog X.w) X.A (call (.ref C) us) (EP X pins σ Q) X.xe s:=by
 have hq:=h (s.heap.objs.size+1) s.heap.objs.size (I.hok.fresh (Nat.le_succ _)) (I.hok.fresh (Nat.le_refl _)) (Nat.ne_of_lt (Nat.lt_succ_self _))
 have I2:=Inv.made (C:=C) I
 have r2:Vals (V.ref (s.heap.objs.size+1)::(vs++dvs)) (Value.ref (s.heap.objs.size+1)::(us++ds)):=.cons rfl (r.append hd)
 have hl:(Value.ref (s.heap.objs.size+1)::us++ds).length=ps.length:=by
  have e:=r2.length
  rw [F.len _ _ _ _ hq] at e
  exact e.symm
 refine wpAny_call (yAD (f:=f) I.kIn M.makes M.init (beq_iff_eq.mp M.fn) (codeAny_mono (F.run _ X.stack _ _ ⟨Value.ref (s.heap.objs.size+1)::us,[]⟩ (Value.ref (s.heap.objs.size+1)::(us++ds)) _ _ E (hr.make C us [])
  (I2.env0.make C us []) (hb _ (Value.ref (s.heap.objs.size+1)::us) I2.kIn hl) r2 hq) fun r s' hq'=>?_))
 cases r with
 | error e=>exact hx pins σ _ _ e s' I2 hq'
 | ok fl =>
  cases fl with
  | ret u =>
   obtain ⟨v,H',I3,rv,ev,q3⟩:=I2.after hq'
   subst ev
   exact ⟨rv,⟨V.ref (s.heap.objs.size+1),H',I3,rfl,q3⟩⟩
  | next=>exact False.elim hq'
  | brk=>exact False.elim hq'
  | cont=>exact False.elim hq'
theorem yEq (M:Mk X.K C f) (F:FnOk X.prog X.w X.K X.mg X.base CX k f fd ps sp) (hr:Room (k+1) X.A) (hg:Gl X x) (hm:X.mg x=some (.ref C)) (hb:Binds X.K fd ps ds) (hd:Vals dvs ds) (hx:ykJ CX X E)
  (ha:PA X (e::es) t) (hdb:(x == ("__debug__":Str))=false:=by decide) (he:starEach (e::es) X.env=(false,eval e X.env)::starEach es X.env:=by rfl) (hpl:(backTo pos (starEach es X.env)).any (·.1)=false:=by rfl) :
  PE X (.Call (.Name x p) (e::es) [] pos) (yEn C sp dvs E t):=by
 intro pins s σ H Q I h
 refine wpAny_Call_Name_kw (ynD I hg hm ?_ hdb)
 refine PySem.W.callWith_K (h₀:=X.base) I.ok.mod.kin M.kp (thn (ha pos pins s σ H _ I h) fun us s1 ⟨vs,H1,I1,r,q⟩=>⟨I1.kIn,?_⟩) he hpl
 exact yvv M F hr hb hd hx I1 r q
theorem yAG (M:Mk X.K C f) (F:FnOk X.prog X.w X.K X.mg X.base CX k f fd ps sp) (hr:Room (k+1) X.A) (hg:Gl X x) (hm:X.mg x=some (.ref C)) (hb:Binds X.K fd ps ds) (hd:Vals dvs ds) (hx:ykJ CX X E)
  (hdb:(x == ("__debug__":Str))=false:=by decide):PE X (.Call (.Name x p) [] [] pos) (yEn C sp dvs E yEl):=by
 intro pins s σ H Q I h
 refine wpAny_Call_Name_kw (ynD I hg hm ?_ hdb)
 exact PySem.W.callWith_K0 I.kIn M.kp (yvv (us:=[]) M F hr hb hd hx I .nil h)
end
section
variable {X:Cx}{CX:CXT}{k:Nat}{f C:Addr}{fd:FuncData}{ps ks:List Str}{sp:Sp}{E:XK}{x m:Str}{p pos apos kpos:Pos}{e o:Expr}{es:List Expr}{kws:List Keyword}{te ta:TE}{t tk:TA}{nm:Option Str}
variable {g:List Value->List Value->List Value}{gV:List V->List V->List V}
end
structure yq (N P:List Str) (sc:Scope):Prop where
 kind:sc.kind=.function
 co:sc.isCoroutine=false
 gen:sc.isGenerator=false
 nd:N.Nodup
 pre:N.take P.length=P
 par:∀ x∈P,sc.names.lookup x=some .local \/ sc.names.lookup x=some .cell
 nofree:∀ y∈sc.names,y.2≠.free
theorem yrP {kindOf:Str->Option NameKind}{x:Str}:∀ {binds:List (Str×Value)}{m:Str->Option Value},(∀ v,(x,v)∉binds)->bindL kindOf binds m x=m x
 | [],_,_=>rfl
 | (n,v)::r,m,h=>by
  unfold bindL
  rw [yrP fun w hw=>h w (List.mem_cons_of_mem _ hw)]
  split
  .have:x≠n:=by rintro rfl;exact h v List.mem_cons_self
   simp [this]
  .rfl
theorem yrQ {kindOf:Str->Option NameKind}{x:Str}:∀ {binds:List (Str×Value)}{m:Str->Option Value},(∀ v,(x,v)∉binds)->bindC kindOf binds m x=m x
 | [],_,_=>rfl
 | (n,v)::r,m,h=>by
  unfold bindC
  rw [yrQ fun w hw=>h w (List.mem_cons_of_mem _ hw)]
  split
  .rfl
  .have:x≠n:=by rintro rfl;exact h v List.mem_cons_self
   simp [this]
theorem yrR {kindOf:Str->Option NameKind}{x:Str}{v:Value}:∀ {P:List Str}{vs:List Value}{i:Nat}{m:Str->Option Value},P.Nodup->P[i]?=some x->vs[i]?=some v->kindOf x=some .local ->
  bindL kindOf (P.zip vs) m x=some v
 | [],_,_,_,_,h,_,_=>by simp at h
 | _::_,[],_,_,_,_,h,_=>by simp at h
 | p::P,w::vs,0,m,nd,h1,h2,hk=>by
  simp at h1 h2;subst h1;subst h2
  show bindL kindOf ((p,w)::P.zip vs) m p=_
  unfold bindL
  rw [yrP fun v hv=>(List.nodup_cons.mp nd).1 (List.of_mem_zip hv).1,if_pos hk]
  simp
 | p::P,w::vs,i+1,m,nd,h1,h2,hk=>by
  show bindL kindOf ((p,w)::P.zip vs) m x=_
  unfold bindL
  exact yrR (i:=i) (List.nodup_cons.mp nd).2 (by simpa using h1) (by simpa using h2) hk
theorem yrS {kindOf:Str->Option NameKind}{x:Str}{v:Value}:∀ {P:List Str}{vs:List Value}{i:Nat}{m:Str->Option Value},P.Nodup->P[i]?=some x->vs[i]?=some v->kindOf x≠some .local ->
  bindC kindOf (P.zip vs) m x=some v
 | [],_,_,_,_,h,_,_=>by simp at h
 | _::_,[],_,_,_,_,h,_=>by simp at h
 | p::P,w::vs,0,m,nd,h1,h2,hk=>by
  simp at h1 h2;subst h1;subst h2
  show bindC kindOf ((p,w)::P.zip vs) m p=_
  unfold bindC
  rw [yrQ fun v hv=>(List.nodup_cons.mp nd).1 (List.of_mem_zip hv).1,if_neg hk]
  simp
 | p::P,w::vs,i+1,m,nd,h1,h2,hk=>by
  show bindC kindOf ((p,w)::P.zip vs) m x=_
  unfold bindC
  exact yrS (i:=i) (List.nodup_cons.mp nd).2 (by simpa using h1) (by simpa using h2) hk
def start (N:List Str) (vs:List V):St:=vs.map some++List.replicate (N.length-vs.length) none
noncomputable def yAH (CX:CXT) (P:Program) (w:World) (K:PySem.W.Frag) (mg:Str->Option Value) (base:Heap) (N:List Str) (qual:Str) (scope:Scope) (f:Addr) (cd:Value) (A:Around) (outer:List Env) (s:Shared) (H:Hp) (E:XK):Cx where
 prog:=P
 w:=w
 K:=K
 mg:=mg
 base:=base
 A:=A.deeper (envOfC qual scope s.heap.objs.size f cd)
 N:=N
 s₀:=s
 H₀:=H
 env:=envOfC qual scope s.heap.objs.size f cd
 outer:=outer
 stack:=envOfC qual scope s.heap.objs.size f cd::outer
 ex:=[]
 calm:=true
 fn:=fun _=>true
 pn:=[]
 xe:=fun e s'=>wpAny (model P w) (A.deeper (envOfC qual scope s.heap.objs.size f cd)) (leaving (envOfC qual scope s.heap.objs.size f cd) e) (fun _ s''=>CX outer H s E e s'') (fun e' s''=>CX outer H s E e' s'') s'
theorem yvw {sc:Scope}{n:Nat}{x:Str}(h:sc.names.lookup x=some .cell):∃ c,(cellsFrom n sc.names []).lookup x=some c:=by
 have q:=PySem.W.cellsFrom_some sc.names n [] (.inl h)
 exact Option.isSome_iff_exists.mp q
theorem yxN {CX:CXT}{P:Program}{w:World}{K:PySem.W.Frag}{mg:Str->Option Value}{base:Heap}{N ps:List Str}{qual:Str}{scope:Scope}{f:Addr}{cd:Value}{A:Around}{outer:List Env}{s s1:Shared}{H:Hp}{E:XK}{us:List Value}{vs:List V}
  (S:yq N ps scope) (hd:A.handled=none) (e0:Env0 P w K mg base A outer s H) (hl:vs.length=ps.length) (r:Vals vs us)
  (x:InCallC s s.heap.objs.size (bindL (envOfC qual scope s.heap.objs.size f cd).kindOf (ps.zip us) fun _=>none) (cellsFrom (s.heap.objs.size+1) scope.names []) (bindC (envOfC qual scope s.heap.objs.size f cd).kindOf (ps.zip us) fun _=>none) s1) :
  Inv (yAH CX P w K mg base N qual scope f cd A outer s H E) [] (start N vs) H s1:=by
 have hpl:ps.length<=N.length:=by have:=congrArg List.length S.pre;rw [List.length_take] at this;omega
 obtain ⟨h1,tk,rfl,hk⟩:=x.done
 have noA:∀ b:Addr,b∉(yAH CX P w K mg base N qual scope f cd A outer s H E).ex:=fun b z=>absurd (show b∈([]:List Addr) from z) (by simp)
 refine ⟨⟨e0.mod,S.kind,rfl,rfl,Nat.le_refl _,fun y z c h1 h2=>?_,fun y hy=>?_,fun y c _ h=>?_,fun _=>hd,Around.frames_deeper e0.frames,.inr ⟨rfl,rfl⟩,fun b z=>absurd z (noA b),e0.bs,e0.bsz,fun b _ _=>noA b,fun b z=>absurd z (noA b),e0.funs,e0.frf⟩,
  rfl,e0.bare,Un.kept hk,⟨_,x.toInCall.ns,fun i y v h1 h2 h3=>?_⟩,fun y c h=>⟨_,x.cell y c h⟩,e0.hok.fresh (Nat.le_refl _),fun y c h=>?_,fun p hp=>absurd (show p∈([]:List (Addr×Obj)) from hp) (by simp),e0.hok.kept hk,?_⟩
 .exact name_of_addr x.apart (PySem.mem_of_lookup h1) (PySem.mem_of_lookup h2)
 .have hy:scope.names.lookup y=some .cell\/scope.names.lookup y=some .free:=hy
  rcases hy with hy|hy
  .exact yvw hy
  .exact absurd rfl (S.nofree _ (PySem.mem_of_lookup hy))
 .exact Nat.le_of_lt (x.above y c (PySem.mem_of_lookup h))
 .have hi:i<vs.length:=by
   unfold start at h2
   by_cases hi:i<vs.length
   .exact hi
   .rw [List.getElem?_append_right (by simpa using hi)] at h2
    rw [List.getElem?_replicate] at h2
    split at h2<;>cases h2
  have ha:vs[i]?=some v:=by
   unfold start at h2
   rw [List.getElem?_append_left (by simpa using hi),List.getElem?_map] at h2
   cases e:vs[i]? with
   | none=>rw [e] at h2;cases h2
   | some a=>rw [e] at h2;cases h2;rfl
  obtain ⟨u,hu,rv⟩:=r.get ha
  have hp:ps[i]?=some y:=by
   rw [<- S.pre,List.getElem?_take_of_lt (by omega)];exact h1
  have ndP:ps.Nodup:=by rw [<- S.pre];exact S.nd.sublist (List.take_sublist _ _)
  refine ⟨u,rv,?_⟩
  rcases S.par y (List.mem_of_getElem? hp) with k|k
  .exact .inl ⟨k,yrR ndP hp hu k⟩
  .obtain ⟨c,e⟩:=yvw (n:=s.heap.objs.size+1) k
   refine .inr ⟨.inl k,c,e,?_⟩
   have q:=x.cell y c e
   rw [yrS ndP hp hu (by show scope.names.lookup y≠_;rw [k];decide)] at q
   exact q
 .exact e0.hok.fresh (Nat.le_of_lt (x.above y c (PySem.mem_of_lookup h)))
 .unfold start
  show _=N.length
  rw [List.length_append,List.length_map,List.length_replicate]
  omega
theorem yJu {CX:CXT}{P:Program}{w:World}{K:PySem.W.Frag}{mg:Str->Option Value}{base:Heap}{k:Nat}{f:Addr}{name qual:Str}{params:Arguments}{body:List Stmt}{scope:Scope}{dV kV doc pm cdv ct oc:Value}{an od:Option Addr}
  {osl:Array (Option Value)}{N ps:List Str}{sp:Sp}(lk:K.lookup f=some ⟨oc,od,.func (fnOf name qual params body scope dV kV doc pm an cdv ct),osl⟩) (hcd:codeIn K cdv qual=true) (S:yq N ps scope)
  (len:∀ vs H Q E,sp vs H Q E->vs.length=ps.length)
  (hbody:∀ (A:Around) (outer:List Env) (s:Shared) (H:Hp) (vs:List V) (Q:VK) (E:XK),Room k (A.deeper (envOfC qual scope s.heap.objs.size f cdv))->sp vs H Q E ->
   ∃ t,PSs (yAH CX P w K mg base N qual scope f cdv A outer s H E) body t/\t { nx:=fun _ H'=>Q .non H',rt:=Q } (start N vs) H) :
  FnOk P w K mg base CX (k+1) f (fnOf name qual params body scope dV kV doc pm an cdv ct) ps sp:=by
 refine ⟨len,fun A outer s H args us vs Q E hr e0 hb r hsp=>?_⟩
 have hl:=len _ _ _ _ hsp
 have KX:K.In s.heap:=e0.mod.kin.keeps fun b o e=>(e0.bs b o e).1
 have lim:s.heap.NoLimit:=e0.mod.nolimit.keeps fun b o e=>(e0.bs b o e).1
 have hkind:∀ y∈ps.zip us,scope.names.lookup y.1=some .local \/ (scope.names.lookup y.1=some .cell/\((cellsFrom (s.heap.objs.size+1) scope.names []).lookup y.1).isSome=true):=fun ⟨n,v⟩ hy=>by
  rcases S.par n (List.of_mem_zip hy).1 with q|q
  .exact .inl q
  .exact .inr ⟨q,PySem.W.cellsFrom_some _ _ _ (.inl q)⟩
 refine codeAny_call_function hr.depth (KX _ _ lk) rfl S.co S.gen rfl (PySem.W.codeRec_of KX hcd) (hb _ _ _ _ ?_)
 refine wpAny_newFunctionEnv_cells S.kind hkind fun env he s1 x=>?_
 subst he
 refine ⟨lim.keeps x.toInCall.keep,codeAny_func ?_⟩
 obtain ⟨t,ht,hq⟩:=hbody A outer s H vs Q E (hr.deeper _) hsp
 have I:Inv (yAH CX P w K mg base N qual scope f cdv A outer s H E) [] (start N vs) H s1:=yxN S hr.hd e0 hl r x
 refine wpAny_mono (ht [] s1 (start N vs) H _ I hq) (fun fl s' hs=>?_) fun e s' hs=>hs
 have fin:∀ {σ':St}{H':Hp}{v:V}{u:Value},Inv (yAH CX P w K mg base N qual scope f cdv A outer s H E) [] σ' H' s'->RelV v u->Q v H'->CE outer P w H s Q u s' :=
  fun {σ' H' v u} J rv q=>⟨v,H',J.os,J.bare,J.base,J.hok,rv,q⟩
 cases fl with
 | ret u =>
  obtain ⟨v,σ',H',J,rv,q⟩:=hs
  exact fin J rv q
 | next =>
  obtain ⟨σ',H',J,q⟩:=hs
  exact fin (v:=V.non) (u:=Value.none) J rfl q
 | brk =>
  obtain ⟨_,_,_,q⟩:=hs
  exact False.elim q
 | cont =>
  obtain ⟨_,_,_,q⟩:=hs
  exact False.elim q
end L2
namespace L2
open PySem PySem.Spec PyProof.Rows
section
variable {X:Cx}{x:Str}{p pos:Pos}{e:Expr}{es:List Expr}{t:TA}{id T:String}{r:List V->Hp->VK->Prop}
def tCB (r:List V->Hp->VK->Prop) (t:TA):TE:=fun σ H Q=>t σ H fun vs H1=>r vs H1 Q
theorem yqi (hc:yjW X (.builtin id) r) (hg:Gl X x) (hm:X.mg x=none) (hv:bootBuiltins x=some (.builtin id)) (ha:PA X (e::es) t) (hn:x≠"__name__":=by decide) (hdb:(x == ("__debug__":Str))=false:=by decide)
  (he:starEach (e::es) X.env=(false,eval e X.env)::starEach es X.env:=by rfl) (hpl:(backTo pos (starEach es X.env)).any (·.1)=false:=by rfl):PE X (.Call (.Name x p) (e::es) [] pos) (tCB r t):=by
 intro pins s σ H Q I h
 refine wpAny_Call_Name_kw (ypJ I hg hm hv ?_ hn hdb)
 exact PyProof.Rows.callWith_builtin1 (thn (ha pos pins s σ H _ I h) fun us s1 ⟨vs,H1,I1,r1,q1⟩=>hc pins s1 σ H1 vs us Q I1 r1 q1) he hpl
theorem yrT (hc:yjW X (.type T) r) (hg:Gl X x) (hm:X.mg x=none) (hv:bootBuiltins x=some (.type T)) (ha:PA X (e::es) t) (hn:x≠"__name__":=by decide) (hdb:(x == ("__debug__":Str))=false:=by decide)
  (he:starEach (e::es) X.env=(false,eval e X.env)::starEach es X.env:=by rfl) (hpl:(backTo pos (starEach es X.env)).any (·.1)=false:=by rfl):PE X (.Call (.Name x p) (e::es) [] pos) (tCB r t):=by
 intro pins s σ H Q I h
 refine wpAny_Call_Name_kw (ypJ I hg hm hv ?_ hn hdb)
 exact PyProof.Rows.callWith_type1 (thn (ha pos pins s σ H _ I h) fun us s1 ⟨vs,H1,I1,r1,q1⟩=>hc pins s1 σ H1 vs us Q I1 r1 q1) he hpl
end
end L2
namespace HT
open PySem PyProof.Rows
section
open PySem.SeqAt
open PySem.AutoSeq1 (wpAny_loadPart')
open PySem.MeetsSeq PySem.MeetsSeq2 PySem.MeetsSeq3
end
section
variable {prog:Program}{w:World}{A:Around}{E:Value->Shared->Prop}{s:Shared}
def sIx (n d:Nat):Option Int->Nat
 | none=>d
 | some v=>if v<0 then (v+(n:Int)).toNat else min v.toNat n
theorem sIx_nat (n d k:Nat):sIx n d (some (k:Int))=min k n:=by
 show (if (k:Int)<0 then ((k:Int)+(n:Int)).toNat else min (k:Int).toNat n)=min k n
 rw [if_neg (by omega),Int.toNat_natCast]
theorem yGU (n d:Nat) (hd:d<=n) (o:Option Int):sIx n d o<=n:=by
 cases o with
 | none=>exact hd
 | some v =>
  show (if v<0 then (v+(n:Int)).toNat else min v.toNat n)<=n
  by_cases hv:v<0
  .rw [if_pos hv];omega
  .rw [if_neg hv];exact Nat.min_le_right _ _
theorem yxO (v:Int) (n d:Nat):(if v<0 then max (v+(n:Int)) 0 else min v (n:Int))=((sIx n d (some v):Nat):Int):=by
 show (if v<0 then max (v+(n:Int)) 0 else min v (n:Int))=(((if v<0 then (v+(n:Int)).toNat else min v.toNat n):Nat):Int)
 by_cases hv:v<0
 .simp only [if_pos hv];omega
 .simp only [if_neg hv];omega
theorem ywt (lo hi:Option Int) (n:Nat):Builtin.Slice.sliceAdjust lo hi 1 (n:Int)=(((sIx n 0 lo:Nat):Int),((sIx n n hi:Nat):Int)):=by
 have h1:¬ ((1:Int)<0):=by omega
 unfold Builtin.Slice.sliceAdjust
 simp only [h1,if_false]
 refine Prod.ext ?_ ?_
 .cases lo with
  | none=>rfl
  | some v=>exact yxO v n 0
 .cases hi with
  | none=>rfl
  | some v=>exact yxO v n n
theorem ywu (i j:Nat):Builtin.Slice.slicePlaces (i:Int) (j:Int) 1=j-i:=by
 unfold Builtin.Slice.slicePlaces
 have h1:(1:Int)>0:=by omega
 simp only [h1,if_true,Int.ediv_one]
 split<;>omega
theorem ypN {v:Value}{o:Option Int}{Q:Option Int->Shared->Prop}(p:IsPart v o) (h:Q o s):wpAny (model prog w) A (Builtin.Slice.slicePartIndex v) Q E s:=by
 cases p with
 | none=>exact slicePart_none h
 | int i t=>exact slicePart_int h
theorem sliceApplied_gen {sl:Addr}{vl vu:Value}{lo hi:Option Int}{n:Nat}{Q:Int×Int×Nat->Shared->Prop}(hs:s.heap.IsSliceOf sl vl vu .none) (pl:IsPart vl lo) (pu:IsPart vu hi)
  (h:Q (((sIx n 0 lo:Nat):Int),1,sIx n n hi-sIx n 0 lo) s):wpAny (model prog w) A (Builtin.Slice.sliceApplied (.ref sl) (pure (n:Int))) Q E s:=by
 obtain ⟨os,hos,hcs,hds⟩:=id hs
 unfold Builtin.Slice.sliceApplied Builtin.Slice.sliceFields
 refine wpAny_bind (wpAny_bind (wpAny_field hos hds (x:=vl) rfl (wpAny_bind (wpAny_field hos hds (x:=vu) rfl (wpAny_bind (wpAny_field hos hds (x:=.none) rfl (wpAny_pure ?_)))))))
 refine wpAny_bind (slicePart_none ?_)
 show wpAny _ _ (if ((1:Int) == 0)=true then _ else _) _ _ s
 rw [if_neg (by decide)]
 refine wpAny_bind (ypN pl (wpAny_bind (ypN pu (wpAny_bind (wpAny_pure ?_)))))
 show wpAny _ _ (match Builtin.Slice.sliceAdjust lo hi 1 (n:Int) with|(lo,hi)=>pure (lo,(1:Int),Builtin.Slice.slicePlaces lo hi 1)) _ _ s
 rw [ywt lo hi n]
 show wpAny _ _ (pure (((sIx n 0 lo:Nat):Int),(1:Int),Builtin.Slice.slicePlaces ((sIx n 0 lo:Nat):Int) ((sIx n n hi:Nat):Int) 1)) _ _ s
 rw [ywu]
 exact wpAny_pure h
theorem yAI (xs:Array Value) (i k:Nat):((List.range k).filterMap fun (m:Nat)=>xs[((i:Int)+(m:Int)*1).toNat]?).toArray=((xs.toList.drop i).take k).toArray:=by
 have e:(fun (m:Nat)=>xs[((i:Int)+(m:Int)*1).toNat]?)=fun m=>xs[i+m]?:=by
  funext m
  have:((i:Int)+(m:Int)*1).toNat=i+m:=by omega
  rw [this]
 rw [e]
 have:=pick_run xs i k
 rw [List.filterMap_map] at this
 have e2:((fun x=>xs[x]?) ∘ fun x=>i+x)=fun m=>xs[i+m]?:=rfl
 rw [e2] at this
 rw [this]
theorem getItem_tuple_cut {t sl:Addr}{items:Array Value}{vl vu:Value}{lo hi:Option Int}{Q:Value->Shared->Prop}(ht:IsTup s.heap t items) (hs:s.heap.IsSliceOf sl vl vu .none) (pl:IsPart vl lo) (pu:IsPart vu hi)
  (hw:¬ (sIx items.size 0 lo=0/\sIx items.size items.size hi=items.size))
  (h:Q (.ref s.heap.objs.size) { s with heap:=s.heap.push { cls:=.type "tuple",data:=.seq ((items.toList.drop (sIx items.size 0 lo)).take (sIx items.size items.size hi-sIx items.size 0 lo)).toArray } })
  (hsz:items.size<=sizeLine):wpAny (model prog w) A (getItem (.ref t) (.ref sl)) Q E s:=by
 have htake:sizeOk (.seq ((items.toList.drop (sIx items.size 0 lo)).take (sIx items.size items.size hi-sIx items.size 0 lo)).toArray):=by
  show ((items.toList.drop (sIx items.size 0 lo)).take (sIx items.size items.size hi-sIx items.size 0 lo)).toArray.size<=sizeLine
  rw [List.size_toArray,List.length_take,List.length_drop,Array.length_toList]
  omega
 have hj:sIx items.size items.size hi<=items.size:=yGU _ _ (Nat.le_refl _) hi
 obtain ⟨os,hos,hcs,hds⟩:=id hs
 have hTs:s.TypeIs (.ref sl) "slice":=⟨os,hos,hcs⟩
 unfold getItem
 try with_reducible refine wpAny_holding ?_
 first|refine wpAny_bind (wpAny_pure ?_)|skip
 refine wpAny_bind (wpAny_sequenceKey ht.typeIs (by decide) ?_)
 refine wpAny_bind (wpAny_callSpecial?_slot (name:=Str.ofString "__getitem__") ht.typeIs PyProof.Rows.slot_tuple_getitem
  (wpAny_call_entry PyProof.Rows.slot_tuple_getitem ht.typeIs entry_tuple_getitem ?_ (args_tuple_getitem _ _)))
 show wpAny _ _ (Builtin.Tuple.tupleItemsOf (.ref t) >>= _) _ _ s
 refine wpAny_bind (tupleItemsOf_ ht ?_)
 refine wpAny_bind (wpAny_typeOf hTs ?_)
 rw [if_pos (by decide)]
 refine wpAny_bind (sliceApplied_gen hs pl pu ?_)
 have hno:¬ ((((sIx items.size 0 lo:Nat):Int) == 0 && (1:Int) == 1 && (sIx items.size items.size hi-sIx items.size 0 lo) == items.size)=true):=by
  intro q
  rw [Bool.and_eq_true,Bool.and_eq_true] at q
  have q1:((sIx items.size 0 lo:Nat):Int)=0:=eq_of_beq q.1.1
  have q2:sIx items.size items.size hi-sIx items.size 0 lo=items.size:=eq_of_beq q.2
  exact hw ⟨by omega,by omega⟩
 show wpAny _ _ (if (((sIx items.size 0 lo:Nat):Int) == 0 && (1:Int) == 1 && (sIx items.size items.size hi-sIx items.size 0 lo) == items.size)=true then _ else _) _ _ s
 rw [if_neg hno,yAI]
 first
  | exact wpAny_bind (m:=Builtin.Tuple.tupleExact _) (wpAny_newObj_type (wpAny_pure ⟨_,rfl,wpAny_pure h⟩) htake)
  | exact wpAny_bind (m:=Builtin.Tuple.tupleExact _) (wpAny_newObj_type (wpAny_bind (wpAny_pure (wpAny_pure ⟨_,rfl,wpAny_pure h⟩))) htake)
  | exact wpAny_bind (wpAny_bind (m:=Builtin.Tuple.tupleExact _) (wpAny_newObj_type (wpAny_pure (wpAny_pure ⟨_,rfl,wpAny_pure h⟩)) htake))
  | exact wpAny_bind (wpAny_bind (m:=Builtin.Tuple.tupleExact _) (wpAny_newObj_type (wpAny_pure ⟨_,rfl,wpAny_pure h⟩) htake))
end
end HT
namespace L2
open PySem PySem.Spec PyProof.Rows
abbrev TO:=St->Hp->(Option Int->Hp->Prop)->Prop
noncomputable def PO (X:Cx) (e:Option Expr) (t:TO):Prop :=
 ∀ (pins:List (Addr×Obj)) (s:Shared) (σ:St) (H:Hp) (Q:Option Int->Hp->Prop),Inv X pins σ H s->t σ H Q ->
  wpAny (model X.prog X.w) X.A (evalPart e X.env) (fun u s'=>∃ o H',Inv X pins σ H' s'/\IsPart u o/\Q o H') X.xe s
def yxP:TO:=fun _ H Q=>Q none H
def yGV (t:TE):TO:=fun σ H Q=>t σ H fun x H1=>∃ i,x=.int i/\Q (some i) H1
theorem intsAre_of {ns:List Int}:∀ {us:List Value},Vals (ns.map V.int) us->IntsAre us ns:=by
 induction ns with
 | nil=>intro us r;rw [List.map_nil] at r;cases r;exact .nil
 | cons n ns ih =>
  intro us r
  rw [List.map_cons] at r
  cases r with
  | cons r1 r2 =>
   obtain ⟨t,e⟩:=r1
   subst e
   exact .cons n t (ih r2)
section
variable {X:Cx}{e:Expr}{te:TE}{lo hi:Option Expr}{tl th:TO}{pos p2:Pos}
theorem yEr:PO X none yxP:=by
 intro pins s σ H Q I h
 rw [evalPart_none]
 exact wpAny_pure ⟨none,H,I,.none,h⟩
theorem yEs (h:PE X e te):PO X (some e) (yGV te):=by
 intro pins s σ H Q I hw
 rw [evalPart_some]
 refine thn (h pins s σ H _ I hw) fun u s1 ⟨x,H1,I1,r1,q1⟩=>?_
 obtain ⟨i,rfl,q⟩:=q1
 obtain ⟨t,rfl⟩:=r1
 exact ⟨some i,H1,I1,.int i t,q⟩
noncomputable def SlR (X:Cx) (r:V->Option Int->Option Int->Hp->VK->Prop):Prop :=
 ∀ (pins:List (Addr×Obj)) (s:Shared) (σ:St) (H:Hp) (x:V) (v vl vu:Value) (lo hi:Option Int) (sl:Addr) (Q:VK),Inv X pins σ H s->RelV x v->s.heap.IsSliceOf sl vl vu .none->IsPart vl lo->IsPart vu hi->r x lo hi H Q ->
  ∃ T id,typeLookup (.type T) "__getitem__" = pure (some (.builtin id))/\s.TypeIs v T/\wpAny (model X.prog X.w) X.A (getItem v (.ref sl)) (EP X pins σ Q) X.xe s
theorem SlR.or {r r':V->Option Int->Option Int->Hp->VK->Prop}(h:SlR X r) (h':SlR X r'):SlR X (fun x lo hi H Q=>r x lo hi H Q\/r' x lo hi H Q):=by
 intro pins s σ H x v vl vu lo hi sl Q I rx hs pl pu q
 rcases q with q|q
 .exact h pins s σ H x v vl vu lo hi sl Q I rx hs pl pu q
 .exact h' pins s σ H x v vl vu lo hi sl Q I rx hs pl pu q
noncomputable def tSl (r:V->Option Int->Option Int->Hp->VK->Prop) (te:TE) (tl th:TO):TE:=fun σ H Q=>te σ H fun x H1=>tl σ H1 fun l H2=>th σ H2 fun u H3=>r x l u H3 Q
theorem yvx {r:V->Option Int->Option Int->Hp->VK->Prop}(hr:SlR X r) (he:PE X e te) (hl:PO X lo tl) (hu:PO X hi th):PE X (.Subscript e (.Slice lo hi none p2) pos) (tSl r te tl th):=by
 intro pins s σ H Q I h
 refine Subscript_ (thn (he pins s σ H _ I h) fun v s1 ⟨x,H1,I1,r1,q1⟩=>?_)
 refine wpAny_Slice (thn (hl pins s1 σ H1 _ I1 q1) fun vl s2 ⟨l,H2,I2,pl,q2⟩=>thn (hu pins s2 σ H2 _ I2 q2) fun vu s3 ⟨u,H3,I3,pu,q3⟩=>?_)
 rw [evalPart_none]
 refine wpAny_pure ?_
 have I4:Inv X pins σ H3 { s3 with heap:=s3.heap.push { cls:=.type "slice",data:=.fields #[vl,vu,.none] } }:=I3.kept (t':=s3.toks) fun b ob q=>Heap.get?_push_of_some _ q
 obtain ⟨T,id,hT,ht,hg⟩:=hr pins { s3 with heap:=s3.heap.push { cls:=.type "slice",data:=.fields #[vl,vu,.none] } } σ H3 x v vl vu l u s3.heap.objs.size Q I4 r1 (Heap.IsSliceOf.new ..) pl pu q3
 show wpAny (model X.prog X.w) X.A (subscriptTail e (.Slice lo hi none p2) v (.ref s3.heap.objs.size)) (EP X pins σ Q) X.xe { s3 with heap:=s3.heap.push { cls:=.type "slice",data:=.fields #[vl,vu,.none] } }
 exact tail_any (ops:=[.ref s3.heap.objs.size,v]) ht hT hg (by with_unfolding_all rfl)
noncomputable def yAn (xs:List V) (lo hi:Option Int):List V:=(xs.drop (HT.sIx xs.length 0 lo)).take (HT.sIx xs.length xs.length hi-HT.sIx xs.length 0 lo)
theorem ynK (xs:List V) (lo hi:Option Int):(yAn xs lo hi).length<=xs.length:=by
 unfold yAn
 rw [List.length_take,List.length_drop]
 omega
noncomputable def yLj (K:PySem.W.Frag):V->Option Int->Option Int->Hp->VK->Prop:=fun x lo hi H Q=>∃ a xs,x=.ref a/\SqT K H a xs /\
 ¬ (HT.sIx xs.length 0 lo=0/\HT.sIx xs.length xs.length hi=xs.length)/\∀ p,H p=none->Q (.ref p) (upd H p (.tup (yAn xs lo hi)))
theorem yGW:SlR X (yLj X.K):=by
 intro pins s σ H x v vl vu lo hi sl Q I rx hs pl pu h
 obtain ⟨a,xs,rfl,hx,hw,q⟩:=h
 cases rx
 obtain ⟨its,r,ht,hz⟩:=I.tuple hx
 have hlen:its.toArray.size=xs.length:=by rw [List.size_toArray];exact r.length.symm
 refine ⟨"tuple",_,PyProof.Rows.slot_tuple_getitem.lookup,ht.typeIs,?_⟩
 refine HT.getItem_tuple_cut ht hs pl pu (by rw [hlen];exact hw) ?_ (by rw [hlen];exact hz)
 rw [hlen]
 refine ⟨.ref s.heap.objs.size,_,I.laid (t':=s.toks) (o:=.tup (yAn xs lo hi)) (fun b ob q=>Heap.get?_push_of_some _ q) (Nat.le_refl _) ?_,rfl,q _ (I.hok.fresh (Nat.le_refl _))⟩
 exact ⟨Nat.le_trans (ynK xs lo hi) hz,_,(r.drop (HT.sIx xs.length 0 lo)).take (HT.sIx xs.length xs.length hi-HT.sIx xs.length 0 lo),IsTup.new _ _⟩
end
end L2
namespace L2
open PySem PySem.Spec PyProof.Rows
noncomputable def ixN (n:Nat) (i:Int):Option Nat:=if 0<=i then (if i<n then some i.toNat else none) else if -(n:Int)<=i then some (i+n).toNat else none
def atI {α:Type}(xs:List α) (i:Int):Option α:=(ixN xs.length i).bind fun j=>xs[j]?
theorem yxQ {n:Nat}{i:Int}{j:Nat}(h:ixN n i=some j):seqIndex? i n=some j/\j<n/\-(n:Int)<=i/\i<n:=by
 unfold ixN at h
 by_cases h0:0<=i
 .rw [if_pos h0] at h
  by_cases h1:i<n
  .rw [if_pos h1] at h
   have e:i.toNat=j:=Option.some.inj h
   exact ⟨by rw [seqIndex_of h0 h1,e],by omega,by omega,h1⟩
  .rw [if_neg h1] at h;cases h
 .rw [if_neg h0] at h
  by_cases h1:-(n:Int)<=i
  .rw [if_pos h1] at h
   have e:(i+n).toNat=j:=Option.some.inj h
   exact ⟨by rw [seqIndex_neg (by omega) h1,e],by omega,h1,by omega⟩
  .rw [if_neg h1] at h;cases h
theorem ytS {α:Type}{xs:List α}{i:Int}{v:α}(h:atI xs i=some v):∃ j,seqIndex? i xs.length=some j/\xs[j]?=some v/\j<xs.length/\-(xs.length:Int)<=i/\i<xs.length:=by
 unfold atI at h
 cases e:ixN xs.length i with
 | none=>rw [e] at h;cases h
 | some j =>
  rw [e] at h
  obtain ⟨h1,h2,h3,h4⟩:=yxQ e
  exact ⟨j,h1,h,h2,h3,h4⟩
theorem yev {α:Type}{xs:List α}{j:Nat}{v:α}(h:xs[j]?=some v):atI xs (j:Int)=some v:=by
 have hj:j<xs.length:=(List.getElem?_eq_some_iff.mp h).1
 have e:ixN xs.length (j:Int)=some j:=by
  unfold ixN
  rw [if_pos (by omega),if_pos (by omega)];simp
 unfold atI;rw [e];exact h
def yxR (b:Expr):Prop:=∀ o i,subscripted b false o i=operate [o,i] (getItem o i)
noncomputable def IxR (X:Cx) (r:R2):Prop :=
 ∀ (value slice:Expr) (pins:List (Addr×Obj)) (s:Shared) (σ:St) (H:Hp) (x y:V) (v u:Value) (Q:VK),Inv X pins σ H s->RelV x v->RelV y u->r x y H Q ->
  subscripted slice false v u=operate [v,u] (getItem v u)->wpAny (model X.prog X.w) X.A (subscriptTail value slice v u) (EP X pins σ Q) X.xe s
noncomputable def MtR (X:Cx) (id:String) (r:V->List V->Hp->VK->Prop):Prop :=
 ∀ (pins:List (Addr×Obj)) (s:Shared) (σ:St) (H:Hp) (x:V) (xs:List V) (v:Value) (us:List Value) (Q:VK),Inv X pins σ H s->RelV x v->Vals xs us->r x xs H Q ->
  wpAny (model X.prog X.w) X.A (call (.builtin id) (v::us)) (EP X pins σ Q) X.xe s
section
variable {X:Cx}{a b:Expr}{ta tb:TE}{pos:Pos}
theorem IxR.or {r r':R2}(h:IxR X r) (h':IxR X r'):IxR X (fun x y H Q=>r x y H Q\/r' x y H Q):=by
 intro value slice pins s σ H x y v u Q I rx ry q hs
 rcases q with q|q
 .exact h value slice pins s σ H x y v u Q I rx ry q hs
 .exact h' value slice pins s σ H x y v u Q I rx ry q hs
theorem yJv {r:R2}(hr:IxR X r) (ha:PE X a ta) (hb:PE X b tb) (hs:yxR b):PE X (.Subscript a b pos) (tOp r ta tb):=by
 intro pins s σ H Q I h
 exact Subscript_ (yJq ha hb I h fun v u s2 x y H2 I2 rx ry q=>hr a b pins s2 σ H2 x y v u Q I2 rx ry q (hs _ _))
def yJw (K:PySem.W.Frag):R2:=fun x y H Q=>∃ p xs i v,x=.ref p/\y=.int i/\SqL K H p xs/\atI xs i=some v/\Q v H
def yJx (K:PySem.W.Frag):R2:=fun x y H Q=>∃ p xs i v,x=.ref p/\y=.int i/\SqT K H p xs/\atI xs i=some v/\Q v H
def yJy:R2:=fun x y H Q=>∃ z i c,x=.str z/\y=.int i/\z.length<=sizeLine/\atI z.cps.toList i=some c/\Q (.str ⟨#[c]⟩) H
theorem ix_list:IxR X (yJw X.K):=by
 intro value slice pins s σ H x y v u Q I rx ry h hs
 obtain ⟨p,xs,i,z,rfl,rfl,hq,he,q⟩:=h
 cases rx
 obtain ⟨t,rfl⟩:=ry
 obtain ⟨its,r,pl,hz⟩:=I.list hq
 obtain ⟨j,h1,h2,h3,h4,h5⟩:=ytS he
 obtain ⟨w,ew,rw'⟩:=r.get h2
 have hl:=r.length
 have hn:=ypK
 have fin:EP X pins σ Q w s:=⟨z,H,I,rw',q⟩
 by_cases h0:0<=i
 .have hj:i.toNat=j:=by
   rw [seqIndex_of h0 h5] at h1
   exact Option.some.inj h1
  exact item_listR pl.isList h0 (by omega) (by rw [hj];simpa using ew) fin hs
 .have hj:(i+(its.toArray.size:Int)).toNat=j:=by
   rw [seqIndex_neg (by omega) h4] at h1
   rw [List.size_toArray,<- hl]
   exact Option.some.inj h1
  exact subscriptTail_builtinR (x:=w) pl.isList.typeIs slot_list_getitem.lookup
   (wpAny_getItem_list_neg (Q:=fun r s'=>r=w/\EP X pins σ Q r s') pl.isList (by omega) (by rw [List.size_toArray]<;>omega) (by omega) (by rw [hj];simpa using ew) ⟨rfl,fin⟩) hs
theorem ix_tup:IxR X (yJx X.K):=by
 intro value slice pins s σ H x y v u Q I rx ry h hs
 obtain ⟨p,xs,i,z,rfl,rfl,hq,he,q⟩:=h
 cases rx
 obtain ⟨t,rfl⟩:=ry
 obtain ⟨its,r,pl,hz⟩:=I.tuple hq
 obtain ⟨j,h1,h2,h3,h4,h5⟩:=ytS he
 obtain ⟨w,ew,rw'⟩:=r.get h2
 have hl:=r.length
 have hn:=ypK
 have fin:EP X pins σ Q w s:=⟨z,H,I,rw',q⟩
 exact subscriptTail_builtinR (x:=w) pl.typeIs slot_tuple_getitem.lookup
  (getItem_tuple (j:=j) (Q:=fun r s'=>r=w/\EP X pins σ Q r s') pl (by omega) (by omega) (by rw [List.size_toArray,<- hl];exact h1) (by simpa using ew) ⟨rfl,fin⟩) hs
theorem ykK:IxR X yJy:=by
 intro value slice pins s σ H x y v u Q I rx ry h hs
 obtain ⟨z,i,c,rfl,rfl,hz,he,q⟩:=h
 obtain ⟨t,rfl⟩:=rx
 obtain ⟨t',rfl⟩:=ry
 obtain ⟨j,h1,h2,h3,h4,h5⟩:=ytS he
 have hl:z.cps.toList.length=z.length:=by simp [Str.length]
 rw [hl] at h1 h4 h5
 have hn:=ypK
 exact tail_any (typeIs_str s z t) slot_str_getitem.lookup (getItem_str (c:=c) (by
  have e1:decide (i < -(2 ^ 63:Int))=false:=decide_eq_false (by omega)
  have e2:decide (i>=2 ^ 63)=false:=decide_eq_false (by omega)
  rw [e1,e2,Bool.or_false]) (by rw [h1];simpa using h2) ⟨.str ⟨#[c]⟩,H,I.tok _,⟨_,rfl⟩,q⟩) hs
def rIx (K:PySem.W.Frag):R2:=fun x y H Q=>yJw K x y H Q\/yJx K x y H Q\/yJy x y H Q
theorem yxS:IxR X (rIx X.K):=ix_list.or (ix_tup.or ykK)
theorem ywv (its:List Value) (n j:Nat) (u:Value):Obj.mapSeq (·.setIfInBounds j u) { cls:=.type "list",data:=.seq its.toArray n }={ cls:=.type "list",data:=.seq (its.set j u).toArray n }:=by
 simp [Obj.mapSeq]
theorem Inv.lst {pins:List (Addr×Obj)}{σ:St}{H:Hp}{s:Shared}{p:Addr}{xs:List V}(I:Inv X pins σ H s) (h:H p=some (.lst xs)) :
  ∃ (its:List Value) (n:Nat),Vals xs its/\s.heap.get? p=some { cls:=.type "list",data:=.seq its.toArray n }/\xs.length<=sizeLine:=by
 obtain ⟨z,its,n,r,e⟩:=I.hok p _ h
 exact ⟨its,n,r,e,z⟩
theorem Inv.lstUpd {pins:List (Addr×Obj)}{σ:St}{H:Hp}{s:Shared}{p:Addr}{xs ys:List V}{its its':List Value}{n n':Nat}{f:Obj->Obj}(I:Inv X pins σ H s) (h:H p=some (.lst xs))
  (ho:s.heap.get? p=some { cls:=.type "list",data:=.seq its.toArray n }) (hf:f { cls:=.type "list",data:=.seq its.toArray n }={ cls:=.type "list",data:=.seq its'.toArray n' }) (r:Vals ys its') (hz:ys.length<=sizeLine) (t:Nat) :
  Inv X pins σ (upd H p (.lst ys)) { s with heap:=s.heap.update p f,toks:=t }:=by
 have e:(s.heap.update p f).get? p=some { cls:=.type "list",data:=.seq its'.toArray n' }:=by
  rw [Heap.get?_update_self f ho (by rw [hf]<;>rfl),hf]
 refine I.write (x:=p) (e:=p) (by rw [h];trivial) (.inl rfl) (fun b u hb q=>(Heap.get?_update_other _ _ (Ne.symm hb)).trans q) ⟨_,e⟩ ?_
 exact ⟨hz,its',n',r,e⟩
noncomputable def yGX:V->V->V->Hp->(Hp->Prop)->Prop:=fun o i v H Q=>∃ p xs k j,o=.ref p/\i=.int k/\H p=some (.lst xs)/\ixN xs.length k=some j/\Q (upd H p (.lst (xs.set j v)))
theorem set_list:yLa X yGX:=by
 intro pins s σ H o i v ov iv u Q I ro ri rv h
 obtain ⟨p,xs,k,j,rfl,rfl,hp,hj,q⟩:=h
 cases ro
 obtain ⟨t,rfl⟩:=ri
 obtain ⟨its,n,r,ho,hz⟩:=I.lst hp
 obtain ⟨h1,h2,h3,h4⟩:=yxQ hj
 have hl:=r.length
 have hn:=ypK
 have I':Inv X pins σ (upd H p (.lst (xs.set j v))) { s with heap:=s.heap.update p (Obj.mapSeq (·.setIfInBounds j u)) } :=
  I.lstUpd hp ho (ywv its n j u) (r.set rv j) (by rw [List.length_set];exact hz) s.toks
 by_cases h0:0<=k
 .have hk:k.toNat=j:=by
   rw [seqIndex_of h0 h4] at h1
   exact Option.some.inj h1
  exact PySem.W.ki_setAt ho h0 (by omega) (by rw [List.size_toArray,<- hl];exact h4) (by rw [hk];exact ⟨_,I',q⟩)
 .have hk:(k+(its.toArray.size:Int)).toNat=j:=by
   rw [seqIndex_neg (by omega) h3] at h1
   rw [List.size_toArray,<- hl]
   exact Option.some.inj h1
  exact PySem.W.ki_setBack ho (by omega) (by rw [List.size_toArray,<- hl];exact h3) (by omega) (by rw [hk];exact ⟨_,I',q⟩)
theorem yrU (lo hi:Option Int) (n:Nat):(sliceBounds lo hi none n).1=((HT.sIx n 0 lo:Nat):Int)/\(sliceBounds lo hi none n).2.1=((HT.sIx n n hi:Nat):Int)/\(sliceBounds lo hi none n).2.2=1:=by
 refine ⟨?_,?_,rfl⟩
 .cases lo with
  | none=>simp [sliceBounds,HT.sIx]
  | some i =>
   simp only [sliceBounds,HT.sIx,Option.getD_none,show (1:Int)>0 by decide,if_true]
   by_cases h:i<0
   .simp only [h,if_true]<;>omega
   .simp only [h,if_false]<;>omega
 .cases hi with
  | none=>simp [sliceBounds,HT.sIx]
  | some i =>
   simp only [sliceBounds,HT.sIx,Option.getD_none,show (1:Int)>0 by decide,if_true]
   by_cases h:i<0
   .simp only [h,if_true]<;>omega
   .simp only [h,if_false]<;>omega
theorem yqj (its:List Value) (lo hi:Option Int):slicePick its.toArray lo hi none=((its.drop (HT.sIx its.length 0 lo)).take (HT.sIx its.length its.length hi-HT.sIx its.length 0 lo)).toArray:=by
 obtain ⟨h1,h2,h3⟩:=yrU lo hi its.toArray.size
 unfold slicePick
 rw [h1,h2,h3]
 simp only [sliceRange_one,pick_run,List.size_toArray]<;>rfl
noncomputable def yLk (K:PySem.W.Frag):V->Option Int->Option Int->Hp->VK->Prop:=fun x lo hi H Q=>∃ a xs,x=.ref a/\SqL K H a xs/\∀ p,H p=none->Q (.ref p) (upd H p (.lst (yAn xs lo hi)))
theorem ylI:SlR X (yLk X.K):=by
 intro pins s σ H x v vl vu lo hi sl Q I rx hs pl pu h
 obtain ⟨a,xs,rfl,hx,q⟩:=h
 cases rx
 obtain ⟨its,r,ht,hz⟩:=I.list hx
 have hlen:=r.length
 refine ⟨"list",_,slot_list_getitem.lookup,ht.isList.typeIs,?_⟩
 refine wpAny_getItem_list_slice ht.isList hs pl pu .none (by simp) ?_ (by rw [List.size_toArray]<;>omega)
 rw [yqj,<- hlen]
 refine ⟨.ref s.heap.objs.size,_,I.laid (t':=s.toks) (o:=.lst (yAn xs lo hi)) (fun b ob q=>Heap.get?_push_of_some _ q) (Nat.le_refl _) ?_,rfl,q _ (I.hok.fresh (Nat.le_refl _))⟩
 exact ⟨Nat.le_trans (ynK xs lo hi) hz,_,0,(r.drop (HT.sIx xs.length 0 lo)).take (HT.sIx xs.length xs.length hi-HT.sIx xs.length 0 lo),Heap.get?_push_size _ rfl⟩
def yww:V->Bool
 | .non=>true
 | .bl _=>true
 | .int _=>true
 | .str _=>true
 | _=>false
noncomputable def eqV:V->V->Bool
 | .non,.non=>true
 | .bl a,.bl b=>a == b
 | .bl a,.int b=>(if a then 1 else 0) == b
 | .int a,.bl b=>a == (if b then 1 else 0)
 | .int a,.int b=>a == b
 | .str a,.str b=>a == b
 | _,_=>false
theorem eqAt_V {A:Around}{s:Shared}{y x:V}{u v:Value}(ry:RelV y u) (rx:RelV x v) (fy:yww y=true) (fx:yww x=true):SeqAt.EqAt A s u v (eqV y x):=by
 cases y with
 | non =>
  cases ry
  cases x with
  | non=>cases rx;exact SeqAt.EqAt.same _
  | bl b=>cases rx;exact SeqAt.EqAt.none_bool b
  | int b=>obtain ⟨t,rfl⟩:=rx;exact SeqAt.EqAt.none_int b t
  | str b=>obtain ⟨t,rfl⟩:=rx;exact SeqAt.EqAt.none_str b t
  | _=>exact absurd (show false=true from fx) Bool.false_ne_true
 | bl a =>
  cases ry
  cases x with
  | non=>cases rx;exact SeqAt.EqAt.bool_none a
  | bl b=>cases rx;exact SeqAt.EqAt.bool_bool a b
  | int b=>obtain ⟨t,rfl⟩:=rx;exact SeqAt.EqAt.bool_int a b t
  | str b=>obtain ⟨t,rfl⟩:=rx;exact SeqAt.EqAt.bool_str a b t
  | _=>exact absurd (show false=true from fx) Bool.false_ne_true
 | int a =>
  obtain ⟨t',rfl⟩:=ry
  cases x with
  | non=>cases rx;exact SeqAt.EqAt.int_none a t'
  | bl b=>cases rx;exact SeqAt.EqAt.int_bool a t' b
  | int b=>obtain ⟨t,rfl⟩:=rx;exact SeqAt.EqAt.int_int a t' b t
  | str b=>obtain ⟨t,rfl⟩:=rx;exact SeqAt.EqAt.int_str a t' b t
  | _=>exact absurd (show false=true from fx) Bool.false_ne_true
 | str a =>
  obtain ⟨t',rfl⟩:=ry
  cases x with
  | non=>cases rx;exact SeqAt.EqAt.str_none a t'
  | bl b=>cases rx;exact SeqAt.EqAt.str_bool a t' b
  | int b=>obtain ⟨t,rfl⟩:=rx;exact SeqAt.EqAt.str_int a t' b t
  | str b=>obtain ⟨t,rfl⟩:=rx;exact SeqAt.EqAt.str_str a t' b t
  | _=>exact absurd (show false=true from fx) Bool.false_ne_true
 | _=>exact absurd (show false=true from fy) Bool.false_ne_true
theorem ycK:yjW X (.builtin "len") (fun xs H Q=>∃ p ys,xs=[.ref p]/\(SqL X.K H p ys\/SqT X.K H p ys)/\Q (.int ys.length) H):=by
 intro pins s σ H xs us Q I r h
 obtain ⟨p,ys,rfl,hq,q⟩:=h
 obtain ⟨u,rfl,rx⟩:=vals1 r
 cases rx
 have hn:=ypK
 rcases hq with hq|hq
 .obtain ⟨its,r',pl,hz⟩:=I.list hq
  have hlen:=r'.length
  exact Calls.call_len_list pl.isList (by simp only [List.size_toArray]<;>omega) ⟨.int ys.length,H,I.tok _,⟨s.toks+1,by rw [List.size_toArray,hlen]⟩,q⟩
 .obtain ⟨its,r',pl,hz⟩:=I.tuple hq
  have hlen:=r'.length
  exact len_tuple pl (by simp only [List.size_toArray]<;>omega) ⟨.int ys.length,H,I.tok _,⟨s.toks+1,by rw [List.size_toArray,hlen]⟩,q⟩
theorem yrV:yjW X (.builtin "len") (fun xs H Q=>∃ z,xs=[.str z]/\z.length<=sizeLine/\Q (.int z.length) H):=by
 intro pins s σ H xs us Q I r h
 obtain ⟨z,rfl,hz,q⟩:=h
 obtain ⟨u,rfl,t,rfl⟩:=vals1 r
 have hn:=ypK
 exact len_str (by omega) ⟨.int z.length,H,I.tok _,⟨_,rfl⟩,q⟩
theorem yZ:yjW X (.type "list") (fun xs H Q=>∃ p ys,xs=[.ref p]/\(SqL X.K H p ys\/SqT X.K H p ys)/\∀ l,H l=none->Q (.ref l) (upd H l (.lst ys))):=by
 intro pins s σ H xs us Q I r h
 obtain ⟨p,ys,rfl,hq,q⟩:=h
 obtain ⟨u,rfl,rx⟩:=vals1 r
 cases rx
 have fin:∀ (its:List Value),Vals ys its->ys.length<=sizeLine->∀ (h':Heap) (c':Nat),(∀ b o',s.heap.get? b=some o'->h'.get? b=some o') ->
   h'.get? s.heap.objs.size=some { cls:=.type "list",dict:=none,data:=.seq its.toArray c',slots:=#[] }->EP X pins σ Q (.ref s.heap.objs.size) { s with heap:=h' }:=fun its r' hz h' c' kp e =>
  ⟨.ref s.heap.objs.size,_,I.laid (t':=s.toks) kp (Nat.le_refl _) (show ObjOk X.prog X.w _ h' _ (.lst ys) from ⟨hz,its,c',r',e⟩),rfl,q _ (I.hok.fresh (Nat.le_refl _))⟩
 rcases hq with hq|hq
 .obtain ⟨its,r',pl,hz⟩:=I.list hq
  have hlen:=r'.length
  obtain ⟨o,ho,hc,n,hd⟩:=pl.isList
  exact call_list_seq p (.inl rfl) ho hc hd (fun h' c' kp e=>fin its r' hz h' c' kp e) (by simp only [List.size_toArray]<;>omega)
 .obtain ⟨its,r',pl,hz⟩:=I.tuple hq
  have hlen:=r'.length
  obtain ⟨o,ho,hc,n,hd⟩:=pl
  exact call_list_seq p (.inr rfl) ho hc hd (fun h' c' kp e=>fin its r' hz h' c' kp e) (by simp only [List.size_toArray]<;>omega)
noncomputable def tyV (K:PySem.W.Frag) (T:String) (x:V) (H:Hp):Prop:=match x with
 | .str _=>T = "str"
 | .int _=>T = "int"
 | .ref p=>(T = "list"/\∃ xs,SqL K H p xs)\/(T = "tuple"/\∃ o,K.lookup p=some o/\o.cls=.type "tuple"/\o.dict=none) \/
   (T = "dict"/\((∃ kvs,H p=some (.dK kvs))\/∃ kvs,H p=some (.dT kvs)))\/(T = "set"/\∃ S n,H p=some (.set S n))
 | _=>False
theorem yCE {pins:List (Addr×Obj)}{σ:St}{H:Hp}{s:Shared}{T:String}{x:V}{v:Value}(I:Inv X pins σ H s) (r:RelV x v) (ty:tyV X.K T x H) :
  s.TypeIs v T/\∀ a,v=.ref a->∃ ob,s.heap.get? a=some ob/\ob.dict=none:=by
 cases x with
 | str z =>
  obtain ⟨t,rfl⟩:=r
  cases (show T = "str" from ty)
  exact ⟨typeIs_str s z t,fun _ e=>nomatch e⟩
 | int i =>
  obtain ⟨t,rfl⟩:=r
  cases (show T = "int" from ty)
  exact ⟨typeIs_int s i t,fun _ e=>nomatch e⟩
 | ref p =>
  cases r
  rcases ty with ⟨rfl,xs,hq⟩|⟨rfl,o,hk,hc,hd⟩|⟨rfl,hk⟩|⟨rfl,S,n,hk⟩
  .obtain ⟨its,_,pl,_⟩:=I.list hq
   refine ⟨pl.isList.typeIs,fun a e=>?_⟩
   cases e
   obtain ⟨o,n,e,c,hd,_⟩:=pl
   exact ⟨o,e,hd⟩
  .refine ⟨⟨o,I.kIn p o hk,hc⟩,fun a e=>?_⟩
   cases e
   exact ⟨o,I.kIn _ o hk,hd⟩
  .have z:∃ o,s.heap.get? p=some o/\o.ExactDict:=by
    rcases hk with ⟨kvs,hk⟩|⟨kvs,hk⟩
    .obtain ⟨_,_,_,_,o,_,_,e,ex,_⟩:=I.hok p _ hk
     exact ⟨o,e,ex⟩
    .obtain ⟨_,_,_,_,o,_,_,e,ex,_⟩:=I.hok p _ hk
     exact ⟨o,e,ex⟩
   obtain ⟨o,e,ex⟩:=z
   refine ⟨⟨o,e,ex.1⟩,fun a e2=>?_⟩
   cases e2
   exact ⟨o,e,ex.2.1⟩
  .obtain ⟨o,_,_,_,e,ex,_⟩:=I.hok p _ hk
   refine ⟨⟨o,e,ex.1⟩,fun a e2=>?_⟩
   cases e2
   exact ⟨o,e,ex.2.1⟩
 | _=>exact False.elim ty
noncomputable def yJz (K:PySem.W.Frag) (T:String) (r:V->List V->Hp->VK->Prop) (to:TE):TE:=fun σ H Q=>to σ H fun x H1=>tyV K T x H1/\r x [] H1 Q
noncomputable def tBM (K:PySem.W.Frag) (T:String) (r:V->List V->Hp->VK->Prop) (to:TE) (t:TA):TE:=fun σ H Q=>to σ H fun x H1=>tyV K T x H1/\t σ H1 fun xs H2=>r x xs H2 Q
variable {o e:Expr}{es:List Expr}{to:TE}{t:TA}{name:Str}{apos cpos:Pos}{T id:String}{r:V->List V->Hp->VK->Prop}
theorem yCF (pa:PlainAttrs T) (slot:Slot T name id) (hty:typeOf (.builtin id)=pure (.type "method_descriptor")) (hm:MtR X id r) (ho:PE X o to)
  (hbase:attributeBase o name X.env (eval o X.env)=eval o X.env:=by rfl) (hline:(apos.endLine == cpos.line)=true:=by rfl):PE X (.Call (.Attribute o name apos) [] [] cpos) (yJz X.K T r to):=by
 intro pins s σ H Q I h
 refine wpAny_Call_method0_late hbase hline (thn (ho pins s σ H _ I h) fun v s1 ⟨x,H1,I1,r1,ty,q1⟩=>?_)
 obtain ⟨h1,h2⟩:=yCE I1 r1 ty
 exact ⟨T,id,pa,slot,hty,h1,h2,Calls.callWith_builtin rfl (PySem.evalArgs_none (hm pins s1 σ H1 x [] v [] Q I1 r1 .nil q1))⟩
theorem yGY (pa:PlainAttrs T) (slot:Slot T name id) (hty:typeOf (.builtin id)=pure (.type "method_descriptor")) (hm:MtR X id r) (ho:PE X o to) (ha:PA X (e::es) t)
  (hbase:attributeBase o name X.env (eval o X.env)=eval o X.env:=by rfl)
  (hfew:((backTo cpos (starEach (e::es) X.env)).all (fun x=>!x.1) && (backToKw cpos (keywordEach [] X.env)).all (fun x=>x.1.isSome)
   && decide ((e::es).length+([]:List Keyword).length+(if ([]:List Keyword).isEmpty then 0 else 1)<30))=true:=by rfl)
  (hline:(apos.endLine == cpos.line)=true:=by rfl) (hs:starEach (e::es) X.env=(false,eval e X.env)::starEach es X.env:=by rfl) (hplain:(backTo cpos (starEach es X.env)).any (·.1)=false:=by rfl) :
  PE X (.Call (.Attribute o name apos) (e::es) [] cpos) (tBM X.K T r to t):=by
 intro pins s σ H Q I h
 refine wpAny_Call_method_late hbase hfew hline rfl (thn (ho pins s σ H _ I h) fun v s1 ⟨x,H1,I1,r1,ty,q1⟩=>?_)
 obtain ⟨h1,h2⟩:=yCE I1 r1 ty
 refine ⟨T,id,pa,slot,hty,h1,h2,?_⟩
 have hA:=ha cpos pins s1 σ H1 _ I1 q1
 rw [hs] at hA ⊢
 refine Calls.callWith_builtin (by show (false || (backTo cpos (starEach es X.env)).any (·.1))=false;rw [hplain]<;>rfl) (Calls.evalArgs_plain ?_)
 exact thn hA fun us s2 ⟨vs,H2,I2,r2,q2⟩=>hm pins s2 σ H2 x vs v us Q I2 r1 r2 q2
end
end L2
namespace L2
open PySem PySem.Spec PyProof.Rows
noncomputable def MtM (X:Cx) (id:String) (r:V->List V->Hp->VK->Prop):Prop :=
 ∀ (pins:List (Addr×Obj)) (s:Shared) (σ:St) (H:Hp) (x:V) (xs:List V) (v:Value) (us:List Value) (Q:VK),Inv X pins σ H s->RelV x v->Vals xs us->r x xs H Q ->
  wpAny (model X.prog X.w) X.A (call (.builtin id) (v::us)) (EP X pins σ Q) X.xe s
theorem Vals.one:∀ {x:V}{us:List Value},Vals [x] us->∃ u,us=[u]/\RelV x u
 | _,_,.cons r .nil=>⟨_,rfl,r⟩
theorem Vals.zero:∀ {us:List Value},Vals [] us->us=[]
 | _,.nil=>rfl
theorem Vals.dropLast {xs:List V}{us:List Value}(h:Vals xs us):Vals xs.dropLast us.dropLast:=by
 induction h with
 | nil=>exact .nil
 | cons r t ih =>
  cases t with
  | nil=>exact .nil
  | cons q t'=>exact .cons r ih
theorem Vals.rep {xs:List V}{us:List Value}(h:Vals xs us):∀ k:Nat,Vals (List.replicate k xs).flatten (List.replicate k us).flatten
 | 0=>.nil
 | k+1=>by
  rw [List.replicate_succ,List.replicate_succ,List.flatten_cons,List.flatten_cons]
  exact Vals.append h (Vals.rep h k)
theorem ywx {α:Type}(l:List α):l.eraseIdx (l.length-1)=l.dropLast:=by
 induction l with
 | nil=>rfl
 | cons a r ih =>
  cases r with
  | nil=>rfl
  | cons b r =>
   have e:(a::b::r).length-1=((b::r).length-1)+1:=by
    have h1:(a::b::r).length=r.length+2:=rfl
    have h2:(b::r).length=r.length+1:=rfl
    omega
   rw [e,List.eraseIdx_cons_succ,ih]
   all_goals rfl
section
variable {X:Cx}{pins:List (Addr×Obj)}{σ:St}{H:Hp}{s:Shared}{l b:Addr}{xs ys zs:List V}
theorem Inv.lset {its its':List Value}{n:Nat}{f:Array Value->Array Value}{t':Nat}(I:Inv X pins σ H s) (hH:H l=some (.lst xs))
  (e:s.heap.get? l=some { cls:=.type "list",data:=.seq its.toArray n }) (hf:f its.toArray=its'.toArray) (hv:Vals ys its') (hz:ys.length<=sizeLine) :
  Inv X pins σ (upd H l (.lst ys)) { s with heap:=s.heap.update l (Obj.mapSeq f),toks:=t' }:=by
 have q:=PySem.IsL.update e f
 rw [hf] at q
 refine I.write (x:=l) (e:=l) (by rw [hH];exact trivial) (.inl rfl) (fun b' u hb hu=>(Heap.get?_update_other s.heap (Obj.mapSeq f) (Ne.symm hb)).trans hu) ⟨_,q⟩ ?_
 exact ⟨hz,its',_,hv,q⟩
theorem Inv.lnew {its:List Value}{t':Nat}(I:Inv X pins σ H s) (hv:Vals ys its) (hz:ys.length<=sizeLine) :
  Inv X pins σ (upd H s.heap.objs.size (.lst ys)) { s with heap:=s.heap.push { cls:=.type "list",data:=.seq its.toArray },toks:=t' } :=
 I.laid (fun _ _ q=>Heap.get?_push_of_some _ q) (Nat.le_refl _) ⟨hz,its,0,hv,Heap.get?_push_size _ rfl⟩
theorem Inv.fresh (I:Inv X pins σ H s):H s.heap.objs.size=none:=I.hok.fresh (Nat.le_refl _)
theorem Inv.lstM (I:Inv X pins σ H s) (hH:H l=some (.lst xs)):xs.length<=sizeLine/\∃ (its:List Value) (n:Nat),Vals xs its/\xs.length=its.length/\s.heap.get? l=some { cls:=.type "list",data:=.seq its.toArray n }:=by
 obtain ⟨z,its,n,r,e⟩:=I.hok l _ hH
 exact ⟨z,its,n,r,r.length,e⟩
end
section
variable {X:Cx}
noncomputable def ytT:V->List V->Hp->VK->Prop:=fun x vs H Q=>∃ l xs y,x=.ref l/\vs=[y]/\H l=some (.lst xs)/\xs.length<sizeLine/\Q .non (upd H l (.lst (xs++[y])))
theorem ykL:MtM X "list.append" ytT:=by
 intro pins s σ H x vs v us Q I rx rv h
 obtain ⟨l,xs,y,rfl,rfl,hH,hz,q⟩:=h
 cases rx
 obtain ⟨u,rfl,ru⟩:=rv.one
 obtain ⟨z,its,n,r,hl,e⟩:=I.lstM hH
 refine call_meets F.slot_list_append ⟨_,e,rfl⟩ F.entry_list_append (F.args_list_append_2 _ _) (PySem.list_append l its.toArray n u (by rw [List.size_toArray];omega)) ⟨e,?_⟩
 refine ⟨.non,_,I.lset (its':=its++[u]) hH e (by simp) (r.append (.cons ru .nil)) ?_,rfl,q⟩
 rw [List.length_append,List.length_singleton]
 omega
noncomputable def yLl:V->List V->Hp->VK->Prop:=fun x vs H Q=>∃ l xs y,x=.ref l/\vs=[]/\H l=some (.lst xs)/\xs[xs.length-1]?=some y/\Q y (upd H l (.lst xs.dropLast))
theorem yCG:MtM X "list.pop" yLl:=by
 intro pins s σ H x vs v us Q I rx rv h
 obtain ⟨l,xs,y,rfl,rfl,hH,hy,q⟩:=h
 cases rx
 have hus:=rv.zero
 subst hus
 obtain ⟨z,its,n,r,hl,e⟩:=I.lstM hH
 obtain ⟨u,hu,ru⟩:=r.get hy
 have hy':its.toArray[its.toArray.size-1]?=some u:=by
  show its.toArray[its.length-1]?=some u
  rw [<- Array.getElem?_toList,<- hl]
  exact hu
 refine call_meets F.slot_list_pop ⟨_,e,rfl⟩ F.entry_list_pop (F.args_list_pop_1 _) (MeetsSeq.list_pop_last l its.toArray n u hy' (by rw [List.size_toArray];omega)) ⟨e,?_⟩
 refine ⟨y,_,I.lset (its':=its.dropLast) hH e ?_ r.dropLast ?_,ru,q⟩
 .show its.toArray.eraseIdxIfInBounds (its.toArray.size-1)=its.dropLast.toArray
  rw [List.size_toArray,List.eraseIdxIfInBounds_toArray,ywx]
 .rw [List.length_dropLast]
  omega
noncomputable def yLm:R2:=fun x y H Q=>∃ l b xs zs,x=.ref l/\y=.ref b/\H l=some (.lst xs)/\H b=some (.lst zs)/\xs.length+zs.length<=sizeLine/\∀ p,H p=none->Q (.ref p) (upd H p (.lst (xs++zs)))
theorem yrW:OpR X (binaryOp .Add) yLm:=by
 intro pins s σ H x y v u Q I rx ry h
 obtain ⟨l,b,xs,zs,rfl,rfl,hH,hB,hz,q⟩:=h
 cases rx
 cases ry
 obtain ⟨z,its,n,r,hl,e⟩:=I.lstM hH
 obtain ⟨z2,its2,n2,r2,hl2,e2⟩:=I.lstM hB
 refine PySem.P.add_list e e2 ?_ (by rw [List.size_toArray,List.size_toArray];omega)
 have ea:its.toArray++its2.toArray=(its++its2).toArray:=by simp
 rw [ea]
 exact ⟨.ref _,_,I.lnew (t':=s.toks) (r.append r2) (by rw [List.length_append];omega),rfl,q _ I.fresh⟩
end
section
variable {prog:Program}{w:World}{A:Around}{E:Value->Shared->Prop}{s:Shared}
end
section
variable {X:Cx}
end
end L2
namespace Att
open PySem PySem.W PySem.Calls PyProof.Rows
theorem ynL {P:Params}{h:Heap}:∀ (ns:List Int) (vs:List Value),WellAll P h vs (ns.map WData.int)->IntsAre vs ns:=by
 intro ns
 induction ns with
 | nil =>
  intro vs w
  rw [List.map_nil] at w
  cases w
  exact .nil
 | cons n ns ih =>
  intro vs w
  rw [List.map_cons] at w
  cases w with
  | cons a b =>
   cases a
   exact .cons _ _ (ih _ b)
theorem yxT {l:OpenLaw}{n:Nat}(hn:l.most=some n) {P:Params}{h:Heap}{args:List WData}{vals:List Value}
  (hpre:l.row.toRowW.claim.pre args=true) (hwl:WellAll P h vals args) :
  ∃ a vs ns,vals=[Value.ref a]/\args=[WData.list (ns.map WData.int)]/\h.get? a=some { cls:=.type "list",data:=.seq vs.toArray }/\IntsAre vs ns/\ns.length<=n:=by
 have hsh:WShape.hasAll [] args [.list .int]=true:=(pre_splitW hpre).1
 have hc:l.pre.holds [] { args:=args }=true:=(pre_splitW hpre).2
 obtain ⟨d,r,rfl,h1,h2⟩:=hasAllW_cons hsh
 obtain rfl:=hasAllW_nil h2
 obtain ⟨xs,rfl,h3⟩:=hasW_list h1
 obtain ⟨ns,rfl⟩:=items_int h3
 have hlen:ns.length<=n:=by
  unfold OpenLaw.pre at hc
  have h4:(WTm.not (.lt (.lit (.int (n:Int))) (.len (.arg 0)))).holds [] { args:=[.list (ns.map .int)] }=true:=by
   have h4:=(holds_andW hc).1
   rw [hn] at h4
   exact h4
  have h5:=condW_of h4 (w_not (w_lt w_lit (w_len_list (w_arg rfl))))
  rw [List.length_map] at h5
  refine Nat.le_of_not_lt fun q=>?_
  have q':(n:Int)<((ns.length:Nat):Int):=by omega
  first
   | (rw [decide_eq_true q'] at h5;exact absurd h5 (by decide))
   | (simp at h5;omega)
 cases hwl with
 | cons w1 w2 =>
  cases w2
  cases w1 with
  | list ho hall=>exact ⟨_,_,ns,rfl,rfl,ho,ynL ns _ hall,hlen⟩
theorem yxU (l:OpenLaw) (args:List WData):l.row.toRowW.claim.post args (.bool true) args=true :=
 postW_of (r:=l.row.toRowW) (X:=(true == true))
  (show WShape.has [] (.bool true) .bool=true by first|rfl|decide|simp [WShape.has,WShape.arms,WShape.armsAll])
  (show (WTm.eq .res (.lit (.bool true))).value [] { args:=args,res:=some (.bool true),after:=args }=some (.bool (true == true)) from w_eq_bool (w_res rfl) w_lit) rfl
theorem attach_call {l:OpenLaw}{n:Nat}{q:Program}{loose:List Str}{XP:(Str->Option Value)->Heap->Prop}{YP:World->Heap->Prop}{d:DefRec}
  (hn:l.most=some n) (hdf:d.params.defaults=[])
  (call:∀ (w:World) (s₀ s₁:Shared) (mg mb:Str->Option Value) (fa:Addr) (o:Obj) (pm cd doc:Value) (a:Addr) (vs:List Value) (ns:List Int),
   Ground q loose [] XP w s₀ mg mb s₁.heap->YP w s₁.heap ->
   s₁.heap.get? fa=some o->o.data=.func (docDef d.name d.params d.body d.scope pm cd doc)->s₁.heap.CodeRec cd d.name->mg d.name=some (.ref fa) ->
   s₁.heap.get? a=some { cls:=.type "list",data:=.seq vs.toArray }->IntsAre vs ns->ns.length<=n->s₁.gens = #[] ->
   codeAny (model l.prog w) callerA (.call (.ref fa) ⟨[.ref a],[]⟩) (fun r s'=>r=.ok (.ret (.bool true))/\OldK s₁.heap s'.heap/\s'.os=s₁.os/\AllBare s'.gens) s₁) :
  WalkO q loose XP YP l.row.toRowW d [] (fun f vs=>PySem.call f vs):=by
 intro w s₀ s₁ mg mb G Y fa o pm cd doc dV kV ho hd hcd hD hmg hg args vals as hpre hlay hrd hwl hlo
 obtain rfl:dV=.none:=Dflts.none hD hdf
 obtain rfl:kV=.none:=Dflts.noKw hD
 obtain ⟨a,vs,ns,rfl,rfl,hobj,hints,hlen⟩:=yxT hn hpre hwl
 refine enter_call (codeAny_mono (call w s₀ s₁ mg mb fa o pm cd doc a vs ns G Y ho (fd_plain hd) hcd hmg hobj hints hlen hg) fun r s' hq=>?_)
 obtain ⟨rfl,h2,h3,h4⟩:=hq
 exact ⟨.inl ⟨.bool true,.bool true,[],rfl,fun _=>rfl,.bool true,yxU l _,fun _=>⟨List.Pairwise.nil,fun _ hm=>(nomatch hm)⟩⟩,h2,h3,h4⟩
section
variable {prog:Program}{w:World}{A:Around}{E:Value->Shared->Prop}{s:Shared}{K:Frag}
end
end Att
namespace L2
open PySem PySem.Spec PyProof.Rows
theorem ykM:∀ {vs:List Value}{ns:List Int},IntsAre vs ns->Vals (ns.map V.int) vs
 | _,_,.nil=>.nil
 | _,_,.cons n t h=>.cons ⟨t,rfl⟩ (ykM h)
def yJA (H:Hp):Prop:=∀ b,H b=none\/∃ o xs,H b=some (.frz o (.lst xs))
theorem yAJ {P:Program}{w:World}{K:PySem.W.Frag}{mg mb:Str->Option Value}{CX:CXT}{k:Nat}{fa a:Addr}{fd:FuncData}{x:Str}{sp:Sp}{s₁:Shared}{vs:List Value}{ns:List Int}
  (KX:K.In s₁.heap) (hns:s₁.heap.Ns mainGlobals mg) (hb:s₁.heap.Ns builtinsNs mb) (hbb:∀ x:Str,x≠"__name__"->mb x=bootBuiltins x) (hlim:s₁.heap.NoLimit) (hg:s₁.gens = #[])
  (ha:s₁.heap.get? a=some { cls:=.type "list",data:=.seq vs.toArray }) (hi:IntsAre vs ns) (hl:ns.length<=sizeLine) (hr:Room k callerA)
  (F:∀ base:Heap,K.In base->base.Ns mainGlobals mg->FnOk P w K mg base CX k fa fd [x] sp) (hbind:∀ (s:Shared) (u:Value),BindsTo s fd ⟨[u],[]⟩ [(x,u)])
  (hsp:∀ H:Hp,yJA H->SqL K H a (ns.map V.int)->sp [.ref a] H (fun v _=>v=.bl true) fun _ _ _=>False)
  (hCX:∀ H e s',CX [] H s₁ (fun _ _ _=>False) e s'->False) :
  codeAny (model P w) callerA (.call (.ref fa) ⟨[.ref a],[]⟩) (fun r s'=>r=.ok (.ret (.bool true))/\OldK s₁.heap s'.heap/\s'.os=s₁.os/\AllBare s'.gens) s₁:=by
 have rv:=ykM hi
 have lenV:=hi.length
 have core:∀ H:Hp,yJA H->SqL K H a (ns.map V.int)->HOk P w H s₁.heap->(∀ b,H b≠none->b=a)->(H a≠none->K.lookup a=none) ->
   codeAny (model P w) callerA (.call (.ref fa) ⟨[.ref a],[]⟩) (fun r s'=>r=.ok (.ret (.bool true))/\OldK s₁.heap s'.heap/\s'.os=s₁.os/\AllBare s'.gens) s₁:=by
  intro H hO hS hok hA hK
  have base_of:∀ {b:Addr}{o:Obj},s₁.heap.get? b=some o->H b=none->(yAt s₁.heap H).get? b=some o:=fun e n=>yAu e n
  have noA:∀ {b:Addr}{o:Obj}{es:Array DictEntry}{ep:Nat},s₁.heap.get? b=some o->o.data=.dict es ep->H b=none:=fun {b o es ep} e d=>by
   cases q:H b with
   | none=>rfl
   | some u =>
    have e':b=a:=hA b (by rw [q];simp)
    subst e'
    rw [ha] at e;cases e
    have d':Data.seq vs.toArray _=Data.dict es ep:=d
    cases d'
  have nsK:∀ {b:Addr}{m:Str->Option Value},s₁.heap.Ns b m->(yAt s₁.heap H).Ns b m:=fun {b m} ⟨o,es,ep,e,d,r⟩=>⟨o,es,ep,base_of e (noA e d),d,r⟩
  have hKb:K.In (yAt s₁.heap H):=fun b o e=>base_of (KX b o e) (by
   cases q:H b with
   | none=>rfl
   | some u =>
    have e':b=a:=hA b (by rw [q];simp)
    subst e'
    rw [hK (by rw [q];simp)] at e;cases e)
  have hM:Mod K mg (yAt s₁.heap H):=⟨hKb,nsK hns,⟨mb,nsK hb,hbb⟩,let ⟨mc,h1,h2⟩:=hlim;⟨mc,nsK h1,h2⟩⟩
  have e0:Env0 P w K mg (yAt s₁.heap H) callerA [] s₁ H:=⟨rfl,hM,fun b o e=>yDX e,Nat.le_of_eq (yxx _ _),trivial,fun b hb=>absurd (show b∈([]:List Addr) from hb) (by simp),hok,.of_eq hg⟩
  refine codeAny_mono ((F _ hKb (nsK hns)).run callerA [] s₁ H ⟨[.ref a],[]⟩ [.ref a] [.ref a] _ _ hr e0 (hbind s₁ (.ref a)) (.cons rfl .nil) (hsp H hO hS)) fun r s' h=>?_
  cases r with
  | error e=>exact (hCX H e s' h).elim
  | ok fl =>
   cases fl with
   | next=>exact False.elim h
   | brk=>exact False.elim h
   | cont=>exact False.elim h
   | ret u =>
    obtain ⟨v,H',os,bare,un,hok',r',q⟩:=h
    have q':v=.bl true:=q
    subst q'
    obtain rfl:u=Value.bool true:=r'
    refine ⟨rfl,OldK.of_keep fun b o e=>?_,os,bare⟩
    cases q:H b with
    | none=>exact un.keep b o e q (by intro z;exact absurd (show b∈([]:List Addr) from z) (by simp)) (by simp)
    | some u =>
     rcases hO b with z|⟨ob,xs,z⟩
     .rw [q] at z;cases z
     .have z2:=un.frzs b ob _ z
      obtain ⟨e1,_⟩:=hok b _ z
      obtain ⟨e2,_⟩:=hok' b _ z2
      rw [e] at e1;cases e1
      exact e2
 cases hk:K.lookup a with
 | some o =>
  have e:=KX a o hk
  rw [ha] at e
  cases e
  refine core (fun _=>none) (fun _=>.inl rfl) (.inr ⟨_,vs.toArray,_,hk,rfl,rfl,rfl,by rw [List.size_toArray,lenV];exact hl,by simpa using rv⟩) (fun b u z=>by have z':(none:Option HO)=some u:=z;cases z') (fun b z=>absurd rfl z) fun z=>absurd rfl z
 | none =>
  refine core (fun b=>if b=a then some (.frz { cls:=.type "list",data:=.seq vs.toArray } (.lst (ns.map V.int))) else none) (fun b=>?_) (.inl (.inr ⟨{ cls:=.type "list",data:=.seq vs.toArray },if_pos rfl⟩)) (fun b u z=>?_) (fun b z=>?_) fun _=>hk
  .by_cases hb:b=a
   .exact .inr ⟨_,_,if_pos hb⟩
   .exact .inl (if_neg hb)
  .by_cases hb:b=a
   .have z':=(if_pos hb).symm.trans z
    cases z'
    subst hb
    exact ⟨ha,by rw [List.length_map];exact hl,vs,_,rv,ha⟩
   .have z':=(if_neg hb).symm.trans z
    cases z'
  .by_cases hb:b=a
   .exact hb
   .exact absurd (if_neg hb) z
end L2
namespace L2
open PySem PySem.Spec PyProof.Rows
theorem walk_of {l:PySem.W.OpenLaw}{n k:Nat}{q:Program}{loose:List Str}{XP:(Str->Option Value)->Heap->Prop}{YP:World->Heap->Prop}{d:DefRec}{K:Params->PySem.W.Frag}{CX:World->CXT}{sp:World->Sp}{x:Str}
  (hn:l.most=some n) (hn2:n<=sizeLine) (hdf:d.params.defaults=[]) (hr:Room k callerA)
  (hY:∀ (w:World) (h:Heap),YP w h->(K w.params).In h)
  (F:∀ (w:World) (mg:Str->Option Value) (fa:Addr) (h:Heap),(K w.params).In h->h.Ns mainGlobals mg->mg d.name=some (.ref fa) ->
   ∃ fd:FuncData,(∀ (s:Shared) (u:Value),BindsTo s fd ⟨[u],[]⟩ [(x,u)]) /\
    ∀ base:Heap,(K w.params).In base->base.Ns mainGlobals mg->FnOk l.prog w (K w.params) mg base (CX w) k fa fd [x] (sp w))
  (hsp:∀ (w:World) (H:Hp) (a:Addr) (ns:List Int),ns.length<=n->yJA H->SqL (K w.params) H a (ns.map V.int)->sp w [.ref a] H (fun v _=>v=.bl true) fun _ _ _=>False)
  (hCX:∀ (w:World) (H:Hp) (s:Shared) (e:Value) (s':Shared),CX w [] H s (fun _ _ _=>False) e s'->False) :
  PySem.W.WalkO q loose XP YP l.row.toRowW d [] (fun f vs=>PySem.call f vs):=by
 refine Att.attach_call hn hdf fun w s₀ s₁ mg mb fa o pm cd doc a vs ns G Y ho hd hcd hmg hobj hints hlen hg=>?_
 have KX:=hY w _ Y
 obtain ⟨fd,hb,hF⟩:=F w mg fa _ KX G.T.g hmg
 exact yAJ KX G.T.g G.T.b G.T.builtins G.T.nolimit hg hobj hints (Nat.le_trans hlen hn2) hr hF hb (fun H hO hS=>hsp w H a ns hlen hO hS) fun H e s'=>hCX w H s₁ e s'
end L2
namespace L2
open PySem PySem.Spec PyProof.Rows
noncomputable def inClass (s:Stmt) (j:Nat):Stmt:=match s with
 | .ClassDef _ _ _ body _ _ _ _ _ _ _=>body.getD j (.Pass ⟨0,0,0,0⟩)
 | _=>.Pass ⟨0,0,0,0⟩
noncomputable def yk (s:Stmt):Arguments:=match s with
 | .FunctionDef _ a _ _ _ _ _ _ _ _=>a
 | _=>{ posonlyargs:=[],args:=[],vararg:=none,kwonlyargs:=[],kw_defaults:=[],kwarg:=none,defaults:=[] }
def yj (s:Stmt):List Stmt:=match s with
 | .FunctionDef _ _ b _ _ _ _ _ _ _=>b
 | _=>[]
noncomputable def yb (s:Stmt):Scope:=match s with
 | .FunctionDef _ _ _ _ _ _ sc _ _ _=>sc
 | _=>{ kind:=.function,names:=[],isGenerator:=false,isCoroutine:=false }
abbrev CX0:CXT:=fun _ _ _ _ _ _=>False
abbrev E0:XK:=fun _ _ _=>False
theorem ywy {X:Cx}:ykJ CX0 X E0:=fun _ _ _ _ _ _ _ h=>h.elim
structure Fun (K:PySem.W.Frag) (x qual:Str) (st:Stmt) (f:Addr) (fd:FuncData):Prop where
 ex:∃ (oc:Value) (od:Option Addr) (kV doc pm:Value) (an:Option Addr) (cdv ct:Value) (osl:Array (Option Value)),
  fd=fnOf x qual (yk st) (yj st) (yb st) .none kV doc pm an cdv ct/\K.lookup f=some ⟨oc,od,.func fd,osl⟩/\codeIn K cdv qual=true
 kp:keepIn K (.ref f)=true
section
variable {P:Program}{w:World}{K:PySem.W.Frag}{mg:Str->Option Value}{base:Heap}
theorem Fun.ok {x qual:Str}{st:Stmt}{f:Addr}{fd:FuncData}{N ps:List Str}{k:Nat}{sp:Sp}(F:Fun K x qual st f fd) (S:yq N ps (yb st)) (len:∀ vs H Q E,sp vs H Q E->vs.length=ps.length)
  (hbody:∀ (cdv:Value) (A:Around) (outer:List Env) (s:Shared) (H:Hp) (vs:List V) (Q:VK) (E:XK),Room k (A.deeper (envOfC qual (yb st) s.heap.objs.size f cdv))->sp vs H Q E ->
   ∃ t,PSs (yAH CX0 P w K mg base N qual (yb st) f cdv A outer s H E).nox (yj st) t/\t { nx:=fun _ H'=>Q .non H',rt:=Q } (start N vs) H):FnOk P w K mg base CX0 (k+1) f fd ps sp:=by
 obtain ⟨oc,od,kV,doc,pm,an,cdv,ct,osl,rfl,lk,hcd⟩:=F.ex
 refine yJu lk hcd S len fun A outer s H vs Q E hr hsp=>?_
 obtain ⟨t,h,q⟩:=hbody cdv A outer s H vs Q E hr hsp
 exact ⟨t,h.nox,q⟩
theorem Fun.binds {x qual:Str}{st:Stmt}{f:Addr}{fd:FuncData}{ps:List Str}(F:Fun K x qual st f fd)
  (h:∀ (kV doc pm:Value) (an:Option Addr) (cdv ct:Value) (us:List Value),us.length=ps.length->bindArgs (fnOf x qual (yk st) (yj st) (yb st) .none kV doc pm an cdv ct) ⟨us,[]⟩=pure (ps.zip us)):Binds K fd ps []:=by
 obtain ⟨oc,od,kV,doc,pm,an,cdv,ct,osl,rfl,lk,hcd⟩:=F.ex
 exact .all (h kV doc pm an cdv ct)
theorem yP {x qual:Str}{st:Stmt}{f:Addr}{oc:Value}{od an:Option Addr}{osl:Array (Option Value)}{kV doc pm cdv ct:Value}(l:K.lookup f=some ⟨oc,od,.func (fnOf x qual (yk st) (yj st) (yb st) .none kV doc pm an cdv ct),osl⟩)
  (c:codeIn K cdv qual=true) (k:keepIn K (.ref f)=true):Fun K x qual st f (fnOf x qual (yk st) (yj st) (yb st) .none kV doc pm an cdv ct):=⟨⟨oc,od,kV,doc,pm,an,cdv,ct,osl,rfl,l,c⟩,k⟩
end
theorem yqk {A:Around}{k:Nat}(hr:Room k A):A.units+1<cLine:=Nat.lt_of_le_of_lt (Nat.add_le_add_left (by decide:1<=64) _) hr.units
theorem yrX {n:Nat}(h:n<=1000):n<sizeLine:=Nat.lt_of_le_of_lt h (by decide)
section
variable {X:Cx}
end
def Same (H H':Hp):Prop:=∀ b o,H b=some o->H' b=some o
theorem Same.refl (H:Hp):Same H H:=fun _ _ h=>h
theorem Same.trans {H H1 H2:Hp}(a:Same H H1) (b:Same H1 H2):Same H H2:=fun c o h=>b c o (a c o h)
theorem Same.free {H H':Hp}(e:Same H H') {l:Addr}(h:H' l=Option.none):H l=Option.none:=by
 cases q:H l with
 | none=>rfl
 | some o =>
  rw [e l o q] at h
  cases h
theorem Same.seq {K:PySem.W.Frag}{H H':Hp}{a:Addr}{xs:List V}(e:Same H H') (h:SqL K H a xs):SqL K H' a xs:=by
 rcases h with (h|⟨o,h⟩)|h
 .exact .inl (.inl (e _ _ h))
 .exact .inl (.inr ⟨o,e _ _ h⟩)
 .exact .inr h
end L2
namespace L2
open PySem PySem.Spec PyProof.Rows
def cV:V->Option Value
 | .ty n=>some (.type n)
 | .ref a=>some (.ref a)
 | _=>none
def IsI (K:PySem.W.Frag) (H:Hp) (x c:V) (b:Bool):Prop:=∃ t u,ynJ K H x t/\cV c=some u/\PySem.W.kitOne K t u=some b
theorem ytU {K:PySem.W.Frag}{H:Hp}{i:Int}:IsI K H (.int i) (.ty "int") true:=⟨_,_,.int i,rfl,by with_unfolding_all rfl⟩
theorem yrY {K:PySem.W.Frag}{H:Hp}{i:Int}:IsI K H (.int i) (.ty "bool") false:=⟨_,_,.int i,rfl,by with_unfolding_all rfl⟩
theorem ytV {K:PySem.W.Frag}{H:Hp}:IsI K H .non (.ty "int") false:=⟨_,_,.non,rfl,by with_unfolding_all rfl⟩
theorem ytW {K:PySem.W.Frag}{H:Hp}{i:Bool}:IsI K H (.bl i) (.ty "bool") true:=⟨_,_,.bl i,rfl,by with_unfolding_all rfl⟩
theorem ytX {K:PySem.W.Frag}{H:Hp}{i:Str}:IsI K H (.str i) (.ty "str") true:=⟨_,_,.str i,rfl,by with_unfolding_all rfl⟩
theorem yrZ {K:PySem.W.Frag}{H:Hp}{a:Addr}{xs:List V}(e:H a=some (.lst xs)):IsI K H (.ref a) (.ty "list") true:=⟨_,_,.lst e,rfl,by with_unfolding_all rfl⟩
end L2
namespace L2
open PySem
abbrev yJB:R2:=rI0 fun i j=>.int (i+j)
abbrev yJC:R2:=rI0 fun i j=>.int (i-j)
abbrev yJD:R2:=rI CMul fun i j=>.int (i*j)
abbrev yJE:R2:=rI yLf fun i j=>.int (i/j)
abbrev yJF:R2:=rI (fun _ j=>0<j) fun i j=>.int (i%j)
abbrev yJG:R2:=rI yJs fun i j=>.int (i ^ j.toNat)
abbrev yLT:R2:=rI0 fun i j=>.bl (decide (i<j))
abbrev yJH:V->Hp->VK->Prop:=rU fun i=>.int (-i)
def yJI:R2:=fun x y H Q=>∃ i j,x=.str i/\y=.str j/\i.length+j.length<=sizeLine/\Q (.str (i++j)) H
def yLU:R2:=fun x y H Q=>y=.non/\Q (.bl (decide (x=.non))) H
def yJJ:R2:=fun x y H Q=>y=.non/\Q (.bl (!decide (x=.non))) H
noncomputable def yJK:List V->Hp->VK->Prop:=fun xs H Q=>(∃ i,xs=[.int i]/\Q (.int i) H)\/∃ k,xs=[.bl k]/\Q (.int (if k then 1 else 0)) H
def yJL:List V->Hp->VK->Prop:=fun xs H Q=>∃ z,xs=[.str z]/\z.length<=sizeLine/\Q (.int z.length) H
noncomputable def yJM (K:PySem.W.Frag):List V->Hp->VK->Prop:=fun xs H Q=>∃ p ys,xs=[.ref p]/\(SqL K H p ys\/SqT K H p ys)/\Q (.int ys.length) H
def yLn (K:PySem.W.Frag):List V->Hp->VK->Prop:=fun xs H Q=>∃ x c b,xs=[x,c]/\IsI K H x c b/\Q (.bl b) H
theorem yhh {H:Hp}{p:Addr}(h:H p=none) (o:HO):Same H (upd H p o):=fun b u q=>by rw [ybc (yck q h)];exact q
section
variable {K:PySem.W.Frag}{σ:St}{H:Hp}{Q:VK}{ta tb tc:TE}{tA tB':TT}{t u:TS}{D:Ends}
theorem w_not {Q:Bool->Hp->Prop}:yJk tA σ H Q=tA σ H fun c H1=>Q (!c) H1:=rfl
end
end L2
namespace L2
open PySem
noncomputable def yIW (z:Str) (lo hi:Option Int):Str:=⟨((z.cps.toList.drop (HT.sIx z.length 0 lo)).take (HT.sIx z.length z.length hi-HT.sIx z.length 0 lo)).toArray⟩
noncomputable def yLo:V->Option Int->Option Int->Hp->VK->Prop:=fun x lo hi H Q=>∃ z,x=.str z/\z.length<=1000000/\Q (.str (yIW z lo hi)) H
noncomputable def yxV:V->List V->Hp->VK->Prop:=fun x vs H Q=>∃ (z:Str) (c:Nat),x=.str z/\vs=[.str ⟨#[c]⟩]/\z.length<=1000/\c∈z.cps.toList/\Q (.int (z.cps.toList.idxOf c)) H
noncomputable def yLp:List V->Hp->VK->Prop:=fun xs H Q=>∃ (p:Addr) (ns:List Int),xs=[.ref p]/\H p=some (.lst (ns.map V.int))/\Q (.int ns.sum) H
noncomputable def yEt (K:PySem.W.Frag):List V->Hp->VK->Prop:=fun xs H Q=>∃ p ys,xs=[.ref p]/\(SqL K H p ys\/SqT K H p ys)/\∀ l,H l=none->Q (.ref l) (upd H l (.lst ys))
noncomputable def yJN (J:It) (te:TE) (inn:V->St) (D:Addr) (Q:VK) (H:Hp):Prop:=∃ W:Nat->Nat->Hp->Prop,(∃ m,W 0 m H)/\∀ i m H,W i m H ->
 (J.stop i H/\Q (.ref D) H)\/(J.go i H/\∀ x H',J.yld i H x H'->te (inn x) H' fun y H2=>∃ acc,H2 D=some (.lst acc)/\acc.length<sizeLine/\∃ m',m'<m/\W (i+1) m' (upd H2 D (.lst (acc++[y]))))
def inner (ix:List Nat) (σ:St) (x:V):St:=some x::ix.map fun i=>(σ[i]?).getD none
noncomputable def yEu (wi:TI) (ix:List Nat) (te:TE):TE:=fun σ H Q=>wi σ H fun J H1=>∀ D,H1 D=none->yJN J te (inner ix σ) D Q (upd H1 D (.lst []))
section
variable {K:PySem.W.Frag}{σ:St}{H:Hp}{Q:VK}{ta tb tc:TE}{tA tB':TT}{t u:TS}{D:Ends}
end
end L2
namespace L2
open PySem
def yCH (C:Addr):TE:=fun _ H Q=>∀ x dx,H x=none->H dx=none->dx≠x->Q (.ref x) (upd (upd H dx (.own x)) x (.ins C dx []))
theorem yJO {k:Str}{v:V}{r:List (Str×V)}:List.lookup k ((k,v)::r)=some v:=by simp [List.lookup]
theorem yGZ {k k':Str}{v:V}{r:List (Str×V)}(h:¬ k=k'):List.lookup k ((k',v)::r)=List.lookup k r:=by
 have:(k == k')=false:=by simpa using h
 simp [List.lookup,this]
section
variable {K:PySem.W.Frag}{σ:St}{H:Hp}{Q:VK}{ta tb tc:TE}{t u:TS}{D:Ends}
end
end L2
namespace L2
open PySem PySem.Builtin PySem.Builtin.Str
theorem at_one {z:Str}{c i:Nat}:StrLaws.At z ⟨#[c]⟩ z.length i ↔ z.cps.toList[i]?=some c:=by
 unfold StrLaws.At subAt
 have e1:(⟨#[c]⟩:Str).length=1:=rfl
 rw [e1]
 have e2:(z.cps.extract i (i+1) == (⟨#[c]⟩:Str).cps)=true ↔ z.cps.extract i (i+1) = #[c]:=by simp
 rw [e2]
 constructor
 .rintro ⟨h1,h2⟩
  have h3:(z.cps.extract i (i+1)).toList=[c]:=by rw [h2]
  rw [Array.toList_extract,List.extract_eq_take_drop] at h3
  have h4:((z.cps.toList.drop i).take (i+1-i))[0]?=some c:=by rw [h3];rfl
  rw [List.getElem?_take_of_lt (by omega),List.getElem?_drop] at h4
  simpa using h4
 .intro h
  obtain ⟨hlt,hc⟩:=List.getElem?_eq_some_iff.mp h
  have hl:i<z.length:=by simpa [Str.length] using hlt
  refine ⟨by omega,?_⟩
  apply Array.ext'
  rw [Array.toList_extract,List.extract_eq_take_drop]
  have e:i+1-i=1:=by omega
  rw [e,List.drop_eq_getElem_cons hlt,hc]
  rfl
theorem yEv (z:Str) (c:Nat):(occurrences z ⟨#[c]⟩ 0 z.length 1=[]/\c∉z.cps.toList)\/∃ r,occurrences z ⟨#[c]⟩ 0 z.length 1=z.cps.toList.idxOf c::r/\c∈z.cps.toList:=by
 rcases StrLaws.occ_head z ⟨#[c]⟩ 1 (Nat.le_refl _) with ⟨h1,h2⟩|⟨i,r,h1,h2,h3⟩
 .refine .inl ⟨h1,fun hc=>?_⟩
  obtain ⟨i,hi,e⟩:=List.getElem_of_mem hc
  exact h2 i (at_one.mpr (List.getElem?_eq_some_iff.mpr ⟨hi,e⟩))
 .have hi:=at_one.mp h2
  obtain ⟨hlt,hc⟩:=List.getElem?_eq_some_iff.mp hi
  have hm:c∈z.cps.toList:=List.mem_of_getElem? hi
  refine .inr ⟨r,?_,hm⟩
  have hj:z.cps.toList.idxOf c<z.cps.toList.length:=List.idxOf_lt_length_of_mem hm
  have hg:z.cps.toList[z.cps.toList.idxOf c]?=some c:=by
   rw [List.getElem?_eq_getElem hj,List.getElem_idxOf hj]
  have e:i=z.cps.toList.idxOf c:=by
   rcases Nat.lt_trichotomy i (z.cps.toList.idxOf c) with h|h|h
   .exact absurd hc (by
     have:=List.not_of_lt_findIdx (p:=(· == c)) (xs:=z.cps.toList) (i:=i) (by simpa [List.idxOf] using h)
     simpa using this)
   .exact h
   .exact absurd (at_one.mpr hg) (h3 _ h)
  rw [h1,e]
theorem yxW (v:Option Int) (n d:Nat):(match v with|none=>(d:Int)|some i=>max 0 (min (if i<0 then i+(n:Int) else i) (n:Int)))=((HT.sIx n d v:Nat):Int):=by
 cases v with
 | none=>rfl
 | some i =>
  show max 0 (min (if i<0 then i+(n:Int) else i) (n:Int))=(((if i<0 then (i+(n:Int)).toNat else min i.toNat n):Nat):Int)
  split<;>omega
theorem yEw (lo hi:Option Int) (n:Nat):strSliceIndices lo hi 1 n=(List.range (HT.sIx n n hi-HT.sIx n 0 lo)).map (fun k=>HT.sIx n 0 lo+k):=by
 have h1:=yxW lo n 0
 have h2:=yxW hi n n
 generalize HT.sIx n 0 lo=a at *
 generalize HT.sIx n n hi=b at *
 have e:strSliceIndices lo hi 1 n=sliceRange (a:Int) (b:Int) 1:=by
  rw [<- h1,<- h2]
  cases lo<;>cases hi<;>rfl
 rw [e]
 unfold sliceRange
 rw [if_pos (show (1:Int)>0 by decide)]
 have e3:(if (a:Int)<b then ((b:Int)-a+1-1)/1 else 0).toNat=b-a:=by
  split
  .rw [Int.ediv_one];omega
  .omega
 show (List.range (if (a:Int)<b then ((b:Int)-a+1-1)/1 else 0).toNat).map _=_
 rw [e3]
 refine List.map_congr_left fun k _=>?_
 omega
theorem yHa (n:Nat) (hi:Option Int):HT.sIx n n hi<=n:=by
 cases hi with
 | none=>exact Nat.le_refl _
 | some v =>
  show (if v<0 then (v+(n:Int)).toNat else min v.toNat n)<=n
  split<;>omega
theorem yAK (l:List Nat) (a k:Nat) (h:a+k<=l.length):((List.range k).map (fun j=>a+j)).filterMap (fun j=>l[j]?)=(l.drop a).take k:=by
 induction k with
 | zero=>simp
 | succ k ih =>
  rw [List.range_succ,List.map_append,List.filterMap_append,ih (by omega)]
  have hlt:a+k<l.length:=by omega
  simp only [List.map_cons,List.map_nil,List.filterMap_cons,List.filterMap_nil,List.getElem?_eq_getElem hlt]
  rw [List.take_succ,List.getElem?_drop,List.getElem?_eq_getElem hlt]
  rfl
theorem yxX (z:Str) (lo hi:Option Int):Txt.slice z lo hi=yIW z lo hi:=by
 unfold Txt.slice yIW
 rw [yEw]
 have hz:z.cps.toList.length=z.length:=by simp [Str.length]
 have hb:=yHa z.length hi
 generalize HT.sIx z.length 0 lo=a at *
 generalize HT.sIx z.length z.length hi=b at *
 split
 .rename_i h
  have h2:b-a=z.length:=by simpa using h
  have h3:a=0\/z.length=0:=by omega
  obtain ⟨⟨l⟩⟩:=z
  simp only [Str.length,List.size_toArray] at *
  rcases h3 with h3|h3
  .subst h3
   rw [List.drop_zero,h2,List.take_length]
  .have:l=[]:=List.eq_nil_of_length_eq_zero h3
   subst this
   simp
 .congr 2
  by_cases hab:a<=b
  .have:=yAK z.cps.toList a (b-a) (by omega)
   simpa using this
  .have:b-a=0:=by omega
   rw [this]
   simp
end L2
namespace L2
open PySem PySem.Spec PyProof.Rows
theorem yeb {env:Env}(y:Str):∀ names:List (Str×NameKind),
  (names.map fun (n,k)=>if (k == NameKind.free && env.scope.kind == .function && env.kindOf n == some .cell) then (n,NameKind.cell) else (n,k)).lookup y
   = (names.lookup y).map fun k=>if (k == NameKind.free && env.scope.kind == .function && env.kindOf y == some .cell) then NameKind.cell else k
 | []=>rfl
 | (n,k)::r=>by
  have ih:=yeb (env:=env) y r
  show List.lookup y ((if (k == NameKind.free && env.scope.kind == .function && env.kindOf n == some .cell)=true then (n,NameKind.cell) else (n,k))::_)=_
  cases hx:y == n with
  | true =>
   have e:y=n:=eq_of_beq hx
   subst e
   by_cases hc:(k == NameKind.free && env.scope.kind == .function && env.kindOf y == some .cell)=true
   .rw [if_pos hc]
    simp only [List.lookup_cons,hx,Option.map_some,if_pos hc]
   .rw [if_neg hc]
    simp only [List.lookup_cons,hx,Option.map_some,if_neg hc]
  | false =>
   by_cases hc:(k == NameKind.free && env.scope.kind == .function && env.kindOf n == some .cell)=true
   .rw [if_pos hc];simp only [List.lookup_cons,hx];exact ih
   .rw [if_neg hc];simp only [List.lookup_cons,hx];exact ih
theorem yhi {env:Env}:∀ (names:List (Str×NameKind)) (cs:List (Str×Addr)),(∀ n,(n,NameKind.free)∈names->∃ c,env.cells.lookup n=some c) ->
  ∃ cl,(forIn names cs (fun (x:Str×NameKind) (r:List (Str×Addr))=>if (x.2 == NameKind.free)=true then do let c <- cellOf env x.1;pure (ForInStep.yield ((x.1,c)::r)) else pure (ForInStep.yield r)):Sem (List (Str×Addr)))=pure cl /\
   (∀ y,(y,NameKind.free)∈names->cl.lookup y=env.cells.lookup y)/\(∀ y,(y,NameKind.free)∉names->cl.lookup y=cs.lookup y)
 | [],cs,_=>⟨cs,rfl,fun y h=>by simp at h,fun y _=>rfl⟩
 | (n,k)::r,cs,h=>by
  by_cases hk:k=.free
  .subst hk
   obtain ⟨c,hc⟩:=h n List.mem_cons_self
   obtain ⟨cl,e,h1,h2⟩:=yhi r ((n,c)::cs) fun y hy=>h y (List.mem_cons_of_mem _ hy)
   refine ⟨cl,?_,fun y hy=>?_,fun y hy=>?_⟩
   .rw [List.forIn_cons]
    have e0:cellOf env n=pure c:=by unfold cellOf;rw [hc]
    simp only [beq_self_eq_true,if_true,e0,pure_bind]
    exact e
   .by_cases hr:(y,NameKind.free)∈r
    .exact h1 y hr
    .rw [h2 y hr]
     rcases List.mem_cons.mp hy with z|z
     .cases z
      rw [hc];simp [List.lookup]
     .exact absurd z hr
   .have hr:(y,NameKind.free)∉r:=fun z=>hy (List.mem_cons_of_mem _ z)
    rw [h2 y hr]
    have hn:(y == n)=false:=by
     cases e:y == n with
     | false=>rfl
     | true=>exact absurd (by rw [eq_of_beq e];exact List.mem_cons_self) hy
    simp [List.lookup,hn]
  .obtain ⟨cl,e,h1,h2⟩:=yhi r cs fun y hy=>h y (List.mem_cons_of_mem _ hy)
   have hb:(k == NameKind.free)=false:=by simpa using hk
   refine ⟨cl,?_,fun y hy=>?_,fun y hy=>?_⟩
   .rw [List.forIn_cons]
    simp only [hb,Bool.false_eq_true,if_false,pure_bind]
    exact e
   .rcases List.mem_cons.mp hy with z|z
    .cases z;exact absurd rfl hk
    .exact h1 y z
   .exact h2 y fun z=>hy (List.mem_cons_of_mem _ z)
noncomputable def cxC (X:Cx) (scope:Scope) (cl:List (Str×Addr)) (C:Addr) (N:List Str) (s₃:Shared) (H₃:Hp) (fp:List Addr) (pins:List (Addr×Obj)):Cx :=
 { prog:=X.prog,w:=X.w,K:=X.K,mg:=X.mg,base:=X.base,A:=X.A,N:=N,s₀:=s₃,H₀:=H₃,env:=compEnvC scope cl C X.env,outer:=X.stack,stack:=X.stack,ex:=fp,fn:=fun _=>false,calm:=X.calm,pn:=X.pn++pins,xe:=fun _ _=>False }
noncomputable def FrOk (X:Cx) (scope:Scope):List Nat->List Str->Prop
 | [],[]=>True
 | i::is,y::ys=>X.N[i]?=some y/\scope.names.lookup y=some .free/\X.env.kindOf y=some .cell/\FrOk X scope is ys
 | _,_=>False
theorem FrOk.len {X:Cx}{scope:Scope}:∀ {is:List Nat}{ys:List Str},FrOk X scope is ys->is.length=ys.length
 | [],[],_=>rfl
 | _::is,_::ys,h=>by rw [List.length_cons,List.length_cons,FrOk.len h.2.2.2]
theorem FrOk.get {X:Cx}{scope:Scope}:∀ {is:List Nat}{ys:List Str}{j:Nat}{y:Str},FrOk X scope is ys->ys[j]?=some y->∃ i,is[j]?=some i/\X.N[i]?=some y/\scope.names.lookup y=some .free/\X.env.kindOf y=some .cell
 | [],[],_,_,_,e=>by simp at e
 | [],_::_,_,_,h,_=>h.elim
 | _::_,[],_,_,h,_=>h.elim
 | i::is,z::ys,0,y,h,e=>by
  simp at e
  subst e
  exact ⟨i,rfl,h.1,h.2.1,h.2.2.1⟩
 | i::is,z::ys,j+1,y,h,e=>by
  obtain ⟨k,h1,h2⟩:=FrOk.get (j:=j) h.2.2.2 (by simpa using e)
  exact ⟨k,by simpa using h1,h2⟩
theorem yEx {X:Cx}{elt iter:Expr}{x:Str}{px:Pos}{scope:Scope}{cpos:Pos}{wi:TI}{te:TE}(ix:List Nat) (fr:List Str) (hc:X.calm=true) (hi:PI X (.Name x px) iter wi) (hfr:FrOk X scope ix fr)
  (he:∀ (cl:List (Str×Addr)) (C:Addr) (s₃:Shared) (H₃:Hp) (fp:List Addr) (pins:List (Addr×Obj)),PE (cxC X scope cl C (x::fr) s₃ H₃ fp pins) elt te)
  (hnd:(x::fr).Nodup:=by rfl') (hkind:scope.kind=.function:=by rfl) (hcell:∀ y∈scope.names,y.2≠.cell:=by rfl')
  (hnames:∀ y∈scope.names,y.2=.local->scope.names.lookup y.1=some .local:=by rfl') (hfree0:∀ y∈scope.names,y.2=.free->y.1∈fr:=by rfl') (hx:scope.names.lookup x=some .local:=by rfl)
  (hs:∀ v,foldedSetIterable iter X.env v=pure v:=by intro _;rfl):PE X (.ListComp elt [⟨.Name x px,iter,[],0⟩] scope cpos) (yEu wi ix te):=by
 intro pins s σ H Q I h
 have hfn:X.env.scope.kind=.function:=I.ok.kind
 have hfree:∀ y∈scope.names,y.2=.free->X.env.kindOf y.1=some .cell/\scope.names.lookup y.1=some .free:=fun y hy e=>by
  obtain ⟨j,hj,ej⟩:=List.getElem_of_mem (hfree0 y hy e)
  obtain ⟨i,_,_,h3,h4⟩:=hfr.get (j:=j) (y:=y.1) (by rw [List.getElem?_eq_getElem hj,ej])
  exact ⟨h4,h3⟩
 obtain ⟨cl,ecl,hcl1,hcl2⟩:=yhi (env:=X.env) scope.names [] fun n hn=>I.ok.has n (.inl (hfree _ hn rfl).1)
 have hclos:closureFor scope X.env=pure cl:=by
  unfold closureFor
  have:(forIn scope.names ([]:List (Str×Addr)) (fun (x:Str×NameKind) (r:List (Str×Addr))=>if (x.2 == NameKind.free)=true then do let c <- cellOf X.env x.1;pure (ForInStep.yield ((x.1,c)::r)) else pure (ForInStep.yield r)):Sem (List (Str×Addr)))=pure cl:=ecl
  first
   | exact (by simpa using congrArg (· >>= fun r=>pure r) this)
   | (rw [show (pure cl:Sem (List (Str×Addr)))=(pure cl >>= fun r=>pure r) from rfl,<- this];rfl)
 have hcle:∀ y c,cl.lookup y=some c->X.env.cells.lookup y=some c/\(y,NameKind.free)∈scope.names:=fun y c e=>by
  by_cases hy:(y,NameKind.free)∈scope.names
  .exact ⟨by rw [<- hcl1 y hy];exact e,hy⟩
  .rw [hcl2 y hy] at e;simp at e
 rw [eval_ListComp]
 refine wpAny_comprehension_free (use:=none) rfl hs hclos hkind hnames ?_
 refine thn (hi pins s σ H _ I h) fun v s1 h1=>thn h1 fun itv s2 h2=>?_
 obtain ⟨it,fp,tn,J,H2,e,I2,T,st2,f2,q2⟩:=h2
 subst e
 refine wpAny_newObj_type ?_
 generalize hs3:({ s2 with heap:=s2.heap.push { cls:=.type "list",dict:=none,data:=.seq ([]:List Value).toArray } }:Shared)=s3
 generalize hD:s2.heap.objs.size=D
 have hDn:H2 D=none:=by rw [<- hD];exact I2.hok.fresh (Nat.le_refl _)
 have I3:Inv X pins σ (upd H2 D (.lst [])) s3:=by
  rw [<- hs3,<- hD]
  exact I2.lnew (t':=s2.toks) (ys:=[]) (its:=[]) .nil (Nat.zero_le _)
 have k3:∀ b o,s2.heap.get? b=some o->s3.heap.get? b=some o:=fun b o e=>by rw [<- hs3];exact Heap.get?_push_of_some _ e
 have st3:tn 0 s3.heap:=T.keep _ _ _ st2 fun b _ o e=>k3 b o e
 have fne:∀ b∈fp,b≠D:=fun b hb=>by
  obtain ⟨o,e,_⟩:=T.obj _ _ st2 b hb
  rw [<- hD]
  exact Nat.ne_of_lt (Heap.lt_size e)
 have f3:∀ b∈fp,yxA X pins (upd H2 D (.lst [])) b:=fun b hb=>⟨by rw [ybc (fne b hb)];exact (f2 b hb).1,(f2 b hb).2⟩
 have q3:=q2 D hDn
 generalize upd H2 D (.lst [])=H3 at I3 f3 q3
 obtain ⟨W,⟨m0,w0⟩,turn⟩:=q3
 refine wpAny_newFunctionEnv hcell (by intro y hy;simp at hy) (fun h4 hns hsb=>?_) hkind
 try dsimp only at hns hsb ⊢
 generalize hC:s3.heap.objs.size=C at hns hsb ⊢
 have k4:∀ b o,s3.heap.get? b=some o->h4.get? b=some o:=fun b o e=>(hsb.2 b (by rw [<- hC];exact Nat.ne_of_lt (Heap.lt_size e))).trans (Heap.get?_push_of_some _ e)
 have Cne:∀ b o,s3.heap.get? b=some o->b≠C:=fun b o e=>by rw [<- hC];exact Nat.ne_of_lt (Heap.lt_size e)
 have stk:=I3.stkSub
 have pinF:∀ p∈X.pn++pins,p.1∉frs X.stack:=fun p hp z=>by
  obtain ⟨_,_,n1,n2,_⟩:=I3.pin p hp
  rcases List.mem_cons.mp (stk _ z) with z|z
  .exact n1 z
  .exact n2 z
 have okC:(cxC X scope cl C (x::fr) s3 H3 fp pins).Ok:=by
  refine ⟨I3.ok.mod,by show (relabel scope X.env).kind=_;exact hkind,I3.ok.glob,I3.ok.blt,Nat.le_of_eq hC,fun y z c h1 h2=>I3.ok.inj y z c (hcle y c h1).1 (hcle z c h2).1,fun y hy=>?_,fun y c hf _=>(by cases hf),I3.ok.hd,I3.ok.frames,.inl rfl,fun b hb=>⟨?_,fun y c e z=>?_⟩,I3.bs,?_,fun b o e hb=>?_,fun b hb z=>?_,I3.stack,I3.stkFree⟩
  .have hy:((relabel scope X.env).names.lookup y=some .cell)\/((relabel scope X.env).names.lookup y=some .free):=hy
   rw [show (relabel scope X.env).names.lookup y=_ from yeb y scope.names] at hy
   cases e:scope.names.lookup y with
   | none=>rw [e] at hy;simp at hy
   | some k =>
    have hm:(y,k)∈scope.names:=PySem.mem_of_lookup e
    have hkf:k=.free:=by
     rw [e] at hy
     cases k<;>simp at hy ⊢
     exact absurd rfl (hcell _ hm)
    subst hkf
    obtain ⟨c,hc'⟩:=I3.ok.has y (.inl (hfree _ hm rfl).1)
    exact ⟨c,by show cl.lookup y=_;rw [hcl1 y hm];exact hc'⟩
  .obtain ⟨o,e,_⟩:=T.obj _ _ st3 b hb
   exact Cne b o e
  .exact (f3 b hb).2.2.2.2.1 y c (hcle y c e).1 z
  .exact Nat.le_trans I3.ok.bsz I3.sz
  .rcases (f3 b hb).2.2.2.1 with z|z
   .exact I3.ok.noex b o e z
   .exact absurd (Nat.lt_of_lt_of_le (Heap.lt_size e) (Nat.le_trans I3.ok.bsz z)) (Nat.lt_irrefl _)
  .rcases List.mem_cons.mp (stk _ z) with z|z
   .exact (f3 b hb).2.1 z
   .exact (f3 b hb).2.2.1 z
 have inn:∀ v,(inner ix σ v)=some v::ix.map fun i=>(σ[i]?).getD none:=fun _=>rfl
 have I4:Inv (cxC X scope cl C (x::fr) s3 H3 fp pins) [] (none::ix.map fun i=>(σ[i]?).getD none) H3 { s3 with heap:=h4,toks:=s3.toks+([]:List (Str×Value)).length }:=by
  refine ⟨okC,rfl,I3.bare,Un.kept k4,⟨_,hns,fun j y v e1 e2 e3=>?_⟩,fun y c e=>?_,I3.hok.fresh (Nat.le_of_eq hC),fun y c e=>I3.freeC y c (hcle y c e).1,fun p hp=>?_,I3.hok.kept k4,?_⟩
  .match j,e1,e2 with
   | 0,e1,e2=>simp at e2
   | j+1,e1,e2 =>
    obtain ⟨i,hi1,hi2,hi3,hi4⟩:=hfr.get (j:=j) (y:=y) (by have e1':(x::fr)[j+1]?=some y:=e1;simpa using e1')
    have e2':σ[i]?=some (some v):=by
     have e2:(ix.map fun i=>(σ[i]?).getD none)[j]?=some (some v):=by simpa using e2
     rw [List.getElem?_map,hi1] at e2
     simp at e2
     cases z:σ[i]? with
     | none=>rw [z] at e2;simp at e2
     | some o=>rw [z] at e2;simp at e2;rw [e2]
    obtain ⟨m,_,hl⟩:=I3.loc
    obtain ⟨u,r,l⟩:=hl i y v hi2 e2' (.inr (.inl hi4))
    refine ⟨u,r,?_⟩
    rcases l with ⟨k,_⟩|⟨k,c,ec,z⟩
    .rw [hi4] at k;cases k
    .have hm:(y,NameKind.free)∈scope.names:=PySem.mem_of_lookup hi3
     refine .inr ⟨.inl ?_,c,by show cl.lookup y=_;rw [hcl1 y hm];exact ec,?_⟩
     .show (relabel scope X.env).names.lookup y=_
      rw [show (relabel scope X.env).names.lookup y=_ from yeb y scope.names,hi3]
      simp [hfn,hi4]
     .obtain ⟨o,ho,hd⟩:=z
      exact ⟨o,k4 _ _ ho,hd⟩
  .obtain ⟨v,o,ho,hd⟩:=I3.cell y c (hcle y c e).1
   exact ⟨v,o,k4 _ _ ho,hd⟩
  .have hp:p∈X.pn++pins:=by simpa [cxC] using hp
   obtain ⟨e,n,ne,nf,d⟩:=I3.pin p hp
   exact ⟨k4 _ _ e,n,Cne _ _ e,pinF p hp,d⟩
  .show (none::ix.map fun i=>(σ[i]?).getD none).length=(x::fr).length
   rw [List.length_cons,List.length_cons,List.length_map,hfr.len]
 have st4:tn 0 h4:=T.keep _ _ _ st3 fun b _ o e=>k4 b o e
 have f4:∀ b∈fp,b≠C/\b∉frs X.stack/\(∀ y c,cl.lookup y=some c->c≠b)/\∀ p∈(X.pn++pins)++([]:List (Addr×Obj)),p.1≠b:=fun b hb=>by
  obtain ⟨o,e,_⟩:=T.obj _ _ st3 b hb
  refine ⟨Cne b o e,fun z=>?_,fun y c e=>(f3 b hb).2.2.2.2.1 y c (hcle y c e).1,fun p hp=>(f3 b hb).2.2.2.2.2 p (by simpa using hp)⟩
  rcases List.mem_cons.mp (stk _ z) with z|z
  .exact (f3 b hb).2.1 z
  .exact (f3 b hb).2.2.1 z
 have stat:∀ {H':Hp},(∀ b∈fp,H' b=none)->∀ b∈fp,yxA (cxC X scope cl C (x::fr) s3 H3 fp pins) [] H' b:=fun hn b hb=>⟨hn b hb,(f4 b hb).1,(f4 b hb).2.1,.inl hb,(f4 b hb).2.2.1,(f4 b hb).2.2.2⟩
 have fin:∀ {σ':St}{H':Hp}{s':Shared},Inv (cxC X scope cl C (x::fr) s3 H3 fp pins) [] σ' H' s'->Q (.ref D) H'->compPost (model X.prog X.w) X.A X.xe none (EP X pins σ Q) (.ref D) C (.ok .next) s':=fun {σ' H' s'} I' q'=>by
  obtain ⟨m,hn,_⟩:=I'.loc
  refine ⟨m,hn,fun h' sb=>⟨.ref D,H',?_,rfl,q'⟩⟩
  have hCn:H' C=none:=I'.free
  have same:∀ b,b≠C->h'.get? b=s'.heap.get? b:=fun b hb=>sb.2 b hb
  have U:=I'.base
  have U':Un (frs X.stack) fp H3 H' s3.heap h':=by
   refine ⟨fun b o e n h1 h2=>?_,fun b o e n h1 h2=>?_,U.free,fun b o e h2=>?_,U.tups,U.frzs,U.tbls⟩
   .rw [same b (Cne b o e)];exact U.keep b o e n h1 h2
   .rw [same b (Cne b o e)];exact U.slot b o e n h1 h2
   .rw [same b (Cne b o e)];exact U.there b o e h2
  refine I3.call' (s':={ s' with heap:=h' }) (by show s'.os=s3.os;exact I'.os) U' ?_ I'.bare fun b hb=>⟨(f3 b hb).2.2.2.1,(f3 b hb).2.1,(f3 b hb).2.2.2.2.1,(f3 b hb).2.2.2.2.2⟩
  intro b ob e
  refine (I'.hok b ob e).stay (fun c w' hc q=>?_) (fun _ q=>q) fun _ _ q=>q
  show h'.get? c=_
  rw [same c ?_]
  .exact q
  rintro rfl
  rcases hc with rfl|hc
  .rw [hCn] at e;cases e
  .rw [hCn] at hc;cases hc
 have loop:∀ s5:Shared,s5={ s3 with heap:=h4,toks:=s3.toks+([]:List (Str×Value)).length } ->
   codeAny (model X.prog X.w) X.A (.compLoop (.ListComp elt [⟨.Name x px,iter,[],0⟩] scope cpos) 0 (.ref it) (.ref D) (compEnvC scope cl C X.env)) (compPost (model X.prog X.w) X.A X.xe none (EP X pins σ Q) (.ref D) C) s5:=by
  rintro s5 rfl
  refine codeAny_loop rfl (fun n s'=>∃ i o H',Inv (cxC X scope cl C (x::fr) s3 H3 fp pins) [] (o::ix.map fun i=>(σ[i]?).getD none) H' s'/\tn i s'.heap/\(∀ b∈fp,H' b=none)/\W i n H') ?_ m0 ⟨0,none,H3,I4,st4,fun b hb=>(f3 b hb).1,w0⟩
  rintro n s6 ⟨i,o,H6,I6,st6,fr6,w6⟩
  show wpAny _ _ ((compTurn (.ListComp elt [⟨.Name x px,iter,[],0⟩] scope cpos) 0 (.ref it) (.ref D) (compEnvC scope cl C X.env)).onRaise (fun x=>do noteFrame x (compEnvC scope cl C X.env);theTreesLotGoes x)) _ _ s6
  refine wpAny_noted ?_
  rw [compTurn_list1]
  rcases turn i n H6 w6 with ⟨stop,qn⟩|⟨go,step⟩
  .refine wpAny_bind (wpAny_standAt (wpAny_bind (thn (T.done (cxC X scope cl C (x::fr) s3 H3 fp pins) rfl rfl rfl hc i [] s6 _ H6 _ I6 (stat fr6) st6 stop) fun r s7 ⟨hr,I7⟩=>?_)))
   subst hr
   exact wpAny_pure (fin I7 qn)
  .refine wpAny_bind (wpAny_standAt (wpAny_bind (thn (T.item (cxC X scope cl C (x::fr) s3 H3 fp pins) rfl rfl rfl hc i [] s6 _ H6 _ I6 (stat fr6) st6 go) fun r s7 ⟨u,hr,h7⟩=>?_)))
   subst hr
   refine wpAny_bind (thn h7 fun _ s8 ⟨y,H8,I8,r8,y8,st8,fr8⟩=>?_)
   have I8':=I8.pinned (stat fr8) (T.obj _ _ st8)
   have hx':Loc (cxC X scope cl C (x::fr) s3 H3 fp pins).env.scope x:=.inl (lookup_relabel_local hx)
   refine wpAny_bind (wpAny_mono (yqg (X:=cxC X scope cl C (x::fr) s3 H3 fp pins) (i:=0) (x:=x) (pos:=px) hnd rfl hx' (.inr (lookup_relabel_local hx)) _ s8 _ H8 y u (fun σ9 H9=>σ9=inner ix σ y/\H9=H8) I8' r8 ⟨rfl,rfl⟩) (fun _ s9 ⟨σ9,H9,I9,e9,e9'⟩=>?_) fun _ _ f=>f.elim)
   subst e9 e9'
   refine wpAny_bind (wpAny_bind (wpAny_mono (he cl C s3 H3 fp pins _ s9 _ _ _ I9 (step y _ y8)) (fun v s10 ⟨z,H10,I10,r10,acc,a10,l10,m',hm',w10⟩=>?_) fun _ _ f=>f.elim))
   refine wpAny_bind (wpAny_mono (ykL (X:=cxC X scope cl C (x::fr) s3 H3 fp pins) _ s10 _ H10 (.ref D) [z] (.ref D) [v] (fun _ H11=>H11=upd H10 D (.lst (acc++[z]))) I10 rfl (.cons r10 .nil) ⟨D,acc,z,rfl,rfl,a10,l10,rfl⟩) (fun _ s11 ⟨_,H11,I11,_,e11⟩=>?_) fun _ _ f=>f.elim)
   subst e11
   refine wpAny_pure (wpAny_pure ⟨rfl,m',hm',i+1,some y,_,I11.unpinned,T.keep _ _ _ st8 fun b hb o e=>(I11.pin (b,o) (List.mem_append_right _ (List.mem_append_right _ (yfe hb e)))).1,fun b hb=>?_,w10⟩)
   obtain ⟨o,e,d⟩:=T.obj _ _ st8 b hb
   exact (I11.pin (b,o) (List.mem_append_right _ (List.mem_append_right _ (yfe hb e)))).2.1
 exact codeAny_compStart_list (loop _ rfl) (T.self X.A 0 _ _ _ st4 (loop _ rfl))
end L2
namespace L2
open PySem PySem.Spec PyProof.Rows
section
variable {X:Cx}{tg:Expr}
theorem yql (hc:X.calm=true):yjW X (.builtin "sum") yLp:=by
 intro pins s σ H xs us Q I r h
 obtain ⟨p,ns,rfl,hp,q⟩:=h
 obtain ⟨u,rfl,rx⟩:=vals1 r
 cases rx
 obtain ⟨its,n,rv,e,hz⟩:=I.lst hp
 have hi:IntsAre its ns:=intsAre_of rv
 have hl:s.heap.IsList p its.toArray:=⟨_,e,rfl,n,rfl⟩
 obtain ⟨xs,hx⟩:=hi.allInts.items
 have hl':s.heap.IsList p (intItems xs):=hx ▸ hl
 refine sum_intListG (I.ok.hd hc) hl' fun h' tk t' hk=>?_
 have e1:ns=xs.toList.map (·.1):=by
  rw [<- nums_intItems,<- hx]
  exact (show numsOf its.toArray.toList=ns from hi.numsOf).symm
 have e2:preSum (numAt xs) xs.size=ns.sum:=by
  rw [preSum_eq,List.take_of_length_le (by simp),e1]
 rw [e2]
 exact ⟨.int ns.sum,H,I.kept (t':=tk) hk,⟨_,rfl⟩,q⟩
theorem yHb:SlR X yLo:=by
 intro pins s σ H x v vl vu lo hi sl Q I rx hs pl pu h
 obtain ⟨z,rfl,hz,q⟩:=h
 obtain ⟨t,rfl⟩:=rx
 have pv':∀ {w':Value}{o:Option Int},IsPart w' o->∃ p:Option (Int×Tok),w'=partValue p/\p.map (·.1)=o:=fun {w' o} p=>by
  cases p with
  | none=>exact ⟨none,rfl,rfl⟩
  | int i t=>exact ⟨some (i,t),rfl,rfl⟩
 obtain ⟨l,el,ml⟩:=pv' pl
 obtain ⟨u,eu,mu⟩:=pv' pu
 obtain ⟨o,ho,hc,hd⟩:=hs
 refine ⟨"str",_,F.slot_str_getitem.lookup,typeIs_str _ _ _,wpAny_getItem_str_slice (l:=l) (u:=u) (st:=none) ⟨o,ho,hc,by rw [hd,el,eu];rfl⟩ rfl ?_⟩
 have hz':z.length<=sizeLine:=Nat.le_trans hz (by decide)
 have e:∀ t' k,EP X pins σ Q (.str (Txt.slice z lo hi) t') { s with toks:=k }:=fun t' k=>by
  rw [yxX]
  exact ⟨.str _,H,I.tok k,⟨_,rfl⟩,q⟩
 have e2:sliceMade z t l u none=(if ((1:Int) == 1 && (Builtin.Str.strSliceIndices lo hi 1 z.length).length == z.length)=true then Made.val (.str z t) else .str ⟨((Builtin.Str.strSliceIndices lo hi 1 z.length).filterMap (z.cps[·]?)).toArray⟩):=by
  unfold sliceMade slicePicked
  rw [ml,mu]
  rfl
 rw [e2]
 exact post_val_or_str ⟨Nat.le_trans (Txt.slice_le z _ _) hz',e⟩
theorem yAL {C:Addr}{x:Str}{p pos:Pos}(hm:makesIn X.K C=true) (hi:findIn X.K (.ref C) "__init__" = some (some (.builtin "object.__init__"))) (hk:keepIn X.K (.ref C)=true)
  (hg:Gl X x) (hmg:X.mg x=some (.ref C)) (hdb:(x == ("__debug__":Str))=false:=by decide):PE X (.Call (.Name x p) [] [] pos) (yCH C):=by
 intro pins s σ H Q I h
 refine wpAny_Call_Name_kw (ynD I hg hmg ?_ hdb)
 refine PySem.W.callWith_K0 I.kIn hk (wpAny_call ?_)
 have I2:=Inv.made (C:=C) I
 have q:=h (s.heap.objs.size+1) s.heap.objs.size (I.hok.fresh (Nat.le_succ _)) (I.hok.fresh (Nat.le_refl _)) (Nat.ne_of_lt (Nat.lt_succ_self _))
 have kin:=I.kIn
 obtain ⟨hh,g,d,t,os⟩:=s
 have Y:=PySem.W.makes_of (M:=model X.prog X.w) kin hm
 refine PySem.W.make_core Y (PySem.W.looks_findIn kin hi) (fun self=>PySem.W.Looks.of_pure (PySem.W.oi_bind self)) (.inr ⟨rfl,rfl⟩) ?_
 have e1:((hh.push emptyDict).push (instObj C hh.objs.size)).get? (hh.objs.size+1)=some (instObj C hh.objs.size):=by
  have:=Heap.get?_push_size (h:=hh.push emptyDict) (o:=instObj C hh.objs.size) rfl
  rwa [Heap.size_push] at this
 have t1:PySem.W.Looks (model X.prog X.w) ((hh.push emptyDict).push (instObj C hh.objs.size)) (typeOf (.ref (hh.objs.size+1))) (.ref C):=(PySem.W.Looks.ld e1).andThen .now
 have t2:PySem.W.Looks (model X.prog X.w) ((hh.push emptyDict).push (instObj C hh.objs.size)) (isInstance (.ref (hh.objs.size+1)) (.type "object")) true:=t1.andThen (Y.top.keeps fun b o e=>Heap.get?_push_of_some _ (Heap.get?_push_of_some _ e))
 refine codeAny_call_builtin PySem.W.oi_plain PySem.W.entry_oi (@PySem.W.check_slot (model X.prog X.w) _ _ _ "object.__init__" "object" "__init__" (.ref (hh.objs.size+1)) [] [] _ PySem.W.oi_kind PySem.W.oi_split t2 (PySem.W.oi_args (.ref (hh.objs.size+1))) ?_)
 show wpAny _ _ (Builtin.«object.__init__» ⟨[.ref (hh.objs.size+1)],[]⟩) _ _ _
 rw [PySem.W.oi_run]
 exact wpAny_pure (And.intro rfl ⟨.ref _,_,I2,rfl,q⟩)
end
end L2
namespace L2
open PySem PySem.Spec PyProof.Rows
section
variable {X:Cx}
theorem yba:yjW X (.builtin "isinstance") (yLn X.K):=by
 intro pins s σ H xs us Q I r h
 obtain ⟨x,c,b,rfl,⟨t,u',ty,hc,hk⟩,q⟩:=h
 obtain ⟨u,w',rfl,ru,rc⟩:=vals2 r
 have e:w'=u':=by
  cases c<;>first|(cases hc;exact rc)|cases hc
 subst e
 exact yxL I ru ty hk fun tk=>⟨.bl b,H,I.tok tk,rfl,q⟩
end
end L2
namespace L2
open PySem PySem.Spec PyProof.Rows
theorem ykN:bootBuiltins "len" = some (.builtin "len"):=by rfl'
theorem yxY:bootBuiltins "sum" = some (.builtin "sum"):=by rfl'
theorem yE:bootBuiltins "isinstance" = some (.builtin "isinstance"):=by rfl'
theorem ysa:bootBuiltins "int" = some (.type "int"):=by rfl'
theorem yCI:bootBuiltins "str" = some (.type "str"):=by rfl'
theorem yEy:bootBuiltins "bool" = some (.type "bool"):=by rfl'
theorem ydV:bootBuiltins "list" = some (.type "list"):=by rfl'
theorem yvy:bootBuiltins "tuple" = some (.type "tuple"):=by rfl'
theorem yxZ:bootBuiltins "dict" = some (.type "dict"):=by rfl'
section
variable {X:Cx}
theorem yEz {x:Str}{n:Int}{t:Tok}{pos:Pos}(hg:Gl X x) (hm:X.mg x=some (.int n t)) (hd:(x == ("__debug__":Str))=false:=by decide):PE X (.Name x pos) (tC (.int n)):=ytQ hg hm ⟨t,rfl⟩ hd
theorem yEA {x:Str}{n:Str}{t:Tok}{pos:Pos}(hg:Gl X x) (hm:X.mg x=some (.str n t)) (hd:(x == ("__debug__":Str))=false:=by decide):PE X (.Name x pos) (tC (.str n)):=ytQ hg hm ⟨t,rfl⟩ hd
theorem ytY {x:Str}{a:Addr}{pos:Pos}(hg:Gl X x) (hm:X.mg x=some (.ref a)) (hd:(x == ("__debug__":Str))=false:=by decide):PE X (.Name x pos) (tC (.ref a)):=ytQ hg hm rfl hd
theorem yHc {x:Str}{n:String}{pos:Pos}(hg:Gl X x) (hm:X.mg x=none) (hv:bootBuiltins x=some (.type n)) (hn:x≠"__name__":=by decide) (hd:(x == ("__debug__":Str))=false:=by decide):PE X (.Name x pos) (tC (.ty n)):=yDZ hg hm hv rfl hn hd
end
end L2
namespace L2
open PySem PySem.Spec PyProof.Rows
theorem ytZ {K:PySem.W.Frag}{H:Hp}{i:Int}:IsI K H (.int i) (.ty "str") false:=⟨_,_,.int i,rfl,by with_unfolding_all rfl⟩
theorem ysb {K:PySem.W.Frag}{H:Hp}{i:Int}:IsI K H (.int i) (.ty "list") false:=⟨_,_,.int i,rfl,by with_unfolding_all rfl⟩
theorem yqm {K:PySem.W.Frag}{H:Hp}{i:Int}:IsI K H (.int i) (.ty "tuple") false:=⟨_,_,.int i,rfl,by with_unfolding_all rfl⟩
theorem ysc {K:PySem.W.Frag}{H:Hp}{i:Int}:IsI K H (.int i) (.ty "dict") false:=⟨_,_,.int i,rfl,by with_unfolding_all rfl⟩
theorem ywz {K:PySem.W.Frag}{H:Hp}{i:Bool}:IsI K H (.bl i) (.ty "int") true:=⟨_,_,.bl i,rfl,by with_unfolding_all rfl⟩
theorem ywA {K:PySem.W.Frag}{H:Hp}{i:Bool}:IsI K H (.bl i) (.ty "str") false:=⟨_,_,.bl i,rfl,by with_unfolding_all rfl⟩
theorem yua {K:PySem.W.Frag}{H:Hp}{i:Bool}:IsI K H (.bl i) (.ty "list") false:=⟨_,_,.bl i,rfl,by with_unfolding_all rfl⟩
theorem ysd {K:PySem.W.Frag}{H:Hp}{i:Bool}:IsI K H (.bl i) (.ty "tuple") false:=⟨_,_,.bl i,rfl,by with_unfolding_all rfl⟩
theorem yub {K:PySem.W.Frag}{H:Hp}{i:Bool}:IsI K H (.bl i) (.ty "dict") false:=⟨_,_,.bl i,rfl,by with_unfolding_all rfl⟩
theorem yuc {K:PySem.W.Frag}{H:Hp}{i:Str}:IsI K H (.str i) (.ty "int") false:=⟨_,_,.str i,rfl,by with_unfolding_all rfl⟩
theorem yse {K:PySem.W.Frag}{H:Hp}{i:Str}:IsI K H (.str i) (.ty "bool") false:=⟨_,_,.str i,rfl,by with_unfolding_all rfl⟩
theorem ysf {K:PySem.W.Frag}{H:Hp}{i:Str}:IsI K H (.str i) (.ty "list") false:=⟨_,_,.str i,rfl,by with_unfolding_all rfl⟩
theorem yqn {K:PySem.W.Frag}{H:Hp}{i:Str}:IsI K H (.str i) (.ty "tuple") false:=⟨_,_,.str i,rfl,by with_unfolding_all rfl⟩
theorem ysg {K:PySem.W.Frag}{H:Hp}{i:Str}:IsI K H (.str i) (.ty "dict") false:=⟨_,_,.str i,rfl,by with_unfolding_all rfl⟩
theorem ysh {K:PySem.W.Frag}{H:Hp}:IsI K H (.non) (.ty "bool") false:=⟨_,_,.non,rfl,by with_unfolding_all rfl⟩
theorem yud {K:PySem.W.Frag}{H:Hp}:IsI K H (.non) (.ty "str") false:=⟨_,_,.non,rfl,by with_unfolding_all rfl⟩
theorem ysi {K:PySem.W.Frag}{H:Hp}:IsI K H (.non) (.ty "list") false:=⟨_,_,.non,rfl,by with_unfolding_all rfl⟩
theorem yqo {K:PySem.W.Frag}{H:Hp}:IsI K H (.non) (.ty "tuple") false:=⟨_,_,.non,rfl,by with_unfolding_all rfl⟩
theorem ysj {K:PySem.W.Frag}{H:Hp}:IsI K H (.non) (.ty "dict") false:=⟨_,_,.non,rfl,by with_unfolding_all rfl⟩
theorem yue {K:PySem.W.Frag}{H:Hp}{a:Addr}{xs:List V}(e:H a=some (.lst xs)):IsI K H (.ref a) (.ty "int") false:=⟨_,_,.lst e,rfl,by with_unfolding_all rfl⟩
theorem ysk {K:PySem.W.Frag}{H:Hp}{a:Addr}{xs:List V}(e:H a=some (.lst xs)):IsI K H (.ref a) (.ty "bool") false:=⟨_,_,.lst e,rfl,by with_unfolding_all rfl⟩
theorem yuf {K:PySem.W.Frag}{H:Hp}{a:Addr}{xs:List V}(e:H a=some (.lst xs)):IsI K H (.ref a) (.ty "str") false:=⟨_,_,.lst e,rfl,by with_unfolding_all rfl⟩
theorem yqp {K:PySem.W.Frag}{H:Hp}{a:Addr}{xs:List V}(e:H a=some (.lst xs)):IsI K H (.ref a) (.ty "tuple") false:=⟨_,_,.lst e,rfl,by with_unfolding_all rfl⟩
theorem ysl {K:PySem.W.Frag}{H:Hp}{a:Addr}{xs:List V}(e:H a=some (.lst xs)):IsI K H (.ref a) (.ty "dict") false:=⟨_,_,.lst e,rfl,by with_unfolding_all rfl⟩
theorem yqq {K:PySem.W.Frag}{H:Hp}{a:Addr}(e:(∃ xs,H a=some (.tup xs))\/∃ o,K.lookup a=some o/\o.cls=.type "tuple"):IsI K H (.ref a) (.ty "tuple") true:=e.elim (fun ⟨_,e⟩=>⟨_,_,.tup e,rfl,by with_unfolding_all rfl⟩) fun ⟨_,e,c⟩=>⟨_,_,.kt e c,rfl,by with_unfolding_all rfl⟩
theorem yug {K:PySem.W.Frag}{H:Hp}{a:Addr}(e:(∃ xs,H a=some (.tup xs))\/∃ o,K.lookup a=some o/\o.cls=.type "tuple"):IsI K H (.ref a) (.ty "int") false:=e.elim (fun ⟨_,e⟩=>⟨_,_,.tup e,rfl,by with_unfolding_all rfl⟩) fun ⟨_,e,c⟩=>⟨_,_,.kt e c,rfl,by with_unfolding_all rfl⟩
theorem ysm {K:PySem.W.Frag}{H:Hp}{a:Addr}(e:(∃ xs,H a=some (.tup xs))\/∃ o,K.lookup a=some o/\o.cls=.type "tuple"):IsI K H (.ref a) (.ty "bool") false:=e.elim (fun ⟨_,e⟩=>⟨_,_,.tup e,rfl,by with_unfolding_all rfl⟩) fun ⟨_,e,c⟩=>⟨_,_,.kt e c,rfl,by with_unfolding_all rfl⟩
theorem yuh {K:PySem.W.Frag}{H:Hp}{a:Addr}(e:(∃ xs,H a=some (.tup xs))\/∃ o,K.lookup a=some o/\o.cls=.type "tuple"):IsI K H (.ref a) (.ty "str") false:=e.elim (fun ⟨_,e⟩=>⟨_,_,.tup e,rfl,by with_unfolding_all rfl⟩) fun ⟨_,e,c⟩=>⟨_,_,.kt e c,rfl,by with_unfolding_all rfl⟩
theorem ysn {K:PySem.W.Frag}{H:Hp}{a:Addr}(e:(∃ xs,H a=some (.tup xs))\/∃ o,K.lookup a=some o/\o.cls=.type "tuple"):IsI K H (.ref a) (.ty "list") false:=e.elim (fun ⟨_,e⟩=>⟨_,_,.tup e,rfl,by with_unfolding_all rfl⟩) fun ⟨_,e,c⟩=>⟨_,_,.kt e c,rfl,by with_unfolding_all rfl⟩
theorem yso {K:PySem.W.Frag}{H:Hp}{a:Addr}(e:(∃ xs,H a=some (.tup xs))\/∃ o,K.lookup a=some o/\o.cls=.type "tuple"):IsI K H (.ref a) (.ty "dict") false:=e.elim (fun ⟨_,e⟩=>⟨_,_,.tup e,rfl,by with_unfolding_all rfl⟩) fun ⟨_,e,c⟩=>⟨_,_,.kt e c,rfl,by with_unfolding_all rfl⟩
end L2
namespace L2
open PySem PySem.Spec PyProof.Rows
theorem yhj {K:PySem.W.Frag}{C:Addr}:PySem.W.kitOne K (.ref C) (.ref C)=some true:=by
 unfold PySem.W.kitOne
 have:((Value.ref C) == (Value.ref C))=true:=by simp
 rw [if_pos this]
theorem yAM {K:PySem.W.Frag}{C C':Addr}{b:Bool}(hm:mroIn K C' (.type "object")=some true) (ht:typeIn K (.ref C')=some (.type "type")) (hs:subIn K (.ref C) (.ref C')=some b):PySem.W.kitCls K (.ref C) (.ref C')=some b:=by
 unfold PySem.W.kitCls
 have h1:(PySem.W.clsIn K C').isSome=true:=by
  unfold mroIn at hm
  cases e:PySem.W.clsIn K C' with
  | none=>rw [e] at hm;cases hm
  | some c=>rfl
 have h2:(typeIn K (.ref C') == some (.type "type"))=true:=by rw [ht];simp
 show (if _ then _ else _)=_
 rw [if_pos (by rw [h1,h2];rfl)]
 exact hs
theorem yo {K:PySem.W.Frag}{C C':Addr}(hn:(C == C')=false) (hm:mroIn K C' (.type "object")=some true) (ht:typeIn K (.ref C')=some (.type "type")) (hs:subIn K (.ref C) (.ref C')=some false):PySem.W.kitOne K (.ref C) (.ref C')=some false:=by
 unfold PySem.W.kitOne
 have:¬ ((Value.ref C) == (Value.ref C'))=true:=by
  intro z
  have z:=eq_of_beq z
  cases z
  simp at hn
 rw [if_neg this]
 exact yAM hm ht hs
theorem all_cons {α:Type}{p:α->Prop}{a:α}{l:List α}(h:p a) (t:∀ x∈l,p x):∀ x∈a::l,p x:=fun x hx=>by
 rcases List.mem_cons.mp hx with e|e
 .rw [e];exact h
 .exact t x e
end L2
namespace PX
open PySem L2
structure Ck where
 K:PySem.W.Frag
 A:Nat->Addr
inductive PV where
 | non|bl (b:Bool)|int (i:Int)|str (s:Str)|ty (n:String)|cls (k:Nat)
 | scr (ns:List Int)
 | lst (xs:List PV)|tup (xs:List PV)
 | ins (k:Nat) (ns:List Str) (xs:List PV)
 | loc (n:Nat)
inductive Nd where
 | lst (xs:List PV)|dct (ks:List Key) (xs:List PV)|fz (ks:List Key) (xs:List PV)|ins (k:Nat) (ns:List Str) (xs:List PV)|dead
abbrev AH:=List Nd
inductive PVar where|no|val (x:PV)|own (d:Nd)
abbrev PSt:=List PVar
inductive Out where|nx (ρ:PSt)|rt (x:PV)|bk (ρ:PSt)|ct (ρ:PSt)
abbrev XE:=PSt->AH->Option (PV×AH)
abbrev XT:=PSt->AH->Option (Bool×AH)
abbrev XA:=PSt->AH->Option (List PV×AH)
abbrev XO:=PSt->AH->Option (Nd×AH)
abbrev XS:=PSt->AH->Option (Out×AH)
abbrev Fn:=List PV->AH->Option (PV×AH)
noncomputable def KTp (K:PySem.W.Frag) (a:Addr) (xs:List V):Prop:=∃ (o:Obj) (its:Array Value) (n:Nat),K.lookup a=some o/\o.cls=.type "tuple"/\o.data=.seq its n/\its.size<=sizeLine/\Vals xs its.toList
def TpAt (K:PySem.W.Frag) (F:Hp) (a:Addr) (xs:List V):Prop:=F a=some (.tup xs)\/KTp K a xs
theorem TpAt.mono {K:PySem.W.Frag}{F F':Hp}{a:Addr}{xs:List V}(s:Same F F') (h:TpAt K F a xs):TpAt K F' a xs:=h.elim (fun h=>.inl (s _ _ h)) .inr
mutual
noncomputable def Rep (K:Ck) (F:Hp) (m:List Addr):PV->V->Prop
 | .non,v=>v=.non
 | .bl b,v=>v=.bl b
 | .int i,v=>v=.int i
 | .str s,v=>v=.str s
 | .ty n,v=>v=.ty n
 | .cls k,v=>v=.ref (K.A k)
 | .scr ns,v=>∃ a,v=.ref a/\SqL K.K F a (ns.map V.int)
 | .lst xs,v=>∃ a vs,v=.ref a/\F a=some (.lst vs)/\RepL K F m xs vs
 | .tup xs,v=>∃ a vs,v=.ref a/\TpAt K.K F a vs/\RepL K F m xs vs
 | .ins k ns xs,v=>∃ a dx vs,v=.ref a/\F a=some (.ins (K.A k) dx (ns.zip vs))/\vs.length=ns.length/\RepL K F m xs vs
 | .loc n,v=>∃ a,v=.ref a/\m[n]?=some a
noncomputable def RepL (K:Ck) (F:Hp) (m:List Addr):List PV->List V->Prop
 | [],vs=>vs=[]
 | x::xs,vs=>∃ v r,vs=v::r/\Rep K F m x v/\RepL K F m xs r
end
section
variable {K:Ck}{F F' H H':Hp}{m m':List Addr}
theorem ylJ {n:Nat}{a:Addr}(p:m <+: m') (h:m[n]?=some a):m'[n]?=some a:=by
 obtain ⟨r,rfl⟩:=p
 rw [List.getElem?_append_left (List.getElem?_eq_some_iff.mp h).1];exact h
mutual
theorem Rep.mono (s:Same F F') (p:m <+: m'):∀ (x:PV) (v:V),Rep K F m x v->Rep K F' m' x v
 | .non,_,h=>h
 | .bl _,_,h=>h
 | .int _,_,h=>h
 | .str _,_,h=>h
 | .ty _,_,h=>h
 | .cls _,_,h=>h
 | .scr _,_,⟨a,e,h⟩=>⟨a,e,s.seq h⟩
 | .lst xs,_,⟨a,vs,e,h,r⟩=>⟨a,vs,e,s _ _ h,RepL.mono s p xs vs r⟩
 | .tup xs,_,⟨a,vs,e,h,r⟩=>⟨a,vs,e,h.mono s,RepL.mono s p xs vs r⟩
 | .ins _ _ xs,_,⟨a,dx,vs,e,h,l,r⟩=>⟨a,dx,vs,e,s _ _ h,l,RepL.mono s p xs vs r⟩
 | .loc _,_,⟨a,e,h⟩=>⟨a,e,ylJ p h⟩
theorem RepL.mono (s:Same F F') (p:m <+: m'):∀ (xs:List PV) (vs:List V),RepL K F m xs vs->RepL K F' m' xs vs
 | [],_,h=>h
 | x::xs,_,⟨v,r,e,h,l⟩=>⟨v,r,e,Rep.mono s p x v h,RepL.mono s p xs r l⟩
end
theorem RepL.len:∀ {xs:List PV}{vs:List V},RepL K F m xs vs->vs.length=xs.length
 | [],_,h=>by rw [show _=[] from h];rfl
 | x::xs,_,⟨v,r,e,h,l⟩=>by rw [e,List.length_cons,List.length_cons,RepL.len l]
theorem RepL.get:∀ {xs:List PV}{vs:List V}{i:Nat}{x:PV},RepL K F m xs vs->xs[i]?=some x->∃ v,vs[i]?=some v/\Rep K F m x v
 | x::xs,_,0,y,⟨v,r,e,h,l⟩,q=>by
  simp at q;subst q;subst e;exact ⟨v,rfl,h⟩
 | x::xs,_,i+1,y,⟨v,r,e,h,l⟩,q=>by
  subst e
  obtain ⟨w,h1,h2⟩:=RepL.get (i:=i) l (by simpa using q)
  exact ⟨w,by simpa using h1,h2⟩
theorem RepL.get' {xs:List PV}{vs:List V}{i:Nat}{v:V}(h:RepL K F m xs vs) (e:vs[i]?=some v):∃ x,xs[i]?=some x/\Rep K F m x v:=by
 have hl:=h.len
 have hi:i<vs.length:=(List.getElem?_eq_some_iff.mp e).1
 have hx:xs[i]?=some xs[i]:=List.getElem?_eq_getElem (by omega)
 obtain ⟨w,h1,h2⟩:=h.get hx
 rw [e] at h1;cases h1
 exact ⟨_,hx,h2⟩
theorem RepL.app:∀ {xs ys:List PV}{vs us:List V},RepL K F m xs vs->RepL K F m ys us->RepL K F m (xs++ys) (vs++us)
 | [],_,_,_,h,k=>by rw [show _=[] from h];exact k
 | x::xs,ys,_,us,⟨v,r,e,h,l⟩,k=>by subst e;exact ⟨v,r++us,rfl,h,RepL.app l k⟩
theorem RepL.snoc {xs:List PV}{vs:List V}{x:PV}{v:V}(h:RepL K F m xs vs) (k:Rep K F m x v):RepL K F m (xs++[x]) (vs++[v]):=h.app ⟨v,[],rfl,k,rfl⟩
theorem RepL.drop:∀ {xs:List PV}{vs:List V}(n:Nat),RepL K F m xs vs->RepL K F m (xs.drop n) (vs.drop n)
 | _,_,0,h=>by simpa using h
 | [],_,n+1,h=>by rw [show _=[] from h];rfl
 | x::xs,_,n+1,⟨v,r,e,h,l⟩=>by subst e;simpa using RepL.drop n l
theorem RepL.take:∀ {xs:List PV}{vs:List V}(n:Nat),RepL K F m xs vs->RepL K F m (xs.take n) (vs.take n)
 | _,_,0,h=>by simp;rfl
 | [],_,n+1,h=>by rw [show _=[] from h];rfl
 | x::xs,_,n+1,⟨v,r,e,h,l⟩=>by subst e;exact ⟨v,r.take n,rfl,h,RepL.take n l⟩
theorem RepL.set:∀ {xs:List PV}{vs:List V}{x:PV}{v:V}(i:Nat),RepL K F m xs vs->Rep K F m x v->RepL K F m (xs.set i x) (vs.set i v)
 | [],_,_,_,_,h,_=>by rw [show _=[] from h];rfl
 | y::xs,_,x,v,0,⟨w,r,e,h,l⟩,k=>by subst e;exact ⟨v,r,rfl,k,l⟩
 | y::xs,_,x,v,i+1,⟨w,r,e,h,l⟩,k=>by subst e;exact ⟨w,r.set i v,rfl,h,RepL.set i l k⟩
theorem RepL.of_ints:∀ (ns:List Int),RepL K F m (ns.map PV.int) (ns.map V.int)
 | []=>rfl
 | n::ns=>⟨_,_,rfl,rfl,RepL.of_ints ns⟩
end
noncomputable def NdAt (K:Ck) (F H:Hp) (m:List Addr):Nd->Addr->Prop
 | .dead,a=>∃ o,H a=some o
 | .lst xs,a=>F a=none/\∃ vs,H a=some (.lst vs)/\RepL K F m xs vs
 | .dct ks xs,a=>F a=none/\∃ vs,H a=some (.dK (ks.zip vs))/\vs.length=ks.length/\RepL K F m xs vs
 | .fz ks xs,a=>F a=none/\∃ o vs,H a=some (.frz o (.dK (ks.zip vs)))/\vs.length=ks.length/\RepL K F m xs vs
 | .ins k ns xs,a=>F a=none/\∃ dx vs,H a=some (.ins (K.A k) dx (ns.zip vs))/\vs.length=ns.length/\RepL K F m xs vs
structure Wd where
 F:Hp
 H:Hp
 m:List Addr
 h:AH
structure WOk (K:Ck) (W:Wd):Prop where
 le:Same W.F W.H
 len:W.m.length=W.h.length
 nd:W.m.Nodup
 at_:∀ (n:Nat) (d:Nd) (a:Addr),W.h[n]?=some d->W.m[n]?=some a->NdAt K W.F W.H W.m d a
structure Le (K:Ck) (W W':Wd):Prop where
 ok:WOk K W'
 fs:Same W.F W'.F
 pre:W.m <+: W'.m
 keep:∀ b o,W.H b=some o->b∉W.m->W'.H b=some o
 new:∀ b o,W.H b=some o->b∉W.m->W.F b=none->W'.F b=none
 mn:∀ b∈W'.m,b∉W.m->W.H b=none
 fz:∀ (n:Nat) (ks:List Key) (xs:List PV),W.h[n]?=some (.fz ks xs)->W'.h[n]?=some (.fz ks xs)/\∀ a,W.m[n]?=some a->W'.H a=W.H a
theorem Le.refl {K:Ck}{W:Wd}(h:WOk K W):Le K W W:=⟨h,Same.refl _,List.prefix_refl _,fun _ _ e _=>e,fun _ _ _ _ e=>e,fun _ h h'=>absurd h h',fun _ _ _ e=>⟨e,fun _ _=>rfl⟩⟩
theorem Le.trans {K:Ck}{W W1 W2:Wd}(a:Le K W W1) (b:Le K W1 W2):Le K W W2 where
 ok:=b.ok
 fs:=a.fs.trans b.fs
 pre:=a.pre.trans b.pre
 keep:=fun c o e n=>b.keep c o (a.keep c o e n) fun z=>by rw [a.mn c z n] at e;cases e
 new:=fun c o e n f=>b.new c o (a.keep c o e n) (fun z=>by rw [a.mn c z n] at e;cases e) (a.new c o e n f)
 mn:=fun c z n=>by
  by_cases hc:c∈W1.m
  .exact a.mn c hc n
  .have:=b.mn c z hc
   cases e:W.H c with
   | none=>rfl
   | some o=>rw [a.keep c o e n] at this;cases this
 fz:=fun n ks xs e=>by
  obtain ⟨e1,q1⟩:=a.fz n ks xs e
  obtain ⟨e2,q2⟩:=b.fz n ks xs e1
  exact ⟨e2,fun c em=>(q2 c (ylJ a.pre em)).trans (q1 c em)⟩
abbrev yeI (K:Ck) (W:Wd) (x:PV) (v:V):Prop:=Rep K W.F W.m x v
abbrev yfb (K:Ck) (W:Wd) (x:List PV) (v:List V):Prop:=RepL K W.F W.m x v
theorem Le.rep {K:Ck}{W W':Wd}(l:Le K W W') {x:PV}{v:V}(h:yeI K W x v):yeI K W' x v:=Rep.mono l.fs l.pre x v h
theorem Le.repL {K:Ck}{W W':Wd}(l:Le K W W') {x:List PV}{v:List V}(h:yfb K W x v):yfb K W' x v:=RepL.mono l.fs l.pre x v h
theorem NdAt.mono {K:Ck}{F F' H H':Hp}{m m':List Addr}(s:Same F F') (p:m <+: m') {d:Nd}{a:Addr}(hH:∀ o,H a=some o->H' a=some o) (hF:F a=none->F' a=none) (h:NdAt K F H m d a):NdAt K F' H' m' d a:=by
 cases d with
 | dead=>obtain ⟨o,e⟩:=h;exact ⟨o,hH _ e⟩
 | lst xs=>obtain ⟨f,vs,e,r⟩:=h;exact ⟨hF f,vs,hH _ e,RepL.mono s p _ _ r⟩
 | dct ks xs=>obtain ⟨f,vs,e,l,r⟩:=h;exact ⟨hF f,vs,hH _ e,l,RepL.mono s p _ _ r⟩
 | fz ks xs=>obtain ⟨f,o,vs,e,l,r⟩:=h;exact ⟨hF f,o,vs,hH _ e,l,RepL.mono s p _ _ r⟩
 | ins C ns xs=>obtain ⟨f,dx,vs,e,l,r⟩:=h;exact ⟨hF f,dx,vs,hH _ e,l,RepL.mono s p _ _ r⟩
theorem NdAt.some {K:Ck}{F H:Hp}{m:List Addr}{d:Nd}{a:Addr}(h:NdAt K F H m d a):∃ o,H a=some o:=by
 cases d with
 | dead=>exact h
 | lst xs=>obtain ⟨f,vs,e,r⟩:=h;exact ⟨_,e⟩
 | dct ks xs=>obtain ⟨f,vs,e,r⟩:=h;exact ⟨_,e⟩
 | fz ks xs=>obtain ⟨f,o,vs,e,r⟩:=h;exact ⟨_,e⟩
 | ins C ns xs=>obtain ⟨f,dx,vs,e,r⟩:=h;exact ⟨_,e⟩
structure Good (K:Ck) (W0 W:Wd) (ρ:PSt) (σ:St):Prop where
 le:Le K W0 W
 len:σ.length=ρ.length
 val:∀ (i:Nat) (x:PV),ρ[i]?=some (.val x)->∃ v,σ[i]?=some (some v)/\yeI K W x v
 own:∀ (i:Nat) (d:Nd),ρ[i]?=some (.own d)->∃ p,σ[i]?=some (some (.ref p))/\p∉W.m/\W0.H p=none/\d≠.dead/\NdAt K W.F W.H W.m d p
 ne:∀ (i j:Nat) (d d':Nd),i≠j->ρ[i]?=some (.own d)->ρ[j]?=some (.own d')->σ[i]?≠σ[j]?
theorem Good.ok {K:Ck}{W0 W:Wd}{ρ:PSt}{σ:St}(g:Good K W0 W ρ σ):WOk K W:=g.le.ok
theorem Good.step {K:Ck}{W0 W W':Wd}{ρ:PSt}{σ:St}(g:Good K W0 W ρ σ) (l:Le K W W'):Good K W0 W' ρ σ where
 le:=g.le.trans l
 len:=g.len
 val:=fun i x e=>let ⟨v,h1,h2⟩:=g.val i x e;⟨v,h1,l.rep h2⟩
 own:=fun i d e=>by
  obtain ⟨p,h1,h2,h3,h4,h5⟩:=g.own i d e
  obtain ⟨o,ho⟩:=h5.some
  have n':p∉W'.m:=fun z=>by rw [l.mn p z h2] at ho;cases ho
  refine ⟨p,h1,n',h3,h4,h5.mono l.fs l.pre (fun o e=>l.keep p o e h2) fun f=>l.new p o ho h2 f⟩
 ne:=g.ne
theorem WOk.some {K:Ck}{W:Wd}(w:WOk K W) {a:Addr}(h:a∈W.m):∃ o,W.H a=some o:=by
 obtain ⟨n,hn,e⟩:=List.getElem_of_mem h
 have hl:n<W.h.length:=by rw [<- w.len];exact hn
 exact (w.at_ n W.h[n] a (List.getElem?_eq_getElem hl) (by rw [List.getElem?_eq_getElem hn,e])).some
theorem Le.fresh {K:Ck}{W W':Wd}(l:Le K W W') {p:Addr}(h:W'.H p=none):W.H p=none:=by
 cases e:W.H p with
 | none=>rfl
 | some o =>
  by_cases hm:p∈W.m
  .obtain ⟨o,q⟩:=l.ok.some (l.pre.subset hm)
   rw [h] at q;cases q
  .rw [l.keep p o e hm] at h;cases h
theorem WOk.out {K:Ck}{W:Wd}(w:WOk K W) {p:Addr}(h:W.H p=none):p∉W.m:=fun z=>by
 obtain ⟨o,q⟩:=w.some z
 rw [h] at q;cases q
theorem WOk.ff {K:Ck}{W:Wd}(w:WOk K W) {p:Addr}(h:W.H p=none):W.F p=none:=Same.free w.le h
structure Lf (K:Ck) (W W':Wd):Prop where
 fs:Same W.F W'.F
 pre:W.m <+: W'.m
 fz:∀ (n:Nat) (ks:List Key) (xs:List PV),W.h[n]?=some (.fz ks xs)->W'.h[n]?=some (.fz ks xs)/\∀ a,W.m[n]?=some a->W'.H a=W.H a
theorem Le.lf {K:Ck}{W W':Wd}(l:Le K W W'):Lf K W W':=⟨l.fs,l.pre,l.fz⟩
theorem Lf.refl {K:Ck}{W:Wd}:Lf K W W:=⟨Same.refl _,List.prefix_refl _,fun _ _ _ e=>⟨e,fun _ _=>rfl⟩⟩
theorem Lf.trans {K:Ck}{W W1 W2:Wd}(a:Lf K W W1) (b:Lf K W1 W2):Lf K W W2:=⟨a.fs.trans b.fs,a.pre.trans b.pre,fun n ks xs e=>by
  obtain ⟨e1,q1⟩:=a.fz n ks xs e
  obtain ⟨e2,q2⟩:=b.fz n ks xs e1
  exact ⟨e2,fun c em=>(q2 c (ylJ a.pre em)).trans (q1 c em)⟩⟩
theorem Lf.rep {K:Ck}{W W':Wd}(l:Lf K W W') {x:PV}{v:V}(h:yeI K W x v):yeI K W' x v:=Rep.mono l.fs l.pre x v h
noncomputable def ydn (K:Ck) (t:TE) (e:XE):Prop:=∀ (W0 W:Wd) (ρ:PSt) (σ:St) (Q:VK) (x:PV) (h':AH),Good K W0 W ρ σ->e ρ W.h=some (x,h') ->
 (∀ v W',W'.h=h'->Le K W W'->yeI K W' x v->Q v W'.H)->t σ W.H Q
noncomputable def ytK (K:Ck) (t:TT) (e:XT):Prop:=∀ (W0 W:Wd) (ρ:PSt) (σ:St) (Q:Bool->Hp->Prop) (x:Bool) (h':AH),Good K W0 W ρ σ->e ρ W.h=some (x,h') ->
 (∀ W',W'.h=h'->Le K W W'->Q x W'.H)->t σ W.H Q
noncomputable def ytL (K:Ck) (t:TA) (e:XA):Prop:=∀ (W0 W:Wd) (ρ:PSt) (σ:St) (Q:List V->Hp->Prop) (x:List PV) (h':AH),Good K W0 W ρ σ->e ρ W.h=some (x,h') ->
 (∀ v W',W'.h=h'->Le K W W'->yfb K W' x v->Q v W'.H)->t σ W.H Q
noncomputable def yvz (K:Ck) (t:TE) (e:XO):Prop:=∀ (W0 W:Wd) (ρ:PSt) (σ:St) (Q:VK) (d:Nd) (h':AH),Good K W0 W ρ σ->e ρ W.h=some (d,h') ->
 (∀ p W',W'.h=h'->Le K W W'->p∉W'.m->W.H p=none->d≠.dead->NdAt K W'.F W'.H W'.m d p->Q (.ref p) W'.H)->t σ W.H Q
noncomputable def Ends.Ok (K:Ck) (W0 W:Wd) (D:Ends) (h':AH):Out->Prop
 | .nx ρ'=>∀ W' σ',W'.h=h'->Lf K W W'->Good K W0 W' ρ' σ'->D.nx σ' W'.H
 | .bk ρ'=>∀ W' σ',W'.h=h'->Lf K W W'->Good K W0 W' ρ' σ'->D.bk σ' W'.H
 | .ct ρ'=>∀ W' σ',W'.h=h'->Lf K W W'->Good K W0 W' ρ' σ'->D.ct σ' W'.H
 | .rt x=>∀ W' v,W'.h=h'->Le K W0 W'->yeI K W' x v->D.rt v W'.H
noncomputable def ylE (K:Ck) (t:TS) (s:XS):Prop:=∀ (W0 W:Wd) (ρ:PSt) (σ:St) (D:Ends) (o:Out) (h':AH),Good K W0 W ρ σ->s ρ W.h=some (o,h')->Ends.Ok K W0 W D h' o->t D σ W.H
noncomputable def ob {α β:Type}(o:Option (α×AH)) (f:α->AH->Option β):Option β:=o.bind fun q=>f q.1 q.2
theorem yn {α β:Type}{o:Option (α×AH)}{f:α->AH->Option β}{b:β}(h:ob o f=some b):∃ x h',o=some (x,h')/\f x h'=some b:=by
 obtain ⟨⟨x,h'⟩,e,k⟩:=Option.bind_eq_some_iff.mp h
 exact ⟨x,h',e,k⟩
theorem yJP {α β:Type}{x:α}{h:AH}{f:α->AH->Option β}:ob (some (x,h)) f=f x h:=rfl
end PX
namespace PX
open PySem L2
variable {K:Ck}
def yg (i:Nat):XE:=fun ρ h=>match ρ[i]? with|some (.val x)=>some (x,h)|_=>none
def xC (x:PV):XE:=fun _ h=>some (x,h)
abbrev P2:=PV->PV->AH->Option (PV×AH)
abbrev P2O:=PV->PV->AH->Option (Nd×AH)
def xOp (p:P2) (a b:XE):XE:=fun ρ h=>ob (a ρ h) fun x h1=>ob (b ρ h1) fun y h2=>p x y h2
def yCJ (p:P2O) (a b:XE):XO:=fun ρ h=>ob (a ρ h) fun x h1=>ob (b ρ h1) fun y h2=>p x y h2
def xUn (p:PV->AH->Option (PV×AH)) (a:XE):XE:=fun ρ h=>ob (a ρ h) fun x h1=>p x h1
def oB (x:PV) (h:AH):Option (Bool×AH):=match x with|.bl b=>some (b,h)|_=>none
def yJ (a:XE):XT:=fun ρ h=>ob (a ρ h) oB
def ywB (a b:XE):XE:=fun ρ h=>ob (a ρ h) fun x h1=>ob (oB x h1) fun k h1=>if k=true then b ρ h1 else some (.bl false,h1)
def yAN (a:XE):XE:=fun ρ h=>ob (a ρ h) fun x h1=>ob (oB x h1) fun k h1=>some (.bl (!k),h1)
def yIX (a b:XT):XT:=fun ρ h=>ob (a ρ h) fun k h1=>if k=true then b ρ h1 else some (false,h1)
def xOr (a b:XT):XT:=fun ρ h=>ob (a ρ h) fun k h1=>if k=true then some (true,h1) else b ρ h1
def yEB (a:XT):XT:=fun ρ h=>ob (a ρ h) fun k h1=>some (!k,h1)
def xIf (c:XT) (a b:XE):XE:=fun ρ h=>ob (c ρ h) fun k h1=>if k=true then a ρ h1 else b ρ h1
def yr:XA:=fun _ h=>some ([],h)
def yc (a:XE) (r:XA):XA:=fun ρ h=>ob (a ρ h) fun x h1=>ob (r ρ h1) fun xs h2=>some (x::xs,h2)
def yiQ (a:XA):XE:=fun ρ h=>ob (a ρ h) fun xs h1=>if xs.length<=1000 then some (.tup xs,h1) else none
def ylF (a:XA):XO:=fun ρ h=>ob (a ρ h) fun xs h1=>if xs.length<=1000 then some (.lst xs,h1) else none
noncomputable def xFz (e:XO):XE:=fun ρ h=>ob (e ρ h) fun d h1=>match d with|.lst xs=>some (.lst xs,h1)|.ins k ns xs=>some (.ins k ns xs,h1)|_=>none
def ylK (e:XO):XE:=fun ρ h=>ob (e ρ h) fun d h1=>some (.loc h1.length,h1++[d])
def ycJ (f:Fn) (a:XA):XE:=fun ρ h=>ob (a ρ h) f
def xCB (p:List PV->AH->Option (PV×AH)) (a:XA):XE:=fun ρ h=>ob (a ρ h) p
def ynM (p:List PV->AH->Option (Nd×AH)) (a:XA):XO:=fun ρ h=>ob (a ρ h) p
abbrev PM:=PV->List PV->AH->Option (PV×AH)
noncomputable def xBM (c:PV->AH->Bool) (p:PM) (o:XE) (a:XA):XE:=fun ρ h=>ob (o ρ h) fun x h1=>if c x h1=true then ob (a ρ h1) fun xs h2=>p x xs h2 else none
noncomputable def yjX (e:XE):PSt->AH->Option (Option Int×AH):=fun ρ h=>ob (e ρ h) fun x h1=>match x with|.int i=>some (some i,h1)|_=>none
def yjY:PSt->AH->Option (Option Int×AH):=fun _ h=>some (none,h)
noncomputable def xSl (p:PV->Option Int->Option Int->AH->Option (PV×AH)) (e:XE) (lo hi:PSt->AH->Option (Option Int×AH)):XE:=fun ρ h=>ob (e ρ h) fun x h1=>ob (lo ρ h1) fun l h2=>ob (hi ρ h2) fun u h3=>p x l u h3
noncomputable def yAO (p:PV->Option Int->Option Int->AH->Option (Nd×AH)) (e:XE) (lo hi:PSt->AH->Option (Option Int×AH)):XO:=fun ρ h=>ob (e ρ h) fun x h1=>ob (lo ρ h1) fun l h2=>ob (hi ρ h2) fun u h3=>p x l u h3
noncomputable def yge (K:Ck) (r:R2) (p:P2):Prop:=∀ (W:Wd) (x y:PV) (v u:V) (Q:VK) (z:PV) (h':AH),WOk K W->yeI K W x v->yeI K W y u->p x y W.h=some (z,h')->(∀ w W',W'.h=h'->Le K W W'->yeI K W' z w->Q w W'.H)->r v u W.H Q
noncomputable def ywC (K:Ck) (W:Wd) (d:Nd) (h':AH) (Q:VK):Prop:=∀ p W',W'.h=h'->Le K W W'->p∉W'.m->W.H p=none->d≠.dead->NdAt K W'.F W'.H W'.m d p->Q (.ref p) W'.H
noncomputable def yya (K:Ck) (r:R2) (p:P2O):Prop:=∀ (W:Wd) (x y:PV) (v u:V) (Q:VK) (d:Nd) (h':AH),WOk K W->yeI K W x v->yeI K W y u->p x y W.h=some (d,h')->ywC K W d h' Q->r v u W.H Q
noncomputable def yEC (K:Ck) (r:V->Hp->VK->Prop) (p:PV->AH->Option (PV×AH)):Prop:=∀ (W:Wd) (x:PV) (v:V) (Q:VK) (z:PV) (h':AH),WOk K W->yeI K W x v->p x W.h=some (z,h')->(∀ w W',W'.h=h'->Le K W W'->yeI K W' z w->Q w W'.H)->r v W.H Q
noncomputable def yqr (K:Ck) (r:List V->Hp->VK->Prop) (p:List PV->AH->Option (PV×AH)):Prop:=∀ (W:Wd) (xs:List PV) (vs:List V) (Q:VK) (z:PV) (h':AH),WOk K W->yfb K W xs vs->p xs W.h=some (z,h')->(∀ w W',W'.h=h'->Le K W W'->yeI K W' z w->Q w W'.H)->r vs W.H Q
noncomputable def ysp (K:Ck) (r:List V->Hp->VK->Prop) (p:List PV->AH->Option (Nd×AH)):Prop:=∀ (W:Wd) (xs:List PV) (vs:List V) (Q:VK) (d:Nd) (h':AH),WOk K W->yfb K W xs vs->p xs W.h=some (d,h')->ywC K W d h' Q->r vs W.H Q
noncomputable def ysq (K:Ck) (T:String) (c:PV->AH->Bool) (r:V->List V->Hp->VK->Prop) (p:PM):Prop :=
 (∀ (W:Wd) (x:PV) (v:V),WOk K W->yeI K W x v->c x W.h=true->tyV K.K T v W.H) /\
 ∀ (W:Wd) (x:PV) (v:V) (xs:List PV) (vs:List V) (Q:VK) (z:PV) (h':AH),WOk K W->yeI K W x v->yfb K W xs vs->p x xs W.h=some (z,h')->(∀ w W',W'.h=h'->Le K W W'->yeI K W' z w->Q w W'.H)->r v vs W.H Q
theorem yED (i:Nat):ydn K (yCv i) (yg i):=by
 intro W0 W ρ σ Q x h' g e q
 unfold yg at e
 split at e
 .rename_i y hy
  cases e
  obtain ⟨v,h1,h2⟩:=g.val i _ hy
  exact ⟨v,h1,q v W rfl (.refl g.ok) h2⟩
 .cases e
theorem ywD {v:V}{x:PV}(h:∀ W:Wd,yeI K W x v):ydn K (tC v) (xC x):=by
 intro W0 W ρ σ Q y h' g e q
 cases e
 exact q v W rfl (.refl g.ok) (h W)
theorem yyb {i:Int}:ydn K (tC (.int i)) (xC (.int i)):=ywD fun _=>rfl
theorem yyc {i:Str}:ydn K (tC (.str i)) (xC (.str i)):=ywD fun _=>rfl
theorem yHd {i:Bool}:ydn K (tC (.bl i)) (xC (.bl i)):=ywD fun _=>rfl
theorem yEE:ydn K (tC .non) (xC .non):=ywD fun _=>rfl
theorem yHe {n:String}:ydn K (tC (.ty n)) (xC (.ty n)):=ywD fun _=>rfl
theorem yEF {k:Nat}:ydn K (tC (.ref (K.A k))) (xC (.cls k)):=ywD fun _=>rfl
section
variable {ta tb tc:TE}{ea eb ec:XE}{t:TA}{e:XA}
theorem yvA {r:R2}{p:P2}(o:yge K r p) (a:ydn K ta ea) (b:ydn K tb eb):ydn K (tOp r ta tb) (xOp p ea eb):=by
 intro W0 W ρ σ Q z h' g e q
 obtain ⟨x,h1,e1,f1⟩:=yn e
 obtain ⟨y,h2,e2,f2⟩:=yn f1
 refine a W0 W ρ σ _ x h1 g e1 fun v W1 w1 l1 r1=>?_
 subst w1
 refine b W0 W1 ρ σ _ y h2 (g.step l1) e2 fun u W2 w2 l2 r2=>?_
 subst w2
 exact o W2 x y v u Q z h' l2.ok (l2.rep r1) r2 f2 fun w W3 w3 l3 r3=>q w W3 w3 (l1.trans (l2.trans l3)) r3
theorem ylL {W W1:Wd}{d:Nd}{h':AH}{Q:VK}(l:Le K W W1) (q:ywC K W d h' Q):ywC K W1 d h' Q:=fun p W' e l' n f=>q p W' e (l.trans l') n (l.fresh f)
theorem yEG {r:R2}{p:P2O}(o:yya K r p) (a:ydn K ta ea) (b:ydn K tb eb):yvz K (tOp r ta tb) (yCJ p ea eb):=by
 intro W0 W ρ σ Q z h' g e q
 obtain ⟨x,h1,e1,f1⟩:=yn e
 obtain ⟨y,h2,e2,f2⟩:=yn f1
 refine a W0 W ρ σ _ x h1 g e1 fun v W1 w1 l1 r1=>?_
 subst w1
 refine b W0 W1 ρ σ _ y h2 (g.step l1) e2 fun u W2 w2 l2 r2=>?_
 subst w2
 exact o W2 x y v u Q z h' l2.ok (l2.rep r1) r2 f2 (ylL (l1.trans l2) q)
theorem yHf {r} {p} (o:yEC K r p) (a:ydn K ta ea):ydn K (tUn r ta) (xUn p ea):=by
 intro W0 W ρ σ Q z h' g e q
 obtain ⟨x,h1,e1,f1⟩:=yn e
 refine a W0 W ρ σ _ x h1 g e1 fun v W1 w1 l1 r1=>?_
 subst w1
 exact o W1 x v Q z h' l1.ok r1 f1 fun w W3 w3 l3 r3=>q w W3 w3 (l1.trans l3) r3
theorem yui {x:PV}{h:AH}{k:Bool}{h':AH}(e:oB x h=some (k,h')):x=.bl k/\h'=h:=by
 unfold oB at e
 split at e
 .cases e;exact ⟨rfl,rfl⟩
 .cases e
theorem ynr (a:ydn K ta ea):ytK K (yGQ ta) (yJ ea):=by
 intro W0 W ρ σ Q k h' g e q
 obtain ⟨x,h1,e1,f1⟩:=yn e
 obtain ⟨rfl,rfl⟩:=yui f1
 exact a W0 W ρ σ _ _ _ g e1 fun v W1 w1 l1 r1=>⟨k,r1,q W1 w1 l1⟩
theorem yHg (a:ydn K ta ea):ytK K (tB ta) (yJ ea):=ynr a
theorem yAP (a:ydn K ta ea) (b:ydn K tb eb):ydn K (yGC ta tb) (ywB ea eb):=by
 intro W0 W ρ σ Q z h' g e q
 obtain ⟨x,h1,e1,f1⟩:=yn e
 obtain ⟨k,h1',e1',f2⟩:=yn f1
 obtain ⟨rfl,rfl⟩:=yui e1'
 refine a W0 W ρ σ _ _ _ g e1 fun v W1 w1 l1 r1=>⟨k,r1,?_⟩
 subst w1
 cases k with
 | false =>
  rw [if_neg (by decide)] at f2 ⊢
  cases f2
  exact q _ W1 rfl l1 rfl
 | true =>
  rw [if_pos rfl] at f2 ⊢
  exact b W0 W1 ρ σ _ z h' (g.step l1) f2 fun v W2 w2 l2 r2=>q v W2 w2 (l1.trans l2) r2
theorem yAQ (a:ydn K ta ea):ydn K (yGD ta) (yAN ea):=by
 intro W0 W ρ σ Q z h' g e q
 obtain ⟨x,h1,e1,f1⟩:=yn e
 obtain ⟨k,h1',e1',f2⟩:=yn f1
 obtain ⟨rfl,rfl⟩:=yui e1'
 cases f2
 exact a W0 W ρ σ _ _ _ g e1 fun v W1 w1 l1 r1=>⟨k,r1,q _ W1 w1 l1 rfl⟩
section
variable {tA tB':TT}{eA eB:XT}
theorem yEH (a:ytK K tA eA) (b:ytK K tB' eB):ytK K (yKX tA tB') (yIX eA eB):=by
 intro W0 W ρ σ Q z h' g e q
 obtain ⟨k,h1,e1,f1⟩:=yn e
 refine a W0 W ρ σ _ _ _ g e1 fun W1 w1 l1=>?_
 subst w1
 cases k with
 | false =>
  rw [if_neg (by decide)] at f1 ⊢
  cases f1
  exact q W1 rfl l1
 | true =>
  rw [if_pos rfl] at f1 ⊢
  exact b W0 W1 ρ σ _ z h' (g.step l1) f1 fun W2 w2 l2=>q W2 w2 (l1.trans l2)
theorem yHh (a:ytK K tA eA) (b:ytK K tB' eB):ytK K (tOr tA tB') (xOr eA eB):=by
 intro W0 W ρ σ Q z h' g e q
 obtain ⟨k,h1,e1,f1⟩:=yn e
 refine a W0 W ρ σ _ _ _ g e1 fun W1 w1 l1=>?_
 subst w1
 cases k with
 | true =>
  rw [if_pos rfl] at f1 ⊢
  cases f1
  exact q W1 rfl l1
 | false =>
  rw [if_neg (by decide)] at f1 ⊢
  exact b W0 W1 ρ σ _ z h' (g.step l1) f1 fun W2 w2 l2=>q W2 w2 (l1.trans l2)
theorem yEI (a:ytK K tA eA):ytK K (yJk tA) (yEB eA):=by
 intro W0 W ρ σ Q z h' g e q
 obtain ⟨k,h1,e1,f1⟩:=yn e
 cases f1
 exact a W0 W ρ σ _ _ _ g e1 fun W1 w1 l1=>q W1 w1 l1
theorem yHi (c:ytK K tA eA) (a:ydn K ta ea) (b:ydn K tb eb):ydn K (tIf tA ta tb) (xIf eA ea eb):=by
 intro W0 W ρ σ Q z h' g e q
 obtain ⟨k,h1,e1,f1⟩:=yn e
 refine c W0 W ρ σ _ _ _ g e1 fun W1 w1 l1=>?_
 subst w1
 cases k with
 | true =>
  rw [if_pos rfl] at f1 ⊢
  exact a W0 W1 ρ σ _ z h' (g.step l1) f1 fun v W2 w2 l2 r2=>q v W2 w2 (l1.trans l2) r2
 | false =>
  rw [if_neg (by decide)] at f1 ⊢
  exact b W0 W1 ρ σ _ z h' (g.step l1) f1 fun v W2 w2 l2 r2=>q v W2 w2 (l1.trans l2) r2
end
theorem ynN:ytL K yEl yr:=by
 intro W0 W ρ σ Q z h' g e q
 cases e
 exact q [] W rfl (.refl g.ok) rfl
theorem yvB (a:ydn K ta ea) (r:ytL K t e):ytL K (yxM ta t) (yc ea e):=by
 intro W0 W ρ σ Q z h' g e q
 obtain ⟨x,h1,e1,f1⟩:=yn e
 obtain ⟨xs,h2,e2,f2⟩:=yn f1
 cases f2
 refine a W0 W ρ σ _ x h1 g e1 fun v W1 w1 l1 r1=>?_
 subst w1
 exact r W0 W1 ρ σ _ xs _ (g.step l1) e2 fun vs W2 w2 l2 r2=>q (v::vs) W2 w2 (l1.trans l2) ⟨v,vs,rfl,l2.rep r1,r2⟩
def yEJ (W:Wd) (p:Addr) (o:HO):Wd:=⟨upd W.F p o,upd W.H p o,W.m,W.h⟩
theorem yyd {W:Wd}{p:Addr}{o:HO}(w:WOk K W) (h:W.H p=none):Le K W (yEJ W p o):=by
 have hm:=w.out h
 have hf:=w.ff h
 have sF:Same W.F (upd W.F p o):=yhh hf o
 refine ⟨⟨?_,w.len,w.nd,fun n d a e1 e2=>?_⟩,sF,List.prefix_refl _,fun b u e _=>yhh h o b u e,fun b u e _ f=>?_,fun b z n=>absurd z n,fun n ks xs e1=>⟨e1,fun a e2=>ybc fun z=>hm (z ▸ List.mem_of_getElem? e2)⟩⟩
 .intro b u e
  show upd W.H p o b=some u
  by_cases hb:b=p
  .subst hb;rw [show (yEJ W b o).F b=upd W.F b o b from rfl,yQ] at e;rw [yQ];exact e
  .rw [show (yEJ W p o).F b=upd W.F p o b from rfl,ybc hb] at e;rw [ybc hb];exact w.le _ _ e
 .have ha:a≠p:=fun z=>hm (z ▸ List.mem_of_getElem? e2)
  exact (w.at_ n d a e1 e2).mono sF (List.prefix_refl _) (fun u e=>by rw [show (yEJ W p o).H a=upd W.H p o a from rfl,ybc ha];exact e) fun f=>(ybc ha).trans f
 .have:b≠p:=yck e h
  rw [show (yEJ W p o).F b=upd W.F p o b from rfl,ybc this];exact f
def ypc (W:Wd) (p:Addr) (o:HO):Wd:=⟨W.F,upd W.H p o,W.m,W.h⟩
theorem ygf {W:Wd}{p:Addr}{o:HO}(w:WOk K W) (h:W.H p=none):Le K W (ypc W p o):=by
 have hm:=w.out h
 refine ⟨⟨?_,w.len,w.nd,fun n d a e1 e2=>?_⟩,Same.refl _,List.prefix_refl _,fun b u e _=>yhh h o b u e,fun b u e _ f=>f,fun b z n=>absurd z n,fun n ks xs e1=>⟨e1,fun a e2=>ybc fun z=>hm (z ▸ List.mem_of_getElem? e2)⟩⟩
 .exact fun b u e=>yhh h o b u (w.le _ _ e)
 .exact (w.at_ n d a e1 e2).mono (Same.refl _) (List.prefix_refl _) (fun u e=>yhh h o _ _ e) id
theorem small {n:Nat}(h:n<=1000):n<=sizeLine:=Nat.le_of_lt (yrX h)
theorem yEK (a:ytL K t e):ydn K (yLh t) (yiQ e):=by
 intro W0 W ρ σ Q z h' g e q
 obtain ⟨xs,h1,e1,f1⟩:=yn e
 split at f1
 .rename_i hl
  cases f1
  refine a W0 W ρ σ _ xs _ g e1 fun vs W1 w1 l1 r1=>⟨small (by rw [r1.len];exact hl),fun p hp=>?_⟩
  have l2:=yyd (o:=.tup vs) l1.ok hp
  exact q (.ref p) (yEJ W1 p (.tup vs)) w1 (l1.trans l2) ⟨p,vs,rfl,.inl yQ,l2.repL r1⟩
 .cases f1
theorem yEL (a:ytL K t e):yvz K (yLi t) (ylF e):=by
 intro W0 W ρ σ Q z h' g e q
 obtain ⟨xs,h1,e1,f1⟩:=yn e
 split at f1
 .rename_i hl
  cases f1
  refine a W0 W ρ σ _ xs _ g e1 fun vs W1 w1 l1 r1=>⟨small (by rw [r1.len];exact hl),fun p hp=>?_⟩
  have l2:=ygf (o:=.lst vs) l1.ok hp
  exact q p (ypc W1 p (.lst vs)) w1 (l1.trans l2) (l1.ok.out hp) (l1.fresh hp) (fun z=>by cases z) ⟨l1.ok.ff hp,vs,yQ,r1⟩
 .cases f1
def yAR (W:Wd) (p:Addr) (o:HO):Wd:=⟨upd W.F p o,W.H,W.m,W.h⟩
theorem yye {W:Wd}{p:Addr}{o:HO}(w:WOk K W) (h:W.H p=some o) (hm:p∉W.m) (hf:W.F p=none):WOk K (yAR W p o)/\Same W.F (upd W.F p o):=by
 have sF:Same W.F (upd W.F p o):=yhh hf o
 refine ⟨⟨?_,w.len,w.nd,fun n d a e1 e2=>?_⟩,sF⟩
 .intro b u e
  by_cases hb:b=p
  .subst hb;rw [show (yAR W b o).F b=upd W.F b o b from rfl,yQ] at e;cases e;exact h
  .rw [show (yAR W p o).F b=upd W.F p o b from rfl,ybc hb] at e;exact w.le _ _ e
 .have ha:a≠p:=fun z=>hm (z ▸ List.mem_of_getElem? e2)
  exact (w.at_ n d a e1 e2).mono sF (List.prefix_refl _) (fun u e=>e) fun f=>(ybc ha).trans f
theorem yuj {W W1:Wd}{p:Addr}{o:HO}(l:Le K W W1) (h:W1.H p=some o) (hm:p∉W1.m) (hf:W1.F p=none) (hn:W.H p=none):Le K W (yAR W1 p o):=by
 obtain ⟨k,sF⟩:=yye l.ok h hm hf
 refine ⟨k,l.fs.trans sF,l.pre,l.keep,fun b u e n f=>?_,l.mn,l.fz⟩
 have:b≠p:=yck e hn
 rw [show (yAR W1 p o).F b=upd W1.F p o b from rfl,ybc this];exact l.new b u e n f
theorem yHj {o:XO}(a:yvz K ta o):ydn K ta (xFz o):=by
 intro W0 W ρ σ Q z h' g e q
 obtain ⟨d,h1,e1,f1⟩:=yn e
 refine a W0 W ρ σ _ d h1 g e1 fun p W1 w1 l1 hm hn hd at_=>?_
 split at f1
 .rename_i xs
  cases f1
  obtain ⟨hf,vs,hp,r⟩:=at_
  have l2:=yuj l1 hp hm hf hn
  exact q (.ref p) (yAR W1 p (.lst vs)) w1 l2 ⟨p,vs,rfl,yQ,RepL.mono (yhh hf _) (List.prefix_refl _) _ _ r⟩
 .rename_i k ns xs
  cases f1
  obtain ⟨hf,dx,vs,hp,hl,r⟩:=at_
  have l2:=yuj l1 hp hm hf hn
  exact q (.ref p) (yAR W1 p _) w1 l2 ⟨p,dx,vs,rfl,yQ,hl,RepL.mono (yhh hf _) (List.prefix_refl _) _ _ r⟩
 .cases f1
theorem yyf {o:XO}(a:yvz K ta o):ydn K ta (ylK o):=by
 intro W0 W ρ σ Q z h' g e q
 obtain ⟨d,h1,e1,f1⟩:=yn e
 cases f1
 refine a W0 W ρ σ _ d h1 g e1 fun p W1 w1 l1 hm hn hd at_=>?_
 subst w1
 have pre:W1.m <+: W1.m++[p]:=List.prefix_append _ _
 refine q (.ref p) ⟨W1.F,W1.H,W1.m++[p],W1.h++[d]⟩ rfl ⟨⟨l1.ok.le,?_,?_,fun n d' a e1 e2=>?_⟩,l1.fs,l1.pre.trans pre,l1.keep,l1.new,fun b z n=>?_,fun n ks xs e1=>⟨by
  have:=(l1.fz n ks xs e1).1
  show (W1.h++[d])[n]?=_
  rw [List.getElem?_append_left (List.getElem?_eq_some_iff.mp this).1];exact this,(l1.fz n ks xs e1).2⟩⟩ ⟨p,rfl,?_⟩
 .show (W1.m++[p]).length=(W1.h++[d]).length
  rw [List.length_append,List.length_append,l1.ok.len];rfl
 .show (W1.m++[p]).Nodup
  rw [List.nodup_append]
  refine ⟨l1.ok.nd,by simp,?_⟩
  intro a ha b hb
  simp at hb
  subst hb
  exact fun z=>hm (z ▸ ha)
 .have e1:(W1.h++[d])[n]?=some d':=e1
  have e2:(W1.m++[p])[n]?=some a:=e2
  by_cases hlt:n<W1.h.length
  .rw [List.getElem?_append_left hlt] at e1
   rw [List.getElem?_append_left (by rw [l1.ok.len];exact hlt)] at e2
   exact (l1.ok.at_ n d' a e1 e2).mono (Same.refl _) pre (fun _ f1=>f1) id
  .rw [List.getElem?_append_right (by omega)] at e1
   rw [List.getElem?_append_right (by rw [l1.ok.len];omega)] at e2
   rw [l1.ok.len] at e2
   cases hk:n-W1.h.length with
   | zero =>
    rw [hk] at e1 e2
    simp at e1 e2
    subst e1 e2
    exact at_.mono (Same.refl _) pre (fun _ f1=>f1) id
   | succ k=>rw [hk] at e1;simp at e1
 .have z:b∈W1.m++[p]:=z
  rcases List.mem_append.mp z with z|z
  .exact l1.mn b z n
  .simp at z;subst z;exact hn
 .show (W1.m++[p])[W1.h.length]?=some p
  rw [<- l1.ok.len];simp
noncomputable def spE (K:Ck) (n:Nat) (f:Fn):Sp:=fun vs H Q _=>∃ (W:Wd) (xs:List PV) (x:PV) (h':AH),W.H=H/\WOk K W/\yfb K W xs vs/\xs.length=n/\f xs W.h=some (x,h')/\∀ v W',W'.h=h'->Le K W W'->yeI K W' x v->Q v W'.H
theorem yAS {n:Nat}{f:Fn}{ex:XK}(a:ytL K t e) (hn:∀ ρ h xs h',e ρ h=some (xs,h')->xs.length=n):ydn K (yAE (spE K n f) [] ex t) (ycJ f e):=by
 intro W0 W ρ σ Q z h' g e' q
 obtain ⟨xs,h1,e1,e2⟩:=yn e'
 refine a W0 W ρ σ _ xs h1 g e1 fun vs W1 w1 l1 r1=>?_
 subst w1
 rw [List.append_nil]
 exact ⟨W1,xs,z,h',rfl,l1.ok,r1,hn _ _ _ _ e1,e2,fun v W2 w2 l2 r2=>q v W2 w2 (l1.trans l2) r2⟩
theorem yuk:∀ ρ h xs h',yr ρ h=some (xs,h')->xs.length=0:=fun ρ h xs h' e=>by cases e;rfl
theorem yAT {n:Nat}(l:∀ ρ h xs h',e ρ h=some (xs,h')->xs.length=n):∀ ρ h xs h',yc ea e ρ h=some (xs,h')->xs.length=n+1:=fun ρ h xs h' q=>by
 obtain ⟨x,h1,e1,q⟩:=yn q
 obtain ⟨ys,h2,e2,q⟩:=yn q
 cases q
 rw [List.length_cons,l _ _ _ _ e2]
theorem yCK {r} {p} (o:yqr K r p) (a:ytL K t e):ydn K (tCB r t) (xCB p e):=by
 intro W0 W ρ σ Q z h' g e' q
 obtain ⟨xs,h1,e1,e2⟩:=yn e'
 refine a W0 W ρ σ _ xs h1 g e1 fun vs W1 w1 l1 r1=>?_
 subst w1
 exact o W1 xs vs Q z h' l1.ok r1 e2 fun v W2 w2 l2 r2=>q v W2 w2 (l1.trans l2) r2
theorem yyg {r} {p} (o:ysp K r p) (a:ytL K t e):yvz K (tCB r t) (ynM p e):=by
 intro W0 W ρ σ Q z h' g e' q
 obtain ⟨xs,h1,e1,e2⟩:=yn e'
 refine a W0 W ρ σ _ xs h1 g e1 fun vs W1 w1 l1 r1=>?_
 subst w1
 exact o W1 xs vs Q z h' l1.ok r1 e2 (ylL l1 q)
theorem yCL {T:String}{c} {r} {p} (o:ysq K T c r p) (b:ydn K ta ea) (a:ytL K t e):ydn K (tBM K.K T r ta t) (xBM c p ea e):=by
 intro W0 W ρ σ Q z h' g e' q
 obtain ⟨x,h1,e1,f1⟩:=yn e'
 split at f1
 .rename_i hc
  obtain ⟨xs,h2,e2,f2⟩:=yn f1
  refine b W0 W ρ σ _ x h1 g e1 fun v W1 w1 l1 r1=>⟨o.1 W1 x v l1.ok r1 (by rw [w1];exact hc),?_⟩
  subst w1
  refine a W0 W1 ρ σ _ xs h2 (g.step l1) e2 fun vs W2 w2 l2 r2=>?_
  subst w2
  exact o.2 W2 x v xs vs Q z h' l2.ok (l2.rep r1) r2 f2 fun w W3 w3 l3 r3=>q w W3 w3 (l1.trans (l2.trans l3)) r3
 .cases f1
theorem yEM {T:String}{c} {r} {p} (o:ysq K T c r p) (b:ydn K ta ea):ydn K (yJz K.K T r ta) (xBM c p ea yr):=yCL (t:=yEl) o b ynN
end
noncomputable def yCM (K:Ck) (t:TO) (e:PSt->AH->Option (Option Int×AH)):Prop:=∀ (W0 W:Wd) (ρ:PSt) (σ:St) (Q:Option Int->Hp->Prop) (x:Option Int) (h':AH),Good K W0 W ρ σ->e ρ W.h=some (x,h') ->
 (∀ W',W'.h=h'->Le K W W'->Q x W'.H)->t σ W.H Q
theorem ywE:yCM K yxP yjY:=by
 intro W0 W ρ σ Q z h' g e q
 cases e
 exact q W rfl (.refl g.ok)
theorem yAU {ta:TE}{ea:XE}(a:ydn K ta ea):yCM K (yGV ta) (yjX ea):=by
 intro W0 W ρ σ Q z h' g e q
 obtain ⟨x,h1,e1,f1⟩:=yn e
 split at f1
 .rename_i i
  cases f1
  exact a W0 W ρ σ _ _ _ g e1 fun v W1 w1 l1 r1=>⟨i,r1,q W1 w1 l1⟩
 .cases f1
noncomputable def yAV (K:Ck) (r:V->Option Int->Option Int->Hp->VK->Prop) (p:PV->Option Int->Option Int->AH->Option (PV×AH)):Prop:=∀ (W:Wd) (x:PV) (v:V) (lo hi:Option Int) (Q:VK) (z:PV) (h':AH),WOk K W->yeI K W x v->p x lo hi W.h=some (z,h')->(∀ w W',W'.h=h'->Le K W W'->yeI K W' z w->Q w W'.H)->r v lo hi W.H Q
noncomputable def yyh (K:Ck) (r:V->Option Int->Option Int->Hp->VK->Prop) (p:PV->Option Int->Option Int->AH->Option (Nd×AH)):Prop:=∀ (W:Wd) (x:PV) (v:V) (lo hi:Option Int) (Q:VK) (d:Nd) (h':AH),WOk K W->yeI K W x v->p x lo hi W.h=some (d,h')->ywC K W d h' Q->r v lo hi W.H Q
theorem yHk {r} {p} {ta:TE}{ea:XE}{tl th:TO}{el eh} (o:yAV K r p) (a:ydn K ta ea) (b:yCM K tl el) (c:yCM K th eh):ydn K (tSl r ta tl th) (xSl p ea el eh):=by
 intro W0 W ρ σ Q z h' g e q
 obtain ⟨x,h1,e1,f1⟩:=yn e
 obtain ⟨l,h2,e2,f2⟩:=yn f1
 obtain ⟨u,h3,e3,f3⟩:=yn f2
 refine a W0 W ρ σ _ x h1 g e1 fun v W1 w1 l1 r1=>?_
 subst w1
 refine b W0 W1 ρ σ _ l h2 (g.step l1) e2 fun W2 w2 l2=>?_
 subst w2
 refine c W0 W2 ρ σ _ u h3 (g.step (l1.trans l2)) e3 fun W3 w3 l3=>?_
 subst w3
 exact o W3 x v l u Q z h' l3.ok ((l2.trans l3).rep r1) f3 fun w W4 w4 l4 r4=>q w W4 w4 (l1.trans (l2.trans (l3.trans l4))) r4
theorem yEN {r} {p} {ta:TE}{ea:XE}{tl th:TO}{el eh} (o:yyh K r p) (a:ydn K ta ea) (b:yCM K tl el) (c:yCM K th eh):yvz K (tSl r ta tl th) (yAO p ea el eh):=by
 intro W0 W ρ σ Q z h' g e q
 obtain ⟨x,h1,e1,f1⟩:=yn e
 obtain ⟨l,h2,e2,f2⟩:=yn f1
 obtain ⟨u,h3,e3,f3⟩:=yn f2
 refine a W0 W ρ σ _ x h1 g e1 fun v W1 w1 l1 r1=>?_
 subst w1
 refine b W0 W1 ρ σ _ l h2 (g.step l1) e2 fun W2 w2 l2=>?_
 subst w2
 refine c W0 W2 ρ σ _ u h3 (g.step (l1.trans l2)) e3 fun W3 w3 l3=>?_
 subst w3
 exact o W3 x v l u Q z h' l3.ok ((l2.trans l3).rep r1) f3 (ylL (l1.trans (l2.trans l3)) q)
end PX
namespace PX
open PySem L2
variable {K:Ck}
def ybH:XS:=fun ρ h=>some (.nx ρ,h)
noncomputable def yw (s u:XS):XS:=fun ρ h=>ob (s ρ h) fun o h1=>match o with|.nx ρ'=>u ρ' h1|.rt x=>some (.rt x,h1)|.bk ρ'=>some (.bk ρ',h1)|.ct ρ'=>some (.ct ρ',h1)
def yff (e:XE):XS:=fun ρ h=>ob (e ρ h) fun _ h1=>some (.nx ρ,h1)
def ycB (e:XE):XS:=fun ρ h=>ob (e ρ h) fun x h1=>some (.rt x,h1)
def ycL (c:XT) (s u:XS):XS:=fun ρ h=>ob (c ρ h) fun k h1=>if k=true then s ρ h1 else u ρ h1
abbrev XG:=PV->PSt->Option PSt
abbrev XGs:=List PV->PSt->Option PSt
def yz (i:Nat):XG:=fun x ρ=>some (ρ.set i (.val x))
def yGk:XGs:=fun xs ρ=>match xs with|[]=>some ρ|_=>none
def ymS (g:XG) (r:XGs):XGs:=fun xs ρ=>match xs with|[]=>none|x::xs=>(g x ρ).bind fun ρ'=>r xs ρ'
def yEO (n:Nat) (g:XGs):XG:=fun x ρ=>match x with|.tup xs=>if xs.length=n then g xs ρ else none|_=>none
def ydf (e:XE) (g:XG):XS:=fun ρ h=>ob (e ρ h) fun x h1=>(g x ρ).bind fun ρ'=>some (.nx ρ',h1)
def ysr (e:XO) (i:Nat):XS:=fun ρ h=>ob (e ρ h) fun d h1=>some (.nx (ρ.set i (.own d)),h1)
def yAW:PVar->PVar
 | .own (.lst xs)=>.val (.lst xs)
 | .own (.ins k ns xs)=>.val (.ins k ns xs)
 | v=>v
def yul (i:Nat) (ρ:PSt):PSt:=ρ.modify i yAW
def yCN (i:Nat) (s:XS):XS:=fun ρ h=>s (yul i ρ) h
noncomputable def yiR (i:Nat) (e:XE):XS:=fun ρ h=>match ρ[i]? with
 | some (.own (.lst xs))=>ob (e ρ h) fun x h1=>if xs.length<100000 then some (.nx (ρ.set i (.own (.lst (xs++[x])))),h1) else none
 | _=>none
noncomputable def ynO (g:XG) (s:XS):List PV->PSt->AH->Option (Out×AH)
 | [],ρ,h=>some (.nx ρ,h)
 | x::xs,ρ,h=>(g x ρ).bind fun ρ1=>ob (s ρ1 h) fun o h1=>match o with|.nx ρ'=>ynO g s xs ρ' h1|.ct ρ'=>ynO g s xs ρ' h1|.bk ρ'=>some (.nx ρ',h1)|.rt y=>some (.rt y,h1)
def yyi (it:XA) (g:XG) (s:XS):XS:=fun ρ h=>ob (it ρ h) fun xs h1=>ynO g s xs ρ h1
noncomputable def whl (c:XT) (s:XS):Nat->PSt->AH->Option (Out×AH)
 | 0,_,_=>none
 | n+1,ρ,h=>ob (c ρ h) fun k h1=>if k=true then ob (s ρ h1) fun o h2=>(match o with|.nx ρ'=>whl c s n ρ' h2|.ct ρ'=>whl c s n ρ' h2|.bk ρ'=>some (.nx ρ',h2)|.rt y=>some (.rt y,h2)) else some (.nx ρ,h1)
def yss (fuel:Nat) (c:XT) (s:XS):XS:=fun ρ h=>whl c s fuel ρ h
noncomputable def ygG (N:Nat) (s:XS):Fn:=fun xs h=>ob (s (xs.map .val++List.replicate (N-xs.length) .no) h) fun o h1=>match o with|.rt x=>some (x,h1)|.nx _=>some (.non,h1)|_=>none
def yAo (ρ:PSt) (i:Nat):PVar:=match ρ[i]? with|some (.val y)=>.val y|_=>.no
def yAX (ix:List Nat) (ρ:PSt) (x:PV):PSt:=.val x::ix.map (yAo ρ)
noncomputable def yAY (e:XE) (inn:PV->PSt):List PV->AH->Option (List PV×AH)
 | [],h=>some ([],h)
 | x::xs,h=>ob (e (inn x) h) fun y h1=>ob (yAY e inn xs h1) fun ys h2=>some (y::ys,h2)
noncomputable def ywF (it:XA) (ix:List Nat) (e:XE):XO:=fun ρ h=>ob (it ρ h) fun xs h1=>if xs.length<=100000 then ob (yAY e (yAX ix ρ) xs h1) fun ys h2=>some (.lst ys,h2) else none
theorem Ends.Ok.from_ {W0 W W1:Wd}{D:Ends}{h':AH}{o:Out}(l:Lf K W W1) (k:Ends.Ok K W0 W D h' o):Ends.Ok K W0 W1 D h' o:=by
 cases o with
 | nx ρ=>exact fun W' σ' e l' g=>k W' σ' e (l.trans l') g
 | bk ρ=>exact fun W' σ' e l' g=>k W' σ' e (l.trans l') g
 | ct ρ=>exact fun W' σ' e l' g=>k W' σ' e (l.trans l') g
 | rt x=>exact k
section
variable {ta tb:TE}{ea eb:XE}{t u:TS}{s s':XS}{tA:TT}{eA:XT}
theorem yAZ:ylE K yGH ybH:=by
 intro W0 W ρ σ D o h' g e q
 cases e
 exact q W σ rfl .refl g
theorem yEP (a:ylE K t s) (b:ylE K u s'):ylE K (yJm t u) (yw s s'):=by
 intro W0 W ρ σ D o h' g e q
 obtain ⟨o1,h1,e1,f1⟩:=yn e
 refine a W0 W ρ σ _ o1 h1 g e1 ?_
 cases o1 with
 | nx ρ'=>exact fun W' σ' w l g'=>b W0 W' ρ' σ' D o h' g' (by rw [w];exact f1) (q.from_ l)
 | rt x=>cases f1;exact q
 | bk ρ'=>cases f1;exact q
 | ct ρ'=>cases f1;exact q
theorem yBa (a:ydn K ta ea):ylE K (yAx ta) (yff ea):=by
 intro W0 W ρ σ D o h' g e q
 obtain ⟨x,h1,e1,f1⟩:=yn e
 cases f1
 exact a W0 W ρ σ _ x _ g e1 fun v W1 w1 l1 r1=>q W1 σ w1 l1.lf (g.step l1)
theorem yEQ (a:ydn K ta ea):ylE K (yKY ta) (ycB ea):=by
 intro W0 W ρ σ D o h' g e q
 obtain ⟨x,h1,e1,f1⟩:=yn e
 cases f1
 exact a W0 W ρ σ _ x _ g e1 fun v W1 w1 l1 r1=>q W1 v w1 (g.le.trans l1) r1
theorem yER (c:ytK K tA eA) (a:ylE K t s) (b:ylE K u s'):ylE K (yKZ tA t u) (ycL eA s s'):=by
 intro W0 W ρ σ D o h' g e q
 obtain ⟨k,h1,e1,f1⟩:=yn e
 refine c W0 W ρ σ _ k h1 g e1 fun W1 w1 l1=>?_
 subst w1
 cases k with
 | true =>
  rw [if_pos rfl] at f1 ⊢
  exact a W0 W1 ρ σ D o h' (g.step l1) f1 (q.from_ l1.lf)
 | false =>
  rw [if_neg (by decide)] at f1 ⊢
  exact b W0 W1 ρ σ D o h' (g.step l1) f1 (q.from_ l1.lf)
theorem Good.set {W0 W:Wd}{ρ:PSt}{σ:St}(g:Good K W0 W ρ σ) (i:Nat) {x:PV}{v:V}(r:yeI K W x v):Good K W0 W (ρ.set i (.val x)) (σ.set i (some v)) where
 le:=g.le
 len:=by simp [g.len]
 val:=fun j y e=>by
  by_cases hj:i=j
  .subst hj
   by_cases hl:i<ρ.length
   .rw [List.getElem?_set_self hl] at e
    cases e
    exact ⟨v,List.getElem?_set_self (by rw [g.len];exact hl),r⟩
   .rw [List.getElem?_eq_none (by simp;omega)] at e;cases e
  .rw [List.getElem?_set_ne hj] at e
   obtain ⟨w,h1,h2⟩:=g.val j y e
   exact ⟨w,by rw [List.getElem?_set_ne hj];exact h1,h2⟩
 own:=fun j d e=>by
  by_cases hj:i=j
  .subst hj
   by_cases hl:i<ρ.length
   .rw [List.getElem?_set_self hl] at e;cases e
   .rw [List.getElem?_eq_none (by simp;omega)] at e;cases e
  .rw [List.getElem?_set_ne hj] at e
   obtain ⟨p,h1,h2⟩:=g.own j d e
   exact ⟨p,by rw [List.getElem?_set_ne hj];exact h1,h2⟩
 ne:=fun j k d d' hjk e1 e2=>by
  have f:∀ {j:Nat}{d:Nd},(ρ.set i (.val x))[j]?=some (.own d)->i≠j/\ρ[j]?=some (.own d):=fun {j d} e=>by
   by_cases hj:i=j
   .subst hj
    by_cases hl:i<ρ.length
    .rw [List.getElem?_set_self hl] at e;cases e
    .rw [List.getElem?_eq_none (by simp;omega)] at e;cases e
   .rw [List.getElem?_set_ne hj] at e;exact ⟨hj,e⟩
  obtain ⟨a1,a2⟩:=f e1
  obtain ⟨b1,b2⟩:=f e2
  rw [List.getElem?_set_ne a1,List.getElem?_set_ne b1]
  exact g.ne j k d d' hjk a2 b2
theorem Good.setO {W0 W:Wd}{ρ:PSt}{σ:St}(g:Good K W0 W ρ σ) (i:Nat) {d:Nd}{p:Addr}(hm:p∉W.m) (h0:W0.H p=none) (hd:d≠.dead) (at_:NdAt K W.F W.H W.m d p)
  (ne:∀ j d',i≠j->ρ[j]?=some (.own d')->σ[j]?≠some (some (.ref p))):Good K W0 W (ρ.set i (.own d)) (σ.set i (some (.ref p))) where
 le:=g.le
 len:=by simp [g.len]
 val:=fun j y e=>by
  by_cases hj:i=j
  .subst hj
   by_cases hl:i<ρ.length
   .rw [List.getElem?_set_self hl] at e;cases e
   .rw [List.getElem?_eq_none (by simp;omega)] at e;cases e
  .rw [List.getElem?_set_ne hj] at e
   obtain ⟨w,h1,h2⟩:=g.val j y e
   exact ⟨w,by rw [List.getElem?_set_ne hj];exact h1,h2⟩
 own:=fun j d' e=>by
  by_cases hj:i=j
  .subst hj
   by_cases hl:i<ρ.length
   .rw [List.getElem?_set_self hl] at e
    cases e
    exact ⟨p,List.getElem?_set_self (by rw [g.len];exact hl),hm,h0,hd,at_⟩
   .rw [List.getElem?_eq_none (by simp;omega)] at e;cases e
  .rw [List.getElem?_set_ne hj] at e
   obtain ⟨p,h1,h2⟩:=g.own j d' e
   exact ⟨p,by rw [List.getElem?_set_ne hj];exact h1,h2⟩
 ne:=fun j k d1 d2 hjk e1 e2=>by
  have self:∀ {j:Nat}{d':Nd},i=j->(ρ.set i (.own d))[j]?=some (.own d')->(σ.set i (some (.ref p)))[j]?=some (some (.ref p)):=fun {j d'} hj e=>by
   subst hj
   by_cases hl:i<ρ.length
   .exact List.getElem?_set_self (by rw [g.len];exact hl)
   .rw [List.getElem?_eq_none (by simp;omega)] at e;cases e
  by_cases hj:i=j
  .have hk:i≠k:=fun z=>hjk (hj.symm.trans z)
   rw [self hj e1,List.getElem?_set_ne hk]
   rw [List.getElem?_set_ne hk] at e2
   exact (ne k d2 hk e2).symm
  .rw [List.getElem?_set_ne hj]
   rw [List.getElem?_set_ne hj] at e1
   by_cases hk:i=k
   .rw [self hk e2]
    exact ne j d1 hj e1
   .rw [List.getElem?_set_ne hk] at e2 ⊢
    exact g.ne j k d1 d2 hjk e1 e2
noncomputable def yBb (K:Ck) (g:TG) (y:XG):Prop:=∀ (W0 W:Wd) (ρ ρ':PSt) (σ:St) (x:PV) (v:V) (Q:St->Hp->Prop),Good K W0 W ρ σ->yeI K W x v->y x ρ=some ρ'->(∀ σ',Good K W0 W ρ' σ'->Q σ' W.H)->g v σ W.H Q
noncomputable def ywG (K:Ck) (g:TGs) (y:XGs):Prop:=∀ (W0 W:Wd) (ρ ρ':PSt) (σ:St) (x:List PV) (v:List V) (Q:St->Hp->Prop),Good K W0 W ρ σ->yfb K W x v->y x ρ=some ρ'->(∀ σ',Good K W0 W ρ' σ'->Q σ' W.H)->g v σ W.H Q
theorem ynP (i:Nat):yBb K (ywm i) (yz i):=by
 intro W0 W ρ ρ' σ x v Q g r e q
 cases e
 exact q _ (g.set i r)
theorem yBc:ywG K yLb yGk:=by
 intro W0 W ρ ρ' σ x v Q g r e q
 cases x with
 | nil=>cases e;exact ⟨r,q _ g⟩
 | cons _ _=>cases e
theorem yyj {g:TG}{gs:TGs}{y:XG}{ys:XGs}(a:yBb K g y) (b:ywG K gs ys):ywG K (yGJ g gs) (ymS y ys):=by
 intro W0 W ρ ρ' σ x v Q gd r e q
 cases x with
 | nil=>cases e
 | cons x xs =>
  obtain ⟨v1,vs,rfl,r1,r2⟩:=r
  obtain ⟨ρ1,e1,e2⟩:=Option.bind_eq_some_iff.mp e
  exact ⟨v1,vs,rfl,a W0 W ρ ρ1 σ x v1 _ gd r1 e1 fun σ' g'=>b W0 W ρ1 ρ' σ' xs vs Q g' r2 e2 q⟩
theorem yBd {n:Nat}{gs:TGs}{ys:XGs}(b:ywG K gs ys):yBb K (yLc K.K n gs) (yEO n ys):=by
 intro W0 W ρ ρ' σ x v Q g r e q
 unfold yEO at e
 split at e
 .rename_i xs
  split at e
  .rename_i hl
   obtain ⟨a,vs,rfl,hs,rs⟩:=r
   exact ⟨a,vs,rfl,(hs.elim (fun h=>SqT.of (g.ok.le _ _ h)) .inr),by rw [rs.len];exact hl,b W0 W ρ ρ' σ xs vs Q g rs e q⟩
  .cases e
 .cases e
theorem yum {g:TG}{y:XG}(a:ydn K ta ea) (b:yBb K g y):ylE K (yGj ta g) (ydf ea y):=by
 intro W0 W ρ σ D o h' gd e q
 obtain ⟨x,h1,e1,f1⟩:=yn e
 obtain ⟨ρ',e2,f2⟩:=Option.bind_eq_some_iff.mp f1
 cases f2
 exact a W0 W ρ σ _ x _ gd e1 fun v W1 w1 l1 r1=>b W0 W1 ρ ρ' σ x v _ (gd.step l1) r1 e2 fun σ' g'=>q W1 σ' w1 l1.lf g'
theorem yBe {o:XO}(i:Nat) (a:yvz K ta o):ylE K (yGj ta (ywm i)) (ysr o i):=by
 intro W0 W ρ σ D o h' gd e q
 obtain ⟨d,h1,e1,f1⟩:=yn e
 cases f1
 refine a W0 W ρ σ _ d _ gd e1 fun p W1 w1 l1 hm hn hd at_=>q W1 _ w1 l1.lf ((gd.step l1).setO i hm (gd.le.fresh hn) hd at_ fun j d' hj e hs=>?_)
 obtain ⟨p',h1,h2,_,_,h5⟩:=gd.own j d' e
 rw [h1] at hs
 cases hs
 obtain ⟨o,ho⟩:=h5.some
 rw [hn] at ho;cases ho
theorem Good.frz {W0 W:Wd}{ρ:PSt}{σ:St}(g:Good K W0 W ρ σ) (i:Nat):∃ W',W'.h=W.h/\W'.H=W.H/\Lf K W W'/\Good K W0 W' (yul i ρ) σ:=by
 unfold yul
 cases e:ρ[i]? with
 | none=>exact ⟨W,rfl,rfl,.refl,by rw [List.modify_eq_self (by simpa using e)];exact g⟩
 | some v =>
  have hl:i<ρ.length:=(List.getElem?_eq_some_iff.mp e).1
  have em:ρ.modify i yAW=ρ.set i (yAW v):=by
   apply List.ext_getElem?
   intro j
   rw [List.getElem?_modify,List.getElem?_set]
   by_cases hj:i=j
   .subst hj
    obtain ⟨_,ev⟩:=List.getElem?_eq_some_iff.mp e
    simp [hl,ev]
   .simp [hj]
  have same:yAW v=v->∃ W',W'.h=W.h/\W'.H=W.H/\Lf K W W'/\Good K W0 W' (ρ.modify i yAW) σ:=fun z=>⟨W,rfl,rfl,.refl,by
   rw [em,z]
   have:ρ.set i v=ρ:=by
    apply List.ext_getElem?
    intro j
    by_cases hj:i=j
    .subst hj;rw [List.getElem?_set_self hl,e]
    .rw [List.getElem?_set_ne hj]
   rw [this];exact g⟩
  have go:∀ (d:Nd) (x:PV) (p:Addr) (o:HO),v=.own d->yAW v=.val x->σ[i]?=some (some (.ref p))->p∉W.m->W0.H p=none->W.H p=some o->W.F p=none->(∀ (F':Hp),Same W.F F'->F' p=some o->Rep K F' W.m x (.ref p)) ->
    ∃ W',W'.h=W.h/\W'.H=W.H/\Lf K W W'/\Good K W0 W' (ρ.modify i yAW) σ:=fun d x p o hv hx hs hm h0 hp hf hr=>by
   obtain ⟨k,sF⟩:=yye (K:=K) g.ok hp hm hf
   have lf:Lf K W (yAR W p o):=⟨sF,List.prefix_refl _,fun _ _ _ e=>⟨e,fun _ _=>rfl⟩⟩
   refine ⟨yAR W p o,rfl,rfl,lf,⟨yuj g.le hp hm hf h0,by rw [List.length_modify];exact g.len,fun j y e'=>?_,fun j d' e'=>?_,fun j1 j2 d1 d2 hj e1 e2=>?_⟩⟩
   .rw [em,hx] at e'
    by_cases hj:i=j
    .subst hj
     rw [List.getElem?_set_self hl] at e'
     cases e'
     exact ⟨_,hs,hr _ sF yQ⟩
    .rw [List.getElem?_set_ne hj] at e'
     obtain ⟨w,a1,a2⟩:=g.val j y e'
     exact ⟨w,a1,lf.rep a2⟩
   .rw [em,hx] at e'
    by_cases hj:i=j
    .subst hj
     rw [List.getElem?_set_self hl] at e'
     cases e'
    .rw [List.getElem?_set_ne hj] at e'
     obtain ⟨q,a1,a2,a3,a4,a5⟩:=g.own j d' e'
     have hq:q≠p:=fun z=>g.ne j i d' d (fun z=>hj z.symm) e' (hv ▸ e) (by rw [a1,hs,z])
     exact ⟨q,a1,a2,a3,a4,a5.mono sF (List.prefix_refl _) (fun _ e=>e) fun f=>(ybc hq).trans f⟩
   .rw [em,hx] at e1 e2
    have f:∀ {j:Nat}{d:Nd},(ρ.set i (.val x))[j]?=some (.own d)->ρ[j]?=some (.own d):=fun {j d} e=>by
     by_cases hj:i=j
     .subst hj;rw [List.getElem?_set_self hl] at e;cases e
     .rw [List.getElem?_set_ne hj] at e;exact e
    exact g.ne j1 j2 d1 d2 hj (f e1) (f e2)
  cases v with
  | no=>exact same rfl
  | val x=>exact same rfl
  | own d =>
   obtain ⟨p,a1,a2,a3,a4,a5⟩:=g.own i d e
   cases d with
   | lst xs =>
    obtain ⟨hf,vs,hp,r⟩:=a5
    exact go _ (.lst xs) p _ rfl rfl a1 a2 a3 hp hf fun F' s hF=>⟨p,vs,rfl,hF,RepL.mono s (List.prefix_refl _) _ _ r⟩
   | dct ks xs=>exact same rfl
   | fz ks xs=>exact same rfl
   | ins k ns xs =>
    obtain ⟨hf,dx,vs,hp,hl,r⟩:=a5
    exact go _ (.ins k ns xs) p _ rfl rfl a1 a2 a3 hp hf fun F' s hF=>⟨p,dx,vs,rfl,hF,hl,RepL.mono s (List.prefix_refl _) _ _ r⟩
   | dead=>exact same rfl
theorem yES (i:Nat) (a:ylE K t s):ylE K t (yCN i s):=by
 intro W0 W ρ σ D o h' g e q
 obtain ⟨W',e1,e2,l,g'⟩:=g.frz i
 rw [<- e2]
 exact a W0 W' _ σ D o h' g' (by rw [e1];exact e) (q.from_ l)
end
end PX
namespace PX
open PySem L2
variable {K:Ck}
section
variable {ta tb:TE}{ea eb:XE}{t u:TS}{s s':XS}{tA:TT}{eA:XT}
def yET (W:Wd) (p:Addr) (o:HO):Wd:=⟨W.F,upd W.H p o,W.m,W.h⟩
theorem yEU {W:Wd}{p:Addr}{o:HO}(w:WOk K W) (hm:p∉W.m) (hf:W.F p=none):WOk K (yET W p o):=by
 refine ⟨fun b u e=>?_,w.len,w.nd,fun n d a e1 e2=>?_⟩
 .have:b≠p:=yck e hf
  exact (ybc this).trans (w.le _ _ e)
 .have ha:a≠p:=fun z=>hm (z ▸ List.mem_of_getElem? e2)
  exact (w.at_ n d a e1 e2).mono (Same.refl _) (List.prefix_refl _) (fun u e=>(ybc ha).trans e) id
theorem yyk {W W1:Wd}{p:Addr}{o:HO}(l:Le K W W1) (hm:p∉W1.m) (hf:W1.F p=none) (hn:W.H p=none):Le K W (yET W1 p o) :=
 ⟨yEU l.ok hm hf,l.fs,l.pre,fun b u e n=>(ybc (yck e hn)).trans (l.keep b u e n),l.new,l.mn,fun n ks xs e1=>⟨(l.fz n ks xs e1).1,fun a e2=>(ybc (fun (z:a=p)=>hm (z ▸ List.mem_of_getElem? (ylJ l.pre e2)))).trans ((l.fz n ks xs e1).2 a e2)⟩⟩
theorem yCO {W W1:Wd}{p:Addr}{o:HO}(l:Le K W W1) (hm:p∉W1.m):Lf K W (yET W1 p o) :=
 ⟨l.fs,l.pre,fun n ks xs e1=>⟨(l.fz n ks xs e1).1,fun a e2=>(ybc (fun (z:a=p)=>hm (z ▸ List.mem_of_getElem? (ylJ l.pre e2)))).trans ((l.fz n ks xs e1).2 a e2)⟩⟩
theorem Good.mut {W0 W:Wd}{ρ:PSt}{σ:St}(g:Good K W0 W ρ σ) {i:Nat}{d d':Nd}{p:Addr}{o:HO}(e:ρ[i]?=some (.own d)) (hs:σ[i]?=some (some (.ref p))) (hm:p∉W.m) (h0:W0.H p=none) (hf:W.F p=none) (hd:d'≠.dead)
  (at_:NdAt K W.F (upd W.H p o) W.m d' p):Good K W0 (yET W p o) (ρ.set i (.own d')) σ:=by
 have hl:i<ρ.length:=(List.getElem?_eq_some_iff.mp e).1
 refine ⟨yyk g.le hm hf h0,by rw [List.length_set];exact g.len,fun j y e'=>?_,fun j d1 e'=>?_,fun j1 j2 d1 d2 hj e1 e2=>?_⟩
 .by_cases hj:i=j
  .subst hj;rw [List.getElem?_set_self hl] at e';cases e'
  .rw [List.getElem?_set_ne hj] at e';exact g.val j y e'
 .by_cases hj:i=j
  .subst hj;rw [List.getElem?_set_self hl] at e';cases e';exact ⟨p,hs,hm,h0,hd,at_⟩
  .rw [List.getElem?_set_ne hj] at e'
   obtain ⟨q,a1,a2,a3,a4,a5⟩:=g.own j d1 e'
   have hq:q≠p:=fun z=>g.ne j i d1 d (fun z=>hj z.symm) e' e (by rw [a1,hs,z])
   exact ⟨q,a1,a2,a3,a4,a5.mono (Same.refl _) (List.prefix_refl _) (fun u e=>(ybc hq).trans e) id⟩
 .have f:∀ {j:Nat}{d1:Nd},(ρ.set i (.own d'))[j]?=some (.own d1)->∃ d2,ρ[j]?=some (.own d2):=fun {j d1} e'=>by
   by_cases hj:i=j
   .subst hj;exact ⟨d,e⟩
   .rw [List.getElem?_set_ne hj] at e';exact ⟨_,e'⟩
  obtain ⟨_,f1⟩:=f e1
  obtain ⟨_,f2⟩:=f e2
  exact g.ne j1 j2 _ _ hj f1 f2
theorem big {n:Nat}(h:n<100000):n<sizeLine:=Nat.lt_of_lt_of_le h (by decide)
theorem yIY {n:Nat}(h:n<=100000):n<=sizeLine:=Nat.le_trans h (by decide)
theorem yBf (i:Nat) (a:ydn K ta ea):ylE K (yAx (tBM K.K "list" ytT (yCv i) (yxM ta yEl))) (yiR i ea):=by
 intro W0 W ρ σ D o h' g e q
 unfold yiR at e
 split at e
 .rename_i xs0 hx
  obtain ⟨x,h1,e1,f1⟩:=yn e
  split at f1
  .rename_i hlen
   cases f1
   obtain ⟨p,a1,a2,a3,a4,hf,vs,hp,r⟩:=g.own i _ hx
   refine ⟨.ref p,a1,.inl ⟨rfl,_,SqL.of hp⟩,?_⟩
   refine a W0 W ρ σ _ x _ g e1 fun v W1 w1 l1 r1=>⟨p,vs,v,rfl,rfl,l1.keep _ _ hp a2,by rw [r.len];exact big hlen,?_⟩
   have g1:=g.step l1
   obtain ⟨p',b1,b2,b3,b4,b5,vs',b6,b7⟩:=g1.own i _ hx
   rw [a1] at b1
   cases b1
   rw [l1.keep _ _ hp a2] at b6
   cases b6
   exact q (yET W1 p (.lst (vs++[v]))) σ w1 (yCO l1 b2) (g1.mut hx a1 b2 b3 b5 (fun z=>by cases z) ⟨b5,_,yQ,b7.snoc r1⟩)
  .cases f1
 .cases e
structure yIZ (K:Ck) (W:Wd) (J:It) (xs:List PV):Prop where
 go:∀ (i:Nat) (W':Wd),Lf K W W'->WOk K W'->i<xs.length->J.go i W'.H
 yld:∀ (i:Nat) (W':Wd) (v:V) (H2:Hp),Lf K W W'->WOk K W'->i<xs.length->J.yld i W'.H v H2->H2=W'.H/\∃ x,xs[i]?=some x/\yeI K W' x v
 stop:∀ (W':Wd),Lf K W W'->WOk K W'->J.stop xs.length W'.H
noncomputable def yEV (K:Ck) (wi:TI) (e:XA):Prop:=∀ (W0 W:Wd) (ρ:PSt) (σ:St) (R:It->Hp->Prop) (xs:List PV) (h':AH),Good K W0 W ρ σ->e ρ W.h=some (xs,h')->(∀ J W',W'.h=h'->Le K W W'->yIZ K W' J xs->R J W'.H)->wi σ W.H R
noncomputable def xIL (e:XE):XA:=fun ρ h=>ob (e ρ h) fun x h1=>match x with|.lst xs=>some (xs,h1)|.scr ns=>some (ns.map .int,h1)|_=>none
def sgn (c:Nat):PV:=.str ⟨#[c]⟩
def ywH (lo:Int) (n:Nat):List PV:=(List.range n).map fun (k:Nat)=>.int (lo+(k:Int))
noncomputable def yBg (a:XA):XA:=fun ρ h=>ob (a ρ h) fun xs h1=>match xs with|[.int j]=>if -1000000000<=j/\j<=1000000000 then some (ywH 0 j.toNat,h1) else none|_=>none
theorem yjZ {W:Wd}(w:WOk K W) {a:Addr}{vs:List V}(h:SqL K.K W.F a vs):SqL K.K W.H a vs:=Same.seq w.le h
theorem yfg {W:Wd}(w:WOk K W) {a:Addr}{vs:List V}(h:TpAt K.K W.F a vs):SqT K.K W.H a vs:=h.elim (fun h=>SqT.of (w.le _ _ h)) .inr
theorem yyl (a:ydn K ta ea):yEV K (yGM K.K ta) (xIL ea):=by
 intro W0 W ρ σ R xs h' g e q
 obtain ⟨x,h1,e1,f1⟩:=yn e
 refine a W0 W ρ σ _ x h1 g e1 fun v W1 w1 l1 r1=>?_
 have key:∀ (a:Addr) (vs:List V),v=.ref a->SqL K.K W1.F a vs->RepL K W1.F W1.m xs vs->h1=h'->∃ a,v=.ref a/\(∃ xs,SqL K.K W1.H a xs)/\R (Itl K.K a) W1.H:=fun a vs ev hs rs eh=>by
  subst eh
  refine ⟨a,ev,⟨vs,yjZ l1.ok hs⟩,q _ W1 w1 l1 ⟨fun i W' l w hi=>?_,fun i W' v' H2 l w hi hy=>?_,fun W' l w=>?_⟩⟩
  .obtain ⟨v',h1,_⟩:=rs.get (List.getElem?_eq_getElem hi)
   exact ⟨vs,v',yjZ w (Same.seq l.fs hs),h1⟩
  .obtain ⟨h1,h2⟩:=hy
   have:=h2 vs (yjZ w (Same.seq l.fs hs))
   obtain ⟨x,h3,h4⟩:=rs.get' this
   exact ⟨h1,x,h3,l.rep h4⟩
  .exact ⟨vs,yjZ w (Same.seq l.fs hs),by rw [rs.len];exact Nat.le_refl _⟩
 split at f1
 .cases f1
  obtain ⟨a,vs,ev,hs,rs⟩:=r1
  exact key a vs ev (SqL.of hs) rs rfl
 .rename_i ns
  cases f1
  obtain ⟨a,ev,hs⟩:=r1
  exact key a _ ev hs (RepL.of_ints ns) rfl
 .cases f1
theorem yHl (W:Wd) (lo:Int) (n:Nat):yIZ K W (Itr lo n) (ywH lo n):=by
 refine ⟨fun i W' l w hi=>?_,fun i W' v' H2 l w hi hy=>?_,fun W' l w=>?_⟩
 .show i<n
  simpa [ywH] using hi
 .obtain ⟨h1,h2⟩:=hy
  have hi:i<n:=by simpa [ywH] using hi
  exact ⟨h1,.int (lo+(i:Int)),by simp [ywH,hi],h2⟩
 .show n<=_
  simp [ywH]
theorem yym {t:TA}{e:XA}(a:ytL K t e):yEV K (yGN t) (yBg e):=by
 intro W0 W ρ σ R xs h' g e q
 obtain ⟨ys,h1,e1,f1⟩:=yn e
 split at f1
 .rename_i j
  split at f1
  .rename_i hj
   cases f1
   refine a W0 W ρ σ _ _ _ g e1 fun vs W1 w1 l1 r1=>?_
   obtain ⟨v,r,rfl,rv,rr⟩:=r1
   obtain rfl:r=[]:=rr
   exact ⟨j,by rw [show v=.int j from rv],by omega,by omega,q _ W1 w1 l1 (yHl W1 0 _)⟩
  .cases f1
 .cases f1
theorem yEW {wi:TI}{it:XA}{g:TG}{y:XG}(a:yEV K wi it) (b:yBb K g y) (c:ylE K t s):ylE K (yJp wi g t) (yyi it y s):=by
 intro W0 W ρ σ D o h' gd e q
 obtain ⟨xs,h1,e1,f1⟩:=yn e
 refine a W0 W ρ σ _ xs h1 gd e1 fun J W1 w1 l1 J1=>?_
 subst w1
 have q1:=q.from_ l1.lf
 refine ⟨fun i m σ H=>m=xs.length-i/\i<=xs.length/\∃ W' ρ',W'.H=H/\Lf K W1 W'/\Good K W0 W' ρ' σ/\ynO y s (xs.drop i) ρ' W'.h=some (o,h'),⟨_,rfl,Nat.zero_le _,W1,ρ,rfl,.refl,gd.step l1,by simpa using f1⟩,?_⟩
 rintro i m σ _ ⟨rfl,hi,W',ρ',rfl,l,g',f⟩
 by_cases hlt:i<xs.length
 .rw [List.drop_eq_getElem_cons hlt] at f
  obtain ⟨ρ1,k1,f⟩:=Option.bind_eq_some_iff.mp f
  obtain ⟨o1,h2,k2,f3⟩:=yn f
  refine .inr ⟨J1.go i W' l g'.ok hlt,fun σ2 H2=>i+1<=xs.length/\∃ W2 ρ2,W2.H=H2/\Lf K W1 W2/\Good K W0 W2 ρ2 σ2/\ynO y s (xs.drop (i+1)) ρ2 W2.h=some (o,h'),fun σ2 H2 ⟨n1,n2⟩=>⟨xs.length-(i+1),by omega,rfl,n1,n2⟩,fun v H2 hy=>?_⟩
  obtain ⟨rfl,x,hx,rx⟩:=J1.yld i W' v H2 l g'.ok hlt hy
  rw [List.getElem?_eq_getElem hlt] at hx
  cases hx
  refine b W0 W' ρ' ρ1 σ _ v _ g' rx k1 fun σ2 g2=>?_
  refine c W0 W' ρ1 σ2 _ o1 h2 g2 k2 ?_
  cases o1 with
  | nx ρ2=>exact fun W2 σ3 w2 l2 g3=>⟨hlt,W2,ρ2,rfl,l.trans l2,g3,by rw [w2];exact f3⟩
  | ct ρ2=>exact fun W2 σ3 w2 l2 g3=>⟨hlt,W2,ρ2,rfl,l.trans l2,g3,by rw [w2];exact f3⟩
  | bk ρ2=>cases f3;exact fun W2 σ3 w2 l2 g3=>q1 W2 σ3 w2 (l.trans l2) g3
  | rt x=>cases f3;exact q1
 .have ei:i=xs.length:=by omega
  subst ei
  refine .inl ⟨J1.stop W' l g'.ok,?_⟩
  rw [List.drop_length] at f
  cases f
  exact q1 W' σ rfl l g'
theorem yyn (n:Nat) (c:ytK K tA eA) (a:ylE K t s):ylE K (yCz tA t) (yss n eA s):=by
 intro W0 W ρ σ D o h' gd e q
 refine ⟨fun m σ H=>∃ W' ρ',W'.H=H/\Lf K W W'/\Good K W0 W' ρ' σ/\whl eA s m ρ' W'.h=some (o,h'),⟨n,W,ρ,rfl,.refl,gd,e⟩,?_⟩
 rintro m σ _ ⟨W',ρ',rfl,l,g',f⟩
 cases m with
 | zero=>cases f
 | succ m =>
  obtain ⟨k,h1,e1,f1⟩:=yn f
  refine c W0 W' ρ' σ _ k h1 g' e1 fun W1 w1 l1=>?_
  subst w1
  cases k with
  | false =>
   rw [if_neg (by decide)] at f1 ⊢
   cases f1
   exact q W1 σ rfl (l.trans l1.lf) (g'.step l1)
  | true =>
   rw [if_pos rfl] at f1 ⊢
   obtain ⟨o1,h2,k2,f3⟩:=yn f1
   refine ⟨fun σ2 H2=>∃ W2 ρ2,W2.H=H2/\Lf K W W2/\Good K W0 W2 ρ2 σ2/\whl eA s m ρ2 W2.h=some (o,h'),fun σ2 H2 z=>⟨m,Nat.lt_succ_self _,z⟩,?_⟩
   refine a W0 W1 ρ' σ _ o1 h2 (g'.step l1) k2 ?_
   have l':=l.trans l1.lf
   cases o1 with
   | nx ρ2=>exact fun W2 σ3 w2 l2 g3=>⟨W2,ρ2,rfl,l'.trans l2,g3,by rw [w2];exact f3⟩
   | ct ρ2=>exact fun W2 σ3 w2 l2 g3=>⟨W2,ρ2,rfl,l'.trans l2,g3,by rw [w2];exact f3⟩
   | bk ρ2=>cases f3;exact fun W2 σ3 w2 l2 g3=>q W2 σ3 w2 (l'.trans l2) g3
   | rt x=>cases f3;exact q
theorem yyo {e:XE}{inn:PV->PSt}:∀ {xs:List PV}{h:AH}{ys:List PV}{h':AH},yAY e inn xs h=some (ys,h')->ys.length=xs.length
 | [],_,_,_,e=>by cases e;rfl
 | x::xs,_,_,_,e=>by
  obtain ⟨y,h1,e1,f1⟩:=yn e
  obtain ⟨ys,h2,e2,f2⟩:=yn f1
  cases f2
  rw [List.length_cons,List.length_cons,yyo e2]
theorem yBh {W0 W W':Wd}{ρ:PSt}{σ:St}(g:Good K W0 W ρ σ) (l:Le K W W') (ix:List Nat) {x:PV}{v:V}(r:yeI K W' x v):Good K W' W' (yAX ix ρ x) (inner ix σ v) where
 le:=.refl l.ok
 len:=by simp [yAX,inner]
 val:=fun j y e=>by
  cases j with
  | zero=>simp [yAX] at e;subst e;exact ⟨v,rfl,r⟩
  | succ j =>
   have e:(ix.map (yAo ρ))[j]?=some (.val y):=e
   rw [List.getElem?_map] at e
   cases ei:ix[j]? with
   | none=>rw [ei] at e;cases e
   | some i =>
    rw [ei] at e
    have e:yAo ρ i=.val y:=Option.some.inj e
    unfold yAo at e
    split at e
    .rename_i z hz
     cases e
     obtain ⟨w,h1,h2⟩:=g.val i _ hz
     exact ⟨w,by show (ix.map fun i=>(σ[i]?).getD none)[j]?=_;rw [List.getElem?_map,ei];simp [h1],l.rep h2⟩
    .cases e
 own:=fun j d e=>by
  cases j with
  | zero=>simp [yAX] at e
  | succ j =>
   have e:(ix.map (yAo ρ))[j]?=some (.own d):=e
   rw [List.getElem?_map] at e
   cases ei:ix[j]? with
   | none=>rw [ei] at e;cases e
   | some i =>
    rw [ei] at e
    have e:yAo ρ i=.own d:=Option.some.inj e
    unfold yAo at e
    split at e<;>cases e
 ne:=fun j k d d' _ e _=>by
  cases j with
  | zero=>simp [yAX] at e
  | succ j =>
   have e:(ix.map (yAo ρ))[j]?=some (.own d):=e
   rw [List.getElem?_map] at e
   cases ei:ix[j]? with
   | none=>rw [ei] at e;cases e
   | some i =>
    rw [ei] at e
    have e:yAo ρ i=.own d:=Option.some.inj e
    unfold yAo at e
    split at e<;>cases e
theorem yvC {wi:TI}{it:XA}(ix:List Nat) (a:yEV K wi it) (b:ydn K ta ea):yvz K (yEu wi ix ta) (ywF it ix ea):=by
 intro W0 W ρ σ Q d h' gd e q
 obtain ⟨xs,h1,e1,f1⟩:=yn e
 split at f1
 .rename_i hlen
  obtain ⟨zs,h2,e2,f2⟩:=yn f1
  cases f2
  have hz:=yyo e2
  refine a W0 W ρ σ _ xs h1 gd e1 fun J W1 w1 l1 J1=>?_
  subst w1
  intro D hD
  have nm:=l1.ok.out hD
  have nf:=l1.ok.ff hD
  refine ⟨fun i m H=>m=xs.length-i/\i<=xs.length/\∃ W' acc done rest,W'.H=H/\Le K W1 W'/\D∉W'.m/\W'.F D=none/\H D=some (.lst acc)/\yfb K W' done acc/\done.length=i/\zs=done++rest/\yAY ea (yAX ix ρ) (xs.drop i) W'.h=some (rest,h'),⟨_,rfl,Nat.zero_le _,ypc W1 D (.lst []),[],[],zs,rfl,ygf l1.ok hD,nm,nf,yQ,rfl,rfl,rfl,by rw [List.drop_zero];exact e2⟩,?_⟩
  rintro i m _ ⟨rfl,hi,W',acc,done,rest,rfl,l,n1,n2,hd,rd,ld,ez,f⟩
  by_cases hlt:i<xs.length
  .rw [List.drop_eq_getElem_cons hlt] at f
   obtain ⟨y,h3,k1,f3⟩:=yn f
   obtain ⟨ys,h4,k2,f4⟩:=yn f3
   cases f4
   refine .inr ⟨J1.go i W' l.lf l.ok hlt,fun v H2 hy=>?_⟩
   obtain ⟨rfl,x,hx,rx⟩:=J1.yld i W' v H2 l.lf l.ok hlt hy
   rw [List.getElem?_eq_getElem hlt] at hx
   cases hx
   refine b W' W' _ _ _ y h3 (yBh gd (l1.trans l) ix rx) k1 fun w W2 w2 l2 r2=>?_
   obtain ⟨o2,n2'⟩:∃ o,W'.H D=some o:=⟨_,hd⟩
   have nm2:D∉W2.m:=fun z=>by rw [l2.mn D z n1] at hd;cases hd
   have nf2:W2.F D=none:=l2.new D _ hd n1 n2
   refine ⟨acc,l2.keep _ _ hd n1,?_,xs.length-(i+1),by omega,rfl,hlt,yET W2 D (.lst (acc++[w])),acc++[w],done++[y],ys,rfl,yyk (l.trans l2) nm2 nf2 hD,nm2,nf2,yQ,(l2.repL rd).snoc r2,by simp [ld],by simp [ez],?_⟩
   .rw [rd.len,ld];exact big (by omega)
   .show yAY ea (yAX ix ρ) (xs.drop (i+1)) W2.h=some (ys,h')
    rw [w2];exact k2
  .have ei:i=xs.length:=by omega
   subst ei
   rw [List.drop_length] at f
   cases f
   refine .inl ⟨J1.stop W' l.lf l.ok,?_⟩
   rw [List.append_nil] at ez
   subst ez
   exact q D W' rfl (l1.trans l) n1 (l1.fresh hD) (fun z=>by cases z) ⟨n2,acc,hd,rd⟩
 .cases f1
theorem ylM {W:Wd}(w:WOk K W) {N:List Str}{xs:List PV}{vs:List V}(r:yfb K W xs vs):Good K W W (xs.map .val++List.replicate (N.length-xs.length) .no) (L2.start N vs) where
 le:=.refl w
 len:=by simp [L2.start,r.len]
 val:=fun j y e=>by
  by_cases hj:j<xs.length
  .rw [List.getElem?_append_left (by simpa using hj),List.getElem?_map,List.getElem?_eq_getElem hj] at e
   cases e
   obtain ⟨v,h1,h2⟩:=r.get (List.getElem?_eq_getElem hj)
   refine ⟨v,?_,h2⟩
   unfold L2.start
   rw [List.getElem?_append_left (by simp [r.len,hj]),List.getElem?_map,h1];rfl
  .rw [List.getElem?_append_right (by simp;omega),List.getElem?_replicate] at e
   split at e<;>cases e
 own:=fun j d e=>by
  by_cases hj:j<xs.length
  .rw [List.getElem?_append_left (by simpa using hj),List.getElem?_map,List.getElem?_eq_getElem hj] at e
   cases e
  .rw [List.getElem?_append_right (by simp;omega),List.getElem?_replicate] at e
   split at e<;>cases e
 ne:=fun j k d d' _ e _=>by
  by_cases hj:j<xs.length
  .rw [List.getElem?_append_left (by simpa using hj),List.getElem?_map,List.getElem?_eq_getElem hj] at e
   cases e
  .rw [List.getElem?_append_right (by simp;omega),List.getElem?_replicate] at e
   split at e<;>cases e
theorem yBi {N:List Str}{n:Nat}{vs:List V}{H:Hp}{Q:VK}{E:XK}{bk ct:St->Hp->Prop}(a:ylE K t s) (h:spE K n (ygG N.length s) vs H Q E):t ⟨fun _ H'=>Q .non H',Q,bk,ct⟩ (L2.start N vs) H:=by
 obtain ⟨W,xs,x,h',rfl,w,r,_,e,q⟩:=h
 obtain ⟨o,h1,e1,f1⟩:=yn e
 refine a W W _ _ _ o h1 (ylM w r) e1 ?_
 cases o with
 | rt y=>cases f1;exact fun W' v ew l rv=>q v W' ew l rv
 | nx ρ=>cases f1;exact fun W' σ' ew _ g=>q .non W' ew g.le rfl
 | bk ρ=>cases f1
 | ct ρ=>cases f1
theorem yEX {n:Nat}{f:Fn}{vs:List V}{H:Hp}{Q:VK}{E:XK}(h:spE K n f vs H Q E):vs.length=n:=by
 obtain ⟨W,xs,x,h',rfl,w,r,hn,_⟩:=h
 rw [r.len,hn]
end
end PX
namespace PX
open PySem L2
variable {K:Ck}
def oI (g:Int->Int->PV):P2:=fun x y h=>match x,y with|.int i,.int j=>some (g i j,h)|_,_=>none
noncomputable def oIc (C:Int->Int->Prop) [∀ i j,Decidable (C i j)] (g:Int->Int->PV):P2:=fun x y h=>match x,y with|.int i,.int j=>if C i j then some (g i j,h) else none|_,_=>none
abbrev ynQ:P2:=oI fun i j=>.int (i+j)
abbrev yHm:P2:=oI fun i j=>.int (i-j)
noncomputable def MulOk (i j:Int):Prop:=(-18446744073709551616<i/\i<18446744073709551616)\/(-18446744073709551616<j/\j<18446744073709551616)
instance (i j:Int):Decidable (MulOk i j):=by unfold MulOk;infer_instance
def yyp (i j:Int):Prop:=(0<=i/\i<18446744073709551616)/\0<=j/\j<=1000000
instance (i j:Int):Decidable (yyp i j):=by unfold yyp;infer_instance
abbrev yCP:P2:=oIc MulOk fun i j=>.int (i*j)
abbrev oDiv:P2:=oIc (fun _ j=>0<j/\j<1073741824) fun i j=>.int (i/j)
abbrev oMod:P2:=oIc (fun _ j=>0<j) fun i j=>.int (i%j)
abbrev yHn:P2:=oIc yyp fun i j=>.int (i ^ j.toNat)
abbrev oLt:P2:=oI fun i j=>.bl (decide (i<j))
abbrev yJa:PV->AH->Option (PV×AH):=fun x h=>match x with|.int i=>some (.int (-i),h)|_=>none
theorem yJQ {g:Int->Int->PV}{gV:Int->Int->V}(h:∀ (W:Wd) i j,yeI K W (g i j) (gV i j)):yge K (rI0 gV) (oI g):=by
 intro W x y v u Q z h' w rx ry e q
 unfold oI at e
 split at e
 .rename_i i j
  cases e
  exact ⟨i,j,rx,ry,q _ W rfl (.refl w) (h W i j)⟩
 .cases e
theorem yBj {C:Int->Int->Prop} [∀ i j,Decidable (C i j)] {C':Int->Int->Prop}{g:Int->Int->PV}{gV:Int->Int->V}(hc:∀ i j,C i j->C' i j) (h:∀ (W:Wd) i j,yeI K W (g i j) (gV i j)):yge K (rI C' gV) (oIc C g):=by
 intro W x y v u Q z h' w rx ry e q
 unfold oIc at e
 split at e
 .rename_i i j
  split at e
  .rename_i c
   cases e
   exact ⟨i,j,rx,ry,hc i j c,q _ W rfl (.refl w) (h W i j)⟩
  .cases e
 .cases e
theorem yhg:yge K yJB ynQ:=yJQ fun _ _ _=>rfl
theorem yBk:yge K yJC yHm:=yJQ fun _ _ _=>rfl
theorem yun:yge K yJD yCP:=yBj (fun i j h=>by unfold CMul;rw [show (2:Int) ^ 64=18446744073709551616 by decide];exact h) fun _ _ _=>rfl
theorem ydK:yge K yJE oDiv:=yBj (fun i j h=>h) fun _ _ _=>rfl
theorem ycj:yge K yJF oMod:=yBj (fun i j h=>h) fun _ _ _=>rfl
theorem yBl:yge K yJG yHn:=yBj (fun i j h=>by unfold yJs;rw [show 2 ^ 64=18446744073709551616 by decide];unfold yyp at h;omega) fun _ _ _=>rfl
theorem yCQ:yge K yLT oLt:=yJQ fun _ _ _=>rfl
theorem yHo:yEC K yJH yJa:=by
 intro W x v Q z h' w rx e q
 unfold yJa at e
 split at e
 .rename_i i
  cases e
  exact ⟨i,rx,q _ W rfl (.refl w) rfl⟩
 .cases e
def sv:PV->Option V
 | .non=>some .non
 | .bl b=>some (.bl b)
 | .int i=>some (.int i)
 | .str s=>some (.str s)
 | _=>none
theorem ykO {W:Wd}{x:PV}{v u:V}(e:sv x=some u) (r:yeI K W x v):v=u:=by
 cases x<;>cases e<;>exact r
noncomputable def oEq:P2:=fun x y h=>match sv x,sv y with|some v,some u=>if yEe v u=true then some (.bl (decide (v=u)),h) else none|_,_=>none
noncomputable def oNe:P2:=fun x y h=>match sv x,sv y with|some v,some u=>if yEe v u=true then some (.bl (!decide (v=u)),h) else none|_,_=>none
theorem yiS:yge K rEq oEq:=by
 intro W x y v u Q z h' w rx ry e q
 unfold oEq at e
 split at e
 .rename_i v' u' e1 e2
  obtain rfl:=ykO e1 rx
  obtain rfl:=ykO e2 ry
  split at e
  .rename_i c
   cases e
   exact ⟨c,q _ W rfl (.refl w) rfl⟩
  .cases e
 .cases e
theorem yLq:yge K rNe oNe:=by
 intro W x y v u Q z h' w rx ry e q
 unfold oNe at e
 split at e
 .rename_i v' u' e1 e2
  obtain rfl:=ykO e1 rx
  obtain rfl:=ykO e2 ry
  split at e
  .rename_i c
   cases e
   exact ⟨c,q _ W rfl (.refl w) rfl⟩
  .cases e
 .cases e
def isN:PV->Bool
 | .non=>true
 | _=>false
def yGl:P2:=fun x y h=>match y with|.non=>some (.bl (isN x),h)|_=>none
def yBm:P2:=fun x y h=>match y with|.non=>some (.bl (!isN x),h)|_=>none
theorem yyq {W:Wd}{x:PV}{v:V}(r:yeI K W x v):decide (v=.non)=isN x:=by
 cases x with
 | non=>rw [show v=.non from r];rfl
 | bl b=>rw [show v=.bl b from r];rfl
 | int b=>rw [show v=.int b from r];rfl
 | str b=>rw [show v=.str b from r];rfl
 | ty b=>rw [show v=.ty b from r];rfl
 | cls b=>rw [show v=.ref _ from r];rfl
 | scr b=>obtain ⟨a,e,_⟩:=r;rw [e];rfl
 | lst b=>obtain ⟨a,_,e,_⟩:=r;rw [e];rfl
 | tup b=>obtain ⟨a,_,e,_⟩:=r;rw [e];rfl
 | ins k n b=>obtain ⟨a,_,_,e,_⟩:=r;rw [e];rfl
 | loc n=>obtain ⟨a,e,_⟩:=r;rw [e];rfl
theorem yEY:yge K yLU yGl:=by
 intro W x y v u Q z h' w rx ry e q
 unfold yGl at e
 split at e
 .cases e
  exact ⟨ry,by rw [yyq rx];exact q _ W rfl (.refl w) rfl⟩
 .cases e
theorem yHp:yge K yJJ yBm:=by
 intro W x y v u Q z h' w rx ry e q
 unfold yBm at e
 split at e
 .cases e
  exact ⟨ry,by rw [yyq rx];exact q _ W rfl (.refl w) rfl⟩
 .cases e
noncomputable def yBn:P2:=fun x y h=>match x,y with|.str i,.str j=>if i.length+j.length<=100000 then some (.str (i++j),h) else none|_,_=>none
theorem yHq:yge K yJI yBn:=by
 intro W x y v u Q z h' w rx ry e q
 unfold yBn at e
 split at e
 .rename_i i j
  split at e
  .rename_i c
   cases e
   exact ⟨i,j,rx,ry,yIY c,q _ W rfl (.refl w) rfl⟩
  .cases e
 .cases e
noncomputable def yMp:P2:=fun x y h=>match x,y with|.str s,.str j=>(match s.cps.toList with|[c]=>some (.bl (decide (c∈j.cps.toList)),h)|_=>none)|_,_=>none
theorem one_sign {s:Str}{c:Nat}(h:s.cps.toList=[c]):s=⟨#[c]⟩:=by
 obtain ⟨⟨l⟩⟩:=s
 have:l=[c]:=h
 rw [this]
noncomputable def yhL:P2:=fun x y h=>match y with
 | .int i=>(match x with
  | .lst xs=>(match atI xs i with|some v=>some (v,h)|none=>none)
  | .scr ns=>(match atI ns i with|some v=>some (.int v,h)|none=>none)
  | .loc n=>(match h[n]? with|some (.lst xs)=>(match atI xs i with|some v=>some (v,h)|none=>none)|_=>none)
  | _=>none)
 | _=>none
def ydv:P2:=fun x y h=>match x,y with|.tup xs,.int i=>(match atI xs i with|some v=>some (v,h)|none=>none)|_,_=>none
noncomputable def yxt:P2:=fun x y h=>match x,y with|.str s,.int i=>(match atI s.cps.toList i with|some c=>if s.length<=100000 then some (sgn c,h) else none|none=>none)|_,_=>none
theorem RepL.at {F:Hp}{m:List Addr}{xs:List PV}{vs:List V}(r:RepL K F m xs vs) {i:Int}{x:PV}(e:atI xs i=some x):∃ v,atI vs i=some v/\Rep K F m x v:=by
 unfold atI at e ⊢
 rw [r.len]
 obtain ⟨j,e1,e2⟩:=Option.bind_eq_some_iff.mp e
 rw [e1]
 exact r.get e2
theorem WOk.loc {W:Wd}(w:WOk K W) {n:Nat}{d:Nd}{v:V}(e:W.h[n]?=Option.some d) (r:yeI K W (.loc n) v):∃ a,v=.ref a/\W.m[n]?=Option.some a/\NdAt K W.F W.H W.m d a:=by
 obtain ⟨a,ea,h⟩:=r
 exact ⟨a,ea,h,w.at_ n d a e h⟩
theorem yfh:yge K (yJw K.K) yhL:=by
 intro W x y v u Q z h' w rx ry e q
 unfold yhL at e
 split at e
 .rename_i i
  split at e
  .rename_i xs
   split at e
   .rename_i y hy
    cases e
    obtain ⟨a,vs,ev,hs,rs⟩:=rx
    obtain ⟨v',h1,h2⟩:=rs.at hy
    exact ⟨a,vs,i,v',ev,ry,SqL.of (w.le _ _ hs),h1,q _ W rfl (.refl w) h2⟩
   .cases e
  .rename_i ns
   split at e
   .rename_i y hy
    cases e
    obtain ⟨a,ev,hs⟩:=rx
    refine ⟨a,_,i,.int y,ev,ry,yjZ w hs,?_,q _ W rfl (.refl w) rfl⟩
    unfold atI at hy ⊢
    rw [List.length_map]
    obtain ⟨j,e1,e2⟩:=Option.bind_eq_some_iff.mp hy
    rw [e1]
    show (ns.map V.int)[j]?=_
    rw [List.getElem?_map,e2];rfl
   .cases e
  .rename_i n
   split at e
   .rename_i xs hn
    split at e
    .rename_i y hy
     cases e
     obtain ⟨a,ev,hm,hf,vs,hp,rs⟩:=w.loc hn rx
     obtain ⟨v',h1,h2⟩:=rs.at hy
     exact ⟨a,vs,i,v',ev,ry,SqL.of hp,h1,q _ W rfl (.refl w) h2⟩
    .cases e
   .cases e
  .cases e
 .cases e
theorem ybE:yge K (yJx K.K) ydv:=by
 intro W x y v u Q z h' w rx ry e q
 unfold ydv at e
 split at e
 .rename_i xs i
  split at e
  .rename_i y hy
   cases e
   obtain ⟨a,vs,ev,hs,rs⟩:=rx
   obtain ⟨v',h1,h2⟩:=rs.at hy
   exact ⟨a,vs,i,v',ev,ry,yfg w hs,h1,q _ W rfl (.refl w) h2⟩
  .cases e
 .cases e
theorem yst:yge K yJy yxt:=by
 intro W x y v u Q z h' w rx ry e q
 unfold yxt at e
 split at e
 .rename_i s i
  split at e
  .rename_i c hc
   split at e
   .rename_i hl
    cases e
    exact ⟨s,i,c,rx,ry,yIY hl,hc,q _ W rfl (.refl w) rfl⟩
   .cases e
  .cases e
 .cases e
noncomputable def yJb:PV->Option Int->Option Int->AH->Option (PV×AH):=fun x lo hi h=>match x with|.str z=>if z.length<=100000 then some (.str (yIW z lo hi),h) else none|_=>none
theorem yJR:yAV K yLo yJb:=by
 intro W x v lo hi Q z h' w rx e q
 unfold yJb at e
 split at e
 .rename_i s
  split at e
  .rename_i hl
   cases e
   exact ⟨s,rx,by omega,q _ W rfl (.refl w) rfl⟩
  .cases e
 .cases e
noncomputable def yns {α:Type}(xs:List α) (lo hi:Option Int):List α:=(xs.drop (HT.sIx xs.length 0 lo)).take (HT.sIx xs.length xs.length hi-HT.sIx xs.length 0 lo)
noncomputable def listOf (x:PV) (h:AH):Option (List PV):=match x with|.lst xs=>some xs|.scr ns=>some (ns.map .int)|.loc n=>(match h[n]? with|some (.lst xs)=>some xs|_=>none)|_=>none
theorem ypO {W:Wd}(w:WOk K W) {x:PV}{v:V}{xs:List PV}(e:listOf x W.h=some xs) (r:yeI K W x v):∃ a vs,v=.ref a/\SqL K.K W.H a vs/\yfb K W xs vs:=by
 unfold listOf at e
 split at e
 .cases e
  obtain ⟨a,vs,ev,hs,rs⟩:=r
  exact ⟨a,vs,ev,SqL.of (w.le _ _ hs),rs⟩
 .rename_i ns
  cases e
  obtain ⟨a,ev,hs⟩:=r
  exact ⟨a,_,ev,yjZ w hs,RepL.of_ints ns⟩
 .rename_i n
  split at e
  .rename_i ys hn
   cases e
   obtain ⟨a,ev,hm,hf,vs,hp,rs⟩:=w.loc hn r
   exact ⟨a,vs,ev,SqL.of hp,rs⟩
  .cases e
 .cases e
noncomputable def yew (x:PV) (h:AH):Option (List PV):=match x with|.lst xs=>some xs|.loc n=>(match h[n]? with|some (.lst xs)=>some xs|_=>none)|_=>none
theorem ycg {W:Wd}(w:WOk K W) {x:PV}{v:V}{xs:List PV}(e:yew x W.h=some xs) (r:yeI K W x v):∃ a vs,v=.ref a/\W.H a=some (.lst vs)/\yfb K W xs vs:=by
 unfold yew at e
 split at e
 .cases e
  obtain ⟨a,vs,ev,hs,rs⟩:=r
  exact ⟨a,vs,ev,w.le _ _ hs,rs⟩
 .rename_i n
  split at e
  .rename_i ys hn
   cases e
   obtain ⟨a,ev,hm,hf,vs,hp,rs⟩:=w.loc hn r
   exact ⟨a,vs,ev,hp,rs⟩
  .cases e
 .cases e
theorem yJc {W:Wd}(w:WOk K W) {p:Addr}(hp:W.H p=none) {xs:List PV}{vs:List V}(r:yfb K W xs vs) {Q:VK}(q:ywC K W (.lst xs) W.h Q):Q (.ref p) (upd W.H p (.lst vs)) :=
 q p (ypc W p (.lst vs)) rfl (ygf w hp) (w.out hp) hp (fun z=>by cases z) ⟨w.ff hp,vs,yQ,r⟩
noncomputable def yAp:PV->Option Int->Option Int->AH->Option (Nd×AH):=fun x lo hi h=>match listOf x h with|some xs=>some (.lst (yns xs lo hi),h)|none=>none
theorem ywI:yyh K (yLk K.K) yAp:=by
 intro W x v lo hi Q d h' w rx e q
 unfold yAp at e
 split at e
 .rename_i xs hx
  cases e
  obtain ⟨a,vs,ev,hs,rs⟩:=ypO w hx rx
  refine ⟨a,vs,ev,hs,fun p hp=>yJc w hp ?_ q⟩
  have:=(rs.drop (HT.sIx xs.length 0 lo)).take (HT.sIx xs.length xs.length hi-HT.sIx xs.length 0 lo)
  unfold yns yAn
  rw [rs.len]
  exact this
 .cases e
noncomputable def yCR:P2O:=fun x y h=>match yew x h,yew y h with|some xs,some ys=>if xs.length+ys.length<=100000 then some (.lst (xs++ys),h) else none|_,_=>none
theorem yyr:yya K yLm yCR:=by
 intro W x y v u Q d h' w rx ry e q
 unfold yCR at e
 split at e
 .rename_i xs ys hx hy
  split at e
  .rename_i hl
   cases e
   obtain ⟨a,vs,ev,hs,rs⟩:=ycg w hx rx
   obtain ⟨b,us,eu,ht,ru⟩:=ycg w hy ry
   refine ⟨a,b,vs,us,ev,eu,hs,ht,by rw [rs.len,ru.len];exact yIY hl,fun p hp=>yJc w hp (rs.app ru) q⟩
  .cases e
 .cases e
def repL {α:Type}(k:Nat) (xs:List α):List α:=(List.replicate k xs).flatten
noncomputable def yys (x:PV) (h:AH):Option Nat:=match x with|.tup xs=>some xs.length|.lst xs=>some xs.length|.scr ns=>some ns.length|.loc n=>(match h[n]? with|some (.lst xs)=>some xs.length|_=>none)|_=>none
noncomputable def yiU:List PV->AH->Option (PV×AH):=fun xs h=>match xs with|[x]=>(match yys x h with|some n=>some (.int n,h)|none=>none)|_=>none
noncomputable def yBo:List PV->AH->Option (PV×AH):=fun xs h=>match xs with|[.str z]=>if z.length<=100000 then some (.int z.length,h) else none|_=>none
theorem ywJ {W:Wd}{x:PV}{vs:List V}(r:yfb K W [x] vs):∃ v,vs=[v]/\yeI K W x v:=by
 obtain ⟨v,r',e,h,l⟩:=r
 exact ⟨v,by rw [e,show r'=[] from l],h⟩
theorem yLr {W:Wd}{x y:PV}{vs:List V}(r:yfb K W [x,y] vs):∃ v u,vs=[v,u]/\yeI K W x v/\yeI K W y u:=by
 obtain ⟨v,r',e,h,l⟩:=r
 obtain ⟨u,e2,h2⟩:=ywJ l
 exact ⟨v,u,by rw [e,e2],h,h2⟩
theorem ymu:yqr K (yJM K.K) yiU:=by
 intro W xs vs Q z h' w r e q
 unfold yiU at e
 split at e
 .rename_i x
  split at e
  .rename_i n hn
   cases e
   obtain ⟨v,rfl,rx⟩:=ywJ r
   have fin:∀ (ys:List V),ys.length=n->Q (.int ys.length) W.H:=fun ys hl=>by rw [hl];exact q _ W rfl (.refl w) rfl
   unfold yys at hn
   split at hn
   .cases hn
    obtain ⟨a,us,rfl,hs,rs⟩:=rx
    exact ⟨a,us,rfl,.inr (yfg w hs),fin _ rs.len⟩
   .rename_i ys
    cases hn
    obtain ⟨a,us,rfl,hs,rs⟩:=rx
    exact ⟨a,us,rfl,.inl (SqL.of (w.le _ _ hs)),fin _ rs.len⟩
   .rename_i ns
    cases hn
    obtain ⟨a,rfl,hs⟩:=rx
    exact ⟨a,_,rfl,.inl (yjZ w hs),fin _ (by simp)⟩
   .split at hn
    .rename_i ys hy
     cases hn
     obtain ⟨a,rfl,hm,hf,us,hp,rs⟩:=w.loc hy rx
     exact ⟨a,us,rfl,.inl (SqL.of hp),fin _ rs.len⟩
    .cases hn
   .cases hn
  .cases e
 .cases e
theorem yHr:yqr K yJL yBo:=by
 intro W xs vs Q z h' w r e q
 unfold yBo at e
 split at e
 .rename_i s
  split at e
  .rename_i hl
   cases e
   obtain ⟨v,rfl,rx⟩:=ywJ r
   exact ⟨s,by rw [show v=_ from rx],yIY hl,q _ W rfl (.refl w) rfl⟩
  .cases e
 .cases e
noncomputable def ywK:List PV->AH->Option (PV×AH):=fun xs h=>match xs with|[.int i]=>some (.int i,h)|[.bl k]=>some (.int (if k then 1 else 0),h)|_=>none
theorem yyt:yqr K yJK ywK:=by
 intro W xs vs Q z h' w r e q
 unfold ywK at e
 split at e
 .rename_i i
  cases e
  obtain ⟨v,rfl,rx⟩:=ywJ r
  exact .inl ⟨i,by rw [show v=_ from rx],q _ W rfl (.refl w) rfl⟩
 .rename_i k
  cases e
  obtain ⟨v,rfl,rx⟩:=ywJ r
  exact .inr ⟨k,by rw [show v=_ from rx],q _ W rfl (.refl w) rfl⟩
 .cases e
noncomputable def ybW:List PV->AH->Option (Nd×AH):=fun xs h=>match xs with|[.tup ys]=>some (.lst ys,h)|[x]=>(match listOf x h with|some ys=>some (.lst ys,h)|none=>none)|_=>none
theorem ycN:ysp K (yEt K.K) ybW:=by
 intro W xs vs Q d h' w r e q
 unfold ybW at e
 split at e
 .rename_i ys
  cases e
  obtain ⟨v,rfl,a,us,rfl,hs,rs⟩:=ywJ r
  exact ⟨a,us,rfl,.inr (yfg w hs),fun p hp=>yJc w hp rs q⟩
 .rename_i x _
  split at e
  .rename_i ys hy
   cases e
   obtain ⟨v,rfl,rx⟩:=ywJ r
   obtain ⟨a,us,rfl,hs,rs⟩:=ypO w hy rx
   exact ⟨a,us,rfl,.inl hs,fun p hp=>yJc w hp rs q⟩
  .cases e
 .cases e
def intsOf:List PV->Option (List Int)
 | []=>some []
 | .int s::r=>(intsOf r).map (s::·)
 | _=>none
theorem ypP:∀ ss:List Int,intsOf (ss.map .int)=some ss
 | []=>rfl
 | s::ss=>by show (intsOf (ss.map .int)).map _=_;rw [ypP ss];rfl
theorem ypQ {F:Hp}{m:List Addr}:∀ {xs:List PV}{ss:List Int}{vs:List V},intsOf xs=some ss->RepL K F m xs vs->vs=ss.map V.int
 | [],_,_,e,r=>by cases e;exact r
 | x::xs,ss,_,e,⟨v,r',ev,h,l⟩=>by
  cases x<;>try cases e
  rename_i s
  obtain ⟨ts,e1,e2⟩:=Option.map_eq_some_iff.mp e
  subst e2
  rw [ev,show v=_ from h,ypQ e1 l];rfl
noncomputable def yEZ:List PV->AH->Option (PV×AH):=fun xs h=>match xs with|[x]=>(match yew x h with|some ys=>(match intsOf ys with|some ns=>some (.int ns.sum,h)|none=>none)|none=>none)|_=>none
theorem yFa:yqr K yLp yEZ:=by
 intro W xs vs Q z h' w r e q
 unfold yEZ at e
 split at e
 .split at e
  .rename_i ys hy
   split at e
   .rename_i ns hn
    cases e
    obtain ⟨v,rfl,rx⟩:=ywJ r
    obtain ⟨a,us,rfl,hs,rs⟩:=ycg w hy rx
    have:=ypQ hn rs
    subst this
    exact ⟨a,ns,rfl,hs,q _ W rfl (.refl w) rfl⟩
   .cases e
  .cases e
 .cases e
def isStr:PV->AH->Bool:=fun x _=>match x with|.str _=>true|_=>false
noncomputable def ydW:PM:=fun x xs h=>match x,xs with|.str z,[.str s]=>(match s.cps.toList with|[c]=>if z.length<=1000/\c∈z.cps.toList then some (.int (z.cps.toList.idxOf c),h) else none|_=>none)|_,_=>none
theorem yej:ysq K "str" isStr yxV ydW:=by
 refine ⟨fun W x v w r c=>?_,fun W x v xs vs Q z h' w rx r e q=>?_⟩
 .unfold isStr at c
  split at c
  .rw [show v=_ from r];rfl
  .cases c
 .unfold ydW at e
  split at e
  .rename_i z s
   split at e
   .rename_i c hc
    split at e
    .rename_i hl
     cases e
     obtain ⟨u,rfl,ru⟩:=ywJ r
     exact ⟨z,c,rx,by rw [show u=_ from ru,one_sign hc],hl.1,hl.2,q _ W rfl (.refl w) rfl⟩
    .cases e
   .cases e
  .cases e
end PX
namespace PX
open PySem L2
variable {K:Ck}
noncomputable def putN (f:Str) (x:PV) (ns:List Str) (xs:List PV):List Str×List PV:=if f∈ns then (ns,xs.set (ns.idxOf f) x) else (ns++[f],xs++[x])
theorem yvD (f:Str) (y:V):∀ (ns:List Str) (vs:List V),vs.length=ns.length->ypL f y (ns.zip vs)=if f∈ns then ns.zip (vs.set (ns.idxOf f) y) else (ns++[f]).zip (vs++[y])
 | [],[],_=>by simp [ypL]
 | n::ns,v::vs,hl=>by
  have ih:=yvD f y ns vs (by simpa using hl)
  show (if n=f then (n,y)::ns.zip vs else (n,v)::ypL f y (ns.zip vs))=_
  by_cases h:n=f
  .subst h
   simp [List.idxOf_cons_self]
  .have h':¬ f=n:=fun z=>h z.symm
   have hb:(n == f)=false:=by simpa using h
   rw [if_neg h,ih]
   by_cases hm:f∈ns
   .simp [hm,h',List.idxOf_cons,hb]
   .simp [hm,h']
theorem ypR {f:Str}:∀ {ns:List Str}{vs:List V},vs.length=ns.length->f∈ns->(ns.zip vs).lookup f=vs[ns.idxOf f]?
 | [],_,_,h=>by simp at h
 | n::ns,v::vs,hl,h=>by
  show List.lookup f ((n,v)::ns.zip vs)=_
  by_cases hn:f=n
  .subst hn
   rw [yJO,List.idxOf_cons_self];rfl
  .rw [yGZ hn,ypR (by simpa using hl) (by simpa [hn] using h)]
   have hb:(n == f)=false:=by simpa using fun z:n=f=>hn z.symm
   simp [List.idxOf_cons,hb]
theorem yiV {f:Str}:∀ {ns:List Str}{vs:List V},f∉ns->(ns.zip vs).lookup f=none
 | [],_,_=>by simp
 | n::ns,[],_=>by simp
 | n::ns,v::vs,h=>by
  show List.lookup f ((n,v)::ns.zip vs)=_
  rw [yGZ (fun z:f=n=>h (by rw [z];exact List.mem_cons_self)),yiV fun z=>h (List.mem_cons_of_mem _ z)]
noncomputable def yka (x:PV) (h:AH):Option (Nat×List Str×List PV):=match x with|.ins k ns xs=>some (k,ns,xs)|.loc n=>(match h[n]? with|some (.ins k ns xs)=>some (k,ns,xs)|_=>none)|_=>none
theorem ynR {W:Wd}(w:WOk K W) {x:PV}{v:V}{k:Nat}{ns:List Str}{xs:List PV}(e:yka x W.h=some (k,ns,xs)) (r:yeI K W x v):∃ a dx vs,v=.ref a/\W.H a=some (.ins (K.A k) dx (ns.zip vs))/\vs.length=ns.length/\yfb K W xs vs:=by
 unfold yka at e
 split at e
 .cases e
  obtain ⟨a,dx,vs,ev,hs,hl,rs⟩:=r
  exact ⟨a,dx,vs,ev,w.le _ _ hs,hl,rs⟩
 .rename_i n
  split at e
  .rename_i hn
   cases e
   obtain ⟨a,ev,hm,hf,dx,vs,hp,hl,rs⟩:=w.loc hn r
   exact ⟨a,dx,vs,ev,hp,hl,rs⟩
  .cases e
 .cases e
noncomputable def yfi (cs:List Nat) (f:Str) (e:XE):XE:=fun ρ h=>ob (e ρ h) fun x h1=>match yka x h1 with|some (k,ns,xs)=>if k∈cs/\f∈ns then (match xs[ns.idxOf f]? with|some y=>some (y,h1)|none=>none) else none|none=>none
theorem yFb {cs:List Nat}{f:Str}{ta:TE}{ea:XE}(hc:∀ k∈cs,Cls K.K (K.A k)/\NoAttr K.K (K.A k) f) (a:ydn K ta ea):ydn K (yLg K.K ta f) (yfi cs f ea):=by
 intro W0 W ρ σ Q z h' g e q
 obtain ⟨x,h1,e1,f1⟩:=yn e
 refine a W0 W ρ σ _ x h1 g e1 fun v W1 w1 l1 r1=>?_
 subst w1
 split at f1
 .rename_i k ns xs hi
  split at f1
  .rename_i c
   split at f1
   .rename_i y hy
    cases f1
    obtain ⟨a,dx,vs,ev,hp,hl,rs⟩:=ynR l1.ok hi r1
    obtain ⟨u,h2,h3⟩:=rs.get hy
    exact ⟨a,_,dx,_,u,ev,hp,(hc k c.1).1,(hc k c.1).2,by rw [ypR hl c.2];exact h2,q _ W1 rfl l1 h3⟩
   .cases f1
  .cases f1
 .cases f1
noncomputable def yfc (cs:List Nat) (i:Nat) (f:Str) (e:XE):XS:=fun ρ h=>ob (e ρ h) fun x h1=>match ρ[i]? with
 | some (.own (.ins k ns xs))=>if k∈cs/\ns.length<1000 then some (.nx (ρ.set i (.own (.ins k (putN f x ns xs).1 (putN f x ns xs).2))),h1) else none
 | _=>none
theorem RepL.putN {F:Hp}{m:List Addr}{f:Str}{x:PV}{v:V}{ns:List Str}{xs:List PV}{vs:List V}(r:RepL K F m xs vs) (hl:vs.length=ns.length) (rx:Rep K F m x v) :
  ∃ us,ypL f v (ns.zip vs)=(PX.putN f x ns xs).1.zip us/\us.length=(PX.putN f x ns xs).1.length/\RepL K F m (PX.putN f x ns xs).2 us:=by
 rw [yvD f v ns vs hl]
 unfold PX.putN
 by_cases h:f∈ns
 .rw [if_pos h,if_pos h]
  exact ⟨_,rfl,by rw [List.length_set];exact hl,r.set _ rx⟩
 .rw [if_neg h,if_neg h]
  exact ⟨_,rfl,by rw [List.length_append,List.length_append,hl];rfl,r.snoc rx⟩
noncomputable def yAq (K:Ck) (t:TS) (s:XS):Prop:=∀ (W0 W:Wd) (ρ ρ':PSt) (σ:St) (D:Ends) (h':AH),Good K W0 W ρ σ->s ρ W.h=some (.nx ρ',h')->(∀ W',W'.h=h'->Lf K W W'->Good K W0 W' ρ' σ->D.nx σ W'.H)->t D σ W.H
theorem yBp {cs:List Nat}{i:Nat}{f:Str}{ta:TE}{ea:XE}(hc:∀ k∈cs,Cls K.K (K.A k)/\NoAttr K.K (K.A k) f) (a:ydn K ta ea):yAq K (yJt K.K (yCv i) ta f) (yfc cs i f ea):=by
 intro W0 W ρ ρ' σ D h' g e q
 obtain ⟨x,h1,e1,f1⟩:=yn e
 split at f1
 .rename_i k ns xs hi
  split at f1
  .rename_i c
   cases f1
   refine a W0 W ρ σ _ x _ g e1 fun v W1 w1 l1 r1=>?_
   have g1:=g.step l1
   obtain ⟨p,b1,b2,b3,b4,b5,dx,vs,b6,b7,b8⟩:=g1.own i _ hi
   obtain ⟨us,p1,p2,p3⟩:=b8.putN (f:=f) b7 r1
   refine ⟨_,b1,p,_,dx,_,rfl,b6,(hc k c.1).1,(hc k c.1).2,by rw [List.length_zip,b7];simpa using c.2,?_⟩
   rw [p1]
   exact q (yET W1 p _) w1 (yCO l1 b2) (g1.mut hi b1 b2 b3 b5 (fun z=>by cases z) ⟨b5,dx,us,yQ,p2,p3⟩)
  .cases f1
 .cases f1
theorem yBq {t u:TS}{s s':XS}(a:yAq K t s) (b:yAq K u s'):yAq K (yJm t u) (yw s s'):=by
 intro W0 W ρ ρ' σ D h' g e q
 obtain ⟨o1,h1,e1,f1⟩:=yn e
 cases o1 with
 | nx ρ1=>exact a W0 W ρ ρ1 σ _ h1 g e1 fun W1 w1 l1 g1=>b W0 W1 ρ1 ρ' σ D h' g1 (by rw [w1];exact f1) fun W2 w2 l2 g2=>q W2 w2 (l1.trans l2) g2
 | rt y=>cases f1
 | bk y=>cases f1
 | ct y=>cases f1
noncomputable def ytM (N:Nat) (k:Nat) (s:XS):List PV->AH->Option (Nd×AH):=fun xs h=>ob (s (.own (.ins k [] [])::(xs.map .val++List.replicate (N-(xs.length+1)) .no)) h) fun o h1=>match o with|.nx ρ=>(match ρ[0]? with|some (PVar.own d)=>some (d,h1)|_=>none)|_=>none
noncomputable def spI (K:Ck) (n k:Nat) (f:List PV->AH->Option (Nd×AH)):Sp:=fun vs H Q _=>∃ (W:Wd) (x dx:Addr) (args:List V) (xs:List PV) (d:Nd) (h':AH),vs=.ref x::args/\W.H x=none/\W.H dx=none/\dx≠x/\H=upd (upd W.H dx (.own x)) x (.ins (K.A k) dx []) /\
 WOk K W/\yfb K W xs args/\xs.length=n/\f xs W.h=some (d,h')/\∀ W',W'.h=h'->Le K W W'->x∉W'.m->d≠.dead->NdAt K W'.F W'.H W'.m d x->Q .non W'.H
theorem yFc {n k:Nat}{f} {vs:List V}{H:Hp}{Q:VK}{E:XK}(h:spI K n k f vs H Q E):vs.length=n+1:=by
 obtain ⟨W,x,dx,args,xs,d,h',rfl,_,_,_,_,w,r,hn,_⟩:=h
 rw [List.length_cons,r.len,hn]
theorem yBr {N:List Str}{n k:Nat}{t:TS}{s:XS}{vs:List V}{H:Hp}{Q:VK}{E:XK}{bk ct:St->Hp->Prop}(hN:n+1<=N.length) (a:yAq K t s) (h:spI K n k (ytM N.length k s) vs H Q E):t ⟨fun _ H'=>Q .non H',Q,bk,ct⟩ (L2.start N vs) H:=by
 obtain ⟨W,x,dx,args,xs,d,h',rfl,hx,hd,hne,rfl,w,r,hn,e,q⟩:=h
 obtain ⟨o,h1,e1,f1⟩:=yn e
 have l1:Le K W (ypc W dx (.own x)):=ygf w hd
 have hx1:(ypc W dx (.own x)).H x=none:=(ybc hne.symm).trans hx
 have l2:Le K (ypc W dx (.own x)) (ypc (ypc W dx (.own x)) x (.ins (K.A k) dx [])):=ygf l1.ok hx1
 have l:=l1.trans l2
 have gs:=ylM (K:=K) (N:=N.drop 1) w r
 have g:Good K W (ypc (ypc W dx (.own x)) x (.ins (K.A k) dx [])) (.own (.ins k [] [])::(xs.map .val++List.replicate (N.length-(xs.length+1)) .no)) (L2.start N (.ref x::args)):=by
  have es:L2.start N (.ref x::args)=some (.ref x)::L2.start (N.drop 1) args:=by
   have e3:N.length-(args.length+1)=(N.drop 1).length-args.length:=by rw [List.length_drop];omega
   unfold L2.start
   rw [List.map_cons,List.cons_append,List.length_cons,e3]
  have eN:N.length-(xs.length+1)=(N.drop 1).length-xs.length:=by rw [List.length_drop];omega
  rw [es,eN]
  have gs':=gs.step l
  have noown:∀ (j:Nat) (d:Nd),(xs.map PVar.val++List.replicate ((N.drop 1).length-xs.length) .no)[j]?≠some (.own d):=fun j d z=>by
   by_cases hj:j<xs.length
   .rw [List.getElem?_append_left (by simpa using hj),List.getElem?_map,List.getElem?_eq_getElem hj] at z
    cases z
   .rw [List.getElem?_append_right (by simp;omega),List.getElem?_replicate] at z
    split at z<;>cases z
  refine ⟨l,by rw [List.length_cons,List.length_cons,gs.len],fun j y z=>?_,fun j d z=>?_,fun i j d d' hij z z'=>?_⟩
  .cases j with
   | zero=>cases z
   | succ j=>exact gs'.val j y z
  .cases j with
   | zero=>cases z;exact ⟨x,rfl,w.out hx,hx,(fun z=>by cases z),w.ff hx,dx,[],yQ,rfl,rfl⟩
   | succ j=>exact absurd z (noown j d)
  .cases i with
   | zero =>
    cases j with
    | zero=>exact absurd rfl hij
    | succ j=>exact absurd z' (noown j d')
   | succ i=>exact absurd z (noown i d)
 cases o with
 | rt y=>cases f1
 | bk ρ=>cases f1
 | ct ρ=>cases f1
 | nx ρ =>
  refine a W _ _ ρ _ _ h1 g e1 fun W' ew lf g'=>?_
  dsimp only at f1
  split at f1
  .rename_i d' hd'
   cases f1
   obtain ⟨p,b1,b2,b3,b4,b5⟩:=g'.own 0 _ hd'
   have b1:some (some (V.ref x))=some (some (V.ref p)):=b1
   cases b1
   exact q W' ew g'.le b2 b4 b5
  .cases f1
def ylN (f:List PV->AH->Option (Nd×AH)) (a:XA):XO:=fun ρ h=>ob (a ρ h) f
theorem yvE {n k:Nat}{f} {ex:XK}{t:TA}{e:XA}(a:ytL K t e) (hn:∀ ρ h xs h',e ρ h=some (xs,h')->xs.length=n):yvz K (yEn (K.A k) (spI K n k f) [] ex t) (ylN f e):=by
 intro W0 W ρ σ Q d h' g e' q
 obtain ⟨xs,h1,e1,e2⟩:=yn e'
 refine a W0 W ρ σ _ xs h1 g e1 fun vs W1 w1 l1 r1=>?_
 subst w1
 intro x dx hx hd hne
 rw [List.append_nil]
 exact ⟨W1,x,dx,vs,xs,d,h',rfl,hx,hd,hne,rfl,l1.ok,r1,hn _ _ _ _ e1,e2,fun W2 w2 l2 hm hdd at_=>⟨rfl,q x W2 w2 (l1.trans l2) hm (l1.fresh hx) hdd at_⟩⟩
def yvF (k:Nat):XO:=fun _ h=>some (.ins k [] [],h)
theorem yyu {k:Nat}:yvz K (yCH (K.A k)) (yvF k):=by
 intro W0 W ρ σ Q d h' g e q
 cases e
 intro x dx hx hd hne
 have w:=g.ok
 have l1:Le K W (ypc W dx (.own x)):=ygf w hd
 have hx1:(ypc W dx (.own x)).H x=none:=(ybc hne.symm).trans hx
 have l2:Le K (ypc W dx (.own x)) (ypc (ypc W dx (.own x)) x (.ins (K.A k) dx [])):=ygf l1.ok hx1
 exact q x (ypc (ypc W dx (.own x)) x (.ins (K.A k) dx [])) rfl (l1.trans l2) (w.out hx) hx (fun z=>by cases z) ⟨w.ff hx,dx,[],yQ,rfl,rfl⟩
noncomputable def ywL (tb:List (Nat×Nat×Bool)) (x c:PV) (h:AH):Option Bool:=match c with
 | .ty n=>(match x with
  | .int _=>if n = "int" then some true else if n = "bool"\/n = "str"\/n = "list"\/n = "tuple"\/n = "dict" then some false else none
  | .bl _=>if n = "int"\/n = "bool" then some true else if n = "str"\/n = "list"\/n = "tuple"\/n = "dict" then some false else none
  | .str _=>if n = "str" then some true else if n = "int"\/n = "bool"\/n = "list"\/n = "tuple"\/n = "dict" then some false else none
  | .non=>if n = "int"\/n = "bool"\/n = "str"\/n = "list"\/n = "tuple"\/n = "dict" then some false else none
  | .tup _=>if n = "tuple" then some true else if n = "int"\/n = "bool"\/n = "str"\/n = "list"\/n = "dict" then some false else none
  | _=>(match yew x h with|some _=>if n = "list" then some true else if n = "int"\/n = "bool"\/n = "str"\/n = "tuple"\/n = "dict" then some false else none|none=>none))
 | .cls c'=>(match yka x h with|some (k,_)=>(tb.find? fun r=>r.1 == k && r.2.1 == c').map (·.2.2)|none=>none)
 | _=>none
noncomputable def ycm (tb:List (Nat×Nat×Bool)):List PV->AH->Option (PV×AH):=fun xs h=>match xs with|[x,c]=>(match ywL tb x c h with|some b=>some (.bl b,h)|none=>none)|_=>none
theorem yiW {tb:List (Nat×Nat×Bool)}(ht:∀ r∈tb,∀ (H:Hp) (a dx:Addr) (fs:List (Str×V)),H a=some (.ins (K.A r.1) dx fs)->IsI K.K H (.ref a) (.ref (K.A r.2.1)) r.2.2):yqr K (yLn K.K) (ycm tb):=by
 intro W xs vs Q z h' w r e q
 unfold ycm at e
 split at e
 .rename_i x c
  split at e
  .rename_i b hb
   cases e
   obtain ⟨v,u,rfl,rx,ru⟩:=yLr r
   refine ⟨v,u,b,rfl,?_,q _ W rfl (.refl w) rfl⟩
   unfold ywL at hb
   split at hb
   .rename_i n
    obtain rfl:u=.ty n:=ru
    split at hb
    .rw [show v=_ from rx]
     repeat' split at hb
     all_goals cases hb
     .rename_i hn;subst hn;exact ytU
     .rename_i hn;rcases hn with rfl|rfl|rfl|rfl|rfl
      .exact yrY
      .exact ytZ
      .exact ysb
      .exact yqm
      .exact ysc
    .rw [show v=_ from rx]
     repeat' split at hb
     all_goals cases hb
     .rename_i hn;rcases hn with rfl|rfl
      .exact ywz
      .exact ytW
     .rename_i hn;rcases hn with rfl|rfl|rfl|rfl
      .exact ywA
      .exact yua
      .exact ysd
      .exact yub
    .rw [show v=_ from rx]
     repeat' split at hb
     all_goals cases hb
     .rename_i hn;subst hn;exact ytX
     .rename_i hn;rcases hn with rfl|rfl|rfl|rfl|rfl
      .exact yuc
      .exact yse
      .exact ysf
      .exact yqn
      .exact ysg
    .rw [show v=_ from rx]
     repeat' split at hb
     all_goals cases hb
     .rename_i hn;rcases hn with rfl|rfl|rfl|rfl|rfl|rfl
      .exact ytV
      .exact ysh
      .exact yud
      .exact ysi
      .exact yqo
      .exact ysj
    .obtain ⟨a,us,rfl,hs,_⟩:=rx
     have hp:(∃ xs,W.H a=some (.tup xs))\/∃ o,K.K.lookup a=some o/\o.cls=.type "tuple":=hs.elim (fun h=>.inl ⟨_,w.le _ _ h⟩) fun ⟨o,its,n,e1,e2,_⟩=>.inr ⟨o,e1,e2⟩
     repeat' split at hb
     all_goals cases hb
     .rename_i hn;subst hn;exact yqq hp
     .rename_i hn;rcases hn with rfl|rfl|rfl|rfl|rfl
      .exact yug hp
      .exact ysm hp
      .exact yuh hp
      .exact ysn hp
      .exact yso hp
    .split at hb
     .rename_i ys hy
      obtain ⟨a,us,rfl,hp,_⟩:=ycg w hy rx
      repeat' split at hb
      all_goals cases hb
      .rename_i hn;subst hn;exact yrZ hp
      .rename_i hn;rcases hn with rfl|rfl|rfl|rfl|rfl
       .exact yue hp
       .exact ysk hp
       .exact yuf hp
       .exact yqp hp
       .exact ysl hp
     .cases hb
   .rename_i c'
    obtain rfl:u=.ref (K.A c'):=ru
    split at hb
    .rename_i k p hi
     obtain ⟨r',h1,h2⟩:=Option.map_eq_some_iff.mp hb
     have hm:=List.mem_of_find?_eq_some h1
     have hp:=List.find?_some h1
     simp only [Bool.and_eq_true,beq_iff_eq] at hp
     obtain ⟨a,dx,us,rfl,hs,_⟩:=ynR w hi rx
     obtain ⟨p1,p2⟩:=hp
     have:=ht r' hm W.H a dx (p.1.zip us) (by rw [p1];exact hs)
     rw [p2,h2] at this
     exact this
    .cases hb
   .cases hb
  .cases e
 .cases e
end PX
namespace PX
open PySem L2
section
variable {ρ:PSt}{h h1:AH}{x y z:PV}{a b c:XE}{ca cb:XT}{aa:XA}{eo:XO}{s u:XS}{i:Nat}{p:P2}
theorem yv {α β:Type}{x:α}{h:AH}{f:α->AH->Option β}:ob (some (x,h)) f=f x h:=id rfl
theorem yJS {α β:Type}{f:α->AH->Option β}:ob (none:Option (α×AH)) f=none:=id rfl
theorem yBs {α β γ:Type}{o:Option (α×AH)}{f:α->AH->Option (β×AH)}{g:β->AH->Option γ}:ob (ob o f) g=ob o fun x h=>ob (f x h) g:=by cases o<;>rfl
theorem yJT {α β:Type}{q:Prop} [Decidable q] {o o':Option (α×AH)}{f:α->AH->Option β}:ob (if q then o else o') f=if q then ob o f else ob o' f:=by split<;>rfl
theorem yHs:yg 0 (.val x::ρ) h=some (x,h):=id rfl
theorem yHt {v:PVar}{n:Nat}:yg (n+1) (v::ρ) h=yg n ρ h:=by simp [yg]
theorem x_c:xC x ρ h=some (x,h):=id rfl
theorem yJd:xOp p a b ρ h=ob (a ρ h) fun x h1=>ob (b ρ h1) fun y h2=>p x y h2:=id rfl
theorem yJU {p:P2O}:yCJ p a b ρ h=ob (a ρ h) fun x h1=>ob (b ρ h1) fun y h2=>p x y h2:=id rfl
theorem yLs {k:Bool}:oB (.bl k) h=some (k,h):=id rfl
theorem yCS:yJ a ρ h=ob (a ρ h) oB:=id rfl
theorem yHu:ywB a b ρ h=ob (a ρ h) fun x h1=>ob (oB x h1) fun k h1=>if k=true then b ρ h1 else some (.bl false,h1):=id rfl
theorem yHv:yAN a ρ h=ob (a ρ h) fun x h1=>ob (oB x h1) fun k h1=>some (.bl (!k),h1):=id rfl
theorem yJV:yIX ca cb ρ h=ob (ca ρ h) fun k h1=>if k=true then cb ρ h1 else some (false,h1):=id rfl
theorem yLV:xOr ca cb ρ h=ob (ca ρ h) fun k h1=>if k=true then some (true,h1) else cb ρ h1:=id rfl
theorem yJW:yEB ca ρ h=ob (ca ρ h) fun k h1=>some (!k,h1):=id rfl
theorem yLW:xIf ca a b ρ h=ob (ca ρ h) fun k h1=>if k=true then a ρ h1 else b ρ h1:=id rfl
theorem yyv:yr ρ h=some ([],h):=id rfl
theorem yvG:yc a aa ρ h=ob (a ρ h) fun x h1=>ob (aa ρ h1) fun xs h2=>some (x::xs,h2):=id rfl
theorem yHw:yiQ aa ρ h=ob (aa ρ h) fun xs h1=>if xs.length<=1000 then some (.tup xs,h1) else none:=id rfl
theorem yJX:ylF aa ρ h=ob (aa ρ h) fun xs h1=>if xs.length<=1000 then some (.lst xs,h1) else none:=id rfl
def fzN:Nd->AH->Option (PV×AH)
 | .lst xs,h=>some (.lst xs,h)
 | .ins k ns xs,h=>some (.ins k ns xs,h)
 | _,_=>none
theorem yJY:xFz eo ρ h=ob (eo ρ h) fzN:=by
 unfold xFz;congr;funext d h1;cases d<;>rfl
theorem yJZ {xs:List PV}:fzN (.lst xs) h=some (.lst xs,h):=id rfl
theorem yKa {k:Nat}{ns:List Str}{xs:List PV}:fzN (.ins k ns xs) h=some (.ins k ns xs,h):=id rfl
theorem yFd:ylK eo ρ h=ob (eo ρ h) fun d h1=>some (.loc h1.length,h1++[d]):=id rfl
theorem x_call {f:Fn}:ycJ f aa ρ h=ob (aa ρ h) f:=id rfl
theorem yLX {f}:xCB f aa ρ h=ob (aa ρ h) f:=id rfl
theorem yHx {f}:ynM f aa ρ h=ob (aa ρ h) f:=id rfl
theorem yHy {q} {p:PM}:xBM q p a aa ρ h=ob (a ρ h) fun x h1=>if q x h1=true then ob (aa ρ h1) fun xs h2=>p x xs h2 else none:=id rfl
theorem yFe {s:Str}:isStr (.str s) h=true:=id rfl
theorem yHz {f}:ylN f aa ρ h=ob (aa ρ h) f:=id rfl
theorem yFf {k:Nat}:yvF k ρ h=some (.ins k [] [],h):=id rfl
theorem yCT:ybH ρ h=some (.nx ρ,h):=id rfl
noncomputable def sqK (u:XS):Out->AH->Option (Out×AH)
 | .nx ρ,h=>u ρ h
 | .rt x,h=>some (.rt x,h)
 | .bk ρ,h=>some (.bk ρ,h)
 | .ct ρ,h=>some (.ct ρ,h)
theorem ymT:yw s u ρ h=ob (s ρ h) (sqK u):=by
 unfold yw;congr;funext o h1;cases o<;>rfl
theorem ywM:sqK u (.nx ρ) h=u ρ h:=id rfl
theorem yKb:sqK u (.rt x) h=some (.rt x,h):=id rfl
theorem ynS:yff a ρ h=ob (a ρ h) fun _ h1=>some (.nx ρ,h1):=id rfl
theorem yyw:ycB a ρ h=ob (a ρ h) fun x h1=>some (.rt x,h1):=id rfl
theorem yHA:ycL ca s u ρ h=ob (ca ρ h) fun k h1=>if k=true then s ρ h1 else u ρ h1:=id rfl
theorem ywN {g:XG}:ydf a g ρ h=ob (a ρ h) fun x h1=>(g x ρ).bind fun ρ'=>some (.nx ρ',h1):=id rfl
theorem yHB:ysr eo i ρ h=ob (eo ρ h) fun d h1=>some (.nx (ρ.set i (.own d)),h1):=id rfl
theorem yHC:yz i x ρ=some (ρ.set i (.val x)):=id rfl
theorem yHD:yGk [] ρ=some ρ:=id rfl
theorem yFg {g:XG}{r:XGs}{xs:List PV}:ymS g r (x::xs) ρ=(g x ρ).bind fun ρ'=>r xs ρ':=id rfl
theorem yHE {n:Nat}{g:XGs}{xs:List PV}:yEO n g (.tup xs) ρ=if xs.length=n then g xs ρ else none:=id rfl
theorem yKc:yCN i s ρ h=s (yul i ρ) h:=id rfl
theorem yKd {v:PVar}:yul 0 (v::ρ)=yAW v::ρ:=id rfl
theorem yKe {v:PVar}{n:Nat}:yul (n+1) (v::ρ)=v::yul n ρ:=id rfl
theorem yKf {xs:List PV}:yAW (.own (.lst xs))=.val (.lst xs):=id rfl
theorem yFh {it:XA}{g:XG}:yyi it g s ρ h=ob (it ρ h) fun xs h1=>ynO g s xs ρ h1:=id rfl
noncomputable def frK (g:XG) (s:XS) (xs:List PV):Out->AH->Option (Out×AH)
 | .nx ρ,h=>ynO g s xs ρ h
 | .ct ρ,h=>ynO g s xs ρ h
 | .bk ρ,h=>some (.nx ρ,h)
 | .rt y,h=>some (.rt y,h)
theorem yyx {g:XG}{xs:List PV}:ynO g s (x::xs) ρ h=(g x ρ).bind fun ρ1=>ob (s ρ1 h) (frK g s xs):=by
 unfold ynO;congr;funext ρ1;congr;funext o h1;cases o<;>rfl
theorem yKg {g:XG}{xs:List PV}:frK g s xs (.nx ρ) h=ynO g s xs ρ h:=id rfl
theorem yKh {g:XG}{xs:List PV}:frK g s xs (.rt x) h=some (.rt x,h):=id rfl
def fnK:Out->AH->Option (PV×AH)
 | .rt x,h=>some (x,h)
 | .nx _,h=>some (.non,h)
 | _,_=>none
theorem yC {N:Nat}{xs:List PV}:ygG N s xs h=ob (s (xs.map .val++List.replicate (N-xs.length) .no) h) fnK:=by
 unfold ygG;congr;funext o h1;cases o<;>rfl
theorem yKi:fnK (.rt x) h=some (x,h):=id rfl
theorem yKj:fnK (.nx ρ) h=some (.non,h):=id rfl
def inK:Out->AH->Option (Nd×AH)
 | .nx (.own d::_),h=>some (d,h)
 | _,_=>none
theorem yhM {N k:Nat}{xs:List PV}:ytM N k s xs h=ob (s (.own (.ins k [] [])::(xs.map .val++List.replicate (N-(xs.length+1)) .no)) h) inK:=by
 unfold ytM;congr;funext o h1;cases o with
 | nx ρ=>cases ρ with
  | nil=>rfl
  | cons v ρ=>cases v<;>rfl
 | _=>rfl
theorem yKk {d:Nd}:inK (.nx (.own d::ρ)) h=some (d,h):=id rfl
noncomputable def yie (cs:List Nat) (f:Str) (x:PV) (h:AH):Option (PV×AH):=match yka x h with|some (k,ns,xs)=>if k∈cs/\f∈ns then (match xs[ns.idxOf f]? with|some y=>some (y,h)|none=>none) else none|none=>none
theorem ypd {cs:List Nat}{f:Str}:yfi cs f a ρ h=ob (a ρ h) (yie cs f):=id rfl
theorem ybX {cs:List Nat}{f:Str}{k:Nat}{ns:List Str}{xs:List PV}{y:PV}(hk:k∈cs) (hf:f∈ns) (hy:xs[ns.idxOf f]?=some y):yie cs f (.ins k ns xs) h=some (y,h):=by
 unfold yie yka
 simp [hk,hf,hy]
noncomputable def ylG (cs:List Nat) (i:Nat) (f:Str) (ρ:PSt) (x:PV) (h:AH):Option (Out×AH):=match ρ[i]? with
 | some (.own (.ins k ns xs))=>if k∈cs/\ns.length<1000 then some (.nx (ρ.set i (.own (.ins k (putN f x ns xs).1 (putN f x ns xs).2))),h) else none
 | _=>none
theorem yHF {cs:List Nat}{f:Str}:yfc cs i f a ρ h=ob (a ρ h) (ylG cs i f ρ):=id rfl
theorem ydg {cs:List Nat}{f:Str}{k:Nat}{ns:List Str}{xs:List PV}(hk:k∈cs) (hl:ns.length<1000) (hf:f∉ns):ylG cs 0 f (.own (.ins k ns xs)::ρ) x h=some (.nx (.own (.ins k (ns++[f]) (xs++[x]))::ρ),h):=by
 unfold ylG putN
 simp [hk,hl,hf]
theorem x_i {g:Int->Int->PV}{i j:Int}:oI g (.int i) (.int j) h=some (g i j,h):=id rfl
theorem yLY {C:Int->Int->Prop} [∀ i j,Decidable (C i j)] {g:Int->Int->PV}{i j:Int}:oIc C g (.int i) (.int j) h=if C i j then some (g i j,h) else none:=id rfl
theorem yHG {i j:Int}(h1:-18446744073709551616<j) (h2:j<18446744073709551616):MulOk i j=True:=eq_true (.inr ⟨h1,h2⟩)
theorem yKl {i j:Int}(h1:0<=i) (h2:i<18446744073709551616) (h3:0<=j) (h4:j<=1000000):yyp i j=True:=eq_true ⟨⟨h1,h2⟩,h3,h4⟩
theorem yKm {i j:Int}:oEq (.int i) (.int j) h=some (.bl (decide (i=j)),h):=by simp [oEq,sv,yEe]
theorem yKn {i j:Str}:oEq (.str i) (.str j) h=some (.bl (decide (i=j)),h):=by simp [oEq,sv,yEe]
theorem yKo {i j:Int}:oNe (.int i) (.int j) h=some (.bl (!decide (i=j)),h):=by simp [oNe,sv,yEe]
theorem yKp:yGl x .non h=some (.bl (isN x),h):=id rfl
theorem yCU {i j:Str}:yBn (.str i) (.str j) h=if i.length+j.length<=100000 then some (.str (i++j),h) else none:=id rfl
theorem yKq {xs:List PV}{i:Int}:yhL (.lst xs) (.int i) h=(atI xs i).bind fun v=>some (v,h):=by
 simp only [yhL];cases atI xs i<;>rfl
theorem yKr {xs:List PV}{i:Int}:ydv (.tup xs) (.int i) h=(atI xs i).bind fun v=>some (v,h):=by
 simp only [ydv];cases atI xs i<;>rfl
theorem yKs {s:Str}{i:Int}:yxt (.str s) (.int i) h=(atI s.cps.toList i).bind fun c=>if s.length<=100000 then some (sgn c,h) else none:=by
 simp only [yxt];cases atI s.cps.toList i<;>rfl
theorem yKt {xs:List PV}{lo hi:Option Int}:yAp (.lst xs) lo hi h=some (.lst (yns xs lo hi),h):=id rfl
theorem yKu {xs:List Int}{lo hi:Option Int}:yAp (.scr xs) lo hi h=some (.lst (yns (xs.map .int) lo hi),h):=id rfl
theorem yKv {xs ys:List PV}:yCR (.lst xs) (.lst ys) h=if xs.length+ys.length<=100000 then some (.lst (xs++ys),h) else none:=id rfl
theorem yLZ {p} {lo hi}:xSl p a lo hi ρ h=ob (a ρ h) fun x h1=>ob (lo ρ h1) fun l h2=>ob (hi ρ h2) fun u h3=>p x l u h3:=id rfl
theorem yKw {p} {lo hi}:yAO p a lo hi ρ h=ob (a ρ h) fun x h1=>ob (lo ρ h1) fun l h2=>ob (hi ρ h2) fun u h3=>p x l u h3:=id rfl
theorem yHH:yjX a ρ h=ob (a ρ h) fun x h1=>match x with|.int i=>some (some i,h1)|_=>none:=id rfl
theorem yBt:yjY ρ h=some (none,h):=id rfl
theorem yCV {xs:List PV}:yiU [.lst xs] h=some (.int xs.length,h):=id rfl
theorem yHI {xs:List PV}:yiU [.tup xs] h=some (.int xs.length,h):=id rfl
theorem yHJ {xs:List Int}:yiU [.scr xs] h=some (.int xs.length,h):=id rfl
theorem yHK {z:Str}:yBo [.str z] h=if z.length<=100000 then some (.int z.length,h) else none:=id rfl
theorem yFi {k:Bool}:ywK [.bl k] h=some (.int (if k then 1 else 0),h):=id rfl
theorem yuo {xs:List PV}:ybW [.lst xs] h=some (.lst xs,h):=id rfl
theorem yCW {it:XA}{ix:List Nat}:ywF it ix a ρ h=ob (it ρ h) fun xs h1=>if xs.length<=100000 then ob (yAY a (yAX ix ρ) xs h1) fun ys h2=>some (.lst ys,h2) else none:=id rfl
end
end PX
namespace L2
open PySem PySem.Spec PyProof.Rows
end L2
namespace L2
open PySem PySem.Spec PyProof.Rows
section
variable (P:Program) (w:World)
end
section
variable {P:Program}{w:World}{H H':Hp}{h h':Heap}{a:Addr}{o:HO}
end
section
variable {P:Program}{w:World}{H:Hp}{h h':Heap}{x e:Addr}{o':HO}
end
section
variable {fs fs' ex ex':List Addr}{H H1 H2:Hp}{h h1 h2 h':Heap}{a x e:Addr}{o:HO}
end
end L2
namespace L2
open PySem PySem.Spec PyProof.Rows
section
variable {X:Cx}{pins:List (Addr×Obj)}{σ:List (Option V)}{H H':Hp}{s:Shared}{h':Heap}
end
end L2
namespace L2
open PySem PySem.Spec PyProof.Rows
section
variable {X:Cx}
variable {a b:Expr}{ta tb:TE}{pos:Pos}
variable {tA tB':TT}{rest:List Expr}
end
end L2
namespace L2
open PySem PySem.Spec PyProof.Rows
section
variable {X:Cx}{pins:List (Addr×Obj)}{σ:St}{H:Hp}{s:Shared}{a:Addr}{xs ys:List V}
end
section
variable {X:Cx}{pins:List (Addr×Obj)}{σ:St}{H:Hp}{s:Shared}{E:Value->Shared->Prop}
end
section
variable {X:Cx}{st:Stmt}{rest:List Stmt}{t u:TS}{e:Expr}{te:TE}{pos:Pos}
end
section
variable {X:Cx}{pos:Pos}
end
section
variable {X:Cx}{pos:Pos}
end
end L2
namespace L2
open PySem PySem.Spec PyProof.Rows
section
variable {X:Cx}{tg:Expr}
end
end L2
namespace L2
open PySem PySem.Spec PyProof.Rows
section
variable {X:Cx}{a b c:Expr}{ta tb tc:TE}{pos:Pos}
end
section
variable {X:Cx}{a b c:Expr}{ta tb tc:TE}{pos:Pos}
end
end L2
namespace L2
open PySem PySem.Spec PyProof.Rows
section
variable {prog:Program}{w:World}{A:Around}{E:Value->Shared->Prop}{s:Shared}{K:PySem.W.Frag}{x dx C f:Addr}{mA:Str->Option Value}{name:Str}{v:Value}
end
section
variable {P:Program}{w:World}{H H':Hp}{h h':Heap}{a C dx:Addr}{fs fs':List (Str×V)}
end
section
variable {X:Cx}{pins:List (Addr×Obj)}{σ:St}{H:Hp}{s:Shared}{a C dx:Addr}{fs:List (Str×V)}{f:Str}{v:V}{A:Around}{E:Value->Shared->Prop}
end
section
variable {X:Cx}{o e value:Expr}{f:Str}{pos pos' tpos:Pos}{ta tv:TE}
end
section
variable {X:Cx}{pins:List (Addr×Obj)}{σ:St}{H:Hp}{s:Shared}{A:Around}{E:Value->Shared->Prop}{Q:Value->Shared->Prop}{c:Value}{b:Bool}
end
end L2
namespace L2
open PySem PySem.Spec PyProof.Rows
section
variable {X:Cx}{e:Expr}{es:List Expr}{te:TE}{t:TA}{pos:Pos}
end
section
variable {X:Cx}{pins:List (Addr×Obj)}{σ:St}{H:Hp}{s s':Shared}
end
section
variable {X:Cx}{CX:CXT}{k:Nat}{f C:Addr}{fd:FuncData}{ps:List Str}{sp:Sp}{dvs:List V}{ds:List Value}{E:XK}{x m:Str}{p pos apos:Pos}{e o:Expr}{es:List Expr}{ta:TE}{t:TA}
end
section
variable {X:Cx}{CX:CXT}{k:Nat}{f C:Addr}{fd:FuncData}{ps ks:List Str}{sp:Sp}{E:XK}{x m:Str}{p pos apos kpos:Pos}{e o:Expr}{es:List Expr}{kws:List Keyword}{te ta:TE}{t tk:TA}{nm:Option Str}
variable {g:List Value->List Value->List Value}{gV:List V->List V->List V}
end
end L2
namespace L2
open PySem PySem.Spec PyProof.Rows
section
variable {X:Cx}{x:Str}{p pos:Pos}{e:Expr}{es:List Expr}{t:TA}{id T:String}{r:List V->Hp->VK->Prop}
end
end L2
namespace L2
open PySem PySem.Spec PyProof.Rows
section
variable {κ:Type} [DecidableEq κ]
def ysu (kvs:List (κ×V)) (k:κ):Option V:=(kvs.find? fun kv=>decide (kv.1=k)).map (·.2)
noncomputable def putK (kvs:List (κ×V)) (k:κ) (v:V):List (κ×V) :=
 if (kvs.any fun kv=>decide (kv.1=k))=true then kvs.map (fun kv=>if kv.1=k then (kv.1,v) else kv) else kvs++[(k,v)]
theorem yqs {p:κ×V}{r:List (κ×V)}{k:κ}(e:p.1=k):ysu (p::r) k=some p.2:=by simp [ysu,List.find?_cons,e]
theorem yqt {p:κ×V}{r:List (κ×V)}{k:κ}(e:¬ p.1=k):ysu (p::r) k=ysu r k:=by simp [ysu,List.find?_cons,e]
theorem yvH (k:κ):∀ kvs:List (κ×V),(kvs.any fun kv=>decide (kv.1=k))=(ysu kvs k).isSome
 | []=>rfl
 | p::r=>by
  rw [List.any_cons]
  by_cases e:p.1=k
  .simp only [yqs e,decide_eq_true e,Bool.true_or,Option.isSome_some]
  .rw [yqt e,decide_eq_false e,Bool.false_or];exact yvH k r
theorem ykb (kvs:List (κ×V)) (k:κ) (v:V):(putK kvs k v).length<=kvs.length+1:=by
 unfold putK
 split
 .rw [List.length_map];omega
 .rw [List.length_append,List.length_cons,List.length_nil];omega
theorem RelO.isSome_eq {o:Option V}{u:Option Value}(r:RelO o u):o.isSome=u.isSome:=by
 cases o with
 | none=>cases u with
  | none=>rfl
  | some _=>exact (show False from r).elim
 | some _=>cases u with
  | none=>exact (show False from r).elim
  | some _=>rfl
theorem RelO.getD {o:Option V}{u:Option Value}{d:V}{d':Value}(r:RelO o u) (rd:RelV d d'):RelV (o.getD d) (u.getD d'):=by
 cases o with
 | none=>cases u with
  | none=>exact rd
  | some _=>exact (show False from r).elim
 | some _=>cases u with
  | none=>exact (show False from r).elim
  | some _=>exact r
theorem KV.val {kvs:List (κ×V)}{vs:List (κ×Value)}(r:KV kvs vs) (k:κ):RelO (ysu kvs k) (valueAt vs k):=by
 unfold KV at r
 induction r with
 | nil=>exact True.intro
 | @cons p q ps qs h t ih =>
  obtain ⟨h1,h2⟩:=h
  by_cases e:p.1=k
  .have e':q.1=k:=h1.symm.trans e
   have b:valueAt (q::qs) k=some q.2:=by simp [valueAt,List.find?_cons,e']
   rw [yqs e,b];exact h2
  .have e':¬ q.1=k:=fun z=>e (h1.trans z)
   have b:valueAt (q::qs) k=valueAt qs k:=by simp [valueAt,List.find?_cons,e']
   rw [yqt e,b];exact ih
theorem KV.any {kvs:List (κ×V)}{vs:List (κ×Value)}(r:KV kvs vs) (k:κ):(kvs.any fun kv=>decide (kv.1=k))=vs.any fun kv=>decide (kv.1=k):=by
 unfold KV at r
 induction r with
 | nil=>rfl
 | cons h t ih=>rw [List.any_cons,List.any_cons,ih,h.1]
theorem KV.repl {kvs:List (κ×V)}{vs:List (κ×Value)}(r:KV kvs vs) (k:κ) {y:V}{u:Value}(ry:RelV y u) :
  KV (kvs.map fun kv=>if kv.1=k then (kv.1,y) else kv) (vs.map fun kv=>if kv.1=k then (kv.1,u) else kv):=by
 unfold KV at r ⊢
 induction r with
 | nil=>exact .nil
 | @cons p q ps qs h t ih =>
  rw [List.map_cons,List.map_cons]
  refine .cons ?_ ih
  obtain ⟨h1,h2⟩:=h
  by_cases e:p.1=k
  .rw [if_pos e,if_pos (h1.symm.trans e)];exact ⟨h1,ry⟩
  .rw [if_neg e,if_neg (fun z=>e (h1.trans z))];exact ⟨h1,h2⟩
theorem KV.put {kvs:List (κ×V)}{vs:List (κ×Value)}(r:KV kvs vs) (k:κ) {y:V}{u:Value}(ry:RelV y u):KV (putK kvs k y) (stored vs k u):=by
 unfold putK stored
 rw [r.any k]
 by_cases e:(vs.any fun kv=>decide (kv.1=k))=true
 .rw [if_pos e,if_pos e];exact r.repl k ry
 .rw [if_neg e,if_neg e];exact Paired.snoc r ⟨rfl,ry⟩
theorem KV.length {kvs:List (κ×V)}{vs:List (κ×Value)}(r:KV kvs vs):kvs.length=vs.length:=Paired.length r
end
theorem ywO {P:Program}{w:World}{k:Key}{u:Value}(r:RelV (kV k) u):(ydp P w).is k u=true:=by
 cases k with
 | inl i=>obtain ⟨t,e⟩:=(show ∃ t,u=Value.int i t from r);subst e;exact ytO P w i t
 | inr x=>obtain ⟨t,e⟩:=(show ∃ t,u=Value.str x t from r);subst e;exact ytP P w x t
theorem ysv {P:Program}{w:World}:∀ {ks:List Key}{us:List Value},Vals (ks.map kV) us->ItemsAre (ydp P w) ks us
 | [],_,r=>by rw [List.map_nil] at r;cases r;exact .nil
 | k::ks,_,r=>by
  rw [List.map_cons] at r
  cases r with
  | cons h t=>exact .cons (ywO h) (ysv t)
noncomputable abbrev KT (H:Hp):List (List Key×V)->List (List Key×Addr×Value)->Prop:=Paired fun p q=>p.1=q.1/\H q.2.1=some (.tup (p.1.map kV))/\RelV p.2 q.2.2
theorem KT.val {H:Hp}{kvs:List (List Key×V)}{xs:List (List Key×Addr×Value)}(r:KT H kvs xs) (k:List Key):RelO (ysu kvs k) ((atKey xs k).map (·.2)):=by
 induction r with
 | nil=>exact True.intro
 | @cons p q ps qs h t ih =>
  obtain ⟨h1,_,h2⟩:=h
  by_cases e:p.1=k
  .have e':q.1=k:=h1.symm.trans e
   have b:atKey (q::qs) k=some q.2:=by simp [atKey,List.find?_cons,e']
   rw [yqs e,b];exact h2
  .have e':¬ q.1=k:=fun z=>e (h1.trans z)
   have b:atKey (q::qs) k=atKey qs k:=by simp [atKey,List.find?_cons,e']
   rw [yqt e,b];exact ih
theorem KT.repl {H:Hp}{kvs:List (List Key×V)}{xs:List (List Key×Addr×Value)}(r:KT H kvs xs) (k:List Key) {y:V}{u:Value}(ry:RelV y u) :
  KT H (kvs.map fun kv=>if kv.1=k then (kv.1,y) else kv) (xs.map (putAt k u)):=by
 induction r with
 | nil=>exact .nil
 | @cons p q ps qs h t ih =>
  rw [List.map_cons,List.map_cons]
  refine .cons ?_ ih
  obtain ⟨h1,h2,h3⟩:=h
  unfold putAt
  by_cases e:p.1=k
  .rw [if_pos e,if_pos (h1.symm.trans e)];exact ⟨h1,h2,ry⟩
  .rw [if_neg e,if_neg (fun z=>e (h1.trans z))];exact ⟨h1,h2,h3⟩
theorem KT.put {H:Hp}{kvs:List (List Key×V)}{xs:List (List Key×Addr×Value)}(r:KT H kvs xs) (k:List Key) {b:Addr}{y:V}{u:Value}(hb:H b=some (.tup (k.map kV))) (ry:RelV y u) :
  KT H (putK kvs k y) (storedH xs k b u):=by
 have e:(kvs.any fun kv=>decide (kv.1=k))=(atKey xs k).isSome:=by
  rw [yvH,(r.val k).isSome_eq,Option.isSome_map]
 unfold putK storedH
 rw [e]
 by_cases q:(atKey xs k).isSome=true
 .rw [if_pos q,if_pos q];exact r.repl k ry
 .rw [if_neg q,if_neg q];exact Paired.snoc r ⟨rfl,hb,ry⟩
theorem KT.keeps {H H':Hp}{kvs:List (List Key×V)}{xs:List (List Key×Addr×Value)}(r:KT H kvs xs) (ht:∀ b ys,H b=some (.tup ys)->H' b=some (.tup ys)):KT H' kvs xs :=
 Paired.mapP r fun _ _ z=>⟨z.1,ht _ _ z.2.1,z.2.2⟩
section
variable {P:Program}{w:World}{H:Hp}{h:Heap}{a:Addr}
theorem yHL {u:HO}(ok:HOk P w H h) (e:Rd H a u):ObjOk P w H h a u:=e.ok ok
theorem yup {kvs:List (Key×V)}(ok:HOk P w H h) (e:Rd H a (.dK kvs)):kvs.length<=sizeLine/\(a == sysModules)=false/\∃ vs,KV kvs vs/\h.DictOf (ydp P w) a vs :=
 show ObjOk P w H h a (.dK kvs) from yHL ok e
theorem yFj {kvs:List (Key×V)}(ok:HOk P w H h) (e:H a=some (.dK kvs)):kvs.length<=sizeLine/\(a == sysModules)=false/\∃ vs,KV kvs vs/\h.DictOf (ydp P w) a vs:=yup ok (.inl e)
theorem ypS {ks:List Key}(ok:HOk P w H h) (e:H a=some (.tup (ks.map kV))):(tupleKind (ydp P w)).is h ks a:=by
 obtain ⟨_,its,r,o,h1,h2,n,h3⟩:=(show ObjOk P w H h a (.tup (ks.map kV)) from ok a _ e)
 exact ⟨o,its.toArray,n,h1,h2,h3,by simpa using ysv r⟩
theorem yuq {kvs:List (List Key×V)}(ok:HOk P w H h) (e:Rd H a (.dT kvs)):kvs.length<=sizeLine/\(a == sysModules)=false /\
  ∃ xs,KT H kvs xs/\h.DictOfH (tupleKind (ydp P w)) a xs:=by
 obtain ⟨z,y,xs,r,o,es,ep,h1,h2,h3,h4,h5⟩:=(show ObjOk P w H h a (.dT kvs) from yHL ok e)
 refine ⟨z,y,xs,r,o,es,ep,h1,h2,h3,h4,fun x hx=>?_,h5⟩
 have all:∀ {l:List (List Key×V)}{m:List (List Key×Addr×Value)},KT H l m->∀ x∈m,(tupleKind (ydp P w)).is h x.1 x.2.1:=by
  intro l m q
  induction q with
  | nil=>intro x hx;exact nomatch hx
  | @cons p q ps qs hq t ih =>
   intro x hx
   rcases List.mem_cons.mp hx with e|hx
   .subst e
    exact ypS ok (by rw [<- hq.1];exact hq.2.1)
   .exact ih x hx
 exact all r x hx
theorem yKx {kvs:List (List Key×V)}(ok:HOk P w H h) (e:H a=some (.dT kvs)):kvs.length<=sizeLine/\(a == sysModules)=false /\
  ∃ xs,KT H kvs xs/\h.DictOfH (tupleKind (ydp P w)) a xs:=yuq ok (.inl e)
end
noncomputable def DGet (H:Hp) (a:Addr) (y:V) (r:Option V):Prop :=
 (∃ kvs k,Rd H a (.dK kvs)/\y=kV k/\r=ysu kvs k)\/∃ kvs k b,Rd H a (.dT kvs)/\y=.ref b/\H b=some (.tup (k.map kV))/\r=ysu kvs k
noncomputable def DPut (H:Hp) (a:Addr) (y v:V) (H':Hp):Prop :=
 (∃ kvs k,H a=some (.dK kvs)/\y=kV k/\kvs.length<sizeLine/\H'=upd H a (.dK (putK kvs k v))) \/
 ∃ kvs k b,H a=some (.dT kvs)/\y=.ref b/\H b=some (.tup (k.map kV))/\kvs.length<sizeLine/\H'=upd H a (.dT (putK kvs k v))
theorem DPut.k {H:Hp}{a:Addr}{kvs:List (Key×V)}{k:Key}{v:V}(e:H a=some (.dK kvs)) (hl:kvs.length<sizeLine):DPut H a (kV k) v (upd H a (.dK (putK kvs k v))):=.inl ⟨kvs,k,e,rfl,hl,rfl⟩
section
variable {X:Cx}{pins:List (Addr×Obj)}{σ:St}{H:Hp}{s:Shared}{a:Addr}{y v:V}{u r:Value}{o:Option V}{A:Around}{E:Value->Shared->Prop}
theorem Inv.big (I:Inv X pins σ H s):sysModules<s.heap.objs.size:=by
 have h:mainGlobals<s.heap.objs.size:=(I.mod.glob.keeps I.bk).lt
 exact Nat.lt_trans (by decide) h
theorem yyy {Q:Value->Shared->Prop}(hu:A.units+1<cLine) (I:Inv X pins σ H s) (g:DGet H a y (some v)) (ry:RelV y u) (h:∀ w' s',Inv X pins σ H s'->RelV v w'->Q w' s') :
  wpAny (model X.prog X.w) A (getItem (.ref a) u) Q E s:=by
 rcases g with ⟨kvs,k,e,ey,l⟩|⟨kvs,k,b,e,ey,eb,l⟩
 .subst ey
  obtain ⟨z,hd,vs,rel,dd⟩:=yup I.hok e
  obtain ⟨w',hw,rw'⟩:=RelO.some_of (v:=v) (o:=valueAt vs k) (by rw [l];exact rel.val k)
  exact wpAny_getItem_of (ywO ry) dd.mapOf hw (h w' _ (I.tok _) rw')
 .subst ey
  cases (show u=Value.ref b from ry)
  obtain ⟨z,hd,xs,rel,dd⟩:=yuq I.hok e
  obtain ⟨w',hw,rw'⟩:=RelO.some_of (v:=v) (o:=(atKey xs k).map (·.2)) (by rw [l];exact rel.val k)
  obtain ⟨p,hp,hp2⟩:=Option.map_eq_some_iff.mp hw
  refine wpAny_getItem_heap (tupleKind_room_in1 hu) (ypS I.hok eb) dd hp ?_
  rw [hp2]
  exact h w' _ (I.tok _) rw'
theorem yMa {Q:Value->Shared->Prop}(hu:A.units+1<cLine) (I:Inv X pins σ H s) (g:DGet H a y o) (ry:RelV y u) (h:∀ s',Inv X pins σ H s'->Q (.bool o.isSome) s') :
  wpAny (model X.prog X.w) A (compareOp .In u (.ref a)) Q E s:=by
 rcases g with ⟨kvs,k,e,ey,l⟩|⟨kvs,k,b,e,ey,eb,l⟩
 .subst ey
  obtain ⟨z,hd,vs,rel,dd⟩:=yup I.hok e
  refine wpAny_in_of (ywO ry) hd dd.mapOf ?_
  rw [<- (rel.val k).isSome_eq,<- l]
  exact h _ (I.tok _)
 .subst ey
  cases (show u=Value.ref b from ry)
  obtain ⟨z,hd,xs,rel,dd⟩:=yuq I.hok e
  refine wpAny_in_heap (tupleKind_room_in1 hu) (ypS I.hok eb) hd dd ?_
  have q:=(rel.val k).isSome_eq
  rw [Option.isSome_map] at q
  rw [<- q,<- l]
  exact h _ (I.tok _)
theorem yFk {Q:Value->Shared->Prop}(hu:A.units+1<cLine) (I:Inv X pins σ H s) (g:DGet H a y o) (ry:RelV y u) (h:∀ s',Inv X pins σ H s'->Q (.bool (!o.isSome)) s') :
  wpAny (model X.prog X.w) A (compareOp .NotIn u (.ref a)) Q E s:=by
 rcases g with ⟨kvs,k,e,ey,l⟩|⟨kvs,k,b,e,ey,eb,l⟩
 .subst ey
  obtain ⟨z,hd,vs,rel,dd⟩:=yup I.hok e
  refine wpAny_notIn_of (ywO ry) hd dd.mapOf ?_
  rw [<- (rel.val k).isSome_eq,<- l]
  exact h _ (I.tok _)
 .subst ey
  cases (show u=Value.ref b from ry)
  obtain ⟨z,hd,xs,rel,dd⟩:=yuq I.hok e
  refine wpAny_notIn_heap (tupleKind_room_in1 hu) (ypS I.hok eb) hd dd ?_
  have q:=(rel.val k).isSome_eq
  rw [Option.isSome_map] at q
  rw [<- q,<- l]
  exact h _ (I.tok _)
theorem yur {h':Heap}{t':Nat}{ob:HO}(I:Inv X pins σ H s) (mu:Mut (H a)) (hs:Heap.SameBut a s.heap h') (he:∃ q,h'.get? a=some q) (new:ObjOk X.prog X.w (upd H a ob) h' a ob) :
  Inv X pins σ (upd H a ob) { s with heap:=h',toks:=t' } :=
 I.write (x:=a) (e:=a) mu (.inl rfl) (fun b q hb z=>(hs.2 b hb).trans z) he new
theorem yCX {P:Program}{w:World}{H':Hp}{h':Heap}{kvs:List (Key×V)}{vs:List (Key×Value)}(z:kvs.length<=sizeLine) (hd:(a == sysModules)=false) (rel:KV kvs vs) (dd:h'.DictOf (ydp P w) a vs) :
  ObjOk P w H' h' a (.dK kvs):=⟨z,hd,vs,rel,dd⟩
theorem yyz {H':Hp}{Q:Unit->Shared->Prop}(hu:A.units+1<cLine) (I:Inv X pins σ H s) (g:DPut H a y v H') (ry:RelV y u) (rv:RelV v r) (h:∀ s',Inv X pins σ H' s'->Q () s') :
  wpAny (model X.prog X.w) A (setItem (.ref a) u r) Q E s:=by
 rcases g with ⟨kvs,k,e,ey,l,eH⟩|⟨kvs,k,b,e,ey,eb,l,eH⟩
 .subst ey eH
  obtain ⟨z,hd,vs,rel,dd⟩:=yFj I.hok e
  have hz:vs.length<=sizeLine:=by rw [<- rel.length];exact z
  have hl:(putK kvs k v).length<=sizeLine:=by have:=ykb kvs k v;omega
  refine wpAny_setItem_pairs (hsz:=hz) (ywO ry) dd fun h' dd' hs=>h _ ?_
  have he:∃ q,h'.get? a=some q:=let ⟨q,_,_,hq,_⟩:=dd';⟨q,hq⟩
  exact yur I (by rw [e];exact True.intro) hs he (yCX hl hd (rel.put k rv) dd')
 .subst ey eH
  cases (show u=Value.ref b from ry)
  obtain ⟨z,hd,xs,rel,dd⟩:=yKx I.hok e
  have hz:xs.length<=sizeLine:=by rw [<- Paired.length rel];exact z
  have hl:(putK kvs k v).length<=sizeLine:=by have:=ykb kvs k v;omega
  refine wpAny_setItem_heap (hsz:=hz) (tupleKind_room_in1 hu) (ypS I.hok eb) dd fun h' dd' hs=>h _ ?_
  obtain ⟨q,es,ep,hq,h2,h3,h4,_,h5⟩:=dd'
  refine yur I (by rw [e];exact True.intro) hs ⟨q,hq⟩ ⟨hl,hd,_,(rel.put k eb rv).keeps fun c ys ec=>?_,q,es,ep,hq,h2,h3,h4,h5⟩
  rw [ybc (yJi ec e (fun z=>nomatch z))]
  exact ec
end
section
variable {X:Cx}{pins:List (Addr×Obj)}{σ:St}{H:Hp}{s:Shared}{a:Addr}{kvs:List (Key×V)}{k:Key}{u:Value}{A:Around}{E:Value->Shared->Prop}
end
def yKy (i:Expr):Prop:=∀ ov iv,subscripted i false ov iv=operate [ov,iv] (getItem ov iv)
theorem yFl {prog:Program}{w:World}{A:Around}{E:Value->Shared->Prop}{s:Shared}{env:Env}{value slice:Expr}{pos:Pos}{T id:String}{Q:Value->Shared->Prop}
  (hl:typeLookup (.type T) "__getitem__" = pure (some (.builtin id))) (hs:yKy slice)
  (h:wpAny (model prog w) A (eval value env) (fun o s₁=>wpAny (model prog w) A (eval slice env) (fun i s₂=>s₂.TypeIs o T/\wpAny (model prog w) A (getItem o i) Q E s₂) E s₁) E s) :
  wpAny (model prog w) A (eval (.Subscript value slice pos) env) Q E s:=by
 refine Subscript_ (wpAny_mono h (fun o s₁ h₁=>wpAny_mono h₁ (fun i s₂ h₂=>?_) fun _ _ x=>x) fun _ _ x=>x)
 obtain ⟨hT,h₂⟩:=h₂
 unfold subscriptTail
 refine wpAny_bind ?_
 rw [getitemInPython_of_ne hT.not_modules]
 refine wpAny_bind (wpAny_specialOf hT hl ?_)
 have fin:wpAny (model prog w) A (subscripted slice false o i) (fun r s₃=>wpAny (model prog w) A (letTemporaryGo value o r >>= fun _=>pure r) Q E s₃) E s₂:=by
  rw [hs o i]
  exact wpAny_operating (wpAny_mono h₂ (fun r s₃ h₃=>wpAny_bind (wpAny_letTemporaryGo (wpAny_pure h₃))) fun _ _ x=>x)
 first
  | exact wpAny_pure (wpAny_bind fin)
  | exact wpAny_bind (wpAny_pure (wpAny_bind fin))
  | exact wpAny_bind fin
theorem yus {X:Cx}{pins:List (Addr×Obj)}{σ:St}{H:Hp}{s:Shared}{a:Addr}{y:V}{o:Option V}(I:Inv X pins σ H s) (g:DGet H a y o):s.TypeIs (.ref a) "dict":=by
 rcases g with ⟨kvs,k,e,_,_⟩|⟨kvs,k,b,e,_,_,_⟩
 .obtain ⟨_,_,vs,_,dd⟩:=yup I.hok e
  exact dd.typeIs
 .obtain ⟨_,_,xs,_,dd⟩:=yuq I.hok e
  exact dd.typeIs
def yHM (td ty:TE):TE:=fun σ H Q=>td σ H fun x H1=>ty σ H1 fun y H2=>∃ a v,x=.ref a/\DGet H2 a y (some v)/\Q v H2
def yLt (ty td:TE):TE:=fun σ H Q=>ty σ H fun y H1=>td σ H1 fun x H2=>∃ a o,x=.ref a/\DGet H2 a y o/\Q (.bl o.isSome) H2
noncomputable def yyA (ty td:TE):TE:=fun σ H Q=>ty σ H fun y H1=>td σ H1 fun x H2=>∃ a o,x=.ref a/\DGet H2 a y o/\Q (.bl (!o.isSome)) H2
noncomputable def yHN (td ty tv:TE):TS:=fun D σ H=>tv σ H fun v H1=>td σ H1 fun x H2=>ty σ H2 fun y H3=>∃ a H4,x=.ref a/\DPut H3 a y v H4/\D.nx σ H4
section
variable {X:Cx}{o i e value:Expr}{pos pos' tpos:Pos}{td ty tv:TE}
theorem yFm (hu:X.A.units+1<cLine) (ho:PE X o td) (hi:PE X i ty) (hs:yKy i):PE X (.Subscript o i pos) (yHM td ty):=by
 intro pins s σ H Q I h
 refine yFl PySem.F.slot_dict_getitem.lookup hs (thn (ho pins s σ H _ I h) fun u s1 ⟨x,H1,I1,rx,q1⟩=>thn (hi pins s1 σ H1 _ I1 q1) fun iv s2 ⟨y,H2,I2,ry,a,v,ex,g,q2⟩=>?_)
 subst ex
 obtain rfl:u=Value.ref a:=rx
 exact ⟨yus I2 g,yyy hu I2 g ry fun w' s3 I3 rw'=>⟨v,H2,I3,rw',q2⟩⟩
theorem yHO (hu:X.A.units+1<cLine) (hi:PE X i ty) (ho:PE X o td):PC X .In i o (yLt ty td):=by
 intro pins s σ H Q I h
 refine thn (hi pins s σ H _ I h) fun iv s1 ⟨y,H1,I1,ry,q1⟩=>thn (ho pins s1 σ H1 _ I1 q1) fun u s2 ⟨x,H2,I2,rx,a,ov,ex,g,q2⟩=>?_
 subst ex
 obtain rfl:u=Value.ref a:=rx
 exact yMa hu I2 g ry fun s3 I3=>⟨.bl ov.isSome,H2,I3,rfl,q2⟩
theorem yyB (hu:X.A.units+1<cLine) (hi:PE X i ty) (ho:PE X o td):PC X .NotIn i o (yyA ty td):=by
 intro pins s σ H Q I h
 refine thn (hi pins s σ H _ I h) fun iv s1 ⟨y,H1,I1,ry,q1⟩=>thn (ho pins s1 σ H1 _ I1 q1) fun u s2 ⟨x,H2,I2,rx,a,ov,ex,g,q2⟩=>?_
 subst ex
 obtain rfl:u=Value.ref a:=rx
 exact yFk hu I2 g ry fun s3 I3=>⟨.bl (!ov.isSome),H2,I3,rfl,q2⟩
theorem yFn (hu:X.A.units+1<cLine) (ho:PE X o td) (hi:PE X i ty) (hv:PE X value tv) (hs:swapsWith value (some (.Subscript o i pos')) pos.line X.env=pure false) :
  PS X (.Assign [.Subscript o i pos'] value pos) (yHN td ty tv):=by
 intro pins s σ H D I h
 refine wpAny_Assign_Subscript (thn (hv pins s σ H _ I h) fun r s1 ⟨v,H1,I1,rv,q1⟩=>thn (ho pins s1 σ H1 _ I1 q1) fun u s2 ⟨x,H2,I2,rx,q2⟩=>thn (hi pins s2 σ H2 _ I2 q2) fun iv s3 ⟨y,H3,I3,ry,a,H4,ex,g,q3⟩=>?_) hs
 subst ex
 obtain rfl:u=Value.ref a:=rx
 exact yyz hu I3 g ry rv fun s4 I4=>⟨σ,H4,I4,q3⟩
end
theorem yBu {P:Program}{w:World}{H:Hp}(h:Heap) (hb:sysModules<h.objs.size):ObjOk P w H (h.push { cls:=.type "dict",data:=.dict #[] }) h.objs.size (.dK []) :=
 ⟨Nat.zero_le _,beq_eq_false_iff_ne.mpr (Ne.symm (Nat.ne_of_lt hb)),[],.nil,Heap.DictOf.new h⟩
def yCY:TE:=fun _ H Q=>∀ p,H p=none->Q (.ref p) (upd H p (.dK []))
section
variable {X:Cx}{pos:Pos}
theorem yBv:PE X (.Dict [] [] pos) yCY:=fun pins s σ H Q I h =>
 wpAny_Dict_empty ⟨.ref s.heap.objs.size,_,I.laid (a:=s.heap.objs.size) (o:=.dK []) (t':=s.toks) (fun _ _ q=>Heap.get?_push_of_some _ q) (Nat.le_refl _) (yBu s.heap I.big),rfl,h _ (I.hok.fresh (Nat.le_refl _))⟩
end
def yyC (kvs more:List (Key×V)):List (Key×V):=more.foldl (fun acc kv=>putK acc kv.1 kv.2) kvs
theorem KV.merge:∀ {more:List (Key×V)}{rs:List (Key×Value)}{kvs:List (Key×V)}{vs:List (Key×Value)},KV more rs->KV kvs vs->KV (yyC kvs more) (merged vs rs):=by
 intro more rs kvs vs r
 unfold KV at r
 induction r generalizing kvs vs with
 | nil=>intro q;exact q
 | @cons p q ps qs h t ih =>
  intro r0
  have e:KV (putK kvs p.1 p.2) (stored vs q.1 q.2):=by
   have:=r0.put p.1 h.2
   rw [<- h.1];exact this
  exact ih e
theorem ykP:∀ (more kvs:List (Key×V)),(yyC kvs more).length<=kvs.length+more.length
 | [],kvs=>by show kvs.length<=kvs.length+0;omega
 | p::r,kvs=>by
  have h1:=ykP r (putK kvs p.1 p.2)
  have h2:=ykb kvs p.1 p.2
  show (yyC (putK kvs p.1 p.2) r).length<=_
  rw [List.length_cons];omega
structure M2 (X:Cx) (o:Expr) (m:Str) (apos:Pos) (e f:Expr) (cpos:Pos):Prop where
 base:attributeBase o m X.env (eval o X.env)=eval o X.env
 few:((backTo cpos (starEach [e,f] X.env)).all (fun x=>!x.1) && (backToKw cpos (keywordEach [] X.env)).all (fun x=>x.1.isSome)
  && decide (([e,f]:List Expr).length+([]:List Keyword).length+(if ([]:List Keyword).isEmpty then 0 else 1)<30))=true
 line:(apos.endLine == cpos.line)=true
 trees:backTo cpos (starEach [e,f] X.env)=[(false,eval e X.env),(false,eval f X.env)]
def IsD (H:Hp) (a:Addr):Prop:=(∃ kvs,Rd H a (.dK kvs))\/∃ kvs,Rd H a (.dT kvs)
theorem yHP {X:Cx}{pins:List (Addr×Obj)}{σ:St}{H:Hp}{s:Shared}{a:Addr}(I:Inv X pins σ H s) (d:IsD H a) :
  s.TypeIs (.ref a) "dict"/\(∀ b,Value.ref a=.ref b->∃ ob,s.heap.get? b=some ob/\ob.dict=none)/\(a == sysModules)=false:=by
 rcases d with ⟨kvs,e⟩|⟨kvs,e⟩
 .obtain ⟨_,hd,vs,_,dd⟩:=yup I.hok e
  refine ⟨dd.typeIs,fun b q=>?_,hd⟩
  cases q
  obtain ⟨ob,_,_,h1,h2,_⟩:=dd
  exact ⟨ob,h1,h2.2.1⟩
 .obtain ⟨_,hd,xs,_,dd⟩:=yuq I.hok e
  refine ⟨dd.typeIs,fun b q=>?_,hd⟩
  cases q
  obtain ⟨ob,_,_,h1,h2,_⟩:=dd
  exact ⟨ob,h1,h2.2.1⟩
section
variable {X:Cx}{pins:List (Addr×Obj)}{σ:St}{H:Hp}{s:Shared}{a:Addr}{y d:V}{u r:Value}{o:Option V}{A:Around}{E:Value->Shared->Prop}
theorem yHQ {Q:Value->Shared->Prop}(hu:A.units+1<cLine) (I:Inv X pins σ H s) (g:DGet H a y o) (ry:RelV y u) (rd:RelV d r) (h:∀ w' s',Inv X pins σ H s'->RelV (o.getD d) w'->Q w' s') :
  wpAny (model X.prog X.w) A (call (.builtin "dict.get") [.ref a,u,r]) Q E s:=by
 rcases g with ⟨kvs,k,e,ey,l⟩|⟨kvs,k,b,e,ey,eb,l⟩
 .subst ey
  obtain ⟨z,hd,vs,rel,dd⟩:=yup I.hok e
  refine call_meetsIn PySem.F.slot_dict_get dd.typeIs PySem.F.entry_dict_get (PySem.F.args_dict_get_3 _ _ _) (meets_dict_get_default (ydp X.prog X.w) a (ywO ry) hd r) ⟨_,dd.mapOf,h _ _ (I.tok _) ?_⟩
  rw [l]
  exact (rel.val k).getD rd
 .subst ey
  cases (show u=Value.ref b from ry)
  obtain ⟨z,hd,xs,rel,dd⟩:=yuq I.hok e
  refine call_meetsIn PySem.F.slot_dict_get dd.typeIs PySem.F.entry_dict_get (PySem.F.args_dict_get_3 _ _ _) (meetsH_dict_get_default (tupleKind (ydp X.prog X.w)) a b hd r) ⟨tupleKind_room_in1 hu,k,xs,ypS I.hok eb,dd,h _ _ (I.tok _) ?_⟩
  rw [l]
  exact (rel.val k).getD rd
end
noncomputable def yCZ (td ty tx:TE):TE:=fun σ H Q=>td σ H fun x H1=>∃ a,x=.ref a/\IsD H1 a/\ty σ H1 fun y H2=>tx σ H2 fun z H3=>∃ o,DGet H3 a y o/\Q (o.getD z) H3
section
variable {X:Cx}{o e f:Expr}{apos cpos:Pos}{td ty tx:TE}
theorem yBw (hu:X.A.units+1<cLine) (ho:PE X o td) (he:PE X e ty) (hf:PE X f tx) (m:M2 X o "get" apos e f cpos):PE X (.Call (.Attribute o "get" apos) [e,f] [] cpos) (yCZ td ty tx):=by
 intro pins s σ H Q I h
 refine wpAny_Call_method m.base m.few m.line PySem.F.plainAttrs_dict PySem.F.slot_dict_get PySem.F.type_dict_get (thn (ho pins s σ H _ I h) fun u s1 ⟨x,H1,I1,rx,a,ex,d,q1⟩=>?_)
 subst ex
 obtain rfl:u=Value.ref a:=rx
 obtain ⟨t1,t2,_⟩:=yHP I1 d
 refine ⟨t1,t2,?_⟩
 rw [m.trees]
 refine Calls.callWith_builtin rfl (Calls.evalArgs_plain (Calls.spliced_cons (thn (he pins s1 σ H1 _ I1 q1) fun iv s2 ⟨y,H2,I2,ry,q2⟩ =>
  Calls.spliced_cons (thn (hf pins s2 σ H2 _ I2 q2) fun fv s3 ⟨z,H3,I3,rz,ov,g,q3⟩=>Calls.spliced_nil ?_))))
 exact yHQ hu I3 g ry rz fun w' s4 I4 rw'=>⟨_,H3,I4,rw',q3⟩
end
section
variable {X:Cx}{pins:List (Addr×Obj)}{σ:St}{H:Hp}{s:Shared}{a:Addr}{kvs:List (Key×V)}{A:Around}{E:Value->Shared->Prop}
end
section
variable {X:Cx}{pins:List (Addr×Obj)}{σ:St}{H:Hp}{s:Shared}{a:Addr}{y:V}{u:Value}{A:Around}{E:Value->Shared->Prop}
end
end L2
namespace Att
open PySem PySem.W PySem.Calls PyProof.Rows
section
variable {prog:Program}{w:World}{A:Around}{E:Value->Shared->Prop}{s:Shared}{K:Frag}
end
end Att
namespace L2
open PySem PySem.Spec PyProof.Rows
end L2
namespace L2
open PySem PySem.Spec PyProof.Rows
end L2
namespace L2
open PySem PySem.Spec PyProof.Rows
section
variable {P:Program}{w:World}{K:PySem.W.Frag}{mg:Str->Option Value}{base:Heap}
end
section
variable {X:Cx}
end
section
variable {κ:Type} [DecidableEq κ]
end
end L2
namespace PX
open PySem L2
variable {K:Ck}
theorem yvI {α:Type}{l:List α}(h:l.Nodup) {i j:Nat}(hi:i<l.length) (hj:j<l.length) (e:l[i]=l[j]):i=j:=by
 have p:=List.pairwise_iff_getElem.mp h
 rcases Nat.lt_trichotomy i j with z|z|z
 .exact absurd e (p i j hi hj z)
 .exact z
 .exact absurd e.symm (p j i hj hi z)
def yFo (W:Wd) (n:Nat) (a:Addr) (o:HO) (d:Nd):Wd:=⟨W.F,upd W.H a o,W.m,W.h.set n d⟩
theorem ylO {W:Wd}(w:WOk K W) {n:Nat}{d d':Nd}{a:Addr}{o:HO}(e:W.h[n]?=some d) (hm:W.m[n]?=some a) (hF:W.F a=none) (at':NdAt K W.F (upd W.H a o) W.m d' a) (nf:∀ ks xs,d≠.fz ks xs:=by intro _ _ z;cases z):Le K W (yFo W n a o d'):=by
 have hn:n<W.h.length:=(List.getElem?_eq_some_iff.mp e).1
 have ham:a∈W.m:=List.mem_of_getElem? hm
 refine ⟨⟨fun b u q=>?_,by show W.m.length=(W.h.set n d').length;rw [List.length_set];exact w.len,w.nd,fun j dj b e1 e2=>?_⟩,Same.refl _,List.prefix_refl _,fun b u q hb=>?_,fun b u _ _ f=>f,fun b z z'=>absurd z z',fun j ks xs e1=>?_⟩
 .have:b≠a:=yck q hF
  exact (ybc this).trans (w.le _ _ q)
 .have e1:(W.h.set n d')[j]?=some dj:=e1
  by_cases hj:n=j
  .subst hj
   rw [List.getElem?_set_self hn] at e1
   cases e1
   have e2:W.m[n]?=some b:=e2
   rw [hm] at e2
   cases e2
   exact at'
  .rw [List.getElem?_set_ne hj] at e1
   have e2:W.m[j]?=some b:=e2
   have hb:b≠a:=fun z=>by
    subst z
    have h1:=(List.getElem?_eq_some_iff.mp hm)
    have h2:=(List.getElem?_eq_some_iff.mp e2)
    obtain ⟨l1,q1⟩:=h1
    obtain ⟨l2,q2⟩:=h2
    exact hj (yvI w.nd l1 l2 (q1.trans q2.symm))
   exact (w.at_ j dj b e1 e2).mono (Same.refl _) (List.prefix_refl _) (fun u q=>(ybc hb).trans q) id
 .have:b≠a:=fun z=>hb (z ▸ ham)
  exact (ybc this).trans q
 .have hj:n≠j:=fun z=>by
   subst z
   rw [e] at e1
   cases e1
   exact nf _ _ rfl
  refine ⟨(List.getElem?_set_ne hj).trans e1,fun b e2=>ybc fun z=>?_⟩
  subst z
  obtain ⟨l1,q1⟩:=List.getElem?_eq_some_iff.mp hm
  obtain ⟨l2,q2⟩:=List.getElem?_eq_some_iff.mp e2
  exact hj (yvI w.nd l1 l2 (q1.trans q2.symm))
def yqu:PV->AH->Bool:=fun x h=>match yew x h with|some _=>true|none=>false
theorem yvJ {W:Wd}{x:PV}{v:V}(w:WOk K W) (r:yeI K W x v) (c:yqu x W.h=true):tyV K.K "list" v W.H:=by
 unfold yqu at c
 split at c
 .rename_i xs hx
  obtain ⟨a,vs,rfl,hs,_⟩:=ycg w hx r
  exact .inl ⟨rfl,vs,SqL.of hs⟩
 .cases c
noncomputable def ywP:PM:=fun x ys h=>match x,ys with|.loc n,[y]=>(match h[n]? with|some (.lst xs)=>if xs.length<100000 then some (.non,h.set n (.lst (xs++[y]))) else none|_=>none)|_,_=>none
theorem yHR:ysq K "list" yqu ytT ywP:=by
 refine ⟨fun W x v w r c=>yvJ w r c,fun W x v xs vs Q z h' w rx r e q=>?_⟩
 unfold ywP at e
 split at e
 .rename_i n y
  split at e
  .rename_i ys hn
   split at e
   .rename_i hl
    cases e
    obtain ⟨u,rfl,ru⟩:=ywJ r
    obtain ⟨a,ev,hm,hf,us,hp,rs⟩:=w.loc hn rx
    refine ⟨a,us,u,ev,rfl,hp,by rw [rs.len];exact big hl,?_⟩
    exact q .non (yFo W n a (.lst (us++[u])) (.lst (ys++[y]))) rfl (ylO w hn hm hf ⟨hf,_,yQ,rs.snoc ru⟩) rfl
   .cases e
  .cases e
 .cases e
noncomputable def ywQ:PM:=fun x ys h=>match x,ys with|.loc n,[]=>(match h[n]? with|some (.lst xs)=>(match xs[xs.length-1]? with|some y=>some (y,h.set n (.lst xs.dropLast))|none=>none)|_=>none)|_,_=>none
theorem RepL.dropLast {F:Hp}{m:List Addr}{xs:List PV}{vs:List V}(r:RepL K F m xs vs):RepL K F m xs.dropLast vs.dropLast:=by
 rw [List.dropLast_eq_take,List.dropLast_eq_take,r.len]
 exact r.take _
theorem yDa:ysq K "list" yqu yLl ywQ:=by
 refine ⟨fun W x v w r c=>yvJ w r c,fun W x v xs vs Q z h' w rx r e q=>?_⟩
 unfold ywQ at e
 split at e
 .rename_i n
  split at e
  .rename_i ys hn
   split at e
   .rename_i y hy
    cases e
    obtain rfl:vs=[]:=r
    obtain ⟨a,ev,hm,hf,us,hp,rs⟩:=w.loc hn rx
    obtain ⟨u,hu,ru⟩:=rs.get hy
    refine ⟨a,us,u,ev,rfl,hp,by rw [rs.len];exact hu,?_⟩
    exact q u (yFo W n a (.lst us.dropLast) (.lst ys.dropLast)) rfl (ylO w hn hm hf ⟨hf,_,yQ,rs.dropLast⟩) ru
   .cases e
  .cases e
 .cases e
noncomputable def ymU (eo ei ev:XE):XS:=fun ρ h=>ob (ev ρ h) fun v h1=>ob (eo ρ h1) fun o h2=>ob (ei ρ h2) fun i h3=>match o,i with
 | .loc n,.int k=>(match h3[n]? with|some (.lst xs)=>(match ixN xs.length k with|some j=>some (.nx ρ,h3.set n (.lst (xs.set j v)))|none=>none)|_=>none)
 | _,_=>none
theorem yBx {to ti tv:TE}{eo ei ev:XE}(a:ydn K to eo) (b:ydn K ti ei) (c:ydn K tv ev):ylE K (yGj tv (yLd to ti yGX)) (ymU eo ei ev):=by
 intro W0 W ρ σ D o h' g e q
 obtain ⟨v,h1,e1,f1⟩:=yn e
 obtain ⟨x,h2,e2,f2⟩:=yn f1
 obtain ⟨i,h3,e3,f3⟩:=yn f2
 refine c W0 W ρ σ _ v h1 g e1 fun vv W1 w1 l1 r1=>?_
 subst w1
 refine a W0 W1 ρ σ _ x h2 (g.step l1) e2 fun vx W2 w2 l2 r2=>?_
 subst w2
 refine b W0 W2 ρ σ _ i h3 (g.step (l1.trans l2)) e3 fun vi W3 w3 l3 r3=>?_
 subst w3
 have w:=l3.ok
 split at f3
 .rename_i n k
  split at f3
  .rename_i xs hn
   split at f3
   .rename_i j hj
    cases f3
    obtain ⟨p,ep,hm,hf,us,hp,rs⟩:=w.loc hn (l3.rep r2)
    refine ⟨p,us,k,j,ep,r3,hp,by rw [rs.len];exact hj,?_⟩
    have l4:Le K W3 (yFo W3 n p (.lst (us.set j vv)) (.lst (xs.set j v))):=ylO w hn hm hf ⟨hf,_,yQ,rs.set j ((l2.trans l3).rep r1)⟩
    have l:=l1.trans (l2.trans (l3.trans l4))
    exact q _ σ rfl l.lf (g.step l)
   .cases f3
  .cases f3
 .cases f3
def keyOf:PV->Option Key
 | .int i=>some (.inl i)
 | .str s=>some (.inr s)
 | _=>none
theorem yiX {W:Wd}{x:PV}{v:V}{k:Key}(e:keyOf x=some k) (r:yeI K W x v):v=kV k:=by
 cases x<;>cases e<;>exact r
noncomputable def ymV (x:PV) (h:AH):Option (List Key×List PV):=match x with|.loc n=>(match h[n]? with|some (.dct ks xs)=>some (ks,xs)|_=>none)|_=>none
def yhN:List Key->List PV->Key->Option PV
 | k::ks,x::xs,j=>if k=j then some x else yhN ks xs j
 | _,_,_=>none
def ypT:List Key->Key->Bool
 | [],_=>false
 | k::ks,j=>if k=j then true else ypT ks j
noncomputable def setK {α:Type}:List Key->List α->Key->α->List α
 | k::ks,x::xs,j,y=>if k=j then y::setK ks xs j y else x::setK ks xs j y
 | _,xs,_,_=>xs
noncomputable def ydX (ks:List Key) (xs:List PV) (k:Key) (x:PV):List Key×List PV:=if ypT ks k=true then (ks,setK ks xs k x) else (ks++[k],xs++[x])
theorem yqv {α:Type}:∀ (ks:List Key) (xs:List α) (j:Key) (y:α),(setK ks xs j y).length=xs.length
 | [],_,_,_=>by simp [setK]
 | _::_,[],_,_=>by simp [setK]
 | k::ks,x::xs,j,y=>by
  show (if k=j then y::setK ks xs j y else x::setK ks xs j y).length=_
  split<;>simp [yqv ks xs j y]
theorem RepL.setK {F:Hp}{m:List Addr}:∀ {xs:List PV}{vs:List V}(ks:List Key) (j:Key) {y:PV}{u:V},RepL K F m xs vs->Rep K F m y u->RepL K F m (PX.setK ks xs j y) (PX.setK ks vs j u)
 | [],_,ks,j,y,u,h,_=>by rw [show _=[] from h];cases ks<;>exact rfl
 | x::xs,_,[],j,y,u,h,_=>by
  obtain ⟨v,r,e,h1,l⟩:=h
  subst e
  exact ⟨v,r,rfl,h1,l⟩
 | x::xs,_,k::ks,j,y,u,⟨v,r,e,h1,l⟩,ru=>by
  subst e
  show RepL K F m (if k=j then y::PX.setK ks xs j y else x::PX.setK ks xs j y) (if k=j then u::PX.setK ks r j u else v::PX.setK ks r j u)
  have ih:=RepL.setK ks j l ru
  split
  .exact ⟨u,_,rfl,ru,ih⟩
  .exact ⟨v,_,rfl,h1,ih⟩
theorem ynt {F:Hp}{m:List Addr}:∀ {ks:List Key}{xs:List PV}{vs:List V}(j:Key),RepL K F m xs vs->vs.length=ks.length->(∀ x,yhN ks xs j=some x->∃ v,ysu (ks.zip vs) j=some v/\Rep K F m x v)/\(yhN ks xs j=none->ysu (ks.zip vs) j=none)
 | [],xs,vs,j,r,hl=>by
  refine ⟨fun x e=>?_,fun _=>rfl⟩
  cases xs<;>cases e
 | k::ks,[],vs,j,r,hl=>by rw [show vs=[] from r] at hl;cases hl
 | k::ks,x::xs,_,j,⟨v,r',e,h,l⟩,hl=>by
  subst e
  have ih:=ynt j l (by simpa using hl)
  have hz:ysu ((k::ks).zip (v::r')) j=if k=j then some v else ysu (ks.zip r') j:=by
   unfold ysu
   rw [List.zip_cons_cons,List.find?_cons]
   by_cases hk:k=j
   .simp [hk]
   .simp [hk]
  rw [hz]
  show (∀ y,(if k=j then some x else yhN ks xs j)=some y->_)/\((if k=j then some x else yhN ks xs j)=none->_)
  by_cases hk:k=j
  .rw [if_pos hk,if_pos hk]
   exact ⟨fun y e=>by cases e;exact ⟨v,rfl,h⟩,fun e=>by cases e⟩
  .rw [if_neg hk,if_neg hk]
   exact ih
theorem yyD (j:Key):∀ (ks:List Key) (vs:List V),vs.length=ks.length->((ks.zip vs).any fun kv=>decide (kv.1=j))=ypT ks j
 | [],_,_=>by simp [ypT]
 | k::ks,[],h=>by cases h
 | k::ks,v::vs,h=>by
  rw [List.zip_cons_cons,List.any_cons,yyD j ks vs (by simpa using h)]
  show (decide (k=j) || ypT ks j)=if k=j then true else ypT ks j
  by_cases hk:k=j<;>simp [hk]
theorem yyE (j:Key) (y:V):∀ (ks:List Key) (vs:List V),vs.length=ks.length->(ks.zip vs).map (fun kv=>if kv.1=j then (kv.1,y) else kv)=ks.zip (setK ks vs j y)
 | [],_,_=>by simp
 | k::ks,[],h=>by cases h
 | k::ks,v::vs,h=>by
  rw [List.zip_cons_cons,List.map_cons,yyE j y ks vs (by simpa using h)]
  show (if k=j then (k,y) else (k,v))::_=(k::ks).zip (if k=j then y::setK ks vs j y else v::setK ks vs j y)
  by_cases hk:k=j
  .rw [if_pos hk,if_pos hk];rfl
  .rw [if_neg hk,if_neg hk];rfl
theorem yvK (j:Key) (y:V) (ks:List Key) (vs:List V) (hl:vs.length=ks.length):putK (ks.zip vs) j y=if ypT ks j=true then ks.zip (setK ks vs j y) else (ks++[j]).zip (vs++[y]):=by
 unfold putK
 rw [yyD j ks vs hl,yyE j y ks vs hl,List.zip_append hl.symm]
 rfl
theorem ykQ {W:Wd}(w:WOk K W) {x:PV}{v:V}{ks:List Key}{xs:List PV}(e:ymV x W.h=some (ks,xs)) (r:yeI K W x v):∃ a vs,v=.ref a/\W.H a=some (.dK (ks.zip vs))/\vs.length=ks.length/\yfb K W xs vs:=by
 unfold ymV at e
 split at e
 .split at e
  .rename_i hn
   cases e
   obtain ⟨a,ev,hm,hf,vs,hp,hl,rs⟩:=w.loc hn r
   exact ⟨a,vs,ev,hp,hl,rs⟩
  .cases e
 .cases e
noncomputable def yyF (x:PV) (h:AH):Option (List Key×List PV):=match x with|.loc n=>(match h[n]? with|some (.dct ks xs)=>some (ks,xs)|some (.fz ks xs)=>some (ks,xs)|_=>none)|_=>none
theorem ykR {W:Wd}(w:WOk K W) {x:PV}{v:V}{ks:List Key}{xs:List PV}(e:yyF x W.h=some (ks,xs)) (r:yeI K W x v):∃ a vs,v=.ref a/\Rd W.H a (.dK (ks.zip vs))/\vs.length=ks.length/\yfb K W xs vs:=by
 unfold yyF at e
 split at e
 .split at e
  .rename_i hn
   cases e
   obtain ⟨a,ev,hm,hf,vs,hp,hl,rs⟩:=w.loc hn r
   exact ⟨a,vs,ev,.inl hp,hl,rs⟩
  .rename_i hn
   cases e
   obtain ⟨a,ev,hm,hf,o,vs,hp,hl,rs⟩:=w.loc hn r
   exact ⟨a,vs,ev,.inr ⟨o,hp⟩,hl,rs⟩
  .cases e
 .cases e
theorem DGet.r {H:Hp}{a:Addr}{kvs:List (Key×V)}{k:Key}(e:Rd H a (.dK kvs)):DGet H a (kV k) (ysu kvs k):=.inl ⟨kvs,k,e,rfl,rfl⟩
noncomputable def yut (ed ek:XE):XE:=fun ρ h=>ob (ed ρ h) fun d h1=>ob (ek ρ h1) fun k h2=>match yyF d h2,keyOf k with|some (ks,xs),some j=>(match yhN ks xs j with|some x=>some (x,h2)|none=>none)|_,_=>none
theorem yBy {td ty:TE}{ed ek:XE}(a:ydn K td ed) (b:ydn K ty ek):ydn K (yHM td ty) (yut ed ek):=by
 intro W0 W ρ σ Q z h' g e q
 obtain ⟨d,h1,e1,f1⟩:=yn e
 obtain ⟨k,h2,e2,f2⟩:=yn f1
 refine a W0 W ρ σ _ d h1 g e1 fun vd W1 w1 l1 r1=>?_
 subst w1
 refine b W0 W1 ρ σ _ k h2 (g.step l1) e2 fun vk W2 w2 l2 r2=>?_
 subst w2
 split at f2
 .rename_i ks xs j hd hk
  split at f2
  .rename_i x hx
   cases f2
   obtain ⟨p,vs,ev,hp,hl,rs⟩:=ykR l2.ok hd (l2.rep r1)
   obtain ⟨v,h3,h4⟩:=(ynt j rs hl).1 _ hx
   have:=yiX hk r2
   subst this
   exact ⟨p,v,ev,by rw [<- h3];exact DGet.r hp,q _ W2 rfl (l1.trans l2) h4⟩
  .cases f2
 .cases f2
noncomputable def yyG (neg:Bool) (ek ed:XE):XE:=fun ρ h=>ob (ek ρ h) fun k h1=>ob (ed ρ h1) fun d h2=>match yyF d h2,keyOf k with|some (ks,xs),some j=>some (.bl (if neg then !(yhN ks xs j).isSome else (yhN ks xs j).isSome),h2)|_,_=>none
theorem ypU {F:Hp}{m:List Addr}{ks:List Key}{xs:List PV}{vs:List V}(j:Key) (r:RepL K F m xs vs) (hl:vs.length=ks.length):(ysu (ks.zip vs) j).isSome=(yhN ks xs j).isSome:=by
 have h:=ynt j r hl
 cases e:yhN ks xs j with
 | none=>rw [h.2 e];rfl
 | some x=>obtain ⟨v,h1,_⟩:=h.1 x e;rw [h1];rfl
theorem yFp {td ty:TE}{ed ek:XE}(b:ydn K ty ek) (a:ydn K td ed):ydn K (yLt ty td) (yyG false ek ed):=by
 intro W0 W ρ σ Q z h' g e q
 obtain ⟨k,h1,e1,f1⟩:=yn e
 obtain ⟨d,h2,e2,f2⟩:=yn f1
 refine b W0 W ρ σ _ k h1 g e1 fun vk W1 w1 l1 r1=>?_
 subst w1
 refine a W0 W1 ρ σ _ d h2 (g.step l1) e2 fun vd W2 w2 l2 r2=>?_
 subst w2
 split at f2
 .rename_i ks xs j hd hk
  cases f2
  obtain ⟨p,vs,ev,hp,hl,rs⟩:=ykR l2.ok hd r2
  have:=yiX hk (l2.rep r1)
  subst this
  exact ⟨p,_,ev,DGet.r hp,q _ W2 rfl (l1.trans l2) (by rw [ypU j rs hl];rfl)⟩
 .cases f2
theorem ywR {td ty:TE}{ed ek:XE}(b:ydn K ty ek) (a:ydn K td ed):ydn K (yyA ty td) (yyG true ek ed):=by
 intro W0 W ρ σ Q z h' g e q
 obtain ⟨k,h1,e1,f1⟩:=yn e
 obtain ⟨d,h2,e2,f2⟩:=yn f1
 refine b W0 W ρ σ _ k h1 g e1 fun vk W1 w1 l1 r1=>?_
 subst w1
 refine a W0 W1 ρ σ _ d h2 (g.step l1) e2 fun vd W2 w2 l2 r2=>?_
 subst w2
 split at f2
 .rename_i ks xs j hd hk
  cases f2
  obtain ⟨p,vs,ev,hp,hl,rs⟩:=ykR l2.ok hd r2
  have:=yiX hk (l2.rep r1)
  subst this
  exact ⟨p,_,ev,DGet.r hp,q _ W2 rfl (l1.trans l2) (by rw [ypU j rs hl];rfl)⟩
 .cases f2
noncomputable def yqw (ed ek ev:XE):XS:=fun ρ h=>ob (ev ρ h) fun v h1=>ob (ed ρ h1) fun d h2=>ob (ek ρ h2) fun k h3=>match d,keyOf k with
 | .loc n,some j=>(match h3[n]? with|some (.dct ks xs)=>if ks.length<1000 then some (.nx ρ,h3.set n (.dct (ydX ks xs j v).1 (ydX ks xs j v).2)) else none|_=>none)
 | _,_=>none
theorem yBz {td ty tv:TE}{ed ek ev:XE}(a:ydn K td ed) (b:ydn K ty ek) (c:ydn K tv ev):ylE K (yHN td ty tv) (yqw ed ek ev):=by
 intro W0 W ρ σ D o h' g e q
 obtain ⟨v,h1,e1,f1⟩:=yn e
 obtain ⟨x,h2,e2,f2⟩:=yn f1
 obtain ⟨i,h3,e3,f3⟩:=yn f2
 refine c W0 W ρ σ _ v h1 g e1 fun vv W1 w1 l1 r1=>?_
 subst w1
 refine a W0 W1 ρ σ _ x h2 (g.step l1) e2 fun vx W2 w2 l2 r2=>?_
 subst w2
 refine b W0 W2 ρ σ _ i h3 (g.step (l1.trans l2)) e3 fun vi W3 w3 l3 r3=>?_
 subst w3
 have w:=l3.ok
 split at f3
 .rename_i n j hk
  split at f3
  .rename_i ks xs hn
   split at f3
   .rename_i hc
    cases f3
    obtain ⟨p,ep,hm,hf,us,hp,hl,rs⟩:=w.loc hn (l3.rep r2)
    have:=yiX hk r3
    subst this
    have hput:=yvK j vv ks us hl
    have rv:=(l2.trans l3).rep r1
    have key:∃ us',putK (ks.zip us) j vv=(ydX ks xs j v).1.zip us'/\us'.length=(ydX ks xs j v).1.length/\yfb K W3 (ydX ks xs j v).2 us':=by
     unfold ydX
     by_cases hj:ypT ks j=true
     .rw [if_pos hj] at hput ⊢
      exact ⟨_,hput,by rw [yqv];exact hl,rs.setK ks j rv⟩
     .rw [if_neg hj] at hput ⊢
      exact ⟨_,hput,by rw [List.length_append,List.length_append,hl];rfl,rs.snoc rv⟩
    obtain ⟨us',p1,p2,p3⟩:=key
    refine ⟨p,_,ep,DPut.k hp (by rw [List.length_zip,hl];exact yrX (by omega)),?_⟩
    rw [p1]
    have l4:Le K W3 (yFo W3 n p (.dK ((ydX ks xs j v).1.zip us')) (.dct (ydX ks xs j v).1 (ydX ks xs j v).2)):=ylO w hn hm hf ⟨hf,us',yQ,p2,p3⟩
    have l:=l1.trans (l2.trans (l3.trans l4))
    exact q _ σ rfl l.lf (g.step l)
   .cases f3
  .cases f3
 .cases f3
def ysw:XO:=fun _ h=>some (.dct [] [],h)
theorem yBA:yvz K yCY ysw:=by
 intro W0 W ρ σ Q d h' g e q
 cases e
 intro p hp
 exact q p (ypc W p (.dK [])) rfl (ygf g.ok hp) (g.ok.out hp) hp (fun z=>by cases z) ⟨g.ok.ff hp,[],yQ,rfl,rfl⟩
noncomputable def ysx (ed ek ex:XE):XE:=fun ρ h=>ob (ed ρ h) fun d h1=>if (yyF d h1).isSome=true then ob (ek ρ h1) fun k h2=>ob (ex ρ h2) fun y h3=>(match yyF d h3,keyOf k with|some (ks,xs),some j=>some ((yhN ks xs j).getD y,h3)|_,_=>none) else none
theorem yyH {td ty tx:TE}{ed ek ex:XE}(a:ydn K td ed) (b:ydn K ty ek) (c:ydn K tx ex):ydn K (yCZ td ty tx) (ysx ed ek ex):=by
 intro W0 W ρ σ Q z h' g e q
 obtain ⟨d,h1,e1,f1⟩:=yn e
 refine a W0 W ρ σ _ d h1 g e1 fun vd W1 w1 l1 r1=>?_
 subst w1
 split at f1
 .rename_i hs
  obtain ⟨⟨ks0,xs0⟩,hd0⟩:=Option.isSome_iff_exists.mp hs
  obtain ⟨p,vs0,ev,hp0,_,_⟩:=ykR l1.ok hd0 r1
  subst ev
  refine ⟨p,rfl,.inl ⟨_,hp0⟩,?_⟩
  obtain ⟨k,h2,e2,f2⟩:=yn f1
  obtain ⟨y,h3,e3,f3⟩:=yn f2
  refine b W0 W1 ρ σ _ k h2 (g.step l1) e2 fun vk W2 w2 l2 r2=>?_
  subst w2
  refine c W0 W2 ρ σ _ y h3 (g.step (l1.trans l2)) e3 fun vy W3 w3 l3 r3=>?_
  subst w3
  split at f3
  .rename_i ks xs j hd hk
   cases f3
   obtain ⟨p',vs,ev,hp,hl,rs⟩:=ykR l3.ok hd ((l2.trans l3).rep r1)
   cases ev
   have:=yiX hk (l3.rep r2)
   subst this
   refine ⟨_,DGet.r hp,q _ W3 rfl (l1.trans (l2.trans l3)) ?_⟩
   have hv:=ynt j rs hl
   cases eg:yhN ks xs j with
   | none=>rw [hv.2 eg];exact r3
   | some x=>obtain ⟨v,h3,h4⟩:=hv.1 x eg;rw [h3];exact h4
  .cases f3
 .cases f1
end PX
namespace PX
open PySem L2
variable {K:Ck}
theorem yuu {x:PV}{u:V}(e:sv x=some u):yww u=true:=by cases x<;>cases e<;>rfl
def yKz:List V->Hp->VK->Prop:=fun xs H Q=>∃ i j,xs=[.int i,.int j]/\Q (.int (if j>i then j else i)) H
noncomputable def yyI:List PV->AH->Option (PV×AH):=fun xs h=>match xs with|[.int i,.int j]=>some (.int (if j>i then j else i),h)|_=>none
theorem yHS:yqr K yKz yyI:=by
 intro W xs vs Q z h' w r e q
 unfold yyI at e
 split at e
 .rename_i i j
  cases e
  obtain ⟨v,u,rfl,rv,ru⟩:=yLr r
  exact ⟨i,j,by rw [show v=_ from rv,show u=_ from ru],q _ W rfl (.refl w) rfl⟩
 .cases e
end PX
namespace PX
open PySem L2
theorem yKA [i:Decidable True]:decide True=true:=by simp
theorem yKB [i:Decidable False]:decide False=false:=by simp
theorem yKC:(false=true)=False:=by simp
theorem yKD:(true=false)=False:=by simp
theorem yvL {g:XG}{s:XS}{xs:List PV}(I:Nat->PSt->AH->Prop) (R:PV->AH->Prop) {ρ:PSt}{h:AH}(h0:I 0 ρ h)
  (step:∀ (i:Nat) (x:PV) (ρ:PSt) (h:AH),xs[i]?=some x->I i ρ h->∃ ρ1 o h',g x ρ=some ρ1/\s ρ1 h=some (o,h')/\(match o with|.nx ρ'=>I (i+1) ρ' h'|.ct ρ'=>I (i+1) ρ' h'|.bk _=>False|.rt y=>R y h')) :
  (∃ ρ' h',ynO g s xs ρ h=some (.nx ρ',h')/\I xs.length ρ' h')\/∃ y h',ynO g s xs ρ h=some (.rt y,h')/\R y h':=by
 have key:∀ (n i:Nat) (ρ:PSt) (h:AH),i+n=xs.length->I i ρ h->(∃ ρ' h',ynO g s (xs.drop i) ρ h=some (.nx ρ',h')/\I xs.length ρ' h')\/∃ y h',ynO g s (xs.drop i) ρ h=some (.rt y,h')/\R y h':=by
  intro n
  induction n with
  | zero =>
   intro i ρ h hi hI
   have:i=xs.length:=by omega
   subst this
   rw [List.drop_length]
   exact .inl ⟨ρ,h,rfl,hI⟩
  | succ n ih =>
   intro i ρ h hi hI
   have hlt:i<xs.length:=by omega
   obtain ⟨ρ1,o,h',e1,e2,e3⟩:=step i xs[i] ρ h (List.getElem?_eq_getElem hlt) hI
   rw [List.drop_eq_getElem_cons hlt,yyx,e1,Option.bind_some,e2,yv]
   cases o with
   | nx ρ'=>exact ih (i+1) ρ' h' (by omega) e3
   | ct ρ'=>exact ih (i+1) ρ' h' (by omega) e3
   | bk ρ'=>exact e3.elim
   | rt y=>exact .inr ⟨y,h',rfl,e3⟩
 simpa using key xs.length 0 ρ h (by omega) h0
theorem yFq {g:XG}{s:XS}{xs:List PV}(I:Nat->PSt->AH->Prop) {ρ:PSt}{h:AH}(h0:I 0 ρ h)
  (step:∀ (i:Nat) (x:PV) (ρ:PSt) (h:AH),xs[i]?=some x->I i ρ h->∃ ρ1 ρ' h',g x ρ=some ρ1/\(s ρ1 h=some (.nx ρ',h')\/s ρ1 h=some (.ct ρ',h'))/\I (i+1) ρ' h') :
  ∃ ρ' h',ynO g s xs ρ h=some (.nx ρ',h')/\I xs.length ρ' h':=by
 rcases yvL I (fun _ _=>False) h0 (fun i x ρ h hx hI=>by
  obtain ⟨ρ1,ρ',h',e1,e2,e3⟩:=step i x ρ h hx hI
  rcases e2 with e2|e2
  .exact ⟨ρ1,.nx ρ',h',e1,e2,e3⟩
  .exact ⟨ρ1,.ct ρ',h',e1,e2,e3⟩) with q|⟨_,_,_,q⟩
 .exact q
 .exact q.elim
theorem yiY {β:Type}{g:XG}{s:XS}{xs:List PV}(I:Nat->PSt->AH->Prop) {ρ:PSt}{h:AH}{f:Out->AH->Option β}{r:Option β}(h0:I 0 ρ h)
  (step:∀ (i:Nat) (x:PV) (ρ:PSt) (h:AH),xs[i]?=some x->I i ρ h->∃ ρ1 ρ' h',g x ρ=some ρ1/\(s ρ1 h=some (.nx ρ',h')\/s ρ1 h=some (.ct ρ',h'))/\I (i+1) ρ' h')
  (fin:∀ ρ' h',I xs.length ρ' h'->f (.nx ρ') h'=r):ob (ynO g s xs ρ h) f=r:=by
 obtain ⟨ρ',h',e,hI⟩:=yFq I h0 step
 rw [e]
 exact fin ρ' h' hI
theorem yqx {β:Type}{g:XG}{s:XS}{xs:List PV}(I:Nat->PSt->AH->Prop) (R:PV->AH->Prop) {ρ:PSt}{h:AH}{f:Out->AH->Option β}{P:Option β->Prop}(h0:I 0 ρ h)
  (step:∀ (i:Nat) (x:PV) (ρ:PSt) (h:AH),xs[i]?=some x->I i ρ h->∃ ρ1 o h',g x ρ=some ρ1/\s ρ1 h=some (o,h')/\(match o with|.nx ρ'=>I (i+1) ρ' h'|.ct ρ'=>I (i+1) ρ' h'|.bk _=>False|.rt y=>R y h'))
  (fin:∀ ρ' h',I xs.length ρ' h'->P (f (.nx ρ') h')) (out:∀ y h',R y h'->P (f (.rt y) h')):P (ob (ynO g s xs ρ h) f):=by
 rcases yvL I R h0 step with ⟨ρ',h',e,hI⟩|⟨y,h',e,hR⟩
 .rw [e];exact fin ρ' h' hI
 .rw [e];exact out y h' hR
theorem yBB {c:XT}{s:XS}{n:Nat}{ρ:PSt}{h:AH}:whl c s (n+1) ρ h=ob (c ρ h) fun k h1=>if k=true then ob (s ρ h1) fun o h2=>(match o with|.nx ρ'=>whl c s n ρ' h2|.ct ρ'=>whl c s n ρ' h2|.bk ρ'=>some (.nx ρ',h2)|.rt y=>some (.rt y,h2)) else some (.nx ρ,h1):=rfl
theorem yFr (lo:Int) (n:Nat):(ywH lo n).length=n:=by simp [ywH]
theorem ykc {lo:Int}{n i:Nat}{x:PV}(h:(ywH lo n)[i]?=some x):i<n/\x=.int (lo+i):=by
 have hl:=(List.getElem?_eq_some_iff.mp h).1
 rw [yFr] at hl
 refine ⟨hl,?_⟩
 simp [ywH,hl] at h
 exact h.symm
theorem ymv {a:XA}{ρ:PSt}{h h1:AH}{j:Int}(e:a ρ h=some ([.int j],h1)) (h0:-1000000000<=j) (h2:j<=1000000000):yBg a ρ h=some (ywH 0 j.toNat,h1):=by
 unfold yBg
 rw [e,yv]
 show (if _ then _ else _)=_
 rw [if_pos ⟨h0,h2⟩]
theorem yuv {α:Type}{e:XE}{inn:PV->PSt}(f g:α->PV):∀ {ts:List α}{h:AH},(∀ t∈ts,e (inn (f t)) h=some (g t,h))->yAY e inn (ts.map f) h=some (ts.map g,h)
 | [],_,_=>rfl
 | t::ts,h,k=>by
  show ob (e (inn (f t)) h) (fun y h1=>ob (yAY e inn (ts.map f) h1) fun ys h2=>some (y::ys,h2))=_
  rw [k t List.mem_cons_self,yv,yuv f g fun y hy=>k y (List.mem_cons_of_mem _ hy),yv]
  rfl
theorem yiZ {i:Nat}{e:XE}{ρ:PSt}{h:AH}{xs:List PV}(hx:ρ[i]?=some (.own (.lst xs))):yiR i e ρ h=ob (e ρ h) fun x h1=>if xs.length<100000 then some (.nx (ρ.set i (.own (.lst (xs++[x])))),h1) else none:=by
 unfold yiR
 rw [hx]
theorem yHT {α:Type}{a0:α}{xs:List α}:atI (a0::xs) 0=some a0:=yev (j:=0) rfl
theorem yHU {α:Type}{a0 a1:α}{xs:List α}:atI (a0::a1::xs) 1=some a1:=yev (j:=1) rfl
theorem yKE {α:Type}{a0 a1 a2:α}{xs:List α}:atI (a0::a1::a2::xs) 2=some a2:=yev (j:=2) rfl
theorem yLu {α:Type}{a0 a1 a2 a3:α}{xs:List α}:atI (a0::a1::a2::a3::xs) 3=some a3:=yev (j:=3) rfl
theorem yMb {α:Type}{a0 a1 a2 a3 a4:α}{xs:List α}:atI (a0::a1::a2::a3::a4::xs) 4=some a4:=yev (j:=4) rfl
theorem yhk {h:AH}{n:Nat}{xs:List PV}(e:h[n]?=some (.lst xs)):ybW [.loc n] h=some (.lst xs,h):=by
 unfold ybW listOf
 simp only [e]
theorem yqy {h:AH}{n:Nat}{xs:List PV}(e:h[n]?=some (.lst xs)):yiU [.loc n] h=some (.int xs.length,h):=by
 unfold yiU yys
 simp only [e]
theorem yFs {h:AH}{n:Nat}{xs:List PV}{y:PV}(e:h[n]?=some (.lst xs)) (hl:xs.length<100000):ywP (.loc n) [y] h=some (.non,h.set n (.lst (xs++[y]))):=by
 unfold ywP
 simp only [e]
 rw [if_pos hl]
theorem ynT {h:AH}{n:Nat}{xs:List PV}(e:h[n]?=some (.lst xs)):yqu (.loc n) h=true:=by
 unfold yqu yew
 simp only [e]
end PX
namespace PX
open PySem L2
variable {K:Ck}
def yyJ:P2:=fun x y h=>match x with|.tup xs=>ydv (.tup xs) y h|x=>yhL x y h
theorem yFt:yge K (rIx K.K) yyJ:=by
 intro W x y v u Q z h' w rx ry e q
 unfold yyJ at e
 split at e
 .exact .inr (.inl (ybE W _ y v u Q z h' w rx ry e q))
 .exact .inl (yfh W _ y v u Q z h' w rx ry e q)
theorem yFu {xs:List PV}{i:Int}{h:AH}:yyJ (.tup xs) (.int i) h=(atI xs i).bind fun v=>some (v,h):=id (by simp only [yyJ,ydv];cases atI xs i<;>rfl)
theorem yFv {xs:List PV}{i:Int}{h:AH}:yyJ (.lst xs) (.int i) h=(atI xs i).bind fun v=>some (v,h):=id (by simp only [yyJ,yhL];cases atI xs i<;>rfl)
section
variable {ta:TE}{ea:XE}
end
end PX
namespace PX
open PySem L2
variable {K:Ck}
def yJe (lo st:Int) (n:Nat):It:=⟨fun i _=>i<n,fun i H x H'=>H'=H/\x=.int (lo+i*st),fun i _=>n<=i⟩
def szR (a b c:Int):Nat:=if a<b then ((b-a-1)/c+1).toNat else 0
noncomputable def yHV (ta:TA):TI:=fun σ H R=>ta σ H fun vs H1=>∃ i j c:Int,vs=[.int i,.int j,.int c]/\(0<=i/\i<1000000000/\0<=j/\j<1000000000/\0<c/\c<1000000)/\R (yJe i c (szR i j c)) H1
def yDb (lo st:Int) (n:Nat):List PV:=(List.range n).map fun (k:Nat)=>.int (lo+(k:Int)*st)
noncomputable def yHW (a:XA):XA:=fun ρ h=>ob (a ρ h) fun xs h1=>match xs with|[.int i,.int j,.int c]=>if 0<=i/\i<1000000000/\0<=j/\j<1000000000/\0<c/\c<1000000 then some (yDb i c (szR i j c),h1) else none|_=>none
theorem yFw (W:Wd) (lo st:Int) (n:Nat):yIZ K W (yJe lo st n) (yDb lo st n):=by
 refine ⟨fun i W' l w hi=>?_,fun i W' v' H2 l w hi hy=>?_,fun W' l w=>?_⟩
 .show i<n
  simpa [yDb] using hi
 .obtain ⟨h1,h2⟩:=hy
  have hi:i<n:=by simpa [yDb] using hi
  exact ⟨h1,.int (lo+(i:Int)*st),by simp [yDb,hi],h2⟩
 .show n<=_
  simp [yDb]
theorem yyK {t:TA}{e:XA}(a:ytL K t e):yEV K (yHV t) (yHW e):=by
 intro W0 W ρ σ R xs h' g e q
 obtain ⟨ys,h1,e1,f1⟩:=yn e
 split at f1
 .rename_i i j c
  split at f1
  .rename_i hj
   cases f1
   refine a W0 W ρ σ _ _ _ g e1 fun vs W1 w1 l1 r1=>?_
   obtain ⟨v,r,rfl,rv,v2,r2,rfl,rv2,v3,r3,rfl,rv3,rr⟩:=r1
   obtain rfl:r3=[]:=rr
   exact ⟨i,j,c,by rw [show v=.int i from rv,show v2=.int j from rv2,show v3=.int c from rv3],hj,q _ W1 w1 l1 (yFw W1 i c _)⟩
  .cases f1
 .cases f1
theorem yHX {a:XA}{ρ:PSt}{h h1:AH}{i j c:Int}(e:a ρ h=some ([.int i,.int j,.int c],h1)) (hc:0<=i/\i<1000000000/\0<=j/\j<1000000000/\0<c/\c<1000000):yHW a ρ h=some (yDb i c (szR i j c),h1):=by
 unfold yHW
 rw [e,yJP]
 show (if _ then _ else _)=_
 rw [if_pos hc]
end PX
namespace PX
open PySem L2
variable {K:Ck}
def Odd (K:PySem.W.Frag) (H:Hp):Prop:=∃ a o ob,H a=some o/\K.lookup a=some ob
inductive EqR (K:PySem.W.Frag) (H:Hp):Nat->V->V->Bool->Prop where
 | flat {n:Nat}{x y:V}(fx:yww x=true) (fy:yww y=true):EqR K H n x y (eqV x y)
 | same {n:Nat}{a:Addr}:EqR K H n (.ref a) (.ref a) true
 | odd {n:Nat}{x y:V}{b:Bool}(h:Odd K H):EqR K H n x y b
 | nt {n:Nat}{b:Addr}{ys:List V}(hb:SqT K H b ys):EqR K H (n+1) .non (.ref b) false
 | tn {n:Nat}{b:Addr}{ys:List V}(hb:SqT K H b ys):EqR K H (n+1) (.ref b) .non false
 | lst {n:Nat}{a b:Addr}{xs ys:List V}{e:Nat->Bool}(ha:H a=some (.lst xs)) (hb:H b=some (.lst ys)) (hl:xs.length=ys.length) (hne:a≠b) (he:∀ j x y,xs[j]?=some x->ys[j]?=some y->EqR K H n x y (e j)):EqR K H (n+1) (.ref a) (.ref b) ((List.range xs.length).all e)
 | lstN {n:Nat}{a b:Addr}{xs ys:List V}(ha:H a=some (.lst xs)) (hb:H b=some (.lst ys)) (hl:xs.length≠ys.length):EqR K H (n+1) (.ref a) (.ref b) false
 | tup {n:Nat}{a b:Addr}{xs ys:List V}{e:Nat->Bool}(ha:SqT K H a xs) (hb:SqT K H b ys) (hne:a≠b) (he:∀ j x y,xs[j]?=some x->ys[j]?=some y->EqR K H n x y (e j)):EqR K H (n+1) (.ref a) (.ref b) ((List.range (min xs.length ys.length)).all e && xs.length == ys.length)
inductive RcR (K:PySem.W.Frag) (H:Hp):V->V->Bool->Prop where
 | nt {b:Addr}{ys:List V}(hb:SqT K H b ys):RcR K H .non (.ref b) false
 | tn {b:Addr}{ys:List V}(hb:SqT K H b ys):RcR K H (.ref b) .non false
 | lst {a b:Addr}{xs ys:List V}{e:Nat->Bool}(ha:H a=some (.lst xs)) (hb:H b=some (.lst ys)) (hl:xs.length=ys.length) (he:∀ j x y,xs[j]?=some x->ys[j]?=some y->EqR K H 40 x y (e j)):RcR K H (.ref a) (.ref b) ((List.range xs.length).all e)
 | lstN {a b:Addr}{xs ys:List V}(ha:H a=some (.lst xs)) (hb:H b=some (.lst ys)) (hl:xs.length≠ys.length):RcR K H (.ref a) (.ref b) false
 | tup {a b:Addr}{xs ys:List V}{e:Nat->Bool}(ha:SqT K H a xs) (hb:SqT K H b ys) (he:∀ j x y,xs[j]?=some x->ys[j]?=some y->EqR K H 40 x y (e j)):RcR K H (.ref a) (.ref b) ((List.range (min xs.length ys.length)).all e && xs.length == ys.length)
def yLv (K:PySem.W.Frag):R2:=fun x y H Q=>∃ b,RcR K H x y b/\Q (.bl b) H
def yLw (K:PySem.W.Frag):R2:=fun x y H Q=>∃ b,RcR K H x y b/\Q (.bl (!b)) H
noncomputable def ynu (f:PV->PV->Option Bool):List PV->List PV->Option Bool
 | x::xs,y::ys=>(match f x y,ynu f xs ys with|some b,some c=>some (b && c)|_,_=>none)
 | _,_=>some true
noncomputable def pairE (f:PV->PV->Option Bool) (h:AH) (x y:PV):Option Bool:=match x,y with
 | .tup xs,.tup ys=>(match ynu f xs ys with|some b=>some (b && xs.length == ys.length)|none=>none)
 | .non,.tup _=>some false
 | .tup _,.non=>some false
 | x,y=>(match yew x h,yew y h with|some xs,some ys=>if xs.length=ys.length then ynu f xs ys else some false|_,_=>none)
noncomputable def eqP:Nat->AH->PV->PV->Option Bool
 | 0,_,_,_=>none
 | n+1,h,x,y=>match sv x,sv y with
  | some u,some v=>some (eqV u v)
  | _,_=>pairE (eqP n h) h x y
theorem yBC:∀ {v:V},yww v=true->eqV v v=true
 | .non,_=>rfl
 | .bl b,_=>by cases b<;>rfl
 | .int i,_=>by simp [eqV]
 | .str s,_=>by simp [eqV]
noncomputable def unV:Value->Option V
 | .none=>some .non
 | .bool b=>some (.bl b)
 | .int i _=>some (.int i)
 | .str x _=>some (.str x)
 | .bytes b _=>some (.byt b)
 | .float b _=>some (.flt b)
 | .ref a=>some (.ref a)
 | .type n=>some (.ty n)
 | _=>none
theorem yDc:∀ {v:V}{u:Value},RelV v u->unV u=some v
 | .non,_,h=>by rw [show _=Value.none from h];rfl
 | .bl _,_,h=>by rw [show _=Value.bool _ from h];rfl
 | .int _,_,⟨_,h⟩=>by rw [h];rfl
 | .str _,_,⟨_,h⟩=>by rw [h];rfl
 | .byt _,_,⟨_,h⟩=>by rw [h];rfl
 | .flt _,_,⟨_,h⟩=>by rw [h];rfl
 | .ref _,_,h=>by rw [show _=Value.ref _ from h];rfl
 | .ty _,_,h=>by rw [show _=Value.type _ from h];rfl
theorem yFx {v w:V}{u:Value}(h1:RelV v u) (h2:RelV w u):v=w:=Option.some.inj ((yDc h1).symm.trans (yDc h2))
theorem yBD {vs ws:List V}{us:List Value}(h1:Vals vs us):Vals ws us->vs=ws:=by
 induction h1 generalizing ws with
 | nil=>intro h2;cases h2;rfl
 | cons r _ ih=>intro h2;cases h2 with|cons r2 t2=>rw [yFx r r2,ih t2]
theorem yHY {F H:Hp}{a:Addr}{vs ws:List V}(s:Same F H) (h1:TpAt K.K F a vs) (h2:TpAt K.K F a ws):vs=ws\/Odd K.K H:=by
 rcases h1 with h1|⟨o,its,n,e1,e2,e3,e4,e5⟩
 .rcases h2 with h2|⟨o,its,n,e1,e2,e3,e4,e5⟩
  .rw [h1] at h2;cases h2;exact .inl rfl
  .exact .inr ⟨a,_,o,s _ _ h1,e1⟩
 .rcases h2 with h2|⟨o',its',n',e1',e2',e3',e4',e5'⟩
  .exact .inr ⟨a,_,o,s _ _ h2,e1⟩
  .rw [e1] at e1';cases e1'
   rw [e3] at e3';cases e3'
   exact .inl (yBD e5 e5')
theorem ynU {f:PV->PV->Option Bool}{W:Wd}(hf:∀ x y v b,f x y=some b->yeI K W x v->yeI K W y v->b=true\/Odd K.K W.H):∀ {xs ys:List PV}{vs:List V}{c:Bool},yfb K W xs vs->yfb K W ys vs->ynu f xs ys=some c->c=true\/Odd K.K W.H
 | [],_,_,_,_,_,e=>by simp [ynu] at e;exact .inl e
 | _::_,[],_,_,_,_,e=>by simp [ynu] at e;exact .inl e
 | x::xs,y::ys,_,c,⟨v,r,e1,h1,l1⟩,⟨u,q,e2,h2,l2⟩,e=>by
  rw [e1] at e2
  cases e2
  unfold ynu at e
  cases eb:f x y with
  | none=>rw [eb] at e;cases e
  | some b =>
   cases ec:ynu f xs ys with
   | none=>rw [eb,ec] at e;cases e
   | some c' =>
    rw [eb,ec] at e
    cases e
    rcases hf x y _ b eb h1 h2 with z|z
    .rcases ynU hf l1 l2 ec with z'|z'
     .exact .inl (by rw [z,z'];rfl)
     .exact .inr z'
    .exact .inr z
theorem ywS {f:PV->PV->Option Bool}{W:Wd}(w:WOk K W) (hf:∀ x y v b,f x y=some b->yeI K W x v->yeI K W y v->b=true\/Odd K.K W.H) {x y:PV}{v:V}{b:Bool}(e:pairE f W.h x y=some b) (rx:yeI K W x v) (ry:yeI K W y v):b=true\/Odd K.K W.H:=by
 unfold pairE at e
 split at e
 .rename_i xs ys
  obtain ⟨a,vs,ev,ha,ra⟩:=rx
  obtain ⟨a',vs',ev',ha',ra'⟩:=ry
  rw [ev] at ev'
  cases ev'
  rcases yHY w.le ha ha' with z|z
  .subst z
   cases ec:ynu f xs ys with
   | none=>rw [ec] at e;cases e
   | some c =>
    rw [ec] at e
    cases e
    rcases ynU hf ra ra' ec with z|z
    .left
     rw [z,<- ra.len,<- ra'.len]
     simp
    .exact .inr z
  .exact .inr z
 .obtain ⟨a',vs',ev',ha',ra'⟩:=ry
  have rx:v=.non:=rx
  rw [rx] at ev';cases ev'
 .obtain ⟨a',vs',ev',ha',ra'⟩:=rx
  have ry:v=.non:=ry
  rw [ry] at ev';cases ev'
 .split at e
  .rename_i xs ys hx hy
   obtain ⟨a,vs,ev,ha,ra⟩:=ycg w hx rx
   obtain ⟨a',vs',ev',ha',ra'⟩:=ycg w hy ry
   rw [ev] at ev'
   cases ev'
   rw [ha] at ha'
   cases ha'
   rw [if_pos (by rw [<- ra.len,<- ra'.len])] at e
   exact ynU hf ra ra' e
  .cases e
theorem yqz {W:Wd}(w:WOk K W):∀ (n:Nat) (x y:PV) (v:V) (b:Bool),eqP n W.h x y=some b->yeI K W x v->yeI K W y v->b=true\/Odd K.K W.H
 | 0,_,_,_,_,e,_,_=>by cases e
 | n+1,x,y,v,b,e,rx,ry=>by
  unfold eqP at e
  split at e
  .rename_i u u' hu hu'
   cases e
   rw [<- ykO hu rx,<- ykO hu' ry]
   exact .inl (yBC (by rw [ykO hu rx];exact yuu hu))
  .exact ywS w (yqz w n) e rx ry
theorem ynV {f:PV->PV->Option Bool}{W:Wd}{n:Nat}(hf:∀ x y v u b,f x y=some b->yeI K W x v->yeI K W y u->EqR K.K W.H n v u b):∀ {xs ys:List PV}{vs us:List V}{c:Bool},yfb K W xs vs->yfb K W ys us->ynu f xs ys=some c ->
  ∃ e:Nat->Bool,(∀ j v u,vs[j]?=some v->us[j]?=some u->EqR K.K W.H n v u (e j))/\c=(List.range (min vs.length us.length)).all e
 | [],_,_,_,c,h1,_,e=>by
  rw [show _=[] from h1]
  simp [ynu] at e
  exact ⟨fun _=>true,fun j v u hv=>by simp at hv,by simp [e]⟩
 | _::_,[],_,_,c,_,h2,e=>by
  rw [show _=[] from h2]
  simp [ynu] at e
  exact ⟨fun _=>true,fun j v u _ hu=>by simp at hu,by simp [e]⟩
 | x::xs,y::ys,_,_,c,⟨v,r,e1,h1,l1⟩,⟨u,q,e2,h2,l2⟩,e=>by
  subst e1 e2
  unfold ynu at e
  cases eb:f x y with
  | none=>rw [eb] at e;cases e
  | some b =>
   cases ec:ynu f xs ys with
   | none=>rw [eb,ec] at e;cases e
   | some c' =>
    rw [eb,ec] at e
    cases e
    obtain ⟨e',k1,k2⟩:=ynV hf l1 l2 ec
    refine ⟨fun j=>match j with|0=>b|j+1=>e' j,fun j v' u' hv hu=>?_,?_⟩
    .cases j with
     | zero =>
      simp at hv hu
      subst hv hu
      exact hf x y _ _ b eb h1 h2
     | succ j=>exact k1 j v' u' (by simpa using hv) (by simpa using hu)
    .rw [k2,List.length_cons,List.length_cons,show min (r.length+1) (q.length+1)=min r.length q.length+1 by omega,List.range_succ_eq_map,List.all_cons,List.all_map]
     rfl
theorem yvM {W:Wd}(w:WOk K W):∀ (n:Nat) (x y:PV) (v u:V) (b:Bool),eqP n W.h x y=some b->yeI K W x v->yeI K W y u->EqR K.K W.H n v u b
 | 0,_,_,_,_,_,e,_,_=>by cases e
 | n+1,x,y,v,u,b,e,rx,ry=>by
  have e0:=e
  unfold eqP at e
  split at e
  .rename_i v' u' hv hu
   cases e
   rw [ykO hv rx,ykO hu ry]
   exact .flat (yuu hv) (yuu hu)
  .unfold pairE at e
   split at e
   .rename_i xs ys _
    obtain ⟨a,vs,ev,ha,ra⟩:=rx
    obtain ⟨a',us,eu,ha',ra'⟩:=ry
    by_cases hab:a=a'
    .subst hab
     rcases yqz w (n+1) _ _ v b e0 ⟨a,vs,ev,ha,ra⟩ (by rw [ev,<- eu];exact ⟨a,us,eu,ha',ra'⟩) with this|z
     .rw [this,ev,eu]
      exact .same
     .exact .odd z
    .cases ec:ynu (eqP n W.h) xs ys with
     | none=>rw [ec] at e;cases e
     | some c =>
      rw [ec] at e
      cases e
      obtain ⟨e',k1,k2⟩:=ynV (yvM w n) ra ra' ec
      rw [ev,eu,k2,<- ra.len,<- ra'.len]
      exact .tup (yfg w ha) (yfg w ha') hab k1
   .obtain ⟨a',us,eu,ha',ra'⟩:=ry
    cases e
    rw [show v=.non from rx,eu]
    exact .nt (yfg w ha')
   .obtain ⟨a',us,eu,ha',ra'⟩:=rx
    cases e
    rw [show u=.non from ry,eu]
    exact .tn (yfg w ha')
   .split at e
    .rename_i xs ys hx hy
     obtain ⟨a,vs,ev,ha,ra⟩:=ycg w hx rx
     obtain ⟨a',us,eu,ha',ra'⟩:=ycg w hy ry
     by_cases hab:a=a'
     .subst hab
      rcases yqz w (n+1) _ _ v b e0 rx (by rw [ev,<- eu];exact ry) with this|z
      .rw [this,ev,eu]
       exact .same
      .exact .odd z
     .split at e
      .rename_i hl
       obtain ⟨e',k1,k2⟩:=ynV (yvM w n) ra ra' e
       have hl':vs.length=us.length:=by rw [ra.len,ra'.len,hl]
       rw [ev,eu,k2,<- hl',Nat.min_self]
       exact .lst ha ha' hl' hab k1
      .rename_i hl
       cases e
       rw [ev,eu]
       exact .lstN ha ha' (by rw [ra.len,ra'.len];exact hl)
    .cases e
def yBE:P2:=fun x y h=>match pairE (eqP 40 h) h x y with|some b=>some (.bl b,h)|none=>none
def ywT:P2:=fun x y h=>match pairE (eqP 40 h) h x y with|some b=>some (.bl (!b),h)|none=>none
theorem yvN {W:Wd}(w:WOk K W) {x y:PV}{v u:V}{b:Bool}(e:pairE (eqP 40 W.h) W.h x y=some b) (rx:yeI K W x v) (ry:yeI K W y u):RcR K.K W.H v u b:=by
 unfold pairE at e
 split at e
 .rename_i xs ys
  obtain ⟨a,vs,ev,ha,ra⟩:=rx
  obtain ⟨a',us,eu,ha',ra'⟩:=ry
  cases ec:ynu (eqP 40 W.h) xs ys with
  | none=>rw [ec] at e;cases e
  | some c =>
   rw [ec] at e
   cases e
   obtain ⟨e',k1,k2⟩:=ynV (yvM w 40) ra ra' ec
   rw [ev,eu,k2,<- ra.len,<- ra'.len]
   exact .tup (yfg w ha) (yfg w ha') k1
 .obtain ⟨a',us,eu,ha',ra'⟩:=ry
  cases e
  rw [show v=.non from rx,eu]
  exact .nt (yfg w ha')
 .obtain ⟨a',us,eu,ha',ra'⟩:=rx
  cases e
  rw [show u=.non from ry,eu]
  exact .tn (yfg w ha')
 .split at e
  .rename_i xs ys hx hy
   obtain ⟨a,vs,ev,ha,ra⟩:=ycg w hx rx
   obtain ⟨a',us,eu,ha',ra'⟩:=ycg w hy ry
   split at e
   .rename_i hl
    obtain ⟨e',k1,k2⟩:=ynV (yvM w 40) ra ra' e
    have hl':vs.length=us.length:=by rw [ra.len,ra'.len,hl]
    rw [ev,eu,k2,<- hl',Nat.min_self]
    exact .lst ha ha' hl' k1
   .rename_i hl
    cases e
    rw [ev,eu]
    exact .lstN ha ha' (by rw [ra.len,ra'.len];exact hl)
  .cases e
theorem yFy:yge K (yLv K.K) yBE:=by
 intro W x y v u Q z h' w rx ry e q
 unfold yBE at e
 split at e
 .rename_i b hb
  cases e
  exact ⟨b,yvN w hb rx ry,q _ W rfl (.refl w) rfl⟩
 .cases e
theorem yHZ:yge K (yLw K.K) ywT:=by
 intro W x y v u Q z h' w rx ry e q
 unfold ywT at e
 split at e
 .rename_i b hb
  cases e
  exact ⟨b,yvN w hb rx ry,q _ W rfl (.refl w) rfl⟩
 .cases e
end PX
namespace PX
open PySem L2
variable {K:Ck}
noncomputable def yO (k:Nat) (m:Str) (f:Fn) (e:XE) (as:XA):XE:=fun ρ h=>ob (e ρ h) fun x h1=>match yka x h1 with
 | some (k',ns,_)=>if k'=k/\m∉ns then ob (as ρ h1) fun ys h2=>f (x::ys) h2 else none
 | none=>none
theorem ysy {k n:Nat}{m:Str}{f:Fn}{ex:XK}{ta:TE}{t:TA}{ea:XE}{as:XA}(a:ydn K ta ea) (b:ytL K t as) (hn:∀ ρ h xs h',as ρ h=some (xs,h')->xs.length=n) :
  ydn K (yEm (K.A k) m (spE K (n+1) f) [] ex ta t) (yO k m f ea as):=by
 intro W0 W ρ σ Q z h' g e q
 obtain ⟨x,h1,e1,f1⟩:=yn e
 refine a W0 W ρ σ _ x h1 g e1 fun v W1 w1 l1 r1=>?_
 subst w1
 split at f1
 .rename_i k' ns xs hi
  split at f1
  .rename_i hc
   obtain ⟨ys,h2,e2,f2⟩:=yn f1
   obtain ⟨p,dx,vs,ev,hp,hl,rs⟩:=ynR l1.ok hi r1
   rw [hc.1] at hp
   refine ⟨p,dx,_,ev,hp,yiV hc.2,?_⟩
   refine b W0 W1 ρ σ _ ys h2 (g.step l1) e2 fun us W2 w2 l2 r2=>?_
   subst w2
   rw [List.append_nil]
   exact ⟨W2,x::ys,z,h',rfl,l2.ok,⟨v,us,rfl,l2.rep r1,r2⟩,by rw [List.length_cons,hn _ _ _ _ e2],f2,fun u W3 w3 l3 r3=>q u W3 w3 ((l1.trans l2).trans l3) r3⟩
  .cases f1
 .cases f1
noncomputable def yyL (cs:List Nat) (f:Str) (eo ev:XE):XS:=fun ρ h=>ob (ev ρ h) fun y h1=>ob (eo ρ h1) fun x h2=>match x with
 | .loc n=>(match h2[n]? with|some (.ins k ns xs)=>if k∈cs/\ns.length<1000 then some (.nx ρ,h2.set n (.ins k (putN f y ns xs).1 (putN f y ns xs).2)) else none|_=>none)
 | _=>none
theorem yBF {cs:List Nat}{f:Str}{ta tv:TE}{ea ev:XE}(hc:∀ k∈cs,Cls K.K (K.A k)/\NoAttr K.K (K.A k) f) (a:ydn K ta ea) (c:ydn K tv ev):ylE K (yJt K.K ta tv f) (yyL cs f ea ev):=by
 intro W0 W ρ σ D o h' g e q
 obtain ⟨y,h1,e1,f1⟩:=yn e
 obtain ⟨x,h2,e2,f2⟩:=yn f1
 refine c W0 W ρ σ _ y h1 g e1 fun vy W1 w1 l1 r1=>?_
 subst w1
 refine a W0 W1 ρ σ _ x h2 (g.step l1) e2 fun vx W2 w2 l2 r2=>?_
 subst w2
 have w:=l2.ok
 split at f2
 .rename_i n
  split at f2
  .rename_i k ns xs hn
   split at f2
   .rename_i hk
    cases f2
    obtain ⟨p,ep,hm,hf,dx,us,hp,hl,rs⟩:=w.loc hn r2
    obtain ⟨us',p1,p2,p3⟩:=rs.putN (f:=f) hl (l2.rep r1)
    refine ⟨p,_,dx,_,ep,hp,(hc k hk.1).1,(hc k hk.1).2,by rw [List.length_zip,hl];simpa using hk.2,?_⟩
    rw [p1]
    have l4:Le K W2 (yFo W2 n p (.ins (K.A k) dx ((putN f y ns xs).1.zip us')) (.ins k (putN f y ns xs).1 (putN f y ns xs).2)):=ylO w hn hm hf ⟨hf,dx,us',yQ,p2,p3⟩
    have l:=l1.trans (l2.trans l4)
    exact q _ σ rfl l.lf (g.step l)
   .cases f2
  .cases f2
 .cases f2
end PX
namespace PX
open PySem L2
variable {K:Ck}
def yuw (r d:Addr):HO:=.ext fun h=>h.get? r=some { cls:=.type "dict_items",data:=.fields #[.ref d] }
noncomputable def yDd:V->List V->Hp->VK->Prop:=fun x vs H Q=>∃ d kvs,x=.ref d/\vs=[]/\H d=some (.dK kvs)/\∀ r,H r=none->Q (.ref r) (upd H r (yuw r d))
noncomputable def yvO (H:Hp) (as:List Addr) (ts:List (List V)):Hp:=fun b=>match (as.zip ts).lookup b with|some t=>some (.tup t)|none=>H b
def yJf (H:Hp) (p:Addr) (as:List Addr) (ts:List (List V)):Hp:=upd (yvO H as ts) p (.lst (as.map V.ref))
noncomputable def rSI:List V->Hp->VK->Prop:=fun xs H Q=>∃ (r d:Addr) (kvs:List (Key×V)) (ns:List Int),xs=[.ref r]/\H r=some (yuw r d)/\H d=some (.dK kvs)/\kvs.map (·.1)=ns.map .inl/\kvs.length<64 /\
 ∀ (p:Addr) (as:List Addr) (q:List Nat),q.Perm (List.range ns.length)->q.Pairwise (fun i j=>ns.getD i 0<=ns.getD j 0)->ns.Nodup->as.length=q.length->(∀ a∈p::as,H a=none)->(p::as).Nodup ->
  Q (.ref p) (yJf H p as (q.map fun i=>[V.int (ns.getD i 0),(kvs.map (·.2)).getD i .non]))
def yGm (p:Int×PV):List (Int×PV)->List (Int×PV)
 | []=>[p]
 | q::r=>if p.1<=q.1 then p::q::r else q::yGm p r
def yqA:List (Int×PV)->List (Int×PV)
 | []=>[]
 | p::r=>yGm p (yqA r)
def ywU:List Key->Option (List Int)
 | []=>some []
 | .inl i::r=>(ywU r).map (i::·)
 | .inr _::_=>none
theorem yqB:∀ {ks:List Key}{ns:List Int},ywU ks=some ns->ks=ns.map .inl
 | [],ns,h=>by cases h;rfl
 | .inl i::r,ns,h=>by
  obtain ⟨m,e,rfl⟩:=Option.map_eq_some_iff.mp h
  rw [List.map_cons,<- yqB e]
 | .inr _::_,_,h=>by cases h
theorem ynW (p:Int×PV):∀ l,(yGm p l).Perm (p::l)
 | []=>.refl _
 | q::r=>by
  unfold yGm
  split
  .exact .refl _
  .exact ((ynW p r).cons q).trans (.swap _ _ _)
theorem yfj:∀ l,(yqA l).Perm l
 | []=>.refl _
 | p::r=>(ynW p _).trans ((yfj r).cons p)
theorem yyM {p:Int×PV}:∀ {l:List (Int×PV)},l.Pairwise (fun a b=>a.1<=b.1)->(yGm p l).Pairwise (fun a b=>a.1<=b.1)
 | [],_=>List.pairwise_singleton _ _
 | q::r,h=>by
  obtain ⟨h1,h2⟩:=List.pairwise_cons.mp h
  unfold yGm
  split
  .rename_i hc
   exact List.pairwise_cons.mpr ⟨fun b hb=>by
    rcases List.mem_cons.mp hb with rfl|hb
    .exact hc
    .exact Int.le_trans hc (h1 b hb),h⟩
  .rename_i hc
   refine List.pairwise_cons.mpr ⟨fun b hb=>?_,yyM h2⟩
   rcases List.mem_cons.mp ((ynW p r).mem_iff.mp hb) with rfl|hb
   .omega
   .exact h1 b hb
theorem ynv:∀ l,(yqA l).Pairwise (fun a b=>a.1<=b.1)
 | []=>.nil
 | _::r=>yyM (ynv r)
theorem yBG {ns:List Int}{xs:List PV}{q:List Nat}(hl:xs.length=ns.length) (hp:q.Perm (List.range ns.length)) (hs:q.Pairwise fun i j=>ns.getD i 0<=ns.getD j 0) (nd:ns.Nodup) :
  (q.map fun i=>(ns.getD i 0,xs.getD i .non))=yqA (ns.zip xs):=by
 have hz:((List.range ns.length).map fun i=>(ns.getD i 0,xs.getD i .non))=ns.zip xs:=by
  apply List.ext_getElem
  .simp [hl]
  .intro i h1 h2
   have h3:i<ns.length:=by simpa using h1
   simp [List.getD,List.getElem?_eq_getElem h3,List.getElem?_eq_getElem (show i<xs.length by omega)]
 have hm:(q.map fun i=>(ns.getD i 0,xs.getD i .non)).Perm (ns.zip xs):=by rw [<- hz];exact hp.map _
 have hk:(ns.zip xs).map (·.1)=ns:=List.map_fst_zip (by omega)
 refine List.Perm.eq_of_pairwise (le:=fun a b=>a.1<=b.1) (fun a b ha hb h1 h2=>?_) (List.pairwise_map.mpr hs) (ynv _) (hm.trans (yfj _).symm)
 have ha:=hm.mem_iff.mp ha
 have hb:=(yfj _).mem_iff.mp hb
 obtain ⟨i,hi,rfl⟩:=List.getElem_of_mem ha
 obtain ⟨j,hj,rfl⟩:=List.getElem_of_mem hb
 have hi':i<ns.length:=by rw [List.length_zip] at hi;omega
 have hj':j<ns.length:=by rw [List.length_zip] at hj;omega
 have e:ns[i]=ns[j]:=by
  have:((ns.zip xs)[i]).1=((ns.zip xs)[j]).1:=Int.le_antisymm h1 h2
  simpa using this
 have:=yvI nd hi' hj' e
 subst this
 rfl
def yLx (W:Wd) (as:List Addr) (ts:List (List V)):Wd:=⟨yvO W.F as ts,yvO W.H as ts,W.m,W.h⟩
theorem lookup_mem {α:Type}:∀ {as:List Addr}{ts:List α}{b:Addr}{t:α},(as.zip ts).lookup b=some t->b∈as
 | [],_,_,_,h=>by simp at h
 | _::_,[],_,_,h=>by simp at h
 | a::as,u::ts,b,t,h=>by
  rw [List.zip_cons_cons,List.lookup_cons] at h
  split at h
  .rename_i hb;rw [eq_of_beq hb];exact List.mem_cons_self
  .exact List.mem_cons_of_mem _ (lookup_mem h)
theorem ylP {H:Hp}{as:List Addr}{ts:List (List V)}{b:Addr}(h:b∉as):yvO H as ts b=H b:=by
 unfold yvO
 split
 .rename_i e;exact absurd (lookup_mem e) h
 .rfl
theorem yFz {W:Wd}{as:List Addr}{ts:List (List V)}(w:WOk K W) (h:∀ a∈as,W.H a=none):Le K W (yLx W as ts):=by
 have nm:∀ a∈as,a∉W.m:=fun a ha=>w.out (h a ha)
 have sF:Same W.F (yvO W.F as ts):=fun b o e=>by
  rw [ylP fun z=>by rw [w.ff (h b z)] at e;cases e];exact e
 have sH:Same W.H (yvO W.H as ts):=fun b o e=>by
  rw [ylP fun z=>by rw [h b z] at e;cases e];exact e
 refine ⟨⟨?_,w.len,w.nd,fun n d a e1 e2=>?_⟩,sF,List.prefix_refl _,fun b u e _=>sH b u e,fun b u e _ f=>?_,fun b z n=>absurd z n,fun n ks xs e1=>⟨e1,fun a e2=>ylP fun z=>nm a z (List.mem_of_getElem? e2)⟩⟩
 .intro b u e
  have e:yvO W.F as ts b=some u:=e
  show yvO W.H as ts b=some u
  unfold yvO at e ⊢
  split at e
  .exact e
  .exact w.le _ _ e
 .have ha:a∉as:=fun z=>nm a z (List.mem_of_getElem? e2)
  exact (w.at_ n d a e1 e2).mono sF (List.prefix_refl _) (fun u e=>sH _ _ e) fun f=>(ylP ha).trans f
 .exact (ylP fun z=>by rw [h b z] at e;cases e).trans f
theorem ysz {F:Hp}{m:List Addr}{Y:Nat->PV}{T:Nat->List V}{Z:Nat->List PV}(hY:∀ i,Y i=.tup (Z i)):∀ (as:List Addr) (q:List Nat),as.length=q.length->as.Nodup->(∀ a∈as,∀ i,i∈q->(as.zip (q.map T)).lookup a=some (T i)->F a=some (.tup (T i))) ->
  (∀ i∈q,RepL K F m (Z i) (T i))->RepL K F m (q.map Y) (as.map V.ref)
 | [],[],_,_,_,_=>rfl
 | [],_::_,h,_,_,_=>by cases h
 | _::_,[],h,_,_,_=>by cases h
 | a::as,i::q,hl,hn,hF,hR=>by
  obtain ⟨n1,n2⟩:=List.nodup_cons.mp hn
  refine ⟨.ref a,_,rfl,?_,ysz hY as q (by simpa using hl) n2 (fun b hb j hj e=>?_) fun j hj=>hR j (List.mem_cons_of_mem _ hj)⟩
  .rw [hY]
   exact ⟨a,T i,rfl,.inl (hF a List.mem_cons_self i List.mem_cons_self (by simp)),hR i List.mem_cons_self⟩
  .refine hF b (List.mem_cons_of_mem _ hb) j (List.mem_cons_of_mem _ hj) ?_
   rw [List.map_cons,List.zip_cons_cons,List.lookup_cons]
   have:(b == a)=false:=beq_eq_false_iff_ne.mpr fun z=>n1 (z ▸ hb)
   rw [this]
   exact e
noncomputable def sortI (ks:List Key) (xs:List PV):Option (List PV):=match ywU ks with|some ns=>if ns.length<64 then some ((yqA (ns.zip xs)).map fun p=>.tup [.int p.1,p.2]) else none|none=>none
noncomputable def ynX (e:XE):XO:=fun ρ h=>ob (e ρ h) fun x h1=>match ymV x h1 with|some (ks,xs)=>(match sortI ks xs with|some l=>some (.lst l,h1)|none=>none)|none=>none
theorem yDe {W:Wd}{x:PV}{v:V}{ks:List Key}{xs:List PV}(w:WOk K W) (e:ymV x W.h=some (ks,xs)) (r:yeI K W x v):tyV K.K "dict" v W.H:=by
 obtain ⟨a,vs,rfl,hp,_⟩:=ykQ w e r
 exact .inr (.inr (.inl ⟨rfl,.inl ⟨_,hp⟩⟩))
theorem yyN {ta:TE}{ea:XE}(a:ydn K ta ea):yvz K (tCB rSI (yxM (yJz K.K "dict" yDd ta) yEl)) (ynX ea):=by
 intro W0 W ρ σ Q z h' g e q
 obtain ⟨x,h1,e1,f1⟩:=yn e
 refine a W0 W ρ σ _ x h1 g e1 fun v W1 w1 l1 r1=>?_
 subst w1
 split at f1
 .rename_i ks xs hd
  split at f1
  .rename_i l hl
   cases f1
   refine ⟨yDe l1.ok hd r1,?_⟩
   obtain ⟨d,vs,ev,hp,hvl,rs⟩:=ykQ l1.ok hd r1
   subst ev
   refine ⟨d,_,rfl,rfl,hp,fun r hr=>?_⟩
   unfold sortI at hl
   split at hl
   .rename_i ns hk
    split at hl
    .rename_i h64
     cases hl
     have hk:=yqB hk
     have l2:=ygf (o:=yuw r d) l1.ok hr
     have hnl:ks.length=ns.length:=by rw [hk,List.length_map]
     have hxl:xs.length=ns.length:=by rw [<- rs.len];omega
     show rSI [.ref r] (upd W1.H r (yuw r d)) Q
     refine ⟨r,d,ks.zip vs,ns,rfl,yQ,(ybc (yck hp hr)).trans hp,by rw [List.map_fst_zip (by omega),hk],by rw [List.length_zip];omega,fun p as o hperm hs nd hal hfree hnd=>?_⟩
     rw [List.map_snd_zip (by omega)]
     generalize hW2:ypc W1 r (yuw r d)=W2 at l2
     have hH2:W2.H=upd W1.H r (yuw r d):=by rw [<- hW2];rfl
     rw [<- hH2] at hfree ⊢
     have l3:=yFz (ts:=o.map fun i=>[V.int (ns.getD i 0),vs.getD i .non]) l2.ok fun a ha=>hfree a (List.mem_cons_of_mem _ ha)
     obtain ⟨n1,n2⟩:=List.nodup_cons.mp hnd
     have hp3:(yLx W2 as (o.map fun i=>[V.int (ns.getD i 0),vs.getD i .non])).H p=none:=(ylP n1).trans (hfree p List.mem_cons_self)
     have l4:=ygf (o:=.lst (as.map V.ref)) l3.ok hp3
     have l:=l2.trans (l3.trans l4)
     have inq:∀ i∈o,i<ns.length:=fun i hi=>by have:=hperm.mem_iff.mp hi;simpa using this
     refine q p _ (by rw [<- hW2];rfl) (l1.trans l) (l3.ok.out hp3) ((l1.trans l2).fresh (hfree p List.mem_cons_self)) (fun z=>by cases z) ⟨l3.ok.ff hp3,_,yQ,?_⟩
     rw [<- yBG hxl hperm hs nd,List.map_map]
     refine ysz (T:=fun i=>[V.int (ns.getD i 0),vs.getD i .non]) (Z:=fun i=>[.int (ns.getD i 0),xs.getD i .non]) (fun i=>rfl) as o hal n2 (fun a ha i hi e=>?_) fun i hi=>⟨_,_,rfl,rfl,_,_,rfl,?_,rfl⟩
     .show yvO W2.F as _ a=_
      unfold yvO
      rw [e]
     .have hi':=inq i hi
      obtain ⟨u,h3,h4⟩:=(l2.trans (l3.trans l4)).repL rs |>.get (List.getElem?_eq_getElem (show i<xs.length by omega))
      have e5:xs.getD i .non=xs[i]'(by omega):=by simp [List.getD,List.getElem?_eq_getElem (show i<xs.length by omega)]
      have e6:vs.getD i .non=u:=by simp [List.getD,h3]
      rw [e5,e6]
      exact h4
    .cases hl
   .cases hl
  .cases f1
 .cases f1
end PX
namespace PX
open PySem L2
variable {K:Ck}
noncomputable def ItR (K:PySem.W.Frag) (a:Addr) (m:Nat):It :=
 ⟨fun i H=>i<m/\∃ xs x,SqL K H a xs/\xs[m-1-i]?=some x,fun i H x H'=>H'=H/\∀ xs,SqL K H a xs->xs[m-1-i]?=some x,fun i _=>i=m⟩
noncomputable def yLy (K:PySem.W.Frag) (tl:TE):TI:=fun σ H R=>tl σ H fun x H1=>∃ a xs,x=.ref a/\SqL K H1 a xs/\R (ItR K a xs.length) H1
noncomputable def yyO (n:Nat) (rev:Bool) (g:XG) (s:XS):Nat->Nat->PSt->AH->Option (Out×AH)
 | 0,i,ρ,h=>match h[n]? with|some (.lst xs)=>if xs.length=i then some (.nx ρ,h) else none|_=>none
 | k+1,i,ρ,h=>match h[n]? with
  | some (.lst xs)=>(match xs[if rev then k else i]? with
   | some x=>(g x ρ).bind fun ρ1=>ob (s ρ1 h) fun o h1=>match o with|.nx ρ'=>yyO n rev g s k (i+1) ρ' h1|.ct ρ'=>yyO n rev g s k (i+1) ρ' h1|.bk ρ'=>some (.nx ρ',h1)|.rt y=>some (.rt y,h1)
   | none=>none)
  | _=>none
noncomputable def yBH (rev:Bool) (e:XE) (g:XG) (s:XS):XS:=fun ρ h=>ob (e ρ h) fun x h1=>match x with
 | .loc n=>(match h1[n]? with|some (.lst xs)=>yyO n rev g s xs.length 0 ρ h1|_=>none)
 | _=>none
structure ItX (K:Ck) (n:Nat) (rev:Bool) (m:Nat) (a:Addr) (J:It):Prop where
 go:∀ (i:Nat) (H:Hp) (vs:List V) (v:V),H a=some (.lst vs)->i<m->vs[if rev then m-1-i else i]?=some v->J.go i H
 yld:∀ (i:Nat) (H:Hp) (vs:List V) (v:V) (H2:Hp),H a=some (.lst vs)->i<m->J.yld i H v H2->H2=H/\vs[if rev then m-1-i else i]?=some v
 stop:∀ (H:Hp) (vs:List V),H a=some (.lst vs)->vs.length=m->J.stop m H
section
variable {ta:TE}{ea:XE}{t:TS}{s:XS}
theorem yyP {n:Nat}{xs:List PV}{p:Addr}{us:List V}{J:It}{rev:Bool}{g:TG}{y:XG}(b:yBb K g y) (c:ylE K t s) {W0 W W1:Wd}{ρ:PSt}{σ:St}{D:Ends}{o:Out}{h':AH}(gd:Good K W0 W ρ σ) (l1:Le K W W1) (q:Ends.Ok K W0 W D h' o)
  (f1:yyO n rev y s xs.length 0 ρ W1.h=some (o,h')) (hn:W1.h[n]?=some (.lst xs)) (hm:W1.m[n]?=some p) (rs:yfb K W1 xs us) (J1:ItX K n rev us.length p J) :
  ∃ Z:Nat->Nat->St->Hp->Prop,(∃ m,Z 0 m σ W1.H)/\∀ i m σ H,Z i m σ H ->
   (J.stop i H/\D.nx σ H)\/(J.go i H/\∃ N:St->Hp->Prop,(∀ σ' H',N σ' H'->∃ m',m'<m/\Z (i+1) m' σ' H')/\∀ x H',J.yld i H x H'->g x σ H' fun σ2 H2=>t { D with nx:=N,ct:=N,bk:=D.nx } σ2 H2):=by
   have q1:=q.from_ l1.lf
   have hul:us.length=xs.length:=rs.len
   rw [hul] at J1
   refine ⟨fun i m σ H=>m=xs.length-i/\i<=xs.length/\∃ W' ρ',W'.H=H/\Lf K W1 W'/\Good K W0 W' ρ' σ/\yyO n rev y s (xs.length-i) i ρ' W'.h=some (o,h'),⟨_,rfl,Nat.zero_le _,W1,ρ,rfl,.refl,gd.step l1,f1⟩,?_⟩
   rintro i m σ _ ⟨rfl,hi,W',ρ',rfl,l,g',f⟩
   have hm':W'.m[n]?=some p:=ylJ l.pre hm
   by_cases hlt:i<xs.length
   .obtain ⟨k,hk⟩:∃ k,xs.length-i=k+1:=⟨xs.length-i-1,by omega⟩
    rw [hk] at f
    unfold yyO at f
    split at f
    .rename_i ys hy
     split at f
     .rename_i z hz
      obtain ⟨p',ev',hm2,hf',vs,hp',rs'⟩:=g'.ok.loc hy (v:=.ref p) ⟨p,rfl,hm'⟩
      cases ev'
      have hix:(if rev=true then xs.length-1-i else i)=(if rev=true then k else i):=by rw [show xs.length-1-i=k by omega]
      obtain ⟨vz,hv1,hv2⟩:=rs'.get hz
      obtain ⟨ρ1,k1,f⟩:=Option.bind_eq_some_iff.mp f
      obtain ⟨o1,h2,k2,f3⟩:=yn f
      refine .inr ⟨J1.go i W'.H vs vz hp' hlt (by rw [hix];exact hv1),fun σ2 H2=>i+1<=xs.length/\∃ W2 ρ2,W2.H=H2/\Lf K W1 W2/\Good K W0 W2 ρ2 σ2/\yyO n rev y s (xs.length-(i+1)) (i+1) ρ2 W2.h=some (o,h'),fun σ2 H2 ⟨n1,n2⟩=>⟨xs.length-(i+1),by omega,rfl,n1,n2⟩,fun v H2 hy=>?_⟩
      obtain ⟨rfl,hx⟩:=J1.yld i W'.H vs v H2 hp' hlt hy
      rw [hix,hv1] at hx
      cases hx
      have ek:xs.length-(i+1)=k:=by omega
      refine b W0 W' ρ' ρ1 σ _ vz _ g' hv2 k1 fun σ2 g2=>?_
      refine c W0 W' ρ1 σ2 _ o1 h2 g2 k2 ?_
      cases o1 with
      | nx ρ2=>exact fun W2 σ3 w2 l2 g3=>⟨hlt,W2,ρ2,rfl,l.trans l2,g3,by rw [w2,ek];exact f3⟩
      | ct ρ2=>exact fun W2 σ3 w2 l2 g3=>⟨hlt,W2,ρ2,rfl,l.trans l2,g3,by rw [w2,ek];exact f3⟩
      | bk ρ2=>cases f3;exact fun W2 σ3 w2 l2 g3=>q1 W2 σ3 w2 (l.trans l2) g3
      | rt x=>cases f3;exact q1
     .cases f
    .cases f
   .have ei:i=xs.length:=by omega
    subst ei
    rw [Nat.sub_self] at f
    unfold yyO at f
    split at f
    .rename_i ys hy
     obtain ⟨p',ev',hm2,hf',vs,hp',rs'⟩:=g'.ok.loc hy (v:=.ref p) ⟨p,rfl,hm'⟩
     cases ev'
     split at f
     .rename_i hyl
      cases f
      exact .inl ⟨J1.stop W'.H vs hp' (by rw [rs'.len,hyl]),q1 W' σ rfl l g'⟩
     .cases f
    .cases f
theorem yKF {n m:Nat}{a:Addr}:ItX K n true m a (ItR K.K a m) where
 go:=fun i H vs v h hi e=>⟨hi,vs,v,SqL.of h,e⟩
 yld:=fun i H vs v H2 h _ e=>⟨e.1,e.2 vs (SqL.of h)⟩
 stop:=fun H vs h e=>rfl
theorem yBI {g:TG}{y:XG}(a:ydn K ta ea) (b:yBb K g y) (c:ylE K t s):ylE K (yJp (yLy K.K ta) g t) (yBH true ea y s):=by
 intro W0 W ρ σ D o h' gd e q
 obtain ⟨x,h1,e1,f1⟩:=yn e
 refine a W0 W ρ σ _ x h1 gd e1 fun v W1 w1 l1 r1=>?_
 subst w1
 split at f1
 .rename_i n
  split at f1
  .rename_i xs hn
   obtain ⟨p,ev,hm,hf,us,hp,rs⟩:=l1.ok.loc hn r1
   exact ⟨p,us,ev,SqL.of hp,yyP b c gd l1 q f1 hn hm rs yKF⟩
  .cases f1
 .cases f1
end
end PX
namespace PX
open PySem L2
variable {K:Ck}
def yKG (kvs more:List (Key×V)):List (Key×V):=more.foldl (fun acc kv=>putK acc kv.1 kv.2) kvs
noncomputable def yLz:V->List V->Hp->VK->Prop:=fun x vs H Q=>∃ d o kvs more,x=.ref d/\vs=[.ref o]/\d≠o/\H d=some (.dK kvs)/\H o=some (.dK more)/\kvs.length+more.length<=sizeLine/\Q .non (upd H d (.dK (yKG kvs more)))
noncomputable def ysA:List Key->List PV->List Key->List PV->List Key×List PV
 | j::js,y::ys,ks,xs=>ysA js ys (ydX ks xs j y).1 (ydX ks xs j y).2
 | _,_,ks,xs=>(ks,xs)
def ywV:PV->AH->Bool:=fun x h=>(ymV x h).isSome
theorem yBJ {W:Wd}{x:PV}{v:V}(w:WOk K W) (r:yeI K W x v) (c:ywV x W.h=true):tyV K.K "dict" v W.H:=by
 obtain ⟨⟨ks,xs⟩,hd⟩:=Option.isSome_iff_exists.mp c
 exact yDe w hd r
theorem yyQ {F:Hp}{m:List Addr}:∀ {js:List Key}{ys:List PV}{us:List V}{ks:List Key}{xs:List PV}{vs:List V},RepL K F m ys us->us.length=js.length->RepL K F m xs vs->vs.length=ks.length ->
  ∃ ws,yKG (ks.zip vs) (js.zip us)=(ysA js ys ks xs).1.zip ws/\ws.length=(ysA js ys ks xs).1.length/\RepL K F m (ysA js ys ks xs).2 ws
 | [],ys,us,ks,xs,vs,r,hl,r2,hl2=>by
  obtain rfl:us=[]:=List.length_eq_zero_iff.mp (by simpa using hl)
  cases ys with
  | cons y ys=>obtain ⟨v,r',e,_⟩:=r;cases e
  | nil=>exact ⟨vs,rfl,hl2,r2⟩
 | j::js,[],us,ks,xs,vs,r,hl,r2,hl2=>by
  obtain rfl:us=[]:=r
  cases hl
 | j::js,y::ys,_,ks,xs,vs,⟨u,us,e,ru,rr⟩,hl,r2,hl2=>by
  subst e
  have key:∃ ws,putK (ks.zip vs) j u=(ydX ks xs j y).1.zip ws/\ws.length=(ydX ks xs j y).1.length/\RepL K F m (ydX ks xs j y).2 ws:=by
   have hput:=yvK j u ks vs hl2
   unfold ydX
   by_cases hj:ypT ks j=true
   .rw [if_pos hj] at hput ⊢
    exact ⟨_,hput,by rw [yqv];exact hl2,r2.setK ks j ru⟩
   .rw [if_neg hj] at hput ⊢
    exact ⟨_,hput,by rw [List.length_append,List.length_append,hl2];rfl,r2.snoc ru⟩
  obtain ⟨ws,p1,p2,p3⟩:=key
  have ih:=yyQ (js:=js) rr (by simpa using hl) p3 p2
  show ∃ ws,yKG (putK (ks.zip vs) j u) (js.zip us)=_/\_
  rw [p1]
  exact ih
noncomputable def yGn:PM:=fun x ys h=>match x,ys with|.loc n,[.loc k]=>(match h[n]?,h[k]? with|some (.dct ks xs),some (.dct js zs)=>if n≠k/\ks.length+js.length<1000 then some (.non,h.set n (.dct (ysA js zs ks xs).1 (ysA js zs ks xs).2)) else none|_,_=>none)|_,_=>none
theorem yKH:ysq K "dict" ywV yLz yGn:=by
 refine ⟨fun W x v w r c=>yBJ w r c,fun W x v xs vs Q z h' w rx r e q=>?_⟩
 unfold yGn at e
 split at e
 .rename_i n k
  split at e
  .rename_i ks xs js zs hn hk
   split at e
   .rename_i hc
    cases e
    obtain ⟨u,rfl,ru⟩:=ywJ r
    obtain ⟨a,ev,hm,hf,us,hp,hl,rs⟩:=w.loc hn rx
    obtain ⟨b,ev2,hm2,hf2,us2,hp2,hl2,rs2⟩:=w.loc hk ru
    have hne:a≠b:=fun z=>by
     subst z
     obtain ⟨l1,q1⟩:=List.getElem?_eq_some_iff.mp hm
     obtain ⟨l2,q2⟩:=List.getElem?_eq_some_iff.mp hm2
     exact hc.1 (yvI w.nd l1 l2 (q1.trans q2.symm))
    obtain ⟨ws,p1,p2,p3⟩:=yyQ rs2 hl2 rs hl
    refine ⟨a,b,_,_,ev,by rw [ev2],hne,hp,hp2,by rw [List.length_zip,List.length_zip];exact small (by omega),?_⟩
    rw [p1]
    exact q .non (yFo W n a (.dK ((ysA js zs ks xs).1.zip ws)) (.dct (ysA js zs ks xs).1 (ysA js zs ks xs).2)) rfl (ylO w hn hm hf ⟨hf,_,yQ,p2,p3⟩) rfl
   .cases e
  .cases e
 .cases e
end PX
namespace PX
open PySem L2
variable {K:Ck}
end PX
namespace PX
open PySem L2
variable {K:Ck}
noncomputable def rSK:List V->Hp->VK->Prop:=fun xs H Q=>∃ (d:Addr) (kvs:List (Key×V)) (ns:List Int),xs=[.ref d]/\H d=some (.dK kvs)/\kvs.map (·.1)=ns.map .inl/\kvs.length<64 /\
 ∀ (p:Addr) (ms:List Int),ms.Perm ns->ms.Pairwise (· <= ·)->H p=none->Q (.ref p) (upd H p (.lst (ms.map V.int)))
def insI (a:Int):List Int->List Int
 | []=>[a]
 | b::r=>if a<=b then a::b::r else b::insI a r
def ynY:List Int->List Int
 | []=>[]
 | a::r=>insI a (ynY r)
theorem insI_perm (p:Int):∀ l,(insI p l).Perm (p::l)
 | []=>.refl _
 | q::r=>by
  unfold insI
  split
  .exact .refl _
  .exact ((insI_perm p r).cons q).trans (.swap _ _ _)
theorem ylQ:∀ l,(ynY l).Perm l
 | []=>.refl _
 | p::r=>(insI_perm p _).trans ((ylQ r).cons p)
theorem yyR {p:Int}:∀ {l:List Int},l.Pairwise (· <= ·)->(insI p l).Pairwise (· <= ·)
 | [],_=>List.pairwise_singleton _ _
 | q::r,h=>by
  obtain ⟨h1,h2⟩:=List.pairwise_cons.mp h
  unfold insI
  split
  .rename_i hc
   exact List.pairwise_cons.mpr ⟨fun b hb=>by
    rcases List.mem_cons.mp hb with rfl|hb
    .exact hc
    .exact Int.le_trans hc (h1 b hb),h⟩
  .rename_i hc
   refine List.pairwise_cons.mpr ⟨fun b hb=>?_,yyR h2⟩
   rcases List.mem_cons.mp ((insI_perm p r).mem_iff.mp hb) with rfl|hb
   .omega
   .exact h1 b hb
theorem yvP:∀ l,(ynY l).Pairwise (· <= ·)
 | []=>.nil
 | _::r=>yyR (yvP r)
theorem yvQ {ms ns:List Int}(hp:ms.Perm ns) (hs:ms.Pairwise (· <= ·)):ms=ynY ns :=
 List.Perm.eq_of_pairwise (le:=(· <= ·)) (fun a b _ _ h1 h2=>Int.le_antisymm h1 h2) hs (yvP _) (hp.trans (ylQ _).symm)
noncomputable def ypV:List PV->AH->Option (Nd×AH):=fun xs h=>match xs with
 | [x]=>(match ymV x h with|some (ks,_)=>(match ywU ks with|some ns=>if ns.length<64 then some (.lst ((ynY ns).map .int),h) else none|none=>none)|none=>none)
 | _=>none
theorem yFA:ysp K rSK ypV:=by
 intro W xs vs Q d h' w r e q
 unfold ypV at e
 split at e
 .rename_i x
  obtain ⟨u,rfl,ru⟩:=ywJ r
  split at e
  .rename_i ks ys hd
   split at e
   .rename_i ns hk
    split at e
    .rename_i h64
     cases e
     obtain ⟨a,us,ev,hp,hl,rs⟩:=ykQ w hd ru
     subst ev
     have hk:=yqB hk
     refine ⟨a,ks.zip us,ns,rfl,hp,by rw [List.map_fst_zip (by omega),hk],by rw [List.length_zip,hk,List.length_map];omega,fun p ms h1 h2 hn=>?_⟩
     rw [yvQ h1 h2]
     have l:=ygf (o:=.lst ((ynY ns).map V.int)) w hn
     exact q p (ypc W p _) rfl l (w.out hn) hn (fun z=>by cases z) ⟨w.ff hn,_,yQ,RepL.of_ints _⟩
    .cases e
   .cases e
  .cases e
 .cases e
end PX
namespace PX
open PySem L2
variable {K:Ck}
section
variable {ta:TE}{ea:XE}{t:TS}{s:XS}
end
end PX
namespace PX
open PySem L2
variable {K:Ck}
noncomputable def spJ (K:Ck) (n k:Nat) (f:List PV->AH->Option (Nd×AH)):Sp:=fun vs H Q _=>∃ (W0 W:Wd) (x:Addr) (args:List V) (xs:List PV) (d:Nd) (h':AH),vs=.ref x::args/\W.H=H/\Le K W0 W/\W0.H x=none/\x∉W.m/\NdAt K W.F W.H W.m (.ins k [] []) x /\
 yfb K W xs args/\xs.length=n/\f xs W.h=some (d,h')/\∀ W',W'.h=h'->Lf K W W'->Le K W0 W'->x∉W'.m->d≠.dead->NdAt K W'.F W'.H W'.m d x->Q .non W'.H
theorem yFB {n k:Nat}{f} {vs:List V}{H:Hp}{Q:VK}{E:XK}(h:spJ K n k f vs H Q E):vs.length=n+1:=by
 obtain ⟨W0,W,x,args,xs,d,h',rfl,_,_,_,_,_,r,hn,_⟩:=h
 rw [List.length_cons,r.len,hn]
theorem yyS {N:List Str}{n k:Nat}{t:TS}{s:XS}{vs:List V}{H:Hp}{Q:VK}{E:XK}{bk ct:St->Hp->Prop}(hN:n+1<=N.length) (a:yAq K t s) (h:spJ K n k (ytM N.length k s) vs H Q E):t ⟨fun _ H'=>Q .non H',Q,bk,ct⟩ (L2.start N vs) H:=by
 obtain ⟨W0,W,x,args,xs,d,h',rfl,rfl,le,hx,hm,at_,r,hn,e,q⟩:=h
 obtain ⟨o,h1,e1,f1⟩:=yn e
 have gs:=ylM (K:=K) (N:=N.drop 1) le.ok r
 have g:Good K W0 W (.own (.ins k [] [])::(xs.map .val++List.replicate (N.length-(xs.length+1)) .no)) (L2.start N (.ref x::args)):=by
  have es:L2.start N (.ref x::args)=some (.ref x)::L2.start (N.drop 1) args:=by
   have e3:N.length-(args.length+1)=(N.drop 1).length-args.length:=by rw [List.length_drop];omega
   unfold L2.start
   rw [List.map_cons,List.cons_append,List.length_cons,e3]
  have eN:N.length-(xs.length+1)=(N.drop 1).length-xs.length:=by rw [List.length_drop];omega
  rw [es,eN]
  have noown:∀ (j:Nat) (d:Nd),(xs.map PVar.val++List.replicate ((N.drop 1).length-xs.length) .no)[j]?≠some (.own d):=fun j d z=>by
   by_cases hj:j<xs.length
   .rw [List.getElem?_append_left (by simpa using hj),List.getElem?_map,List.getElem?_eq_getElem hj] at z
    cases z
   .rw [List.getElem?_append_right (by simp;omega),List.getElem?_replicate] at z
    split at z<;>cases z
  refine ⟨le,by rw [List.length_cons,List.length_cons,gs.len],fun j y z=>?_,fun j d z=>?_,fun i j d d' hij z z'=>?_⟩
  .cases j with
   | zero=>cases z
   | succ j=>exact gs.val j y z
  .cases j with
   | zero=>cases z;exact ⟨x,rfl,hm,hx,(fun z=>by cases z),at_⟩
   | succ j=>exact absurd z (noown j d)
  .cases i with
   | zero =>
    cases j with
    | zero=>exact absurd rfl hij
    | succ j=>exact absurd z' (noown j d')
   | succ i=>exact absurd z (noown i d)
 cases o with
 | rt y=>cases f1
 | bk ρ=>cases f1
 | ct ρ=>cases f1
 | nx ρ =>
  refine a W0 W _ ρ _ _ h1 g e1 fun W' ew lf g'=>?_
  dsimp only at f1
  split at f1
  .rename_i d' hd'
   cases f1
   obtain ⟨p,b1,b2,b3,b4,b5⟩:=g'.own 0 _ hd'
   have b1:some (some (V.ref x))=some (some (V.ref p)):=b1
   cases b1
   exact q W' ew lf g'.le b2 b4 b5
  .cases f1
def yDf:PVar->Bool|.own _=>false|_=>true
noncomputable def xBI (k:Nat) (f:List PV->AH->Option (Nd×AH)) (a:XA):XS:=fun ρ h=>match ρ with
 | .own (.ins k' [] [])::r=>if k'=k/\r.all yDf=true then ob (a ρ h) fun xs h1=>ob (f xs h1) fun d h2=>(match d with|.dead=>none|d=>some (.nx (.own d::r),h2)) else none
 | _=>none
theorem yFC {n k:Nat}{f} {E:XK}{t:TA}{aa:XA}(a:ytL K t aa) (hn:∀ ρ h xs h',aa ρ h=some (xs,h')->xs.length=n):yAq K (yAx (yAE (spJ K n k f) [] E (yxM (yCv 0) t))) (xBI k f aa):=by
 intro W0 W ρ ρ' σ D h' g e q
 unfold xBI at e
 split at e
 .rename_i k' r
  split at e
  .rename_i c
   obtain ⟨rfl,hr⟩:=c
   obtain ⟨xs,h1,e1,f1⟩:=yn e
   obtain ⟨d,h2,e2,f2⟩:=yn f1
   have nodead:d≠.dead:=fun z=>by subst z;cases f2
   have f2:some (Out.nx (.own d::r),h2)=some (.nx ρ',h'):=by
    cases d<;>first|exact f2|cases f2
   cases f2
   obtain ⟨p,b1,b2,b3,b4,b5⟩:=g.own 0 _ rfl
   refine ⟨.ref p,b1,?_⟩
   refine a W0 W _ σ _ xs h1 g e1 fun vs W1 w1 l1 r1=>?_
   subst w1
   have g1:=g.step l1
   obtain ⟨p',c1,c2,c3,c4,c5⟩:=g1.own 0 _ rfl
   rw [b1] at c1
   cases c1
   rw [List.append_nil]
   refine ⟨W0,W1,p,vs,xs,d,h',rfl,rfl,g1.le,c3,c2,c5,r1,hn _ _ _ _ e1,e2,fun W2 w2 lf le hm hd at_=>?_⟩
   refine q W2 w2 (l1.lf.trans lf) ⟨le,g1.len,fun j y z=>?_,fun j d' z=>?_,fun i j d1 d2 hij z1 z2=>?_⟩
   .cases j with
    | zero=>cases z
    | succ j =>
     obtain ⟨v,z1,z2⟩:=g1.val (j+1) y z
     exact ⟨v,z1,lf.rep z2⟩
   .cases j with
    | zero=>cases z;exact ⟨p,b1,hm,c3,hd,at_⟩
    | succ j =>
     have z:r[j]?=some (.own d'):=z
     have:=List.all_eq_true.mp hr _ (List.mem_of_getElem? z)
     cases this
   .cases i with
    | zero =>
     cases j with
     | zero=>exact absurd rfl hij
     | succ j =>
      have z:r[j]?=some (.own d2):=z2
      have:=List.all_eq_true.mp hr _ (List.mem_of_getElem? z)
      cases this
    | succ i =>
     have z:r[i]?=some (.own d1):=z1
     have:=List.all_eq_true.mp hr _ (List.mem_of_getElem? z)
     cases this
  .cases e
 .cases e
theorem yMc {k:Nat}{f} {a:XA}{r:PSt}{h:AH}(hr:r.all yDf=true):xBI k f a (.own (.ins k [] [])::r) h=ob (a (.own (.ins k [] [])::r) h) fun xs h1=>ob (f xs h1) fun d h2=>(match d with|.dead=>none|d=>some (.nx (.own d::r),h2)):=by
 unfold xBI
 dsimp only
 rw [if_pos ⟨rfl,hr⟩]
theorem yBK {a:Addr}{ss:List Str}(h:KTp K.K a (ss.map V.str)):ydn K (tC (.ref a)) (xC (.tup (ss.map PV.str))):=by
 intro W0 W ρ σ Q x h' g e q
 cases e
 refine q _ W rfl (.refl g.ok) ⟨a,_,rfl,.inr h,?_⟩
 clear h q
 induction ss with
 | nil=>exact rfl
 | cons s ss ih=>exact ⟨_,_,rfl,rfl,ih⟩
end PX
namespace PX
open PySem L2
variable {K:Ck}
noncomputable def yyT:List V->Hp->VK->Prop:=fun xs H Q=>∃ a kvs,xs=[.ref a]/\H a=some (.dK kvs)/\∀ l,H l=none->Q (.ref l) (upd H l (.dK kvs))
noncomputable def ykd:List PV->AH->Option (Nd×AH):=fun xs h=>match xs with
 | [x]=>(match ymV x h with|some (ks,ys)=>some (.dct ks ys,h)|none=>none)
 | _=>none
theorem yvR:ysp K yyT ykd:=by
 intro W xs vs Q d h' w r e q
 unfold ykd at e
 split at e
 .rename_i x
  obtain ⟨u,rfl,ru⟩:=ywJ r
  split at e
  .rename_i ks ys hd
   cases e
   obtain ⟨a,us,ev,hp,hl,rs⟩:=ykQ w hd ru
   subst ev
   refine ⟨a,ks.zip us,rfl,hp,fun p hn=>?_⟩
   have l:=ygf (o:=.dK (ks.zip us)) w hn
   exact q p (ypc W p _) rfl l (w.out hn) hn (fun z=>by cases z) ⟨w.ff hn,us,yQ,hl,rs⟩
  .cases e
 .cases e
theorem yBL {h:AH}{n:Nat}{ks:List Key}{ys:List PV}(e:h[n]?=some (.dct ks ys)):ykd [.loc n] h=some (.dct ks ys,h):=by
 unfold ykd ymV
 simp only [e]
end PX
namespace PX
open PySem L2
variable {K:Ck}
noncomputable def yLA (K:PySem.W.Frag):V->Option Int->Option Int->Hp->VK->Prop:=fun x lo hi H Q=>∃ a xs,x=.ref a/\SqT K H a xs/\(HT.sIx xs.length 0 lo=0/\HT.sIx xs.length xs.length hi=xs.length)/\Q (.ref a) H
def yIa (K:PySem.W.Frag):V->Option Int->Option Int->Hp->VK->Prop:=fun x lo hi H Q=>yLj K x lo hi H Q\/yLA K x lo hi H Q
noncomputable def yJg:PV->Option Int->Option Int->AH->Option (PV×AH):=fun x lo hi h=>match x with|.tup xs=>some (.tup (yns xs lo hi),h)|_=>none
theorem yKI:yAV K (yIa K.K) yJg:=by
 intro W x v lo hi Q z h' w rx e q
 unfold yJg at e
 split at e
 .rename_i xs
  cases e
  obtain ⟨a,vs,ev,hs,rs⟩:=rx
  have hl:vs.length=xs.length:=rs.len
  by_cases c:HT.sIx vs.length 0 lo=0/\HT.sIx vs.length vs.length hi=vs.length
  .refine .inr ⟨a,vs,ev,yfg w hs,c,q _ W rfl (.refl w) ⟨a,vs,rfl,hs,?_⟩⟩
   unfold yns
   rw [<- hl,c.1,c.2,List.drop_zero,Nat.sub_zero,hl,List.take_length]
   exact rs
  .refine .inl ⟨a,vs,ev,yfg w hs,c,fun p hp=>?_⟩
   have l2:=yyd (o:=.tup (yAn vs lo hi)) w hp
   refine q (.ref p) (yEJ W p (.tup (yAn vs lo hi))) rfl l2 ⟨p,_,rfl,.inl yQ,l2.repL ?_⟩
   have:=(rs.drop (HT.sIx xs.length 0 lo)).take (HT.sIx xs.length xs.length hi-HT.sIx xs.length 0 lo)
   unfold yns yAn
   rw [hl]
   exact this
 .cases e
theorem yIb {xs:List PV}{lo hi:Option Int}{h:AH}:yJg (.tup xs) lo hi h=some (.tup (yns xs lo hi),h):=id rfl
end PX
namespace PX
open PySem L2
variable {K:Ck}
variable {t:TS}{s:XS}
end PX
namespace PX
open PySem L2 PySem.Spec PyProof.Rows
section
variable (K:Ck)
noncomputable def cE (x:XE):TE:=fun σ H Q=>∃ (W0 W:Wd) (ρ:PSt) (y:PV) (h':AH),W.H=H/\Good K W0 W ρ σ/\x ρ W.h=some (y,h')/\∀ v W',W'.h=h'->Le K W W'->yeI K W' y v->Q v W'.H
noncomputable def cO (x:XO):TE:=fun σ H Q=>∃ (W0 W:Wd) (ρ:PSt) (d:Nd) (h':AH),W.H=H/\Good K W0 W ρ σ/\x ρ W.h=some (d,h')/\∀ p W',W'.h=h'->Le K W W'->p∉W'.m->W.H p=none->d≠.dead->NdAt K W'.F W'.H W'.m d p->Q (.ref p) W'.H
noncomputable def cT (x:XT):TT:=fun σ H Q=>∃ (W0 W:Wd) (ρ:PSt) (y:Bool) (h':AH),W.H=H/\Good K W0 W ρ σ/\x ρ W.h=some (y,h')/\∀ W',W'.h=h'->Le K W W'->Q y W'.H
noncomputable def cA (x:XA):TA:=fun σ H Q=>∃ (W0 W:Wd) (ρ:PSt) (y:List PV) (h':AH),W.H=H/\Good K W0 W ρ σ/\x ρ W.h=some (y,h')/\∀ v W',W'.h=h'->Le K W W'->yfb K W' y v->Q v W'.H
noncomputable def cP (x:PSt->AH->Option (Option Int×AH)):TO:=fun σ H Q=>∃ (W0 W:Wd) (ρ:PSt) (y:Option Int) (h':AH),W.H=H/\Good K W0 W ρ σ/\x ρ W.h=some (y,h')/\∀ W',W'.h=h'->Le K W W'->Q y W'.H
noncomputable def cI (x:XA):TI:=fun σ H R=>∃ (W0 W:Wd) (ρ:PSt) (y:List PV) (h':AH),W.H=H/\Good K W0 W ρ σ/\x ρ W.h=some (y,h')/\∀ J W',W'.h=h'->Le K W W'->yIZ K W' J y->R J W'.H
noncomputable def cG (y:XG):TG:=fun v σ H Q=>∃ (W0 W:Wd) (ρ ρ':PSt) (x:PV),W.H=H/\Good K W0 W ρ σ/\yeI K W x v/\y x ρ=some ρ'/\∀ σ',Good K W0 W ρ' σ'->Q σ' W.H
noncomputable def cGs (y:XGs):TGs:=fun v σ H Q=>∃ (W0 W:Wd) (ρ ρ':PSt) (x:List PV),W.H=H/\Good K W0 W ρ σ/\yfb K W x v/\y x ρ=some ρ'/\∀ σ',Good K W0 W ρ' σ'->Q σ' W.H
noncomputable def cS (s:XS):TS:=fun D σ H=>∃ (W0 W:Wd) (ρ:PSt) (o:Out) (h':AH),W.H=H/\Good K W0 W ρ σ/\s ρ W.h=some (o,h')/\Ends.Ok K W0 W D h' o
noncomputable def cF (s:XS):TS:=fun D σ H=>∃ (W0 W:Wd) (ρ ρ':PSt) (h':AH),W.H=H/\Good K W0 W ρ σ/\s ρ W.h=some (.nx ρ',h')/\∀ W',W'.h=h'->Lf K W W'->Good K W0 W' ρ' σ->D.nx σ W'.H
end
section
variable {K:Ck}
theorem sE {x:XE}:ydn K (cE K x) x:=fun W0 W ρ σ Q y h' g e q=>⟨W0,W,ρ,y,h',rfl,g,e,q⟩
theorem sO {x:XO}:yvz K (cO K x) x:=fun W0 W ρ σ Q y h' g e q=>⟨W0,W,ρ,y,h',rfl,g,e,q⟩
theorem sT {x:XT}:ytK K (cT K x) x:=fun W0 W ρ σ Q y h' g e q=>⟨W0,W,ρ,y,h',rfl,g,e,q⟩
theorem sA {x:XA}:ytL K (cA K x) x:=fun W0 W ρ σ Q y h' g e q=>⟨W0,W,ρ,y,h',rfl,g,e,q⟩
theorem sP {x}:yCM K (cP K x) x:=fun W0 W ρ σ Q y h' g e q=>⟨W0,W,ρ,y,h',rfl,g,e,q⟩
theorem sI {x:XA}:yEV K (cI K x) x:=fun W0 W ρ σ Q y h' g e q=>⟨W0,W,ρ,y,h',rfl,g,e,q⟩
theorem sG {y:XG}:yBb K (cG K y) y:=fun W0 W ρ ρ' σ x v Q g r e q=>⟨W0,W,ρ,ρ',x,rfl,g,r,e,q⟩
theorem sGs {y:XGs}:ywG K (cGs K y) y:=fun W0 W ρ ρ' σ x v Q g r e q=>⟨W0,W,ρ,ρ',x,rfl,g,r,e,q⟩
theorem sS {s:XS}:ylE K (cS K s) s:=fun W0 W ρ σ D o h' g e q=>⟨W0,W,ρ,o,h',rfl,g,e,q⟩
theorem sF {s:XS}:yAq K (cF K s) s:=fun W0 W ρ ρ' σ D h' g e q=>⟨W0,W,ρ,ρ',h',rfl,g,e,q⟩
end
abbrev ckX (X:Cx) (A:Nat->Addr):Ck:=⟨X.K,A⟩
structure ZE (X:Cx) (A:Nat->Addr) (e:Expr) (x:XE):Prop where of:PE X e (cE (ckX X A) x)
structure ZO (X:Cx) (A:Nat->Addr) (e:Expr) (x:XO):Prop where of:PE X e (cO (ckX X A) x)
structure ZT (X:Cx) (A:Nat->Addr) (e:Expr) (x:XT):Prop where of:PT X e (cT (ckX X A) x)
structure ZW (X:Cx) (A:Nat->Addr) (e:Expr) (x:XT):Prop where of:PW X e (cT (ckX X A) x)
structure ZA (X:Cx) (A:Nat->Addr) (e:List Expr) (n:Nat) (x:XA):Prop where
 of:PA X e (cA (ckX X A) x)
 len:∀ ρ h xs h',x ρ h=some (xs,h')->xs.length=n
structure ZP (X:Cx) (A:Nat->Addr) (e:Option Expr) (x:PSt->AH->Option (Option Int×AH)):Prop where of:PO X e (cP (ckX X A) x)
structure ZI (X:Cx) (A:Nat->Addr) (tg e:Expr) (x:XA):Prop where of:PI X tg e (cI (ckX X A) x)
structure ZG (X:Cx) (A:Nat->Addr) (e:Expr) (y:XG):Prop where of:PG X e (cG (ckX X A) y)
structure ZGs (X:Cx) (A:Nat->Addr) (e:List Expr) (y:XGs):Prop where of:PGs X e (cGs (ckX X A) y)
structure ZS (X:Cx) (A:Nat->Addr) (e:Stmt) (s:XS):Prop where of:PS X e (cS (ckX X A) s)
structure ZSs (X:Cx) (A:Nat->Addr) (e:List Stmt) (s:XS):Prop where of:PSs X e (cS (ckX X A) s)
structure ZF (X:Cx) (A:Nat->Addr) (e:Stmt) (s:XS):Prop where of:PS X e (cF (ckX X A) s)
structure ZFs (X:Cx) (A:Nat->Addr) (e:List Stmt) (s:XS):Prop where of:PSs X e (cF (ckX X A) s)
section
variable {X:Cx}{A:Nat->Addr}{e:Expr}{es:List Expr}
theorem wE {t:TE}{x:XE}(p:PE X e t) (s:ydn (ckX X A) t x):ZE X A e x:=⟨fun pins st σ H Q I ⟨W0,W,ρ,y,h',eh,g,ex,q⟩=>by subst eh;exact p pins st σ _ Q I (s W0 W ρ σ Q y h' g ex q)⟩
theorem wO {t:TE}{x:XO}(p:PE X e t) (s:yvz (ckX X A) t x):ZO X A e x:=⟨fun pins st σ H Q I ⟨W0,W,ρ,y,h',eh,g,ex,q⟩=>by subst eh;exact p pins st σ _ Q I (s W0 W ρ σ Q y h' g ex q)⟩
theorem wT {t:TT}{x:XT}(p:PT X e t) (s:ytK (ckX X A) t x):ZT X A e x:=⟨fun pins st σ H Q I ⟨W0,W,ρ,y,h',eh,g,ex,q⟩=>by subst eh;exact p pins st σ _ Q I (s W0 W ρ σ Q y h' g ex q)⟩
theorem wW {t:TT}{x:XT}(p:PW X e t) (s:ytK (ckX X A) t x):ZW X A e x:=⟨fun wh pins st σ H Q I ⟨W0,W,ρ,y,h',eh,g,ex,q⟩=>by subst eh;exact p wh pins st σ _ Q I (s W0 W ρ σ Q y h' g ex q)⟩
theorem wA {t:TA}{x:XA}{n:Nat}(p:PA X es t) (s:ytL (ckX X A) t x) (l:∀ ρ h xs h',x ρ h=some (xs,h')->xs.length=n):ZA X A es n x:=⟨fun pos pins st σ H Q I ⟨W0,W,ρ,y,h',eh,g,ex,q⟩=>by subst eh;exact p pos pins st σ _ Q I (s W0 W ρ σ Q y h' g ex q),l⟩
theorem wP {o:Option Expr}{t:TO}{x} (p:PO X o t) (s:yCM (ckX X A) t x):ZP X A o x:=⟨fun pins st σ H Q I ⟨W0,W,ρ,y,h',eh,g,ex,q⟩=>by subst eh;exact p pins st σ _ Q I (s W0 W ρ σ Q y h' g ex q)⟩
theorem wI {tg:Expr}{t:TI}{x:XA}(p:PI X tg e t) (s:yEV (ckX X A) t x):ZI X A tg e x:=⟨fun pins st σ H Q I ⟨W0,W,ρ,y,h',eh,g,ex,q⟩=>by subst eh;exact p pins st σ _ Q I (s W0 W ρ σ Q y h' g ex q)⟩
theorem wG {t:TG}{y:XG}(p:PG X e t) (s:yBb (ckX X A) t y):ZG X A e y:=⟨fun pins st σ H v u Q I rv ⟨W0,W,ρ,ρ',x,eh,g,r,ex,q⟩=>by subst eh;exact p pins st σ _ v u Q I rv (s W0 W ρ ρ' σ x v Q g r ex q)⟩
theorem wGs {t:TGs}{y:XGs}(p:PGs X es t) (s:ywG (ckX X A) t y):ZGs X A es y:=⟨fun pins st σ H v u Q I rv ⟨W0,W,ρ,ρ',x,eh,g,r,ex,q⟩=>by subst eh;exact p pins st σ _ v u Q I rv (s W0 W ρ ρ' σ x v Q g r ex q)⟩
theorem wS {st:Stmt}{t:TS}{x:XS}(p:PS X st t) (s:ylE (ckX X A) t x):ZS X A st x:=⟨fun pins st σ H D I ⟨W0,W,ρ,o,h',eh,g,ex,q⟩=>by subst eh;exact p pins st σ _ D I (s W0 W ρ σ D o h' g ex q)⟩
theorem wSs {st:List Stmt}{t:TS}{x:XS}(p:PSs X st t) (s:ylE (ckX X A) t x):ZSs X A st x:=⟨fun pins st σ H D I ⟨W0,W,ρ,o,h',eh,g,ex,q⟩=>by subst eh;exact p pins st σ _ D I (s W0 W ρ σ D o h' g ex q)⟩
theorem wF {st:Stmt}{t:TS}{x:XS}(p:PS X st t) (s:yAq (ckX X A) t x):ZF X A st x:=⟨fun pins st σ H D I ⟨W0,W,ρ,ρ',h',eh,g,ex,q⟩=>by subst eh;exact p pins st σ _ D I (s W0 W ρ ρ' σ D h' g ex q)⟩
theorem wFs {st:List Stmt}{t:TS}{x:XS}(p:PSs X st t) (s:yAq (ckX X A) t x):ZFs X A st x:=⟨fun pins st σ H D I ⟨W0,W,ρ,ρ',h',eh,g,ex,q⟩=>by subst eh;exact p pins st σ _ D I (s W0 W ρ ρ' σ D h' g ex q)⟩
end
structure Nm (x:Str):Prop where
 d:(x == ("__debug__":Str))=false
 c:(x == ("__classdict__":Str))=false
 n:x≠"__name__"
section
variable {X:Cx}{A:Nat->Addr}{a b c o:Expr}{es:List Expr}{xa xb xc:XE}{xo:XO}{aa:XA}{pos p apos:Pos}{x:Str}{n k:Nat}
theorem yux {j}:ZE X A (.Constant .none j pos) (xC .non):=wE yGw yEE
theorem yFD {b j}:ZE X A (.Constant (.bool b) j pos) (xC (.bl b)):=wE yJj yHd
theorem z_int {i j}:ZE X A (.Constant (.int i) j pos) (xC (.int i)):=wE yGv yyb
theorem z_str {x j}:ZE X A (.Constant (.str x) j pos) (xC (.str x)):=wE yGx yyc
theorem yyU {i:Nat}(m:Nm x) (hN:X.N[i]?=some x) (hv:Vis X.env.scope x):ZE X A (.Name x pos) (yg i):=wE (ybv hN hv m.d m.c) (yED i)
theorem z_v (i:Nat) (m:Nm x) (hN:X.N[i]?=some x:=by rfl) (hv:Vis X.env.scope x:=by exact Or.inl rfl):ZE X A (.Name x pos) (yg i):=yyU m hN hv
theorem yyV {n:Int}{t:Tok}(m:Nm x) (hg:Gl X x) (hm:X.mg x=some (.int n t)):ZE X A (.Name x pos) (xC (.int n)):=wE (yEz hg hm m.d) yyb
theorem yIc {n:Str}{t:Tok}(m:Nm x) (hg:Gl X x) (hm:X.mg x=some (.str n t)):ZE X A (.Name x pos) (xC (.str n)):=wE (yEA hg hm m.d) yyc
theorem ykS {k:Nat}(m:Nm x) (hg:Gl X x) (hm:X.mg x=some (.ref (A k))):ZE X A (.Name x pos) (xC (.cls k)):=wE (ytY hg hm m.d) (yEF (K:=ckX X A))
theorem ysB {n:String}(m:Nm x) (hg:Gl X x) (hm:X.mg x=none) (hv:bootBuiltins x=some (.type n)):ZE X A (.Name x pos) (xC (.ty n)):=wE (yHc hg hm hv m.n m.d) yHe
theorem yhf (h:ZO X A a xo):ZE X A a (xFz xo):=wE h.of (yHj sO)
theorem yhO (h:ZO X A a xo):ZE X A a (ylK xo):=wE h.of (yyf sO)
theorem ybD {op:Operator}{r:R2}{q:P2}(ho:OpR X (binaryOp op) r) (hq:yge (ckX X A) r q) (ha:ZE X A a xa) (hb:ZE X A b xb):ZE X A (.BinOp a op b pos) (xOp q xa xb):=wE (yGO ho ha.of hb.of) (yvA hq sE sE)
theorem yyW {op:Operator}{r:R2}{q:P2O}(ho:OpR X (binaryOp op) r) (hq:yya (ckX X A) r q) (ha:ZE X A a xa) (hb:ZE X A b xb):ZO X A (.BinOp a op b pos) (yCJ q xa xb):=wO (yGO ho ha.of hb.of) (yEG hq sE sE)
theorem yLB {op:UnaryOp}{r} {q} (ho:UnR X (unaryOp op) r) (hq:yEC (ckX X A) r q) (ha:ZE X A a xa):ZE X A (.UnaryOp op a pos) (xUn q xa):=wE (yJr ho ha.of) (yHf hq sE)
theorem yKJ (ha:ZE X A a xa):ZE X A (.UnaryOp .Not a pos) (yAN xa):=wE (yGG ha.of) (yAQ sE)
theorem ywW {op:CmpOp}{r:R2}{q:P2}(ho:OpR X (compareOp op) r) (hq:yge (ckX X A) r q) (ha:ZE X A a xa) (hb:ZE X A b xb) (hm:behindInMarks op b=false):ZE X A (.Compare a [op] [b] pos) (xOp q xa xb):=wE (yEg ho ha.of hb.of hm) (yvA hq sE sE)
theorem yId {op} (h:ZE X A a xa):ZE X A (.BoolOp op [a] pos) xa:=⟨yGE h.of⟩
theorem yFE (ha:ZE X A a xa) (hb:ZE X A (.BoolOp .And (b::es) pos) xb):ZE X A (.BoolOp .And (a::b::es) pos) (ywB xa xb):=wE (yGF ha.of hb.of) (yAP sE sE)
section
variable {ca cb:XT}
theorem yIe (hc:ZT X A c ca) (ha:ZE X A a xa) (hb:ZE X A b xb):ZE X A (.IfExp c a b pos) (xIf ca xa xb):=wE (yAw hc.of ha.of hb.of) (yHi sT sE sE)
theorem yW {op:CmpOp}{r:R2}{q:P2}(ho:OpR X (compareOp op) r) (hq:yge (ckX X A) r q) (ha:ZE X A a xa) (hb:ZE X A b xb) (hm:behindInMarks op b=false):ZT X A (.Compare a [op] [b] pos) (yJ (xOp q xa xb)):=wT (yEh ho ha.of hb.of hm) (ynr (yvA hq sE sE))
theorem yvS (ha:ZT X A a ca):ZT X A (.UnaryOp .Not a pos) (yEB ca):=wT (yGB ha.of) (yEI sT)
theorem yfO (h:ZE X A a xa) (he:∀ whole,isTrue a X.env whole=(do let v <- whole;standAt a.pos;holding [v] (truthy v))):ZT X A a (yJ xa):=wT (yGy h.of he) (yHg sE)
theorem yKK (h:ZW X A a ca):ZT X A a ca:=⟨PW.pt h.of⟩
theorem yIf (ha:ZT X A a ca) (hb:ZW X A (.BoolOp .And (b::es) pos) cb):ZW X A (.BoolOp .And (a::b::es) pos) (yIX ca cb):=wW (yGA ha.of hb.of) (yEH sT sT)
theorem yIg (ha:ZT X A a ca) (hb:ZW X A (.BoolOp .Or (b::es) pos) cb):ZW X A (.BoolOp .Or (a::b::es) pos) (xOr ca cb):=wW (yJl ha.of hb.of) (yHh sT sT)
theorem yFF (ha:ZT X A a ca):ZW X A (.BoolOp .And [a] pos) ca:=⟨yEa ha.of⟩
theorem yDg (ha:ZT X A a ca):ZW X A (.BoolOp .Or [a] pos) ca:=⟨yGz ha.of⟩
end
theorem yf:ZA X A [] 0 yr:=wA yrO ynN yuk
theorem ya (ha:ZE X A a xa) (hr:ZA X A es n aa) (hs:starEach (a::es) X.env=(false,eval a X.env)::starEach es X.env):ZA X A (a::es) (n+1) (yc xa aa):=wA (ylH ha.of hr.of hs) (yvB sE sA) (yAT hr.len)
theorem ygg (h:ZA X A es n aa):ZO X A (.List es pos) (ylF aa):=wO (yGT h.of) (yEL sA)
theorem yex {q} (h:ZA X A es n aa):ZE X A (.Tuple es q pos) (yiQ aa):=wE (yGS h.of) (yEK sA)
theorem yBM:ZP X A none yjY:=wP yEr ywE
theorem ygh (h:ZE X A a xa):ZP X A (some a) (yjX xa):=wP (yEs h.of) (yAU sE)
section
variable {lo hi:Option Expr}{xl xh:PSt->AH->Option (Option Int×AH)}{p2:Pos}
theorem yLC {r} {q} (hr:SlR X r) (hq:yAV (ckX X A) r q) (ha:ZE X A a xa) (hl:ZP X A lo xl) (hh:ZP X A hi xh):ZE X A (.Subscript a (.Slice lo hi none p2) pos) (xSl q xa xl xh):=wE (yvx hr ha.of hl.of hh.of) (yHk hq sE sP sP)
theorem ywX {r} {q} (hr:SlR X r) (hq:yyh (ckX X A) r q) (ha:ZE X A a xa) (hl:ZP X A lo xl) (hh:ZP X A hi xh):ZO X A (.Subscript a (.Slice lo hi none p2) pos) (yAO q xa xl xh):=wO (yvx hr ha.of hl.of hh.of) (yEN hq sE sP sP)
end
theorem yci {r:R2}{q:P2}(hr:IxR X r) (hq:yge (ckX X A) r q) (ha:ZE X A a xa) (hb:ZE X A b xb) (hs:yxR b):ZE X A (.Subscript a b pos) (xOp q xa xb):=wE (yJv hr ha.of hb.of hs) (yvA hq sE sE)
theorem ybY {cs:List Nat}{f:Str}(hc:∀ k∈cs,Cls X.K (A k)/\NoAttr X.K (A k) f) (ha:ZE X A a xa) (hb:attributeBase a f X.env (eval a X.env)=eval a X.env):ZE X A (.Attribute a f pos) (yfi cs f xa):=wE (yGR ha.of hb) (yFb (K:=ckX X A) hc sE)
section
variable {f C:Addr}{fd:FuncData}{ps:List Str}{lv:Nat}{fn:Fn}
theorem ybJ (F:FnOk X.prog X.w X.K X.mg X.base CX0 lv f fd ps (spE (ckX X A) (n+1) fn)) (hr:Room lv X.A) (m:Nm x) (hg:Gl X x) (hm:X.mg x=some (.ref f)) (hk:keepIn X.K (.ref f)=true) (hb:Binds X.K fd ps [])
  (ha:ZA X A (a::es) (n+1) aa) (he:starEach (a::es) X.env=(false,eval a X.env)::starEach es X.env) (hpl:(backTo pos (starEach es X.env)).any (·.1)=false):ZE X A (.Call (.Name x p) (a::es) [] pos) (ycJ fn aa) :=
 wE (yEo F hr hg hm hk hb .nil ywy ha.of m.d he hpl) (yAS sA ha.len)
theorem ymw {k:Nat}{fi} (M:Mk X.K (A k) f) (F:FnOk X.prog X.w X.K X.mg X.base CX0 lv f fd ps (spI (ckX X A) (n+1) k fi)) (hr:Room (lv+1) X.A) (m:Nm x) (hg:Gl X x) (hm:X.mg x=some (.ref (A k))) (hb:Binds X.K fd ps [])
  (ha:ZA X A (a::es) (n+1) aa) (he:starEach (a::es) X.env=(false,eval a X.env)::starEach es X.env) (hpl:(backTo pos (starEach es X.env)).any (·.1)=false):ZO X A (.Call (.Name x p) (a::es) [] pos) (ylN fi aa) :=
 wO (yEq M F hr hg hm hb .nil ywy ha.of m.d he hpl) (yvE (K:=ckX X A) (k:=k) sA ha.len)
theorem yFG {k:Nat}(hm:makesIn X.K (A k)=true) (hi:findIn X.K (.ref (A k)) "__init__" = some (some (.builtin "object.__init__"))) (hk:keepIn X.K (.ref (A k))=true) (m:Nm x) (hg:Gl X x) (hmg:X.mg x=some (.ref (A k))):ZO X A (.Call (.Name x p) [] [] pos) (yvF k) :=
 wO (yAL hm hi hk hg hmg m.d) (yyu (K:=ckX X A))
end
theorem ykH {id:String}{r} {q} (hc:yjW X (.builtin id) r) (hq:yqr (ckX X A) r q) (m:Nm x) (hg:Gl X x) (hm:X.mg x=none) (hv:bootBuiltins x=some (.builtin id)) (ha:ZA X A (a::es) n aa) (he:starEach (a::es) X.env=(false,eval a X.env)::starEach es X.env) (hpl:(backTo pos (starEach es X.env)).any (·.1)=false):ZE X A (.Call (.Name x p) (a::es) [] pos) (xCB q aa) :=
 wE (yqi hc hg hm hv ha.of m.n m.d he hpl) (yCK hq sA)
theorem yFH {T:String}{r} {q} (hc:yjW X (.type T) r) (hq:yqr (ckX X A) r q) (m:Nm x) (hg:Gl X x) (hm:X.mg x=none) (hv:bootBuiltins x=some (.type T)) (ha:ZA X A (a::es) n aa) (he:starEach (a::es) X.env=(false,eval a X.env)::starEach es X.env) (hpl:(backTo pos (starEach es X.env)).any (·.1)=false):ZE X A (.Call (.Name x p) (a::es) [] pos) (xCB q aa) :=
 wE (yrT hc hg hm hv ha.of m.n m.d he hpl) (yCK hq sA)
theorem yfP {T:String}{r} {q} (hc:yjW X (.type T) r) (hq:ysp (ckX X A) r q) (m:Nm x) (hg:Gl X x) (hm:X.mg x=none) (hv:bootBuiltins x=some (.type T)) (ha:ZA X A (a::es) n aa) (he:starEach (a::es) X.env=(false,eval a X.env)::starEach es X.env) (hpl:(backTo pos (starEach es X.env)).any (·.1)=false):ZO X A (.Call (.Name x p) (a::es) [] pos) (ynM q aa) :=
 wO (yrT hc hg hm hv ha.of m.n m.d he hpl) (yyg hq sA)
section
variable {name:Str}{cpos:Pos}{T id:String}{r:V->List V->Hp->VK->Prop}{cc:PV->AH->Bool}{q:PM}
theorem yvT (pa:PlainAttrs T) (slot:Slot T name id) (hty:typeOf (.builtin id)=pure (.type "method_descriptor")) (hm:MtR X id r) (hq:ysq (ckX X A) T cc r q) (ho:ZE X A o xa) (ha:ZA X A (a::es) n aa)
  (hbase:attributeBase o name X.env (eval o X.env)=eval o X.env)
  (hfew:((backTo cpos (starEach (a::es) X.env)).all (fun x=>!x.1) && (backToKw cpos (keywordEach [] X.env)).all (fun x=>x.1.isSome)
   && decide ((a::es).length+([]:List Keyword).length+(if ([]:List Keyword).isEmpty then 0 else 1)<30))=true)
  (hline:(apos.endLine == cpos.line)=true) (hs:starEach (a::es) X.env=(false,eval a X.env)::starEach es X.env) (hplain:(backTo cpos (starEach es X.env)).any (·.1)=false) :
  ZE X A (.Call (.Attribute o name apos) (a::es) [] cpos) (xBM cc q xa aa):=wE (yGY pa slot hty hm ho.of ha.of hbase hfew hline hs hplain) (yCL (K:=ckX X A) hq sE sA)
theorem yIh (pa:PlainAttrs T) (slot:Slot T name id) (hty:typeOf (.builtin id)=pure (.type "method_descriptor")) (hm:MtR X id r) (hq:ysq (ckX X A) T cc r q) (ho:ZE X A o xa)
  (hbase:attributeBase o name X.env (eval o X.env)=eval o X.env) (hline:(apos.endLine == cpos.line)=true) :
  ZE X A (.Call (.Attribute o name apos) [] [] cpos) (xBM cc q xa yr):=wE (yCF pa slot hty hm ho.of hbase hline) (yEM (K:=ckX X A) hq sE)
theorem yiL {i:Nat}(ho:PE X o (yCv i)) (ha:ZE X A a xa)
  (hbase:attributeBase o "append" X.env (eval o X.env)=eval o X.env)
  (hfew:((backTo cpos (starEach [a] X.env)).all (fun x=>!x.1) && (backToKw cpos (keywordEach [] X.env)).all (fun x=>x.1.isSome)
   && decide ([a].length+([]:List Keyword).length+(if ([]:List Keyword).isEmpty then 0 else 1)<30))=true)
  (hline:(apos.endLine == cpos.line)=true) (hs:starEach [a] X.env=(false,eval a X.env)::starEach [] X.env) (hplain:(backTo cpos (starEach [] X.env)).any (·.1)=false)
  (hsw:swapsWith (.Call (.Attribute o "append" apos) [a] [] cpos) none pos.line X.env=pure false) :
  ZS X A (.Expr (.Call (.Attribute o "append" apos) [a] [] cpos) pos) (yiR i xa) :=
 wS (ytR (yGY PySem.F.plainAttrs_list PySem.F.slot_list_append PySem.F.type_list_append ykL ho (ylH ha.of yrO hs) hbase hfew hline hs hplain) hsw) (yBf (K:=ckX X A) i sE)
end
section
variable {tg:Expr}
theorem yqC (h:ZE X A a xa):ZI X A tg a (xIL xa):=wI (yEd h.of) (yyl (K:=ckX X A) sE)
theorem ynZ (hg:Gl X "range") (hm:X.mg "range" = none) (ha:ZA X A [a] n aa) (hs:starEach [a] X.env=[(false,eval a X.env)]):ZI X A tg (.Call (.Name "range" p) [a] [] pos) (yBg aa):=wI (yxC hg hm ha.of hs) (yym sA)
end
theorem yey {i:Nat}(hN:X.N.Nodup) (hi:X.N[i]?=some x) (hx:Loc X.env.scope x) (hf:X.fn x=true\/X.env.scope.names.lookup x=some .local):ZG X A (.Name x pos) (yz i):=wG (yqg hN hi hx hf) (ynP i)
theorem yyX:ZGs X A [] yGk:=wGs yEc yBc
theorem yjF {y:XG}{ys:XGs}(h1:ZG X A a y) (h2:ZGs X A es ys) (hs:(assignEach (a::es) X.env).map (·.2)=assign a X.env::(assignEach es X.env).map (·.2)):ZGs X A (a::es) (ymS y ys):=wGs (yAy h1.of h2.of hs) (yyj sG sGs)
theorem yDh {ys:XGs}{q:Nat}(hc:X.calm=true) (h:ZGs X A es ys) (hn:(assignEach es X.env).length=n) (hst:(assignEach es X.env).findIdx? (·.1)=none):ZG X A (.Tuple es q pos) (yEO n ys):=wG (yGK hc h.of hn hst) (yBd (K:=ckX X A) sGs)
theorem yIi {elt iter:Expr}{px:Pos}{scope:Scope}{cpos:Pos}{it:XA}{xe:XE}(ix:List Nat) (fr:List Str) (hc:X.calm=true) (hi:ZI X A (.Name x px) iter it) (hfr:FrOk X scope ix fr)
  (he:∀ (cl:List (Str×Addr)) (C:Addr) (s₃:Shared) (H₃:Hp) (fp:List Addr) (pins:List (Addr×Obj)),ZE (cxC X scope cl C (x::fr) s₃ H₃ fp pins) A elt xe)
  (hnd:(x::fr).Nodup) (hkind:scope.kind=.function) (hcell:∀ y∈scope.names,y.2≠.cell)
  (hnames:∀ y∈scope.names,y.2=.local->scope.names.lookup y.1=some .local) (hfree0:∀ y∈scope.names,y.2=.free->y.1∈fr) (hx:scope.names.lookup x=some .local)
  (hs:∀ v,foldedSetIterable iter X.env v=pure v):ZO X A (.ListComp elt [⟨.Name x px,iter,[],0⟩] scope cpos) (ywF it ix xe) :=
 wO (yEx ix fr hc hi.of hfr (te:=cE (ckX X A) xe) (fun cl C s₃ H₃ fp pins=>(he cl C s₃ H₃ fp pins).of) hnd hkind hcell hnames hfree0 hx hs) (yvC (K:=ckX X A) ix sI sE)
section
variable {st:Stmt}{rest:List Stmt}{s u:XS}
theorem yx (h:ZE X A a xa):ZS X A (.Return (some a) pos) (ycB xa):=wS (yGI h.of) (yEQ sE)
theorem ycF (h:ZE X A a xa) (hs:swapsWith a none pos.line X.env=pure false):ZS X A (.Expr a pos) (yff xa):=wS (ytR h.of hs) (yBa sE)
theorem yy {i:Nat}{pos':Pos}(hN:X.N.Nodup) (hi:X.N[i]?=some x) (hx:Loc X.env.scope x) (h:ZE X A a xa) (hs:swapsWith a (some (.Name x pos')) pos.line X.env=pure false) (hf:X.fn x=true\/X.env.scope.names.lookup x=some .local):ZS X A (.Assign [.Name x pos'] a pos) (ydf xa (yz i)) :=
 wS (yCy hN hi hx h.of hs hf) (yum sE (ynP i))
theorem yoa {i:Nat}{pos':Pos}(hN:X.N.Nodup) (hi:X.N[i]?=some x) (hx:Loc X.env.scope x) (h:ZO X A a xo) (hs:swapsWith a (some (.Name x pos')) pos.line X.env=pure false) (hf:X.fn x=true\/X.env.scope.names.lookup x=some .local):ZS X A (.Assign [.Name x pos'] a pos) (ysr xo i) :=
 wS (yCy hN hi hx h.of hs hf) (yBe i sO)
theorem yDi {tg:Expr}{y:XG}(h:ZE X A a xa) (hg:ZG X A tg y) (hs:swapsWithSole [tg] a pos.line X.env=pure false) (hw:swappedStores [tg] a X.env=pure none) (h1:(assignEach [tg] X.env).map (·.2)=[assign tg X.env]):ZS X A (.Assign [tg] a pos) (ydf xa y):=wS (yCx h.of hg.of hs hw h1) (yum sE sG)
theorem ydh {cs:List Nat}{f:Str}{pos':Pos}{i:Nat}(hc:∀ k∈cs,Cls X.K (A k)/\NoAttr X.K (A k) f) (ho:PE X o (yCv i)) (h:ZE X A a xa) (hs:swapsWith a (some (.Attribute o f pos')) pos.line X.env=pure false):ZF X A (.Assign [.Attribute o f pos'] a pos) (yfc cs i f xa):=wF (yCD ho h.of hs) (yBp (K:=ckX X A) hc sE)
theorem ybr {ca:XT}{l m:List Stmt}(hc:ZT X A c ca) (ha:ZSs X A l s) (hb:ZSs X A m u):ZS X A (.If c l m pos) (ycL ca s u):=wS (yJn hc.of ha.of hb.of) (yER sT sS sS)
theorem ymx {tg iter:Expr}{it:XA}{y:XG}(hp:PassesOwn (model X.prog X.w) X.A X.env X.xe) (hc:X.calm=true) (hi:ZI X A tg iter it) (hg:ZG X A tg y) (hb:ZSs X A rest s) (hs:∀ x,foldedSetIterable iter X.env x=pure x):ZS X A (.For tg iter rest [] pos) (yyi it y s):=wS (yCA hp hc hi.of hg.of hb.of hs) (yEW sI sG sS)
theorem yBN {ca:XT}(fu:Nat) (hp:PassesOwn (model X.prog X.w) X.A X.env X.xe) (hc:ZT X A c ca) (hb:ZSs X A rest s):ZS X A (.While c rest [] pos) (yss fu ca s):=wS (yAz hp hc.of hb.of) (yyn fu sT sS)
theorem yA:ZSs X A [] ybH:=wSs yEb yAZ
theorem yh (h:ZS X A st s):ZSs X A [st] s:=⟨yxz h.of⟩
theorem ye (h:ZS X A st s) (hr:ZSs X A rest u):ZSs X A (st::rest) (yw s u):=wSs (yvq h.of hr.of) (yEP sS sS)
theorem yob (i:Nat) (h:ZSs X A rest s):ZSs X A rest (yCN i s):=wSs h.of (yES i sS)
theorem yhP (h:ZF X A st s):ZFs X A [st] s:=⟨yxz h.of⟩
theorem ycE (h:ZF X A st s) (hr:ZFs X A rest u):ZFs X A (st::rest) (yw s u):=wFs (yvq h.of hr.of) (yBq sF sF)
end
end
section
variable {P:Program}{w:World}{K:PySem.W.Frag}{mg:Str->Option Value}{base:Heap}{A:Nat->Addr}
theorem zfn {x qual:Str}{st:Stmt}{f:Addr}{fd:FuncData}{N ps:List Str}{k:Nat}{s:XS}(F:Fun K x qual st f fd) (S:yq N ps (yb st))
  (h:∀ (cdv:Value) (Ar:Around) (outer:List Env) (sh:Shared) (H:Hp) (E:XK),Room k (Ar.deeper (envOfC qual (yb st) sh.heap.objs.size f cdv))->ZSs (yAH CX0 P w K mg base N qual (yb st) f cdv Ar outer sh H E).nox A (yj st) s) :
  FnOk P w K mg base CX0 (k+1) f fd ps (spE ⟨K,A⟩ ps.length (ygG N.length s)) :=
 F.ok S (fun _ _ _ _ h=>yEX h) fun cdv Ar outer sh H vs Q E hr hq=>⟨_,(h cdv Ar outer sh H E hr).of,yBi (K:=⟨K,A⟩) sS hq⟩
theorem zin {x qual:Str}{st:Stmt}{f:Addr}{fd:FuncData}{N ps:List Str}{k kc n:Nat}{s:XS}(F:Fun K x qual st f fd) (S:yq N ps (yb st)) (hn:ps.length=n+1) (hN:n+1<=N.length)
  (h:∀ (cdv:Value) (Ar:Around) (outer:List Env) (sh:Shared) (H:Hp) (E:XK),Room k (Ar.deeper (envOfC qual (yb st) sh.heap.objs.size f cdv))->ZFs (yAH CX0 P w K mg base N qual (yb st) f cdv Ar outer sh H E).nox A (yj st) s) :
  FnOk P w K mg base CX0 (k+1) f fd ps (spI ⟨K,A⟩ n kc (ytM N.length kc s)) :=
 F.ok S (fun _ _ _ _ h=>(yFc h).trans hn.symm) fun cdv Ar outer sh H vs Q E hr hq=>⟨_,(h cdv Ar outer sh H E hr).of,yBr (K:=⟨K,A⟩) hN sF hq⟩
end
end PX
namespace PX
open PySem L2 PySem.Spec PyProof.Rows
section
variable {X:Cx}{A:Nat->Addr}{a b c o i:Expr}{es:List Expr}{xa xb xc xd xk xv:XE}{xo:XO}{aa:XA}{pos p apos cpos pos':Pos}{x:Str}{n k:Nat}
theorem yDj (hu:X.A.units+1<cLine) (ho:ZE X A o xd) (hi:ZE X A i xk) (hs:yKy i):ZE X A (.Subscript o i pos) (yut xd xk):=wE (yFm hu ho.of hi.of hs) (yBy sE sE)
theorem yIj (hu:X.A.units+1<cLine) (hi:ZE X A i xk) (ho:ZE X A o xd) (hm:behindInMarks .In o=false):ZT X A (.Compare i [.In] [o] pos) (yJ (yyG false xk xd)):=wT (yCw (yHO hu hi.of ho.of) hm) (ynr (yFp sE sE))
theorem yyY (hu:X.A.units+1<cLine) (hi:ZE X A i xk) (ho:ZE X A o xd) (hm:behindInMarks .NotIn o=false):ZT X A (.Compare i [.NotIn] [o] pos) (yJ (yyG true xk xd)):=wT (yCw (yyB hu hi.of ho.of) hm) (ynr (ywR sE sE))
theorem yqD (hu:X.A.units+1<cLine) (ho:ZE X A o xd) (hi:ZE X A i xk) (hv:ZE X A a xv) (hs:swapsWith a (some (.Subscript o i pos')) pos.line X.env=pure false):ZS X A (.Assign [.Subscript o i pos'] a pos) (yqw xd xk xv):=wS (yFn hu ho.of hi.of hv.of hs) (yBz sE sE sE)
theorem ysC:ZO X A (.Dict [] [] pos) ysw:=wO yBv yBA
theorem yFI (hu:X.A.units+1<cLine) (ho:ZE X A o xd) (hi:ZE X A i xk) (hb:ZE X A b xb) (m:M2 X o "get" apos i b cpos):ZE X A (.Call (.Attribute o "get" apos) [i,b] [] cpos) (ysx xd xk xb):=wE (yBw hu ho.of hi.of hb.of m) (yyH sE sE sE)
theorem ylR (h:ZE X A a xv) (ho:ZE X A o xd) (hi:ZE X A i xk)
  (ha:∀ v,assign (.Subscript o i pos') X.env v=(do
   let ov <- holding [v] (eval o X.env)
   let iv <- holding [v,ov] (eval i X.env)
   standAt pos'
   holding [v,ov,iv] (setItem ov iv v)
   release [v,ov,iv] []))
  (hs:swapsWithSole [.Subscript o i pos'] a pos.line X.env=pure false) (hw:swappedStores [.Subscript o i pos'] a X.env=pure none) (h1:(assignEach [.Subscript o i pos'] X.env).map (·.2)=[assign (.Subscript o i pos') X.env]) :
  ZS X A (.Assign [.Subscript o i pos'] a pos) (ymU xd xk xv):=wS (yCx h.of (yGL ho.of hi.of set_list ha) hs hw h1) (yBx sE sE sE)
end
end PX
namespace PX
open PySem L2 PySem.Spec PyProof.Rows
theorem yIk:bootBuiltins "max" = some (.builtin "max"):=by rfl'
theorem yoc:bootBuiltins "sorted" = some (.builtin "sorted"):=by rfl'
theorem yuy:bootBuiltins "reversed" = some (.type "reversed"):=by rfl'
section
variable {X:Cx}{A:Nat->Addr}{a b c o:Expr}{es:List Expr}{xa xb xc:XE}{pos p apos cpos:Pos}{x:Str}{n k:Nat}
end
section
theorem yIl {a b c:Int}(hc:0<c):Builtin.Range.rangeSize a b c=(szR a b c:Int):=by
 unfold Builtin.Range.rangeSize szR
 rw [if_pos hc]
 split
 .have:=Int.ediv_nonneg (a:=b-a-1) (b:=c) (by omega) (by omega)
  omega
 .rfl
theorem yBO {a b c:Int}(h:0<=a/\a<1000000000/\0<=b/\b<1000000000/\0<c/\c<1000000):Builtin.Range.small a b c=true:=by
 obtain ⟨h1,h2,h3,h4,h5,h6⟩:=h
 unfold Builtin.Range.small
 have hs:Builtin.Range.rangeSize a b c<=1000000000/\0<=Builtin.Range.rangeSize a b c:=by
  unfold Builtin.Range.rangeSize
  rw [if_pos h5]
  split
  .have:=Int.ediv_nonneg (a:=b-a-1) (b:=c) (by omega) (by omega)
   have:=Int.ediv_le_self c (show (0:Int)<=b-a-1 by omega)
   omega
  .omega
 simp only [Builtin.Range.rangeFitsLong,Bool.and_eq_true,Bool.or_eq_true,decide_eq_true_eq,beq_iff_eq,show c>0 from h5,if_true]
 omega
theorem yuz {P:Program}{w:World}{K:PySem.W.Frag}{tg:Expr}(it:Addr) (lo st:Int) (n:Nat):Turn P w K tg (yJe lo st n) [it] it (fun i h=>IsRangeIter h it (lo+(i:Nat)*st) ((n:Int)-(i:Nat)) st) where
 mem:=by simp
 obj:=fun i h st b hb=>by
  have e:b=it:=by simpa using hb
  subst e
  exact ⟨_,st,fun v z=>by
   have z':Data.fields _=Data.cell v:=z
   cases z'⟩
 keep:=fun i h h' st k=>k it (by simp) _ st
 item:=by
  intro X hP hw hK hc i pins s σ H E I hf st' hg
  subst hP hw hK
  obtain ⟨f0,f1,f2,f3,f4,f5⟩:=hf it (by simp)
  have W:=Walks.range (prog:=X.prog) (w:=X.w) (I.ok.hd hc) it lo st n
  refine W.item i s _ _ hg st' fun v h' tk hv st'' kk=>?_
  obtain ⟨t,rfl⟩:=hv
  have I1:Inv X pins σ H { s with heap:=h',toks:=tk }:=I.turned (fun b o hb e=>kk b o (by simpa using hb) e) f0 f1 f3 f4 f5
  exact ⟨_,rfl,yAA (s:={ s with heap:=h',toks:=tk }) (n:="range_iterator") st'' rfl rfl (by decide) ⟨.int (lo+i*st),H,I1,⟨t,rfl⟩,⟨rfl,rfl⟩,st'',fun b hb=>(hf b hb).1⟩⟩
 done:=by
  intro X hP hw hK hc i pins s σ H E I hf st hg
  subst hP hw hK
  obtain ⟨f0,f1,f2,f3,f4,f5⟩:=hf it (by simp)
  exact wpAny_pyNext_range_end (I.ok.hd hc) st (by have:n<=i:=hg;omega) fun h' eb=>⟨rfl,I.turned (t':=s.toks) (fun b o hb e=>eb b o hb e) f0 f1 f3 f4 f5⟩
 self:=fun _ _ _ _ _ st h=>wpAny_pyIter_rangeiter st h
variable {X:Cx}{A:Nat->Addr}{tg a b c:Expr}{p pos:Pos}{aa:XA}{n:Nat}
theorem yyZ {pins:List (Addr×Obj)}{σ:L2.St}{H:Hp}{s:Shared}{R:It->Hp->Prop}{E:Value->Shared->Prop}{lo hi st:Int}{t u v:Tok}{tk:Nat}(I:Inv X pins σ H s) (h:0<=lo/\lo<1000000000/\0<=hi/\hi<1000000000/\0<st/\st<1000000)
  (q:R (yJe lo st (szR lo hi st)) H):wpAny (model X.prog X.w) X.A (pyIter (.ref s.heap.objs.size)) (PIE X pins σ tg R) E { s with heap:=s.heap.push { cls:=.type "range",data:=.fields #[.int lo t,.int hi u,.int st v] },toks:=tk }:=by
 refine wpAny_pyIter_range (IsRange.new ..) (yBO h) ?_
 have I1:Inv X pins σ H { s with heap:=s.heap.push { cls:=.type "range",data:=.fields #[.int lo t,.int hi u,.int st v] },toks:=tk }:=I.kept fun b o e=>Heap.get?_push_of_some _ e
 refine ⟨(s.heap.push { cls:=.type "range",data:=.fields #[.int lo t,.int hi u,.int st v] }).objs.size,[(s.heap.push { cls:=.type "range",data:=.fields #[.int lo t,.int hi u,.int st v] }).objs.size],_,_,H,rfl,
  I1.kept (t':=tk) fun b o e=>Heap.get?_push_of_some _ e,yuz _ lo st (szR lo hi st),?_,fun b hb=>?_,q⟩
 .have e1:lo+((0:Nat):Int)*st=lo:=by simp
  have e2:((szR lo hi st:Nat):Int)-((0:Nat):Int)=Builtin.Range.rangeSize lo hi st:=by rw [yIl h.2.2.2.2.1];omega
  show IsRangeIter _ _ (lo+((0:Nat):Int)*st) (((szR lo hi st:Nat):Int)-((0:Nat):Int)) st
  rw [e1,e2]
  exact Heap.get?_push_size _ rfl
 .have e:b=(s.heap.push { cls:=.type "range",data:=.fields #[.int lo t,.int hi u,.int st v] }).objs.size:=by simpa using hb
  subst e
  exact I1.fpOk (Nat.le_refl _) (I1.hok.fresh (Nat.le_refl _))
theorem yza {ta:TA}(hg:Gl X "range") (hm:X.mg "range" = none) (ha:PA X [a,b,c] ta) (hs:starEach [a,b,c] X.env=[(false,eval a X.env),(false,eval b X.env),(false,eval c X.env)]) (hs2:starEach [b,c] X.env=[(false,eval b X.env),(false,eval c X.env)]) :
  PI X tg (.Call (.Name "range" p) [a,b,c] [] pos) (yHV ta):=by
 intro pins s σ H R I h
 refine Call_ (ypJ I hg hm boot_range (PyProof.Rows.callWith_type1 (thn (ha pos pins s σ H _ I h) fun us s1 ⟨vs,H1,I1,r1,q1⟩=>?_) (by rw [hs,hs2]) (by rw [hs2];rfl)))
 obtain ⟨i,j,k,e,hc,q⟩:=q1
 subst e
 cases r1 with
 | cons r rr =>
  cases rr with
  | cons r' rr =>
   cases rr with
   | cons r'' rr =>
    cases rr
    obtain ⟨t,rfl⟩:=r
    obtain ⟨t',rfl⟩:=r'
    obtain ⟨t'',rfl⟩:=r''
    exact call_range_3 (by omega) (yyZ I1 hc q) (Or.inl (PyProof.noPylong_small (by omega)))
theorem yFJ (hg:Gl X "range") (hm:X.mg "range" = none) (ha:ZA X A [a,b,c] n aa) (hs:starEach [a,b,c] X.env=[(false,eval a X.env),(false,eval b X.env),(false,eval c X.env)]) (hs2:starEach [b,c] X.env=[(false,eval b X.env),(false,eval c X.env)]):ZI X A tg (.Call (.Name "range" p) [a,b,c] [] pos) (yHW aa):=wI (yza hg hm ha.of hs hs2) (yyK sA)
end
section
theorem ygi {xs:List V}{its:List Value}(r:Vals xs its) {j:Nat}(hj:j<its.toArray.size):∃ x,xs[j]?=some x/\RelV x its.toArray[j]:=by
 have hl:=r.length
 have j1:j<its.length:=by simpa using hj
 have x1:xs[j]?=some xs[j]:=List.getElem?_eq_getElem (by omega)
 obtain ⟨u1,q1,w1⟩:=r.get x1
 have g1:its.toArray[j]=u1:=by
  have:=List.getElem?_eq_getElem j1
  rw [q1] at this
  simpa using (Option.some.inj this).symm
 exact ⟨_,x1,by rw [g1];exact w1⟩
variable {X:Cx}
theorem yvU {pins:List (Addr×Obj)}{σ:L2.St}{H:Hp}{s:Shared}(I:Inv X pins σ H s) {n:Nat}{x y:V}{b:Bool}(r:EqR X.K H n x y b):∀ {A:Around}{u v:Value},RelV x u->RelV y v->A.units+n<cLine->SeqAt.EqAt A s u v b:=by
 induction r with
 | flat fx fy=>exact fun rx ry _=>eqAt_V rx ry fx fy
 | same =>
  intro A u v rx ry _
  cases rx
  cases ry
  exact SeqAt.EqAt.same _
 | odd h =>
  obtain ⟨a,o,ob,h1,h2⟩:=h
  have:=(I.bs a ob (I.ok.mod.kin a ob h2)).2
  rw [h1] at this
  cases this
 | nt hb =>
  intro A u v rx ry hu
  cases rx
  cases ry
  obtain ⟨i2,r2,p2,z2⟩:=I.tuple hb
  exact SeqAt.EqAt.none_tuple p2 (by omega)
 | tn hb =>
  intro A u v rx ry hu
  cases rx
  cases ry
  obtain ⟨i2,r2,p2,z2⟩:=I.tuple hb
  exact SeqAt.EqAt.tuple_none p2 (by omega)
 | @lst n a b xs ys e ha hb hl hne he ih =>
  intro A u v rx ry hu
  cases rx
  cases ry
  obtain ⟨i1,n1,r1,e1,z1⟩:=I.lst ha
  obtain ⟨i2,n2,r2,e2,z2⟩:=I.lst hb
  have l1:=r1.length
  have l2:=r2.length
  rw [show xs.length=i1.toArray.size by simp only [List.size_toArray];omega]
  refine SeqAt.EqAt.of_refs hne (SeqAt.RcAt.lists ⟨_,e1,rfl,n1,rfl⟩ ⟨_,e2,rfl,n2,rfl⟩ (by simp only [List.size_toArray];omega) (by omega) fun j j1 j2=>?_)
  obtain ⟨x1,q1,w1⟩:=ygi r1 j1
  obtain ⟨y1,q2,w2⟩:=ygi r2 j2
  exact ih j x1 y1 q1 q2 w1 w2 (by show A.units+1+n<cLine;omega)
 | @lstN n a b xs ys ha hb hl =>
  intro A u v rx ry hu
  cases rx
  cases ry
  obtain ⟨i1,n1,r1,e1,z1⟩:=I.lst ha
  obtain ⟨i2,n2,r2,e2,z2⟩:=I.lst hb
  have l1:=r1.length
  have l2:=r2.length
  have hne:a≠b:=fun z=>by subst z;rw [ha] at hb;cases hb;exact hl rfl
  exact SeqAt.EqAt.of_refs hne (SeqAt.RcAt.lists_lengths ⟨_,e1,rfl,n1,rfl⟩ ⟨_,e2,rfl,n2,rfl⟩ (by simp only [List.size_toArray,bne_iff_ne];omega) (by omega))
 | @tup n a b xs ys e ha hb hne he ih =>
  intro A u v rx ry hu
  cases rx
  cases ry
  obtain ⟨i1,r1,p1,z1⟩:=I.tuple ha
  obtain ⟨i2,r2,p2,z2⟩:=I.tuple hb
  have l1:=r1.length
  have l2:=r2.length
  rw [show xs.length=i1.toArray.size by simp only [List.size_toArray];omega,show ys.length=i2.toArray.size by simp only [List.size_toArray];omega]
  refine SeqAt.EqAt.of_refs hne (SeqAt.RcAt.tuples p1 p2 (by omega) fun j j1 j2=>?_)
  obtain ⟨x1,q1,w1⟩:=ygi r1 j1
  obtain ⟨y1,q2,w2⟩:=ygi r2 j2
  exact ih j x1 y1 q1 q2 w1 w2 (by show A.units+1+n<cLine;omega)
theorem yzb (hu:X.A.units+60<cLine):OpR X (compareOp .Eq) (yLv X.K):=by
 intro pins s σ H x y v u Q I rx ry h
 obtain ⟨b,hb,q⟩:=h
 cases hb with
 | nt hb =>
  cases rx
  cases ry
  obtain ⟨i2,r2,p2,z2⟩:=I.tuple hb
  exact SeqAt.RcAt.none_tuple p2 (by omega) _ _ _ _ ⟨.bl _,H,I,rfl,q⟩
 | tn hb =>
  cases rx
  cases ry
  obtain ⟨i2,r2,p2,z2⟩:=I.tuple hb
  exact SeqAt.RcAt.tuple_none p2 (by omega) _ _ _ _ ⟨.bl _,H,I,rfl,q⟩
 | @lst a b xs ys e ha hb hl he =>
  cases rx
  cases ry
  obtain ⟨i1,n1,r1,e1,z1⟩:=I.lst ha
  obtain ⟨i2,n2,r2,e2,z2⟩:=I.lst hb
  have l1:=r1.length
  have l2:=r2.length
  rw [show xs.length=i1.toArray.size by simp only [List.size_toArray];omega] at q
  refine SeqAt.RcAt.lists ⟨_,e1,rfl,n1,rfl⟩ ⟨_,e2,rfl,n2,rfl⟩ (by simp only [List.size_toArray];omega) (by omega) (fun j j1 j2=>?_) _ _ _ _ ⟨.bl _,H,I,rfl,q⟩
  obtain ⟨x1,q1,w1⟩:=ygi r1 j1
  obtain ⟨y1,q2,w2⟩:=ygi r2 j2
  exact yvU I (he j x1 y1 q1 q2) w1 w2 (by show X.A.units+1+40<cLine;omega)
 | @lstN a b xs ys ha hb hl =>
  cases rx
  cases ry
  obtain ⟨i1,n1,r1,e1,z1⟩:=I.lst ha
  obtain ⟨i2,n2,r2,e2,z2⟩:=I.lst hb
  have l1:=r1.length
  have l2:=r2.length
  exact SeqAt.RcAt.lists_lengths ⟨_,e1,rfl,n1,rfl⟩ ⟨_,e2,rfl,n2,rfl⟩ (by simp only [List.size_toArray,bne_iff_ne];omega) (by omega) _ _ _ _ ⟨.bl _,H,I,rfl,q⟩
 | @tup a b xs ys e ha hb he =>
  cases rx
  cases ry
  obtain ⟨i1,r1,p1,z1⟩:=I.tuple ha
  obtain ⟨i2,r2,p2,z2⟩:=I.tuple hb
  have l1:=r1.length
  have l2:=r2.length
  rw [show xs.length=i1.toArray.size by simp only [List.size_toArray];omega,show ys.length=i2.toArray.size by simp only [List.size_toArray];omega] at q
  refine SeqAt.RcAt.tuples p1 p2 (by omega) (fun j j1 j2=>?_) _ _ _ _ ⟨.bl _,H,I,rfl,q⟩
  obtain ⟨x1,q1,w1⟩:=ygi r1 j1
  obtain ⟨y1,q2,w2⟩:=ygi r2 j2
  exact yvU I (he j x1 y1 q1 q2) w1 w2 (by show X.A.units+1+40<cLine;omega)
theorem yDk (hu:X.A.units+60<cLine):OpR X (compareOp .NotEq) (yLw X.K):=by
 intro pins s σ H x y v u Q I rx ry h
 obtain ⟨b,hb,q⟩:=h
 cases hb with
 | nt hb =>
  cases rx
  cases ry
  obtain ⟨i2,r2,p2,z2⟩:=I.tuple hb
  exact SeqAt.RcNeAt.none_tuple p2 (by omega) _ _ _ _ ⟨.bl _,H,I,rfl,q⟩
 | tn hb =>
  cases rx
  cases ry
  obtain ⟨i2,r2,p2,z2⟩:=I.tuple hb
  exact SeqAt.RcNeAt.tuple_none p2 (by omega) _ _ _ _ ⟨.bl _,H,I,rfl,q⟩
 | @lst a b xs ys e ha hb hl he =>
  cases rx
  cases ry
  obtain ⟨i1,n1,r1,e1,z1⟩:=I.lst ha
  obtain ⟨i2,n2,r2,e2,z2⟩:=I.lst hb
  have l1:=r1.length
  have l2:=r2.length
  rw [show xs.length=i1.toArray.size by simp only [List.size_toArray];omega] at q
  refine SeqAt.RcNeAt.lists ⟨_,e1,rfl,n1,rfl⟩ ⟨_,e2,rfl,n2,rfl⟩ (by simp only [List.size_toArray];omega) (by omega) (fun j j1 j2=>?_) _ _ _ _ ⟨.bl _,H,I,rfl,q⟩
  obtain ⟨x1,q1,w1⟩:=ygi r1 j1
  obtain ⟨y1,q2,w2⟩:=ygi r2 j2
  exact yvU I (he j x1 y1 q1 q2) w1 w2 (by show X.A.units+1+40<cLine;omega)
 | @lstN a b xs ys ha hb hl =>
  cases rx
  cases ry
  obtain ⟨i1,n1,r1,e1,z1⟩:=I.lst ha
  obtain ⟨i2,n2,r2,e2,z2⟩:=I.lst hb
  have l1:=r1.length
  have l2:=r2.length
  exact SeqAt.RcNeAt.lists_lengths ⟨_,e1,rfl,n1,rfl⟩ ⟨_,e2,rfl,n2,rfl⟩ (by simp only [List.size_toArray,bne_iff_ne];omega) (by omega) _ _ _ _ ⟨.bl _,H,I,rfl,q⟩
 | @tup a b xs ys e ha hb he =>
  cases rx
  cases ry
  obtain ⟨i1,r1,p1,z1⟩:=I.tuple ha
  obtain ⟨i2,r2,p2,z2⟩:=I.tuple hb
  have l1:=r1.length
  have l2:=r2.length
  rw [show xs.length=i1.toArray.size by simp only [List.size_toArray];omega,show ys.length=i2.toArray.size by simp only [List.size_toArray];omega] at q
  refine SeqAt.RcNeAt.tuples p1 p2 (by omega) (fun j j1 j2=>?_) _ _ _ _ ⟨.bl _,H,I,rfl,q⟩
  obtain ⟨x1,q1,w1⟩:=ygi r1 j1
  obtain ⟨y1,q2,w2⟩:=ygi r2 j2
  exact yvU I (he j x1 y1 q1 q2) w1 w2 (by show X.A.units+1+40<cLine;omega)
theorem ysD {k:Nat}{A:Around}(r:Room k A):A.units+60<cLine:=by have:=r.un;omega
end
end PX
namespace PX
open PySem L2 PySem.Spec PyProof.Rows
section
variable {X:Cx}{A:Nat->Addr}{o e:Expr}{es:List Expr}{xa xb:XE}{aa:XA}{pos apos pos':Pos}{m f:Str}{n k kc:Nat}{pl:Sem Bool}{p:Fn}{fa:Addr}{fd:FuncData}{ps:List Str}
theorem yU (ho:ZE X A o xa) (c:Cls X.K (A kc)) (hm:ykI X.K (A kc) m fa) (F:FnOk X.prog X.w X.K X.mg X.base CX0 k fa fd ps (spE (ckX X A) (n+1) p)) (hr:Room k X.A) (hb:Binds X.K fd ps []) (ha:ZA X A (e::es) n aa)
  (hst:starEach (e::es) X.env=(false,eval e X.env)::starEach es X.env) (hpl:(backTo pos (starEach es X.env)).any (·.1)=false)
  (ht:eval (.Call (.Attribute o m apos) (e::es) [] pos) X.env=(do
   let ov <- eval o X.env
   standAt apos.atName
   let (f,first) <- holding [ov] (getMethod ov m pl)
   callWith pos f first (backTo pos (starEach (e::es) X.env)) (backToKw pos (keywordEach [] X.env)))) :
  ZE X A (.Call (.Attribute o m apos) (e::es) [] pos) (yO kc m p xa aa):=wE (yEp ho.of c hm F hr hb .nil ywy ha.of hst hpl ht) (ysy (K:=ckX X A) sE sA ha.len)
theorem yjG (ho:ZE X A o xa) (c:Cls X.K (A kc)) (hm:ykI X.K (A kc) m fa) (F:FnOk X.prog X.w X.K X.mg X.base CX0 k fa fd ps (spE (ckX X A) 1 p)) (hr:Room k X.A) (hb:Binds X.K fd ps [])
  (ht:eval (.Call (.Attribute o m apos) [] [] pos) X.env=(do
   let ov <- eval o X.env
   standAt apos.atName
   let (f,first) <- holding [ov] (getMethod ov m pl)
   callWith pos f first (backTo pos (starEach [] X.env)) (backToKw pos (keywordEach [] X.env)))) :
  ZE X A (.Call (.Attribute o m apos) [] [] pos) (yO kc m p xa yr):=wE (yAF ho.of c hm F hr hb .nil ywy ht) (ysy (K:=ckX X A) (n:=0) sE ynN yuk)
theorem yFK {cs:List Nat}{value:Expr}(hc:∀ k∈cs,Cls X.K (A k)/\NoAttr X.K (A k) f) (ho:ZE X A o xa) (hv:ZE X A value xb) (hs:swapsWith value (some (.Attribute o f pos')) pos.line X.env=pure false) :
  ZS X A (.Assign [.Attribute o f pos'] value pos) (yyL cs f xa xb):=wS (yCD ho.of hv.of hs) (yBF (K:=ckX X A) hc sE sE)
end
end PX
namespace KasS
open PySem PySem.W PyProof.Rows
def run {α:Type}(lt:Nat->Nat->Bool):KasT α->α
 | .ret a=>a
 | .ask i j k=>run lt (k (lt i j))
theorem yjH {α β:Type}(lt:Nat->Nat->Bool) (f:α->KasT β):∀ t:KasT α,run lt (t.bind f)=run lt (f (run lt t))
 | .ret _=>rfl
 | .ask i j k=>yjH lt f (k (lt i j))
section
variable (key:Nat->Int)
def ltK (i j:Nat):Bool:=decide (key i<key j)
def Kp (p:Array Nat) (i:Nat):Int:=key (p[i]?.getD 0)
def Up (p:Array Nat) (k:Nat):Prop:=∀ i j,i<=j->j<k->Kp key p i<=Kp key p j
def Dn (p:Array Nat) (k:Nat):Prop:=∀ i j,i<=j->j<k->Kp key p j<=Kp key p i
variable {key}
theorem yod (p:Array Nat) (i:Nat):p.getD i 0=p[i]?.getD 0:=by simp [Array.getD_eq_getD_getElem?]
theorem yzc (p:Array Nat) (i j:Nat):ltK key (p.getD i 0) (p.getD j 0)=decide (Kp key p i<Kp key p j):=by rw [yod,yod];rfl
theorem Up.succ {p:Array Nat}{n:Nat}(h:Up key p n) (h1:1<=n) (hn:Kp key p (n-1)<=Kp key p n):Up key p (n+1):=fun i j hij hj=>by
 by_cases e:j=n
 .subst e
  by_cases e2:i=j
  .subst e2;exact Int.le_refl _
  .exact Int.le_trans (h i (j-1) (by omega) (by omega)) hn
 .exact h i j hij (by omega)
theorem Dn.succ {p:Array Nat}{n:Nat}(h:Dn key p n) (h1:1<=n) (hn:Kp key p n<=Kp key p (n-1)):Dn key p (n+1):=fun i j hij hj=>by
 by_cases e:j=n
 .subst e
  by_cases e2:i=j
  .subst e2;exact Int.le_refl _
  .exact Int.le_trans hn (h i (j-1) (by omega) (by omega))
 .exact h i j hij (by omega)
theorem yzd (p:Array Nat):∀ (f n:Nat),1<=n->Up key p n->n<=run (ltK key) (kas_asc p f n)/\run (ltK key) (kas_asc p f n)<=n+f/\Up key p (run (ltK key) (kas_asc p f n))/\(run (ltK key) (kas_asc p f n)<n+f->Kp key p (run (ltK key) (kas_asc p f n))<Kp key p (run (ltK key) (kas_asc p f n)-1))
 | 0,n,_,h=>⟨Nat.le_refl _,Nat.le_refl _,h,fun z=>by exact absurd z (Nat.lt_irrefl _)⟩
 | f+1,n,h1,h=>by
  have e:run (ltK key) (kas_asc p (f+1) n)=run (ltK key) (if ltK key (p.getD n 0) (p.getD (n-1) 0)=true then .ret n else kas_asc p f (n+1)):=rfl
  rw [e,yzc]
  by_cases hc:Kp key p n<Kp key p (n-1)
  .rw [decide_eq_true hc,if_pos rfl]
   exact ⟨Nat.le_refl _,by show n<=n+(f+1);omega,h,fun _=>hc⟩
  .rw [decide_eq_false hc,if_neg (by simp)]
   obtain ⟨a,b,c,d⟩:=yzd p f (n+1) (by omega) (h.succ h1 (by omega))
   exact ⟨by omega,by omega,c,fun z=>d (by omega)⟩
theorem yze {p:Array Nat}{i j:Nat}(hj:j<=p.size) (k:Nat):Kp key (kas_rev p i j) k=if i<=k/\k<j then Kp key p (i+j-1-k) else Kp key p k:=by
 unfold Kp kas_rev
 rw [getElem?_mirror_all hj]
 split<;>rfl
theorem yif (p:Array Nat) (i j:Nat):(kas_rev p i j).size=p.size:=mirror_size _ _ _ _
theorem ygt (p:Array Nat) (i j:Nat):(kas_rev p i j).Perm p:=mirror_perm _ _ _ _
theorem yoe {p:Array Nat}{i j:Nat}(hj:j<=p.size) (he:∀ k,i<=k->k<j->Kp key p k=Kp key p (j-1)) (k:Nat):Kp key (kas_rev p i j) k=Kp key p k:=by
 rw [yze hj]
 split
 .rename_i h
  rw [he (i+j-1-k) (by omega) (by omega),he k h.1 h.2]
 .rfl
theorem yqE:∀ (f:Nat) (p:Array Nat) (n q:Nat),n+f<=p.size->q+1<=n->Dn key p n->(∀ k,n-(q+1)<=k->k<n->Kp key p k=Kp key p (n-1)) ->
  let r:=run (ltK key) (kas_desc f p n q)
  r.1.Perm p/\r.1.size=p.size/\n<=r.2.1/\r.2.1<=n+f/\r.2.2+1<=r.2.1/\Dn key r.1 r.2.1/\(∀ k,r.2.1-(r.2.2+1)<=k->k<r.2.1->Kp key r.1 k=Kp key r.1 (r.2.1-1))
 | 0,p,n,q,hs,hq,hd,he=>⟨Array.Perm.refl _,rfl,Nat.le_refl _,Nat.le_refl _,hq,hd,he⟩
 | f+1,p,n,q,hs,hq,hd,he=>by
  intro r
  have e:r=run (ltK key) (if ltK key (p.getD n 0) (p.getD (n-1) 0)=true then (if q>0 then kas_desc f (kas_rev p (n-(q+1)) n) (n+1) 0 else kas_desc f p (n+1) 0)
   else .ask (p.getD (n-1) 0) (p.getD n 0) fun d=>if d=true then .ret (p,n,q) else kas_desc f p (n+1) (q+1)):=rfl
  rw [yzc] at e
  by_cases hc:Kp key p n<Kp key p (n-1)
  .rw [decide_eq_true hc,if_pos rfl] at e
   by_cases h0:q>0
   .rw [if_pos h0] at e
    have kk:∀ k,Kp key (kas_rev p (n-(q+1)) n) k=Kp key p k:=fun k=>yoe (by omega) he k
    have hd':Dn key (kas_rev p (n-(q+1)) n) (n+1):=fun i j hij hj=>by
     rw [kk,kk]
     exact hd.succ (by omega) (by omega) i j hij hj
    obtain ⟨a1,a2,a3,a4,a5,a6,a7⟩:=yqE f (kas_rev p (n-(q+1)) n) (n+1) 0 (by rw [yif];omega) (by omega) hd' (fun k h1 h2=>by rw [show k=n+1-1 by omega])
    rw [e]
    exact ⟨a1.trans (ygt _ _ _),a2.trans (yif _ _ _),by omega,by omega,a5,a6,a7⟩
   .rw [if_neg h0] at e
    obtain ⟨a1,a2,a3,a4,a5,a6,a7⟩:=yqE f p (n+1) 0 (by omega) (by omega) (hd.succ (by omega) (by omega)) (fun k h1 h2=>by rw [show k=n+1-1 by omega])
    rw [e]
    exact ⟨a1,a2,by omega,by omega,a5,a6,a7⟩
  .rw [decide_eq_false hc,if_neg (by simp)] at e
   have e:r=run (ltK key) (if ltK key (p.getD (n-1) 0) (p.getD n 0)=true then .ret (p,n,q) else kas_desc f p (n+1) (q+1)):=e
   rw [yzc] at e
   by_cases hc2:Kp key p (n-1)<Kp key p n
   .rw [decide_eq_true hc2,if_pos rfl] at e
    rw [e]
    exact ⟨Array.Perm.refl _,rfl,Nat.le_refl _,by show n<=n+(f+1);omega,hq,hd,he⟩
   .rw [decide_eq_false hc2,if_neg (by simp)] at e
    have heq:Kp key p n=Kp key p (n-1):=by omega
    obtain ⟨a1,a2,a3,a4,a5,a6,a7⟩:=yqE f p (n+1) (q+1) (by omega) (by omega) (hd.succ (by omega) (by omega)) (fun k h1 h2=>by
     by_cases hk:k=n
     .rw [hk];rfl
     .rw [he k (by omega) (by omega),show n+1-1=n by omega,heq])
    rw [e]
    exact ⟨a1,a2,by omega,by omega,a5,a6,a7⟩
theorem Dn.rev {p:Array Nat}{n:Nat}(hn:n<=p.size) (h:Dn key p n):Up key (kas_rev p 0 n) n:=fun i j hij hj=>by
 rw [yze hn,yze hn,if_pos ⟨by omega,by omega⟩,if_pos ⟨by omega,by omega⟩]
 exact h _ _ (by omega) (by omega)
theorem yvV {p:Array Nat}{n nrem:Nat}(h1:1<=n) (hn:n<=nrem) (hs:nrem<=p.size) (h:Dn key p n) :
  let r:=run (ltK key) (kas_tail3 n nrem p)
  r.2.Perm p/\r.2.size=p.size/\1<=r.1/\r.1<=nrem/\Up key r.2 r.1:=by
 intro r
 have e:r=(run (ltK key) (kas_asc (kas_rev p 0 n) (nrem-n) n),kas_rev p 0 n):=by show run _ (KasT.bind _ _)=_;rw [yjH];rfl
 obtain ⟨a,b,c,_⟩:=yzd (kas_rev p 0 n) (nrem-n) n h1 (h.rev (by omega))
 rw [e]
 exact ⟨ygt _ _ _,yif _ _ _,by omega,by omega,c⟩
theorem yof {p:Array Nat}{n nrem:Nat}(h1:1<=n) (hn:n<nrem) (hs:nrem<=p.size) (h:Dn key p (n+1)) :
  let r:=run (ltK key) (kas_descPart n nrem p)
  r.2.Perm p/\r.2.size=p.size/\1<=r.1/\r.1<=nrem/\Up key r.2 r.1:=by
 intro r
 obtain ⟨a1,a2,a3,a4,a5,a6,a7⟩:=yqE (key:=key) (nrem-(n+1)) p (n+1) 0 (by omega) (by omega) h (fun k h1 h2=>by rw [show k=n+1-1 by omega])
 generalize hd:run (ltK key) (kas_desc (nrem-(n+1)) p (n+1) 0)=d at *
 have e:r=run (ltK key) (if d.2.2>0 then kas_tail3 d.2.1 nrem (kas_rev d.1 (d.2.1-(d.2.2+1)) d.2.1) else kas_tail3 d.2.1 nrem d.1):=by show run _ (KasT.bind _ _)=_;rw [yjH,hd]
 by_cases h0:d.2.2>0
 .rw [if_pos h0] at e
  have kk:∀ k,Kp key (kas_rev d.1 (d.2.1-(d.2.2+1)) d.2.1) k=Kp key d.1 k:=fun k=>yoe (by omega) a7 k
  obtain ⟨b1,b2,b3,b4,b5⟩:=yvV (key:=key) (p:=kas_rev d.1 (d.2.1-(d.2.2+1)) d.2.1) (n:=d.2.1) (nrem:=nrem) (by omega) (by omega) (by rw [yif];omega) (fun i j hij hj=>by rw [kk,kk];exact a6 i j hij hj)
  rw [e]
  exact ⟨b1.trans ((ygt _ _ _).trans a1),b2.trans ((yif _ _ _).trans a2),b3,b4,b5⟩
 .rw [if_neg h0] at e
  obtain ⟨b1,b2,b3,b4,b5⟩:=yvV (key:=key) (p:=d.1) (n:=d.2.1) (nrem:=nrem) (by omega) (by omega) (by omega) a6
  rw [e]
  exact ⟨b1.trans a1,b2.trans a2,b3,b4,b5⟩
theorem yvW {p:Array Nat}{nrem:Nat}(h1:1<=nrem) (hs:nrem<=p.size) :
  let r:=run (ltK key) (kas_count nrem p)
  r.2.Perm p/\r.2.size=p.size/\1<=r.1/\r.1<=nrem/\Up key r.2 r.1:=by
 intro r
 obtain ⟨a,b,c,d⟩:=yzd (key:=key) p (nrem-1) 1 (Nat.le_refl _) (fun i j hij hj=>by rw [show i=j by omega];exact Int.le_refl _)
 generalize hn:run (ltK key) (kas_asc p (nrem-1) 1)=n at *
 have e:r=run (ltK key) (if (n == nrem)=true then .ret (n,p) else if n>1 then .ask (p.getD 0 0) (p.getD (n-1) 0) fun c=>if c=true then .ret (n,p) else kas_descPart n nrem (kas_rev p 0 n)
  else kas_descPart n nrem p):=by show run _ (KasT.bind _ _)=_;rw [yjH,hn]
 by_cases e1:n=nrem
 .rw [if_pos (by simp [e1])] at e
  rw [e]
  exact ⟨Array.Perm.refl _,rfl,a,by show n<=nrem;omega,c⟩
 .rw [if_neg (by simp [e1])] at e
  have dn:=d (by omega)
  by_cases h2:n>1
  .rw [if_pos h2] at e
   have e:r=run (ltK key) (if ltK key (p.getD 0 0) (p.getD (n-1) 0)=true then .ret (n,p) else kas_descPart n nrem (kas_rev p 0 n)):=e
   rw [yzc] at e
   by_cases hc:Kp key p 0<Kp key p (n-1)
   .rw [decide_eq_true hc,if_pos rfl] at e
    rw [e]
    exact ⟨Array.Perm.refl _,rfl,a,by show n<=nrem;omega,c⟩
   .rw [decide_eq_false hc,if_neg (by simp)] at e
    have eqs:∀ k,0<=k->k<n->Kp key p k=Kp key p (n-1):=fun k _ hk=>by
     have u1:=c 0 k (by omega) hk
     have u2:=c k (n-1) (by omega) (by omega)
     omega
    have kk:∀ k,Kp key (kas_rev p 0 n) k=Kp key p k:=fun k=>yoe (by omega) eqs k
    have hdn:Dn key (kas_rev p 0 n) (n+1):=fun i j hij hj=>by
     rw [kk,kk]
     by_cases ej:j=n
     .subst ej
      by_cases ei:i=j
      .rw [ei];exact Int.le_refl _
      .rw [eqs i (by omega) (by omega)];omega
     .rw [eqs i (by omega) (by omega),eqs j (by omega) (by omega)];exact Int.le_refl _
    obtain ⟨b1,b2,b3,b4,b5⟩:=yof (key:=key) (p:=kas_rev p 0 n) (n:=n) (nrem:=nrem) a (by omega) (by rw [yif];omega) hdn
    rw [e]
    exact ⟨b1.trans (ygt _ _ _),b2.trans (yif _ _ _),b3,b4,b5⟩
  .rw [if_neg h2] at e
   have hn1:n=1:=by omega
   subst hn1
   obtain ⟨b1,b2,b3,b4,b5⟩:=yof (key:=key) (p:=p) (n:=1) (nrem:=nrem) (by omega) (by omega) hs (fun i j hij hj=>by
    by_cases e3:i=j
    .rw [e3];exact Int.le_refl _
    .rw [show i=0 by omega,show j=1 by omega]
     exact Int.le_of_lt dn)
   rw [e]
   exact ⟨b1,b2,b3,b4,b5⟩
theorem yqF {p:Array Nat}{k:Nat}(hu:Up key p k):∀ (f l r:Nat),r<=k->l<=r->r-l<=f->(∀ i,i<l->Kp key p i<=Kp key p k)->(∀ i,r<=i->i<k->Kp key p k<Kp key p i) ->
  let m:=run (ltK key) (kas_place p k f l r)
  m<=k/\(∀ i,i<m->Kp key p i<=Kp key p k)/\(∀ i,m<=i->i<k->Kp key p k<Kp key p i)
 | 0,l,r,hr,hl,hf,h1,h2=>by
  have:l=r:=by omega
  subst this
  exact ⟨hr,h1,h2⟩
 | f+1,l,r,hr,hl,hf,h1,h2=>by
  intro m
  have e:m=run (ltK key) (if l>=r then .ret l else .ask (p.getD k 0) (p.getD ((l+r)/2) 0) fun c=>if c=true then kas_place p k f l ((l+r)/2) else kas_place p k f ((l+r)/2+1) r):=rfl
  by_cases hlr:l>=r
  .rw [if_pos hlr] at e
   have:l=r:=by omega
   subst this
   rw [e]
   exact ⟨hr,h1,h2⟩
  .rw [if_neg hlr] at e
   have e:m=run (ltK key) (if ltK key (p.getD k 0) (p.getD ((l+r)/2) 0)=true then kas_place p k f l ((l+r)/2) else kas_place p k f ((l+r)/2+1) r):=e
   rw [yzc] at e
   by_cases hc:Kp key p k<Kp key p ((l+r)/2)
   .rw [decide_eq_true hc,if_pos rfl] at e
    rw [e]
    exact yqF hu f l ((l+r)/2) (by omega) (by omega) (by omega) h1 (fun i h3 h4=>by have:=hu ((l+r)/2) i h3 h4;omega)
   .rw [decide_eq_false hc,if_neg (by simp)] at e
    rw [e]
    exact yqF hu f ((l+r)/2+1) r hr (by omega) (by omega) (fun i h3=>by have:=hu i ((l+r)/2) (by omega) (by omega);omega) h2
theorem yzf {p:Array Nat}{src d:Nat}(hs:src<p.size) (hd:d<=src) (k:Nat):Kp key (bubble p src d) k=if k=src-d then Kp key p src else if src-d<k/\k<=src then Kp key p (k-1) else Kp key p k:=by
 unfold Kp
 rw [getElem?_bubble hs d hd]
 repeat' split
 all_goals rfl
theorem yDl:∀ (f:Nat) (p:Array Nat) (k:Nat),k+f<=p.size->Up key p k->(run (ltK key) (kas_bin f p k)).Perm p/\Up key (run (ltK key) (kas_bin f p k)) (k+f)
 | 0,p,k,_,h=>⟨Array.Perm.refl _,h⟩
 | f+1,p,k,hs,h=>by
  obtain ⟨a1,a2,a3⟩:=yqF (key:=key) h k 0 k (Nat.le_refl _) (by omega) (by omega) (fun i hi=>by omega) (fun i h1 h2=>by omega)
  generalize hl:run (ltK key) (kas_place p k k 0 k)=l at *
  have e:run (ltK key) (kas_bin (f+1) p k)=run (ltK key) (kas_bin f (bubble p k (k-l)) (k+1)):=by show run _ (KasT.bind _ _)=_;rw [yjH,hl]
  have hk:∀ i,Kp key (bubble p k (k-l)) i=if i=l then Kp key p k else if l<i/\i<=k then Kp key p (i-1) else Kp key p i:=fun i=>by
   rw [yzf (by omega) (by omega),show k-(k-l)=l by omega]
  have hu:Up key (bubble p k (k-l)) (k+1):=fun i j hij hj=>by
   rw [hk,hk]
   by_cases i1:i=l
   .rw [if_pos i1]
    by_cases j1:j=l
    .rw [if_pos j1];exact Int.le_refl _
    .rw [if_neg j1,if_pos ⟨by omega,by omega⟩]
     have:=a3 (j-1) (by omega) (by omega);omega
   .rw [if_neg i1]
    by_cases i2:l<i/\i<=k
    .rw [if_pos i2,if_neg (by omega),if_pos ⟨by omega,by omega⟩]
     exact h _ _ (by omega) (by omega)
    .rw [if_neg i2]
     have il:i<l:=by omega
     by_cases j1:j=l
     .rw [if_pos j1];exact a2 i il
     .rw [if_neg j1]
      split
      .exact h _ _ (by omega) (by omega)
      .exact h _ _ (by omega) (by omega)
  obtain ⟨b1,b2⟩:=yDl f (bubble p k (k-l)) (k+1) (by rw [bubble_size];omega) hu
  rw [e]
  exact ⟨b1.trans (bubble_perm _ _ _),by rw [show k+(f+1)=k+1+f by omega];exact b2⟩
theorem yzg {n:Nat}(h1:1<=n):(run (ltK key) (kas_sort n)).Perm (List.toArray (List.range n))/\Up key (run (ltK key) (kas_sort n)) n:=by
 have hs:(List.toArray (List.range n)).size=n:=by simp
 obtain ⟨a1,a2,a3,a4,a5⟩:=yvW (key:=key) (p:=List.toArray (List.range n)) (nrem:=n) h1 (by omega)
 generalize hr:run (ltK key) (kas_count n (List.toArray (List.range n)))=r at *
 have e:run (ltK key) (kas_sort n)=run (ltK key) (if r.1<n then kas_bin (n-max r.1 1) r.2 (max r.1 1) else .ret r.2):=by show run _ (KasT.bind _ _)=_;rw [yjH,hr]
 by_cases h:r.1<n
 .rw [if_pos h] at e
  obtain ⟨b1,b2⟩:=yDl (key:=key) (n-max r.1 1) r.2 (max r.1 1) (by omega) (by rw [Nat.max_eq_left a3];exact a5)
  rw [e]
  exact ⟨b1.trans a1,by rw [show max r.1 1+(n-max r.1 1)=n by omega] at b2;exact b2⟩
 .rw [if_neg h] at e
  rw [e]
  exact ⟨a1,by rw [show n=r.1 by omega];exact a5⟩
noncomputable def AskIn {α:Type}(P:Nat->Prop) (lt:Nat->Nat->Bool):KasT α->Prop
 | .ret _=>True
 | .ask i j k=>P i/\P j/\AskIn P lt (k (lt i j))
theorem AskIn.bind {α β:Type}{P:Nat->Prop}{lt:Nat->Nat->Bool}{f:α->KasT β}:∀ {t:KasT α},AskIn P lt t->AskIn P lt (f (run lt t))->AskIn P lt (t.bind f)
 | .ret _,_,h=>h
 | .ask _ _ _,⟨a,b,c⟩,h=>⟨a,b,AskIn.bind c h⟩
theorem yIm {α:Type}{P:Nat->Prop}{lt:Nat->Nat->Bool}{cmp:Nat->Nat->(Bool->Shared->Prop)->Shared->Prop}{s:Shared}(hc:∀ i j C,P i->P j->C (lt i j) s->cmp i j C s) {Q:α->Shared->Prop} :
  ∀ (t:KasT α),AskIn P lt t->Q (run lt t) s->t.kasWp cmp Q s
 | .ret _,_,h=>h
 | .ask i j k,⟨a,b,c⟩,h=>hc i j _ a b (yIm hc (k (lt i j)) c h)
section
variable {P:Nat->Prop}{lt:Nat->Nat->Bool}
def All (P:Nat->Prop) (p:Array Nat):Prop:=∀ i,P (p.getD i 0)
theorem All.of_perm {p q:Array Nat}(h0:P 0) (h:All P p) (e:q.Perm p):All P q:=fun i=>by
 rw [yod]
 by_cases hi:i<q.size
 .rw [Array.getElem?_eq_getElem hi]
  show P q[i]
  have hm:q[i]∈p:=(e.mem_iff).mp (Array.getElem_mem hi)
  obtain ⟨j,hj,e2⟩:=Array.getElem_of_mem hm
  have:=h j
  rw [yod,Array.getElem?_eq_getElem hj] at this
  rw [<- e2];exact this
 .rw [Array.getElem?_eq_none (by omega)];exact h0
theorem yzh {p:Array Nat}(h:All P p):∀ (f n:Nat),AskIn P lt (kas_asc p f n)
 | 0,_=>trivial
 | f+1,n=>⟨h _,h _,by show AskIn P lt (if _ then _ else _);split;trivial;exact yzh h f (n+1)⟩
theorem yqG (h0:P 0):∀ (f:Nat) (p:Array Nat) (n q:Nat),All P p->AskIn P lt (kas_desc f p n q)
 | 0,_,_,_,_=>trivial
 | f+1,p,n,q,h=>by
  refine ⟨h _,h _,?_⟩
  show AskIn P lt (if _ then _ else _)
  split
  .split
   .exact yqG h0 f _ _ _ (h.of_perm h0 (ygt _ _ _))
   .exact yqG h0 f _ _ _ h
  .refine ⟨h _,h _,?_⟩
   show AskIn P lt (if _ then _ else _)
   split
   .trivial
   .exact yqG h0 f _ _ _ h
theorem ykT:∀ (f:Nat) (p:Array Nat) (n q:Nat),(run lt (kas_desc f p n q)).1.Perm p
 | 0,_,_,_=>Array.Perm.refl _
 | f+1,p,n,q=>by
  show (run lt (if lt (p.getD n 0) (p.getD (n-1) 0)=true then (if q>0 then kas_desc f (kas_rev p (n-(q+1)) n) (n+1) 0 else kas_desc f p (n+1) 0)
   else .ask (p.getD (n-1) 0) (p.getD n 0) fun d=>if d=true then .ret (p,n,q) else kas_desc f p (n+1) (q+1))).1.Perm p
  split
  .split
   .exact (ykT f _ _ _).trans (ygt _ _ _)
   .exact ykT f _ _ _
  .show (run lt (if lt (p.getD (n-1) 0) (p.getD n 0)=true then .ret (p,n,q) else kas_desc f p (n+1) (q+1))).1.Perm p
   split
   .exact Array.Perm.refl _
   .exact ykT f _ _ _
theorem yvX (h0:P 0) {p:Array Nat}(h:All P p) (n nrem:Nat):AskIn P lt (kas_tail3 n nrem p):=AskIn.bind (yzh (h.of_perm h0 (ygt _ _ _)) _ _) trivial
theorem yog (h0:P 0) {p:Array Nat}(h:All P p) (n nrem:Nat):AskIn P lt (kas_descPart n nrem p):=by
 refine AskIn.bind (yqG h0 _ _ _ _ h) ?_
 have:=h.of_perm h0 (ykT (lt:=lt) (nrem-(n+1)) p (n+1) 0)
 split
 .exact yvX h0 (this.of_perm h0 (ygt _ _ _)) _ _
 .exact yvX h0 this _ _
theorem yBP (h0:P 0) {p:Array Nat}(h:All P p) (nrem:Nat):AskIn P lt (kas_count nrem p):=by
 refine AskIn.bind (yzh h _ _) ?_
 split
 .trivial
 .split
  .refine ⟨h _,h _,?_⟩
   show AskIn P lt (if _ then _ else _)
   split
   .trivial
   .exact yog h0 (h.of_perm h0 (ygt _ _ _)) _ _
  .exact yog h0 h _ _
theorem yqH {p:Array Nat}(h:All P p) (k:Nat):∀ (f l r:Nat),AskIn P lt (kas_place p k f l r)
 | 0,_,_=>trivial
 | f+1,l,r=>by
  show AskIn P lt (if _ then _ else _)
  split
  .trivial
  .refine ⟨h _,h _,?_⟩
   show AskIn P lt (if _ then _ else _)
   split
   .exact yqH h k f _ _
   .exact yqH h k f _ _
theorem yDm (h0:P 0):∀ (f:Nat) (p:Array Nat) (k:Nat),All P p->AskIn P lt (kas_bin f p k)
 | 0,_,_,_=>trivial
 | f+1,p,k,h=>AskIn.bind (yqH h k _ _ _) (yDm h0 f _ _ (h.of_perm h0 (bubble_perm _ _ _)))
end
theorem yFL {n:Nat}(h1:1<=n):AskIn (· < n) (ltK key) (kas_sort n):=by
 have h:All (· < n) (List.toArray (List.range n)):=fun i=>by
  rw [yod]
  by_cases hi:i<n
  .simp [hi]
  .simp [hi];omega
 refine AskIn.bind (yBP (by omega) h n) ?_
 obtain ⟨a1,_⟩:=yvW (key:=key) (p:=List.toArray (List.range n)) (nrem:=n) h1 (by simp)
 split
 .exact yDm (by omega) _ _ _ (h.of_perm (by omega) a1)
 .trivial
end
end KasS
namespace KasS
open PySem PySem.W PyProof.Rows PySem.Calls
noncomputable def Tps (h:Heap):List Value->List (Int×Tok×Value)->Prop
 | [],[]=>True
 | v::vs,p::ps=>(∃ b o m,v=.ref b/\h.get? b=some o/\o.cls=.type "tuple"/\o.data=.seq #[.int p.1 p.2.1,p.2.2] m)/\Tps h vs ps
 | _,_=>False
theorem Tps.len {h:Heap}:∀ {vs:List Value}{ps:List (Int×Tok×Value)},Tps h vs ps->ps.length=vs.length
 | [],[],_=>rfl
 | _::_,_::_,⟨_,t⟩=>by rw [List.length_cons,List.length_cons,Tps.len t]
 | [],_::_,t=>t.elim
 | _::_,[],t=>t.elim
theorem Tps.get {h:Heap}:∀ {vs:List Value}{ps:List (Int×Tok×Value)},Tps h vs ps->∀ i,i<vs.length->∃ p b o m,ps[i]?=some p/\vs.getD i .none=.ref b/\h.get? b=some o/\o.cls=.type "tuple"/\o.data=.seq #[.int p.1 p.2.1,p.2.2] m
 | _::_,p::_,⟨⟨b,o,m,e1,e2,e3,e4⟩,_⟩,0,_=>⟨p,b,o,m,rfl,by rw [e1];rfl,e2,e3,e4⟩
 | _::vs,_::ps,⟨_,t⟩,i+1,hi=>by
  obtain ⟨p,b,o,m,e1,e2,e3⟩:=Tps.get t i (by simpa using hi)
  exact ⟨p,b,o,m,by simpa using e1,by simpa using e2,e3⟩
 | [],[],_,_,hi=>by simp at hi
 | [],_::_,t,_,_=>t.elim
 | _::_,[],t,_,_=>t.elim
theorem Tps.mono {h h':Heap}:∀ {vs:List Value}{ps:List (Int×Tok×Value)},Tps h vs ps->(∀ b o,Value.ref b∈vs->h.get? b=some o->h'.get? b=some o)->Tps h' vs ps
 | [],[],_,_=>trivial
 | _::_,_::_,⟨⟨b,o,m,e1,e2,e3⟩,t⟩,k=>⟨⟨b,o,m,e1,k b o (by rw [e1];exact List.mem_cons_self) e2,e3⟩,Tps.mono t fun b o hb=>k b o (List.mem_cons_of_mem _ hb)⟩
 | [],_::_,t,_=>t.elim
 | _::_,[],t,_=>t.elim
theorem Tps.kat {h:Heap}:∀ {vs:List Value}{ps:List (Int×Tok×Value)},Tps h vs ps->KatTups h vs (ps.map fun p=>Value.int p.1 p.2.1)
 | [],[],_=>trivial
 | _::_,p::_,⟨⟨b,o,m,e1,e2,e3,e4⟩,t⟩=>⟨⟨b,o,_,m,e1,e2,e3,e4,rfl⟩,Tps.kat t⟩
 | [],_::_,t=>t.elim
 | _::_,[],t=>t.elim
def yke (ps:List (Int×Tok×Value)) (i:Nat):Int:=((ps[i]?).map (·.1)).getD 0
theorem yzi {ps:List (Int×Tok×Value)}(hn:(ps.map (·.1)).Nodup) {i j:Nat}(hi:i<ps.length) (hj:j<ps.length) (e:yke ps i=yke ps j):i=j:=by
 unfold yke at e
 rw [List.getElem?_eq_getElem hi,List.getElem?_eq_getElem hj] at e
 have e:ps[i].1=ps[j].1:=e
 have h1:i<(ps.map (·.1)).length:=by simpa using hi
 have h2:j<(ps.map (·.1)).length:=by simpa using hj
 exact (List.getElem_inj (h₀:=h1) (h₁:=h2) hn).mp (by simpa using e)
section
variable {prog:Program}{w:World}{A:Around}{E:Value->Shared->Prop}{s:Shared}
theorem yFM {vs:List Value}{ps:List (Int×Tok×Value)}(tp:Tps s.heap vs ps) (hn:(ps.map (·.1)).Nodup) (i j:Nat) (C:Bool->Shared->Prop) (hi:i<vs.length) (hj:j<vs.length) (hC:C (ltK (yke ps) i j) s) :
  kas_ask prog w A (tuples' true) vs i j C s:=by
 obtain ⟨p,b,o,m,e1,e2,e3,e4,e5⟩:=tp.get i hi
 obtain ⟨p',b',o',m',f1,f2,f3,f4,f5⟩:=tp.get j hj
 have k1:yke ps i=p.1:=by unfold yke;rw [e1];rfl
 have k2:yke ps j=p'.1:=by unfold yke;rw [f1];rfl
 unfold ltK at hC
 rw [k1,k2] at hC
 unfold kas_ask
 rw [e2,f2]
 refine kat_lt e3 e5 f3 f5 ?_
 show KatLex prog w A true (decide (2<2)) C [(Value.int p.1 p.2.1,Value.int p'.1 p'.2.1),(p.2.2,p'.2.2)] 0 s
 refine kat_cons (L2.eqAt_V (y:=.int p.1) (x:=.int p'.1) ⟨_,rfl⟩ ⟨_,rfl⟩ rfl rfl prog w _ _ ?_)
 show KatGo prog w A true _ C _ _ _ 0 (p.1 == p'.1) s
 by_cases e:p.1=p'.1
 .rw [beq_iff_eq.mpr e]
  have hij:i=j:=yzi hn (by rw [tp.len];exact hi) (by rw [tp.len];exact hj) (by rw [k1,k2,e])
  subst hij
  rw [e1] at f1
  cases f1
  refine kat_yes (kat_cons (SeqAt.EqAt.same _ prog w _ _ (kat_yes (kat_nil ?_))))
  rw [decide_eq_false (by omega)] at hC
  exact hC
 .rw [beq_eq_false_iff_ne.mpr e]
  exact kat_no (oneLt_int hC)
theorem yBQ {a:Addr}{vs:List Value}{ps:List (Int×Tok×Value)}{n:Nat}{P:PySem.Fin->Shared->Prop}(ho:s.heap.get? a=some (seqObj "list" vs.toArray n)) (tp:Tps s.heap vs ps) (na:Value.ref a∉vs) (hn:(ps.map (·.1)).Nodup) (h64:vs.length<64)
  (h:∀ q:Array Nat,q.Perm (List.toArray (List.range vs.length))->Up (yke ps) q vs.length->P (.done (.ret .none)) { s with heap:=sortedHeap s.heap a vs (List.toArray (q.toList.map fun i=>vs.getD i Value.none)) }) :
  wpAny (model prog w) A (Builtin.«list.sort» ⟨[.ref a],[]⟩) P E s:=by
 have ha:a<s.heap.objs.size:=Heap.lt_size ho
 have z64:vs.length<=sizeLine:=by rw [sizeLine_eq];omega
 rw [list_sort_plain]
 obtain ⟨e1,ho1⟩:∃ e1,(s.heap.update a (Obj.mapSeq fun _=>(#[]:Array Value))).get? a=some (seqObj "list" #[] e1):=⟨_,get?_update_seq ho _⟩
 refine wpAny_bind (listItems_at ho rfl (wpAny_bind (listUpdate_at ho rfl (wpAny_bind (seqEpoch_at ho1 rfl (wpAny_bind (wpAny_newTuple (wpAny_bind (wpAny_newList (wpAny_holding ?_) (Nat.zero_le _))) (by simpa using z64))))) (by simpa using z64) (Nat.zero_le _))))
 generalize hH:((s.heap.update a (Obj.mapSeq fun _=>(#[]:Array Value))).push (seqObj "tuple" vs.toArray 0)).push (seqObj "list" #[] 0)=H6
 have keep:∀ b o,b≠a->s.heap.get? b=some o->H6.get? b=some o:=fun b o hb e=>by
  rw [<- hH]
  exact Heap.get?_push_of_some _ (Heap.get?_push_of_some _ ((Heap.get?_update_other _ _ (Ne.symm hb)).trans e))
 have ho6:H6.get? a=some (seqObj "list" #[] e1):=by rw [<- hH];exact Heap.get?_push_of_some _ (Heap.get?_push_of_some _ ho1)
 have tp6:Tps H6 vs ps:=tp.mono fun b o hb e=>keep b o (fun z=>na (z ▸ hb)) e
 show wpAny (model prog w) A _ P E { s with heap:=H6 }
 dsimp only
 have fin:∀ q:Array Nat,q.Perm (List.toArray (List.range vs.length))->Up (yke ps) q vs.length->P (.done (.ret .none)) { s with heap:=H6.update a (Obj.mapSeq fun _=>List.toArray (q.toList.map fun i=>vs.getD i Value.none)) }:=fun q h1 h2=>by
  have:=h q h1 h2
  unfold sortedHeap at this
  rw [show ((s.heap.update a (Obj.mapSeq fun _=>(#[]:Array Value))).push (seqObj "tuple" vs.toArray 0)).push (seqObj "list" #[] 0)=H6 from hH] at this
  exact this
 by_cases h2:vs.toArray.size<2
 .rw [if_pos h2,if_pos h2]
  refine wpAny_bind (wpAny_pure ?_)
  rw [StateT.run_pure]
  have hz:((arrOf (SortSt.mk' general' (vs.toArray.zip vs.toArray) #[] 7 none)).map (·.2))=List.toArray ((List.toArray (List.range vs.length)).toList.map fun i=>vs.getD i Value.none):=by
   show (vs.toArray.zip vs.toArray).map (·.2)=_
   apply Array.toList_inj.mp
   simp only [Array.toList_map,Array.toList_zip,List.map_snd_zip (Nat.le_refl _)]
   apply List.ext_getElem
   .simp
   .intro i h3 h4
    simp
    rw [List.getElem?_eq_getElem (by simpa using h3)];rfl
  refine wpAny_bind (wpAny_pure (wpAny_bind (seqEpoch_at ho6 rfl (wpAny_bind (listUpdate_at ho6 rfl ?_ (Nat.zero_le _) ?_)))))
  .dsimp only
   rw [hz]
   simp only [bne_self_eq_false,Bool.false_eq_true,if_false]
   exact wpAny_pure (fin _ (Array.Perm.refl _) fun i j hij hj=>by rw [show i=j by (simp at h2);omega];exact Int.le_refl _)
  .rw [hz];simp;omega
 .rw [if_neg h2,if_neg h2]
  have hv2:2<=vs.length:=by simp at h2;omega
  refine wpAny_bind (kat_kind (s:={ s with heap:=H6 }) (T:=.type "int") tp6.kat (by rw [List.length_map,tp.len];omega) (fun v hv=>?_) rfl ?_)
  .obtain ⟨p,_,rfl⟩:=List.mem_map.mp hv
   exact .now
  have run1:=kat_run (prog:=prog) (w:=w) (A:=A) (E:=E) (s:={ s with heap:=H6 }) (κ:=tuples' true) (ks:=vs) (vs:=vs)
   (Q:=fun st' s'=>s'={ s with heap:=H6 }/\∃ q:Array Nat,q.Perm (List.toArray (List.range vs.length))/\Up (yke ps) q vs.length/\(arrOf st').map (·.2)=List.toArray (q.toList.map fun i=>vs.getD i Value.none)/\failedOf st'=none)
   (G:=fun q s'=>s'={ s with heap:=H6 }/\q.Perm (List.toArray (List.range vs.length))/\Up (yke ps) q vs.length) rfl hv2 h64
   (fun q st' s' z1 z2 z3 z4=>⟨z4.1,q,z4.2.1,z4.2.2,kat_snds rfl z2,z3⟩)
   (yIm (P:=(· < vs.length)) (lt:=ltK (yke ps)) (fun i j C hi hj hC=>yFM tp6 hn i j C hi hj hC) _ (yFL (by omega)) ⟨rfl,(yzg (by omega)).1,(yzg (by omega)).2⟩)
  refine wpAny_bind (wpAny_mono run1 ?_ fun _ _ x=>x)
  rintro ⟨⟨⟩,st'⟩ s' ⟨rfl,q,z1,z2,z3,z4⟩
  refine wpAny_bind (seqEpoch_at ho6 rfl (wpAny_bind (listUpdate_at ho6 rfl ?_ (Nat.zero_le _) ?_)))
  .dsimp only
   rw [z3,z4]
   simp only [bne_self_eq_false,Bool.false_eq_true,if_false]
   exact wpAny_pure (fin q z1 z2)
  .dsimp only
   rw [z3]
   have:=z1.size_eq
   simp at this ⊢
   omega
end
end KasS
namespace PXS
open PySem L2 PySem.Spec PyProof.Rows KasS PX
theorem yvY {P:Program}{w:World}{H:Hp}{h:Heap}{a:Addr}{o:HO}(x:ObjOk P w H h a o):∃ u,h.get? a=some u:=by
 cases o with
 | lst xs=>obtain ⟨_,_,_,_,e⟩:=x;exact ⟨_,e⟩
 | tup xs=>obtain ⟨_,_,_,ob,e,_⟩:=x;exact ⟨_,e⟩
 | dK kvs=>obtain ⟨_,_,_,_,o,_,_,e,_⟩:=x;exact ⟨_,e⟩
 | dT kvs=>obtain ⟨_,_,_,_,o,_,_,e,_⟩:=x;exact ⟨_,e⟩
 | set S n=>obtain ⟨o,_,_,_,e,_⟩:=x;exact ⟨_,e⟩
 | ins C dx fs=>obtain ⟨_,_,_,e,_⟩:=x;exact ⟨_,e⟩
 | own y=>obtain ⟨_,e⟩:=x;exact ⟨_,e⟩
 | xd fs=>obtain ⟨_,⟨_,_,_,e,_⟩,_⟩:=x;exact ⟨_,e⟩
 | rng lo hi=>obtain ⟨_,_,_,e⟩:=x;exact ⟨_,e⟩
 | frz ob u=>obtain ⟨e,_⟩:=x;exact ⟨_,e⟩
 | tbl ps=>exact ⟨_,show h.get? a=some _ from x⟩
 | met f y=>exact ⟨_,show h.get? a=some _ from x⟩
 | ext φ=>obtain ⟨_,⟨_,e⟩,_⟩:=x;exact ⟨_,e⟩
section
variable {X:Cx}
theorem yBR:MtM X "dict.items" yDd:=by
 intro pins s σ H x vs v us Q I rx rv h
 obtain ⟨d,kvs,rfl,rfl,hH,q⟩:=h
 cases rx
 have hus:=rv.zero
 subst hus
 obtain ⟨z,sy,ws,kv,hD⟩:=I.hok d _ hH
 refine call_meetsIn PySem.F.slot_dict_items hD.typeIs PySem.F.entry_dict_items (PySem.F.args_dict_items_1 _) (meets_dict_items _ d sy) ⟨⟨ws,hD⟩,?_⟩
 refine ⟨.ref _,_,I.laid (t':=s.toks) (o:=yuw s.heap.objs.size d) (fun _ _ q=>Heap.get?_push_of_some _ q) (Nat.le_refl _) ⟨Heap.get?_push_size _ rfl,⟨_,Heap.get?_push_size _ rfl⟩,fun h1 h2 e k=>k _ e⟩,rfl,q _ I.fresh⟩
theorem yzj {pins:List (Addr×Obj)}{σ:L2.St}{H H':Hp}{s:Shared}{h':Heap}{t':Nat}(I:Inv X pins σ H s) (k:∀ b u,s.heap.get? b=some u->h'.get? b=some u) (sub:∀ b o,H b=some o->H' b=some o)
  (nw:∀ b o,H b=none->H' b=some o->s.heap.get? b=none/\ObjOk X.prog X.w H' h' b o):Inv X pins σ H' { s with heap:=h',toks:=t' }:=by
 refine I.un ⟨fun b u q _ _ _=>k b u q,fun b u q _ _ _=>⟨u.slots,k b u q⟩,fun b u q n _=>?_,fun b u q _=>⟨u,k b u q⟩,fun b xs q=>sub _ _ q,fun b u xs q=>sub _ _ q,fun b ps q=>⟨#[],by rw [sub _ _ q];simp⟩⟩ fun b o e=>?_
 .cases e:H' b with
  | none=>rfl
  | some o=>rw [(nw b o n e).1] at q;cases q
 .cases e2:H b with
  | none=>exact (nw b o e2 e).2
  | some u =>
   have:=sub _ _ e2
   rw [e] at this
   cases this
   exact (I.hok b o e2).stay (fun c v _ q=>k c v q) (fun c q=>sub _ _ q) fun c xs q=>sub _ _ q
theorem yDn {h:Heap}:∀ (as:List Addr) (ws:List (Key×Value)) (ns:List Int),as.length=ws.length->ws.map (·.1)=ns.map Sum.inl ->
  (∀ (j:Nat) (a:Addr),as[j]?=some a->∃ key k x,ws[j]?=some (k,x)/\ytN k key=true/\h.get? a=some { cls:=.type "tuple",data:=.seq #[key,x] }) ->
  ∃ ps,Tps h (as.map Value.ref) ps/\ps.map (·.1)=ns/\ps.map (·.2.2)=ws.map (·.2)
 | [],[],ns,_,e,_=>⟨[],trivial,by cases ns with|nil=>rfl|cons=>simp at e,rfl⟩
 | [],_::_,_,hl,_,_=>by simp at hl
 | _::_,[],_,hl,_,_=>by simp at hl
 | a::as,(k,x)::ws,ns,hl,e,hp=>by
  cases ns with
  | nil=>simp at e
  | cons n ns =>
   simp only [List.map_cons,List.cons.injEq] at e
   obtain ⟨ps,t,e1,e2⟩:=yDn as ws ns (by simpa using hl) e.2 fun j b hb=>by
    obtain ⟨key,k',x',f1,f2,f3⟩:=hp (j+1) b (by simpa using hb)
    exact ⟨key,k',x',by simpa using f1,f2,f3⟩
   obtain ⟨key,k',x',f1,f2,f3⟩:=hp 0 a rfl
   simp at f1
   obtain ⟨rfl,rfl⟩:=f1
   obtain ⟨j,tk,g1,rfl⟩:∃ j tk,k=Sum.inl j/\key=Value.int j tk:=by
    rcases ybV f2 with ⟨j,tk,g1,g2⟩|⟨y,tk,g1,g2⟩
    .exact ⟨j,tk,g1,g2⟩
    .rw [g1] at e;cases e.1
   rw [g1] at e
   obtain rfl:j=n:=by injection e.1
   exact ⟨(j,tk,x)::ps,⟨⟨a,_,_,rfl,f3,rfl,rfl⟩,t⟩,by rw [List.map_cons,e1],by rw [List.map_cons,e2];rfl⟩
theorem yig {α:Type}:∀ {as:List Addr}{ts:List α}{b:Addr}{t:α},(as.zip ts).lookup b=some t->∃ j:Nat,as[j]?=some b/\ts[j]?=some t
 | [],_,_,_,h=>by simp at h
 | _::_,[],_,_,h=>by simp at h
 | a::as,u::ts,b,t,h=>by
  rw [List.zip_cons_cons,List.lookup_cons] at h
  split at h
  .rename_i hb
   cases h
   exact ⟨0,by rw [eq_of_beq hb];rfl,rfl⟩
  .obtain ⟨j,h1,h2⟩:=yig h
   exact ⟨j+1,by simpa using h1,by simpa using h2⟩
theorem yDo:∀ {kvs:List (Key×V)}{ws:List (Key×Value)},KV kvs ws->ws.map (·.1)=kvs.map (·.1)/\∀ i:Nat,i<kvs.length->RelV ((kvs.map (·.2)).getD i .non) ((ws.map (·.2)).getD i .none):=by
 intro kvs ws h
 induction h with
 | nil=>exact ⟨rfl,fun i hi=>by simp at hi⟩
 | @cons p q _ _ h1 _ ih =>
  refine ⟨by rw [List.map_cons,List.map_cons,ih.1,h1.1],fun i hi=>?_⟩
  cases i with
  | zero=>exact h1.2
  | succ i=>simpa using ih.2 i (by simpa using hi)
theorem yvZ {α:Type}{f:α->V}{g:α->Value}:∀ {l:List α},(∀ i∈l,RelV (f i) (g i))->Vals (l.map f) (l.map g)
 | [],_=>.nil
 | i::l,h=>.cons (h i List.mem_cons_self) (yvZ fun j hj=>h j (List.mem_cons_of_mem _ hj))
theorem ymW (hc:X.calm=true):yjW X (.builtin "sorted") rSI:=by
 intro pins s σ H xs us Q I rr hh
 obtain ⟨r,d,kvs,ns,rfl,hr,hd,hk,h64,q⟩:=hh
 obtain ⟨u,rfl,rx⟩:=vals1 rr
 cases rx
 obtain ⟨hview,_,_⟩:=I.hok r _ hr
 obtain ⟨z,sy,ws,kv,hD⟩:=I.hok d _ hd
 obtain ⟨ep,hat⟩:=hD.dictAt
 obtain ⟨kv1,kv2⟩:=yDo kv
 have lw:ws.length=kvs.length:=by have:=congrArg List.length kv1;simpa using this
 have ln:ns.length=kvs.length:=by have:=congrArg List.length hk;simpa using this.symm
 have nd:ns.Nodup:=by
  obtain ⟨_,_,_,_,_,_,_,_,n⟩:=hD
  rw [kv1,hk] at n
  exact (List.pairwise_map.mp n).imp fun h e=>h (by rw [e])
 refine Calls.call_function_entry kind_sorted plain_sorted entry_sorted (args_sorted1 _) ?_
 unfold Builtin.«sorted»
 refine wpAny_bind (m:=checkCount "sorted" 1 1 _) (wpAny_pure ?_)
 refine wpAny_bind (PySem.W.kdx_collect (A:=X.A.in1) (knd:=ydp X.prog X.w) (kvs:=ws) (ep:=ep) (I.ok.hd hc) ⟨_,hview,rfl,rfl⟩ hat (by rw [lw];exact z) fun h' tk as keep hl hG=>wpAny_bind (wpAny_newList ?_ (by rw [List.length_map,hl,lw];exact z)))
 obtain ⟨ps,tp,e1,e2⟩:=yDn (h:=h') as ws ns hl (by rw [kv1,hk]) fun j a ha=>hG.pairs j a ha
 have la:as.length=ns.length:=by omega
 have above:∀ a∈as,s.heap.objs.size<a:=hG.above
 have there:∀ a∈as,a<h'.objs.size:=fun a ha=>hG.there ha
 generalize hB:h'.objs.size=B at *
 have noB:s.heap.get? B=none:=by
  cases e:s.heap.get? B with
  | none=>rfl
  | some o=>exact absurd (Heap.lt_size (keep B o e)) (by rw [hB];exact Nat.lt_irrefl _)
 have noA:∀ a∈as,s.heap.get? a=none:=fun a ha=>Heap.get?_none_of_le (Nat.le_of_lt (above a ha))
 have free:∀ b,s.heap.get? b=none->H b=none:=fun b e=>by
  cases e2:H b with
  | none=>rfl
  | some o=>obtain ⟨u,hu⟩:=yvY (I.hok b o e2);rw [e] at hu;cases hu
 have hoL:(h'.push { cls:=.type "list",data:=.seq (as.map Value.ref).toArray }).get? B=some (seqObj "list" (as.map Value.ref).toArray 0):=by rw [<- hB];exact Heap.get?_push_size _ rfl
 refine wpAny_bind (wpAny_holding (wpAny_call_entry PySem.F.slot_list_sort ⟨_,hoL,rfl⟩ PySem.F.entry_list_sort ?body (PySem.F.args_list_sort_1 _)))
 case body =>
  refine yBQ (s:={ s with heap:=h'.push { cls:=.type "list",data:=.seq (as.map Value.ref).toArray },toks:=tk }) (ps:=ps) hoL (tp.mono fun b o _ e=>Heap.get?_push_of_some _ e) (fun z=>?_) (by rw [e1];exact nd) (by rw [List.length_map];omega) fun qa z1 z2=>?_
  .obtain ⟨a,ha,e⟩:=List.mem_map.mp z
   cases e
   exact absurd (there B ha) (Nat.lt_irrefl _)
  refine ⟨_,rfl,wpAny_pure ⟨_,rfl,?_⟩⟩
  have lq:qa.toList.length=ns.length:=by have:=z1.size_eq;simpa [la] using this
  have pq:qa.toList.Perm (List.range ns.length):=by have:=Array.perm_iff_toList_perm.mp z1;simpa [la] using this
  have inq:∀ i∈qa.toList,i<ns.length:=fun i hi=>by have:=pq.mem_iff.mp hi;simpa using this
  have nda:as.Nodup:=hG.rise.imp fun h=>Nat.ne_of_lt h
  have ndq:qa.toList.Nodup:=pq.nodup_iff.mpr List.nodup_range
  generalize hS:sortedHeap (h'.push { cls:=.type "list",data:=.seq (as.map Value.ref).toArray }) B (as.map Value.ref) (List.toArray (qa.toList.map fun i=>(as.map Value.ref).getD i Value.none))=S
  have hFa:∀ b o,b≠B->h'.get? b=some o->S.get? b=some o:=fun b o hb e=>by
   rw [<- hS]
   unfold sortedHeap
   exact (Heap.get?_update_other _ _ (Ne.symm hb)).trans (Heap.get?_push_of_some _ (Heap.get?_push_of_some _ ((Heap.get?_update_other _ _ (Ne.symm hb)).trans (Heap.get?_push_of_some _ e))))
  have hFB:∃ c,S.get? B=some (seqObj "list" (List.toArray (qa.toList.map fun i=>(as.map Value.ref).getD i Value.none)) c):=by
   rw [<- hS]
   unfold sortedHeap
   exact ⟨_,get?_update_seq (Heap.get?_push_of_some _ (Heap.get?_push_of_some _ (get?_update_seq hoL _))) _⟩
  have hF:∀ b o,s.heap.get? b=some o->S.get? b=some o:=fun b o e=>hFa b o (fun z=>by rw [z,noB] at e;cases e) (keep b o e)
  have aget:∀ i,i<ns.length->∃ a,as[i]?=some a/\as.getD i 0=a/\a∈as:=fun i hi=>by
   have h1:i<as.length:=by omega
   exact ⟨as[i],List.getElem?_eq_getElem h1,by simp [List.getD,List.getElem?_eq_getElem h1],List.getElem_mem h1⟩
  have mem:∀ a∈(qa.toList.map fun i=>as.getD i 0),a∈as:=fun a ha=>by
   obtain ⟨i,hi,rfl⟩:=List.mem_map.mp ha
   obtain ⟨a,_,e,m⟩:=aget i (inq i hi)
   rw [e];exact m
  have neB:∀ a∈as,a≠B:=fun a ha=>Nat.ne_of_lt (there a ha)
  have kat:∀ i,yke ps i=ns.getD i 0:=fun i=>by
   unfold yke
   rw [<- e1]
   simp [List.getD]
  refine ⟨.ref B,yJf H B (qa.toList.map fun i=>as.getD i 0) (qa.toList.map fun i=>[V.int (ns.getD i 0),(kvs.map (·.2)).getD i .non]),?_,rfl,q B _ qa.toList pq ?_ nd (by simp) ?_ ?_⟩
  .show L2.Inv X pins σ _ { s with heap:=S,toks:=tk }
   refine yzj I hF (fun b o e=>?_) fun b o e e2=>?_
   .unfold yJf upd yvO
    rw [if_neg fun z=>by rw [z,free _ noB] at e;cases e]
    cases e3:List.lookup b ((qa.toList.map fun i=>as.getD i 0).zip (qa.toList.map fun i=>[V.int (ns.getD i 0),(kvs.map (·.2)).getD i .non])) with
    | none=>exact e
    | some t =>
     obtain ⟨j,g1,_⟩:=yig e3
     rw [free _ (noA b (mem b (List.mem_of_getElem? g1)))] at e
     cases e
   .unfold yJf upd yvO at e2
    split at e2
    .rename_i hb
     subst hb
     cases e2
     obtain ⟨c,hc⟩:=hFB
     refine ⟨noB,by simp [lq];rw [ln];exact z,_,c,?_,hc⟩
     rw [List.map_map]
     refine yvZ fun i hi=>?_
     obtain ⟨a,f1,f2,_⟩:=aget i (inq i hi)
     show RelV (V.ref (as.getD i 0)) _
     rw [f2]
     simp [List.getD,f1]
     rfl
    .split at e2
     .rename_i t e3
      cases e2
      obtain ⟨j,g1,g2⟩:=yig e3
      rw [List.getElem?_map] at g1 g2
      cases e4:qa.toList[j]? with
      | none=>rw [e4] at g1;cases g1
      | some i =>
       rw [e4] at g1 g2
       have hi:=inq i (List.mem_of_getElem? e4)
       obtain ⟨a,f1,f2,f3⟩:=aget i hi
       simp only [Option.map_some,Option.some.injEq] at g1 g2
       rw [f2] at g1
       subst g1
       subst g2
       obtain ⟨key,k,x,w1,w2,w3⟩:=hG.pairs i a f1
       have wk:k=Sum.inl (ns.getD i 0):=by
        have h1:(ws.map (·.1))[i]?=some k:=by rw [List.getElem?_map,w1];rfl
        rw [kv1,hk,List.getElem?_map] at h1
        rw [List.getElem?_eq_getElem hi] at h1
        simp [List.getD,List.getElem?_eq_getElem hi] at h1 ⊢
        exact h1.symm
       obtain ⟨tk2,rfl⟩:∃ tk,key=Value.int (ns.getD i 0) tk:=by
        rcases ybV w2 with ⟨j,tk,g1,g2⟩|⟨y,tk,g1,g2⟩
        .rw [wk] at g1;cases g1;exact ⟨tk,g2⟩
        .rw [wk] at g1;cases g1
       have wx:(ws.map (·.2)).getD i .none=x:=by simp [List.getD,w1]
       refine ⟨noA a f3,by simp [sizeLine_eq],[_,x],.cons ⟨_,rfl⟩ (.cons ?_ .nil),_,hFa a _ (neB a f3) w3,rfl,_,rfl⟩
       rw [<- wx]
       exact kv2 i (by omega)
     .rw [e] at e2;cases e2
  .refine List.pairwise_iff_getElem.mpr fun i j hi hj hij=>?_
   have:=z2 i j (Nat.le_of_lt hij) (by simpa [la,lq] using hj)
   unfold Kp at this
   rw [kat,kat] at this
   have hi':i<qa.size:=by simpa using hi
   have hj':j<qa.size:=by simpa using hj
   rw [Array.getElem?_eq_getElem hi',Array.getElem?_eq_getElem hj'] at this
   simpa using this
  .intro a ha
   rcases List.mem_cons.mp ha with rfl|ha
   .exact free _ noB
   .exact free _ (noA a (mem a ha))
  .refine List.nodup_cons.mpr ⟨fun h=>neB _ (mem _ h) rfl,?_⟩
   refine List.pairwise_map.mpr (ndq.imp_of_mem fun {i j} hi hj hij e=>hij ?_)
   obtain ⟨a,f1,f2,_⟩:=aget i (inq i hi)
   obtain ⟨b,g1,g2,_⟩:=aget j (inq j hj)
   rw [f2,g2] at e
   subst e
   exact (List.getElem?_inj (by have:=inq i hi;omega) nda).mp (f1.trans g1.symm)
variable {A:Nat->Addr}{o:Expr}{xa:XE}{pos p apos cpos:Pos}{x:Str}
theorem z_sortI (hc:X.calm=true) (ho:ZE X A o xa) (m:Nm x) (hg:Gl X x) (hm:X.mg x=none) (hv:bootBuiltins x=some (.builtin "sorted"))
  (hbase:attributeBase o "items" X.env (eval o X.env)=eval o X.env) (hline:(apos.endLine == cpos.line)=true)
  (he:starEach [.Call (.Attribute o "items" apos) [] [] cpos] X.env=(false,eval (.Call (.Attribute o "items" apos) [] [] cpos) X.env)::starEach [] X.env) (hpl:(backTo pos (starEach [] X.env)).any (·.1)=false) :
  ZO X A (.Call (.Name x p) [.Call (.Attribute o "items" apos) [] [] cpos] [] pos) (ynX xa) :=
 wO (yqi (ymW hc) hg hm hv (ylH (yCF PySem.F.plainAttrs_dict PySem.F.slot_dict_items PySem.F.type_dict_items yBR ho.of hbase hline) yrO he) m.n m.d he hpl) (yyN (K:=ckX X A) sE)
end
end PXS
namespace PX
open PySem L2 PySem.Spec PyProof.Rows
section
theorem yBS {P:Program}{w:World}{K:PySem.W.Frag}{tg:Expr}(a it:Addr) (m:Nat):Turn P w K tg (ItR K a m) [it] it (fun i h=>i<=m/\h.IsRevIter it a ((m:Int)-1-(i:Nat))) where
 mem:=by simp
 obj:=fun i h st b hb=>by
  have e:b=it:=by simpa using hb
  subst e
  obtain ⟨_,o,e,c,d⟩:=st
  exact ⟨o,e,fun v z=>by rw [d] at z;cases z⟩
 keep:=fun i h h' st k=>⟨st.1,st.2.at fun o e=>k it (by simp) o e⟩
 item:=by
  intro X hP hw hK hc i pins s σ H E I hf st hg
  subst hP hw hK
  obtain ⟨hi,xs,x,hq,hx⟩:=hg
  obtain ⟨its,rv,p,hz⟩:=I.list hq
  obtain ⟨u,hu,ru⟩:=rv.get hx
  obtain ⟨f0,f1,f2,f3,f4,f5⟩:=hf it (by simp)
  have e0:(m:Int)-1-(i:Nat)=((m-1-i:Nat):Int):=by omega
  have st2:=st.2
  rw [e0] at st2
  refine wpAny_pyNext_rev_item st2 p.isList (x:=u) (by simpa using hu) fun h' st' sb=>?_
  have I1:Inv X pins σ H { s with heap:=h' }:=I.turned (t':=s.toks) (fun b o hb e=>(sb.2 b hb).trans e) f0 f1 f3 f4 f5
  obtain ⟨o,e,c,d⟩:=id st'
  have e2:((m-1-i:Nat):Int)-1=(m:Int)-1-((i+1:Nat):Int):=by omega
  rw [e2] at st'
  exact ⟨u,rfl,yAA (s:={ s with heap:=h' }) e c d (by decide) ⟨x,H,I1,ru,⟨rfl,fun ys hy=>by rw [I.list_inj hy hq];exact hx⟩,⟨hi,st'⟩,fun b hb=>(hf b hb).1⟩⟩
 done:=by
  intro X hP hw hK hc i pins s σ H E I hf st hg
  subst hP hw hK
  obtain rfl:i=m:=hg
  obtain ⟨f0,f1,f2,f3,f4,f5⟩:=hf it (by simp)
  have st2:=st.2
  rw [show (i:Int)-1-(i:Nat)=-1 by omega] at st2
  exact wpAny_pyNext_rev_end (I.ok.hd hc) st2 fun h' eb=>⟨rfl,I.turned (t':=s.toks) (fun b o hb e=>eb b o hb e) f0 f1 f3 f4 f5⟩
 self:=fun _ _ _ _ _ st h=>wpAny_pyIter_revIter st.2 h
variable {X:Cx}{A:Nat->Addr}{tg a:Expr}{p pos:Pos}{xa:XE}
theorem yIn {ta:TE}(hg:Gl X "reversed") (hm:X.mg "reversed" = none) (ha:PE X a ta) (he:starEach [a] X.env=(false,eval a X.env)::starEach [] X.env) (hs:starEach [a] X.env=[(false,eval a X.env)]):PI X tg (.Call (.Name "reversed" p) [a] [] pos) (yLy X.K ta):=by
 intro pins s σ H R I h
 refine Call_ (ypJ I hg hm yuy (PyProof.Rows.callWith_type1 (thn (ylH ha yrO he pos pins s σ H (fun vs H1=>match vs with|[x]=>∃ b xs,x=.ref b/\SqL X.K H1 b xs/\R (ItR X.K b xs.length) H1|_=>False) I h) fun us s1 ⟨vs,H1,I1,r1,q1⟩=>?_) hs rfl))
 cases r1 with
 | nil=>exact q1.elim
 | cons r rr =>
  cases rr with
  | cons=>exact q1.elim
  | nil =>
  obtain ⟨b,xs,e,hq,q⟩:=q1
  subst e
  cases r
  obtain ⟨its,rv,pp,hz⟩:=I1.list hq
  have hl:=rv.length
  refine call_reversed_list pp.isList (wpAny_pyIter_revIter (s:={ s1 with heap:=s1.heap.push (revObj b ((its.toArray.size:Int)-1)) }) (l:=b) (i:=(its.toArray.size:Int)-1) ⟨_,Heap.get?_push_size _ rfl,rfl,rfl⟩ ?_)
  refine ⟨s1.heap.objs.size,[s1.heap.objs.size],_,_,H1,rfl,I1.kept (t':=s1.toks) fun b o e=>Heap.get?_push_of_some _ e,yBS b _ xs.length,⟨Nat.zero_le _,_,Heap.get?_push_size _ rfl,rfl,?_⟩,fun b hb=>?_,q⟩
  .show Data.fields #[.ref b,rawInt ((its.toArray.size:Int)-1)]=Data.fields #[.ref b,rawInt ((xs.length:Int)-1-((0:Nat):Int))]
   rw [hl]
   simp
  .have e:b=s1.heap.objs.size:=by simpa using hb
   subst e
   exact I1.fpOk (Nat.le_refl _) (I1.hok.fresh (Nat.le_refl _))
theorem yFN {rest:List Stmt}{s:XS}{y:XG}{pos':Pos}(hp:PassesOwn (model X.prog X.w) X.A X.env X.xe) (hc:X.calm=true) (hgl:Gl X "reversed") (hm:X.mg "reversed" = none) (hi:ZE X A a xa) (he:starEach [a] X.env=(false,eval a X.env)::starEach [] X.env) (hs1:starEach [a] X.env=[(false,eval a X.env)])
  (hg:ZG X A tg y) (hb:ZSs X A rest s) (hs:∀ x,foldedSetIterable (.Call (.Name "reversed" p) [a] [] pos') X.env x=pure x):ZS X A (.For tg (.Call (.Name "reversed" p) [a] [] pos') rest [] pos) (yBH true xa y s) :=
 wS (yCA hp hc (yIn hgl hm hi.of he hs1) hg.of hb.of hs) (yBI (K:=ckX X A) sE sG sS)
end
end PX
namespace PX
open PySem L2 PySem.Spec PyProof.Rows
section
variable {X:Cx}{A:Nat->Addr}{a o:Expr}{xa xb:XE}{pos apos cpos:Pos}
theorem yIo:MtM X "dict.update" yLz:=by
 intro pins s σ H x vs v us Q I rx rv h
 obtain ⟨d,b,kvs,more,rfl,rfl,hne,hH,hB,hz,q⟩:=h
 cases rx
 obtain ⟨u,rfl,ru⟩:=rv.one
 cases ru
 obtain ⟨z,hd,vs,rel,dd⟩:=yFj I.hok hH
 obtain ⟨z2,hd2,vs2,rel2,dd2⟩:=yFj I.hok hB
 refine call_meetsIn PySem.F.slot_dict_update dd.typeIs PySem.F.entry_dict_update (PySem.F.args_dict_update_2 _ _) (meets_dict_update (ydp X.prog X.w) d b hne hd2) ⟨vs,vs2,dd,dd2,by rw [<- rel.length,<- rel2.length];exact hz,fun h' dd' _ hs=>?_⟩
 have he:∃ q,h'.get? d=some q:=let ⟨q,_,_,hq,_⟩:=dd';⟨q,hq⟩
 refine ⟨.non,_,yur (t':=s.toks) I (by rw [hH];exact True.intro) hs he (yCX ?_ hd (rel2.merge rel) dd'),rfl,q⟩
 exact Nat.le_trans (ykP more kvs) hz
end
end PX
namespace L2
open PySem PySem.Spec PyProof.Rows PX
end L2
namespace PX
open PySem L2 PySem.Spec PyProof.Rows
variable {X:Cx}{A:Nat->Addr}{x:Str}
end PX
namespace L2
open PySem PySem.Spec PyProof.Rows PX
theorem yFO {y:Str}{py spos:Pos}{iy:Nat}{X:Cx}{elt iter:Expr}{x:Str}{px:Pos}{scope:Scope}{cpos:Pos}{wi:TI}{te:TE}(ix:List Nat) (fr:List Str) (hc:X.calm=true) (hi:PI X (.Name x px) iter wi) (hfr:FrOk X scope ix fr)
  (he:∀ (cl:List (Str×Addr)) (C:Addr) (s₃:Shared) (H₃:Hp) (fp:List Addr) (pins:List (Addr×Obj)),PE (cxC X scope cl C (x::fr) s₃ H₃ fp pins) elt te)
  (hnd:(x::fr).Nodup) (hkind:scope.kind=.function) (hcell:∀ y∈scope.names,y.2≠.cell)
  (hnames:∀ y∈scope.names,y.2=.local->scope.names.lookup y.1=some .local) (hfree0:∀ y∈scope.names,y.2=.free->y.1∈fr) (hx:scope.names.lookup x=some .local)
  (hs:∀ v,foldedSetIterable iter X.env v=pure v)
  (hN:X.N.Nodup) (hyi:X.N[iy]?=some y) (hyx:Loc X.env.scope y) (hyf:X.fn y=true\/X.env.scope.names.lookup y=some .local) (hsw:swapsWith (.ListComp elt [⟨.Name x px,iter,[],0⟩] scope cpos) (some (.Name y py)) spos.line X.env=pure true) :
  PS X (.Assign [.Name y py] (.ListComp elt [⟨.Name x px,iter,[],0⟩] scope cpos) spos) (yGj (yEu wi ix te) (ywm iy)):=by
 intro pins s σ H D0 I h
 have hfn:X.env.scope.kind=.function:=I.ok.kind
 have hfree:∀ y∈scope.names,y.2=.free->X.env.kindOf y.1=some .cell/\scope.names.lookup y.1=some .free:=fun y hy e=>by
  obtain ⟨j,hj,ej⟩:=List.getElem_of_mem (hfree0 y hy e)
  obtain ⟨i,_,_,h3,h4⟩:=hfr.get (j:=j) (y:=y.1) (by rw [List.getElem?_eq_getElem hj,ej])
  exact ⟨h4,h3⟩
 obtain ⟨cl,ecl,hcl1,hcl2⟩:=yhi (env:=X.env) scope.names [] fun n hn=>I.ok.has n (.inl (hfree _ hn rfl).1)
 have hclos:closureFor scope X.env=pure cl:=by
  unfold closureFor
  have:(forIn scope.names ([]:List (Str×Addr)) (fun (x:Str×NameKind) (r:List (Str×Addr))=>if (x.2 == NameKind.free)=true then do let c <- cellOf X.env x.1;pure (ForInStep.yield ((x.1,c)::r)) else pure (ForInStep.yield r)):Sem (List (Str×Addr)))=pure cl:=ecl
  first
   | exact (by simpa using congrArg (· >>= fun r=>pure r) this)
   | (rw [show (pure cl:Sem (List (Str×Addr)))=(pure cl >>= fun r=>pure r) from rfl,<- this];rfl)
 have hcle:∀ y c,cl.lookup y=some c->X.env.cells.lookup y=some c/\(y,NameKind.free)∈scope.names:=fun y c e=>by
  by_cases hy:(y,NameKind.free)∈scope.names
  .exact ⟨by rw [<- hcl1 y hy];exact e,hy⟩
  .rw [hcl2 y hy] at e;simp at e
 rw [exec_Assign_Name_used _ _ _ _ hsw]
 refine wpAny_bind (wpAny_standAt (wpAny_bind ?_))
 show wpAny _ X.A (do let _ <- comprehension (.ListComp elt [⟨.Name x px,iter,[],0⟩] scope cpos) scope X.env _ (newList []) false (eval iter X.env) (some (assign (.Name y py) X.env))) _ _ s
 refine wpAny_bind (wpAny_mono (wpAny_comprehension_free (use:=some (assign (.Name y py) X.env)) (Q:=fun _ s'=>SP X pins D0 .next s') rfl hs hclos hkind hnames ?_) (fun _ s' hq=>wpAny_pure (wpAny_pure hq)) fun _ _ e=>e)
 refine thn (hi pins s σ H _ I h) fun v s1 h1=>thn h1 fun itv s2 h2=>?_
 obtain ⟨it,fp,tn,J,H2,e,I2,T,st2,f2,q2⟩:=h2
 subst e
 refine wpAny_newObj_type ?_
 generalize hs3:({ s2 with heap:=s2.heap.push { cls:=.type "list",dict:=none,data:=.seq ([]:List Value).toArray } }:Shared)=s3
 generalize hD:s2.heap.objs.size=D
 have hDn:H2 D=none:=by rw [<- hD];exact I2.hok.fresh (Nat.le_refl _)
 have I3:Inv X pins σ (upd H2 D (.lst [])) s3:=by
  rw [<- hs3,<- hD]
  exact I2.lnew (t':=s2.toks) (ys:=[]) (its:=[]) .nil (Nat.zero_le _)
 have k3:∀ b o,s2.heap.get? b=some o->s3.heap.get? b=some o:=fun b o e=>by rw [<- hs3];exact Heap.get?_push_of_some _ e
 have st3:tn 0 s3.heap:=T.keep _ _ _ st2 fun b _ o e=>k3 b o e
 have fne:∀ b∈fp,b≠D:=fun b hb=>by
  obtain ⟨o,e,_⟩:=T.obj _ _ st2 b hb
  rw [<- hD]
  exact Nat.ne_of_lt (Heap.lt_size e)
 have f3:∀ b∈fp,yxA X pins (upd H2 D (.lst [])) b:=fun b hb=>⟨by rw [ybc (fne b hb)];exact (f2 b hb).1,(f2 b hb).2⟩
 have q3:=q2 D hDn
 generalize upd H2 D (.lst [])=H3 at I3 f3 q3
 obtain ⟨W,⟨m0,w0⟩,turn⟩:=q3
 refine wpAny_newFunctionEnv hcell (by intro y hy;simp at hy) (fun h4 hns hsb=>?_) hkind
 try dsimp only at hns hsb ⊢
 generalize hC:s3.heap.objs.size=C at hns hsb ⊢
 have k4:∀ b o,s3.heap.get? b=some o->h4.get? b=some o:=fun b o e=>(hsb.2 b (by rw [<- hC];exact Nat.ne_of_lt (Heap.lt_size e))).trans (Heap.get?_push_of_some _ e)
 have Cne:∀ b o,s3.heap.get? b=some o->b≠C:=fun b o e=>by rw [<- hC];exact Nat.ne_of_lt (Heap.lt_size e)
 have stk:=I3.stkSub
 have pinF:∀ p∈X.pn++pins,p.1∉frs X.stack:=fun p hp z=>by
  obtain ⟨_,_,n1,n2,_⟩:=I3.pin p hp
  rcases List.mem_cons.mp (stk _ z) with z|z
  .exact n1 z
  .exact n2 z
 have okC:(cxC X scope cl C (x::fr) s3 H3 fp pins).Ok:=by
  refine ⟨I3.ok.mod,by show (relabel scope X.env).kind=_;exact hkind,I3.ok.glob,I3.ok.blt,Nat.le_of_eq hC,fun y z c h1 h2=>I3.ok.inj y z c (hcle y c h1).1 (hcle z c h2).1,fun y hy=>?_,fun y c hf _=>(by cases hf),I3.ok.hd,I3.ok.frames,.inl rfl,fun b hb=>⟨?_,fun y c e z=>?_⟩,I3.bs,?_,fun b o e hb=>?_,fun b hb z=>?_,I3.stack,I3.stkFree⟩
  .have hy:((relabel scope X.env).names.lookup y=some .cell)\/((relabel scope X.env).names.lookup y=some .free):=hy
   rw [show (relabel scope X.env).names.lookup y=_ from yeb y scope.names] at hy
   cases e:scope.names.lookup y with
   | none=>rw [e] at hy;simp at hy
   | some k =>
    have hm:(y,k)∈scope.names:=PySem.mem_of_lookup e
    have hkf:k=.free:=by
     rw [e] at hy
     cases k<;>simp at hy ⊢
     exact absurd rfl (hcell _ hm)
    subst hkf
    obtain ⟨c,hc'⟩:=I3.ok.has y (.inl (hfree _ hm rfl).1)
    exact ⟨c,by show cl.lookup y=_;rw [hcl1 y hm];exact hc'⟩
  .obtain ⟨o,e,_⟩:=T.obj _ _ st3 b hb
   exact Cne b o e
  .exact (f3 b hb).2.2.2.2.1 y c (hcle y c e).1 z
  .exact Nat.le_trans I3.ok.bsz I3.sz
  .rcases (f3 b hb).2.2.2.1 with z|z
   .exact I3.ok.noex b o e z
   .exact absurd (Nat.lt_of_lt_of_le (Heap.lt_size e) (Nat.le_trans I3.ok.bsz z)) (Nat.lt_irrefl _)
  .rcases List.mem_cons.mp (stk _ z) with z|z
   .exact (f3 b hb).2.1 z
   .exact (f3 b hb).2.2.1 z
 have inn:∀ v,(inner ix σ v)=some v::ix.map fun i=>(σ[i]?).getD none:=fun _=>rfl
 have I4:Inv (cxC X scope cl C (x::fr) s3 H3 fp pins) [] (none::ix.map fun i=>(σ[i]?).getD none) H3 { s3 with heap:=h4,toks:=s3.toks+([]:List (Str×Value)).length }:=by
  refine ⟨okC,rfl,I3.bare,Un.kept k4,⟨_,hns,fun j y v e1 e2 e3=>?_⟩,fun y c e=>?_,I3.hok.fresh (Nat.le_of_eq hC),fun y c e=>I3.freeC y c (hcle y c e).1,fun p hp=>?_,I3.hok.kept k4,?_⟩
  .match j,e1,e2 with
   | 0,e1,e2=>simp at e2
   | j+1,e1,e2 =>
    obtain ⟨i,hi1,hi2,hi3,hi4⟩:=hfr.get (j:=j) (y:=y) (by have e1':(x::fr)[j+1]?=some y:=e1;simpa using e1')
    have e2':σ[i]?=some (some v):=by
     have e2:(ix.map fun i=>(σ[i]?).getD none)[j]?=some (some v):=by simpa using e2
     rw [List.getElem?_map,hi1] at e2
     simp at e2
     cases z:σ[i]? with
     | none=>rw [z] at e2;simp at e2
     | some o=>rw [z] at e2;simp at e2;rw [e2]
    obtain ⟨m,_,hl⟩:=I3.loc
    obtain ⟨u,r,l⟩:=hl i y v hi2 e2' (.inr (.inl hi4))
    refine ⟨u,r,?_⟩
    rcases l with ⟨k,_⟩|⟨k,c,ec,z⟩
    .rw [hi4] at k;cases k
    .have hm:(y,NameKind.free)∈scope.names:=PySem.mem_of_lookup hi3
     refine .inr ⟨.inl ?_,c,by show cl.lookup y=_;rw [hcl1 y hm];exact ec,?_⟩
     .show (relabel scope X.env).names.lookup y=_
      rw [show (relabel scope X.env).names.lookup y=_ from yeb y scope.names,hi3]
      simp [hfn,hi4]
     .obtain ⟨o,ho,hd⟩:=z
      exact ⟨o,k4 _ _ ho,hd⟩
  .obtain ⟨v,o,ho,hd⟩:=I3.cell y c (hcle y c e).1
   exact ⟨v,o,k4 _ _ ho,hd⟩
  .have hp:p∈X.pn++pins:=by simpa [cxC] using hp
   obtain ⟨e,n,ne,nf,d⟩:=I3.pin p hp
   exact ⟨k4 _ _ e,n,Cne _ _ e,pinF p hp,d⟩
  .show (none::ix.map fun i=>(σ[i]?).getD none).length=(x::fr).length
   rw [List.length_cons,List.length_cons,List.length_map,hfr.len]
 have st4:tn 0 h4:=T.keep _ _ _ st3 fun b _ o e=>k4 b o e
 have f4:∀ b∈fp,b≠C/\b∉frs X.stack/\(∀ y c,cl.lookup y=some c->c≠b)/\∀ p∈(X.pn++pins)++([]:List (Addr×Obj)),p.1≠b:=fun b hb=>by
  obtain ⟨o,e,_⟩:=T.obj _ _ st3 b hb
  refine ⟨Cne b o e,fun z=>?_,fun y c e=>(f3 b hb).2.2.2.2.1 y c (hcle y c e).1,fun p hp=>(f3 b hb).2.2.2.2.2 p (by simpa using hp)⟩
  rcases List.mem_cons.mp (stk _ z) with z|z
  .exact (f3 b hb).2.1 z
  .exact (f3 b hb).2.2.1 z
 have stat:∀ {H':Hp},(∀ b∈fp,H' b=none)->∀ b∈fp,yxA (cxC X scope cl C (x::fr) s3 H3 fp pins) [] H' b:=fun hn b hb=>⟨hn b hb,(f4 b hb).1,(f4 b hb).2.1,.inl hb,(f4 b hb).2.2.1,(f4 b hb).2.2.2⟩
 have fin:∀ {σ':St}{H':Hp}{s':Shared},Inv (cxC X scope cl C (x::fr) s3 H3 fp pins) [] σ' H' s'->ywm iy (.ref D) σ H' D0.nx->compPost (model X.prog X.w) X.A X.xe (some (assign (.Name y py) X.env)) (fun _ s'=>SP X pins D0 .next s') (.ref D) C (.ok .next) s':=fun {σ' H' s'} I' q'=>by
  obtain ⟨m,hn,_⟩:=I'.loc
  have hCn:H' C=none:=I'.free
  have U:=I'.base
  have U':Un (frs X.stack) fp H3 H' s3.heap s'.heap:=⟨U.keep,U.slot,U.free,U.there,U.tups,U.frzs,U.tbls⟩
  have IX:Inv X pins σ H' s':=I3.call' (s':=s') (by show s'.os=s3.os;exact I'.os) U' I'.hok I'.bare fun b hb=>⟨(f3 b hb).2.2.2.1,(f3 b hb).2.1,(f3 b hb).2.2.2.2.1,(f3 b hb).2.2.2.2.2⟩
  have hCf:yxA X pins H' C:=I3.fpOk (Nat.le_of_eq hC) hCn
  obtain ⟨o,es,ep,eo,r1,r2,r3⟩:=hn
  have IP:=IX.pinned (fp:=[C]) (fun b hb=>by have e:b=C:=(by simpa using hb);subst e;exact hCf) (fun b hb=>by have e:b=C:=(by simpa using hb);subst e;exact ⟨o,eo,fun v z=>by rw [r1] at z;cases z⟩)
  refine thn (yqg hN hyi hyx hyf _ s' σ H' (.ref D) (.ref D) D0.nx IP rfl q') fun _ s2 ⟨σ2,H2',I2',q2'⟩=>?_
  have pc:=I2'.pin (C,o) (List.mem_append_right _ (List.mem_append_right _ (yfe (by simp) eo)))
  exact ⟨m,⟨o,es,ep,pc.1,r1,r2,r3⟩,fun h' sb=>⟨σ2,H2',I2'.unpinned.turned (t':=s2.toks) (fun b ob hb e=>(sb.2 b hb).trans e) pc.2.1 hCf.2.1 hCf.2.2.2.1 hCf.2.2.2.2.1 hCf.2.2.2.2.2,q2'⟩⟩
 have loop:∀ s5:Shared,s5={ s3 with heap:=h4,toks:=s3.toks+([]:List (Str×Value)).length } ->
   codeAny (model X.prog X.w) X.A (.compLoop (.ListComp elt [⟨.Name x px,iter,[],0⟩] scope cpos) 0 (.ref it) (.ref D) (compEnvC scope cl C X.env)) (compPost (model X.prog X.w) X.A X.xe (some (assign (.Name y py) X.env)) (fun _ s'=>SP X pins D0 .next s') (.ref D) C) s5:=by
  rintro s5 rfl
  refine codeAny_loop rfl (fun n s'=>∃ i o H',Inv (cxC X scope cl C (x::fr) s3 H3 fp pins) [] (o::ix.map fun i=>(σ[i]?).getD none) H' s'/\tn i s'.heap/\(∀ b∈fp,H' b=none)/\W i n H') ?_ m0 ⟨0,none,H3,I4,st4,fun b hb=>(f3 b hb).1,w0⟩
  rintro n s6 ⟨i,o,H6,I6,st6,fr6,w6⟩
  show wpAny _ _ ((compTurn (.ListComp elt [⟨.Name x px,iter,[],0⟩] scope cpos) 0 (.ref it) (.ref D) (compEnvC scope cl C X.env)).onRaise (fun x=>do noteFrame x (compEnvC scope cl C X.env);theTreesLotGoes x)) _ _ s6
  refine wpAny_noted ?_
  rw [compTurn_list1]
  rcases turn i n H6 w6 with ⟨stop,qn⟩|⟨go,step⟩
  .refine wpAny_bind (wpAny_standAt (wpAny_bind (thn (T.done (cxC X scope cl C (x::fr) s3 H3 fp pins) rfl rfl rfl hc i [] s6 _ H6 _ I6 (stat fr6) st6 stop) fun r s7 ⟨hr,I7⟩=>?_)))
   subst hr
   exact wpAny_pure (fin I7 qn)
  .refine wpAny_bind (wpAny_standAt (wpAny_bind (thn (T.item (cxC X scope cl C (x::fr) s3 H3 fp pins) rfl rfl rfl hc i [] s6 _ H6 _ I6 (stat fr6) st6 go) fun r s7 ⟨u,hr,h7⟩=>?_)))
   subst hr
   refine wpAny_bind (thn h7 fun _ s8 ⟨y,H8,I8,r8,y8,st8,fr8⟩=>?_)
   have I8':=I8.pinned (stat fr8) (T.obj _ _ st8)
   have hx':Loc (cxC X scope cl C (x::fr) s3 H3 fp pins).env.scope x:=.inl (lookup_relabel_local hx)
   refine wpAny_bind (wpAny_mono (yqg (X:=cxC X scope cl C (x::fr) s3 H3 fp pins) (i:=0) (x:=x) (pos:=px) hnd rfl hx' (.inr (lookup_relabel_local hx)) _ s8 _ H8 y u (fun σ9 H9=>σ9=inner ix σ y/\H9=H8) I8' r8 ⟨rfl,rfl⟩) (fun _ s9 ⟨σ9,H9,I9,e9,e9'⟩=>?_) fun _ _ f=>f.elim)
   subst e9 e9'
   refine wpAny_bind (wpAny_bind (wpAny_mono (he cl C s3 H3 fp pins _ s9 _ _ _ I9 (step y _ y8)) (fun v s10 ⟨z,H10,I10,r10,acc,a10,l10,m',hm',w10⟩=>?_) fun _ _ f=>f.elim))
   refine wpAny_bind (wpAny_mono (ykL (X:=cxC X scope cl C (x::fr) s3 H3 fp pins) _ s10 _ H10 (.ref D) [z] (.ref D) [v] (fun _ H11=>H11=upd H10 D (.lst (acc++[z]))) I10 rfl (.cons r10 .nil) ⟨D,acc,z,rfl,rfl,a10,l10,rfl⟩) (fun _ s11 ⟨_,H11,I11,_,e11⟩=>?_) fun _ _ f=>f.elim)
   subst e11
   refine wpAny_pure (wpAny_pure ⟨rfl,m',hm',i+1,some y,_,I11.unpinned,T.keep _ _ _ st8 fun b hb o e=>(I11.pin (b,o) (List.mem_append_right _ (List.mem_append_right _ (yfe hb e)))).1,fun b hb=>?_,w10⟩)
   obtain ⟨o,e,d⟩:=T.obj _ _ st8 b hb
   exact (I11.pin (b,o) (List.mem_append_right _ (List.mem_append_right _ (yfe hb e)))).2.1
 exact codeAny_compStart_list (loop _ rfl) (T.self X.A 0 _ _ _ st4 (loop _ rfl))
end L2
namespace PX
open PySem L2 PySem.Spec PyProof.Rows
variable {X:Cx}{A:Nat->Addr}{x y:Str}{py spos:Pos}{iy:Nat}
theorem yBT {elt iter:Expr}{px:Pos}{scope:Scope}{cpos:Pos}{it:XA}{xe:XE}(ix:List Nat) (fr:List Str) (hc:X.calm=true) (hi:ZI X A (.Name x px) iter it) (hfr:FrOk X scope ix fr)
  (he:∀ (cl:List (Str×Addr)) (C:Addr) (s₃:Shared) (H₃:Hp) (fp:List Addr) (pins:List (Addr×Obj)),ZE (cxC X scope cl C (x::fr) s₃ H₃ fp pins) A elt xe)
  (hnd:(x::fr).Nodup) (hkind:scope.kind=.function) (hcell:∀ y∈scope.names,y.2≠.cell) (hnames:∀ y∈scope.names,y.2=.local->scope.names.lookup y.1=some .local) (hfree0:∀ y∈scope.names,y.2=.free->y.1∈fr) (hx:scope.names.lookup x=some .local) (hs:∀ v,foldedSetIterable iter X.env v=pure v)
  (hN:X.N.Nodup) (hyi:X.N[iy]?=some y) (hyx:Loc X.env.scope y) (hyf:X.fn y=true\/X.env.scope.names.lookup y=some .local) (hsw:swapsWith (.ListComp elt [⟨.Name x px,iter,[],0⟩] scope cpos) (some (.Name y py)) spos.line X.env=pure true):ZS X A (.Assign [.Name y py] (.ListComp elt [⟨.Name x px,iter,[],0⟩] scope cpos) spos) (ydf (ylK (ywF it ix xe)) (yz iy)) :=
 wS (yFO ix fr hc hi.of hfr (te:=cE (ckX X A) xe) (fun cl C s₃ H₃ fp pins=>(he cl C s₃ H₃ fp pins).of) hnd hkind hcell hnames hfree0 hx hs hN hyi hyx hyf hsw) (yum (yyf (yvC (K:=ckX X A) ix sI sE)) (ynP iy))
theorem yFP {k lv:Nat}{f:Addr}{fd:FuncData}{ps:List Str}{p pos:Pos}{fi} (M:Mk X.K (A k) f) (F:FnOk X.prog X.w X.K X.mg X.base CX0 lv f fd ps (spI (ckX X A) 0 k fi)) (hr:Room (lv+1) X.A) (m:Nm x) (hg:Gl X x) (hm:X.mg x=some (.ref (A k))) (hb:Binds X.K fd ps []):ZO X A (.Call (.Name x p) [] [] pos) (ylN fi yr) :=
 wO (yAG M F hr hg hm hb .nil ywy m.d) (yvE (K:=ckX X A) (k:=k) ynN yuk)
end PX
namespace PX
open PySem L2 PySem.Spec PyProof.Rows KasS PXS
section
variable {X:Cx}{A:Nat->Addr}
theorem yzk:∀ (vs:List Value) (ns:List Int),vs.length=ns.length->(∀ (j:Nat) (v:Value),vs[j]?=some v->∃ t n,ns[j]?=some n/\v=.int n t)->IntsAre vs ns
 | [],[],_,_=>IntsAre.nil
 | [],_::_,h,_=>by cases h
 | _::_,[],h,_=>by cases h
 | v::vs,n::ns,hl,h=>by
  obtain ⟨t,m,e1,e2⟩:=h 0 v rfl
  have e1:some n=some m:=e1
  cases e1
  subst e2
  have ih:=yzk vs ns (by simpa using hl) fun j v e=>by
   obtain ⟨t,n,e1,e2⟩:=h (j+1) v (by simpa using e)
   exact ⟨t,n,by simpa using e1,e2⟩
  exact .cons _ _ ih
theorem ykM {vs:List Value}{ns:List Int}(h:IntsAre vs ns):Vals (ns.map V.int) vs:=by
 induction h with
 | nil=>exact .nil
 | cons n t _ ih=>exact .cons ⟨t,rfl⟩ ih
theorem yoh (hc:X.calm=true):yjW X (.builtin "sorted") rSK:=by
 intro pins s σ H xs us Q I rr hh
 obtain ⟨d,kvs,ns,rfl,hd,hk,h64,q⟩:=hh
 obtain ⟨u,rfl,rx⟩:=vals1 rr
 cases rx
 obtain ⟨z,sy,ws,kv,hD⟩:=I.hok d _ hd
 obtain ⟨ep,hat⟩:=hD.dictAt
 obtain ⟨kv1,kv2⟩:=yDo kv
 have lw:ws.length=kvs.length:=by have:=congrArg List.length kv1;simpa using this
 have ln:ns.length=kvs.length:=by have:=congrArg List.length hk;simpa using this.symm
 refine Calls.call_function_entry kind_sorted plain_sorted entry_sorted (args_sorted1 _) ?_
 unfold Builtin.«sorted»
 refine wpAny_bind (m:=checkCount "sorted" 1 1 _) (wpAny_pure ?_)
 refine wpAny_bind (PySem.W.kdu_collect (A:=X.A.in1) (PySem.W.kdl_dict (knd:=ydp X.prog X.w) (kvs:=ws) (ep:=ep) sy) (I.ok.hd hc) hat (by rw [lw];exact z) fun h' tk acc keep hacc=>?_)
 have hal:acc.toList.length=ns.length:=by rw [Array.length_toList,hacc.1];omega
 refine wpAny_bind (wpAny_newList ?_ (by rw [hal,ln];exact z))
 have ia:IntsAre acc.toList ns:=yzk _ _ hal fun j v e=>by
  obtain ⟨k,x,e1,e2⟩:=hacc.2 j v (by rw [<- Array.getElem?_toList];exact e)
  have hj:j<ns.length:=by have:=(List.getElem?_eq_some_iff.mp e).1;omega
  have h1:(ws.map (·.1))[j]?=some k:=by rw [List.getElem?_map,e1];rfl
  rw [kv1,hk,List.getElem?_map,List.getElem?_eq_getElem hj] at h1
  have h1:k=.inl ns[j]:=(Option.some.inj h1).symm
  rcases ybV e2 with ⟨i,tk,g1,g2⟩|⟨y,tk,g1,g2⟩
  .rw [h1] at g1;cases g1;exact ⟨tk,_,List.getElem?_eq_getElem hj,g2⟩
  .rw [h1] at g1;cases g1
 generalize hB:h'.objs.size=B
 have noB:s.heap.get? B=none:=by
  cases e:s.heap.get? B with
  | none=>rfl
  | some o=>exact absurd (Heap.lt_size (keep B o e)) (by rw [hB];exact Nat.lt_irrefl _)
 have free:H B=none:=by
  cases e2:H B with
  | none=>rfl
  | some o=>obtain ⟨u,hu⟩:=yvY (I.hok B o e2);rw [noB] at hu;cases hu
 have hoL:(h'.push { cls:=.type "list",data:=.seq acc.toList.toArray }).get? B=some (seqObj "list" acc.toList.toArray 0):=by rw [<- hB];exact Heap.get?_push_size _ rfl
 refine wpAny_bind (wpAny_holding (wpAny_call_entry PySem.F.slot_list_sort ⟨_,hoL,rfl⟩ PySem.F.entry_list_sort ?body (PySem.F.args_list_sort_1 _)))
 case body =>
  refine list_sort_tree (s:={ s with heap:=h'.push { cls:=.type "list",data:=.seq acc.toList.toArray },toks:=tk }) hoL ia (by omega) fun out ms i1 i2 i3=>?_
  refine ⟨_,rfl,wpAny_pure ⟨_,rfl,?_⟩⟩
  generalize hS:sortedHeap (h'.push { cls:=.type "list",data:=.seq acc.toList.toArray }) B acc.toList out=S
  have hFa:∀ b o,b≠B->h'.get? b=some o->S.get? b=some o:=fun b o hb e=>by
   rw [<- hS]
   unfold sortedHeap
   exact (Heap.get?_update_other _ _ (Ne.symm hb)).trans (Heap.get?_push_of_some _ (Heap.get?_push_of_some _ ((Heap.get?_update_other _ _ (Ne.symm hb)).trans (Heap.get?_push_of_some _ e))))
  have hFB:∃ c,S.get? B=some (seqObj "list" out c):=by
   rw [<- hS]
   unfold sortedHeap
   exact ⟨_,get?_update_seq (Heap.get?_push_of_some _ (Heap.get?_push_of_some _ (get?_update_seq hoL _))) _⟩
  refine ⟨.ref B,_,?_,rfl,q B ms i2 i3 free⟩
  show L2.Inv X pins σ _ { s with heap:=S,toks:=tk }
  refine yzj I (fun b o e=>hFa b o (fun z=>by rw [z,noB] at e;cases e) (keep b o e)) (fun b o e=>?_) fun b o e e2=>?_
  .rw [ybc fun z=>by rw [z,free] at e;cases e];exact e
  .by_cases hb:b=B
   .subst hb
    rw [yQ] at e2
    cases e2
    obtain ⟨c,hc⟩:=hFB
    refine ⟨noB,by rw [List.length_map,i2.length_eq,ln];exact z,out.toList,c,ykM i1,by simpa using hc⟩
   .rw [ybc hb,e] at e2;cases e2
variable {a:Expr}{xa:XE}{aa:XA}{pos p:Pos}{x:Str}{n:Nat}
theorem yFQ (hc:X.calm=true) (ha:ZE X A a xa) (m:Nm x) (hg:Gl X x) (hm:X.mg x=none) (hv:bootBuiltins x=some (.builtin "sorted"))
  (he:starEach [a] X.env=(false,eval a X.env)::starEach [] X.env) (hpl:(backTo pos (starEach [] X.env)).any (·.1)=false):ZO X A (.Call (.Name x p) [a] [] pos) (ynM ypV (yc xa yr)) :=
 wO (yqi (yoh hc) hg hm hv (ylH ha.of yrO he) m.n m.d he hpl) (yyg (K:=ckX X A) yFA (yvB sE ynN))
end
end PX
namespace PX
open PySem L2 PySem.Spec PyProof.Rows KasS PXS
section
variable {X:Cx}{A:Nat->Addr}{tg a:Expr}{p pos:Pos}{xa:XE}
end
end PX
namespace PX
open PySem L2 PySem.Spec PyProof.Rows
section
variable {X:Cx}{A:Nat->Addr}
theorem ygj:MtR X "str.find" yxV:=by
 intro pins s σ H x xs v us Q I rx rv h
 obtain ⟨z,c,rfl,rfl,hz,hm,q⟩:=h
 obtain ⟨t,rfl⟩:=rx
 obtain ⟨u,rfl,tu,rfl⟩:=vals1 rv
 rcases yEv z c with ⟨_,h2⟩|⟨r,h1,_⟩
 .exact absurd hm h2
 .refine SC.find ?_
  have e:(Txt.find z ⟨#[c]⟩:Int)=((z.cps.toList.idxOf c:Nat):Int):=by
   unfold Txt.find
   rw [h1]
  rw [e]
  exact ⟨.int _,H,I.tok _,⟨_,rfl⟩,q⟩
variable {pos p apos:Pos}{x m:Str}{e:Expr}{es:List Expr}{aa:XA}{n:Nat}
theorem yoi {a:Addr}{ss:List Str}(nm:Nm x) (hg:Gl X x) (hm:X.mg x=some (.ref a)) (hk:KTp X.K a (ss.map V.str)):ZE X A (.Name x pos) (xC (.tup (ss.map PV.str))):=wE (ytY hg hm nm.d) (yBK (K:=ckX X A) hk)
structure yFR (K:PySem.W.Frag) (C:Addr) (m:Str) (f:Addr):Prop where
 rd:PySem.W.readsIn K C (.type "type")=true
 fc:PySem.W.findCls K (.ref C) (.type "type") m=some (.val (.ref f))
 sp:PySem.W.specialIn K (.ref C) "__getattribute__" = some (some (.builtin "type.__getattribute__"))
 kp:keepIn K (.ref f)=true
theorem yFS {C f:Addr}{k:Nat}{fd:FuncData}{ps:List Str}{sp:Sp}{E:XK}{t:TA}{pl:Sem Bool}{CX:CXT}(c:yFR X.K C m f) (hg:Gl X x) (hm:X.mg x=some (.ref C)) (F:FnOk X.prog X.w X.K X.mg X.base CX k f fd ps sp) (hr:Room k X.A) (hb:Binds X.K fd ps []) (hx:ykJ CX X E) (ha:PA X (e::es) t)
  (hd:(x == ("__debug__":Str))=false)
  (hst:starEach (e::es) X.env=(false,eval e X.env)::starEach es X.env) (hpl:(backTo pos (starEach es X.env)).any (·.1)=false)
  (ht:eval (.Call (.Attribute (.Name x p) m apos) (e::es) [] pos) X.env=(do
   let ov <- eval (.Name x p) X.env
   standAt apos.atName
   let (f,first) <- holding [ov] (getMethod ov m pl)
   callWith pos f first (backTo pos (starEach (e::es) X.env)) (backToKw pos (keywordEach [] X.env)))) :
  PE X (.Call (.Attribute (.Name x p) m apos) (e::es) [] pos) (yAE sp [] E t):=by
 intro pins s σ H Q I h
 refine PySem.W.methodCall_KW (pl:=pl) (thn (ytY (X:=X) hg hm hd pins s σ H (fun v H1=>v=.ref C/\H1=H) I ⟨rfl,rfl⟩) fun u s1 ⟨v,H1,I1,rx,ex,eh⟩=>?_) ht
 subst ex eh
 obtain rfl:u=Value.ref C:=rx
 refine PySem.W.method_cls I1.kIn c.sp (PySem.W.cls_value I1.kIn c.rd c.fc rfl ?_)
 have I1:=I1.tok (s1.toks+1)
 refine PySem.W.callWith_K (first:=[]) (h₀:=X.base) I.ok.mod.kin c.kp (thn (ha pos pins _ σ H1 _ I1 h) fun us s2 ⟨vs,H2,I2,r,q2⟩=>⟨I2.kIn,?_⟩) hst hpl
 exact yvu (us:=us) (vs:=vs) F hr hb .nil hx I2 r q2
theorem yFT {C f:Addr}{lv k:Nat}{fd:FuncData}{ps:List Str}{fi} {pl:Sem Bool}{o:Expr}{sp:Pos}(c:yFR X.K C m f) (nm:Nm x) (hg:Gl X x) (hm:X.mg x=some (.ref C)) (F:FnOk X.prog X.w X.K X.mg X.base CX0 lv f fd ps (spJ (ckX X A) n k fi)) (hr:Room lv X.A) (hb:Binds X.K fd ps [])
  (ho:PE X o (yCv 0)) (ha:ZA X A es n aa) (hst:starEach (o::es) X.env=(false,eval o X.env)::starEach es X.env) (hpl:(backTo pos (starEach es X.env)).any (·.1)=false)
  (ht:eval (.Call (.Attribute (.Name x p) m apos) (o::es) [] pos) X.env=(do
   let ov <- eval (.Name x p) X.env
   standAt apos.atName
   let (f,first) <- holding [ov] (getMethod ov m pl)
   callWith pos f first (backTo pos (starEach (o::es) X.env)) (backToKw pos (keywordEach [] X.env))))
  (hq:swapsWith (.Call (.Attribute (.Name x p) m apos) (o::es) [] pos) none sp.line X.env=pure false):ZF X A (.Expr (.Call (.Attribute (.Name x p) m apos) (o::es) [] pos) sp) (xBI k fi aa) :=
 wF (ytR (yFS (E:=fun _ _ _=>False) c hg hm F hr hb ywy (ylH ho ha.of hst) nm.d hst hpl ht) hq) (yFC (K:=ckX X A) sA ha.len)
end
section
variable {P:Program}{w:World}{K:PySem.W.Frag}{mg:Str->Option Value}{base:Heap}{A:Nat->Addr}
theorem yMd {x qual:Str}{st:Stmt}{f:Addr}{fd:FuncData}{N ps:List Str}{k kc n:Nat}{s:XS}(F:Fun K x qual st f fd) (S:yq N ps (yb st)) (hn:ps.length=n+1) (hN:n+1<=N.length)
  (h:∀ (cdv:Value) (Ar:Around) (outer:List Env) (sh:Shared) (H:Hp) (E:XK),Room k (Ar.deeper (envOfC qual (yb st) sh.heap.objs.size f cdv))->ZFs (yAH CX0 P w K mg base N qual (yb st) f cdv Ar outer sh H E).nox A (yj st) s) :
  FnOk P w K mg base CX0 (k+1) f fd ps (spJ ⟨K,A⟩ n kc (ytM N.length kc s)) :=
 F.ok S (fun _ _ _ _ h=>(yFB h).trans hn.symm) fun cdv Ar outer sh H vs Q E hr hq=>⟨_,(h cdv Ar outer sh H E hr).of,yyS (K:=⟨K,A⟩) hN sF hq⟩
end
end PX
namespace PX
open PySem L2 PySem.Spec PyProof.Rows
section
variable {X:Cx}{A:Nat->Addr}
theorem ymy:yjW X (.type "dict") yyT:=by
 intro pins s σ H xs us Q I r h
 obtain ⟨a,kvs,rfl,ha,q⟩:=h
 obtain ⟨u,rfl,rx⟩:=vals1 r
 cases rx
 obtain ⟨z,sy,ws,kv,hD⟩:=I.hok a _ ha
 have lw:ws.length=kvs.length:=kv.length.symm
 refine kt_call_dict sy hD (by rw [lw];exact z) fun h' hd sb=>?_
 have kp:∀ b o,s.heap.get? b=some o->h'.get? b=some o:=fun b o e=>(sb.2 b (Nat.ne_of_lt (Heap.lt_size e))).trans (Heap.get?_push_of_some _ e)
 refine ⟨.ref s.heap.objs.size,_,I.laid (t':=s.toks) kp (Nat.le_refl _) (show ObjOk X.prog X.w _ h' _ (.dK kvs) from ⟨z,?_,ws,kv,hd⟩),rfl,q _ (I.hok.fresh (Nat.le_refl _))⟩
 exact beq_eq_false_iff_ne.mpr (Nat.ne_of_gt I.big)
end
end PX
namespace PX
open PySem L2 PySem.Spec PyProof.Rows
section
variable {prog:Program}{w:World}{A:Around}{E:Value->Shared->Prop}{s:Shared}
theorem ykf {t sl:Addr}{items:Array Value}{vl vu:Value}{lo hi:Option Int}{Q:Value->Shared->Prop}(ht:IsTup s.heap t items) (hs:s.heap.IsSliceOf sl vl vu .none) (pl:IsPart vl lo) (pu:IsPart vu hi)
  (hw:HT.sIx items.size 0 lo=0/\HT.sIx items.size items.size hi=items.size) (h:Q (.ref t) s):wpAny (model prog w) A (getItem (.ref t) (.ref sl)) Q E s:=by
 obtain ⟨os,hos,hcs,hds⟩:=id hs
 have hTs:s.TypeIs (.ref sl) "slice":=⟨os,hos,hcs⟩
 unfold getItem
 try with_reducible refine wpAny_holding ?_
 first|refine wpAny_bind (wpAny_pure ?_)|skip
 refine wpAny_bind (wpAny_sequenceKey ht.typeIs (by decide) ?_)
 refine wpAny_bind (wpAny_callSpecial?_slot (name:=Str.ofString "__getitem__") ht.typeIs PyProof.Rows.slot_tuple_getitem
  (wpAny_call_entry PyProof.Rows.slot_tuple_getitem ht.typeIs entry_tuple_getitem ?_ (args_tuple_getitem _ _)))
 show wpAny _ _ (Builtin.Tuple.tupleItemsOf (.ref t) >>= _) _ _ s
 refine wpAny_bind (tupleItemsOf_ ht ?_)
 refine wpAny_bind (wpAny_typeOf hTs ?_)
 rw [if_pos (by decide)]
 refine wpAny_bind (HT.sliceApplied_gen hs pl pu ?_)
 show wpAny _ _ (if (((HT.sIx items.size 0 lo:Nat):Int) == 0 && (1:Int) == 1 && (HT.sIx items.size items.size hi-HT.sIx items.size 0 lo) == items.size)=true then _ else _) _ _ s
 rw [if_pos (by rw [hw.1,hw.2];simp)]
 unfold Builtin.Tuple.tupleIsExact
 refine wpAny_bind (wpAny_bind (wpAny_typeOf ht.typeIs (wpAny_pure ?_)))
 rw [if_pos (by decide)]
 refine wpAny_bind (wpAny_rule ?_)
 exact wpAny_pure ⟨_,rfl,wpAny_pure h⟩
end
section
variable {X:Cx}{A:Nat->Addr}
theorem yBU:SlR X (yLA X.K):=by
 intro pins s σ H x v vl vu lo hi sl Q I rx hs pl pu h
 obtain ⟨a,xs,rfl,hx,hw,q⟩:=h
 cases rx
 obtain ⟨its,r,ht,hz⟩:=I.tuple hx
 have hlen:its.toArray.size=xs.length:=by rw [List.size_toArray];exact r.length.symm
 exact ⟨"tuple",_,PyProof.Rows.slot_tuple_getitem.lookup,ht.typeIs,ykf ht hs pl pu (by rw [hlen];exact hw) ⟨.ref a,H,I,rfl,q⟩⟩
theorem yFU:SlR X (yIa X.K):=SlR.or yGW yBU
end
end PX
namespace PX
open PySem L2 PySem.Spec PyProof.Rows
open Builtin Builtin.Str in
section
variable {prog:Program}{w:World}{A:Around}{E:Value->Shared->Prop}{s:Shared}
end
section
variable {X:Cx}{A:Nat->Addr}
end
section
variable {X:Cx}{pins:List (Addr×Obj)}{σ:L2.St}{H:Hp}{s:Shared}{h':Heap}
end
section
variable {X:Cx}{A:Nat->Addr}{elts:List Expr}{x1:Nat}{tp p pos:Pos}{a b:Expr}{aa:XA}{n:Nat}
end
end PX
namespace My
open PySem L2 PX
theorem yIp:("abc":Str).length=3:=by rfl'
theorem yIq:("abcdefghijklmnopqrstuvwxyz":Str).length=26:=by rfl'
theorem yDp {v0 v1:PV}{h:AH}:yie [0] "stack" (.ins 0 ["stack","last_seen"] [v0,v1]) h=some (v0,h):=ybX (by decide) (by rfl') (by rw [show List.idxOf ("stack":Str) ["stack","last_seen"]=0 by rfl'];rfl)
theorem yxu {v0 v1:PV}{h:AH}:yie [0] "last_seen" (.ins 0 ["stack","last_seen"] [v0,v1]) h=some (v1,h):=ybX (by decide) (by rfl') (by rw [show List.idxOf ("last_seen":Str) ["stack","last_seen"]=1 by rfl'];rfl)
theorem ysE {x:PV}{ρ:PSt}{h:AH}:ylG [0] 0 "stack" (.own (.ins 0 [] [])::ρ) x h=some (.nx (.own (.ins 0 ["stack"] [x])::ρ),h):=ydg (by decide) (by decide) (by rfl')
theorem ymX {v0:PV}{x:PV}{ρ:PSt}{h:AH}:ylG [0] 0 "last_seen" (.own (.ins 0 ["stack"] [v0])::ρ) x h=some (.nx (.own (.ins 0 ["stack","last_seen"] [v0,x])::ρ),h):=ydg (by decide) (by decide) (by rfl')
theorem yBV {v0 v1 v2 v3:PV}{h:AH}:yie [1] "held" (.ins 1 ["held","width","log","found"] [v0,v1,v2,v3]) h=some (v0,h):=ybX (by decide) (by rfl') (by rw [show List.idxOf ("held":Str) ["held","width","log","found"]=0 by rfl'];rfl)
theorem yAr {v0 v1 v2 v3:PV}{h:AH}:yie [1] "width" (.ins 1 ["held","width","log","found"] [v0,v1,v2,v3]) h=some (v1,h):=ybX (by decide) (by rfl') (by rw [show List.idxOf ("width":Str) ["held","width","log","found"]=1 by rfl'];rfl)
theorem yDq {v0 v1 v2 v3:PV}{h:AH}:yie [1] "log" (.ins 1 ["held","width","log","found"] [v0,v1,v2,v3]) h=some (v2,h):=ybX (by decide) (by rfl') (by rw [show List.idxOf ("log":Str) ["held","width","log","found"]=2 by rfl'];rfl)
theorem yAs {v0 v1 v2 v3:PV}{h:AH}:yie [1] "found" (.ins 1 ["held","width","log","found"] [v0,v1,v2,v3]) h=some (v3,h):=ybX (by decide) (by rfl') (by rw [show List.idxOf ("found":Str) ["held","width","log","found"]=3 by rfl'];rfl)
theorem yqI {x:PV}{ρ:PSt}{h:AH}:ylG [1] 0 "held" (.own (.ins 1 [] [])::ρ) x h=some (.nx (.own (.ins 1 ["held"] [x])::ρ),h):=ydg (by decide) (by decide) (by rfl')
theorem ype {v0:PV}{x:PV}{ρ:PSt}{h:AH}:ylG [1] 0 "width" (.own (.ins 1 ["held"] [v0])::ρ) x h=some (.nx (.own (.ins 1 ["held","width"] [v0,x])::ρ),h):=ydg (by decide) (by decide) (by rfl')
theorem ysF {v0 v1:PV}{x:PV}{ρ:PSt}{h:AH}:ylG [1] 0 "log" (.own (.ins 1 ["held","width"] [v0,v1])::ρ) x h=some (.nx (.own (.ins 1 ["held","width","log"] [v0,v1,x])::ρ),h):=ydg (by decide) (by decide) (by rfl')
theorem ypf {v0 v1 v2:PV}{x:PV}{ρ:PSt}{h:AH}:ylG [1] 0 "found" (.own (.ins 1 ["held","width","log"] [v0,v1,v2])::ρ) x h=some (.nx (.own (.ins 1 ["held","width","log","found"] [v0,v1,v2,x])::ρ),h):=ydg (by decide) (by decide) (by rfl')
theorem yuA {v0 v1:PV}{h:AH}:yie [3,4,5,6,7,9,10] "slot" (.ins 3 ["slot","number"] [v0,v1]) h=some (v0,h):=ybX (by decide) (by rfl') (by rw [show List.idxOf ("slot":Str) ["slot","number"]=0 by rfl'];rfl)
theorem yqJ {v0 v1:PV}{h:AH}:yie [3] "number" (.ins 3 ["slot","number"] [v0,v1]) h=some (v1,h):=ybX (by decide) (by rfl') (by rw [show List.idxOf ("number":Str) ["slot","number"]=1 by rfl'];rfl)
theorem yuB {x:PV}{ρ:PSt}{h:AH}:ylG [3,4,5,6,7,9,10] 0 "slot" (.own (.ins 3 [] [])::ρ) x h=some (.nx (.own (.ins 3 ["slot"] [x])::ρ),h):=ydg (by decide) (by decide) (by rfl')
theorem yqK {v0:PV}{x:PV}{ρ:PSt}{h:AH}:ylG [3] 0 "number" (.own (.ins 3 ["slot"] [v0])::ρ) x h=some (.nx (.own (.ins 3 ["slot","number"] [v0,x])::ρ),h):=ydg (by decide) (by decide) (by rfl')
theorem ypg {v0 v1 v2 v3:PV}{h:AH}:yie [4] "word" (.ins 4 ["word","slot","one","other"] [v0,v1,v2,v3]) h=some (v0,h):=ybX (by decide) (by rfl') (by rw [show List.idxOf ("word":Str) ["word","slot","one","other"]=0 by rfl'];rfl)
theorem yph {v0 v1 v2 v3:PV}{h:AH}:yie [3,4,5,6,7,9,10] "slot" (.ins 4 ["word","slot","one","other"] [v0,v1,v2,v3]) h=some (v1,h):=ybX (by decide) (by rfl') (by rw [show List.idxOf ("slot":Str) ["word","slot","one","other"]=1 by rfl'];rfl)
theorem yqL {v0 v1 v2 v3:PV}{h:AH}:yie [4] "one" (.ins 4 ["word","slot","one","other"] [v0,v1,v2,v3]) h=some (v2,h):=ybX (by decide) (by rfl') (by rw [show List.idxOf ("one":Str) ["word","slot","one","other"]=2 by rfl'];rfl)
theorem yoj {v0 v1 v2 v3:PV}{h:AH}:yie [4] "other" (.ins 4 ["word","slot","one","other"] [v0,v1,v2,v3]) h=some (v3,h):=ybX (by decide) (by rfl') (by rw [show List.idxOf ("other":Str) ["word","slot","one","other"]=3 by rfl'];rfl)
theorem ypi {x:PV}{ρ:PSt}{h:AH}:ylG [4] 0 "word" (.own (.ins 4 [] [])::ρ) x h=some (.nx (.own (.ins 4 ["word"] [x])::ρ),h):=ydg (by decide) (by decide) (by rfl')
theorem ypj {v0:PV}{x:PV}{ρ:PSt}{h:AH}:ylG [3,4,5,6,7,9,10] 0 "slot" (.own (.ins 4 ["word"] [v0])::ρ) x h=some (.nx (.own (.ins 4 ["word","slot"] [v0,x])::ρ),h):=ydg (by decide) (by decide) (by rfl')
theorem yqM {v0 v1:PV}{x:PV}{ρ:PSt}{h:AH}:ylG [4] 0 "one" (.own (.ins 4 ["word","slot"] [v0,v1])::ρ) x h=some (.nx (.own (.ins 4 ["word","slot","one"] [v0,v1,x])::ρ),h):=ydg (by decide) (by decide) (by rfl')
theorem yok {v0 v1 v2:PV}{x:PV}{ρ:PSt}{h:AH}:ylG [4] 0 "other" (.own (.ins 4 ["word","slot","one"] [v0,v1,v2])::ρ) x h=some (.nx (.own (.ins 4 ["word","slot","one","other"] [v0,v1,v2,x])::ρ),h):=ydg (by decide) (by decide) (by rfl')
theorem ysG {v0 v1:PV}{h:AH}:yie [3,4,5,6,7,9,10] "slot" (.ins 5 ["slot","place"] [v0,v1]) h=some (v0,h):=ybX (by decide) (by rfl') (by rw [show List.idxOf ("slot":Str) ["slot","place"]=0 by rfl'];rfl)
theorem yqN {v0 v1:PV}{h:AH}:yie [5,6] "place" (.ins 5 ["slot","place"] [v0,v1]) h=some (v1,h):=ybX (by decide) (by rfl') (by rw [show List.idxOf ("place":Str) ["slot","place"]=1 by rfl'];rfl)
theorem ysH {x:PV}{ρ:PSt}{h:AH}:ylG [3,4,5,6,7,9,10] 0 "slot" (.own (.ins 5 [] [])::ρ) x h=some (.nx (.own (.ins 5 ["slot"] [x])::ρ),h):=ydg (by decide) (by decide) (by rfl')
theorem yqO {v0:PV}{x:PV}{ρ:PSt}{h:AH}:ylG [5,6] 0 "place" (.own (.ins 5 ["slot"] [v0])::ρ) x h=some (.nx (.own (.ins 5 ["slot","place"] [v0,x])::ρ),h):=ydg (by decide) (by decide) (by rfl')
theorem ysI {v0 v1:PV}{h:AH}:yie [5,6] "place" (.ins 6 ["place","slot"] [v0,v1]) h=some (v0,h):=ybX (by decide) (by rfl') (by rw [show List.idxOf ("place":Str) ["place","slot"]=0 by rfl'];rfl)
theorem yuC {v0 v1:PV}{h:AH}:yie [3,4,5,6,7,9,10] "slot" (.ins 6 ["place","slot"] [v0,v1]) h=some (v1,h):=ybX (by decide) (by rfl') (by rw [show List.idxOf ("slot":Str) ["place","slot"]=1 by rfl'];rfl)
theorem ysJ {x:PV}{ρ:PSt}{h:AH}:ylG [5,6] 0 "place" (.own (.ins 6 [] [])::ρ) x h=some (.nx (.own (.ins 6 ["place"] [x])::ρ),h):=ydg (by decide) (by decide) (by rfl')
theorem yuD {v0:PV}{x:PV}{ρ:PSt}{h:AH}:ylG [3,4,5,6,7,9,10] 0 "slot" (.own (.ins 6 ["place"] [v0])::ρ) x h=some (.nx (.own (.ins 6 ["place","slot"] [v0,x])::ρ),h):=ydg (by decide) (by decide) (by rfl')
theorem ywY {v0 v1 v2:PV}{h:AH}:yie [3,4,5,6,7,9,10] "slot" (.ins 7 ["slot","parts","others"] [v0,v1,v2]) h=some (v0,h):=ybX (by decide) (by rfl') (by rw [show List.idxOf ("slot":Str) ["slot","parts","others"]=0 by rfl'];rfl)
theorem yuE {v0 v1 v2:PV}{h:AH}:yie [7,8,9] "parts" (.ins 7 ["slot","parts","others"] [v0,v1,v2]) h=some (v1,h):=ybX (by decide) (by rfl') (by rw [show List.idxOf ("parts":Str) ["slot","parts","others"]=1 by rfl'];rfl)
theorem ysK {v0 v1 v2:PV}{h:AH}:yie [7,8,9] "others" (.ins 7 ["slot","parts","others"] [v0,v1,v2]) h=some (v2,h):=ybX (by decide) (by rfl') (by rw [show List.idxOf ("others":Str) ["slot","parts","others"]=2 by rfl'];rfl)
theorem ywZ {x:PV}{ρ:PSt}{h:AH}:ylG [3,4,5,6,7,9,10] 0 "slot" (.own (.ins 7 [] [])::ρ) x h=some (.nx (.own (.ins 7 ["slot"] [x])::ρ),h):=ydg (by decide) (by decide) (by rfl')
theorem yuF {v0:PV}{x:PV}{ρ:PSt}{h:AH}:ylG [7,8,9] 0 "parts" (.own (.ins 7 ["slot"] [v0])::ρ) x h=some (.nx (.own (.ins 7 ["slot","parts"] [v0,x])::ρ),h):=ydg (by decide) (by decide) (by rfl')
theorem ysL {v0 v1:PV}{x:PV}{ρ:PSt}{h:AH}:ylG [7,8,9] 0 "others" (.own (.ins 7 ["slot","parts"] [v0,v1])::ρ) x h=some (.nx (.own (.ins 7 ["slot","parts","others"] [v0,v1,x])::ρ),h):=ydg (by decide) (by decide) (by rfl')
theorem ysM {v0 v1 v2 v3:PV}{h:AH}:yie [7,8,9] "parts" (.ins 9 ["parts","name","slot","others"] [v0,v1,v2,v3]) h=some (v0,h):=ybX (by decide) (by rfl') (by rw [show List.idxOf ("parts":Str) ["parts","name","slot","others"]=0 by rfl'];rfl)
theorem yuG {v0 v1 v2 v3:PV}{h:AH}:yie [9,10] "name" (.ins 9 ["parts","name","slot","others"] [v0,v1,v2,v3]) h=some (v1,h):=ybX (by decide) (by rfl') (by rw [show List.idxOf ("name":Str) ["parts","name","slot","others"]=1 by rfl'];rfl)
theorem yuH {v0 v1 v2 v3:PV}{h:AH}:yie [3,4,5,6,7,9,10] "slot" (.ins 9 ["parts","name","slot","others"] [v0,v1,v2,v3]) h=some (v2,h):=ybX (by decide) (by rfl') (by rw [show List.idxOf ("slot":Str) ["parts","name","slot","others"]=2 by rfl'];rfl)
theorem yqP {v0 v1 v2 v3:PV}{h:AH}:yie [7,8,9] "others" (.ins 9 ["parts","name","slot","others"] [v0,v1,v2,v3]) h=some (v3,h):=ybX (by decide) (by rfl') (by rw [show List.idxOf ("others":Str) ["parts","name","slot","others"]=3 by rfl'];rfl)
theorem ysN {x:PV}{ρ:PSt}{h:AH}:ylG [7,8,9] 0 "parts" (.own (.ins 9 [] [])::ρ) x h=some (.nx (.own (.ins 9 ["parts"] [x])::ρ),h):=ydg (by decide) (by decide) (by rfl')
theorem yuI {v0:PV}{x:PV}{ρ:PSt}{h:AH}:ylG [9,10] 0 "name" (.own (.ins 9 ["parts"] [v0])::ρ) x h=some (.nx (.own (.ins 9 ["parts","name"] [v0,x])::ρ),h):=ydg (by decide) (by decide) (by rfl')
theorem yuJ {v0 v1:PV}{x:PV}{ρ:PSt}{h:AH}:ylG [3,4,5,6,7,9,10] 0 "slot" (.own (.ins 9 ["parts","name"] [v0,v1])::ρ) x h=some (.nx (.own (.ins 9 ["parts","name","slot"] [v0,v1,x])::ρ),h):=ydg (by decide) (by decide) (by rfl')
theorem yqQ {v0 v1 v2:PV}{x:PV}{ρ:PSt}{h:AH}:ylG [7,8,9] 0 "others" (.own (.ins 9 ["parts","name","slot"] [v0,v1,v2])::ρ) x h=some (.nx (.own (.ins 9 ["parts","name","slot","others"] [v0,v1,v2,x])::ρ),h):=ydg (by decide) (by decide) (by rfl')
theorem yqR {v0 v1:PV}{h:AH}:yie [9,10] "name" (.ins 10 ["name","slot"] [v0,v1]) h=some (v0,h):=ybX (by decide) (by rfl') (by rw [show List.idxOf ("name":Str) ["name","slot"]=0 by rfl'];rfl)
theorem yqS {v0 v1:PV}{h:AH}:yie [3,4,5,6,7,9,10] "slot" (.ins 10 ["name","slot"] [v0,v1]) h=some (v1,h):=ybX (by decide) (by rfl') (by rw [show List.idxOf ("slot":Str) ["name","slot"]=1 by rfl'];rfl)
theorem yqT {x:PV}{ρ:PSt}{h:AH}:ylG [9,10] 0 "name" (.own (.ins 10 [] [])::ρ) x h=some (.nx (.own (.ins 10 ["name"] [x])::ρ),h):=ydg (by decide) (by decide) (by rfl')
theorem yqU {v0:PV}{x:PV}{ρ:PSt}{h:AH}:ylG [3,4,5,6,7,9,10] 0 "slot" (.own (.ins 10 ["name"] [v0])::ρ) x h=some (.nx (.own (.ins 10 ["name","slot"] [v0,x])::ρ),h):=ydg (by decide) (by decide) (by rfl')
section
local macro_rules | `(tactic| simp_all? only [$ls,*])=>`(tactic| simp only [yv,yJS,yBs,yHs,yHt,x_c,yJd,yJU,yLs,yCS,yHu,yHv,yJV,yLV,yJW,yLW,yyv,yvG,yHw,yJX,yJY,yJZ,yKa,yFd,x_call,yLX,yHx,yHy,yFe,yHz,yFf,yCT,ymT,ywM,yKb,ynS,yyw,yHA,ywN,yHB,yHC,yHD,yFg,yHE,yKc,yKd,yKe,yKf,yFh,yKg,yKh,yKi,yKj,yKk,x_i,yLY,ypd,yHF,yHG,yKl,yKm,yKn,yKo,yKp,yCU,yKq,yKr,yKs,yKt,yKu,yKv,yLZ,yKw,yHH,yBt,yCV,yHI,yHJ,yHK,yFi,yuo,yCW,yJT,Option.bind_some,Option.bind_none,List.set_cons_zero,List.set_cons_succ,List.length_cons,List.length_nil,decide_eq_true_eq,Bool.not_eq_true',decide_eq_false_iff_not,if_true,if_false,ite_true,ite_false,and_self,Int.reducePow,Int.reduceToNat,Int.reduceLT,Int.reduceLE,Int.reduceNeg,Int.reduceAdd,Int.reduceSub,Nat.reduceLT,Nat.reduceLeDiff,Nat.reduceAdd,true_and,and_true,reduceIte,Nat.reduceEqDiff,eq_self,yHT,yHU,yKE,yLu,yMb,yKA,yKB,yKC,yKD,Int.reduceEq,Bool.not_true,Bool.not_false,yIp,yIq,ysE,ymX,yqI,ype,ysF,ypf,yuA,yqJ,yuB,yqK,ypg,yph,yqL,yoj,ypi,ypj,yqM,yok,ysG,yqN,ysH,yqO,ysI,yuC,ysJ,yuD,ywY,yuE,ysK,ywZ,yuF,ysL,ysM,yuG,yuH,yqP,ysN,yuI,yuJ,yqQ,yqR,yqS,yqT,yqU,yFu,yFv,$ls,*])
local macro_rules | `(tactic| walk_at "px")=>`(tactic| simp_all? only [yv])
noncomputable def yK:List (Nat×Nat×Bool):=[(3,3,true),(3,4,false),(3,5,false),(3,6,false),(3,7,false),(3,8,false),(3,9,false),(3,10,false),(3,11,false),(4,3,false),(4,4,true),(4,5,false),(4,6,false),(4,7,false),(4,8,false),(4,9,false),(4,10,false),(4,11,false),(5,3,false),(5,4,false),(5,5,true),(5,6,false),(5,7,false),(5,8,false),(5,9,false),(5,10,false),(5,11,false),(6,3,false),(6,4,false),(6,5,false),(6,6,true),(6,7,false),(6,8,false),(6,9,false),(6,10,false),(6,11,false),(7,3,false),(7,4,false),(7,5,false),(7,6,false),(7,7,true),(7,8,false),(7,9,false),(7,10,false),(7,11,false),(9,3,false),(9,4,false),(9,5,false),(9,6,false),(9,7,false),(9,8,false),(9,9,true),(9,10,false),(9,11,false),(10,3,false),(10,4,false),(10,5,false),(10,6,false),(10,7,false),(10,8,false),(10,9,false),(10,10,true),(10,11,false),(11,3,false),(11,4,false),(11,5,false),(11,6,false),(11,7,false),(11,8,false),(11,9,false),(11,10,false),(11,11,true)]
structure Fa (ck:Ck):Prop where
 fl_stack:∀ k∈([0]:List Nat),Cls ck.K (ck.A k)/\NoAttr ck.K (ck.A k) "stack"
 fl_last_seen:∀ k∈([0]:List Nat),Cls ck.K (ck.A k)/\NoAttr ck.K (ck.A k) "last_seen"
 fl_held:∀ k∈([1]:List Nat),Cls ck.K (ck.A k)/\NoAttr ck.K (ck.A k) "held"
 fl_width:∀ k∈([1]:List Nat),Cls ck.K (ck.A k)/\NoAttr ck.K (ck.A k) "width"
 fl_log:∀ k∈([1]:List Nat),Cls ck.K (ck.A k)/\NoAttr ck.K (ck.A k) "log"
 fl_found:∀ k∈([1]:List Nat),Cls ck.K (ck.A k)/\NoAttr ck.K (ck.A k) "found"
 fl_slot:∀ k∈([3,4,5,6,7,9,10]:List Nat),Cls ck.K (ck.A k)/\NoAttr ck.K (ck.A k) "slot"
 fl_number:∀ k∈([3]:List Nat),Cls ck.K (ck.A k)/\NoAttr ck.K (ck.A k) "number"
 fl_word:∀ k∈([4]:List Nat),Cls ck.K (ck.A k)/\NoAttr ck.K (ck.A k) "word"
 fl_one:∀ k∈([4]:List Nat),Cls ck.K (ck.A k)/\NoAttr ck.K (ck.A k) "one"
 fl_other:∀ k∈([4]:List Nat),Cls ck.K (ck.A k)/\NoAttr ck.K (ck.A k) "other"
 fl_place:∀ k∈([5,6]:List Nat),Cls ck.K (ck.A k)/\NoAttr ck.K (ck.A k) "place"
 fl_parts:∀ k∈([7,8,9]:List Nat),Cls ck.K (ck.A k)/\NoAttr ck.K (ck.A k) "parts"
 fl_others:∀ k∈([7,8,9]:List Nat),Cls ck.K (ck.A k)/\NoAttr ck.K (ck.A k) "others"
 fl_name:∀ k∈([9,10]:List Nat),Cls ck.K (ck.A k)/\NoAttr ck.K (ck.A k) "name"
 isa:∀ r∈yK,∀ (H:Hp) (a dx:Addr) (fs:List (Str×V)),H a=some (.ins (ck.A r.1) dx fs)->IsI ck.K H (.ref a) (.ref (ck.A r.2.1)) r.2.2
noncomputable def yec:List PV->AH->Option (Nd×AH):=ytM 1 0 (yw (yfc [0] 0 "stack" (ylK (ylF (yc (ylK (ysw)) (yr))))) (yfc [0] 0 "last_seen" (ylK (ysw))))
noncomputable def ygH:Fn:=ygG 4 (yw (ydf (xOp (yhL) (yfi [0] "stack" (yg 0)) (xUn yJa (xC (.int 1)))) (yz 3)) (yqw (yg 3) (yg 1) (yg 2)))
noncomputable def yfQ:Fn:=ygG 3 (yw (yBH true (yfi [0] "stack" (yg 0)) (yz 2) (ycL (yJ (yyG false (yg 1) (yg 2))) (ycB (yut (yg 2) (yg 1))) (ybH))) (ycB (xC .non)))
def ygI:Fn:=ygG 1 (yff (xBM yqu (ywP) (yfi [0] "stack" (yg 0)) (yc (ylK (ysw)) (yr))))
noncomputable def yfR:Fn:=ygG 3 (yw (ydf (xBM yqu (ywQ) (yfi [0] "stack" (yg 0)) (yr)) (yz 1)) (yw (ydf (xOp (yhL) (yfi [0] "stack" (yg 0)) (xUn yJa (xC (.int 1)))) (yz 2)) (yff (xBM ywV (yGn) (yg 2) (yc (yg 1) (yr))))))
def ygF:Fn:=ygG 1 (yff (xBM yqu (ywQ) (yfi [0] "stack" (yg 0)) (yr)))
def yja:Fn:=ygG 3 (yqw (yfi [0] "last_seen" (yg 0)) (yg 1) (yg 2))
def ygJ:Fn:=ygG 1 (ycB (ylK (ynX (yfi [0] "last_seen" (yg 0)))))
def ygK:Fn:=ygG 2 (yw (ydf (xOp (yhL) (yfi [0] "stack" (yg 0)) (xC (.int 0))) (yz 1)) (ycB (ylK (ynX (yg 1)))))
noncomputable def ykU:Fn:=ygG 3 (yw (ycL (yJ (xOp (oEq) (yg 0) (xC (.str "plus")))) (ycB (xOp oMod (xOp ynQ (yg 1) (yg 2)) (xC (.int 18446744073709551616)))) (ybH)) (yw (ycL (yJ (xOp (oEq) (yg 0) (xC (.str "minus")))) (ycB (xOp oMod (xOp yHm (yg 1) (yg 2)) (xC (.int 18446744073709551616)))) (ybH)) (yw (ycL (yJ (xOp (oEq) (yg 0) (xC (.str "times")))) (ycB (xOp oMod (xOp yCP (yg 1) (yg 2)) (xC (.int 18446744073709551616)))) (ybH)) (yw (ycL (yJ (xOp (oEq) (yg 0) (xC (.str "less")))) (ycB (xIf (yJ (xOp (oLt) (yg 1) (yg 2))) (xC (.int 1)) (xC (.int 0)))) (ybH)) (ycB (xIf (yJ (xOp (oEq) (yg 1) (yg 2))) (xC (.int 1)) (xC (.int 0))))))))
def ydw:Fn:=ygG 1 (ycB (xBM isStr (ydW) (xC (.str "abcdefgh")) (yc (yg 0) (yr))))
noncomputable def ydx:List PV->AH->Option (Nd×AH):=ytM 3 1 (yw (yfc [1] 0 "held" (ylK (ynM (ybW) (yc (yg 1) (yr))))) (yw (yfc [1] 0 "width" (yg 2)) (yfc [1] 0 "log" (ylK (ylN yec (yr))))))
def yV:Fn:=ygG 2 (ycB (xOp (yhL) (yfi [1] "held" (yg 0)) (ycJ ydw (yc (yg 1) (yr)))))
def ybI:Fn:=ygG 3 (ymU (yfi [1] "held" (yg 0)) (ycJ ydw (yc (yg 1) (yr))) (yg 2))
def ybw:Fn:=ygG 2 (ycB (xOp oMod (yO 1 "held_in" yV (yg 0) (yc (yg 1) (yr))) (yfi [1] "width" (yg 0))))
noncomputable def ydi:Fn:=ygG 5 (yff (yO 1 "hold" ybI (yg 0) (yc (yg 2) (yc (ycJ ykU (yc (yg 1) (yc (yO 1 "held_in" yV (yg 0) (yc (yg 3) (yr))) (yc (yO 1 "held_in" yV (yg 0) (yc (yg 4) (yr))) (yr))))) (yr)))))
noncomputable def yeJ:Fn:=ygG 3 (yff (yO 0 "write" ygH (yfi [1] "log" (yg 0)) (yc (yO 1 "box_at" ybw (yg 0) (yc (yg 1) (yr))) (yc (yO 1 "held_in" yV (yg 0) (yc (yg 2) (yr))) (yr)))))
noncomputable def yed:Fn:=ygG 2 (ycB (xOp (yGl) (yO 0 "own" yfQ (yfi [1] "log" (yg 0)) (yc (yO 1 "box_at" ybw (yg 0) (yc (yg 1) (yr))) (yr))) (xC .non)))
noncomputable def ydy:Fn:=ygG 3 (yff (yO 1 "hold" ybI (yg 0) (yc (yg 1) (yc (yO 0 "own" yfQ (yfi [1] "log" (yg 0)) (yc (yO 1 "box_at" ybw (yg 0) (yc (yg 2) (yr))) (yr))) (yr)))))
noncomputable def ydj:Fn:=ygG 5 (yw (ydf (yO 1 "box_at" ybw (yg 0) (yc (yg 2) (yr))) (yz 4)) (yw (yff (yO 0 "see" yja (yfi [1] "log" (yg 0)) (yc (yg 4) (yc (xOp (yhL) (yg 3) (yg 4)) (yr))))) (yff (yO 1 "hold" ybI (yg 0) (yc (yg 1) (yc (xOp (yhL) (yg 3) (yg 4)) (yr)))))))
def yee:List PV->AH->Option (Nd×AH):=ytM 3 3 (yw (yfc [3,4,5,6,7,9,10] 0 "slot" (yg 1)) (yfc [3] 0 "number" (yg 2)))
noncomputable def ycG:List PV->AH->Option (Nd×AH):=ytM 5 4 (yw (yfc [4] 0 "word" (yg 1)) (yw (yfc [3,4,5,6,7,9,10] 0 "slot" (yg 2)) (yw (yfc [4] 0 "one" (yg 3)) (yfc [4] 0 "other" (yg 4)))))
def ydz:List PV->AH->Option (Nd×AH):=ytM 3 5 (yw (yfc [3,4,5,6,7,9,10] 0 "slot" (yg 1)) (yfc [5,6] 0 "place" (yg 2)))
def yef:List PV->AH->Option (Nd×AH):=ytM 3 6 (yw (yfc [5,6] 0 "place" (yg 1)) (yfc [3,4,5,6,7,9,10] 0 "slot" (yg 2)))
noncomputable def ydk:List PV->AH->Option (Nd×AH):=ytM 3 1 (yw (xBI 1 ydx (yc (yg 2) (yc (xCB (yiU) (yc (yg 1) (yr))) (yr)))) (yfc [1] 0 "found" (xFz (ynM (ybW) (yc (yg 1) (yr))))))
noncomputable def ycH:Fn:=ygG 2 (ycL (yJ (yO 1 "sees_at" yed (yg 0) (yc (yfi [5,6] "place" (yg 1)) (yr)))) (yff (yO 1 "take_seen" ydj (yg 0) (yc (yfi [3,4,5,6,7,9,10] "slot" (yg 1)) (yc (yfi [5,6] "place" (yg 1)) (yc (yfi [1] "found" (yg 0)) (yr)))))) (yff (yO 1 "take_own" ydy (yg 0) (yc (yfi [3,4,5,6,7,9,10] "slot" (yg 1)) (yc (yfi [5,6] "place" (yg 1)) (yr))))))
noncomputable def ycn:Fn:=ygG 2 (yw (ycL (yJ (xCB (ycm yK) (yc (yg 1) (yc (xC (.cls 3)) (yr))))) (yff (yO 1 "hold" ybI (yg 0) (yc (yfi [3,4,5,6,7,9,10] "slot" (yg 1)) (yc (yfi [3] "number" (yg 1)) (yr))))) (ybH)) (yw (ycL (yJ (xCB (ycm yK) (yc (yg 1) (yc (xC (.cls 4)) (yr))))) (yff (yO 1 "do_reckon" ydi (yg 0) (yc (yfi [4] "word" (yg 1)) (yc (yfi [3,4,5,6,7,9,10] "slot" (yg 1)) (yc (yfi [4] "one" (yg 1)) (yc (yfi [4] "other" (yg 1)) (yr))))))) (ybH)) (yw (ycL (yJ (xCB (ycm yK) (yc (yg 1) (yc (xC (.cls 5)) (yr))))) (yff (yO 1 "take_done" ycH (yg 0) (yc (yg 1) (yr)))) (ybH)) (ycL (yJ (xCB (ycm yK) (yc (yg 1) (yc (xC (.cls 6)) (yr))))) (yff (yO 1 "do_put" yeJ (yg 0) (yc (yfi [5,6] "place" (yg 1)) (yc (yfi [3,4,5,6,7,9,10] "slot" (yg 1)) (yr))))) (ybH)))))
mutual
noncomputable def ybb:Nat->Fn
 | 0=>fun _ _=>none
 | n+1=>ygG 4 (yw (yyi (xIL (yg 1)) (yz 2) (yw (ydf (yO 1 "part_end" (yM n) (yg 0) (yc (yg 2) (yr))) (yz 3)) (ycL (yJ (xOp (ywT) (yg 3) (xC (.tup [.str "done"])))) (ycB (yg 3)) (ybH)))) (ycB (xC (.tup [.str "done"]))))
noncomputable def yM:Nat->Fn
 | 0=>fun _ _=>none
 | n+1=>ygG 2 (yw (ycL (yJ (xCB (ycm yK) (yc (yg 1) (yc (xC (.cls 7)) (yr))))) (ycB (yO 1 "if_end" (yfw n) (yg 0) (yc (yg 1) (yr)))) (ybH)) (yw (ycL (yJ (xCB (ycm yK) (yc (yg 1) (yc (xC (.cls 8)) (yr))))) (ycB (yO 1 "either_end" (yhl n) (yg 0) (yc (yg 1) (yr)))) (ybH)) (yw (ycL (yJ (xCB (ycm yK) (yc (yg 1) (yc (xC (.cls 9)) (yr))))) (ycB (yO 1 "try_end" (yeK n) (yg 0) (yc (yg 1) (yr)))) (ybH)) (yw (ycL (yJ (xCB (ycm yK) (yc (yg 1) (yc (xC (.cls 10)) (yr))))) (ycB (yiQ (yc (xC (.str "fell")) (yc (yfi [9,10] "name" (yg 1)) (yc (yO 1 "held_in" yV (yg 0) (yc (yfi [3,4,5,6,7,9,10] "slot" (yg 1)) (yr))) (yr)))))) (ybH)) (yw (ycL (yJ (xCB (ycm yK) (yc (yg 1) (yc (xC (.cls 11)) (yr))))) (ycB (xC (.tup [.str "waits"]))) (ybH)) (yw (yff (yO 1 "plain_done" ycn (yg 0) (yc (yg 1) (yr)))) (ycB (xC (.tup [.str "done"])))))))))
noncomputable def yfw:Nat->Fn
 | 0=>fun _ _=>none
 | n+1=>ygG 2 (yw (ycL (yJ (xOp (oNe) (yO 1 "held_in" yV (yg 0) (yc (yfi [3,4,5,6,7,9,10] "slot" (yg 1)) (yr))) (xC (.int 0)))) (ycB (yO 1 "list_end" (ybb n) (yg 0) (yc (yfi [7,8,9] "parts" (yg 1)) (yr)))) (ybH)) (ycB (yO 1 "list_end" (ybb n) (yg 0) (yc (yfi [7,8,9] "others" (yg 1)) (yr)))))
noncomputable def yhl:Nat->Fn
 | 0=>fun _ _=>none
 | n+1=>ygG 3 (yw (ydf (yO 1 "layered_end" (ych n) (yg 0) (yc (yfi [7,8,9] "parts" (yg 1)) (yr))) (yz 2)) (yw (ycL (yJ (xOp (yBE) (yg 2) (xC (.tup [.str "waits"])))) (ycB (yO 1 "list_end" (ybb n) (yg 0) (yc (yfi [7,8,9] "others" (yg 1)) (yr)))) (ybH)) (ycB (yg 2))))
noncomputable def yeK:Nat->Fn
 | 0=>fun _ _=>none
 | n+1=>ygG 3 (yw (ydf (yO 1 "layered_end" (ych n) (yg 0) (yc (yfi [7,8,9] "parts" (yg 1)) (yr))) (yz 2)) (yw (ycL (yIX (yJ (xOp (oEq) (xOp (ydv) (yg 2) (xC (.int 0))) (xC (.str "fell")))) (yJ (xOp (oEq) (xOp (ydv) (yg 2) (xC (.int 1))) (yfi [9,10] "name" (yg 1))))) (yw (yff (yO 1 "hold" ybI (yg 0) (yc (yfi [3,4,5,6,7,9,10] "slot" (yg 1)) (yc (xOp (ydv) (yg 2) (xC (.int 2))) (yr))))) (ycB (yO 1 "list_end" (ybb n) (yg 0) (yc (yfi [7,8,9] "others" (yg 1)) (yr))))) (ybH)) (ycB (yg 2))))
noncomputable def ych:Nat->Fn
 | 0=>fun _ _=>none
 | n+1=>ygG 4 (yw (ydf (ylK (ynM (ybW) (yc (yfi [1] "held" (yg 0)) (yr)))) (yz 2)) (yw (yff (yO 0 "begin" ygI (yfi [1] "log" (yg 0)) (yr))) (yw (ydf (yO 1 "list_end" (ybb n) (yg 0) (yc (yg 1) (yr))) (yz 3)) (yw (ycL (yJ (xOp (yBE) (yg 3) (xC (.tup [.str "done"])))) (yff (yO 0 "settle" yfR (yfi [1] "log" (yg 0)) (yr))) (yw (yff (yO 0 "drop" ygF (yfi [1] "log" (yg 0)) (yr))) (yyL [1] "held" (yg 0) (yg 2)))) (ycB (yg 3))))))
end
noncomputable def ylS:Fn:=ygG 5 (yw (ydf (ylK (ylN ydk (yc (yg 1) (yc (yg 2) (yr))))) (yz 3)) (yw (ydf (yO 1 "list_end" (ybb 20) (yg 3) (yc (yg 0) (yr))) (yz 4)) (yw (ycL (yJ (xOp (yBE) (yg 4) (xC (.tup [.str "done"])))) (ycB (yiQ (yc (yg 4) (yc (yO 0 "saw" ygJ (yfi [1] "log" (yg 3)) (yr)) (yc (yO 0 "wrote" ygK (yfi [1] "log" (yg 3)) (yr)) (yc (ylK (ynM (ybW) (yc (yfi [1] "held" (yg 3)) (yr)))) (yr))))))) (ybH)) (ycB (yiQ (yc (yg 4) (yc (yO 0 "saw" ygJ (yfi [1] "log" (yg 3)) (yr)) (yc (ylK (ylF (yr))) (yc (ylK (ynM (ybW) (yc (yg 2) (yr)))) (yr))))))))))
noncomputable def yeL:List PV->AH->Option (Nd×AH):=ytM 4 7 (yw (yfc [3,4,5,6,7,9,10] 0 "slot" (yg 1)) (yw (yfc [7,8,9] 0 "parts" (xFz (ynM (ybW) (yc (yg 2) (yr))))) (yfc [7,8,9] 0 "others" (xFz (ynM (ybW) (yc (yg 3) (yr)))))))
noncomputable def yeg:List PV->AH->Option (Nd×AH):=ytM 5 9 (yw (yfc [7,8,9] 0 "parts" (xFz (ynM (ybW) (yc (yg 1) (yr))))) (yw (yfc [9,10] 0 "name" (yg 2)) (yw (yfc [3,4,5,6,7,9,10] 0 "slot" (yg 3)) (yfc [7,8,9] 0 "others" (xFz (ynM (ybW) (yc (yg 4) (yr))))))))
def ydl:List PV->AH->Option (Nd×AH):=ytM 3 10 (yw (yfc [9,10] 0 "name" (yg 1)) (yfc [3,4,5,6,7,9,10] 0 "slot" (yg 2)))
def ybG:Fn:=ygG 1 (ycB (xOp oMod (xOp yCP (yg 0) (xC (.int 48271))) (xC (.int 999999999989))))
def ycO:Fn:=ygG 1 (ycB (xOp oMod (xOp yCP (yg 0) (xC (.int 982451653))) (xOp yHn (xC (.int 2)) (xC (.int 64)))))
noncomputable def yu:Nat->Fn
 | 0=>fun _ _=>none
 | n+1=>ygG 3 (yw (ycL (yJ (xCB (ycm yK) (yc (yg 1) (yc (xC (.ty "int")) (yr))))) (ycB (ywB (xCB (ycm yK) (yc (yg 0) (yc (xC (.ty "int")) (yr)))) (ywB (yAN (xCB (ycm yK) (yc (yg 0) (yc (xC (.ty "bool")) (yr))))) (xOp (oEq) (yg 0) (yg 1))))) (ybH)) (yw (ycL (yJ (xCB (ycm yK) (yc (yg 1) (yc (xC (.ty "str")) (yr))))) (ycB (ywB (xCB (ycm yK) (yc (yg 0) (yc (xC (.ty "str")) (yr)))) (xOp (oEq) (yg 0) (yg 1)))) (ybH)) (yw (ycL (yJ (xCB (ycm yK) (yc (yg 1) (yc (xC (.ty "tuple")) (yr))))) (ycL (yEB (yJ (xCB (ycm yK) (yc (yg 0) (yc (xC (.ty "tuple")) (yr)))))) (ycB (xC (.bl false))) (ybH)) (ycL (yEB (yJ (xCB (ycm yK) (yc (yg 0) (yc (xC (.ty "list")) (yr)))))) (ycB (xC (.bl false))) (ybH))) (yw (ycL (yJ (xOp (oNe) (xCB (yiU) (yc (yg 0) (yr))) (xCB (yiU) (yc (yg 1) (yr))))) (ycB (xC (.bl false))) (ybH)) (yw (yyi (yBg (yc (xCB (yiU) (yc (yg 1) (yr))) (yr))) (yz 2) (ycL (yEB (yJ (ycJ (yu n) (yc (xOp (yyJ) (yg 0) (yg 2)) (yc (xOp (yyJ) (yg 1) (yg 2)) (yr)))))) (ycB (xC (.bl false))) (ybH))) (ycB (xC (.bl true))))))))
noncomputable def yfS:Fn:=ygG 10 (yw (ydf (xC (.str "abcdefghijklmnopqrstuvwxyz")) (yz 1)) (yw (ydf (ycJ ybG (yc (yg 0) (yr))) (yz 2)) (yw (ydf (xOp ynQ (xC (.int 1)) (xOp oMod (yg 2) (xC (.int 8)))) (yz 3)) (yw (ydf (xOp oMod (xOp oDiv (yg 2) (xC (.int 8))) (yg 3)) (yz 4)) (yw (ysr (ylF (yr)) 5) (yw (yyi (yBg (yc (xC (.int 3)) (yr))) (yz 6) (yw (ydf (xC (.str "")) (yz 7)) (yw (yyi (yBg (yc (yg 3) (yr))) (yz 8) (yw (ydf (xOp ynQ (xOp oDiv (xOp oDiv (yg 2) (xC (.int 64))) (xOp ynQ (xOp yCP (yg 8) (yg 8)) (xC (.int 1)))) (yg 8)) (yz 9)) (yw (ycL (yJ (xOp (oEq) (yg 8) (yg 4))) (ydf (xOp ynQ (yg 9) (yg 6)) (yz 9)) (ybH)) (ydf (xOp yBn (yg 7) (xOp (yxt) (yg 1) (xOp oMod (yg 9) (xC (.int 26))))) (yz 7))))) (yiR 5 (yg 7))))) (yCN 5 (ycB (yg 5)))))))))
noncomputable def yfT:Fn:=ygG 11 (yw (ydf (xSl yJb (xC (.str "abcdefgh")) (yjY) (yjX (xOp (yhL) (xFz (ylF (yc (xC (.int 2)) (yc (xC (.int 3)) (yc (xC (.int 8)) (yr)))))) (xOp oMod (yg 0) (xC (.int 3)))))) (yz 2)) (yw (ydf (xCB (yBo) (yc (yg 2) (yr))) (yz 3)) (yw (ydf (xOp oDiv (yg 0) (xC (.int 33))) (yz 4)) (yw (ydf (xOp (yxt) (yg 2) (xOp oMod (yg 4) (yg 3))) (yz 5)) (yw (ydf (xOp (yxt) (yg 2) (xOp oMod (xOp oDiv (yg 4) (yg 3)) (yg 3))) (yz 6)) (yw (ydf (xOp (yxt) (yg 2) (xOp oMod (xOp oDiv (xOp oDiv (yg 4) (yg 3)) (yg 3)) (yg 3))) (yz 7)) (yw (ydf (xOp oMod (xOp oDiv (yg 0) (xC (.int 3))) (xC (.int 11))) (yz 8)) (yw (ycL (yJ (xOp (oEq) (yg 8) (xC (.int 0)))) (ycB (xFz (ylF (yc (yiQ (yc (xC (.str "let")) (yc (yg 5) (yc (ycJ ycO (yc (yg 1) (yr))) (yr))))) (yr))))) (ybH)) (yw (ycL (yJ (xOp (oLt) (yg 8) (xC (.int 3)))) (ycB (xFz (ylF (yc (yiQ (yc (xC (.str "let")) (yc (yg 5) (yc (xOp oMod (xOp oDiv (yg 4) (xC (.int 1000))) (xC (.int 4))) (yr))))) (yr))))) (ybH)) (yw (ycL (yJ (xOp (oLt) (yg 8) (xC (.int 5)))) (yw (ydf (xOp (yhL) (xFz (ylF (yc (xC (.str "plus")) (yc (xC (.str "minus")) (yc (xC (.str "times")) (yc (xC (.str "less")) (yc (xC (.str "same")) (yr)))))))) (xOp oMod (xOp oDiv (yg 4) (xC (.int 1000))) (xC (.int 5)))) (yz 9)) (ycB (xFz (ylF (yc (yiQ (yc (xC (.str "reckon")) (yc (yg 9) (yc (yg 5) (yc (yg 6) (yc (yg 7) (yr))))))) (yr)))))) (ybH)) (yw (ycL (yJ (xOp (oLt) (yg 8) (xC (.int 7)))) (ycB (xFz (ylF (yc (yiQ (yc (xC (.str "take")) (yc (yg 5) (yc (yg 6) (yr))))) (yr))))) (ybH)) (yw (ycL (yJ (xOp (oLt) (yg 8) (xC (.int 9)))) (ycB (xFz (ylF (yc (yiQ (yc (xC (.str "put")) (yc (yg 5) (yc (yg 6) (yr))))) (yr))))) (ybH)) (yw (ydf (xOp (yhL) (xFz (ylF (yc (xC (.str "plus")) (yc (xC (.str "minus")) (yc (xC (.str "times")) (yr)))))) (xOp oMod (xOp oDiv (yg 4) (xC (.int 1000))) (xC (.int 3)))) (yz 9)) (yw (ydf (xFz (ylF (yc (yiQ (yc (xC (.str "let")) (yc (yg 5) (yc (xOp oMod (xOp oDiv (yg 4) (xC (.int 3000))) (xC (.int 3))) (yr))))) (yc (yiQ (yc (xC (.str "take")) (yc (yg 6) (yc (yg 5) (yr))))) (yr))))) (yz 10)) (ycB (xFz (yCJ yCR (yg 10) (xFz (ylF (yc (yiQ (yc (xC (.str "reckon")) (yc (yg 9) (yc (yg 6) (yc (yg 6) (yc (yg 7) (yr))))))) (yc (yiQ (yc (xC (.str "put")) (yc (yg 5) (yc (yg 6) (yr))))) (yr))))))))))))))))))))))
noncomputable def yfU:Fn:=ygG 7 (yw (ydf (xC (.str "abc")) (yz 4)) (yw (ydf (xOp (yxt) (yg 4) (xOp oMod (xOp oDiv (yg 0) (xC (.int 9))) (xC (.int 3)))) (yz 5)) (yw (ycL (yJ (xOp (oEq) (xOp oMod (yg 0) (xC (.int 4))) (xC (.int 0)))) (ycB (yiQ (yc (xC (.str "if")) (yc (yg 5) (yc (yg 1) (yc (yg 2) (yr))))))) (ybH)) (yw (ydf (yiQ (yc (xC (.str "throw")) (yc (xOp (yhL) (yg 3) (xOp oMod (xOp oDiv (yg 0) (xC (.int 27))) (xC (.int 3)))) (yc (yg 5) (yr))))) (yz 6)) (yw (ycL (yJ (xOp (oEq) (xOp oMod (xOp oDiv (yg 0) (xC (.int 4))) (xC (.int 3))) (xC (.int 1)))) (ydf (xFz (yCJ yCR (yg 1) (xFz (ylF (yc (yg 6) (yr)))))) (yz 1)) (ybH)) (yw (ycL (yJ (xOp (oEq) (xOp oMod (xOp oDiv (yg 0) (xC (.int 4))) (xC (.int 3))) (xC (.int 2)))) (ydf (xFz (yCJ yCR (yg 1) (xFz (ylF (yc (yiQ (yc (xC (.str "if")) (yc (yg 5) (yc (xFz (ylF (yc (yg 6) (yr)))) (yc (xFz (ylF (yr))) (yr)))))) (yr)))))) (yz 1)) (ybH)) (yw (ycL (yJ (xOp (oEq) (xOp oMod (xOp oDiv (yg 0) (xC (.int 800))) (xC (.int 5))) (xC (.int 1)))) (ydf (xFz (yCJ yCR (yg 2) (xFz (ylF (yc (yiQ (yc (xC (.str "throw")) (yc (xOp (yhL) (yg 3) (xOp oMod (xOp oDiv (yg 0) (xC (.int 4000))) (xC (.int 3)))) (yc (xOp (yxt) (yg 4) (xOp oMod (xOp oDiv (yg 0) (xC (.int 12000))) (xC (.int 3)))) (yr))))) (yr)))))) (yz 2)) (ybH)) (ycB (yiQ (yc (xC (.str "try")) (yc (yg 1) (yc (xOp (yhL) (yg 3) (xOp oMod (xOp oDiv (yg 0) (xC (.int 81))) (xC (.int 3)))) (yc (xOp (yxt) (yg 4) (xOp oMod (xOp oDiv (yg 0) (xC (.int 243))) (xC (.int 3)))) (yc (yg 2) (yr)))))))))))))))
noncomputable def ydA:Nat->Fn
 | 0=>fun _ _=>none
 | n+1=>ygG 12 (yw (ysr (ylF (yr)) 3) (yw (ydf (xC (.int 0)) (yz 4)) (yw (yss 1000 (yJ (xOp (oLt) (yg 4) (xCB (yiU) (yc (yg 0) (yr))))) (yw (ydf (xOp (yhL) (yg 0) (yg 4)) (yz 5)) (yw (ydf (ycJ ybG (yc (yg 5) (yr))) (yz 6)) (yw (ydf (xOp ynQ (yg 4) (xC (.int 1))) (yz 4)) (ycL (xOr (yJ (xOp (oEq) (yg 1) (xC (.int 0)))) (yJ (xOp (oLt) (xOp oMod (yg 6) (xC (.int 11))) (xC (.int 6))))) (yCN 3 (ysr (yCJ yCR (yg 3) (ycJ yfT (yc (xOp oDiv (yg 6) (xC (.int 11))) (yc (yg 5) (yr))))) 3)) (ycL (yJ (xOp (oEq) (xOp oMod (yg 6) (xC (.int 33))) (xC (.int 6)))) (yw (ydf (xFz (ylF (yc (yiQ (yc (xC (.str "throw")) (yc (xOp (yhL) (yg 2) (xOp oMod (xOp oDiv (yg 6) (xC (.int 33))) (xC (.int 3)))) (yc (xOp (yxt) (xC (.str "abc")) (xOp oMod (xOp oDiv (yg 6) (xC (.int 99))) (xC (.int 3)))) (yr))))) (yc (yiQ (yc (xC (.str "wait")) (yr))) (yr))))) (yz 7)) (yiR 3 (xOp (yhL) (yg 7) (xOp oDiv (xOp oMod (xOp oDiv (yg 6) (xC (.int 297))) (xC (.int 5))) (xC (.int 4)))))) (yw (ydf (xOp oMod (xOp oDiv (yg 6) (xC (.int 33))) (xC (.int 4))) (yz 8)) (yw (ydf (xOp oMod (xOp oDiv (yg 6) (xC (.int 132))) (xC (.int 3))) (yz 9)) (yw (ydf (ycJ (ydA n) (yc (xFz (yAO yAp (yg 0) (yjX (yg 4)) (yjX (xOp ynQ (yg 4) (yg 8))))) (yc (xOp yHm (yg 1) (xC (.int 1))) (yc (yg 2) (yr))))) (yz 10)) (yw (ydf (ycJ (ydA n) (yc (xFz (yAO yAp (yg 0) (yjX (xOp ynQ (yg 4) (yg 8))) (yjX (xOp ynQ (xOp ynQ (yg 4) (yg 8)) (yg 9))))) (yc (xOp yHm (yg 1) (xC (.int 1))) (yc (yg 2) (yr))))) (yz 11)) (yw (ydf (xOp ynQ (xOp ynQ (yg 4) (yg 8)) (yg 9)) (yz 4)) (yiR 3 (ycJ yfU (yc (xOp oDiv (yg 6) (xC (.int 396))) (yc (yg 10) (yc (yg 11) (yc (yg 2) (yr)))))))))))))))))) (yCN 3 (ycB (yg 3))))))
noncomputable def ycP:Nat->Fn
 | 0=>fun _ _=>none
 | n+1=>ygG 3 (yw (ysr (ylF (yr)) 1) (yw (yyi (xIL (yg 0)) (yz 2) (ycL (yJ (xOp (oEq) (xOp (ydv) (yg 2) (xC (.int 0))) (xC (.str "let")))) (yiR 1 (xFz (ylN yee (yc (xOp (ydv) (yg 2) (xC (.int 1))) (yc (xOp (ydv) (yg 2) (xC (.int 2))) (yr)))))) (ycL (yJ (xOp (oEq) (xOp (ydv) (yg 2) (xC (.int 0))) (xC (.str "reckon")))) (yiR 1 (xFz (ylN ycG (yc (xOp (ydv) (yg 2) (xC (.int 1))) (yc (xOp (ydv) (yg 2) (xC (.int 2))) (yc (xOp (ydv) (yg 2) (xC (.int 3))) (yc (xOp (ydv) (yg 2) (xC (.int 4))) (yr)))))))) (ycL (yJ (xOp (oEq) (xOp (ydv) (yg 2) (xC (.int 0))) (xC (.str "take")))) (yiR 1 (xFz (ylN ydz (yc (xOp (ydv) (yg 2) (xC (.int 1))) (yc (xOp (ydv) (yg 2) (xC (.int 2))) (yr)))))) (ycL (yJ (xOp (oEq) (xOp (ydv) (yg 2) (xC (.int 0))) (xC (.str "put")))) (yiR 1 (xFz (ylN yef (yc (xOp (ydv) (yg 2) (xC (.int 1))) (yc (xOp (ydv) (yg 2) (xC (.int 2))) (yr)))))) (ycL (yJ (xOp (oEq) (xOp (ydv) (yg 2) (xC (.int 0))) (xC (.str "if")))) (yiR 1 (xFz (ylN yeL (yc (xOp (ydv) (yg 2) (xC (.int 1))) (yc (ycJ (ycP n) (yc (xOp (ydv) (yg 2) (xC (.int 2))) (yr))) (yc (ycJ (ycP n) (yc (xOp (ydv) (yg 2) (xC (.int 3))) (yr))) (yr))))))) (ycL (yJ (xOp (oEq) (xOp (ydv) (yg 2) (xC (.int 0))) (xC (.str "try")))) (yiR 1 (xFz (ylN yeg (yc (ycJ (ycP n) (yc (xOp (ydv) (yg 2) (xC (.int 1))) (yr))) (yc (xOp (ydv) (yg 2) (xC (.int 2))) (yc (xOp (ydv) (yg 2) (xC (.int 3))) (yc (ycJ (ycP n) (yc (xOp (ydv) (yg 2) (xC (.int 4))) (yr))) (yr)))))))) (ycL (yJ (xOp (oEq) (xOp (ydv) (yg 2) (xC (.int 0))) (xC (.str "throw")))) (yiR 1 (xFz (ylN ydl (yc (xOp (ydv) (yg 2) (xC (.int 1))) (yc (xOp (ydv) (yg 2) (xC (.int 2))) (yr)))))) (yiR 1 (xFz (yvF 11))))))))))) (yCN 1 (ycB (yg 1)))))
noncomputable def yfV:Fn:=ygG 6 (yw (ydf (ycJ ybG (yc (yg 0) (yr))) (yz 1)) (yw (ydf (xOp (yhL) (xFz (ylF (yc (xC (.int 1)) (yc (xC (.int 2)) (yc (xC (.int 3)) (yc (xOp ynQ (xC (.int 1)) (xOp oMod (xOp oDiv (yg 1) (xC (.int 4))) (xC (.int 16)))) (yr))))))) (xOp oMod (yg 1) (xC (.int 4)))) (yz 2)) (yw (ysr (ylF (yr)) 3) (yw (yyi (yBg (yc (yg 2) (yr))) (yz 4) (yw (ydf (xFz (ylF (yc (xOp oMod (xOp oDiv (xOp oDiv (yg 1) (xC (.int 64))) (xOp ynQ (yg 4) (xC (.int 1)))) (xC (.int 5))) (yc (ycJ ycO (yc (xOp ynQ (yg 0) (xOp yCP (yg 4) (yg 4))) (yr))) (yr))))) (yz 5)) (yiR 3 (xOp (yhL) (yg 5) (xOp oMod (xOp ynQ (xOp oDiv (yg 1) (xC (.int 1000))) (yg 4)) (xC (.int 2))))))) (yCN 3 (ycB (yg 3)))))))
noncomputable def yfW:Fn:=ygG 3 (yw (ydf (ycJ ybG (yc (yg 0) (yr))) (yz 1)) (yw (ydf (ylK (ywF (yBg (yc (xC (.int 8)) (yr))) [1] (xOp oMod (xOp oDiv (yg 1) (xOp ynQ (xOp yCP (yg 0) (yg 0)) (xC (.int 3)))) (xC (.int 4))))) (yz 2)) (yw (ymU (yg 2) (xOp oMod (yg 1) (xC (.int 8))) (ycJ ycO (yc (yg 0) (yr)))) (ycB (yg 2)))))
noncomputable def yhZ:Fn:=ygG 3 (yw (ycL (yJ (xOp (oEq) (yg 0) (xC (.str "less")))) (ycB (xCB (ywK) (yc (xOp (oLt) (yg 1) (yg 2)) (yr)))) (ybH)) (yw (ycL (yJ (xOp (oEq) (yg 0) (xC (.str "same")))) (ycB (xCB (ywK) (yc (xOp (oEq) (yg 1) (yg 2)) (yr)))) (ybH)) (yw (ycL (yJ (xOp (oEq) (yg 0) (xC (.str "plus")))) (ycB (xOp oMod (xOp ynQ (yg 1) (yg 2)) (xOp yHn (xC (.int 2)) (xC (.int 64))))) (ybH)) (yw (ycL (yJ (xOp (oEq) (yg 0) (xC (.str "minus")))) (ycB (xOp oMod (xOp yHm (yg 1) (yg 2)) (xOp yHn (xC (.int 2)) (xC (.int 64))))) (ybH)) (ycB (xOp oMod (xOp yCP (yg 1) (yg 2)) (xOp yHn (xC (.int 2)) (xC (.int 64)))))))))
noncomputable def yeh:Fn:=ygG 8 (ycL (yJ (xOp (oEq) (xOp (ydv) (yg 0) (xC (.int 0))) (xC (.str "let")))) (ymU (yg 3) (xBM isStr (ydW) (xC (.str "abcdefgh")) (yc (xOp (ydv) (yg 0) (xC (.int 1))) (yr))) (xOp (ydv) (yg 0) (xC (.int 2)))) (ycL (yJ (xOp (oEq) (xOp (ydv) (yg 0) (xC (.int 0))) (xC (.str "reckon")))) (yw (ydf (xOp (yhL) (yg 3) (xBM isStr (ydW) (xC (.str "abcdefgh")) (yc (xOp (ydv) (yg 0) (xC (.int 3))) (yr)))) (yz 5)) (yw (ydf (xOp (yhL) (yg 3) (xBM isStr (ydW) (xC (.str "abcdefgh")) (yc (xOp (ydv) (yg 0) (xC (.int 4))) (yr)))) (yz 6)) (ymU (yg 3) (xBM isStr (ydW) (xC (.str "abcdefgh")) (yc (xOp (ydv) (yg 0) (xC (.int 2))) (yr))) (ycJ yhZ (yc (xOp (ydv) (yg 0) (xC (.int 1))) (yc (yg 5) (yc (yg 6) (yr)))))))) (ycL (yJ (xOp (oEq) (xOp (ydv) (yg 0) (xC (.int 0))) (xC (.str "put")))) (yw (ydf (xOp oMod (xOp (yhL) (yg 3) (xBM isStr (ydW) (xC (.str "abcdefgh")) (yc (xOp (ydv) (yg 0) (xC (.int 1))) (yr)))) (xCB (yiU) (yc (yg 1) (yr)))) (yz 7)) (yqw (yg 4) (yg 7) (xOp (yhL) (yg 3) (xBM isStr (ydW) (xC (.str "abcdefgh")) (yc (xOp (ydv) (yg 0) (xC (.int 2))) (yr)))))) (yw (ydf (xOp oMod (xOp (yhL) (yg 3) (xBM isStr (ydW) (xC (.str "abcdefgh")) (yc (xOp (ydv) (yg 0) (xC (.int 2))) (yr)))) (xCB (yiU) (yc (yg 1) (yr)))) (yz 7)) (yw (ycL (yJ (yyG true (yg 7) (yg 4))) (yqw (yg 2) (yg 7) (xOp (yhL) (yg 1) (yg 7))) (ybH)) (ymU (yg 3) (xBM isStr (ydW) (xC (.str "abcdefgh")) (yc (xOp (ydv) (yg 0) (xC (.int 1))) (yr))) (ysx (yg 4) (yg 7) (xOp (yhL) (yg 1) (yg 7)))))))))
noncomputable def ycM:Fn:=ygG 1 (ycB (xFz (ywF (xIL (xFz (ynM ypV (yc (yg 0) (yr))))) [0] (yiQ (yc (yg 0) (yc (yut (yg 1) (yg 0)) (yr)))))))
mutual
noncomputable def yfX:Nat->Fn
 | 0=>fun _ _=>none
 | n+1=>ygG 7 (yw (yyi (xIL (yg 0)) (yz 5) (yw (ydf (ycJ (ycy n) (yc (yg 5) (yc (yg 1) (yc (yg 2) (yc (yg 3) (yc (yg 4) (yr))))))) (yEO 3 (ymS (yz 6) (ymS (yz 3) (ymS (yz 4) (yGk)))))) (ycL (yJ (xOp (yBm) (yg 6) (xC .non))) (ycB (yiQ (yc (yg 6) (yc (yg 3) (yc (yg 4) (yr)))))) (ybH)))) (ycB (yiQ (yc (xC .non) (yc (yg 3) (yc (yg 4) (yr)))))))
noncomputable def ycy:Nat->Fn
 | 0=>fun _ _=>none
 | n+1=>ygG 7 (yw (ycL (yJ (xOp (oEq) (xOp (ydv) (yg 0) (xC (.int 0))) (xC (.str "wait")))) (ycB (yiQ (yc (yiQ (yc (xC (.str "waits")) (yr))) (yc (yg 3) (yc (yg 4) (yr)))))) (ybH)) (yw (ycL (yJ (xOp (oEq) (xOp (ydv) (yg 0) (xC (.int 0))) (xC (.str "throw")))) (ycB (yiQ (yc (yiQ (yc (xC (.str "fell")) (yc (xOp (ydv) (yg 0) (xC (.int 1))) (yc (xOp (yhL) (yg 3) (xBM isStr (ydW) (xC (.str "abcdefgh")) (yc (xOp (ydv) (yg 0) (xC (.int 2))) (yr)))) (yr))))) (yc (yg 3) (yc (yg 4) (yr)))))) (ybH)) (yw (ycL (yJ (xOp (oEq) (xOp (ydv) (yg 0) (xC (.int 0))) (xC (.str "if")))) (yw (ydf (xOp ynQ (xC (.int 2)) (xCB (ywK) (yc (xOp (oEq) (xOp (yhL) (yg 3) (xBM isStr (ydW) (xC (.str "abcdefgh")) (yc (xOp (ydv) (yg 0) (xC (.int 1))) (yr)))) (xC (.int 0))) (yr)))) (yz 5)) (ycB (ycJ (yfX n) (yc (xOp (ydv) (yg 0) (yg 5)) (yc (yg 1) (yc (yg 2) (yc (yg 3) (yc (yg 4) (yr))))))))) (ybH)) (yw (ycL (yJ (xOp (oEq) (xOp (ydv) (yg 0) (xC (.int 0))) (xC (.str "try")))) (yw (ydf (ycJ (yfX n) (yc (xOp (ydv) (yg 0) (xC (.int 1))) (yc (yg 1) (yc (yg 2) (yc (ylK (ynM (ybW) (yc (yg 3) (yr)))) (yc (ylK (ynM (ykd) (yc (yg 4) (yr)))) (yr))))))) (yz 6)) (yw (ycL (xOr (yJ (xOp (yGl) (xOp (ydv) (yg 6) (xC (.int 0))) (xC .non))) (yJ (xOp (ywT) (xSl yJg (xOp (ydv) (yg 6) (xC (.int 0))) (yjY) (yjX (xC (.int 2)))) (yiQ (yc (xC (.str "fell")) (yc (xOp (ydv) (yg 0) (xC (.int 2))) (yr))))))) (ycB (yg 6)) (ybH)) (yw (ydf (ylK (ynM (ybW) (yc (yg 3) (yr)))) (yz 3)) (yw (ymU (yg 3) (xBM isStr (ydW) (xC (.str "abcdefgh")) (yc (xOp (ydv) (yg 0) (xC (.int 3))) (yr))) (xOp (yyJ) (xOp (ydv) (yg 6) (xC (.int 0))) (xC (.int 2)))) (ycB (ycJ (yfX n) (yc (xOp (ydv) (yg 0) (xC (.int 4))) (yc (yg 1) (yc (yg 2) (yc (yg 3) (yc (yg 4) (yr)))))))))))) (ybH)) (yw (ydf (ylK (ynM (ybW) (yc (yg 3) (yr)))) (yz 3)) (yw (ydf (ylK (ynM (ykd) (yc (yg 4) (yr)))) (yz 4)) (yw (yff (ycJ yeh (yc (yg 0) (yc (yg 1) (yc (yg 2) (yc (yg 3) (yc (yg 4) (yr)))))))) (ycB (yiQ (yc (xC .non) (yc (yg 3) (yc (yg 4) (yr)))))))))))))
end
noncomputable def yBW:Fn:=ygG 12 (yw (ydf (ycJ yfS (yc (xCB (yEZ) (yc (xFz (yAO yAp (yg 0) (yjY) (yjX (xC (.int 1))))) (yr))) (yr))) (yz 1)) (yw (yyi (yHW (yc (xC (.int 0)) (yc (xCB (yyI) (yc (xC (.int 1)) (yc (xCB (yiU) (yc (yg 0) (yr))) (yr)))) (yc (xC (.int 11)) (yr))))) (yz 2) (yw (ydf (xFz (yAO yAp (yg 0) (yjX (yg 2)) (yjX (xOp ynQ (yg 2) (xC (.int 11)))))) (yz 3)) (yw (ydf (ycJ (ydA 5) (yc (yg 3) (yc (xC (.int 3)) (yc (yg 1) (yr))))) (yz 4)) (yw (ydf (ycJ yfV (yc (xOp ynQ (xCB (yEZ) (yc (xFz (yAO yAp (yg 3) (yjX (xC (.int 1))) (yjX (xC (.int 2))))) (yr))) (yg 2)) (yr))) (yz 5)) (yw (ydf (ycJ yfW (yc (xOp ynQ (xCB (yEZ) (yc (xFz (yAO yAp (yg 3) (yjY) (yjX (xC (.int 1))))) (yr))) (yg 2)) (yr))) (yz 6)) (yw (ydf (ylK (ysw)) (yz 7)) (yw (ydf (ycJ (yfX 20) (yc (yg 4) (yc (yg 5) (yc (yg 7) (yc (ylK (ynM (ybW) (yc (yg 6) (yr)))) (yc (ylK (ysw)) (yr))))))) (yEO 3 (ymS (yz 8) (ymS (yz 9) (ymS (yz 10) (yGk)))))) (yw (ydf (yiQ (yc (yg 8) (yc (ycJ ycM (yc (yg 7) (yr))) (yc (xFz (ylF (yr))) (yc (yg 6) (yr)))))) (yz 11)) (yw (ycL (yJ (xOp (yGl) (yg 8) (xC .non))) (ydf (yiQ (yc (yiQ (yc (xC (.str "done")) (yr))) (yc (ycJ ycM (yc (yg 7) (yr))) (yc (ycJ ycM (yc (yg 10) (yr))) (yc (yg 9) (yr)))))) (yz 11)) (ybH)) (ycL (yEB (yJ (ycJ (yu 5) (yc (ycJ ylS (yc (ycJ (ycP 7) (yc (yg 4) (yr))) (yc (xFz (ynM (ybW) (yc (yg 5) (yr)))) (yc (xFz (ynM (ybW) (yc (yg 6) (yr)))) (yr))))) (yc (yg 11) (yr)))))) (ycB (xC (.bl false))) (ybH))))))))))) (ycB (xC (.bl true)))))
def yDr:Prop:=True
def yKL:Prop:=False
section
variable {h:AH}
noncomputable def Stk (h:AH):List Nat->List (List Key×List PV)->Prop
 | [],[]=>True
 | l::ls,d::ds=>h[l]?=some (.dct d.1 d.2)/\Stk h ls ds
 | _,_=>False
theorem Stk.len {h:AH}:∀ {ls:List Nat}{ds:List (List Key×List PV)},Stk h ls ds->ds.length=ls.length
 | [],[],_=>rfl
 | _::_,_::_,s=>by rw [List.length_cons,List.length_cons,Stk.len s.2]
 | [],_::_,s=>s.elim
 | _::_,[],s=>s.elim
theorem Stk.mono {h h':AH}:∀ {ls:List Nat}{ds:List (List Key×List PV)},Stk h ls ds->(∀ l∈ls,∀ d,h[l]?=some d->h'[l]?=some d)->Stk h' ls ds
 | [],[],_,_=>trivial
 | l::ls,_::_,s,k=>⟨k l List.mem_cons_self _ s.1,Stk.mono s.2 fun l hl=>k l (List.mem_cons_of_mem _ hl)⟩
 | [],_::_,s,_=>s.elim
 | _::_,[],s,_=>s.elim
theorem Stk.app {h:AH}:∀ {ls ms:List Nat}{ds es:List (List Key×List PV)},Stk h ls ds->Stk h ms es->Stk h (ls++ms) (ds++es)
 | [],_,[],_,_,t=>t
 | _::_,_,_::_,_,s,t=>⟨s.1,Stk.app s.2 t⟩
 | [],_,_::_,_,s,_=>s.elim
 | _::_,_,[],_,s,_=>s.elim
theorem Stk.get {h:AH}:∀ {ls:List Nat}{ds:List (List Key×List PV)}(k:Nat),Stk h ls ds->k<ls.length->∃ l d,ls[k]?=some l/\ds[k]?=some d/\h[l]?=some (.dct d.1 d.2)
 | l::ls,d::ds,0,s,_=>⟨l,d,rfl,rfl,s.1⟩
 | l::ls,d::ds,k+1,s,hk=>by
  obtain ⟨l',d',e1,e2,e3⟩:=Stk.get k s.2 (by simpa using hk)
  exact ⟨l',d',by simpa using e1,by simpa using e2,e3⟩
 | [],[],_,_,hk=>by simp at hk
 | [],_::_,_,s,_=>s.elim
 | _::_,[],_,s,_=>s.elim
theorem Stk.split {h:AH}:∀ {ls:List Nat}{t:Nat}{ds:List (List Key×List PV)},Stk h (ls++[t]) ds->∃ es d,ds=es++[d]/\Stk h ls es/\h[t]?=some (.dct d.1 d.2)
 | [],t,[d],s=>⟨[],d,rfl,trivial,s.1⟩
 | [],t,[],s=>s.elim
 | [],t,_::_::_,s=>s.2.elim
 | l::ls,t,[],s=>s.elim
 | l::ls,t,d::ds,s=>by
  obtain ⟨es,d',e,s1,s2⟩:=Stk.split (ls:=ls) s.2
  exact ⟨d::es,d',by rw [e];rfl,⟨s.1,s1⟩,s2⟩
noncomputable def yGo (ds:List (List Key×List PV)) (j:Key):Nat->PV
 | 0=>.non
 | k+1=>match ds[k]? with|some d=>(match yhN d.1 d.2 j with|some x=>x|none=>yGo ds j k)|none=>.non
structure LG (h:AH) (o s b:Nat) (ls:List Nat) (ds:List (List Key×List PV)) (ks:List Key) (xs:List PV):Prop where
 ob:h[o]?=some (.ins 0 ["stack","last_seen"] [.loc s,.loc b])
 st:h[s]?=some (.lst (ls.map .loc))
 sn:h[b]?=some (.dct ks xs)
 dl:Stk h ls ds
theorem ykg {o s b:Nat}(e:h[o]?=some (.ins 0 ["stack","last_seen"] [.loc s,.loc b])):yie [0] "stack" (.loc o) h=some (.loc s,h):=by
 unfold yie yka
 simp only [e]
 rw [if_pos (by rfl'),show List.idxOf ("stack":Str) ["stack","last_seen"]=0 by rfl']
 rfl
theorem yzl {o s b:Nat}(e:h[o]?=some (.ins 0 ["stack","last_seen"] [.loc s,.loc b])):yie [0] "last_seen" (.loc o) h=some (.loc b,h):=by
 unfold yie yka
 simp only [e]
 rw [if_pos (by rfl'),show List.idxOf ("last_seen":Str) ["stack","last_seen"]=1 by rfl']
 rfl
theorem yzm {n:Nat}{l:List Nat}{t:Nat}(e:h[n]?=some (.lst ((l++[t]).map PV.loc))):yhL (.loc n) (.int (-1)) h=some (.loc t,h):=by
 unfold yhL
 simp only [e]
 have:atI ((l++[t]).map PV.loc) (-1)=some (.loc t):=by
  unfold atI ixN
  simp
  rw [if_pos (by omega),Option.bind_some,show (-1+((l.length:Int)+1)).toNat=l.length by omega]
  simp
 rw [this]
theorem yhQ {o s b:Nat}{m:Str}{f:Fn}{ys:List PV}{a:XE}{aa:XA}{ρ:PSt}{h0 h2:AH}(e:h[o]?=some (.ins 0 ["stack","last_seen"] [.loc s,.loc b])) (ea:a ρ h0=some (.loc o,h)) (hm:m∉(["stack","last_seen"]:List Str)) (eb:aa ρ h=some (ys,h2)):yO 0 m f a aa ρ h0=f (.loc o::ys) h2:=by
 unfold yO yka
 rw [ea,yv]
 simp only [e]
 rw [if_pos ⟨trivial,hm⟩,eb,yv]
theorem yFV {n:Nat}{ks:List Key}{xs:List PV}{i:Int}{ek ed:XE}{ρ:PSt}(ek':ek ρ h=some (.int i,h)) (ed':ed ρ h=some (.loc n,h)) (e:h[n]?=some (.dct ks xs)):yyG false ek ed ρ h=some (.bl (yhN ks xs (.inl i)).isSome,h):=by
 unfold yyG
 rw [ek',yv,ed',yv]
 unfold yyF
 simp only [e,keyOf]
 rfl
theorem ywa {n:Nat}{ks:List Key}{xs:List PV}{i:Int}{x:PV}{ek ed:XE}{ρ:PSt}(ed':ed ρ h=some (.loc n,h)) (ek':ek ρ h=some (.int i,h)) (e:h[n]?=some (.dct ks xs)) (hx:yhN ks xs (.inl i)=some x):yut ed ek ρ h=some (x,h):=by
 unfold yut
 rw [ed',yv,ek',yv]
 unfold yyF
 simp only [e,keyOf,hx]
theorem ynw {n:Nat}{ks:List Key}{xs:List PV}{i:Int}{x:PV}{ed ek ev:XE}{ρ:PSt}(ev':ev ρ h=some (x,h)) (ed':ed ρ h=some (.loc n,h)) (ek':ek ρ h=some (.int i,h)) (e:h[n]?=some (.dct ks xs)) (hl:ks.length<1000) :
  yqw ed ek ev ρ h=some (.nx ρ,h.set n (.dct (ydX ks xs (.inl i) x).1 (ydX ks xs (.inl i) x).2)):=by
 unfold yqw
 rw [ev',yv,ed',yv,ek',yv]
 simp only [e,keyOf]
 rw [if_pos hl]
end
section
variable {h:AH}{o s b:Nat}{ls:List Nat}{ds:List (List Key×List PV)}{ks:List Key}{xs:List PV}
theorem yBX {i:Int}(g:LG h o s b ls ds ks xs):∀ (k:Nat),k<=ls.length->∀ c:PVar,
  ob (yyO s true (yz 2) (ycL (yJ (yyG false (yg 1) (yg 2))) (ycB (yut (yg 2) (yg 1))) (ybH)) k (ls.length-k) [.val (.loc o),.val (.int i),c] h) (fun o h1=>ob (sqK (ycB (xC .non)) o h1) fnK)=some (yGo ds (.inl i) k,h):=by
 intro k
 induction k with
 | zero =>
  intro _ c
  unfold yyO
  simp only [g.st]
  rw [if_pos (by simp),yv,ywM]
  rfl
 | succ k ih =>
  intro hk c
  unfold yyO
  simp only [g.st]
  obtain ⟨l,d,e1,e2,e3⟩:=g.dl.get k (by omega)
  have e4:(ls.map PV.loc)[k]?=some (.loc l):=by rw [List.getElem?_map,e1];rfl
  simp only [if_true,e4]
  have er:yz 2 (.loc l) [.val (.loc o),.val (.int i),c]=some [.val (.loc o),.val (.int i),.val (.loc l)]:=rfl
  rw [er,Option.bind_some,yHA,yCS,yFV (n:=l) rfl rfl e3,yv,yLs,yv]
  have ek:ls.length-(k+1)+1=ls.length-k:=by omega
  unfold yGo
  simp only [e2]
  cases hg:yhN d.1 d.2 (.inl i) with
  | none =>
   rw [if_neg (by simp),yCT,yv]
   dsimp only
   rw [ek]
   exact ih (by omega) _
  | some x =>
   rw [if_pos (show (some x).isSome=true from rfl),yyw,ywa (n:=l) rfl rfl e3 hg,yv,yv]
   rfl
theorem yIr {i:Int}(g:LG h o s b ls ds ks xs):yfQ [.loc o,.int i] h=some (yGo ds (.inl i) ls.length,h):=by
 unfold yfQ
 rw [yC]
 show ob (yw _ _ [.val (.loc o),.val (.int i),.no] h) fnK=_
 rw [ymT]
 have:=yBX (i:=i) g ls.length (Nat.le_refl _) .no
 rw [Nat.sub_self] at this
 rw [yBs,<- this]
 unfold yBH
 rw [ypd,show yg 0 [PVar.val (.loc o),.val (.int i),.no] h=some (.loc o,h) from rfl,yv,ykg g.ob,yv]
 simp only [g.st,List.length_map]
theorem yBY {i:Int}{v:PV}{t:Nat}{d:List Key×List PV}(g:LG h o s b (ls++[t]) ds ks xs) (ht:h[t]?=some (.dct d.1 d.2)) (hl:d.1.length<1000):ygH [.loc o,.int i,v] h=some (.non,h.set t (.dct (ydX d.1 d.2 (.inl i) v).1 (ydX d.1 d.2 (.inl i) v).2)):=by
 unfold ygH
 rw [yC,ymT,ywN,yJd,ypd,show yg 0 ([PV.loc o,.int i,v].map .val++List.replicate (4-[PV.loc o,.int i,v].length) .no) h=some (.loc o,h) from rfl,yv,ykg g.ob,yv]
 show ob (ob (ob (yhL (.loc s) (.int (-1)) h) _) _) _=_
 rw [yzm g.st,yv]
 show ob (yqw (yg 3) (yg 1) (yg 2) [.val (.loc o),.val (.int i),.val v,.val (.loc t)] h) fnK=_
 rw [ynw (n:=t) (i:=i) (x:=v) rfl rfl rfl ht hl,yv]
 rfl
theorem yBZ (g:LG h o s b ls ds ks xs) (hl:ls.length<1000):ygI [.loc o] h=some (.non,(h++[Nd.dct [] []]).set s (.lst ((ls++[h.length]).map .loc))):=by
 have hs:(h++[Nd.dct [] []])[s]?=some (.lst (ls.map .loc)):=by rw [List.getElem?_append_left (List.getElem?_eq_some_iff.mp g.st).1];exact g.st
 unfold ygI
 rw [yC,ynS,yHy,ypd,show yg 0 ([PV.loc o].map .val++List.replicate (1-[PV.loc o].length) .no) h=some (.loc o,h) from rfl,yv,ykg g.ob,yv,if_pos (ynT g.st)]
 show ob (ob (ywP (.loc s) [.loc h.length] (h++[Nd.dct [] []])) _) fnK=_
 rw [yFs hs (by rw [List.length_map];omega),yv,yv,List.map_append]
 rfl
theorem yzn {n:Nat}{l:List Nat}{t:Nat}(e:h[n]?=some (.lst ((l++[t]).map PV.loc))):ywQ (.loc n) [] h=some (.loc t,h.set n (.lst (l.map .loc))):=by
 unfold ywQ
 simp only [e]
 have:((l++[t]).map PV.loc)[((l++[t]).map PV.loc).length-1]?=some (.loc t):=by simp
 rw [this]
 simp
theorem yFW {t:Nat}(g:LG h o s b (ls++[t]) ds ks xs):ygF [.loc o] h=some (.non,h.set s (.lst (ls.map .loc))):=by
 unfold ygF
 rw [yC,ynS,yHy,ypd,show yg 0 ([PV.loc o].map .val++List.replicate (1-[PV.loc o].length) .no) h=some (.loc o,h) from rfl,yv,ykg g.ob,yv,if_pos (ynT g.st),yyv,yv,yzn g.st,yv,yv]
 rfl
theorem yDs {L:List PV}(g:LG h o s b ls ds ks xs) (e:sortI ks xs=some L):ygJ [.loc o] h=some (.loc h.length,h++[.lst L]):=by
 unfold ygJ
 rw [yC,yyw,yFd]
 unfold ynX
 rw [ypd,show yg 0 ([PV.loc o].map .val++List.replicate (1-[PV.loc o].length) .no) h=some (.loc o,h) from rfl,yv,yzl g.ob,yv]
 unfold ymV
 simp only [g.sn,e]
 rfl
end
section
variable {h:AH}{o s b:Nat}{ls:List Nat}{ds:List (List Key×List PV)}{ks:List Key}{xs:List PV}
theorem yIs {i:Int}{v:PV}(g:LG h o s b ls ds ks xs) (hl:ks.length<1000):yja [.loc o,.int i,v] h=some (.non,h.set b (.dct (ydX ks xs (.inl i) v).1 (ydX ks xs (.inl i) v).2)):=by
 unfold yja
 rw [yC]
 rw [ynw (n:=b) (i:=i) (x:=v) rfl (by rw [ypd];show ob (some (PV.loc o,h)) _=_;rw [yv,yzl g.ob]) rfl g.sn hl,yv]
 rfl
end
section
variable {h:AH}{o s b:Nat}{ls:List Nat}{ds:List (List Key×List PV)}{ks:List Key}{xs:List PV}
theorem yzo {t u:Nat}{dt du:List Key×List PV}(g:LG h o s b (ls++[u]++[t]) ds ks xs) (ho:o≠s) (hus:u≠s) (hts:t≠s) (hut:u≠t) (eu:h[u]?=some (.dct du.1 du.2)) (et:h[t]?=some (.dct dt.1 dt.2)) (hl:du.1.length+dt.1.length<1000) :
  yfR [.loc o] h=some (.non,(h.set s (.lst ((ls++[u]).map .loc))).set u (.dct (ysA dt.1 dt.2 du.1 du.2).1 (ysA dt.1 dt.2 du.1 du.2).2)):=by
 have hs:s<h.length:=(List.getElem?_eq_some_iff.mp g.st).1
 have e1:(h.set s (.lst ((ls++[u]).map PV.loc)))[s]?=some (.lst ((ls++[u]).map PV.loc)):=List.getElem?_set_self hs
 have e2:(h.set s (.lst ((ls++[u]).map PV.loc)))[o]?=some (.ins 0 ["stack","last_seen"] [.loc s,.loc b]):=(List.getElem?_set_ne (Ne.symm ho)).trans g.ob
 have e3:(h.set s (.lst ((ls++[u]).map PV.loc)))[u]?=some (.dct du.1 du.2):=(List.getElem?_set_ne (Ne.symm hus)).trans eu
 have e4:(h.set s (.lst ((ls++[u]).map PV.loc)))[t]?=some (.dct dt.1 dt.2):=(List.getElem?_set_ne (Ne.symm hts)).trans et
 unfold yfR
 rw [yC,ymT,ywN,yHy,ypd,show yg 0 ([PV.loc o].map .val++List.replicate (3-[PV.loc o].length) .no) h=some (.loc o,h) from rfl,yv,ykg g.ob,yv,if_pos (ynT g.st),yyv,yv,yzn g.st,yv]
 generalize hh:h.set s (.lst ((ls++[u]).map PV.loc))=h1 at *
 show ob (yw _ _ [.val (.loc o),.val (.loc t),.no] h1) fnK=_
 rw [ymT,ywN,yJd,ypd,show yg 0 [PVar.val (.loc o),.val (.loc t),.no] h1=some (.loc o,h1) from rfl,yv,ykg e2,yv]
 show ob (ob (ob (yhL (.loc s) (.int (-1)) h1) _) _) _=_
 rw [yzm e1,yv]
 show ob (yff (xBM ywV yGn (yg 2) (yc (yg 1) yr)) [.val (.loc o),.val (.loc t),.val (.loc u)] h1) fnK=_
 rw [ynS,yHy]
 show ob (ob (if ywV (.loc u) h1=true then yGn (.loc u) [.loc t] h1 else none) _) fnK=_
 rw [if_pos (by unfold ywV ymV;simp only [e3];rfl)]
 unfold yGn
 simp only [e3,e4]
 rw [if_pos ⟨hut,hl⟩,yv,yv]
 rfl
end
section
variable {h:AH}
def Tl (L:List PV):Prop:=L.length<=1000/\∀ x∈L,∃ a b,x=.tup [.int a,.int b]
theorem yLD {i:Int}:ycm yK [.int i,.ty "int"] h=some (.bl true,h):=rfl
theorem yLE {i:Int}:ycm yK [.int i,.ty "bool"] h=some (.bl false,h):=rfl
theorem yLF {xs}:ycm yK [.tup xs,.ty "int"] h=some (.bl false,h):=rfl
theorem yLG {xs}:ycm yK [.tup xs,.ty "str"] h=some (.bl false,h):=rfl
theorem yLH {xs}:ycm yK [.tup xs,.ty "tuple"] h=some (.bl true,h):=rfl
theorem yLI {xs}:ycm yK [.lst xs,.ty "int"] h=some (.bl false,h):=rfl
theorem yLJ {xs}:ycm yK [.lst xs,.ty "str"] h=some (.bl false,h):=rfl
theorem yIt {xs}:ycm yK [.lst xs,.ty "tuple"] h=some (.bl false,h):=rfl
theorem yLK {n:Nat}{xs:List PV}(e:h[n]?=some (.lst xs)):ycm yK [.loc n,.ty "list"] h=some (.bl true,h):=by
 unfold ycm ywL yew
 simp only [e]
 rfl
theorem yuK {n:Nat}{xs:List PV}{i:Nat}(e:h[n]?=some (.lst xs)) (hi:i<xs.length):yyJ (.loc n) (.int i) h=some (xs[i],h):=by
 unfold yyJ yhL
 simp only [e]
 rw [yev (List.getElem?_eq_getElem hi)]
local macro_rules | `(tactic| walk_at "pt")=>`(tactic| simp_all? only [yLD,yLE,yLF,yLG,yLH,yLI,yLJ,yIt,ne_eq,not_true_eq_false])
theorem yqV {n:Nat}{i:Int}:yu (n+1) [.int i,.int i] h=some (.bl true,h):=by
 unfold yu
 rw [yC]
 show ob (yw _ _ [.val (.int i),.val (.int i),.no] h) fnK=_
 walk_at "pt"
theorem yFX {n:Nat}{a b:Int}:yu (n+2) [.tup [.int a,.int b],.tup [.int a,.int b]] h=some (.bl true,h):=by
 unfold yu
 rw [yC]
 show ob (yw _ _ [.val (.tup [.int a,.int b]),.val (.tup [.int a,.int b]),.no] h) fnK=_
 walk_at "pt"
 rw [ymv (j:=2) (h1:=h) (by walk_at "pt";rfl) (by omega) (by omega),yv]
 refine yiY (fun i ρ h1=>h1=h/\∃ c,ρ=[.val (.tup [.int a,.int b]),.val (.tup [.int a,.int b]),c]) ⟨rfl,.no,rfl⟩ ?_ ?_
 .rintro i x ρ h1 hx ⟨rfl,c,rfl⟩
  obtain ⟨hi,rfl⟩:=ykc hx
  rw [Int.zero_add]
  refine ⟨_,[.val (.tup [.int a,.int b]),.val (.tup [.int a,.int b]),.val (.int i)],h1,rfl,.inl ?_,rfl,_,rfl⟩
  have hi:i<2:=by simpa using hi
  walk_at "pt"
  rw [yev (List.getElem?_eq_getElem (show i<[PV.int a,.int b].length by simpa using hi))]
  walk_at "pt"
  match i,hi with
  | 0,_=>show ob (yu (n+1) [.int a,.int a] h1) _=_;rw [yqV];walk_at "pt"
  | 1,_=>show ob (yu (n+1) [.int b,.int b] h1) _=_;rw [yqV];walk_at "pt"
 .rintro ρ' h' ⟨rfl,c,rfl⟩
  walk_at "pt"
theorem yzp {f:Nat}{L:List PV}(e:h[f]?=some (.lst L)) (hL:Tl L):yu 4 [.loc f,.lst L] h=some (.bl true,h):=by
 unfold yu
 rw [yC]
 show ob (yw _ _ [.val (.loc f),.val (.lst L),.no] h) fnK=_
 walk_at "pt"
 rw [yLK e]
 walk_at "pt"
 rw [yqy e]
 walk_at "pt"
 rw [ymv (j:=(L.length:Int)) (h1:=h) (by walk_at "pt") (by omega) (by have:=hL.1;omega),yv]
 refine yiY (fun i ρ h1=>h1=h/\∃ c,ρ=[.val (.loc f),.val (.lst L),c]) ⟨rfl,.no,rfl⟩ ?_ ?_
 .rintro i x ρ h1 hx ⟨rfl,c,rfl⟩
  obtain ⟨hi,rfl⟩:=ykc hx
  rw [Int.zero_add]
  have hi:i<L.length:=by omega
  refine ⟨_,[.val (.loc f),.val (.lst L),.val (.int i)],h1,rfl,.inl ?_,rfl,_,rfl⟩
  walk_at "pt"
  rw [yuK e hi]
  walk_at "pt"
  rw [yev (List.getElem?_eq_getElem hi)]
  obtain ⟨a,b,eq⟩:=hL.2 _ (List.getElem_mem hi)
  rw [eq]
  walk_at "pt"
  rw [yFX]
  walk_at "pt"
 .rintro ρ' h' ⟨rfl,c,rfl⟩
  walk_at "pt"
end
theorem ymz:∀ {l₁ l₂:List (Int×PV)},l₁.Pairwise (fun a b=>a.1<b.1)->l₂.Pairwise (fun a b=>a.1<b.1)->(∀ a,a∈l₁ ↔ a∈l₂)->l₁=l₂
 | [],[],_,_,_=>rfl
 | [],b::_,_,_,h=>absurd ((h b).mpr List.mem_cons_self) (by simp)
 | a::_,[],_,_,h=>absurd ((h a).mp List.mem_cons_self) (by simp)
 | a::r,b::t,h1,h2,h=>by
  obtain ⟨p1,p2⟩:=List.pairwise_cons.mp h1
  obtain ⟨q1,q2⟩:=List.pairwise_cons.mp h2
  have e:a=b:=by
   rcases List.mem_cons.mp ((h a).mp List.mem_cons_self) with e|e
   .exact e
   rcases List.mem_cons.mp ((h b).mpr List.mem_cons_self) with e'|e'
   .exact e'.symm
   have:=q1 a e
   have:=p1 b e'
   omega
  subst e
  rw [ymz p2 q2 fun x=>⟨fun hx=>?_,fun hx=>?_⟩]
  .rcases List.mem_cons.mp ((h x).mp (List.mem_cons_of_mem _ hx)) with e|e
   .subst e;exact absurd (p1 _ hx) (Int.lt_irrefl _)
   .exact e
  .rcases List.mem_cons.mp ((h x).mpr (List.mem_cons_of_mem _ hx)) with e|e
   .subst e;exact absurd (q1 _ hx) (Int.lt_irrefl _)
   .exact e
theorem ykV {j:Int}{x:PV}:∀ {js:List Int}{xs:List PV},js.Nodup->xs.length=js.length->((j,x)∈js.zip xs ↔ yhN (js.map .inl) xs (.inl j)=some x)
 | [],[],_,_=>by simp [yhN]
 | [],_::_,_,h=>by cases h
 | _::_,[],_,h=>by cases h
 | i::js,y::xs,hn,hl=>by
  obtain ⟨n1,n2⟩:=List.nodup_cons.mp hn
  have ih:=ykV (j:=j) (x:=x) n2 (by simpa using hl)
  rw [List.zip_cons_cons,List.mem_cons]
  show _ ↔ (if (Sum.inl i:Key)=.inl j then some y else yhN (js.map .inl) xs (.inl j))=some x
  by_cases e:i=j
  .subst e
   rw [if_pos rfl]
   constructor
   .rintro (z|z)
    .cases z;rfl
    .exact absurd (List.of_mem_zip z).1 n1
   .intro z;cases z;exact .inl rfl
  .rw [if_neg fun z=>e (by cases z;rfl),<- ih]
   constructor
   .rintro (z|z)
    .cases z;exact absurd rfl e
    .exact z
   .exact .inr
theorem hasK_int {j:Int}:∀ {js:List Int},ypT (js.map .inl) (.inl j)=true ↔ j∈js
 | []=>by simp [ypT]
 | i::js=>by
  show (if (Sum.inl i:Key)=.inl j then true else ypT (js.map .inl) (.inl j))=true ↔ _
  by_cases e:i=j
  .subst e;simp
  .rw [if_neg fun z=>e (by cases z;rfl),hasK_int,List.mem_cons]
   exact ⟨.inr,fun z=>z.elim (fun z=>absurd z.symm e) id⟩
theorem ywb {k:Key}{v:Int}:∀ (ks:List Key) (vs:List Int),∃ ws:List Int,setK ks (vs.map PV.int) k (.int v)=ws.map .int/\ws.length=vs.length
 | [],vs=>⟨vs,by cases vs<;>rfl,rfl⟩
 | _::_,[]=>⟨[],rfl,rfl⟩
 | i::ks,w::vs=>by
  obtain ⟨ws,e,l⟩:=ywb (k:=k) (v:=v) ks vs
  show ∃ ws:List Int,(if i=k then PV.int v::setK ks (vs.map PV.int) k (.int v) else .int w::setK ks (vs.map PV.int) k (.int v))=ws.map .int/\_
  split
  .exact ⟨v::ws,by rw [e];rfl,by simp [l]⟩
  .exact ⟨w::ws,by rw [e];rfl,by simp [l]⟩
structure ID (js vs:List Int):Prop where
 nd:js.Nodup
 rg:∀ j∈js,0<=j/\j<16
 ln:vs.length=js.length
theorem ID.put {js vs:List Int}(d:ID js vs) {j v:Int}(hj:0<=j/\j<16):∃ js' vs',ydX (js.map .inl) (vs.map PV.int) (.inl j) (.int v)=(js'.map .inl,vs'.map .int)/\ID js' vs'/\js'.length<=js.length+1:=by
 unfold ydX
 by_cases h:j∈js
 .rw [if_pos (hasK_int.mpr h)]
  obtain ⟨ws,e,l⟩:=ywb (k:=.inl j) (v:=v) (js.map .inl) vs
  exact ⟨js,ws,by rw [e],⟨d.nd,d.rg,by rw [l,d.ln]⟩,Nat.le_succ _⟩
 .rw [if_neg fun z=>h (hasK_int.mp z)]
  refine ⟨js++[j],vs++[v],by simp,⟨?_,?_,by simp [d.ln]⟩,by simp⟩
  .rw [List.nodup_append]
   exact ⟨d.nd,by simp,fun a ha b hb z=>by
    have:b=j:=by simpa using hb
    subst this;subst z;exact h ha⟩
  .intro i hi
   rcases List.mem_append.mp hi with hi|hi
   .exact d.rg i hi
   .have:i=j:=by simpa using hi
    subst this;exact hj
theorem yol:∀ (js:List Int),ywU (js.map .inl)=some js
 | []=>rfl
 | j::js=>by
  show (ywU (js.map .inl)).map (j::·)=_
  rw [yol js];rfl
def iv16:List Int:=(List.range 16).map fun (k:Nat)=>(0:Int)+(k:Int)
def pk (js vs:List Int) (i:Int):Option (Int×PV):=(yhN (js.map .inl) (vs.map PV.int) (.inl i)).map fun x=>(i,x)
theorem yzq {js vs:List Int}(d:ID js vs):yqA (js.zip (vs.map PV.int))=iv16.filterMap (pk js vs):=by
 have hl:(vs.map PV.int).length=js.length:=by simp [d.ln]
 have hk:(js.zip (vs.map PV.int)).map (·.1)=js:=List.map_fst_zip (by omega)
 refine ymz ?_ ?_ fun a=>?_
 .have h1:=ynv (js.zip (vs.map PV.int))
  have h2:((yqA (js.zip (vs.map PV.int))).map (·.1)).Nodup:=by
   have:=((yfj (js.zip (vs.map PV.int))).map (·.1))
   rw [hk] at this
   exact this.nodup_iff.mpr d.nd
  exact (h1.and (List.pairwise_map.mp h2)).imp fun ⟨a,b⟩=>by omega
 .refine List.Pairwise.filterMap (R:=fun a b=>a<b) (pk js vs) (fun a a' hlt b hb b' hb'=>?_) (by decide)
  unfold pk at hb hb'
  obtain ⟨x,_,rfl⟩:=Option.map_eq_some_iff.mp hb
  obtain ⟨x',_,rfl⟩:=Option.map_eq_some_iff.mp hb'
  exact hlt
 .obtain ⟨j,x⟩:=a
  rw [(yfj _).mem_iff,ykV d.nd hl,List.mem_filterMap]
  constructor
  .intro e
   have hj:j∈js:=(List.of_mem_zip ((ykV d.nd hl).mpr e)).1
   obtain ⟨r1,r2⟩:=d.rg j hj
   refine ⟨j,?_,by unfold pk;rw [e];rfl⟩
   unfold iv16
   exact List.mem_map.mpr ⟨j.toNat,List.mem_range.mpr (by omega),by omega⟩
  .rintro ⟨i,_,e⟩
   unfold pk at e
   obtain ⟨y,e1,e2⟩:=Option.map_eq_some_iff.mp e
   cases e2
   exact e1
def yuL (js vs:List Int):List PV:=(iv16.filterMap (pk js vs)).map fun p=>.tup [.int p.1,p.2]
theorem ywc {js vs:List Int}(d:ID js vs) (h64:js.length<64):sortI (js.map .inl) (vs.map PV.int)=some (yuL js vs):=by
 unfold sortI
 rw [yol]
 dsimp only
 rw [if_pos h64,yzq d]
 rfl
theorem yCa {ks:List Key}{j:Key}:∀ {vs:List Int}{x:PV},yhN ks (vs.map PV.int) j=some x->∃ v,x=.int v:=by
 induction ks with
 | nil=>intro vs x e;cases vs<;>cases e
 | cons k ks ih =>
  intro vs x e
  cases vs with
  | nil=>cases e
  | cons v vs =>
   have e:(if k=j then some (PV.int v) else yhN ks (vs.map PV.int) j)=some x:=e
   split at e
   .cases e;exact ⟨v,rfl⟩
   .exact ih e
inductive T where
 | let_ (r:Str) (n:Int)
 | reckon (w r s t:Str)
 | take (r s:Str)
 | put (s t:Str)
 | if_ (r:Str) (a b:List T)
 | either (a b:List T)
 | try_ (a:List T) (nm r:Str) (b:List T)
 | throw (nm r:Str)
 | wait
mutual
noncomputable def ypk:T->Nat
 | .if_ _ a b=>1+max (ydu a) (ydu b)
 | .either a b=>1+max (ydu a) (ydu b)
 | .try_ a _ _ b=>1+max (ydu a) (ydu b)
 | _=>0
noncomputable def ydu:List T->Nat
 | []=>0
 | t::r=>max (ypk t) (ydu r)
end
mutual
noncomputable def yei:T->PV
 | .let_ r n=>.ins 3 ["slot","number"] [.str r,.int n]
 | .reckon w r s t=>.ins 4 ["word","slot","one","other"] [.str w,.str r,.str s,.str t]
 | .take r s=>.ins 5 ["slot","place"] [.str r,.str s]
 | .put s t=>.ins 6 ["place","slot"] [.str s,.str t]
 | .if_ r a b=>.ins 7 ["slot","parts","others"] [.str r,.lst (ybu a),.lst (ybu b)]
 | .either a b=>.ins 8 ["parts","others"] [.lst (ybu a),.lst (ybu b)]
 | .try_ a nm r b=>.ins 9 ["parts","name","slot","others"] [.lst (ybu a),.str nm,.str r,.lst (ybu b)]
 | .throw nm r=>.ins 10 ["name","slot"] [.str nm,.str r]
 | .wait=>.ins 11 [] []
noncomputable def ybu:List T->List PV
 | []=>[]
 | t::r=>yei t::ybu r
end
theorem ypW:∀ ts:List T,ybu ts=ts.map yei
 | []=>rfl
 | t::r=>by show yei t::ybu r=_;rw [ypW r];rfl
def SL:List Str:=["a","b","c","d","e","f","g","h"]
def okS (r:Str):Prop:=r∈SL
def sx (r:Str):Nat:=SL.idxOf r
def WDS:List Str:=["plus","minus","times","less","same"]
def okW (w:Str):Prop:=w∈WDS
def N64 (v:Int):Prop:=0<=v/\v<18446744073709551616
mutual
noncomputable def okT:T->Prop
 | .let_ r n=>okS r/\N64 n
 | .reckon w r s t=>okW w/\okS r/\okS s/\okS t
 | .take r s=>okS r/\okS s
 | .put s t=>okS s/\okS t
 | .if_ r a b=>okS r/\okL a/\okL b
 | .either a b=>yKL/\okL a/\okL b
 | .try_ a _ r b=>yDr/\okS r/\okL a/\okL b
 | .throw _ r=>yDr/\okS r
 | .wait=>True
noncomputable def okL:List T->Prop
 | []=>True
 | t::r=>okT t/\okL r
end
theorem yom {r:Str}(h:okS r):sx r<8:=List.idxOf_lt_length_of_mem h
inductive En where|done|waits|fell (nm:Str) (v:Int)
def enV:En->PV
 | .done=>.tup [.str "done"]
 | .waits=>.tup [.str "waits"]
 | .fell nm v=>.tup [.str "fell",.str nm,.int v]
abbrev Vw:=Int->Option Int
def upV (f:Vw) (j v:Int):Vw:=fun i=>if i=j then some v else f i
structure AS where
 hs:List Int
 v:Vw
 s:Vw
noncomputable def rk (w:Str) (a b:Int):Int :=
 if w = "plus" then (a+b)%18446744073709551616 else if w = "minus" then (a-b)%18446744073709551616 else if w = "times" then a*b%18446744073709551616 else if w = "less" then (if a<b then 1 else 0) else if a=b then 1 else 0
def AS.at_ (σ:AS) (r:Str):Int:=σ.hs.getD (sx r) 0
def AS.put_ (σ:AS) (r:Str) (v:Int):AS:=⟨σ.hs.set (sx r) v,σ.v,σ.s⟩
def AS.box (σ:AS) (bx:List Int) (r:Str):Int:=σ.at_ r%bx.length
noncomputable def tkV (bx:List Int) (σ:AS) (r:Str) (j:Int):Option Int->AS
 | some v=>σ.put_ r v
 | none=>(⟨σ.hs,σ.v,upV σ.s j (bx.getD j.toNat 0)⟩:AS).put_ r (bx.getD j.toNat 0)
noncomputable def evP (bx:List Int):T->AS->AS
 | .let_ r n,σ=>σ.put_ r n
 | .reckon w r s t,σ=>σ.put_ r (rk w (σ.at_ s) (σ.at_ t))
 | .take r s,σ=>tkV bx σ r (σ.box bx s) (σ.v (σ.box bx s))
 | .put s t,σ=>⟨σ.hs,upV σ.v (σ.box bx s) (σ.at_ t),σ.s⟩
 | _,σ=>σ
mutual
noncomputable def evT (bx:List Int):T->AS->En×AS
 | .if_ r a b,σ=>if σ.at_ r≠0 then evL bx a σ else evL bx b σ
 | .either a b,σ=>(match evL bx a σ with
  | (.waits,τ)=>evL bx b ⟨σ.hs,σ.v,τ.s⟩
  | (.fell nm v,τ)=>(.fell nm v,⟨σ.hs,σ.v,τ.s⟩)
  | (.done,τ)=>(.done,τ))
 | .try_ a nm r b,σ=>(match evL bx a σ with
  | (.fell m v,τ)=>if m=nm then evL bx b ((⟨σ.hs,σ.v,τ.s⟩:AS).put_ r v) else (.fell m v,⟨σ.hs,σ.v,τ.s⟩)
  | (.waits,τ)=>(.waits,⟨σ.hs,σ.v,τ.s⟩)
  | (.done,τ)=>(.done,τ))
 | .throw nm r,σ=>(.fell nm (σ.at_ r),σ)
 | .wait,σ=>(.waits,σ)
 | .let_ r n,σ=>(.done,evP bx (.let_ r n) σ)
 | .reckon w r s t,σ=>(.done,evP bx (.reckon w r s t) σ)
 | .take r s,σ=>(.done,evP bx (.take r s) σ)
 | .put s t,σ=>(.done,evP bx (.put s t) σ)
noncomputable def evL (bx:List Int):List T->AS->En×AS
 | [],σ=>(.done,σ)
 | t::r,σ=>(match evT bx t σ with
  | (.done,τ)=>evL bx r τ
  | (.waits,τ)=>(.waits,τ)
  | (.fell nm v,τ)=>(.fell nm v,τ))
end
def gI (d:List Key×List PV) (j:Int):Option Int:=match yhN d.1 d.2 (.inl j) with|some (.int v)=>some v|_=>none
def orV:Option Int->Option Int->Option Int
 | some v,_=>some v
 | none,b=>b
noncomputable def vwN (ds:List (List Key×List PV)) (j:Int):Nat->Option Int
 | 0=>none
 | k+1=>match ds[k]? with|some d=>orV (gI d j) (vwN ds j k)|none=>none
def ofO:Option Int->PV|none=>.non|some v=>.int v
section
variable {h h':AH}
theorem yjR {i:Nat}{d:Nd}(e:h[i]?=some d):i<h.length:=(List.getElem?_eq_some_iff.mp e).1
theorem ycI {i:Nat}{d x:Nd}(e:h[i]?=some d):(h++[x])[i]?=some d:=by rw [List.getElem?_append_left (yjR e)];exact e
theorem yB {i t:Nat}{d x:Nd}(hi:i≠t) (e:h[i]?=some d):(h.set t x)[i]?=some d:=(List.getElem?_set_ne (Ne.symm hi)).trans e
theorem set_same {t:Nat}{d x:Nd}(e:h[t]?=some d):(h.set t x)[t]?=some x:=List.getElem?_set_self (yjR e)
theorem Stk.lt:∀ {ls:List Nat}{ds:List (List Key×List PV)},Stk h ls ds->∀ l∈ls,l<h.length
 | _::_,_::_,s,l,hl=>by
  rcases List.mem_cons.mp hl with rfl|hl
  .exact yjR s.1
  .exact Stk.lt s.2 l hl
 | [],_,_,l,hl=>by simp at hl
 | _::_,[],s,_,_=>s.elim
def Frm (X:Nat->Prop) (h h':AH):Prop:=h.length<=h'.length/\∀ n,n<h.length->X n->h'[n]?=h[n]?
theorem Frm.refl {X:Nat->Prop}:Frm X h h:=⟨Nat.le_refl _,fun _ _ _=>rfl⟩
theorem Frm.trans {X:Nat->Prop}{h1 h2:AH}(a:Frm X h h1) (b:Frm X h1 h2):Frm X h h2:=⟨Nat.le_trans a.1 b.1,fun n hn hx=>(b.2 n (Nat.lt_of_lt_of_le hn a.1) hx).trans (a.2 n hn hx)⟩
theorem Frm.set {X:Nat->Prop}{t:Nat}{x:Nd}(a:Frm X h h') (ht:¬ X t):Frm X h (h'.set t x):=⟨by rw [List.length_set];exact a.1,fun n hn hx=>(List.getElem?_set_ne (fun (z:t=n)=>ht (by rw [z];exact hx))).trans (a.2 n hn hx)⟩
theorem Frm.app {X:Nat->Prop}{x:Nd}(a:Frm X h h'):Frm X h (h'++[x]):=by
 refine ⟨by rw [List.length_append];exact Nat.le_trans a.1 (Nat.le_add_right _ _),fun n hn hx=>?_⟩
 rw [List.getElem?_append_left (by have:=a.1;omega),a.2 n hn hx]
theorem Frm.imp {X Y:Nat->Prop}(a:Frm X h h') (k:∀ n,Y n->X n):Frm Y h h':=⟨a.1,fun n hn hy=>a.2 n hn (k n hy)⟩
theorem Frm.get {X:Nat->Prop}{n:Nat}{d:Nd}(a:Frm X h h') (hx:X n) (e:h[n]?=some d):h'[n]?=some d:=(a.2 n (yjR e) hx).trans e
def isID (d:List Key×List PV):Prop:=∃ js vs,d=(js.map .inl,vs.map .int)/\ID js vs
theorem ID.le {js vs:List Int}(d:ID js vs):js.length<=16:=by
 have:js.length<=iv16.length:=List.Nodup.length_le_of_subset d.nd fun j hj=>by
  obtain ⟨r1,r2⟩:=d.rg j hj
  unfold iv16
  exact List.mem_map.mpr ⟨j.toNat,List.mem_range.mpr (by omega),by omega⟩
 exact this
theorem isID.put {d:List Key×List PV}(hd:isID d) {j v:Int}(hj:0<=j/\j<16):isID (ydX d.1 d.2 (.inl j) (.int v)):=by
 obtain ⟨js,vs,rfl,d⟩:=hd
 obtain ⟨js',vs',e,d',_⟩:=d.put (v:=v) hj
 exact ⟨js',vs',e,d'⟩
theorem isID.mrg:∀ (js us:List Int) {d:List Key×List PV},isID d->(∀ j∈js,0<=j/\j<16)->isID (ysA (js.map .inl) (us.map PV.int) d.1 d.2)
 | [],us,d,hd,_=>by
  have:ysA (([]:List Int).map .inl) (us.map PV.int) d.1 d.2=d:=by cases us<;>rfl
  rw [this];exact hd
 | j::js,[],d,hd,_=>by
  have:ysA ((j::js).map .inl) (([]:List Int).map PV.int) d.1 d.2=d:=rfl
  rw [this];exact hd
 | j::js,u::us,d,hd,hr=>isID.mrg js us (hd.put (v:=u) (hr j List.mem_cons_self)) fun i hi=>hr i (List.mem_cons_of_mem _ hi)
theorem isID.len {d:List Key×List PV}(hd:isID d):d.1.length<=16:=by
 obtain ⟨js,vs,rfl,d⟩:=hd
 show (js.map _).length<=16
 rw [List.length_map];exact d.le
theorem isID.nil:isID ([],[]):=⟨[],[],rfl,by simp,by simp,rfl⟩
theorem yCb {ks:List Key}{xs:List PV}{k j:Key}{x:PV}(hl:xs.length=ks.length):yhN (ydX ks xs k x).1 (ydX ks xs k x).2 j=if k=j then some x else yhN ks xs j:=by
 unfold ydX
 have app:∀ (ks:List Key) (xs:List PV),xs.length=ks.length->ypT ks k=false->yhN (ks++[k]) (xs++[x]) j=if k=j then some x else yhN ks xs j:=by
  intro ks
  induction ks with
  | nil=>intro xs hl _;have:xs=[]:=(by simpa using hl);subst this;show (if k=j then some x else none)=_;split<;>rfl
  | cons i ks ih =>
   intro xs hl hh
   cases xs with
   | nil=>simp at hl
   | cons y xs =>
    have hh:(if i=k then true else ypT ks k)=false:=hh
    have hik:¬ i=k:=fun z=>by rw [if_pos z] at hh;cases hh
    rw [if_neg hik] at hh
    show (if i=j then some y else yhN (ks++[k]) (xs++[x]) j)=if k=j then some x else if i=j then some y else yhN ks xs j
    rw [ih xs (by simpa using hl) hh]
    by_cases h1:i=j
    .rw [if_pos h1,if_neg fun z=>hik (h1.trans z.symm),if_pos h1]
    .rw [if_neg h1,if_neg h1]
 have st:∀ (ks:List Key) (xs:List PV),xs.length=ks.length->ypT ks k=true->yhN ks (setK ks xs k x) j=if k=j then some x else yhN ks xs j:=by
  intro ks
  induction ks with
  | nil=>intro xs hl hh;cases hh
  | cons i ks ih =>
   intro xs hl hh
   cases xs with
   | nil=>simp at hl
   | cons y xs =>
    by_cases hik:i=k
    .subst hik
     have e:setK (i::ks) (y::xs) i x=x::setK ks xs i x:=if_pos rfl
     rw [e]
     show (if i=j then some x else yhN ks (setK ks xs i x) j)=if i=j then some x else if i=j then some y else yhN ks xs j
     by_cases h1:i=j
     .rw [if_pos h1,if_pos h1]
     .rw [if_neg h1,if_neg h1,if_neg h1]
      by_cases h2:ypT ks i=true
      .rw [ih xs (by simpa using hl) h2,if_neg h1]
      .have:∀ (ks:List Key) (xs:List PV),ypT ks i=false->setK ks xs i x=xs:=by
        intro ks
        induction ks with
        | nil=>intro xs _;cases xs<;>rfl
        | cons a ks ih2 =>
         intro xs hh
         have hh:(if a=i then true else ypT ks i)=false:=hh
         have hai:¬ a=i:=fun z=>by rw [if_pos z] at hh;cases hh
         rw [if_neg hai] at hh
         cases xs with
         | nil=>rfl
         | cons b xs =>
          show (if a=i then x::setK ks xs i x else b::setK ks xs i x)=_
          rw [if_neg hai,ih2 xs hh]
       rw [this ks xs (by simpa using h2)]
    .have hh:(if i=k then true else ypT ks k)=true:=hh
     rw [if_neg hik] at hh
     have e:setK (i::ks) (y::xs) k x=y::setK ks xs k x:=if_neg hik
     rw [e]
     show (if i=j then some y else yhN ks (setK ks xs k x) j)=if k=j then some x else if i=j then some y else yhN ks xs j
     rw [ih xs (by simpa using hl) hh]
     by_cases h1:i=j
     .rw [if_pos h1,if_neg fun z=>hik (h1.trans z.symm),if_pos h1]
     .rw [if_neg h1,if_neg h1]
 by_cases hh:ypT ks k=true
 .rw [if_pos hh];exact st ks xs hl hh
 .rw [if_neg hh];exact app ks xs hl (by simpa using hh)
theorem isID.ln {d:List Key×List PV}(hd:isID d):d.2.length=d.1.length:=by
 obtain ⟨js,vs,rfl,d⟩:=hd
 simp [d.ln]
theorem isID.get {d:List Key×List PV}(hd:isID d) (j:Int):yhN d.1 d.2 (.inl j)=(gI d j).map .int:=by
 obtain ⟨js,vs,rfl,_⟩:=hd
 unfold gI
 cases e:yhN (js.map .inl) (vs.map PV.int) (.inl j) with
 | none=>rfl
 | some x=>obtain ⟨v,rfl⟩:=yCa e;rfl
theorem ysO {d:List Key×List PV}(hd:isID d) {k j v:Int}:gI (ydX d.1 d.2 (.inl k) (.int v)) j=if j=k then some v else gI d j:=by
 unfold gI
 rw [yCb hd.ln]
 by_cases h:j=k
 .subst h;rw [if_pos rfl,if_pos rfl]
 .rw [if_neg fun z=>h (by cases z;rfl),if_neg h]
theorem yIu {j:Int}:gI ([],[]) j=none:=rfl
theorem yDt:∀ (js us:List Int) {d:List Key×List PV},isID d->(∀ j∈js,0<=j/\j<16)->js.Nodup->us.length=js.length->∀ j,gI (ysA (js.map .inl) (us.map PV.int) d.1 d.2) j=orV (gI (js.map .inl,us.map PV.int) j) (gI d j)
 | [],us,d,hd,_,_,hl,j=>by
  have:us=[]:=by simpa using hl
  subst this
  rfl
 | i::js,[],d,hd,_,_,hl,j=>by simp at hl
 | i::js,u::us,d,hd,hr,hn,hl,j=>by
  obtain ⟨n1,n2⟩:=List.nodup_cons.mp hn
  have ih:=yDt js us (hd.put (v:=u) (hr i List.mem_cons_self)) (fun i hi=>hr i (List.mem_cons_of_mem _ hi)) n2 (by simpa using hl) j
  show gI (ysA (js.map .inl) (us.map PV.int) (ydX d.1 d.2 (.inl i) (.int u)).1 (ydX d.1 d.2 (.inl i) (.int u)).2) j=_
  rw [ih,ysO hd]
  have e:gI ((i::js).map .inl,(u::us).map PV.int) j=if j=i then some u else gI (js.map .inl,us.map PV.int) j:=by
   unfold gI
   show (match (if (Sum.inl i:Key)=.inl j then some (PV.int u) else yhN (js.map .inl) (us.map PV.int) (.inl j)) with|some (.int v)=>some v|_=>none)=_
   by_cases h:j=i
   .subst h;rw [if_pos rfl,if_pos rfl]
   .rw [if_neg fun z=>h (by cases z;rfl),if_neg h]
  rw [e]
  by_cases h:j=i
  .subst h
   rw [if_pos rfl,if_pos rfl]
   have:gI (js.map .inl,us.map PV.int) j=none:=by
    unfold gI
    have:yhN (js.map .inl) (us.map PV.int) (.inl j)=none:=by
     cases e:yhN (js.map .inl) (us.map PV.int) (.inl j) with
     | none=>rfl
     | some x=>exact absurd (List.of_mem_zip ((ykV n2 (by simpa using hl)).mpr e)).1 n1
    simp only [this]
   rw [this]
   rfl
  .rw [if_neg h,if_neg h]
theorem yzr {ds:List (List Key×List PV)}(hi:∀ d∈ds,isID d) {j:Int}:∀ k,yGo ds (.inl j) k=ofO (vwN ds j k)
 | 0=>rfl
 | k+1=>by
  unfold yGo vwN
  cases e:ds[k]? with
  | none=>rfl
  | some d =>
   have:=(hi d (List.mem_of_getElem? e)).get j
   simp only [this]
   cases gI d j with
   | none=>exact yzr hi k
   | some v=>rfl
theorem yzs {es fs:List (List Key×List PV)}{j:Int}:∀ k,k<=es.length->vwN (es++fs) j k=vwN es j k
 | 0,_=>rfl
 | k+1,hk=>by
  unfold vwN
  rw [List.getElem?_append_left (by omega),yzs k (by omega)]
theorem yzt {es:List (List Key×List PV)}{d:List Key×List PV}{j:Int}:vwN (es++[d]) j (es++[d]).length=orV (gI d j) (vwN es j es.length):=by
 rw [List.length_append]
 show vwN (es++[d]) j (es.length+1)=_
 rw [vwN]
 rw [List.getElem?_append_right (Nat.le_refl _),Nat.sub_self,yzs es.length (Nat.le_refl _)]
 rfl
end
theorem yqW:(("minus":Str) = "plus")=False:=eq_false (by rfl')
theorem yqX:(("plus":Str) = "minus")=False:=eq_false (by rfl')
theorem yqY:(("times":Str) = "plus")=False:=eq_false (by rfl')
theorem yqZ:(("plus":Str) = "times")=False:=eq_false (by rfl')
theorem ypl:(("times":Str) = "minus")=False:=eq_false (by rfl')
theorem ypm:(("minus":Str) = "times")=False:=eq_false (by rfl')
theorem ysP:(("less":Str) = "plus")=False:=eq_false (by rfl')
theorem ysQ:(("plus":Str) = "less")=False:=eq_false (by rfl')
theorem yra:(("less":Str) = "minus")=False:=eq_false (by rfl')
theorem yrb:(("minus":Str) = "less")=False:=eq_false (by rfl')
theorem yrc:(("less":Str) = "times")=False:=eq_false (by rfl')
theorem yrd:(("times":Str) = "less")=False:=eq_false (by rfl')
theorem ysR:(("same":Str) = "plus")=False:=eq_false (by rfl')
theorem ysS:(("plus":Str) = "same")=False:=eq_false (by rfl')
theorem yre:(("same":Str) = "minus")=False:=eq_false (by rfl')
theorem yrf:(("minus":Str) = "same")=False:=eq_false (by rfl')
theorem yrg:(("same":Str) = "times")=False:=eq_false (by rfl')
theorem yrh:(("times":Str) = "same")=False:=eq_false (by rfl')
theorem ysT:(("same":Str) = "less")=False:=eq_false (by rfl')
local macro_rules | `(tactic| walk_at "pw")=>`(tactic| simp_all? only [yqW,yqX,yqY,yqZ,ypl,ypm,ysP,ysQ,yra,yrb,yrc,yrd,ysR,ysS,yre,yrf,yrg,yrh,ysT,if_true,if_false])
section
variable {h:AH}
structure DG (h:AH) (X:Nat->Prop) (d hl o s b:Nat) (l:List Nat) (t:Nat) (es:List (List Key×List PV)) (bx hs:List Int) (top:List Key×List PV) (sj sv:List Int):Prop where
 ob:h[d]?=some (.ins 1 ["held","width","log","found"] [.loc hl,.int bx.length,.loc o,.lst (bx.map .int)])
 hh:h[hl]?=some (.lst (hs.map .int))
 g:LG h o s b (l++[t]) (es++[top]) (sj.map .inl) (sv.map .int)
 st:Stk h l es
 tp:h[t]?=some (.dct top.1 top.2)
 nd:(d::hl::o::s::b::(l++[t])).Nodup
 ge:∀ x∈d::hl::o::s::b::(l++[t]),¬ X x
 idT:isID top
 idE:∀ e∈es,isID e
 idS:ID sj sv
 h8:hs.length=8
 b1:1<=bx.length
 b16:bx.length<=16
 xl:∀ n,X n->n<h.length
variable {X:Nat->Prop}{d hl o s b t:Nat}{l:List Nat}{es:List (List Key×List PV)}{bx hs:List Int}{top:List Key×List PV}{sj sv:List Int}
theorem ywd {u1 u2 u3 u4:PV}(e:h[d]?=some (.ins 1 ["held","width","log","found"] [u1,u2,u3,u4])):yie [1] "held" (.loc d) h=some (u1,h):=by
 unfold yie yka
 simp only [e]
 rw [if_pos (by rfl'),show List.idxOf ("held":Str) ["held","width","log","found"]=0 by rfl']
 rfl
theorem yFY {u1 u2 u3 u4:PV}(e:h[d]?=some (.ins 1 ["held","width","log","found"] [u1,u2,u3,u4])):yie [1] "width" (.loc d) h=some (u2,h):=by
 unfold yie yka
 simp only [e]
 rw [if_pos (by rfl'),show List.idxOf ("width":Str) ["held","width","log","found"]=1 by rfl']
 rfl
theorem ypn {u1 u2 u3 u4:PV}(e:h[d]?=some (.ins 1 ["held","width","log","found"] [u1,u2,u3,u4])):yie [1] "log" (.loc d) h=some (u3,h):=by
 unfold yie yka
 simp only [e]
 rw [if_pos (by rfl'),show List.idxOf ("log":Str) ["held","width","log","found"]=2 by rfl']
 rfl
theorem yFZ {u1 u2 u3 u4:PV}(e:h[d]?=some (.ins 1 ["held","width","log","found"] [u1,u2,u3,u4])):yie [1] "found" (.loc d) h=some (u4,h):=by
 unfold yie yka
 simp only [e]
 rw [if_pos (by rfl'),show List.idxOf ("found":Str) ["held","width","log","found"]=3 by rfl']
 rfl
theorem yjb {u1 u2 u3 u4:PV}{m:Str}{f:Fn}{ys:List PV}{a:XE}{aa:XA}{ρ:PSt}{h0 h2:AH}(e:h[d]?=some (.ins 1 ["held","width","log","found"] [u1,u2,u3,u4])) (ea:a ρ h0=some (.loc d,h)) (hm:m∉(["held","width","log","found"]:List Str)) (eb:aa ρ h=some (ys,h2)):yO 1 m f a aa ρ h0=f (.loc d::ys) h2:=by
 unfold yO yka
 rw [ea,yv]
 simp only [e]
 rw [if_pos ⟨trivial,hm⟩,eb,yv]
theorem yfk {r:Str}(hr:okS r):ydW (.str "abcdefgh") [.str r] h=some (.int (sx r),h):=by
 unfold okS SL at hr
 simp only [List.mem_cons,List.not_mem_nil,or_false] at hr
 rcases hr with rfl|rfl|rfl|rfl|rfl|rfl|rfl|rfl<;>(unfold ydW;simp only [];rfl)
theorem ykW {r:Str}(hr:okS r):ydw [.str r] h=some (.int (sx r),h):=by
 unfold ydw
 rw [yC]
 show ob (ycB _ [.val (.str r)] h) fnK=_
 walk_at "px"
 rw [yfk hr,yv]
theorem yri {n:Nat}{xs:List Int}{i:Nat}(e:h[n]?=some (.lst (xs.map .int))) (hi:i<xs.length):yhL (.loc n) (.int i) h=some (.int (xs.getD i 0),h):=by
 unfold yhL
 simp only [e]
 have:(xs.map PV.int)[i]?=some (.int (xs.getD i 0)):=by
  rw [List.getElem?_map,List.getElem?_eq_getElem hi,List.getD_eq_getElem?_getD,List.getElem?_eq_getElem hi];rfl
 rw [yev this]
theorem DG.nx (D:DG h X d hl o s b l t es bx hs top sj sv):d≠hl/\d≠o/\d≠s/\d≠b/\d∉l++[t]/\hl≠o/\hl≠s/\hl≠b/\hl∉l++[t]/\o≠s/\o≠b/\o∉l++[t]/\s≠b/\s∉l++[t]/\b∉l++[t]/\(l++[t]).Nodup:=by
 obtain ⟨n1,r⟩:=List.nodup_cons.mp D.nd
 obtain ⟨n2,r⟩:=List.nodup_cons.mp r
 obtain ⟨n3,r⟩:=List.nodup_cons.mp r
 obtain ⟨n4,r⟩:=List.nodup_cons.mp r
 obtain ⟨n5,r⟩:=List.nodup_cons.mp r
 simp only [List.mem_cons,not_or] at n1 n2 n3 n4 n5
 exact ⟨n1.1,n1.2.1,n1.2.2.1,n1.2.2.2.1,n1.2.2.2.2,n2.1,n2.2.1,n2.2.2.1,n2.2.2.2,n3.1,n3.2.1,n3.2.2,n4.1,n4.2,n5,r⟩
theorem yfl {r:Str}(D:DG h X d hl o s b l t es bx hs top sj sv) (hr:okS r):yV [.loc d,.str r] h=some (.int (hs.getD (sx r) 0),h):=by
 unfold yV
 rw [yC]
 show ob (ycB _ [.val (.loc d),.val (.str r)] h) fnK=_
 walk_at "px"
 rw [ywd D.ob,yv,ykW hr,yv,yri D.hh (by rw [D.h8];exact yom hr),yv]
theorem yon {r:Str}{v:Int}(D:DG h X d hl o s b l t es bx hs top sj sv) (hr:okS r):ybI [.loc d,.str r,.int v] h=some (.non,h.set hl (.lst ((hs.set (sx r) v).map .int))):=by
 unfold ybI
 rw [yC]
 show ob (ymU _ _ _ [.val (.loc d),.val (.str r),.val (.int v)] h) fnK=_
 unfold ymU
 show ob (ob (some (PV.int v,h)) _) _=_
 rw [yv]
 walk_at "px"
 rw [ywd D.ob,yv,ykW hr,yv]
 have hi:sx r<hs.length:=by rw [D.h8];exact yom hr
 have e:ixN (hs.map PV.int).length (sx r:Nat)=some (sx r):=by
  unfold ixN
  simp [hi]
 simp only [D.hh,e]
 rw [yv,List.map_set]
 rfl
theorem ykX {r:Str}(D:DG h X d hl o s b l t es bx hs top sj sv) (hr:okS r):ybw [.loc d,.str r] h=some (.int (hs.getD (sx r) 0%bx.length),h):=by
 unfold ybw
 rw [yC]
 show ob (ycB _ [.val (.loc d),.val (.str r)] h) fnK=_
 walk_at "px"
 rw [yjb D.ob rfl (by rfl') rfl,yfl D hr,yv,yFY D.ob,yv]
 have:=D.b1
 walk_at "px"
 rw [if_pos (by omega)]
theorem yKM {w:Str}{x y:Int}(hw:okW w) (hx:N64 x):ykU [.str w,.int x,.int y] h=some (.int (rk w x y),h):=by
 have hm:MulOk x y:=.inl ⟨by have:=hx.1;omega,hx.2⟩
 unfold ykU
 rw [yC]
 show ob (yw _ _ [.val (.str w),.val (.int x),.val (.int y)] h) fnK=_
 unfold okW WDS at hw
 simp only [List.mem_cons,List.not_mem_nil,or_false] at hw
 unfold rk
 rcases hw with rfl|rfl|rfl|rfl|rfl
 .walk_at "pw"
 .walk_at "pw"
 .walk_at "pw"
  rw [if_pos hm]
 .walk_at "pw"
  split<;>rfl
 .walk_at "pw"
  split<;>rfl
theorem ysU {w r p q:Str}(D:DG h X d hl o s b l t es bx hs top sj sv) (hw:okW w) (hr:okS r) (hp:okS p) (hq:okS q) (hN:∀ v∈hs,N64 v):ydi [.loc d,.str w,.str r,.str p,.str q] h=some (.non,h.set hl (.lst ((hs.set (sx r) (rk w (hs.getD (sx p) 0) (hs.getD (sx q) 0))).map .int))):=by
 have hi:sx p<hs.length:=by rw [D.h8];exact yom hp
 have hv:N64 (hs.getD (sx p) 0):=hN _ (by rw [List.getD_eq_getElem?_getD,List.getElem?_eq_getElem hi];exact List.getElem_mem hi)
 unfold ydi
 rw [yC]
 show ob (yff _ [.val (.loc d),.val (.str w),.val (.str r),.val (.str p),.val (.str q)] h) fnK=_
 rw [ynS,yjb (h2:=h) (ys:=[.str r,.int (rk w (hs.getD (sx p) 0) (hs.getD (sx q) 0))]) D.ob rfl (by rfl') (by
  walk_at "px"
  rw [yjb D.ob rfl (by rfl') rfl,yfl D hp,yv,yjb D.ob rfl (by rfl') rfl,yfl D hq,yv,yKM hw hv]
  walk_at "px"),yon D hr,yv,yv]
 rfl
theorem yzu {p q:Str}(D:DG h X d hl o s b l t es bx hs top sj sv) (hp:okS p) (hq:okS q):yeJ [.loc d,.str p,.str q] h=some (.non,h.set t (.dct (ydX top.1 top.2 (.inl (hs.getD (sx p) 0%bx.length)) (.int (hs.getD (sx q) 0))).1 (ydX top.1 top.2 (.inl (hs.getD (sx p) 0%bx.length)) (.int (hs.getD (sx q) 0))).2)):=by
 unfold yeJ
 rw [yC]
 show ob (yff _ [.val (.loc d),.val (.str p),.val (.str q)] h) fnK=_
 have hl':=D.idT.len
 rw [ynS,yhQ (h:=h) (h2:=h) (ys:=[.int (hs.getD (sx p) 0%bx.length),.int (hs.getD (sx q) 0)]) D.g.ob (by
  walk_at "px"
  rw [ypn D.ob]) (by rfl') (by
  walk_at "px"
  rw [yjb D.ob rfl (by rfl') rfl,ykX D hp,yv,yjb D.ob rfl (by rfl') rfl,yfl D hq,yv]),yBY D.g D.tp (by omega),yv,yv]
 rfl
theorem yDu {p:Str}(D:DG h X d hl o s b l t es bx hs top sj sv) (j:Int):yfQ [.loc o,.int j] h=some (ofO (orV (gI top j) (vwN es j es.length)),h):=by
 rw [yIr D.g,yzr (fun e he=>by
  rcases List.mem_append.mp he with he|he
  .exact D.idE e he
  .rw [List.mem_singleton.mp he];exact D.idT),show (l++[t]).length=(es++[top]).length by rw [List.length_append,List.length_append,D.st.len];rfl,yzt]
theorem yxa {p:Str}(D:DG h X d hl o s b l t es bx hs top sj sv) (hp:okS p):yed [.loc d,.str p] h=some (.bl (isN (ofO (orV (gI top (hs.getD (sx p) 0%bx.length)) (vwN es (hs.getD (sx p) 0%bx.length) es.length)))),h):=by
 unfold yed
 rw [yC]
 show ob (ycB _ [.val (.loc d),.val (.str p)] h) fnK=_
 walk_at "px"
 rw [yhQ (h:=h) (h2:=h) (ys:=[.int (hs.getD (sx p) 0%bx.length)]) D.g.ob (by
  walk_at "px"
  rw [ypn D.ob]) (by rfl') (by
  walk_at "px"
  rw [yjb D.ob rfl (by rfl') rfl,ykX D hp,yv]),yDu (p:=p) D]
 walk_at "px"
theorem yuM {r p:Str}{v:Int}(D:DG h X d hl o s b l t es bx hs top sj sv) (hr:okS r) (hp:okS p) (hv:(orV (gI top (hs.getD (sx p) 0%bx.length)) (vwN es (hs.getD (sx p) 0%bx.length) es.length))=some v):ydy [.loc d,.str r,.str p] h=some (.non,h.set hl (.lst ((hs.set (sx r) v).map .int))):=by
 unfold ydy
 rw [yC]
 show ob (yff _ [.val (.loc d),.val (.str r),.val (.str p)] h) fnK=_
 rw [ynS,yjb (h2:=h) (ys:=[.str r,.int v]) D.ob rfl (by rfl') (by
  walk_at "px"
  rw [yhQ (h:=h) (h2:=h) (ys:=[.int (hs.getD (sx p) 0%bx.length)]) D.g.ob (by
   walk_at "px"
   rw [ypn D.ob]) (by rfl') (by
   walk_at "px"
   rw [yjb D.ob rfl (by rfl') rfl,ykX D hp,yv]),yDu (p:=p) D,hv]
  walk_at "px"
  rfl),yon D hr,yv,yv]
 rfl
end
section
variable {h:AH}{X:Nat->Prop}{d hl o s b t:Nat}{l:List Nat}{es:List (List Key×List PV)}{bx hs:List Int}{top:List Key×List PV}{sj sv:List Int}
theorem DG.hold {hs':List Int}(D:DG h X d hl o s b l t es bx hs top sj sv) (h8:hs'.length=8):DG (h.set hl (.lst (hs'.map .int))) X d hl o s b l t es bx hs' top sj sv:=by
 obtain ⟨n1,n2,n3,n4,n5,n6,n7,n8,n9,n10,n11,n12,n13,n14,n15,n16⟩:=D.nx
 have ne:∀ x∈l++[t],x≠hl:=fun x hx z=>n9 (z ▸ hx)
 exact { D with
  ob:=yB n1 D.ob
  hh:=set_same D.hh
  g:=⟨yB (Ne.symm n6) D.g.ob,yB (Ne.symm n7) D.g.st,yB (Ne.symm n8) D.g.sn,D.g.dl.mono fun x hx d e=>yB (ne x hx) e⟩
  st:=D.st.mono fun x hx d e=>yB (ne x (List.mem_append_left _ hx)) e
  tp:=yB (ne t (by simp)) D.tp
  h8:=h8
  xl:=fun n hn=>by rw [List.length_set];exact D.xl n hn }
theorem DG.write {top':List Key×List PV}(D:DG h X d hl o s b l t es bx hs top sj sv) (hi:isID top'):DG (h.set t (.dct top'.1 top'.2)) X d hl o s b l t es bx hs top' sj sv:=by
 obtain ⟨n1,n2,n3,n4,n5,n6,n7,n8,n9,n10,n11,n12,n13,n14,n15,n16⟩:=D.nx
 have m:t∈l++[t]:=by simp
 have ne:∀ x∈l,x≠t:=fun x hx=>(List.nodup_append.mp n16).2.2 x hx t (by simp)
 have st':Stk (h.set t (.dct top'.1 top'.2)) l es:=D.st.mono fun x hx d e=>yB (ne x hx) e
 exact { D with
  ob:=yB (fun z=>n5 (z ▸ m)) D.ob
  hh:=yB (fun z=>n9 (z ▸ m)) D.hh
  g:=⟨yB (fun z=>n12 (z ▸ m)) D.g.ob,yB (fun z=>n14 (z ▸ m)) D.g.st,yB (fun z=>n15 (z ▸ m)) D.g.sn,st'.app ⟨set_same D.tp,trivial⟩⟩
  st:=st'
  tp:=set_same D.tp
  idT:=hi
  xl:=fun n hn=>by rw [List.length_set];exact D.xl n hn }
theorem DG.see {sj' sv':List Int}(D:DG h X d hl o s b l t es bx hs top sj sv) (hi:ID sj' sv'):DG (h.set b (.dct (sj'.map .inl) (sv'.map .int))) X d hl o s b l t es bx hs top sj' sv':=by
 obtain ⟨n1,n2,n3,n4,n5,n6,n7,n8,n9,n10,n11,n12,n13,n14,n15,n16⟩:=D.nx
 have ne:∀ x∈l++[t],x≠b:=fun x hx z=>n15 (z ▸ hx)
 exact { D with
  ob:=yB n4 D.ob
  hh:=yB n8 D.hh
  g:=⟨yB n11 D.g.ob,yB n13 D.g.st,set_same D.g.sn,D.g.dl.mono fun x hx d e=>yB (ne x hx) e⟩
  st:=D.st.mono fun x hx d e=>yB (ne x (List.mem_append_left _ hx)) e
  tp:=yB (ne t (by simp)) D.tp
  idS:=hi
  xl:=fun n hn=>by rw [List.length_set];exact D.xl n hn }
theorem ixF {i:Int}(h0:0<=i) (h1:i<bx.length):atI (bx.map PV.int) i=some (.int (bx.getD i.toNat 0)):=by
 obtain ⟨n,rfl⟩:=Int.eq_ofNat_of_zero_le h0
 have hi:n<bx.length:=by omega
 have:(bx.map PV.int)[n]?=some (.int (bx.getD n 0)):=by
  rw [List.getElem?_map,List.getElem?_eq_getElem hi,List.getD_eq_getElem?_getD,List.getElem?_eq_getElem hi];rfl
 exact yev this
theorem ysV (x:Int) (h1:1<=bx.length) (h16:bx.length<=16):0<=x%bx.length/\x%bx.length<bx.length/\x%bx.length<16:=by
 have a:=Int.emod_nonneg x (b:=(bx.length:Int)) (by omega)
 have c:=Int.emod_lt_of_pos x (b:=(bx.length:Int)) (by omega)
 exact ⟨a,c,by omega⟩
theorem ysW {r p:Str}{sj' sv':List Int}(D:DG h X d hl o s b l t es bx hs top sj sv) (hr:okS r) (hp:okS p)
  (hput:ydX (sj.map .inl) (sv.map PV.int) (.inl (hs.getD (sx p) 0%bx.length)) (.int (bx.getD (hs.getD (sx p) 0%bx.length).toNat 0))=(sj'.map .inl,sv'.map .int)) (hi:ID sj' sv') :
  ydj [.loc d,.str r,.str p,.lst (bx.map .int)] h=some (.non,(h.set b (.dct (sj'.map .inl) (sv'.map .int))).set hl (.lst ((hs.set (sx r) (bx.getD (hs.getD (sx p) 0%bx.length).toNat 0)).map .int))):=by
 obtain ⟨i1,i2,i3⟩:=ysV (bx:=bx) (hs.getD (sx p) 0) D.b1 D.b16
 have sl:=D.idS.le
 unfold ydj
 rw [yC]
 show ob (yw _ _ [.val (.loc d),.val (.str r),.val (.str p),.val (.lst (bx.map .int)),.no] h) fnK=_
 walk_at "px"
 rw [yjb D.ob rfl (by rfl') rfl,ykX D hp,yv]
 rw [yhQ (h:=h) (h2:=h) (ys:=[.int (hs.getD (sx p) 0%bx.length),.int (bx.getD (hs.getD (sx p) 0%bx.length).toNat 0)]) D.g.ob (by
  walk_at "px"
  rw [ypn D.ob]) (by rfl') (by
  walk_at "px"
  rw [ixF i1 i2]
  rfl),yIs D.g (by rw [List.length_map];omega),hput,yv]
 have D1:=D.see hi
 rw [yjb (h2:=h.set b (.dct (sj'.map .inl) (sv'.map .int))) (ys:=[.str r,.int (bx.getD (hs.getD (sx p) 0%bx.length).toNat 0)]) D1.ob rfl (by rfl') (by
  walk_at "px"
  rw [ixF i1 i2]
  rfl),yon D1 hr,yv]
structure PR (h:AH) (X:Nat->Prop) (d o s b:Nat) (l:List Nat) (t:Nat) (es:List (List Key×List PV)) (bx:List Int) (σ:AS):Prop where
 ex:∃ hl top sj sv,DG h X d hl o s b l t es bx σ.hs top sj sv/\(∀ j,orV (gI top j) (vwN es j es.length)=σ.v j)/\∀ j,gI (sj.map .inl,sv.map PV.int) j=σ.s j
 nh:∀ v∈σ.hs,N64 v
 nv:∀ j v,σ.v j=some v->N64 v
 nb:∀ v∈bx,N64 v
theorem yLL {w:Str}{x y:Int}:N64 (rk w x y):=by
 unfold rk N64
 repeat' split
 all_goals omega
theorem yzv {hs:List Int}{i:Nat}{v:Int}(hN:∀ v∈hs,N64 v) (hv:N64 v):∀ u∈hs.set i v,N64 u:=fun u hu=>by
 rcases List.mem_or_eq_of_mem_set hu with z|z
 .exact hN u z
 .rw [z];exact hv
theorem ysX {hs:List Int}{i:Nat}(hN:∀ v∈hs,N64 v):N64 (hs.getD i 0):=by
 rw [List.getD_eq_getElem?_getD]
 cases e:hs[i]? with
 | none=>exact ⟨Int.le_refl _,by decide⟩
 | some v=>exact hN v (List.mem_of_getElem? e)
end
theorem yIv {ns:List Str}{xs:List PV}{h:AH}:ycm yK [.ins 3 ns xs,.cls 3] h=some (.bl true,h):=id rfl
theorem yIw {ns:List Str}{xs:List PV}{h:AH}:ycm yK [.ins 3 ns xs,.cls 4] h=some (.bl false,h):=id rfl
theorem yIx {ns:List Str}{xs:List PV}{h:AH}:ycm yK [.ins 3 ns xs,.cls 5] h=some (.bl false,h):=id rfl
theorem yIy {ns:List Str}{xs:List PV}{h:AH}:ycm yK [.ins 3 ns xs,.cls 6] h=some (.bl false,h):=id rfl
theorem yDv {ns:List Str}{xs:List PV}{h:AH}:ycm yK [.ins 3 ns xs,.cls 7] h=some (.bl false,h):=id rfl
theorem yDw {ns:List Str}{xs:List PV}{h:AH}:ycm yK [.ins 3 ns xs,.cls 8] h=some (.bl false,h):=id rfl
theorem yDx {ns:List Str}{xs:List PV}{h:AH}:ycm yK [.ins 3 ns xs,.cls 9] h=some (.bl false,h):=id rfl
theorem yzw {ns:List Str}{xs:List PV}{h:AH}:ycm yK [.ins 3 ns xs,.cls 10] h=some (.bl false,h):=id rfl
theorem yzx {ns:List Str}{xs:List PV}{h:AH}:ycm yK [.ins 3 ns xs,.cls 11] h=some (.bl false,h):=id rfl
theorem yDy {ns:List Str}{xs:List PV}{h:AH}:ycm yK [.ins 4 ns xs,.cls 3] h=some (.bl false,h):=id rfl
theorem yIz {ns:List Str}{xs:List PV}{h:AH}:ycm yK [.ins 4 ns xs,.cls 4] h=some (.bl true,h):=id rfl
theorem yIA {ns:List Str}{xs:List PV}{h:AH}:ycm yK [.ins 4 ns xs,.cls 5] h=some (.bl false,h):=id rfl
theorem yIB {ns:List Str}{xs:List PV}{h:AH}:ycm yK [.ins 4 ns xs,.cls 6] h=some (.bl false,h):=id rfl
theorem yDz {ns:List Str}{xs:List PV}{h:AH}:ycm yK [.ins 4 ns xs,.cls 7] h=some (.bl false,h):=id rfl
theorem yDA {ns:List Str}{xs:List PV}{h:AH}:ycm yK [.ins 4 ns xs,.cls 8] h=some (.bl false,h):=id rfl
theorem yDB {ns:List Str}{xs:List PV}{h:AH}:ycm yK [.ins 4 ns xs,.cls 9] h=some (.bl false,h):=id rfl
theorem yzy {ns:List Str}{xs:List PV}{h:AH}:ycm yK [.ins 4 ns xs,.cls 10] h=some (.bl false,h):=id rfl
theorem yzz {ns:List Str}{xs:List PV}{h:AH}:ycm yK [.ins 4 ns xs,.cls 11] h=some (.bl false,h):=id rfl
theorem yDC {ns:List Str}{xs:List PV}{h:AH}:ycm yK [.ins 5 ns xs,.cls 3] h=some (.bl false,h):=id rfl
theorem yDD {ns:List Str}{xs:List PV}{h:AH}:ycm yK [.ins 5 ns xs,.cls 4] h=some (.bl false,h):=id rfl
theorem yIC {ns:List Str}{xs:List PV}{h:AH}:ycm yK [.ins 5 ns xs,.cls 5] h=some (.bl true,h):=id rfl
theorem yID {ns:List Str}{xs:List PV}{h:AH}:ycm yK [.ins 5 ns xs,.cls 6] h=some (.bl false,h):=id rfl
theorem yDE {ns:List Str}{xs:List PV}{h:AH}:ycm yK [.ins 5 ns xs,.cls 7] h=some (.bl false,h):=id rfl
theorem yDF {ns:List Str}{xs:List PV}{h:AH}:ycm yK [.ins 5 ns xs,.cls 8] h=some (.bl false,h):=id rfl
theorem yDG {ns:List Str}{xs:List PV}{h:AH}:ycm yK [.ins 5 ns xs,.cls 9] h=some (.bl false,h):=id rfl
theorem yzA {ns:List Str}{xs:List PV}{h:AH}:ycm yK [.ins 5 ns xs,.cls 10] h=some (.bl false,h):=id rfl
theorem yzB {ns:List Str}{xs:List PV}{h:AH}:ycm yK [.ins 5 ns xs,.cls 11] h=some (.bl false,h):=id rfl
theorem yDH {ns:List Str}{xs:List PV}{h:AH}:ycm yK [.ins 6 ns xs,.cls 3] h=some (.bl false,h):=id rfl
theorem yDI {ns:List Str}{xs:List PV}{h:AH}:ycm yK [.ins 6 ns xs,.cls 4] h=some (.bl false,h):=id rfl
theorem yDJ {ns:List Str}{xs:List PV}{h:AH}:ycm yK [.ins 6 ns xs,.cls 5] h=some (.bl false,h):=id rfl
theorem yIE {ns:List Str}{xs:List PV}{h:AH}:ycm yK [.ins 6 ns xs,.cls 6] h=some (.bl true,h):=id rfl
theorem yDK {ns:List Str}{xs:List PV}{h:AH}:ycm yK [.ins 6 ns xs,.cls 7] h=some (.bl false,h):=id rfl
theorem yDL {ns:List Str}{xs:List PV}{h:AH}:ycm yK [.ins 6 ns xs,.cls 8] h=some (.bl false,h):=id rfl
theorem yDM {ns:List Str}{xs:List PV}{h:AH}:ycm yK [.ins 6 ns xs,.cls 9] h=some (.bl false,h):=id rfl
theorem yzC {ns:List Str}{xs:List PV}{h:AH}:ycm yK [.ins 6 ns xs,.cls 10] h=some (.bl false,h):=id rfl
theorem yzD {ns:List Str}{xs:List PV}{h:AH}:ycm yK [.ins 6 ns xs,.cls 11] h=some (.bl false,h):=id rfl
theorem yIF {ns:List Str}{xs:List PV}{h:AH}:ycm yK [.ins 7 ns xs,.cls 7] h=some (.bl true,h):=id rfl
theorem yDN {ns:List Str}{xs:List PV}{h:AH}:ycm yK [.ins 9 ns xs,.cls 7] h=some (.bl false,h):=id rfl
theorem yDO {ns:List Str}{xs:List PV}{h:AH}:ycm yK [.ins 9 ns xs,.cls 8] h=some (.bl false,h):=id rfl
theorem yIG {ns:List Str}{xs:List PV}{h:AH}:ycm yK [.ins 9 ns xs,.cls 9] h=some (.bl true,h):=id rfl
theorem yuN {ns:List Str}{xs:List PV}{h:AH}:ycm yK [.ins 10 ns xs,.cls 7] h=some (.bl false,h):=id rfl
theorem yuO {ns:List Str}{xs:List PV}{h:AH}:ycm yK [.ins 10 ns xs,.cls 8] h=some (.bl false,h):=id rfl
theorem yuP {ns:List Str}{xs:List PV}{h:AH}:ycm yK [.ins 10 ns xs,.cls 9] h=some (.bl false,h):=id rfl
theorem yCc {ns:List Str}{xs:List PV}{h:AH}:ycm yK [.ins 10 ns xs,.cls 10] h=some (.bl true,h):=id rfl
theorem yuQ {ns:List Str}{xs:List PV}{h:AH}:ycm yK [.ins 11 ns xs,.cls 7] h=some (.bl false,h):=id rfl
theorem yuR {ns:List Str}{xs:List PV}{h:AH}:ycm yK [.ins 11 ns xs,.cls 8] h=some (.bl false,h):=id rfl
theorem yuS {ns:List Str}{xs:List PV}{h:AH}:ycm yK [.ins 11 ns xs,.cls 9] h=some (.bl false,h):=id rfl
theorem yrj {ns:List Str}{xs:List PV}{h:AH}:ycm yK [.ins 11 ns xs,.cls 10] h=some (.bl false,h):=id rfl
theorem yCd {ns:List Str}{xs:List PV}{h:AH}:ycm yK [.ins 11 ns xs,.cls 11] h=some (.bl true,h):=id rfl
local macro_rules | `(tactic| walk_at "pi")=>`(tactic| simp_all? only [yIv,yIw,yIx,yIy,yDv,yDw,yDx,yzw,yzx,yDy,yIz,yIA,yIB,yDz,yDA,yDB,yzy,yzz,yDC,yDD,yIC,yID,yDE,yDF,yDG,yzA,yzB,yDH,yDI,yDJ,yIE,yDK,yDL,yDM,yzC,yzD,yIF,yDN,yDO,yIG,yuN,yuO,yuP,yCc,yuQ,yuR,yuS,yrj,yCd,if_true,if_false])
section
variable {h:AH}{β:Type}{k:Out->AH->Option β}{a b s:XS}{ρ:PSt}{z w:Str}{r:List PV}{c0 c1:PVar}{i j:Nat}{ns:List Str}{xs:List PV}
theorem ywe {t:XT}{ρ:PSt}(e:t ρ h=some (false,h)):ycL t a b ρ h=b ρ h:=by unfold ycL;rw [e];rfl
theorem yLM (n:(z=w)=False):yJ (xOp (oEq) (xOp (ydv) (yg 0) (xC (.int 0))) (xC (.str w))) (.val (.tup (.str z::r))::ρ) h=some (false,h):=by
 walk_at "px"
 simp only [n,decide_false]
theorem yMe (n:(z=w)=False):yJ (xOp (oEq) (xOp (ydv) (yg 2) (xC (.int 0))) (xC (.str w))) (c0::c1::.val (.tup (.str z::r))::ρ) h=some (false,h):=by
 walk_at "px"
 simp only [n,decide_false]
theorem ydU (n:(z=w)=False):ob (yw (ycL (yJ (xOp (oEq) (xOp (ydv) (yg 0) (xC (.int 0))) (xC (.str w)))) a ybH) s (.val (.tup (.str z::r))::ρ) h) k=ob (s (.val (.tup (.str z::r))::ρ) h) k:=by
 rw [ymT,ywe (yLM n)];rfl
theorem ypX (n:(z=w)=False):ob (ycL (yJ (xOp (oEq) (xOp (ydv) (yg 0) (xC (.int 0))) (xC (.str w)))) a b (.val (.tup (.str z::r))::ρ) h) k=ob (b (.val (.tup (.str z::r))::ρ) h) k:=by
 rw [ywe (yLM n)]
theorem ycC (n:(z=w)=False):ycL (yJ (xOp (oEq) (xOp (ydv) (yg 2) (xC (.int 0))) (xC (.str w)))) a b (c0::c1::.val (.tup (.str z::r))::ρ) h=b (c0::c1::.val (.tup (.str z::r))::ρ) h:=ywe (yMe n)
theorem ycD (n:ycm yK [.ins i ns xs,.cls j] h=some (.bl false,h)):ob (yw (ycL (yJ (xCB (ycm yK) (yc (yg 1) (yc (xC (.cls j)) (yr))))) a ybH) s (c0::.val (.ins i ns xs)::ρ) h) k=ob (s (c0::.val (.ins i ns xs)::ρ) h) k:=by
 rw [ymT,ywe]
 .rfl
 .show ob (ycm yK [.ins i ns xs,.cls j] h) _=_
  rw [n];rfl
end
section
variable {h:AH}{X:Nat->Prop}{d o s b t:Nat}{l:List Nat}{es:List (List Key×List PV)}{bx:List Int}{σ:AS}
def ywf:T->Prop
 | .let_ ..=>True
 | .reckon ..=>True
 | .take ..=>True
 | .put ..=>True
 | _=>False
theorem yCe {u:T}(hp:ywf u) (hu:okT u) (R:PR h X d o s b l t es bx σ):∃ h',ycn [.loc d,yei u] h=some (.non,h')/\PR h' X d o s b l t es bx (evP bx u σ)/\Frm X h h':=by
 obtain ⟨⟨hl,top,sj,sv,D,hv,hs⟩,nh,nv,nb⟩:=R
 have gh:¬ X hl:=D.ge hl (by simp)
 have gb:¬ X b:=D.ge b (by simp)
 have gt:¬ X t:=D.ge t (by simp)
 have len8:∀ {i:Nat}{v:Int},(σ.hs.set i v).length=8:=by intro i v;rw [List.length_set];exact D.h8
 unfold ycn
 cases u with
 | let_ r n =>
  obtain ⟨k1,k2⟩:=hu
  refine ⟨_,?_,⟨⟨hl,top,sj,sv,D.hold (hs':=σ.hs.set (sx r) n) len8,hv,hs⟩,yzv nh k2,nv,nb⟩,Frm.refl.set gh⟩
  rw [yC]
  show ob (yw _ _ [.val (.loc d),.val (.ins 3 ["slot","number"] [.str r,.int n])] h) fnK=_
  walk_at "pi"
  rw [yjb (h2:=h) (ys:=[.str r,.int n]) D.ob rfl (by rfl') (by walk_at "pi"),yon D k1,yv]
 | reckon w r p q =>
  obtain ⟨k0,k1,k2,k3⟩:=hu
  refine ⟨_,?_,⟨⟨hl,top,sj,sv,D.hold (hs':=σ.hs.set (sx r) (rk w (σ.hs.getD (sx p) 0) (σ.hs.getD (sx q) 0))) len8,hv,hs⟩,yzv nh yLL,nv,nb⟩,Frm.refl.set gh⟩
  rw [yC]
  show ob (yw _ _ [.val (.loc d),.val (.ins 4 ["word","slot","one","other"] [.str w,.str r,.str p,.str q])] h) fnK=_
  rw [ycD yDy]
  walk_at "pi"
  rw [yjb (h2:=h) (ys:=[.str w,.str r,.str p,.str q]) D.ob rfl (by rfl') (by walk_at "pi"),ysU D k0 k1 k2 k3 nh,yv]
 | take r p =>
  obtain ⟨k1,k2⟩:=hu
  obtain ⟨i1,i2,i3⟩:=ysV (bx:=bx) (σ.hs.getD (sx p) 0) D.b1 D.b16
  have hj:=hv (σ.hs.getD (sx p) 0%bx.length)
  have key:∃ h',ycH [.loc d,.ins 5 ["slot","place"] [.str r,.str p]] h=some (.non,h')/\PR h' X d o s b l t es bx (evP bx (.take r p) σ)/\Frm X h h':=by
   unfold ycH
   rw [yC]
   show ∃ h',ob (ycL _ _ _ [.val (.loc d),.val (.ins 5 ["slot","place"] [.str r,.str p])] h) fnK=_/\_
   walk_at "pi"
   rw [yjb (h2:=h) (ys:=[.str p]) D.ob rfl (by rfl') (by walk_at "pi"),yxa D k2,yv]
   cases e:orV (gI top (σ.hs.getD (sx p) 0%bx.length)) (vwN es (σ.hs.getD (sx p) 0%bx.length) es.length) with
   | some v =>
    rw [e] at hj
    have ev:evP bx (.take r p) σ=⟨σ.hs.set (sx r) v,σ.v,σ.s⟩:=by
     show tkV bx σ r (σ.hs.getD (sx p) 0%bx.length) (σ.v (σ.hs.getD (sx p) 0%bx.length))=_
     rw [<- hj]
     rfl
    refine ⟨_,?_,by rw [ev];exact ⟨⟨hl,top,sj,sv,D.hold (hs':=σ.hs.set (sx r) v) len8,hv,hs⟩,yzv nh (nv _ _ hj.symm),nv,nb⟩,Frm.refl.set gh⟩
    show ob (oB (.bl false) h) _=_
    walk_at "pi"
    rw [yjb (h2:=h) (ys:=[.str r,.str p]) D.ob rfl (by rfl') (by walk_at "pi"),yuM D k1 k2 e,yv]
   | none =>
    rw [e] at hj
    obtain ⟨sj',sv',hput,hi,_⟩:=D.idS.put (v:=bx.getD (σ.hs.getD (sx p) 0%bx.length).toNat 0) ⟨i1,i3⟩
    have ev:evP bx (.take r p) σ=⟨σ.hs.set (sx r) (bx.getD (σ.hs.getD (sx p) 0%bx.length).toNat 0),σ.v,upV σ.s (σ.hs.getD (sx p) 0%bx.length) (bx.getD (σ.hs.getD (sx p) 0%bx.length).toNat 0)⟩:=by
     show tkV bx σ r (σ.hs.getD (sx p) 0%bx.length) (σ.v (σ.hs.getD (sx p) 0%bx.length))=_
     rw [<- hj]
     rfl
    have D2:=(D.see hi).hold (hs':=σ.hs.set (sx r) (bx.getD (σ.hs.getD (sx p) 0%bx.length).toNat 0)) len8
    rw [ev]
    refine ⟨_,?_,⟨⟨hl,top,sj',sv',D2,hv,fun j=>?_⟩,yzv nh (ysX nb),nv,nb⟩,(Frm.refl.set gb).set gh⟩
    .show ob (oB (.bl true) h) _=_
     walk_at "pi"
     rw [yjb (h2:=h) (ys:=[.str r,.str p,.lst (bx.map .int)]) D.ob rfl (by rfl') (by
      walk_at "pi"
      rw [yFZ D.ob]
      rfl),ysW D k1 k2 hput hi,yv]
    .have hd:isID (sj.map .inl,sv.map PV.int):=⟨sj,sv,rfl,D.idS⟩
     have:=ysO hd (k:=σ.hs.getD (sx p) 0%bx.length) (j:=j) (v:=bx.getD (σ.hs.getD (sx p) 0%bx.length).toNat 0)
     rw [hput] at this
     rw [this,hs]
     rfl
  obtain ⟨h',e1,R',F⟩:=key
  refine ⟨h',?_,R',F⟩
  rw [yC]
  show ob (yw _ _ [.val (.loc d),.val (.ins 5 ["slot","place"] [.str r,.str p])] h) fnK=_
  rw [ycD yDC,ycD yDD]
  walk_at "pi"
  rw [yjb (h2:=h) (ys:=[.ins 5 ["slot","place"] [.str r,.str p]]) D.ob rfl (by rfl') (by walk_at "pi"),e1,yv]
 | put p q =>
  obtain ⟨k1,k2⟩:=hu
  obtain ⟨i1,i2,i3⟩:=ysV (bx:=bx) (σ.hs.getD (sx p) 0) D.b1 D.b16
  have D2:=D.write (D.idT.put (v:=σ.hs.getD (sx q) 0) ⟨i1,i3⟩)
  refine ⟨_,?_,⟨⟨hl,_,sj,sv,D2,fun j=>?_,hs⟩,nh,fun j v e=>?_,nb⟩,Frm.refl.set gt⟩
  .rw [yC]
   show ob (yw _ _ [.val (.loc d),.val (.ins 6 ["place","slot"] [.str p,.str q])] h) fnK=_
   rw [ycD yDH,ycD yDI,ycD yDJ]
   walk_at "pi"
   rw [yjb (h2:=h) (ys:=[.str p,.str q]) D.ob rfl (by rfl') (by walk_at "pi"),yzu D k1 k2,yv]
  .rw [ysO D.idT]
   show _=upV σ.v (σ.hs.getD (sx p) 0%bx.length) (σ.hs.getD (sx q) 0) j
   unfold upV
   by_cases hj:j=σ.hs.getD (sx p) 0%bx.length
   .rw [if_pos hj,if_pos hj];rfl
   .rw [if_neg hj,if_neg hj];exact hv j
  .have e:(if j=σ.hs.getD (sx p) 0%bx.length then some (σ.hs.getD (sx q) 0) else σ.v j)=some v:=e
   split at e
   .cases e;exact ysX nh
   .exact nv j v e
 | if_ _ _ _=>exact hp.elim
 | either _ _=>exact hp.elim
 | try_ _ _ _ _=>exact hp.elim
 | throw _ _=>exact hp.elim
 | wait=>exact hp.elim
end
section
variable {h:AH}{X:Nat->Prop}{d o s b t:Nat}{l:List Nat}{es:List (List Key×List PV)}{bx hs:List Int}{σ:AS}
theorem PR.ob (R:PR h X d o s b l t es bx σ):∃ hl,h[d]?=some (.ins 1 ["held","width","log","found"] [.loc hl,.int bx.length,.loc o,.lst (bx.map .int)]):=let ⟨hl,_,_,_,D,_⟩:=R.ex;⟨hl,D.ob⟩
theorem yxb (e:En):ywT (enV e) (.tup [.str "done"]) h=some (.bl (match e with|.done=>false|_=>true),h):=by
 cases e with
 | done =>
  unfold ywT enV pairE
  simp [ynu,eqP,sv,eqV]
 | waits =>
  have z:¬ ("waits":Str) = "done":=by rfl'
  unfold ywT enV pairE
  simp [ynu,eqP,sv,eqV,z]
 | fell nm v =>
  have z:¬ ("fell":Str) = "done":=by rfl'
  unfold ywT enV pairE
  simp [ynu,eqP,sv,eqV,z]
theorem ypY (e:En):yBE (enV e) (.tup [.str "done"]) h=some (.bl (match e with|.done=>true|_=>false),h):=by
 cases e with
 | done =>
  unfold yBE enV pairE
  simp [ynu,eqP,sv,eqV]
 | waits =>
  have z:¬ ("waits":Str) = "done":=by rfl'
  unfold yBE enV pairE
  simp [ynu,eqP,sv,eqV,z]
 | fell nm v =>
  have z:¬ ("fell":Str) = "done":=by rfl'
  unfold yBE enV pairE
  simp [ynu,eqP,sv,eqV,z]
theorem yeE {n:Nat}{u:T}(hp:ywf u) (hu:okT u) (R:PR h X d o s b l t es bx σ):∃ h',yM (n+1) [.loc d,yei u] h=some (.tup [.str "done"],h')/\PR h' X d o s b l t es bx (evP bx u σ)/\Frm X h h':=by
 obtain ⟨h',e,R',F⟩:=yCe hp hu R
 obtain ⟨hl,eo⟩:=R.ob
 refine ⟨h',?_,R',F⟩
 unfold yM
 rw [yC]
 cases u with
 | let_ r n =>
  show ob (yw _ _ [.val (.loc d),.val (.ins 3 ["slot","number"] [.str r,.int n])] h) fnK=_
  rw [ycD yDv,ycD yDw,ycD yDx,ycD yzw,ycD yzx]
  walk_at "pi"
  rw [yjb (h2:=h) (ys:=[yei (.let_ r n)]) eo rfl (by rfl') rfl,e,yv]
 | reckon w r p q =>
  show ob (yw _ _ [.val (.loc d),.val (.ins 4 ["word","slot","one","other"] [.str w,.str r,.str p,.str q])] h) fnK=_
  rw [ycD yDz,ycD yDA,ycD yDB,ycD yzy,ycD yzz]
  walk_at "pi"
  rw [yjb (h2:=h) (ys:=[yei (.reckon w r p q)]) eo rfl (by rfl') rfl,e,yv]
 | take r p =>
  show ob (yw _ _ [.val (.loc d),.val (.ins 5 ["slot","place"] [.str r,.str p])] h) fnK=_
  rw [ycD yDE,ycD yDF,ycD yDG,ycD yzA,ycD yzB]
  walk_at "pi"
  rw [yjb (h2:=h) (ys:=[yei (.take r p)]) eo rfl (by rfl') rfl,e,yv]
 | put p q =>
  show ob (yw _ _ [.val (.loc d),.val (.ins 6 ["place","slot"] [.str p,.str q])] h) fnK=_
  rw [ycD yDK,ycD yDL,ycD yDM,ycD yzC,ycD yzD]
  walk_at "pi"
  rw [yjb (h2:=h) (ys:=[yei (.put p q)]) eo rfl (by rfl') rfl,e,yv]
 | if_ _ _ _=>exact hp.elim
 | either _ _=>exact hp.elim
 | try_ _ _ _ _=>exact hp.elim
 | throw _ _=>exact hp.elim
 | wait=>exact hp.elim
def EnN:En->Prop
 | .fell _ v=>N64 v
 | _=>True
noncomputable def ywg (n:Nat):Prop:=∀ (X:Nat->Prop) (d o s b t:Nat) (l:List Nat) (es:List (List Key×List PV)) (bx:List Int) (us:List T) (h:AH) (σ:AS),4*ydu us+2<=n->okL us->l.length+ydu us<=60->PR h X d o s b l t es bx σ ->
 ∃ h',ybb n [.loc d,.lst (ybu us)] h=some (enV (evL bx us σ).1,h')/\PR h' X d o s b l t es bx (evL bx us σ).2/\Frm X h h'/\EnN (evL bx us σ).1
noncomputable def yDP (n:Nat):Prop:=∀ (X:Nat->Prop) (d o s b t:Nat) (l:List Nat) (es:List (List Key×List PV)) (bx:List Int) (u:T) (h:AH) (σ:AS),4*ypk u+1<=n->okT u->l.length+ypk u<=60->PR h X d o s b l t es bx σ ->
 ∃ h',yM n [.loc d,yei u] h=some (enV (evT bx u σ).1,h')/\PR h' X d o s b l t es bx (evT bx u σ).2/\Frm X h h'/\EnN (evT bx u σ).1
theorem ymA {n:Nat}(G:yDP n):ywg (n+1):=by
 intro X d o s b t l es bx us h σ hd hu hl R
 have key:∀ (ds:List PV) (us:List T) (h:AH) (σ:AS) (c2 c3:PVar),4*ydu us+1<=n->okL us->l.length+ydu us<=60->PR h X d o s b l t es bx σ->∃ h',
   ob (ynO (yz 2) (yw (ydf (yO 1 "part_end" (yM n) (yg 0) (yc (yg 2) (yr))) (yz 3)) (ycL (yJ (xOp (ywT) (yg 3) (xC (.tup [.str "done"])))) (ycB (yg 3)) (ybH))) (ybu us) [.val (.loc d),.val (.lst ds),c2,c3] h)
    (fun o h1=>ob (sqK (ycB (xC (.tup [.str "done"]))) o h1) fnK)=some (enV (evL bx us σ).1,h')/\PR h' X d o s b l t es bx (evL bx us σ).2/\Frm X h h'/\EnN (evL bx us σ).1:=by
  intro ds us
  induction us with
  | nil =>
   intro h σ c2 c3 _ _ _ R
   exact ⟨h,rfl,R,Frm.refl,trivial⟩
  | cons u us ih =>
   intro h σ c2 c3 hd hu hl R
   have hd:4*max (ypk u) (ydu us)+1<=n:=hd
   have hl:l.length+max (ypk u) (ydu us)<=60:=hl
   obtain ⟨h1,e1,R1,F1,E1⟩:=G X d o s b t l es bx u h σ (by omega) hu.1 (by omega) R
   obtain ⟨hl0,eo⟩:=R.ob
   show ∃ h',ob (ynO _ _ (yei u::ybu us) _ h) _=some (enV (match evT bx u σ with|(.done,τ)=>evL bx us τ|(.waits,τ)=>(.waits,τ)|(.fell nm v,τ)=>(.fell nm v,τ)).1,h')/\PR h' X d o s b l t es bx (match evT bx u σ with|(.done,τ)=>evL bx us τ|(.waits,τ)=>(.waits,τ)|(.fell nm v,τ)=>(.fell nm v,τ)).2/\Frm X h h'/\EnN (match evT bx u σ with|(.done,τ)=>evL bx us τ|(.waits,τ)=>(.waits,τ)|(.fell nm v,τ)=>(.fell nm v,τ)).1
   rw [yyx,show yz 2 (yei u) [.val (.loc d),.val (.lst ds),c2,c3]=some [.val (.loc d),.val (.lst ds),.val (yei u),c3] from rfl,Option.bind_some,ymT,ywN,yjb (h2:=h) (ys:=[yei u]) eo rfl (by rfl') rfl,e1,yv]
   generalize evT bx u σ=r at *
   obtain ⟨e,τ⟩:=r
   rw [show yz 3 (enV e) [.val (.loc d),.val (.lst ds),.val (yei u),c3]=some [.val (.loc d),.val (.lst ds),.val (yei u),.val (enV e)] from rfl,Option.bind_some,yv,ywM]
   walk_at "pi"
   rw [yxb]
   cases e with
   | done =>
    obtain ⟨h2,e2,R2,F2,E2⟩:=ih h1 τ (.val (yei u)) (.val (enV .done)) (by omega) hu.2 (by omega) R1
    exact ⟨h2,e2,R2,F1.trans F2,E2⟩
   | waits=>exact ⟨h1,rfl,R1,F1,trivial⟩
   | fell nm v=>exact ⟨h1,rfl,R1,F1,E1⟩
 obtain ⟨h',e,R',F,E'⟩:=key (ybu us) us h σ .no .no (by omega) hu hl R
 refine ⟨h',?_,R',F,E'⟩
 unfold ybb
 rw [yC]
 show ob (yw _ _ [.val (.loc d),.val (.lst (ybu us)),.no,.no] h) fnK=_
 rw [ymT,yFh,show xIL (yg 1) [.val (.loc d),.val (.lst (ybu us)),.no,.no] h=some (ybu us,h) from rfl,yv,yBs]
 exact e
end
section
variable {h:AH}{X:Nat->Prop}{d hl o s b t:Nat}{l:List Nat}{es:List (List Key×List PV)}{bx hs:List Int}{top:List Key×List PV}{sj sv:List Int}{σ:AS}
theorem DG.ext {x:Nd}(D:DG h X d hl o s b l t es bx hs top sj sv):DG (h++[x]) X d hl o s b l t es bx hs top sj sv :=
 { D with
  ob:=ycI D.ob
  hh:=ycI D.hh
  g:=⟨ycI D.g.ob,ycI D.g.st,ycI D.g.sn,D.g.dl.mono fun _ _ _ e=>ycI e⟩
  st:=D.st.mono fun _ _ _ e=>ycI e
  tp:=ycI D.tp
  xl:=fun n hn=>by rw [List.length_append];exact Nat.lt_add_right _ (D.xl n hn) }
theorem DG.begin {B:Nat}{nb:Nd}(D:DG h X d hl o s b l t es bx hs top sj sv) (hB:h[B]?=some nb) (nB:B∉d::hl::o::s::b::(l++[t])) :
  DG ((h++[Nd.dct [] []]).set s (.lst ((l++[t]++[h.length]).map .loc))) (fun n=>X n\/n=B) d hl o s b (l++[t]) h.length (es++[top]) bx hs ([],[]) sj sv:=by
 obtain ⟨n1,n2,n3,n4,n5,n6,n7,n8,n9,n10,n11,n12,n13,n14,n15,n16⟩:=D.nx
 have new:∀ {i y},h[i]?=some y->i≠h.length:=fun e=>Nat.ne_of_lt (yjR e)
 have lm:∀ x∈l++[t],x≠h.length:=fun x hx=>Nat.ne_of_lt (D.g.dl.lt x hx)
 have up:∀ {x y},x≠s->h[x]?=some y->((h++[Nd.dct [] []]).set s (.lst ((l++[t]++[h.length]).map .loc)))[x]?=some y:=fun hx e=>yB hx (ycI e)
 have st':Stk ((h++[Nd.dct [] []]).set s (.lst ((l++[t]++[h.length]).map .loc))) (l++[t]) (es++[top]):=D.g.dl.mono fun x hx y e=>up (fun z=>n14 (z ▸ hx)) e
 have tp':((h++[Nd.dct [] []]).set s (.lst ((l++[t]++[h.length]).map .loc)))[h.length]?=some (.dct [] []):=yB (Ne.symm (new D.g.st)) (by simp)
 refine ⟨up n3 D.ob,up n7 D.hh,⟨up n10 D.g.ob,set_same (ycI D.g.st),up (Ne.symm n13) D.g.sn,st'.app ⟨tp',trivial⟩⟩,st',tp',?_,?_,isID.nil,fun e he=>?_,D.idS,D.h8,D.b1,D.b16,fun n hn=>?_⟩
 .have nd:=D.nd
  have q:∀ x∈d::hl::o::s::b::(l++[t]),x≠h.length:=fun x hx=>by
   simp only [List.mem_cons] at hx
   rcases hx with rfl|rfl|rfl|rfl|rfl|hx
   .exact new D.ob
   .exact new D.hh
   .exact new D.g.ob
   .exact new D.g.st
   .exact new D.g.sn
   .exact lm x hx
  rw [show d::hl::o::s::b::(l++[t]++[h.length])=(d::hl::o::s::b::(l++[t]))++[h.length] by simp,List.nodup_append]
  exact ⟨nd,by simp,fun x hx y hy=>by rw [List.mem_singleton.mp hy];exact q x hx⟩
 .intro x hx
  rw [show d::hl::o::s::b::(l++[t]++[h.length])=(d::hl::o::s::b::(l++[t]))++[h.length] by simp] at hx
  rcases List.mem_append.mp hx with hx|hx
  .rintro (z|z)
   .exact D.ge x hx z
   .exact nB (z ▸ hx)
  .rw [List.mem_singleton.mp hx]
   rintro (z|z)
   .exact Nat.lt_irrefl _ (D.xl _ z)
   .exact new hB z.symm
 .rcases List.mem_append.mp he with he|he
  .exact D.idE e he
  .rw [List.mem_singleton.mp he];exact D.idT
 .rw [List.length_set,List.length_append]
  rcases hn with hn|hn
  .exact Nat.lt_add_right _ (D.xl n hn)
  .rw [hn];exact Nat.lt_add_right _ (yjR hB)
theorem DG.drop {Y:Nat->Prop}{t':Nat}{inn:List Key×List PV}(D:DG h Y d hl o s b (l++[t]) t' (es++[top]) bx hs inn sj sv) (hX:∀ n,X n->Y n):DG (h.set s (.lst ((l++[t]).map .loc))) X d hl o s b l t es bx hs top sj sv:=by
 obtain ⟨n1,n2,n3,n4,n5,n6,n7,n8,n9,n10,n11,n12,n13,n14,n15,n16⟩:=D.nx
 have m:∀ x∈l++[t],x∈l++[t]++[t']:=fun x hx=>List.mem_append_left _ hx
 have up:∀ {x y},x≠s->h[x]?=some y->(h.set s (.lst ((l++[t]).map .loc)))[x]?=some y:=fun hx e=>yB hx e
 obtain ⟨fs,f,ef,s1,s2⟩:=D.st.split
 obtain ⟨e1,e2⟩:=List.append_inj' ef rfl
 cases e2
 subst e1
 have st':Stk (h.set s (.lst ((l++[t]).map .loc))) (l++[t]) (es++[top]):=D.st.mono fun x hx y e=>up (fun z=>n14 (z ▸ m x hx)) e
 refine ⟨up n3 D.ob,up n7 D.hh,⟨up n10 D.g.ob,set_same D.g.st,up (Ne.symm n13) D.g.sn,st'⟩,s1.mono fun x hx y e=>up (fun z=>n14 (m _ (by rw [<- z];exact List.mem_append_left _ hx))) e,up (fun z=>n14 (m _ (by rw [<- z];simp))) s2,?_,fun x hx z=>?_,D.idE top (by simp),fun e he=>D.idE e (List.mem_append_left _ he),D.idS,D.h8,D.b1,D.b16,fun n hn=>by rw [List.length_set];exact D.xl n (hX n hn)⟩
 .have nd:=D.nd
  rw [show d::hl::o::s::b::(l++[t]++[t'])=(d::hl::o::s::b::(l++[t]))++[t'] by simp] at nd
  exact (List.nodup_append.mp nd).1
 .refine D.ge x ?_ (hX x z)
  rw [show d::hl::o::s::b::(l++[t]++[t'])=(d::hl::o::s::b::(l++[t]))++[t'] by simp]
  exact List.mem_append_left _ hx
end
section
variable {h:AH}{X:Nat->Prop}{d hl o s b t:Nat}{l:List Nat}{es:List (List Key×List PV)}{bx hs:List Int}{top:List Key×List PV}{sj sv:List Int}{σ:AS}
theorem DG.reheld {B:Nat}{hs':List Int}(D:DG h X d hl o s b l t es bx hs top sj sv) (hB:h[B]?=some (.lst (hs'.map .int))) (h8:hs'.length=8) (nB:B∉d::o::s::b::(l++[t])) (xB:¬ X B) :
  DG (h.set d (.ins 1 ["held","width","log","found"] [.loc B,.int bx.length,.loc o,.lst (bx.map .int)])) X d B o s b l t es bx hs' top sj sv:=by
 obtain ⟨n1,n2,n3,n4,n5,n6,n7,n8,n9,n10,n11,n12,n13,n14,n15,n16⟩:=D.nx
 simp only [List.mem_cons,not_or] at nB
 obtain ⟨m1,m2,m3,m4,m5⟩:=nB
 have ne:∀ x∈l++[t],x≠d:=fun x hx z=>n5 (z ▸ hx)
 refine ⟨set_same D.ob,yB m1 hB,⟨yB (Ne.symm n2) D.g.ob,yB (Ne.symm n3) D.g.st,yB (Ne.symm n4) D.g.sn,D.g.dl.mono fun x hx y e=>yB (ne x hx) e⟩,D.st.mono fun x hx y e=>yB (ne x (List.mem_append_left _ hx)) e,yB (ne t (by simp)) D.tp,?_,fun x hx=>?_,D.idT,D.idE,D.idS,h8,D.b1,D.b16,fun n hn=>by rw [List.length_set];exact D.xl n hn⟩
 .simp only [List.nodup_cons,List.mem_cons,not_or]
  exact ⟨⟨Ne.symm m1,n2,n3,n4,n5⟩,⟨m2,m3,m4,m5⟩,⟨n10,n11,n12⟩,⟨n13,n14⟩,n15,n16⟩
 .simp only [List.mem_cons] at hx
  rcases hx with rfl|rfl|rfl|rfl|rfl|hx
  .exact D.ge _ (by simp)
  .exact xB
  .exact D.ge _ (by simp)
  .exact D.ge _ (by simp)
  .exact D.ge _ (by simp)
  .exact D.ge x (by simp only [List.mem_cons];simp [hx])
def yMf (σ:AS):En×AS->AS
 | (.done,τ)=>τ
 | (.waits,τ)=>⟨σ.hs,σ.v,τ.s⟩
 | (.fell _ _,τ)=>⟨σ.hs,σ.v,τ.s⟩
theorem yzE {a b c:Option Int}:orV (orV a b) c=orV a (orV b c):=by cases a<;>rfl
theorem yIH {n:Nat}(G:ywg n) {us:List T}(hd:4*ydu us+2<=n) (hu:okL us) (hl':l.length+1+ydu us<=60) (R:PR h X d o s b l t es bx σ) :
  ∃ h',ych (n+1) [.loc d,.lst (ybu us)] h=some (enV (evL bx us σ).1,h')/\PR h' X d o s b l t es bx (yMf σ (evL bx us σ))/\Frm X h h'/\EnN (evL bx us σ).1:=by
 obtain ⟨⟨hl,top,sj,sv,D,hv,hs⟩,nh,nv,nb⟩:=R
 have gs:¬ X s:=D.ge s (by simp)
 have gt:¬ X t:=D.ge t (by simp)
 have gd:¬ X d:=D.ge d (by simp)
 have D0:=D.ext (x:=.lst (σ.hs.map .int))
 have hB:(h++[Nd.lst (σ.hs.map .int)])[h.length]?=some (.lst (σ.hs.map .int)):=by simp
 have nB:h.length∉d::hl::o::s::b::(l++[t]):=fun z=>by
  simp only [List.mem_cons] at z
  rcases z with z|z|z|z|z|z
  .exact absurd (yjR D.ob) (by omega)
  .exact absurd (yjR D.hh) (by omega)
  .exact absurd (yjR D.g.ob) (by omega)
  .exact absurd (yjR D.g.st) (by omega)
  .exact absurd (yjR D.g.sn) (by omega)
  .exact absurd (D.g.dl.lt _ z) (by omega)
 have xB:¬ X h.length:=fun z=>Nat.lt_irrefl _ (D.xl _ z)
 have D1:=D0.begin hB nB
 have ll:(l++[t]).length<1000:=by simp;omega
 have be:=yBZ D0.g ll
 have F1:Frm X h (((h++[Nd.lst (σ.hs.map .int)])++[Nd.dct [] []]).set s (.lst ((l++[t]++[(h++[Nd.lst (σ.hs.map .int)]).length]).map .loc))):=((Frm.refl.app).app).set gs
 have hB1:(((h++[Nd.lst (σ.hs.map .int)])++[Nd.dct [] []]).set s (.lst ((l++[t]++[(h++[Nd.lst (σ.hs.map .int)]).length]).map .loc)))[h.length]?=some (.lst (σ.hs.map .int)):=yB (fun z=>nB (by rw [z];simp)) (ycI hB)
 generalize ((h++[Nd.lst (σ.hs.map .int)])++[Nd.dct [] []]).set s (.lst ((l++[t]++[(h++[Nd.lst (σ.hs.map .int)]).length]).map .loc))=h1 at *
 generalize (h++[Nd.lst (σ.hs.map .int)]).length=t' at *
 have R1:PR h1 (fun n=>X n\/n=h.length) d o s b (l++[t]) t' (es++[top]) bx σ:=⟨⟨hl,([],[]),sj,sv,D1,fun j=>by rw [yIu,yzt];exact hv j,hs⟩,nh,nv,nb⟩
 obtain ⟨h2,e2,R2,F2,E2⟩:=G _ d o s b t' (l++[t]) (es++[top]) bx us h1 σ hd hu (by simp;omega) R1
 have hB2:h2[h.length]?=some (.lst (σ.hs.map .int)):=F2.get (.inr rfl) hB1
 have F12:Frm X h h2:=F1.trans (F2.imp fun n hn=>.inl hn)
 generalize hev:evL bx us σ=r at *
 obtain ⟨e,τ⟩:=r
 obtain ⟨⟨hl2,inn,sj2,sv2,D2,hv2,hs2⟩,nh2,nv2,_⟩:=R2
 obtain ⟨n1,n2,n3,n4,n5,n6,n7,n8,n9,n10,n11,n12,n13,n14,n15,n16⟩:=D2.nx
 have D3:=D2.drop (X:=X) fun n hn=>.inl hn
 unfold ych
 rw [yC]
 show ∃ h',ob (yw _ _ [.val (.loc d),.val (.lst (ybu us)),.no,.no] h) fnK=_/\_
 walk_at "pi"
 rw [ywd D.ob,yv,yhk D.hh]
 walk_at "pi"
 rw [yhQ (h:=h++[Nd.lst (σ.hs.map .int)]) D0.g.ob (by
  walk_at "pi"
  rw [ypn D0.ob]) (by rfl') rfl,be,yv]
 rw [yjb (h2:=h1) (ys:=[.lst (ybu us)]) D1.ob rfl (by rfl') rfl,e2,yv,ypY,yv]
 have stop:∀ (τ':AS),τ'=⟨σ.hs,σ.v,τ.s⟩->∃ h',(ob (yO 0 "drop" ygF (yfi [1] "log" (yg 0)) yr [.val (.loc d),.val (.lst (ybu us)),.val (.loc h.length),.val (enV e)] h2) fun x k=>ob (yyL [1] "held" (yg 0) (yg 2) [.val (.loc d),.val (.lst (ybu us)),.val (.loc h.length),.val (enV e)] k) fun x k=>ob (sqK (ycB (yg 3)) x k) fnK)=some (enV e,h')/\PR h' X d o s b l t es bx τ'/\Frm X h h':=by
  rintro τ' rfl
  have D4:=D3.reheld (hs':=σ.hs) (yB (fun z=>nB (by rw [z];simp)) hB2) D.h8 (fun z=>nB (by
   simp only [List.mem_cons] at z ⊢
   rcases z with z|z|z|z|z<;>simp [z])) xB
  refine ⟨_,?_,⟨⟨h.length,top,sj2,sv2,D4,hv,hs2⟩,nh,nv,nb⟩,?_⟩
  .rw [yhQ (h:=h2) D2.g.ob (by
    walk_at "pi"
    rw [ypn D2.ob]) (by rfl') rfl,yFW D2.g,yv]
   unfold yyL
   show ob (ob (some (PV.loc h.length,_)) _) _=_
   rw [yv]
   show ob (ob (some (PV.loc d,_)) _) _=_
   rw [yv]
   simp only [D3.ob]
   rw [if_pos (by rfl'),show putN "held" (PV.loc h.length) ["held","width","log","found"] [PV.loc hl2,.int bx.length,.loc o,.lst (bx.map .int)]=(((["held","width","log","found"]:List Str)),[PV.loc h.length,.int bx.length,.loc o,.lst (bx.map .int)]) from by unfold putN;rw [if_pos (by rfl')];rfl,yv,ywM]
   rfl
  .exact (F12.set gs).set gd
 cases e with
 | done =>
  obtain ⟨ij,iv,rfl,iID⟩:=D2.idT
  have tID:isID top:=D.idT
  have hl1:=tID.len
  have hl2':=iID.le
  have ut:t≠t':=(List.nodup_append.mp n16).2.2 t (by simp) t' (by simp)
  have us_:t≠s:=fun z=>n14 (by rw [<- z];simp)
  have ts_:t'≠s:=fun z=>n14 (by rw [<- z];simp)
  obtain ⟨fs,f,ef,s1,s2⟩:=D2.st.split
  obtain ⟨q1,q2⟩:=List.append_inj' ef rfl
  cases q2
  subst q1
  have hM:isID (ysA (ij.map .inl) (iv.map PV.int) top.1 top.2):=isID.mrg ij iv tID iID.rg
  have D4:=D3.write hM
  refine ⟨_,?_,⟨⟨hl2,_,sj2,sv2,D4,fun j=>?_,hs2⟩,nh2,nv2,nb⟩,(F12.set gs).set gt,E2⟩
  .show ob (oB (.bl true) h2) _=_
   walk_at "pi"
   rw [yhQ (h:=h2) D2.g.ob (by
    walk_at "pi"
    rw [ypn D2.ob]) (by rfl') rfl,yzo D2.g n10 us_ ts_ ut s2 D2.tp (by rw [List.length_map];omega),yv]
  .rw [yDt ij iv tID iID.rg iID.nd iID.ln,yzE]
   have:=hv2 j
   rw [yzt] at this
   exact this
 | waits =>
  obtain ⟨h',q1,q2,q3⟩:=stop _ rfl
  refine ⟨h',?_,q2,q3,E2⟩
  show ob (oB (.bl false) h2) _=_
  walk_at "pi"
  exact q1
 | fell nm v =>
  obtain ⟨h',q1,q2,q3⟩:=stop _ rfl
  refine ⟨h',?_,q2,q3,E2⟩
  show ob (oB (.bl false) h2) _=_
  walk_at "pi"
  exact q1
theorem yGa {n:Nat}(G:∀ m,m<=n->ywg m):yDP (n+2):=by
 intro X d o s b t l es bx u h σ hd hu hl R
 obtain ⟨hl0,eo⟩:=R.ob
 obtain ⟨hlR,topR,sjR,svR,DR,hvR,hsR⟩:=R.ex
 have pp:∀ {P:AH->Prop}{Q:AH->Prop}{S:AH->Prop},(∃ h',P h'/\Q h'/\S h')->∃ h',P h'/\Q h'/\S h'/\True:=fun ⟨h',p,q,r⟩=>⟨h',p,q,r,trivial⟩
 cases u with
 | let_ r n=>exact pp (yeE (u:=.let_ r n) trivial hu R)
 | reckon w r p q=>exact pp (yeE (u:=.reckon w r p q) trivial hu R)
 | take r p=>exact pp (yeE (u:=.take r p) trivial hu R)
 | put p q=>exact pp (yeE (u:=.put p q) trivial hu R)
 | wait =>
  refine ⟨h,?_,R,Frm.refl,trivial⟩
  unfold yM
  rw [yC]
  show ob (yw _ _ [.val (.loc d),.val (.ins 11 [] [])] h) fnK=_
  rw [ycD yuQ,ycD yuR,ycD yuS,ycD yrj]
  walk_at "pi"
  rfl
 | throw nm r =>
  refine ⟨h,?_,R,Frm.refl,ysX R.nh⟩
  unfold yM
  rw [yC]
  show ob (yw _ _ [.val (.loc d),.val (.ins 10 ["name","slot"] [.str nm,.str r])] h) fnK=_
  rw [ycD yuN,ycD yuO,ycD yuP]
  walk_at "pi"
  rw [yjb (h2:=h) (ys:=[.str r]) eo rfl (by rfl') (by walk_at "pi"),yfl DR hu.2,yv]
  (try walk_at "pi")
  rfl
 | if_ r x y =>
  have hd:4*(1+max (ydu x) (ydu y))+1<=n+2:=hd
  have hl:l.length+(1+max (ydu x) (ydu y))<=60:=hl
  obtain ⟨k1,k2,k3⟩:=hu
  obtain ⟨m,rfl⟩:∃ m,n=m+1:=⟨n-1,by omega⟩
  have key:∃ h',yfw (m+2) [.loc d,yei (.if_ r x y)] h=some (enV (evT bx (.if_ r x y) σ).1,h')/\PR h' X d o s b l t es bx (evT bx (.if_ r x y) σ).2/\Frm X h h'/\EnN (evT bx (.if_ r x y) σ).1:=by
   unfold yfw
   rw [yC]
   show ∃ h',ob (yw _ _ [.val (.loc d),.val (.ins 7 ["slot","parts","others"] [.str r,.lst (ybu x),.lst (ybu y)])] h) fnK=some (enV (if σ.at_ r≠0 then evL bx x σ else evL bx y σ).1,h')/\PR h' X d o s b l t es bx (if σ.at_ r≠0 then evL bx x σ else evL bx y σ).2/\_/\EnN (if σ.at_ r≠0 then evL bx x σ else evL bx y σ).1
   walk_at "pi"
   rw [yjb (h2:=h) (ys:=[.str r]) eo rfl (by rfl') (by walk_at "pi"),yfl DR k1,yv]
   walk_at "pi"
   by_cases hz:σ.hs.getD (sx r) 0=0
   .obtain ⟨h',e,R',F,E'⟩:=G (m+1) (Nat.le_refl _) X d o s b t l es bx y h σ (by omega) k3 (by omega) R
    rw [if_neg (show ¬ σ.at_ r≠0 from fun z=>z hz)]
    refine ⟨h',?_,R',F,E'⟩
    rw [if_neg (fun z=>z hz),yjb (h2:=h) (ys:=[.lst (ybu y)]) eo rfl (by rfl') (by walk_at "pi"),e,yv]
   .obtain ⟨h',e,R',F,E'⟩:=G (m+1) (Nat.le_refl _) X d o s b t l es bx x h σ (by omega) k2 (by omega) R
    rw [if_pos (show σ.at_ r≠0 from hz)]
    refine ⟨h',?_,R',F,E'⟩
    rw [if_pos hz,yjb (h2:=h) (ys:=[.lst (ybu x)]) eo rfl (by rfl') (by walk_at "pi"),e,yv]
  obtain ⟨h',e,R',F,E'⟩:=key
  refine ⟨h',?_,R',F,E'⟩
  unfold yM
  rw [yC]
  show ob (yw _ _ [.val (.loc d),.val (.ins 7 ["slot","parts","others"] [.str r,.lst (ybu x),.lst (ybu y)])] h) fnK=_
  walk_at "pi"
  rw [yjb (h2:=h) (ys:=[yei (.if_ r x y)]) eo rfl (by rfl') rfl,e,yv]
 | either x y=>exact hu.1.elim
 | try_ x nm r y =>
  have hd:4*(1+max (ydu x) (ydu y))+1<=n+2:=hd
  have hl:l.length+(1+max (ydu x) (ydu y))<=60:=hl
  obtain ⟨-,k1,k2,k3⟩:=hu
  obtain ⟨m,rfl⟩:∃ m,n=m+1:=⟨n-1,by omega⟩
  obtain ⟨h1,e1,R1,F1,E1⟩:=yIH (G m (by omega)) (us:=x) (by omega) k2 (by omega) R
  obtain ⟨hl1,eo1⟩:=R1.ob
  have key:∃ h',yeK (m+2) [.loc d,yei (.try_ x nm r y)] h=some (enV (evT bx (.try_ x nm r y) σ).1,h')/\PR h' X d o s b l t es bx (evT bx (.try_ x nm r y) σ).2/\Frm X h h'/\EnN (evT bx (.try_ x nm r y) σ).1:=by
   unfold yeK
   rw [yC]
   show ∃ h',ob (yw _ _ [.val (.loc d),.val (.ins 9 ["parts","name","slot","others"] [.lst (ybu x),.str nm,.str r,.lst (ybu y)]),.no] h) fnK=some (enV (match evL bx x σ with|(.fell m v,τ)=>if m=nm then evL bx y ((⟨σ.hs,σ.v,τ.s⟩:AS).put_ r v) else (.fell m v,⟨σ.hs,σ.v,τ.s⟩)|(.waits,τ)=>(.waits,⟨σ.hs,σ.v,τ.s⟩)|(.done,τ)=>(.done,τ)).1,h')/\PR h' X d o s b l t es bx (match evL bx x σ with|(.fell m v,τ)=>if m=nm then evL bx y ((⟨σ.hs,σ.v,τ.s⟩:AS).put_ r v) else (.fell m v,⟨σ.hs,σ.v,τ.s⟩)|(.waits,τ)=>(.waits,⟨σ.hs,σ.v,τ.s⟩)|(.done,τ)=>(.done,τ)).2/\_/\EnN (match evL bx x σ with|(.fell m v,τ)=>if m=nm then evL bx y ((⟨σ.hs,σ.v,τ.s⟩:AS).put_ r v) else (.fell m v,⟨σ.hs,σ.v,τ.s⟩)|(.waits,τ)=>(.waits,⟨σ.hs,σ.v,τ.s⟩)|(.done,τ)=>(.done,τ)).1
   walk_at "pi"
   rw [yjb (h2:=h) (ys:=[.lst (ybu x)]) eo rfl (by rfl') (by walk_at "pi"),e1,yv]
   generalize evL bx x σ=q at *
   obtain ⟨e,τ⟩:=q
   have wf:¬ ("waits":Str) = "fell":=by rfl'
   have df:¬ ("done":Str) = "fell":=by rfl'
   cases e with
   | waits =>
    refine ⟨h1,?_,R1,F1,trivial⟩
    show ob (ydv (.tup [.str "waits"]) (.int 0) h1) _=_
    walk_at "pi"
    rw [if_neg wf]
   | done =>
    refine ⟨h1,?_,R1,F1,trivial⟩
    show ob (ydv (.tup [.str "done"]) (.int 0) h1) _=_
    walk_at "pi"
    rw [if_neg df]
   | fell q v =>
    by_cases hq:q=nm
    .subst hq
     obtain ⟨hl2,top2,sj2,sv2,D2,hv2,hs2⟩:=R1.ex
     have R2:PR (h1.set hl2 (.lst ((σ.hs.set (sx r) v).map .int))) X d o s b l t es bx ((⟨σ.hs,σ.v,τ.s⟩:AS).put_ r v):=⟨⟨hl2,top2,sj2,sv2,D2.hold (by rw [List.length_set];exact D2.h8),hv2,hs2⟩,yzv R1.nh E1,R1.nv,R1.nb⟩
     obtain ⟨hl3,eo3⟩:=R2.ob
     obtain ⟨h',e',R',F',E'⟩:=G (m+1) (Nat.le_refl _) X d o s b t l es bx y _ _ (by omega) k3 (by omega) R2
     dsimp only
     rw [if_pos rfl]
     refine ⟨h',?_,R',(F1.set (D2.ge hl2 (by simp))).trans F',E'⟩
     simp only [show enV (.fell q v)=.tup [.str "fell",.str q,.int v] from rfl]
     walk_at "pi"
     have ea:yc (yfi [3,4,5,6,7,9,10] "slot" (yg 1)) (yc (xOp ydv (yg 2) (xC (.int 2))) yr) [.val (.loc d),.val (.ins 9 ["parts","name","slot","others"] [.lst (ybu x),.str q,.str r,.lst (ybu y)]),.val (.tup [.str "fell",.str q,.int v])] h1=some ([.str r,.int v],h1):=by
      walk_at "pi"
     rw [yjb D2.ob rfl (by rfl') ea,yon D2 k1,yv]
     rw [yjb (h2:=h1.set hl2 (.lst ((σ.hs.set (sx r) v).map .int))) (ys:=[.lst (ybu y)]) eo3 rfl (by rfl') (by walk_at "pi"),e',yv]
    .dsimp only
     rw [if_neg hq]
     refine ⟨h1,?_,R1,F1,E1⟩
     simp only [show enV (.fell q v)=.tup [.str "fell",.str q,.int v] from rfl]
     walk_at "pi"
     rw [if_neg hq]
  obtain ⟨h',e,R',F,E'⟩:=key
  refine ⟨h',?_,R',F,E'⟩
  unfold yM
  rw [yC]
  show ob (yw _ _ [.val (.loc d),.val (.ins 9 ["parts","name","slot","others"] [.lst (ybu x),.str nm,.str r,.lst (ybu y)])] h) fnK=_
  rw [ycD yDN,ycD yDO]
  walk_at "pi"
  rw [yjb (h2:=h) (ys:=[yei (.try_ x nm r y)]) eo rfl (by rfl') rfl,e,yv]
theorem yzF:∀ n,ywg n
 | 0=>fun X d o s b t l es bx us h σ hd=>by omega
 | 1=>fun X d o s b t l es bx us h σ hd=>by omega
 | 2=>ymA (n:=1) (by
  intro X d o s b t l es bx u h σ hd hu hl R
  obtain ⟨hlR,topR,sjR,svR,DR,hvR,hsR⟩:=R.ex
  have pp:∀ {P:AH->Prop}{Q:AH->Prop}{S:AH->Prop},(∃ h',P h'/\Q h'/\S h')->∃ h',P h'/\Q h'/\S h'/\True:=fun ⟨h',p,q,r⟩=>⟨h',p,q,r,trivial⟩
  cases u with
  | let_ r n=>exact pp (yeE (n:=0) (u:=.let_ r n) trivial hu R)
  | reckon w r p q=>exact pp (yeE (n:=0) (u:=.reckon w r p q) trivial hu R)
  | take r p=>exact pp (yeE (n:=0) (u:=.take r p) trivial hu R)
  | put p q=>exact pp (yeE (n:=0) (u:=.put p q) trivial hu R)
  | wait =>
   refine ⟨h,?_,R,Frm.refl,trivial⟩
   unfold yM
   rw [yC]
   show ob (yw _ _ [.val (.loc d),.val (.ins 11 [] [])] h) fnK=_
   rw [ycD yuQ,ycD yuR,ycD yuS,ycD yrj]
   walk_at "pi"
   rfl
  | throw nm r =>
   refine ⟨h,?_,R,Frm.refl,ysX R.nh⟩
   unfold yM
   rw [yC]
   show ob (yw _ _ [.val (.loc d),.val (.ins 10 ["name","slot"] [.str nm,.str r])] h) fnK=_
   rw [ycD yuN,ycD yuO,ycD yuP]
   walk_at "pi"
   rw [yjb (h2:=h) (ys:=[.str r]) DR.ob rfl (by rfl') (by walk_at "pi"),yfl DR hu.2,yv]
   (try walk_at "pi")
   rfl
  | if_ r x y=>exact absurd (show 4*(1+max (ydu x) (ydu y))+1<=1 from hd) (by omega)
  | either x y=>exact absurd (show 4*(1+max (ydu x) (ydu y))+1<=1 from hd) (by omega)
  | try_ x nm r y=>exact absurd (show 4*(1+max (ydu x) (ydu y))+1<=1 from hd) (by omega))
 | n+3=>ymA (yGa fun m hm=>yzF m)
end
section
variable {h:AH}
def yiT (f:Vw):List PV:=(iv16.filterMap fun i=>(f i).map fun v=>(i,PV.int v)).map fun p=>.tup [.int p.1,p.2]
theorem yuT {js vs:List Int}(d:ID js vs) {f:Vw}(hf:∀ j,gI (js.map .inl,vs.map PV.int) j=f j):yuL js vs=yiT f:=by
 unfold yuL yiT
 congr 2
 funext i
 unfold pk
 rw [(show isID (js.map .inl,vs.map PV.int) from ⟨js,vs,rfl,d⟩).get i,hf]
 cases f i<;>rfl
theorem yrk (f:Vw):Tl (yiT f):=by
 refine ⟨?_,fun x hx=>?_⟩
 .unfold yiT
  rw [List.length_map]
  have:=List.length_filterMap_le (fun i=>(f i).map fun v=>(i,PV.int v)) iv16
  have h:iv16.length=16:=rfl
  omega
 .unfold yiT at hx
  obtain ⟨⟨i,y⟩,h1,rfl⟩:=List.mem_map.mp hx
  obtain ⟨a,_,h2⟩:=List.mem_filterMap.mp h1
  obtain ⟨z,h3,h4⟩:=Option.map_eq_some_iff.mp h2
  cases h4
  exact ⟨_,z,rfl⟩
theorem yzG {ρ:PSt}:ysw ρ h=some (.dct [] [],h):=id rfl
theorem yGb:yec [] h=some (.ins 0 ["stack","last_seen"] [.loc (h.length+1),.loc (h.length+2)],h++[Nd.dct [] []]++[Nd.lst [.loc h.length]]++[Nd.dct [] []]):=by
 unfold yec
 rw [yhM]
 show ob (yw _ _ [.own (.ins 0 [] [])] h) inK=_
 walk_at "px"
 simp only [yzG,yv]
 simp
end
section
variable {h:AH}{X:Nat->Prop}{d o s b t:Nat}{l:List Nat}{es:List (List Key×List PV)}{bx hs:List Int}{σ:AS}
noncomputable def LV (h:AH) (x:PV) (xs:List PV):Prop:=∀ e:List Nd,ybW [x] (h++e)=some (.lst xs,h++e)/\yiU [x] (h++e)=some (.int xs.length,h++e)
theorem LV.lst {xs:List PV}:LV h (.lst xs) xs:=fun e=>⟨yuo,yCV⟩
theorem LV.at_ {x:PV}{xs:List PV}(v:LV h x xs):ybW [x] h=some (.lst xs,h)/\yiU [x] h=some (.int xs.length,h):=by have:=v [];rwa [List.append_nil] at this
local macro_rules | `(tactic| walk_at "pj")=>`(tactic| simp_all? only [yGb])
theorem yzH {y:PV}{w:Int}(v:LV h y (hs.map .int)):ydx [y,.int w] h=some (.ins 1 ["held","width","log"] [.loc h.length,.int w,.loc (h.length+4)],
  h++[Nd.lst (hs.map .int),.dct [] [],.lst [.loc (h.length+1)],.dct [] [],.ins 0 ["stack","last_seen"] [.loc (h.length+2),.loc (h.length+3)]]):=by
 unfold ydx
 rw [yhM]
 show ob (yw _ _ [.own (.ins 1 [] []),.val y,.val (.int w)] h) inK=_
 walk_at "pj"
 rw [v.at_.1]
 walk_at "pj"
 simp
theorem yxc {x y:PV}(vx:LV h x (bx.map .int)) (vy:LV h y (hs.map .int)):ydk [x,y] h=some (.ins 1 ["held","width","log","found"] [.loc h.length,.int bx.length,.loc (h.length+4),.lst (bx.map .int)],
  h++[Nd.lst (hs.map .int),.dct [] [],.lst [.loc (h.length+1)],.dct [] [],.ins 0 ["stack","last_seen"] [.loc (h.length+2),.loc (h.length+3)]]):=by
 unfold ydk
 rw [yhM]
 show ob (yw _ _ [.own (.ins 1 [] []),.val x,.val y] h) inK=_
 rw [ymT,yMc rfl]
 walk_at "pj"
 rw [vx.at_.2,yv,yzH vy,yv,List.length_map]
 walk_at "pj"
 rw [(vx _).1]
 walk_at "pj"
theorem yCf (h8:hs.length=8) (b1:1<=bx.length) (b16:bx.length<=16) (nh:∀ v∈hs,N64 v) (nb:∀ v∈bx,N64 v) :
  PR (h++[Nd.lst (hs.map .int),.dct [] [],.lst [.loc (h.length+1)],.dct [] [],.ins 0 ["stack","last_seen"] [.loc (h.length+2),.loc (h.length+3)]]++[.ins 1 ["held","width","log","found"] [.loc h.length,.int bx.length,.loc (h.length+4),.lst (bx.map .int)]])
   (· < h.length) (h.length+5) (h.length+4) (h.length+2) (h.length+3) [] (h.length+1) [] bx ⟨hs,fun _=>none,fun _=>none⟩:=by
 have gx:∀ (X:List Nd) (k:Nat),(h++X)[h.length+k]?=X[k]?:=fun X k=>by rw [List.getElem?_append_right (Nat.le_add_right _ _),Nat.add_sub_cancel_left]
 rw [List.append_assoc]
 refine ⟨⟨h.length,([],[]),[],[],⟨gx _ 5,gx _ 0,⟨gx _ 4,gx _ 2,gx _ 3,⟨gx _ 1,trivial⟩⟩,trivial,gx _ 1,by simp,by simp,isID.nil,by simp,⟨by simp,by simp,rfl⟩,h8,b1,b16,fun n hn=>by simp only [List.length_append];omega⟩,fun j=>rfl,fun j=>rfl⟩,nh,(fun j v e=>nomatch e),nb⟩
theorem yCg {l:Nat}{r:List Nat}{ds:List (List Key×List PV)}{ks:List Key}{xs:List PV}{js vs:List Int}(g:LG h o s b (l::r) ds ks xs) (e:h[l]?=some (.dct (js.map .inl) (vs.map PV.int))) (d:ID js vs):ygK [.loc o] h=some (.loc h.length,h++[.lst (yuL js vs)]):=by
 have ix:yhL (.loc s) (.int 0) h=some (.loc l,h):=by
  unfold yhL
  simp only [g.st]
  have:atI ((l::r).map PV.loc) 0=some (.loc l):=yev (j:=0) rfl
  rw [this]
 unfold ygK
 rw [yC,ymT,ywN,yJd,ypd,show yg 0 ([PV.loc o].map .val++List.replicate (2-[PV.loc o].length) .no) h=some (.loc o,h) from rfl,yv,ykg g.ob,yv]
 show ob (ob (ob (yhL (.loc s) (.int 0) h) _) _) _=_
 rw [ix,yv]
 show ob (ycB (ylK (ynX (yg 1))) [.val (.loc o),.val (.loc l)] h) fnK=_
 rw [yyw,yFd]
 unfold ynX
 show ob (ob (ob (ob (some (PV.loc l,h)) _) _) _) _=_
 rw [yv]
 unfold ymV
 have:=d.le
 simp only [e,ywc d (by omega)]
 rfl
def wrE:En->AS->List PV
 | .done,τ=>yiT τ.v
 | _,_=>[]
def hsE:En->AS->List Int->List Int
 | .done,τ,_=>τ.hs
 | _,_,hs=>hs
structure Res (h h2:AH) (r:PV) (e:En) (τ:AS) (hs:List Int):Prop where
 ex:∃ a,r=.tup [enV e,.loc a,.loc (a+1),.loc (a+2)]/\h.length<=a/\h2[a]?=some (.lst (yiT τ.s))/\h2[a+1]?=some (.lst (wrE e τ))/\h2[a+2]?=some (.lst ((hsE e τ hs).map .int))
 fr:Frm (· < h.length) h h2
 h8:(hsE e τ hs).length=8
theorem yzI {us:List T}{x y:PV}(hu:okL us) (hd:ydu us<=4) (vx:LV h x (bx.map .int)) (vy:LV h y (hs.map .int)) (vy2:∀ h2:AH,Frm (· < h.length) h h2->ybW [y] h2=some (.lst (hs.map .int),h2)) (h8:hs.length=8) (b1:1<=bx.length) (b16:bx.length<=16) (nh:∀ v∈hs,N64 v) (nb:∀ v∈bx,N64 v) :
  ∃ h2 r,ylS [.lst (ybu us),x,y] h=some (r,h2)/\Res h h2 r (evL bx us ⟨hs,fun _=>none,fun _=>none⟩).1 (evL bx us ⟨hs,fun _=>none,fun _=>none⟩).2 hs:=by
 have R0:=yCf (h:=h) h8 b1 b16 nh nb
 obtain ⟨h2,e,R,F,_⟩:=yzF 20 _ _ _ _ _ _ _ _ _ us _ _ (by omega) hu (by simp;omega) R0
 obtain ⟨hl0,eo0⟩:=R0.ob
 have FF:Frm (· < h.length) h h2:=by
  refine ⟨Nat.le_trans (by simp) F.1,fun n hn hx=>(F.2 n (by simp only [List.length_append];omega) hx).trans ?_⟩
  rw [List.append_assoc,List.getElem?_append_left hn]
 unfold ylS
 rw [yC]
 show ∃ h2 r,ob (yw _ _ [.val (.lst (ybu us)),.val x,.val y,.no,.no] h) fnK=_/\_
 walk_at "pj"
 rw [yxc vx vy,yv]
 rw [show (h++[Nd.lst (hs.map .int),.dct [] [],.lst [.loc (h.length+1)],.dct [] [],.ins 0 ["stack","last_seen"] [.loc (h.length+2),.loc (h.length+3)]]).length=h.length+5 by simp]
 rw [yjb eo0 rfl (by rfl') rfl,e,yv,ypY,yv]
 generalize evL bx us ⟨hs,fun _=>none,fun _=>none⟩=q at *
 obtain ⟨en,τ⟩:=q
 obtain ⟨⟨hl,top,sj,sv,D,hv,hs'⟩,_⟩:=R
 obtain ⟨js,vs,rfl,hID⟩:=D.idT
 have sl:=D.idS.le
 have so:=ywc D.idS (by omega)
 rw [yuT D.idS hs'] at so
 have D1:=D.ext (x:=.lst (yiT τ.s))
 have hlen:=FF.1
 have get:∀ (x1 x2 x3:Nd),(h2++[x1]++[x2]++[x3])[h2.length]?=some x1/\(h2++[x1]++[x2]++[x3])[h2.length+1]?=some x2/\(h2++[x1]++[x2]++[x3])[h2.length+2]?=some x3:=fun x1 x2 x3=>by
  refine ⟨?_,?_,?_⟩<;>simp
 have stop:en≠.done->∃ h3 r,(ob (yO 0 "saw" ygJ (yfi [1] "log" (yg 3)) (yr) [.val (.lst (ybu us)),.val x,.val y,.val (.loc (h.length+5)),.val (enV en)] h2) fun x h=>ob (ybW [y] (h++[Nd.lst []])) fun x_1 h_1=>some (PV.tup [enV en,x,.loc h.length,.loc h_1.length],h_1++[x_1]))=some (r,h3)/\Res h h3 r en τ hs:=by
  intro ne
  refine ⟨_,_,?_,⟨⟨h2.length,rfl,FF.1,(get _ _ _).1,(get _ _ _).2.1,(get _ _ _).2.2⟩,FF.app.app.app,?_⟩⟩
  .rw [yhQ (h:=h2) D.g.ob (by
    walk_at "pj"
    rw [ypn D.ob]) (by rfl') rfl,yDs D.g so,yv]
   rw [vy2 _ FF.app.app,yv]
   have w1:wrE en τ=[]:=by cases en<;>first|rfl|exact absurd rfl ne
   have w2:hsE en τ hs=hs:=by cases en<;>first|rfl|exact absurd rfl ne
   rw [w1,w2]
   simp
  .have w2:hsE en τ hs=hs:=by cases en<;>first|rfl|exact absurd rfl ne
   rw [w2];exact h8
 cases en with
 | done =>
  refine ⟨_,_,?_,⟨⟨h2.length,rfl,FF.1,(get _ _ _).1,(get _ _ _).2.1,(get _ _ _).2.2⟩,FF.app.app.app,D.h8⟩⟩
  show ob (oB (.bl true) h2) _=_
  walk_at "pj"
  rw [yhQ (h:=h2) D.g.ob (by
   walk_at "pj"
   rw [ypn D.ob]) (by rfl') rfl,yDs D.g so,yv]
  rw [yhQ D1.g.ob (by
   walk_at "pj"
   rw [ypn D1.ob]) (by rfl') rfl,yCg D1.g D1.tp hID,yv]
  have e2:yuL js vs=yiT τ.v:=yuT hID fun j=>by
   rw [<- hv j]
   show _=orV _ none
   cases gI (js.map .inl,vs.map PV.int) j<;>rfl
  rw [e2]
  have D2:=D1.ext (x:=.lst (yiT τ.v))
  rw [ywd D2.ob,yv,yhk D2.hh,yv]
  show _=some (PV.tup [enV .done,.loc h2.length,.loc (h2.length+1),.loc (h2.length+2)],h2++[Nd.lst (yiT τ.s)]++[Nd.lst (yiT τ.v)]++[Nd.lst (τ.hs.map .int)])
  simp
 | waits =>
  obtain ⟨h3,r,q1,q2⟩:=stop (by simp)
  refine ⟨h3,r,?_,q2⟩
  show ob (oB (.bl false) h2) _=_
  walk_at "pj"
  exact q1
 | fell nm v =>
  obtain ⟨h3,r,q1,q2⟩:=stop (by simp)
  refine ⟨h3,r,?_,q2⟩
  show ob (oB (.bl false) h2) _=_
  walk_at "pj"
  exact q1
end
theorem ykY:(("let":Str) = "reckon")=False:=eq_false (by rfl')
theorem yoo:(("let":Str) = "take")=False:=eq_false (by rfl')
theorem ypZ:(("let":Str) = "put")=False:=eq_false (by rfl')
theorem yop:(("let":Str) = "if")=False:=eq_false (by rfl')
theorem ylT:(("let":Str) = "try")=False:=eq_false (by rfl')
theorem yjc:(("let":Str) = "throw")=False:=eq_false (by rfl')
theorem ykh:(("let":Str) = "wait")=False:=eq_false (by rfl')
theorem ygu:(("reckon":Str) = "let")=False:=eq_false (by rfl')
theorem yjS:(("reckon":Str) = "take")=False:=eq_false (by rfl')
theorem ykZ:(("reckon":Str) = "put")=False:=eq_false (by rfl')
theorem yjd:(("reckon":Str) = "if")=False:=eq_false (by rfl')
theorem yih:(("reckon":Str) = "try")=False:=eq_false (by rfl')
theorem ygL:(("reckon":Str) = "throw")=False:=eq_false (by rfl')
theorem yhR:(("reckon":Str) = "wait")=False:=eq_false (by rfl')
theorem yii:(("take":Str) = "let")=False:=eq_false (by rfl')
theorem yfx:(("take":Str) = "reckon")=False:=eq_false (by rfl')
theorem yki:(("take":Str) = "put")=False:=eq_false (by rfl')
theorem ylU:(("take":Str) = "if")=False:=eq_false (by rfl')
theorem ykj:(("take":Str) = "try")=False:=eq_false (by rfl')
theorem yij:(("take":Str) = "throw")=False:=eq_false (by rfl')
theorem yje:(("take":Str) = "wait")=False:=eq_false (by rfl')
theorem yjI:(("put":Str) = "let")=False:=eq_false (by rfl')
theorem ygv:(("put":Str) = "reckon")=False:=eq_false (by rfl')
theorem ykk:(("put":Str) = "take")=False:=eq_false (by rfl')
theorem yoq:(("put":Str) = "if")=False:=eq_false (by rfl')
theorem ylV:(("put":Str) = "try")=False:=eq_false (by rfl')
theorem yjf:(("put":Str) = "throw")=False:=eq_false (by rfl')
theorem ykl:(("put":Str) = "wait")=False:=eq_false (by rfl')
theorem yor:(("if":Str) = "let")=False:=eq_false (by rfl')
theorem yjg:(("if":Str) = "reckon")=False:=eq_false (by rfl')
theorem ylW:(("if":Str) = "take")=False:=eq_false (by rfl')
theorem yos:(("if":Str) = "put")=False:=eq_false (by rfl')
theorem ysY:(("if":Str) = "try")=False:=eq_false (by rfl')
theorem ykm:(("if":Str) = "throw")=False:=eq_false (by rfl')
theorem ylX:(("if":Str) = "wait")=False:=eq_false (by rfl')
theorem ylY:(("try":Str) = "let")=False:=eq_false (by rfl')
theorem yik:(("try":Str) = "reckon")=False:=eq_false (by rfl')
theorem ykn:(("try":Str) = "take")=False:=eq_false (by rfl')
theorem ylZ:(("try":Str) = "put")=False:=eq_false (by rfl')
theorem yla:(("try":Str) = "if")=False:=eq_false (by rfl')
theorem yjh:(("try":Str) = "throw")=False:=eq_false (by rfl')
theorem yko:(("try":Str) = "wait")=False:=eq_false (by rfl')
theorem yji:(("throw":Str) = "let")=False:=eq_false (by rfl')
theorem ygM:(("throw":Str) = "reckon")=False:=eq_false (by rfl')
theorem yil:(("throw":Str) = "take")=False:=eq_false (by rfl')
theorem yjj:(("throw":Str) = "put")=False:=eq_false (by rfl')
theorem ykp:(("throw":Str) = "if")=False:=eq_false (by rfl')
theorem yjk:(("throw":Str) = "try")=False:=eq_false (by rfl')
theorem yim:(("throw":Str) = "wait")=False:=eq_false (by rfl')
theorem ykq:(("wait":Str) = "let")=False:=eq_false (by rfl')
theorem yhS:(("wait":Str) = "reckon")=False:=eq_false (by rfl')
theorem yjl:(("wait":Str) = "take")=False:=eq_false (by rfl')
theorem ykr:(("wait":Str) = "put")=False:=eq_false (by rfl')
theorem yma:(("wait":Str) = "if")=False:=eq_false (by rfl')
theorem yks:(("wait":Str) = "try")=False:=eq_false (by rfl')
theorem yin:(("wait":Str) = "throw")=False:=eq_false (by rfl')
section
variable {h:AH}
mutual
noncomputable def yot:T->PV
 | .let_ r n=>.tup [.str "let",.str r,.int n]
 | .reckon w r s t=>.tup [.str "reckon",.str w,.str r,.str s,.str t]
 | .take r s=>.tup [.str "take",.str r,.str s]
 | .put s t=>.tup [.str "put",.str s,.str t]
 | .if_ r a b=>.tup [.str "if",.str r,.lst (ybK a),.lst (ybK b)]
 | .either a b=>.tup [.str "either",.lst (ybK a),.lst (ybK b)]
 | .try_ a nm r b=>.tup [.str "try",.lst (ybK a),.str nm,.str r,.lst (ybK b)]
 | .throw nm r=>.tup [.str "throw",.str nm,.str r]
 | .wait=>.tup [.str "wait"]
noncomputable def ybK:List T->List PV
 | []=>[]
 | t::r=>yot t::ybK r
end
theorem ylb:∀ ts:List T,ybK ts=ts.map yot
 | []=>rfl
 | t::r=>by show yot t::ybK r=_;rw [ylb r];rfl
theorem yGc {z:Str}:isStr (.str z) h=true:=rfl
theorem yII {w:Str}{x y:Int}(hw:okW w) (hx:N64 x):yhZ [.str w,.int x,.int y] h=some (.int (rk w x y),h):=by
 have hm:MulOk x y:=.inl ⟨by have:=hx.1;omega,hx.2⟩
 unfold yhZ
 rw [yC]
 show ob (yw _ _ [.val (.str w),.val (.int x),.val (.int y)] h) fnK=_
 unfold okW WDS at hw
 simp only [List.mem_cons,List.not_mem_nil,or_false] at hw
 unfold rk
 rcases hw with rfl|rfl|rfl|rfl|rfl
 .walk_at "pw"
 .walk_at "pw"
 .walk_at "pw"
  rw [if_pos hm]
 .walk_at "pw"
 .walk_at "pw"
end
local macro_rules | `(tactic| walk_at "pk")=>`(tactic| simp_all? only [ykY,yoo,ypZ,yop,ylT,yjc,ykh,ygu,yjS,ykZ,yjd,yih,ygL,yhR,yii,yfx,yki,ylU,ykj,yij,yje,yjI,ygv,ykk,yoq,ylV,yjf,ykl,yor,yjg,ylW,yos,ysY,ykm,ylX,ylY,yik,ykn,ylZ,yla,yjh,yko,yji,ygM,yil,yjj,ykp,yjk,yim,ykq,yhS,yjl,ykr,yma,yks,yin,if_true,if_false,yGc])
section
variable {h:AH}
theorem yjJ {n:Nat}{xs:List Int}{i:Nat}{v:Int}{eo ei ev:XE}{ρ:PSt}(e1:ev ρ h=some (.int v,h)) (e2:eo ρ h=some (.loc n,h)) (e3:ei ρ h=some (.int i,h)) (e:h[n]?=some (.lst (xs.map .int))) (hi:i<xs.length):ymU eo ei ev ρ h=some (.nx ρ,h.set n (.lst ((xs.set i v).map .int))):=by
 unfold ymU
 rw [e1,yv,e2,yv,e3,yv]
 have e4:ixN (xs.map PV.int).length (i:Nat)=some i:=by
  unfold ixN
  simp [hi]
 simp only [e,e4]
 rw [List.map_set]
theorem yxd {n:Nat}{ks:List Key}{xs:List PV}{i:Int}{ek ed:XE}{ρ:PSt}(ek':ek ρ h=some (.int i,h)) (ed':ed ρ h=some (.loc n,h)) (e:h[n]?=some (.dct ks xs)):yyG true ek ed ρ h=some (.bl (!(yhN ks xs (.inl i)).isSome),h):=by
 unfold yyG
 rw [ek',yv,ed',yv]
 unfold yyF
 simp only [e,keyOf]
 rfl
theorem ysZ {n:Nat}{ks:List Key}{xs:List PV}{i:Int}{y:PV}{ek ed ey:XE}{ρ:PSt}(ed':ed ρ h=some (.loc n,h)) (ek':ek ρ h=some (.int i,h)) (ey':ey ρ h=some (y,h)) (e:h[n]?=some (.dct ks xs)):ysx ed ek ey ρ h=some ((yhN ks xs (.inl i)).getD y,h):=by
 have hd:yyF (.loc n) h=some (ks,xs):=by unfold yyF;simp only [e]
 unfold ysx
 rw [ed',yv,hd,if_pos (show (some (ks,xs)).isSome=true from rfl),ek',yv,ey',yv,hd]
 rfl
structure LS (h:AH) (a c w:Nat) (σ:AS):Prop where
 ex:∃ sj sv wj wv,h[c]?=some (.dct (sj.map .inl) (sv.map PV.int))/\h[w]?=some (.dct (wj.map .inl) (wv.map PV.int))/\ID sj sv/\ID wj wv/\(∀ j,gI (sj.map .inl,sv.map PV.int) j=σ.s j)/\∀ j,gI (wj.map .inl,wv.map PV.int) j=σ.v j
 hh:h[a]?=some (.lst (σ.hs.map .int))
 ne:a≠c/\a≠w/\c≠w
 h8:σ.hs.length=8
 nh:∀ v∈σ.hs,N64 v
 nv:∀ j v,σ.v j=some v->N64 v
def Fr3 (a c w:Nat) (h h':AH):Prop:=h'.length=h.length/\∀ n,n≠a->n≠c->n≠w->h'[n]?=h[n]?
theorem Fr3.refl {a c w:Nat}:Fr3 a c w h h:=⟨rfl,fun _ _ _ _=>rfl⟩
theorem Fr3.set {a c w t:Nat}{h':AH}{x:Nd}(f:Fr3 a c w h h') (ht:t=a\/t=c\/t=w):Fr3 a c w h (h'.set t x):=⟨by rw [List.length_set];exact f.1,fun n h1 h2 h3=>(List.getElem?_set_ne (by rcases ht with rfl|rfl|rfl<;>exact fun z=>(by first|exact h1 z.symm|exact h2 z.symm|exact h3 z.symm))).trans (f.2 n h1 h2 h3)⟩
variable {a c w:Nat}{σ:AS}{bx:List Int}
theorem yxe {u:T}(hp:ywf u) (hu:okT u) (b1:1<=bx.length) (b16:bx.length<=16) (nb:∀ v∈bx,N64 v) (L:LS h a c w σ):∃ h',yeh [yot u,.lst (bx.map .int),.loc c,.loc a,.loc w] h=some (.non,h')/\LS h' a c w (evP bx u σ)/\Fr3 a c w h h':=by
 obtain ⟨⟨sj,sv,wj,wv,e1,e2,i1,i2,f1,f2⟩,hh,⟨n1,n2,n3⟩,h8,nh,nv⟩:=L
 have ix:∀ {r:Str},okS r->yhL (.loc a) (.int (sx r)) h=some (.int (σ.hs.getD (sx r) 0),h):=fun hr=>yri hh (by rw [h8];exact yom hr)
 have len8:∀ {i:Nat}{v:Int},(σ.hs.set i v).length=8:=by intro i v;rw [List.length_set];exact h8
 unfold yeh
 cases u with
 | let_ r n =>
  obtain ⟨k1,k2⟩:=hu
  refine ⟨_,?_,⟨⟨sj,sv,wj,wv,yB (Ne.symm n1) e1,yB (Ne.symm n2) e2,i1,i2,f1,f2⟩,set_same hh,⟨n1,n2,n3⟩,len8,yzv nh k2,nv⟩,Fr3.refl.set (.inl rfl)⟩
  rw [yC]
  show ob (ycL _ _ _ [.val (.tup [.str "let",.str r,.int n]),.val (.lst (bx.map .int)),.val (.loc c),.val (.loc a),.val (.loc w),.no,.no,.no] h) fnK=_
  walk_at "pk"
  rw [yjJ (n:=a) (i:=sx r) (v:=n) rfl rfl (by
   walk_at "pk"
   rw [yfk k1]) hh (by rw [h8];exact yom k1),yv]
  rfl
 | reckon q r x y =>
  obtain ⟨k0,k1,k2,k3⟩:=hu
  refine ⟨_,?_,⟨⟨sj,sv,wj,wv,yB (Ne.symm n1) e1,yB (Ne.symm n2) e2,i1,i2,f1,f2⟩,set_same hh,⟨n1,n2,n3⟩,len8,yzv nh yLL,nv⟩,Fr3.refl.set (.inl rfl)⟩
  rw [yC]
  show ob (ycL _ _ _ [.val (.tup [.str "reckon",.str q,.str r,.str x,.str y]),.val (.lst (bx.map .int)),.val (.loc c),.val (.loc a),.val (.loc w),.no,.no,.no] h) fnK=_
  rw [ypX ygu]
  walk_at "pk"
  rw [yfk k2,yv,ix k2,yv,yfk k3,yv,ix k3,yv]
  rw [yjJ (n:=a) (i:=sx r) (v:=rk q (σ.hs.getD (sx x) 0) (σ.hs.getD (sx y) 0)) (by
   walk_at "pk"
   rw [yII k0 (ysX nh)]) rfl (by
   walk_at "pk"
   rw [yfk k1]) hh (by rw [h8];exact yom k1),yv]
  rfl
 | take r p =>
  obtain ⟨k1,k2⟩:=hu
  obtain ⟨b2,b3,b4⟩:=ysV (bx:=bx) (σ.hs.getD (sx p) 0) b1 b16
  have hj:=f2 (σ.hs.getD (sx p) 0%bx.length)
  have hg:=(show isID (wj.map .inl,wv.map PV.int) from ⟨wj,wv,rfl,i2⟩).get (σ.hs.getD (sx p) 0%bx.length)
  rw [yC]
  show ∃ h',ob (ycL _ _ _ [.val (.tup [.str "take",.str r,.str p]),.val (.lst (bx.map .int)),.val (.loc c),.val (.loc a),.val (.loc w),.no,.no,.no] h) fnK=_/\_
  rw [ypX yii,ypX yfx,ypX yki]
  walk_at "pk"
  rw [yfk k2,yv,ix k2,yv]
  rw [List.length_map]
  walk_at "pk"
  rw [if_pos (by omega)]
  rw [yxd (n:=w) (i:=σ.hs.getD (sx p) 0%bx.length) rfl rfl e2,yv,hg,hj]
  cases hv:σ.v (σ.hs.getD (sx p) 0%bx.length) with
  | some v =>
   rw [hv] at hj
   have ev:evP bx (.take r p) σ=⟨σ.hs.set (sx r) v,σ.v,σ.s⟩:=by
    show tkV bx σ r (σ.hs.getD (sx p) 0%bx.length) (σ.v (σ.hs.getD (sx p) 0%bx.length))=_
    rw [hv]
    rfl
   rw [ev]
   refine ⟨_,?_,⟨⟨sj,sv,wj,wv,yB (Ne.symm n1) e1,yB (Ne.symm n2) e2,i1,i2,f1,f2⟩,set_same hh,⟨n1,n2,n3⟩,len8,yzv nh (nv _ _ hv),nv⟩,Fr3.refl.set (.inl rfl)⟩
   show ob (oB (.bl false) h) _=_
   walk_at "pk"
   rw [yjJ (n:=a) (i:=sx r) (v:=v) (by
    rw [ysZ (n:=w) (i:=σ.hs.getD (sx p) 0%bx.length) (y:=.int (bx.getD (σ.hs.getD (sx p) 0%bx.length).toNat 0)) rfl rfl (by
     walk_at "pk"
     rw [ixF b2 b3]
     rfl) e2,hg,hj]
    rfl) rfl (by
    walk_at "pk"
    rw [yfk k1]) hh (by rw [h8];exact yom k1),yv]
   rfl
  | none =>
   rw [hv] at hj
   obtain ⟨sj',sv',hput,hi,_⟩:=i1.put (v:=bx.getD (σ.hs.getD (sx p) 0%bx.length).toNat 0) ⟨b2,b4⟩
   have ev:evP bx (.take r p) σ=⟨σ.hs.set (sx r) (bx.getD (σ.hs.getD (sx p) 0%bx.length).toNat 0),σ.v,upV σ.s (σ.hs.getD (sx p) 0%bx.length) (bx.getD (σ.hs.getD (sx p) 0%bx.length).toNat 0)⟩:=by
    show tkV bx σ r (σ.hs.getD (sx p) 0%bx.length) (σ.v (σ.hs.getD (sx p) 0%bx.length))=_
    rw [hv]
    rfl
   rw [ev]
   have hd:isID (sj.map .inl,sv.map PV.int):=⟨sj,sv,rfl,i1⟩
   have sl:=i1.le
   refine ⟨(h.set c (.dct (sj'.map .inl) (sv'.map .int))).set a (.lst ((σ.hs.set (sx r) (bx.getD (σ.hs.getD (sx p) 0%bx.length).toNat 0)).map .int)),?_,⟨⟨sj',sv',wj,wv,yB (Ne.symm n1) (set_same e1),yB (Ne.symm n2) (yB (Ne.symm n3) e2),hi,i2,fun j=>?_,f2⟩,set_same (yB n1 hh),⟨n1,n2,n3⟩,len8,yzv nh (ysX nb),nv⟩,(Fr3.refl.set (.inr (.inl rfl))).set (.inl rfl)⟩
   .show ob (oB (.bl true) h) _=_
    walk_at "pk"
    rw [ynw (n:=c) (i:=σ.hs.getD (sx p) 0%bx.length) (x:=.int (bx.getD (σ.hs.getD (sx p) 0%bx.length).toNat 0)) (by
     walk_at "pk"
     rw [ixF b2 b3]
     rfl) rfl rfl e1 (by rw [List.length_map];omega),hput,yv,ywM]
    rw [yjJ (n:=a) (i:=sx r) (v:=bx.getD (σ.hs.getD (sx p) 0%bx.length).toNat 0) (by
     rw [ysZ (n:=w) (i:=σ.hs.getD (sx p) 0%bx.length) (y:=.int (bx.getD (σ.hs.getD (sx p) 0%bx.length).toNat 0)) rfl rfl (by
      walk_at "pk"
      rw [ixF b2 b3]
      rfl) (yB (Ne.symm n3) e2),hg,hj]
     rfl) rfl (by
     walk_at "pk"
     rw [yfk k1]) (yB n1 hh) (by rw [h8];exact yom k1),yv]
    rfl
   .have:=ysO hd (k:=σ.hs.getD (sx p) 0%bx.length) (j:=j) (v:=bx.getD (σ.hs.getD (sx p) 0%bx.length).toNat 0)
    rw [hput] at this
    rw [this,f1]
    rfl
 | put p q =>
  obtain ⟨k1,k2⟩:=hu
  obtain ⟨b2,b3,b4⟩:=ysV (bx:=bx) (σ.hs.getD (sx p) 0) b1 b16
  obtain ⟨wj',wv',hput,hi,_⟩:=i2.put (v:=σ.hs.getD (sx q) 0) ⟨b2,b4⟩
  have hd:isID (wj.map .inl,wv.map PV.int):=⟨wj,wv,rfl,i2⟩
  have sl:=i2.le
  refine ⟨h.set w (.dct (wj'.map .inl) (wv'.map .int)),?_,⟨⟨sj,sv,wj',wv',yB n3 e1,set_same e2,i1,hi,f1,fun j=>?_⟩,yB n2 hh,⟨n1,n2,n3⟩,h8,nh,fun j v e=>?_⟩,Fr3.refl.set (.inr (.inr rfl))⟩
  .rw [yC]
   show ob (ycL _ _ _ [.val (.tup [.str "put",.str p,.str q]),.val (.lst (bx.map .int)),.val (.loc c),.val (.loc a),.val (.loc w),.no,.no,.no] h) fnK=_
   rw [ypX yjI,ypX ygv]
   walk_at "pk"
   rw [yfk k1,yv,ix k1,yv,List.length_map]
   walk_at "pk"
   rw [if_pos (by omega)]
   rw [ynw (n:=w) (i:=σ.hs.getD (sx p) 0%bx.length) (x:=.int (σ.hs.getD (sx q) 0)) (by
    walk_at "pk"
    rw [yfk k2,yv,ix k2]) rfl rfl e2 (by rw [List.length_map];omega),hput,yv]
   rfl
  .have:=ysO hd (k:=σ.hs.getD (sx p) 0%bx.length) (j:=j) (v:=σ.hs.getD (sx q) 0)
   rw [hput] at this
   rw [this,f2]
   rfl
  .have e:(if j=σ.hs.getD (sx p) 0%bx.length then some (σ.hs.getD (sx q) 0) else σ.v j)=some v:=e
   split at e
   .cases e;exact ysX nh
   .exact nv j v e
 | if_ _ _ _=>exact hp.elim
 | either _ _=>exact hp.elim
 | try_ _ _ _ _=>exact hp.elim
 | throw _ _=>exact hp.elim
 | wait=>exact hp.elim
end
section
variable {h:AH}
theorem yzJ {js vs:List Int}(d:ID js vs):(yqA (js.zip (vs.map PV.int))).map (·.1)=ynY js:=by
 have hl:(vs.map PV.int).length=js.length:=by simp [d.ln]
 have hk:(js.zip (vs.map PV.int)).map (·.1)=js:=List.map_fst_zip (by omega)
 refine yvQ ?_ ?_
 .have:=(yfj (js.zip (vs.map PV.int))).map (·.1)
  rw [hk] at this
  exact this
 .exact List.pairwise_map.mpr (ynv _)
theorem yzK {js vs:List Int}{e:XE}{inn:PV->PSt}(d:ID js vs) (he:∀ (j:Int) (x:PV),yhN (js.map .inl) (vs.map PV.int) (.inl j)=some x->e (inn (.int j)) h=some (.tup [.int j,x],h)) :
  yAY e inn ((ynY js).map .int) h=some (yuL js vs,h):=by
 have hl:(vs.map PV.int).length=js.length:=by simp [d.ln]
 have e1:(ynY js).map PV.int=(yqA (js.zip (vs.map PV.int))).map fun p=>.int p.1:=by
  rw [<- yzJ d,List.map_map];rfl
 rw [e1,yuv (fun p:Int×PV=>.int p.1) (fun p=>.tup [.int p.1,p.2]) fun p hp=>he p.1 p.2 ?_]
 .unfold yuL
  rw [yzq d]
 .exact (ykV d.nd hl).mp ((yfj _).mem_iff.mp hp)
theorem ynx {n:Nat}{js vs:List Int}(e:h[n]?=some (.dct (js.map .inl) (vs.map PV.int))) (d:ID js vs) {f:Vw}(hf:∀ j,gI (js.map .inl,vs.map PV.int) j=f j):ycM [.loc n] h=some (.lst (yiT f),h):=by
 have hl:=d.le
 rw [<- yuT d hf]
 unfold ycM
 rw [yC]
 show ob (ycB _ [.val (.loc n)] h) fnK=_
 rw [yyw,yJY,yCW]
 have il:xIL (xFz (ynM ypV (yc (yg 0) yr))) [.val (.loc n)] h=some ((ynY js).map .int,h):=by
  unfold xIL
  rw [yJY,yHx,yvG,show yg 0 [PVar.val (.loc n)] h=some (.loc n,h) from rfl,yv,yyv,yv,yv]
  unfold ypV ymV
  simp only [e,yol]
  rw [if_pos (by omega),yv]
  rfl
 have sl:((ynY js).map PV.int).length<=100000:=by rw [List.length_map,(ylQ js).length_eq];omega
 rw [il,yv,if_pos sl,yzK d fun j x hx=>?_]
 .rfl
 .show yiQ _ [.val (.int j),.val (.loc n)] h=_
  rw [yHw,yvG,show yg 0 [PVar.val (.int j),.val (.loc n)] h=some (.int j,h) from rfl,yv,yvG,ywa (n:=n) (i:=j) rfl rfl e hx,yv,yyv,yv,yv,yv,if_pos (by simp)]
theorem yIJ {r n:PV}:yee [r,n] h=some (.ins 3 ["slot","number"] [r,n],h):=by
 unfold yee
 rw [yhM]
 show ob (yw _ _ [.own (.ins 3 [] []),.val r,.val n] h) inK=_
 walk_at "px"
theorem yzL {w r s t:PV}:ycG [w,r,s,t] h=some (.ins 4 ["word","slot","one","other"] [w,r,s,t],h):=by
 unfold ycG
 rw [yhM]
 show ob (yw _ _ [.own (.ins 4 [] []),.val w,.val r,.val s,.val t] h) inK=_
 walk_at "px"
theorem yGd {r s:PV}:ydz [r,s] h=some (.ins 5 ["slot","place"] [r,s],h):=by
 unfold ydz
 rw [yhM]
 show ob (yw _ _ [.own (.ins 5 [] []),.val r,.val s] h) inK=_
 walk_at "px"
theorem yIK {r s:PV}:yef [r,s] h=some (.ins 6 ["place","slot"] [r,s],h):=by
 unfold yef
 rw [yhM]
 show ob (yw _ _ [.own (.ins 6 [] []),.val r,.val s] h) inK=_
 walk_at "px"
mutual
noncomputable def wT:T->Nat
 | .if_ _ a b=>1+wL a+wL b
 | .either a b=>1+wL a+wL b
 | .try_ a _ _ b=>1+wL a+wL b
 | _=>1
noncomputable def wL:List T->Nat
 | []=>0
 | t::r=>wT t+wL r
end
theorem yIL (t:T):1<=wT t:=by cases t<;>(simp only [wT];omega)
theorem yxf:∀ ts:List T,ts.length<=wL ts
 | []=>Nat.le_refl _
 | t::r=>by
  have:=yxf r
  have:=yIL t
  show r.length+1<=wT t+wL r
  omega
theorem yqa:∀ (a b:List T),wL (a++b)=wL a+wL b
 | [],b=>by simp [wL]
 | t::r,b=>by
  show wT t+wL (r++b)=wT t+wL r+wL b
  rw [yqa r b];omega
theorem yjK:∀ (a b:List T),ydu (a++b)=max (ydu a) (ydu b)
 | [],b=>by simp [ydu]
 | t::r,b=>by
  show max (ypk t) (ydu (r++b))=max (max (ypk t) (ydu r)) (ydu b)
  rw [yjK r b];omega
theorem ymb:∀ {a b:List T},okL a->okL b->okL (a++b)
 | [],_,_,k=>k
 | _::_,_,h,k=>⟨h.1,ymb h.2 k⟩
theorem yzM {t:T}:∀ {ts:List T},t∈ts->wT t<=wL ts/\ypk t<=ydu ts/\(okL ts->okT t)
 | u::r,hm=>by
  show wT t<=wT u+wL r/\ypk t<=max (ypk u) (ydu r)/\(okT u/\okL r->okT t)
  rcases List.mem_cons.mp hm with rfl|hm
  .exact ⟨by omega,by omega,fun k=>k.1⟩
  .obtain ⟨a,b,c⟩:=yzM hm
   exact ⟨by omega,by omega,fun k=>c k.2⟩
 | [],hm=>by simp at hm
theorem ylc {a b:List T}:ybK (a++b)=ybK a++ybK b:=by simp only [ylb,List.map_append]
theorem yle {a:List T}:(ybK a).length=a.length:=by rw [ylb,List.length_map]
theorem yKN {r:PV}{xs ys:List PV}:yeL [r,.lst xs,.lst ys] h=some (.ins 7 ["slot","parts","others"] [r,.lst xs,.lst ys],h):=by
 unfold yeL
 rw [yhM]
 show ob (yw _ _ [.own (.ins 7 [] []),.val r,.val (.lst xs),.val (.lst ys)] h) inK=_
 walk_at "px"
theorem yIM {nm r:PV}{xs ys:List PV}:yeg [.lst xs,nm,r,.lst ys] h=some (.ins 9 ["parts","name","slot","others"] [.lst xs,nm,r,.lst ys],h):=by
 unfold yeg
 rw [yhM]
 show ob (yw _ _ [.own (.ins 9 [] []),.val (.lst xs),.val nm,.val r,.val (.lst ys)] h) inK=_
 walk_at "px"
theorem yCh {r s:PV}:ydl [r,s] h=some (.ins 10 ["name","slot"] [r,s],h):=by
 unfold ydl
 rw [yhM]
 show ob (yw _ _ [.own (.ins 10 [] []),.val r,.val s] h) inK=_
 walk_at "px"
local macro_rules | `(tactic| walk_at "pm")=>`(tactic| simp_all? only [yIJ,yzL,yGd,yIK,yKN,yIM,yCh,ykY,yoo,ypZ,yop,ylT,yjc,ykh,ygu,yjS,ykZ,yjd,yih,ygL,yhR,yii,yfx,yki,ylU,ykj,yij,yje,yjI,ygv,ykk,yoq,ylV,yjf,ykl,yor,yjg,ylW,yos,ysY,ykm,ylX,ylY,yik,ykn,ylZ,yla,yjh,yko,yji,ygM,yil,yjj,ykp,yjk,yim,ykq,yhS,yjl,ykr,yma,yks,yin,if_true,if_false])
theorem yrl:∀ (n:Nat) (us:List T),ydu us+1<=n->wL us<=1000->okL us->ycP n [.lst (ybK us)] h=some (.lst (ybu us),h)
 | 0,us,hn,_,_=>by omega
 | n+1,us,hn,hw,hu=>by
  have G:=yrl n
  have wl:=yxf us
  unfold ycP
  rw [yC,ylb,ypW]
  show ob (yw _ _ [.val (.lst (us.map yot)),.no,.no] h) fnK=_
  walk_at "pm"
  rw [show xIL (yg 0) [PVar.val (.lst (us.map yot)),.own (.lst []),.no] h=some (us.map yot,h) from rfl,yv]
  refine yiY (fun i ρ h1=>h1=h/\∃ c,ρ=[.val (.lst (us.map yot)),.own (.lst ((us.take i).map yei)),c]) ⟨rfl,.no,rfl⟩ ?_ ?_
  .rintro i x ρ h1 hx ⟨rfl,c,rfl⟩
   rw [List.getElem?_map] at hx
   obtain ⟨u,hu1,rfl⟩:=Option.map_eq_some_iff.mp hx
   have hi:=(List.getElem?_eq_some_iff.mp hu1).1
   obtain ⟨k1,k2,k3⟩:=yzM (List.mem_of_getElem? hu1)
   replace k3:=k3 hu
   have ht:us.take (i+1)=us.take i++[u]:=by
    rw [List.take_add_one,hu1];rfl
   refine ⟨_,[.val (.lst (us.map yot)),.own (.lst ((us.take (i+1)).map yei)),.val (yot u)],h1,rfl,.inl ?_,rfl,_,rfl⟩
   have hb:((us.take i).map yei).length<100000:=by rw [List.length_map,List.length_take];omega
   rw [ht,List.map_append]
   cases u<;>simp only [yot,List.set_cons_succ,List.set_cons_zero]
   case if_ r a b =>
    have hd:1+max (ydu a) (ydu b)<=ydu us:=k2
    have hw':1+wL a+wL b<=wL us:=k1
    rw [ycC yor,ycC yjg,ycC ylW,ycC yos]
    walk_at "pm"
    rw [yiZ (xs:=(us.take i).map yei) rfl]
    walk_at "pm"
    rw [G a (by omega) (by omega) k3.2.1,yv,G b (by omega) (by omega) k3.2.2,yv]
    walk_at "pm"
    rw [if_pos hb]
    rfl
   case either=>exact k3.1.elim
   case try_ a nm r b =>
    have hd:1+max (ydu a) (ydu b)<=ydu us:=k2
    have hw':1+wL a+wL b<=wL us:=k1
    rw [ycC ylY,ycC yik,ycC ykn,ycC ylZ,ycC yla]
    walk_at "pm"
    rw [yiZ (xs:=(us.take i).map yei) rfl]
    walk_at "pm"
    rw [G a (by omega) (by omega) k3.2.2.1,yv,G b (by omega) (by omega) k3.2.2.2,yv]
    walk_at "pm"
    rw [if_pos hb]
    rfl
   case let_ =>
    (try walk_at "pm")
    rw [yiZ (xs:=(us.take i).map yei) rfl]
    walk_at "pm"
    rw [if_pos hb]
    rfl
   case reckon =>
    rw [ycC ygu]
    (try walk_at "pm")
    rw [yiZ (xs:=(us.take i).map yei) rfl]
    walk_at "pm"
    rw [if_pos hb]
    rfl
   case take =>
    rw [ycC yii,ycC yfx]
    (try walk_at "pm")
    rw [yiZ (xs:=(us.take i).map yei) rfl]
    walk_at "pm"
    rw [if_pos hb]
    rfl
   case put =>
    rw [ycC yjI,ycC ygv,ycC ykk]
    (try walk_at "pm")
    rw [yiZ (xs:=(us.take i).map yei) rfl]
    walk_at "pm"
    rw [if_pos hb]
    rfl
   case throw =>
    rw [ycC yji,ycC ygM,ycC yil,ycC yjj,ycC ykp,ycC yjk]
    (try walk_at "pm")
    rw [yiZ (xs:=(us.take i).map yei) rfl]
    walk_at "pm"
    rw [if_pos hb]
    rfl
   case wait =>
    rw [ycC ykq,ycC yhS,ycC yjl,ycC ykr,ycC yma,ycC yks,ycC yin]
    (try walk_at "pm")
    rw [yiZ (xs:=(us.take i).map yei) rfl]
    walk_at "pm"
    rw [if_pos hb]
    rfl
  .rintro ρ' h' ⟨rfl,c,rfl⟩
   rw [List.length_map,List.take_length]
   walk_at "pm"
end
section
variable {h:AH}
theorem yfd (a:Int) {b:Int}(h:0<b):0<=a%b/\a%b<b:=⟨Int.emod_nonneg a (by omega),Int.emod_lt_of_pos a h⟩
def yGp (c:Int):Int:=c*48271%999999999989
theorem yny (c:Int):ybG [.int c] h=some (.int (yGp c),h):=by
 unfold ybG
 rw [yC]
 show ob (ycB _ [.val (.int c)] h) fnK=_
 walk_at "px"
 rfl
def yuU (c:Int):Int:=c*982451653%18446744073709551616
theorem yuV (c:Int):ycO [.int c] h=some (.int (yuU c),h):=by
 unfold ycO
 rw [yC]
 show ob (ycB _ [.val (.int c)] h) fnK=_
 walk_at "px"
 rfl
theorem yzN (c:Int):N64 (yuU c):=yfd _ (by decide)
theorem yxg {α:Type}(xs:List α) (i n:Int) (hn:xs.length=n) (h0:0<=i) (h1:i<n):∃ x,atI xs i=some x/\x∈xs:=by
 obtain ⟨j,rfl⟩:∃ j:Nat,i=(j:Int):=⟨i.toNat,by omega⟩
 have hj:j<xs.length:=by omega
 exact ⟨xs[j],yev (List.getElem?_eq_getElem hj),List.getElem_mem hj⟩
theorem yxh (m:Int):∃ (L:Int) (z:Str),atI [PV.int 2,PV.int 3,PV.int 8] (m%3)=some (.int L)/\yJb (.str "abcdefgh") none (some L) h=some (.str z,h)/\(z.length:Int)=L/\0<L/\L<=8/\(z.cps.toList.length:Int)=L/\∀ n∈z.cps.toList,(⟨#[n]⟩:Str)∈SL:=by
 have b:m%3=0\/m%3=1\/m%3=2:=by omega
 rcases b with e|e|e
 .exact ⟨2,"ab",by rw [e];exact yHT,rfl,by rfl',by decide,by decide,by rfl',by rfl'⟩
 .exact ⟨3,"abc",by rw [e];exact yHU,rfl,by rfl',by decide,by decide,by rfl',by rfl'⟩
 .exact ⟨8,"abcdefgh",by rw [e];exact yKE,rfl,by rfl',by decide,by decide,by rfl',by rfl'⟩
theorem yDQ {c:XT}{s:XS}(I:Nat->PSt->AH->Prop) (E:PSt->AH->Prop)
  (step:∀ m ρ h,I m ρ h->(c ρ h=some (false,h)/\E ρ h)\/∃ ρ' m',c ρ h=some (true,h)/\s ρ h=some (.nx ρ',h)/\m'<m/\I m' ρ' h) :
  ∀ (fuel m:Nat) (ρ:PSt) (h:AH),m<fuel->I m ρ h->∃ ρ',whl c s fuel ρ h=some (.nx ρ',h)/\E ρ' h
 | 0,_,_,_,hm,_=>by omega
 | fuel+1,m,ρ,h,hm,hI=>by
  rw [yBB]
  rcases step m ρ h hI with ⟨e1,e2⟩|⟨ρ',m',e1,e2,e3,e4⟩
  .rw [e1,yv]
   exact ⟨ρ,rfl,e2⟩
  .obtain ⟨ρ2,q1,q2⟩:=yDQ I E step fuel m' ρ' h (by omega) e4
   rw [e1,yv,if_pos rfl,e2,yv]
   exact ⟨ρ2,q1,q2⟩
theorem yIN {c:XT}{s:XS}{β:Type}{P:Option β->Prop}{k:Out->AH->Option β}{ρ:PSt}{h:AH}{fuel:Nat}(I:Nat->PSt->AH->Prop) (E:PSt->AH->Prop) (m:Nat) (hm:m<fuel) (h0:I m ρ h)
  (step:∀ m ρ h,I m ρ h->(c ρ h=some (false,h)/\E ρ h)\/∃ ρ' m',c ρ h=some (true,h)/\s ρ h=some (.nx ρ',h)/\m'<m/\I m' ρ' h)
  (fin:∀ ρ',E ρ' h->P (k (.nx ρ') h)):P (ob (yss fuel c s ρ h) k):=by
 obtain ⟨ρ',e,q⟩:=yDQ I E step fuel m ρ h hm h0
 rw [show yss fuel c s ρ h=_ from e,yv]
 exact fin ρ' q
structure Pl (ts:List T) (w d:Nat):Prop where
 w:wL ts<=w
 d:ydu ts<=d
 ok:okL ts
theorem pl1 {t:T}(h1:wT t=1) (h2:ypk t=0) (h3:okT t):Pl [t] 4 0:=⟨by show wT t+0<=4;omega,by show max (ypk t) 0<=0;omega,h3,trivial⟩
theorem yCi (m c:Int):∃ ts,Pl ts 4 0/\yfT [.int m,.int c] h=some (.lst (ybK ts),h):=by
 unfold yfT
 rw [yC]
 show ∃ ts,Pl ts 4 0/\ob (yw _ _ [.val (.int m),.val (.int c),.no,.no,.no,.no,.no,.no,.no,.no,.no] h) fnK=_
 obtain ⟨L,z,e1,e2,e3,e4,e5,e6,e7⟩:=yxh (h:=h) m
 have ix:∀ k:Int,∃ n,atI z.cps.toList (k%L)=some n/\okS ⟨#[n]⟩:=fun k=>by
  obtain ⟨x,hx,hm⟩:=yxg z.cps.toList (k%L) L e6 (yfd k e4).1 (yfd k e4).2
  exact ⟨x,hx,e7 x hm⟩
 have hz:z.length<=100000:=by omega
 have hL:0<L/\L<1073741824:=by omega
 obtain ⟨n1,i1,o1⟩:=ix (m/33)
 obtain ⟨n2,i2,o2⟩:=ix (m/33/L)
 obtain ⟨n3,i3,o3⟩:=ix (m/33/L/L)
 have m5:=yfd (m/33/1000) (show (0:Int)<5 by decide)
 have m3:=yfd (m/33/1000) (show (0:Int)<3 by decide)
 obtain ⟨x5,a5,j5⟩:=yxg (WDS.map PV.str) (m/33/1000%5) 5 rfl m5.1 m5.2
 obtain ⟨w5',hw5,rfl⟩:=List.mem_map.mp j5
 obtain ⟨x3,a3,j3⟩:=yxg ((["plus","minus","times"]:List Str).map PV.str) (m/33/1000%3) 3 rfl m3.1 m3.2
 obtain ⟨w3',hw3,rfl⟩:=List.mem_map.mp j3
 have hw3:okW w3':=by
  simp only [List.mem_cons,List.not_mem_nil,or_false] at hw3
  rcases hw3 with rfl|rfl|rfl<;>simp [okW,WDS]
 have a5:atI [PV.str "plus",PV.str "minus",PV.str "times",PV.str "less",PV.str "same"] (m/33/1000%5)=some (.str w5'):=a5
 have a3:atI [PV.str "plus",PV.str "minus",PV.str "times"] (m/33/1000%3)=some (.str w3'):=a3
 have sm4:N64 (m/33/1000%4):=by have:=yfd (m/33/1000) (show (0:Int)<4 by decide);exact ⟨this.1,by omega⟩
 have sm3:N64 (m/33/3000%3):=by have:=yfd (m/33/3000) (show (0:Int)<3 by decide);exact ⟨this.1,by omega⟩
 (try walk_at "px")
 rw [e1]
 (try walk_at "px")
 rw [e2]
 (try walk_at "px")
 rw [if_pos hz]
 (try walk_at "px")
 rw [e3]
 (try simp only [e4,hL,and_self,if_true])
 rw [i1,i2,i3]
 simp only [Option.bind_some,hz,if_true,yv,yuV,a5,a3]
 (try walk_at "px")
 simp only [sgn]
 generalize (⟨#[n1]⟩:Str)=s1 at *
 generalize (⟨#[n2]⟩:Str)=s2 at *
 generalize (⟨#[n3]⟩:Str)=s3 at *
 split
 .exact ⟨[.let_ s1 (yuU c)],pl1 rfl rfl ⟨o1,yzN c⟩,rfl⟩
 split
 .exact ⟨[.let_ s1 _],pl1 rfl rfl ⟨o1,sm4⟩,rfl⟩
 split
 .exact ⟨[.reckon w5' s1 s2 s3],pl1 rfl rfl ⟨hw5,o1,o2,o3⟩,rfl⟩
 split
 .exact ⟨[.take s1 s2],pl1 rfl rfl ⟨o1,o2⟩,rfl⟩
 split
 .exact ⟨[.put s1 s2],pl1 rfl rfl ⟨o1,o2⟩,rfl⟩
 .exact ⟨[.let_ s1 _,.take s2 s1,.reckon w3' s2 s2 s3,.put s1 s2],⟨by show 1+(1+(1+(1+0)))<=4;omega,by show max 0 (max 0 (max 0 (max 0 0)))<=0;omega,⟨o1,sm3⟩,⟨o2,o1⟩,⟨hw3,o2,o2,o3⟩,⟨o1,o2⟩,trivial⟩,rfl⟩
theorem yCj (c:Int):∃ bx:List Int,1<=bx.length/\bx.length<=16/\(∀ v∈bx,N64 v)/\yfV [.int c] h=some (.lst (bx.map .int),h):=by
 unfold yfV
 rw [yC]
 show ∃ bx:List Int,1<=bx.length/\bx.length<=16/\(∀ v∈bx,N64 v)/\ob (yw _ _ [.val (.int c),.no,.no,.no,.no,.no] h) fnK=_
 walk_at "px"
 rw [yny]
 walk_at "px"
 generalize yGp c=m
 have b16:=yfd (m/4) (show (0:Int)<16 by decide)
 obtain ⟨n,en,n1,n16⟩:∃ n:Nat,atI [PV.int 1,.int 2,.int 3,.int (1+m/4%16)] (m%4)=some (.int n)/\1<=n/\n<=16:=by
  have b4:m%4=0\/m%4=1\/m%4=2\/m%4=3:=by omega
  rcases b4 with e|e|e|e<;>rw [e]
  .exact ⟨1,yHT,by omega,by omega⟩
  .exact ⟨2,yHU,by omega,by omega⟩
  .exact ⟨3,yKE,by omega,by omega⟩
  .exact ⟨(1+m/4%16).toNat,by rw [yLu];congr 2;omega,by omega,by omega⟩
 rw [en,Option.bind_some,yv]
 rw [ymv (j:=(n:Int)) (h1:=h) (by walk_at "px") (by omega) (by omega),yv]
 refine yqx (P:=fun (q:Option (PV×AH))=>∃ bx:List Int,1<=bx.length/\bx.length<=16/\(∀ v∈bx,N64 v)/\q=some (.lst (bx.map .int),h)) (fun i ρ h1=>h1=h/\∃ bx:List Int,bx.length=i/\(∀ v∈bx,N64 v)/\∃ c4 c5:PVar,ρ=[.val (.int c),.val (.int m),.val (.int n),.own (.lst (bx.map .int)),c4,c5]) (fun _ _=>False) ⟨rfl,[],rfl,by simp,.no,.no,rfl⟩ ?_ ?_ (fun _ _ z=>z.elim)
 .rintro i x ρ h1 hx ⟨rfl,bx,hb,hN,c4,c5,rfl⟩
  obtain ⟨hi,rfl⟩:=ykc hx
  rw [Int.zero_add]
  have hi:i<n:=by simpa using hi
  have m5:=yfd (m/64/((i:Int)+1)) (show (0:Int)<5 by decide)
  obtain ⟨v,ev,hv⟩:∃ v:Int,atI [PV.int (m/64/((i:Int)+1)%5),.int (yuU (c+(i:Int)*i))] ((m/1000+i)%2)=some (.int v)/\N64 v:=by
   have b2:(m/1000+i)%2=0\/(m/1000+i)%2=1:=by omega
   rcases b2 with e|e<;>rw [e]
   .exact ⟨_,yHT,m5.1,by omega⟩
   .exact ⟨_,yHU,yzN _⟩
  refine ⟨_,.nx [.val (.int c),.val (.int m),.val (.int n),.own (.lst ((bx++[v]).map .int)),.val (.int i),.val (.lst [.int (m/64/((i:Int)+1)%5),.int (yuU (c+(i:Int)*i))])],h1,rfl,?_,rfl,bx++[v],by simp [hb],fun u hu=>?_,_,_,rfl⟩
  .walk_at "px"
   rw [if_pos (by omega),if_pos (show MulOk i i from .inl ⟨by omega,by omega⟩),yuV,yv,yiZ (xs:=bx.map .int) rfl]
   walk_at "px"
   rw [ev,Option.bind_some,yv,if_pos (by rw [List.length_map];omega),List.map_append]
   rfl
  .rcases List.mem_append.mp hu with hu|hu
   .exact hN u hu
   .rw [List.mem_singleton.mp hu];exact hv
 .rintro ρ' h' ⟨rfl,bx,hb,hN,c4,c5,rfl⟩
  walk_at "px"
  have hb:bx.length=n:=by rw [hb];simp [ywH]
  exact ⟨bx,by omega,by omega,hN,rfl⟩
theorem yCk (c:Int):∃ hs:List Int,hs.length=8/\(∀ v∈hs,N64 v)/\yfW [.int c] h=some (.loc h.length,h++[.lst (hs.map .int)]):=by
 unfold yfW
 rw [yC]
 show ∃ hs:List Int,hs.length=8/\(∀ v∈hs,N64 v)/\ob (yw _ _ [.val (.int c),.no,.no] h) fnK=_
 walk_at "px"
 rw [yny]
 walk_at "px"
 generalize yGp c=m
 rw [ymv (j:=8) (h1:=h) (by walk_at "px") (by omega) (by omega),yv]
 have e8:ywH 0 (8:Int).toNat=([0,1,2,3,4,5,6,7]:List Int).map .int:=rfl
 rw [e8,if_pos (by decide),yuv (fun k:Int=>PV.int k) (fun k:Int=>.int (m/(k*k+3)%4)) fun k hk=>?_]
 .have m8:=yfd m (show (0:Int)<8 by decide)
  obtain ⟨i,hi⟩:=Int.eq_ofNat_of_zero_le m8.1
  have hN:∀ v∈([0,1,2,3,4,5,6,7]:List Int).map (fun k=>m/(k*k+3)%4),N64 v:=fun v hv=>by
   obtain ⟨k,_,rfl⟩:=List.mem_map.mp hv
   have:=yfd (m/(k*k+3)) (show (0:Int)<4 by decide)
   exact ⟨this.1,by omega⟩
  refine ⟨(([0,1,2,3,4,5,6,7]:List Int).map (fun k=>m/(k*k+3)%4)).set i (yuU c),by simp,yzv hN (yzN c),?_⟩
  rw [show ([0,1,2,3,4,5,6,7]:List Int).map (fun k:Int=>PV.int (m/(k*k+3)%4))=(([0,1,2,3,4,5,6,7]:List Int).map (fun k=>m/(k*k+3)%4)).map .int by rw [List.map_map];rfl]
  generalize hl:([0,1,2,3,4,5,6,7]:List Int).map (fun k=>m/(k*k+3)%4)=hs0
  have h8:hs0.length=8:=by rw [<- hl];rfl
  walk_at "px"
  rw [yjJ (n:=h.length) (xs:=hs0) (i:=i) (v:=yuU c) (by
   walk_at "px"
   rw [yuV]) rfl (by
   walk_at "px"
   rw [hi]) (by simp) (by omega),yv,ywM]
  walk_at "px"
  simp
 .show xOp _ _ _ [.val (.int k),.val (.int m)] h=_
  simp only [List.mem_cons,List.not_mem_nil,or_false] at hk
  rcases hk with rfl|rfl|rfl|rfl|rfl|rfl|rfl|rfl<;>(walk_at "px";rfl)
theorem ywh (k:Int):∃ n,atI ("abc":Str).cps.toList (k%3)=some n/\okS ⟨#[n]⟩:=by
 obtain ⟨x,hx,hm⟩:=yxg ("abc":Str).cps.toList (k%3) 3 (by rfl') (yfd k (by decide)).1 (yfd k (by decide)).2
 exact ⟨x,hx,(show ∀ n∈("abc":Str).cps.toList,(⟨#[n]⟩:Str)∈SL by rfl') x hm⟩
theorem yJh:("abc":Str).length=3:=by rfl'
theorem yrm (cs:List Int) (lo hi:Option Int):yns (cs.map PV.int) lo hi=(yns cs lo hi).map .int:=by
 unfold yns
 rw [List.length_map,List.map_take,List.map_drop]
theorem yuW (cs:List Int) (i j:Nat) (hij:i<=j):(yns cs (some (i:Int)) (some (j:Int))).length=min j cs.length-min i cs.length:=by
 unfold yns
 rw [HT.sIx_nat,HT.sIx_nat,List.length_take,List.length_drop]
 omega
theorem yGe {s:Str}{u:T}(hs:okS s) (h1:wT u=1) (h2:ypk u=0) (h3:okT u):(wL [u]<=2/\ydu [u]<=1/\okL [u])/\wL [.if_ s [u] []]<=2/\ydu [.if_ s [u] []]<=1/\okL [.if_ s [u] []] :=
 ⟨⟨by show wT u+0<=2;omega,by show max (ypk u) 0<=1;omega,h3,trivial⟩,by show 1+(wT u+0)+0+0<=2;omega,by show max (1+max (max (ypk u) 0) 0) 0<=1;omega,⟨hs,⟨h3,trivial⟩,trivial⟩,trivial⟩
end
section
variable {h:AH}
theorem ynz (a b d:Str) (k:Int):∃ s:Str,atI [PV.str a,PV.str b,PV.str d] (k%3)=some (.str s):=by
 obtain ⟨x,hx,hm⟩:=yxg [PV.str a,PV.str b,PV.str d] (k%3) 3 rfl (yfd k (by decide)).1 (yfd k (by decide)).2
 simp only [List.mem_cons,List.not_mem_nil,or_false] at hm
 rcases hm with rfl|rfl|rfl<;>exact ⟨_,hx⟩
theorem yCl (m:Int) (one other:List T) (a b d:Str) (ho:wL one<=1000) (hr:wL other<=1000) (io:okL one) (ir:okL other):∃ t,wT t<=4+wL one+wL other/\ypk t<=1+max (max (ydu one) 1) (ydu other)/\okT t /\
  yfU [.int m,.lst (ybK one),.lst (ybK other),.lst [.str a,.str b,.str d]] h=some (yot t,h):=by
 unfold yfU
 rw [yC]
 show ∃ t,_/\_/\_/\ob (yw _ _ [.val (.int m),.val (.lst (ybK one)),.val (.lst (ybK other)),.val (.lst [.str a,.str b,.str d]),.no,.no,.no] h) fnK=_
 obtain ⟨n1,i1,o1⟩:=ywh (m/9)
 obtain ⟨n2,i2,o2⟩:=ywh (m/243)
 obtain ⟨n5,i5,o5⟩:=ywh (m/12000)
 obtain ⟨s3,i3⟩:=ynz a b d (m/27)
 obtain ⟨s4,i4⟩:=ynz a b d (m/81)
 obtain ⟨s6,i6⟩:=ynz a b d (m/4000)
 have l1:=yxf one
 have l2:=yxf other
 have q1:(ybK one).length<=99999:=by rw [yle];omega
 have q2:(ybK other).length<=99999:=by rw [yle];omega
 by_cases e:m%4=0
 .simp_all? only [i1,e,yJh,sgn,Option.bind_some,↓reduceIte]
  exact ⟨.if_ ⟨#[n1]⟩ one other,by show 1+wL one+wL other<=_;omega,by show 1+max (ydu one) (ydu other)<=_;omega,⟨o1,io,ir⟩,rfl⟩
 .have fin:∀ b1 b2:List T,wL b1<=2/\ydu b1<=1/\okL b1->wL b2<=1/\ydu b2=0/\okL b2->∃ t,wT t<=4+wL one+wL other/\ypk t<=1+max (max (ydu one) 1) (ydu other)/\okT t/\yot t=.tup [.str "try",.lst (ybK one++ybK b1),.str s4,.str ⟨#[n2]⟩,.lst (ybK other++ybK b2)]:=by
   rintro b1 b2 ⟨w1,d1,k1⟩ ⟨w2,d2,k2⟩
   refine ⟨.try_ (one++b1) s4 ⟨#[n2]⟩ (other++b2),?_,?_,⟨trivial,o2,ymb io k1,ymb ir k2⟩,by simp only [yot,ylc]⟩
   .show 1+wL (one++b1)+wL (other++b2)<=_
    rw [yqa,yqa];omega
   .show 1+max (ydu (one++b1)) (ydu (other++b2))<=_
    rw [yjK,yjK];omega
  have nil:wL []<=2/\ydu []<=1/\okL []:=⟨by decide,by decide,trivial⟩
  have nil2:wL []<=1/\ydu []=0/\okL []:=⟨by decide,by decide,trivial⟩
  obtain ⟨u,v⟩:=yGe (u:=.throw s3 ⟨#[n1]⟩) o1 rfl rfl ⟨trivial,o1⟩
  have z:wL [.throw s6 ⟨#[n5]⟩]<=1/\ydu [.throw s6 ⟨#[n5]⟩]=0/\okL [.throw s6 ⟨#[n5]⟩]:=⟨by show 1+0<=1;omega,rfl,⟨trivial,o5⟩,trivial⟩
  have c3:m/4%3=0\/m/4%3=1\/m/4%3=2:=by omega
  by_cases g:m/800%5=1
  .rcases c3 with f|f|f<;>simp_all? only [i1,i2,i3,i4,i5,i6,e,f,g,q1,q2,yJh,sgn,Option.bind_some,Int.reduceEq,if_true,if_false,↓reduceIte]
   .obtain ⟨t,t1,t2,t3,t4⟩:=fin _ _ nil z
    exact ⟨t,t1,t2,t3,by rw [t4];simp only [ybK,List.append_nil];rfl⟩
   .obtain ⟨t,t1,t2,t3,t4⟩:=fin _ _ u z
    exact ⟨t,t1,t2,t3,by rw [t4];rfl⟩
   .obtain ⟨t,t1,t2,t3,t4⟩:=fin _ _ v z
    exact ⟨t,t1,t2,t3,by rw [t4];rfl⟩
  .rcases c3 with f|f|f<;>simp_all? only [i1,i2,i3,i4,e,f,g,q1,yJh,sgn,Option.bind_some,Int.reduceEq,if_true,if_false,↓reduceIte]
   .obtain ⟨t,t1,t2,t3,t4⟩:=fin _ _ nil nil2
    exact ⟨t,t1,t2,t3,by rw [t4];simp only [ybK,List.append_nil]⟩
   .obtain ⟨t,t1,t2,t3,t4⟩:=fin _ _ u nil2
    exact ⟨t,t1,t2,t3,by rw [t4];simp only [ybK,List.append_nil];rfl⟩
   .obtain ⟨t,t1,t2,t3,t4⟩:=fin _ _ v nil2
    exact ⟨t,t1,t2,t3,by rw [t4];simp only [ybK,List.append_nil];rfl⟩
theorem yDR {e:XE}{c0 c1 c2:PVar}{xs:List PV}{ρ:PSt}:yiR 3 e (c0::c1::c2::.own (.lst xs)::ρ) h=ob (e (c0::c1::c2::.own (.lst xs)::ρ) h) fun x h1=>if xs.length<100000 then some (.nx (c0::c1::c2::.own (.lst (xs++[x]))::ρ),h1) else none:=by rw [yiZ rfl];rfl
theorem yLN {k n w p:Nat}(h1:w<=4*min k n) (h2:p<=4) (h3:k<n):w+p<=4*min (k+1) n:=by omega
theorem yMg {k n u v w p a b l1 l2:Nat}(h1:w<=4*min k n) (h3:k<n) (e1:l1=min (k+1+u) n-min (k+1) n) (e2:l2=min (k+1+u+v) n-min (k+1+u) n) (ha:a<=4*l1) (hb:b<=4*l2) (hp:p<=4+a+b):w+(p+0)<=4*min (k+1+u+v) n:=by
 subst e1 e2
 have:min (k+1) n=k+1:=by omega
 have:min k n=k:=by omega
 omega
theorem yMh {k n u v:Nat}(hn:n<=12):min (k+1+u) n-min (k+1) n<=12/\min (k+1+u+v) n-min (k+1+u) n<=12:=by omega
theorem yMi {d e f g m:Nat}(h1:d<=m+2) (h2:e<=m+1) (h3:f<=m+1) (h4:g<=1+max (max e 1) f):max d (max g 0)<=m+2:=by omega
theorem yMj {k n m u v:Nat}(hm:m=n-k) (hk:k<n):n-(k+1+u+v)<m:=by omega
theorem yLO {k n m:Nat}(hm:m=n-k) (hk:k<n):n-(k+1)<m:=by omega
theorem yzO (a b c:Str):∀ (n d:Nat) (h:AH) (cells:List Int),d+1<=n->cells.length<=12->∃ ts,Pl ts (4*cells.length) (d+1)/\ydA n [.lst (cells.map .int),.int (d:Int),.lst [.str a,.str b,.str c]] h=some (.lst (ybK ts),h)
 | 0,_,_,_,hn,_=>by omega
 | n+1,d,h,cells,hn,hl=>by
  have G:=yzO a b c n
  unfold ydA
  rw [yC]
  show ∃ ts,Pl ts (4*cells.length) (d+1)/\ob (yw _ _ [.val (.lst (cells.map .int)),.val (.int (d:Int)),.val (.lst [.str a,.str b,.str c]),.no,.no,.no,.no,.no,.no,.no,.no,.no] h) fnK=_
  walk_at "px"
  refine yIN (fuel:=1000) (P:=fun (q:Option (PV×AH))=>∃ ts,Pl ts (4*cells.length) (d+1)/\q=some (.lst (ybK ts),h)) (fun m ρ h1=>h1=h/\∃ (k:Nat) (ts:List T) (c5 c6 c7 c8 c9 c10 c11:PVar),m=cells.length-k/\wL ts<=4*min k cells.length/\ydu ts<=d+1/\okL ts/\ρ=[.val (.lst (cells.map .int)),.val (.int (d:Int)),.val (.lst [.str a,.str b,.str c]),.own (.lst (ybK ts)),.val (.int (k:Int)),c5,c6,c7,c8,c9,c10,c11]) (fun ρ h1=>∃ (k:Nat) (ts:List T) (c5 c6 c7 c8 c9 c10 c11:PVar),wL ts<=4*cells.length/\ydu ts<=d+1/\okL ts/\ρ=[.val (.lst (cells.map .int)),.val (.int (d:Int)),.val (.lst [.str a,.str b,.str c]),.own (.lst (ybK ts)),.val (.int (k:Int)),c5,c6,c7,c8,c9,c10,c11]) cells.length (by omega) ⟨rfl,0,[],.no,.no,.no,.no,.no,.no,.no,rfl,by show 0<=_;omega,by show 0<=_;omega,trivial,rfl⟩ ?_ ?_
  .rintro m ρ h1 ⟨rfl,k,ts,c5,c6,c7,c8,c9,c10,c11,hm,q1,q2,q3,rfl⟩
   by_cases hk:k<cells.length
   .right
    obtain ⟨cell,hcell⟩:∃ cell,cells[k]?=some cell:=⟨_,List.getElem?_eq_getElem hk⟩
    have r0:atI (cells.map PV.int) (k:Int)=some (.int cell):=yev (by rw [List.getElem?_map,hcell];rfl)
    have wc:=yxf ts
    have hlen:(ybK ts).length<50000:=by rw [yle];omega
    have hc:decide ((k:Int)<((cells.map PV.int).length:Int))=true:=by rw [List.length_map,decide_eq_true (by omega)]
    generalize hx:yGp cell=x
    have e0:ybG [.int cell] h1=some (.int x,h1):=by rw [yny,hx]
    by_cases b1:d=0\/x%11<6
    .obtain ⟨ps,pp,ep⟩:=yCi (h:=h1) (x/11) cell
     have hpl:=yxf ps
     have hpw:=pp.w
     have hpd:=pp.d
     refine ⟨[.val (.lst (cells.map .int)),.val (.int (d:Int)),.val (.lst [.str a,.str b,.str c]),.own (.lst (ybK (ts++ps))),.val (.int ((k+1:Nat):Int)),.val (.int cell),.val (.int x),c7,c8,c9,c10,c11],cells.length-(k+1),?_,?_,yLO hm hk,rfl,k+1,ts++ps,_,_,_,_,_,_,_,rfl,?_,?_,ymb q3 pp.ok,rfl⟩
     .walk_at "px"
      rw [hc]
     .have hle:(ybK ts).length+(ybK ps).length<=100000:=by rw [yle (a:=ps)];omega
      rw [ylc]
      by_cases hd0:(d:Int)=0
      .simp_all? only [r0,e0,ep,hd0,hle,if_true,↓reduceIte]
       rfl
      .have b1':x%11<6:=by rcases b1 with b1|b1;exact absurd (by omega) hd0;exact b1
       simp_all? only [r0,e0,ep,hd0,b1',hle,if_true,if_false,decide_false,decide_true,↓reduceIte]
       rfl
     .rw [yqa];exact yLN q1 hpw hk
     .rw [yjK];omega
    .have hd0:¬ (d:Int)=0:=fun z=>b1 (.inl (by omega))
     have hb6:¬ x%11<6:=fun z=>b1 (.inr z)
     by_cases b2:x%33=6
     .obtain ⟨s1,i1⟩:=ynz a b c (x/33)
      obtain ⟨n2,i2,o2⟩:=ywh (x/99)
      obtain ⟨t,ht,ht1,ht2,ht3⟩:∃ t:T,atI [PV.tup [PV.str "throw",PV.str s1,sgn n2],PV.tup [PV.str "wait"]] (x/297%5/4)=some (yot t)/\wT t=1/\ypk t=0/\okT t:=by
       have:x/297%5/4=0\/x/297%5/4=1:=by omega
       rcases this with e|e
       .exact ⟨.throw s1 ⟨#[n2]⟩,by rw [e];exact yHT,rfl,rfl,⟨trivial,o2⟩⟩
       .exact ⟨.wait,by rw [e];exact yHU,rfl,rfl,trivial⟩
      refine ⟨[.val (.lst (cells.map .int)),.val (.int (d:Int)),.val (.lst [.str a,.str b,.str c]),.own (.lst (ybK (ts++[t]))),.val (.int ((k+1:Nat):Int)),.val (.int cell),.val (.int x),.val (.lst [.tup [.str "throw",.str s1,sgn n2],.tup [.str "wait"]]),c8,c9,c10,c11],cells.length-(k+1),?_,?_,yLO hm hk,rfl,k+1,ts++[t],_,_,_,_,_,_,_,rfl,?_,?_,ymb q3 ⟨ht3,trivial⟩,rfl⟩
      .walk_at "px"
       rw [hc]
      .have hlen':(ybK ts).length<100000:=by omega
       rw [ylc]
       simp_all? only [yDR,r0,e0,hd0,hb6,b2,i1,i2,ht,yJh,hlen',Option.bind_some,if_true,if_false,decide_false,decide_true,↓reduceIte]
       rfl
      .rw [yqa]
       exact yLN q1 (by show wT t+0<=4;omega) hk
      .rw [yjK]
       show max (ydu ts) (max (ypk t) 0)<=_
       omega
     .obtain ⟨d',rfl⟩:∃ d',d=d'+1:=⟨d-1,by omega⟩
      obtain ⟨u,hu⟩:∃ u:Nat,x/33%4=(u:Int):=⟨(x/33%4).toNat,by omega⟩
      obtain ⟨v,hv⟩:∃ v:Nat,x/132%3=(v:Int):=⟨(x/132%3).toNat,by omega⟩
      have l1:=yuW cells (k+1) (k+1+u) (by omega)
      have l2:=yuW cells (k+1+u) (k+1+u+v) (by omega)
      have g3:=yMh (k:=k) (u:=u) (v:=v) hl
      rw [<- l1,<- l2] at g3
      have hn':d'+1<=n:=Nat.le_of_succ_le_succ hn
      obtain ⟨one,p1,g1⟩:=G d' h1 (yns cells (some ((k+1:Nat):Int)) (some ((k+1+u:Nat):Int))) hn' g3.1
      obtain ⟨oth,p2,g2⟩:=G d' h1 (yns cells (some ((k+1+u:Nat):Int)) (some ((k+1+u+v:Nat):Int))) hn' g3.2
      have w1:=p1.w
      have w2:=p2.w
      obtain ⟨t,t1,t2,t3,t4⟩:=yCl (h:=h1) (x/396) one oth a b c (Nat.le_trans w1 (Nat.le_trans (Nat.mul_le_mul_left 4 g3.1) (by decide))) (Nat.le_trans w2 (Nat.le_trans (Nat.mul_le_mul_left 4 g3.2) (by decide))) p1.ok p2.ok
      have dd1:=p1.d
      have dd2:=p2.d
      refine ⟨[.val (.lst (cells.map .int)),.val (.int ((d'+1:Nat):Int)),.val (.lst [.str a,.str b,.str c]),.own (.lst (ybK (ts++[t]))),.val (.int ((k+1+u+v:Nat):Int)),.val (.int cell),.val (.int x),c7,.val (.int (u:Int)),.val (.int (v:Int)),.val (.lst (ybK one)),.val (.lst (ybK oth))],cells.length-(k+1+u+v),?_,?_,yMj hm hk,rfl,k+1+u+v,ts++[t],_,_,_,_,_,_,_,rfl,?_,?_,ymb q3 ⟨t3,trivial⟩,rfl⟩
      .walk_at "px"
       rw [hc]
      .have hlen':(ybK ts).length<100000:=by omega
       have z1:((d'+1:Nat):Int)-1=(d':Int):=by omega
       have z2:((k+1+u:Nat):Int)+(v:Int)=((k+1+u+v:Nat):Int):=by omega
       have z3:((k+1:Nat):Int)+(u:Int)=((k+1+u:Nat):Int):=by omega
       have z4:(k:Int)+1=((k+1:Nat):Int):=by omega
       rw [ylc]
       simp_all? only [yDR,r0,e0,hd0,hb6,b2,hu,hv,z1,z4,z3,z2,yrm,g1,g2,t4,hlen',Option.bind_some,if_true,if_false,decide_false,decide_true,↓reduceIte]
       rfl
      .rw [yqa]
       exact yMg q1 hk l1 l2 w1 w2 t1
      .rw [yjK]
       exact yMi q2 dd1 dd2 t2
   .left
    refine ⟨?_,k,ts,c5,c6,c7,c8,c9,c10,c11,by omega,q2,q3,rfl⟩
    walk_at "px"
    rw [List.length_map,decide_eq_false (by omega)]
  .rintro ρ' ⟨k,ts,c5,c6,c7,c8,c9,c10,c11,q1,q2,q3,rfl⟩
   refine ⟨ts,⟨q1,q2,q3⟩,?_⟩
   walk_at "px"
end
theorem yuX {g:XG}{x:PV}{ρ ρ1:PSt}{s:XS}{h:AH}{M:Out->AH->Prop}(e:g x ρ=some ρ1) (q:∃ r,s ρ1 h=some r/\M r.1 r.2):∃ ρ1 o h',g x ρ=some ρ1/\s ρ1 h=some (o,h')/\M o h' :=
 let ⟨r,q1,q2⟩:=q;⟨ρ1,r.1,r.2,e,q1,q2⟩
section
variable {h:AH}
theorem yzP (a b:Str):(a++b).length=a.length+b.length:=by
 show (a.cps++b.cps).size=_
 simp [Str.length]
theorem yKO (k:Int):∃ n,atI ("abcdefghijklmnopqrstuvwxyz":Str).cps.toList (k%26)=some n:=by
 obtain ⟨x,hx,_⟩:=yxg ("abcdefghijklmnopqrstuvwxyz":Str).cps.toList (k%26) 26 (by rfl') (yfd k (by decide)).1 (yfd k (by decide)).2
 exact ⟨x,hx⟩
theorem yGf {g:XG}{s:XS}{xs:List PV}(I:Nat->PSt->AH->Prop) {ρ:PSt}{h:AH}{f:Out->AH->Option (Out×AH)}{M:Out×AH->Prop}(h0:I 0 ρ h)
  (step:∀ (i:Nat) (x:PV) (ρ:PSt) (h:AH),xs[i]?=some x->I i ρ h->∃ ρ1 o h',g x ρ=some ρ1/\s ρ1 h=some (o,h')/\(match o with|.nx ρ'=>I (i+1) ρ' h'|.ct ρ'=>I (i+1) ρ' h'|.bk _=>False|.rt _=>False))
  (fin:∀ ρ' h',I xs.length ρ' h'->∃ r,f (.nx ρ') h'=some r/\M r):∃ r,ob (ynO g s xs ρ h) f=some r/\M r :=
 yqx (P:=fun q=>∃ r,q=some r/\M r) I (fun _ _=>False) h0 step fin (fun _ _ z=>z.elim)
theorem yCm (c:Int):∃ a b d:Str,yfS [.int c] h=some (.lst [.str a,.str b,.str d],h):=by
 unfold yfS
 rw [yC]
 show ∃ a b d:Str,ob (yw _ _ [.val (.int c),.no,.no,.no,.no,.no,.no,.no,.no,.no] h) fnK=_
 have b:=yfd (yGp c) (show (0:Int)<8 by decide)
 walk_at "px"
 simp only [yny]
 walk_at "px"
 generalize hm:yGp c=m at *
 rw [if_pos (by omega)]
 generalize hz:1+m%8=sz at *
 rw [ymv (j:=3) (h1:=h) (by walk_at "px") (by omega) (by omega),yv]
 refine yqx (P:=fun (q:Option (PV×AH))=>∃ a b d:Str,q=some (.lst [.str a,.str b,.str d],h)) (fun i ρ h1=>h1=h/\∃ zs:List Str,zs.length=i/\∃ c6 c7 c8 c9:PVar,ρ=[.val (.int c),.val (.str "abcdefghijklmnopqrstuvwxyz"),.val (.int m),.val (.int sz),.val (.int (m/8%sz)),.own (.lst (zs.map .str)),c6,c7,c8,c9]) (fun _ _=>False) ⟨rfl,[],rfl,.no,.no,.no,.no,rfl⟩ ?_ ?_ (fun _ _ q=>q.elim)
 .rintro t x ρ h1 hx ⟨rfl,zs,hzs,c6,c7,c8,c9,rfl⟩
  obtain ⟨ht,rfl⟩:=ykc hx
  have ht:t<3:=by simpa using ht
  rw [Int.zero_add]
  refine yuX rfl ?_
  walk_at "px"
  rw [ymv (j:=sz) (h1:=h1) (by walk_at "px") (by omega) (by omega),yv]
  refine yGf (fun i ρ h2=>h2=h1/\∃ z:Str,z.length<=i/\∃ d8 d9:PVar,ρ=[.val (.int c),.val (.str "abcdefghijklmnopqrstuvwxyz"),.val (.int m),.val (.int sz),.val (.int (m/8%sz)),.own (.lst (zs.map .str)),.val (.int t),.val (.str z),d8,d9]) ⟨rfl,"",by rfl',c8,c9,rfl⟩ ?_ ?_
  .rintro i x ρ h2 hx ⟨rfl,z,hz2,d8,d9,rfl⟩
   obtain ⟨hi,rfl⟩:=ykc hx
   rw [Int.zero_add]
   have hmu:MulOk (i:Int) (i:Int):=.inl ⟨by omega,by omega⟩
   have hp:0<(i:Int)*i+1:=by have:=Int.mul_nonneg (show (0:Int)<=i by omega) (show (0:Int)<=i by omega);omega
   have hq:(i:Int)*i<=7*7:=Int.mul_le_mul (by omega) (by omega) (by omega) (by omega)
   refine yuX rfl ?_
   walk_at "px"
   rw [if_pos hmu,if_pos ⟨hp,by omega⟩]
   have go:∀ k:Int,∃ n,atI ("abcdefghijklmnopqrstuvwxyz":Str).cps.toList (k%26)=some n/\(z++(⟨#[n]⟩:Str)).length<=i+1:=fun k=>by
    obtain ⟨n,hn⟩:=yKO k
    exact ⟨n,hn,by rw [yzP];show z.length+1<=i+1;omega⟩
   split
   all_goals
    obtain ⟨n,hn,hl⟩:=go _
    rw [hn,Option.bind_some]
    simp only [yv,yCU,sgn]
    rw [if_pos (by rw [yzP] at hl;show z.length+1<=100000;omega)]
    exact ⟨_,rfl,rfl,_,hl,_,_,rfl⟩
  .rintro ρ' h' ⟨rfl,z,hz2,d8,d9,rfl⟩
   walk_at "px"
   rw [yiZ (xs:=zs.map .str) rfl]
   walk_at "px"
   rw [if_pos (by rw [List.length_map];omega)]
   exact ⟨_,rfl,rfl,zs++[z],by simp [hzs],_,_,_,_,by rw [List.map_append];rfl⟩
 .rintro ρ' h' ⟨rfl,zs,hzs,c6,c7,c8,c9,rfl⟩
  walk_at "px"
  match zs,hzs with
  | [a,b,d],_=>exact ⟨a,b,d,rfl⟩
end
section
variable {h:AH}
theorem yKP {z:Str}:ycm yK [.str z,.ty "int"] h=some (.bl false,h):=rfl
theorem yKQ {z:Str}:ycm yK [.str z,.ty "str"] h=some (.bl true,h):=rfl
theorem yKR {n:Nat}{xs:List PV}(e:h[n]?=some (.lst xs)):ycm yK [.loc n,.ty "int"] h=some (.bl false,h):=by
 unfold ycm ywL yew
 simp only [e]
 rfl
theorem yKS {n:Nat}{xs:List PV}(e:h[n]?=some (.lst xs)):ycm yK [.loc n,.ty "str"] h=some (.bl false,h):=by
 unfold ycm ywL yew
 simp only [e]
 rfl
theorem yKT {n:Nat}{xs:List PV}(e:h[n]?=some (.lst xs)):ycm yK [.loc n,.ty "tuple"] h=some (.bl false,h):=by
 unfold ycm ywL yew
 simp only [e]
 rfl
local macro_rules | `(tactic| walk_at "pt")=>`(tactic| simp_all? only [yLD,yLE,yLF,yLG,yLH,yLI,yLJ,yIt,yKP,yKQ,ne_eq,not_true_eq_false])
theorem yrn {n:Nat}{z:Str}:yu (n+1) [.str z,.str z] h=some (.bl true,h):=by
 unfold yu
 rw [yC]
 show ob (yw _ _ [.val (.str z),.val (.str z),.no] h) fnK=_
 walk_at "pt"
theorem ynA {n:Nat}{xs ys:List PV}(hl:xs.length=ys.length) (hs:ys.length<=1000) (k:∀ (i:Nat) (x y:PV),xs[i]?=some x->ys[i]?=some y->yu n [x,y] h=some (.bl true,h)):yu (n+1) [.tup xs,.tup ys] h=some (.bl true,h):=by
 unfold yu
 rw [yC]
 show ob (yw _ _ [.val (.tup xs),.val (.tup ys),.no] h) fnK=_
 walk_at "pt"
 rw [hl]
 walk_at "pt"
 rw [ymv (j:=(ys.length:Int)) (h1:=h) (by walk_at "pt") (by omega) (by omega),yv]
 refine yiY (fun i ρ h1=>h1=h/\∃ c,ρ=[.val (.tup xs),.val (.tup ys),c]) ⟨rfl,.no,rfl⟩ ?_ ?_
 .rintro i x ρ h1 hx ⟨rfl,c,rfl⟩
  obtain ⟨hi,rfl⟩:=ykc hx
  rw [Int.zero_add]
  have hi:i<ys.length:=by omega
  refine ⟨_,[.val (.tup xs),.val (.tup ys),.val (.int i)],h1,rfl,.inl ?_,rfl,_,rfl⟩
  walk_at "pt"
  rw [yev (List.getElem?_eq_getElem (show i<xs.length by omega)),yev (List.getElem?_eq_getElem hi)]
  walk_at "pt"
  rw [k i _ _ (List.getElem?_eq_getElem (show i<xs.length by omega)) (List.getElem?_eq_getElem hi)]
  walk_at "pt"
 .rintro ρ' h' ⟨rfl,c,rfl⟩
  walk_at "pt"
theorem yCn {n f g:Nat}{xs:List Int}(e1:h[f]?=some (.lst (xs.map .int))) (e2:h[g]?=some (.lst (xs.map .int))) (hs:xs.length<=1000):yu (n+2) [.loc f,.loc g] h=some (.bl true,h):=by
 unfold yu
 rw [yC]
 show ob (yw _ _ [.val (.loc f),.val (.loc g),.no] h) fnK=_
 walk_at "pt"
 rw [yKR e2]
 walk_at "pt"
 rw [yKS e2]
 walk_at "pt"
 rw [yKT e2]
 walk_at "pt"
 rw [yLK e1]
 walk_at "pt"
 rw [yqy e1]
 walk_at "pt"
 rw [yqy e2]
 walk_at "pt"
 rw [ymv (j:=(xs.length:Int)) (h1:=h) (by walk_at "pt";rw [yqy e2,List.length_map];walk_at "pt") (by omega) (by omega),yv]
 refine yiY (fun i ρ h1=>h1=h/\∃ c,ρ=[.val (.loc f),.val (.loc g),c]) ⟨rfl,.no,rfl⟩ ?_ ?_
 .rintro i x ρ h1 hx ⟨rfl,c,rfl⟩
  obtain ⟨hi,rfl⟩:=ykc hx
  rw [Int.zero_add]
  have hi:i<(xs.map PV.int).length:=by rw [List.length_map];omega
  refine ⟨_,[.val (.loc f),.val (.loc g),.val (.int i)],h1,rfl,.inl ?_,rfl,_,rfl⟩
  walk_at "pt"
  rw [yuK e1 hi,yv,yuK e2 hi,yv,List.getElem_map,yqV]
  walk_at "pt"
 .rintro ρ' h' ⟨rfl,c,rfl⟩
  walk_at "pt"
theorem yIO:Tl []:=⟨by simp,fun x hx=>by simp at hx⟩
theorem yCo {n:Nat}(e:En):yu (n+2) [enV e,enV e] h=some (.bl true,h):=by
 cases e with
 | done =>
  refine ynA rfl (by simp) fun i x y hx hy=>?_
  match i,hx,hy with
  | 0,hx,hy=>cases hx;cases hy;exact yrn
 | waits =>
  refine ynA rfl (by simp) fun i x y hx hy=>?_
  match i,hx,hy with
  | 0,hx,hy=>cases hx;cases hy;exact yrn
 | fell nm v =>
  refine ynA rfl (by simp) fun i x y hx hy=>?_
  match i,hx,hy with
  | 0,hx,hy=>cases hx;cases hy;exact yrn
  | 1,hx,hy=>cases hx;cases hy;exact yrn
  | 2,hx,hy=>cases hx;cases hy;exact yqV
theorem yta {a1 a2 a3 lf:Nat}{e:En}{xs ys:List PV}{hs:List Int}(e1:h[a1]?=some (.lst xs)) (e2:h[a2]?=some (.lst ys)) (e3:h[a3]?=some (.lst (hs.map .int))) (e4:h[lf]?=some (.lst (hs.map .int))) (h8:hs.length=8) (t1:Tl xs) (t2:Tl ys) :
  yu 5 [.tup [enV e,.loc a1,.loc a2,.loc a3],.tup [enV e,.lst xs,.lst ys,.loc lf]] h=some (.bl true,h):=by
 refine ynA rfl (by simp) fun i x y hx hy=>?_
 match i,hx,hy with
 | 0,hx,hy=>cases hx;cases hy;exact yCo e
 | 1,hx,hy=>cases hx;cases hy;exact yzp e1 t1
 | 2,hx,hy=>cases hx;cases hy;exact yzp e2 t2
 | 3,hx,hy=>cases hx;cases hy;exact yCn e3 e4 (by omega)
end
section
variable {h:AH}{a c w:Nat}{σ:AS}{bx:List Int}
noncomputable def ytb (h:AH) (c:Nat) (s:Vw):Prop:=∃ sj sv,h[c]?=some (.dct (sj.map .inl) (sv.map PV.int))/\ID sj sv/\∀ j,gI (sj.map .inl,sv.map PV.int) j=s j
theorem LS.seen (L:LS h a c w σ):ytb h c σ.s:=by
 obtain ⟨⟨sj,sv,_,_,e1,_,i1,_,f1,_⟩,_⟩:=L
 exact ⟨sj,sv,e1,i1,f1⟩
theorem LS.re {h':AH}{s:Vw}(L:LS h a c w σ) (F:Frm (·≠c) h h') (S:ytb h' c s):LS h' a c w ⟨σ.hs,σ.v,s⟩:=by
 obtain ⟨⟨sj,sv,wj,wv,e1,e2,i1,i2,f1,f2⟩,hh,⟨n1,n2,n3⟩,h8,nh,nv⟩:=L
 obtain ⟨sj',sv',g1,g2,g3⟩:=S
 exact ⟨⟨sj',sv',wj,wv,g1,F.get (Ne.symm n3) e2,g2,i2,g3,f2⟩,F.get n1 hh,⟨n1,n2,n3⟩,h8,nh,nv⟩
theorem LS.copy (L:LS h a c w σ):∃ d:Nd,ybW [.loc a] h=some (.lst (σ.hs.map .int),h)/\ykd [.loc w] (h++[Nd.lst (σ.hs.map .int)])=some (d,h++[Nd.lst (σ.hs.map .int)])/\LS (h++[Nd.lst (σ.hs.map .int)]++[d]) h.length c (h.length+1) σ:=by
 obtain ⟨⟨sj,sv,wj,wv,e1,e2,i1,i2,f1,f2⟩,hh,⟨n1,n2,n3⟩,h8,nh,nv⟩:=L
 have lc:=yjR e1
 exact ⟨_,yhk hh,yBL (ycI e2),⟨⟨sj,sv,wj,wv,ycI (ycI e1),by simp,i1,i2,f1,f2⟩,by simp,⟨by omega,by omega,by omega⟩,h8,nh,nv⟩⟩
end
section
variable {h:AH}{a c w:Nat}{σ:AS}{bx:List Int}
theorem yzQ {nm:Str}:ywT (.tup [.str "waits"]) (.tup [.str "fell",.str nm]) h=some (.bl true,h):=by
 have z:¬ ("waits":Str) = "fell":=by rfl'
 unfold ywT pairE
 simp [ynu,eqP,sv,eqV,z]
theorem yzR {m nm:Str}:ywT (.tup [.str "fell",.str m]) (.tup [.str "fell",.str nm]) h=some (.bl (decide (m≠nm)),h):=by
 unfold ywT pairE
 by_cases q:m=nm<;>simp [ynu,eqP,sv,eqV,q]
theorem LS.hold {r:Str}{v:Int}(L:LS h a c w σ) (hv:N64 v):LS ((h++[Nd.lst (σ.hs.map .int)]).set h.length (.lst ((σ.hs.set (sx r) v).map .int))) h.length c w (σ.put_ r v)/\Frm (·≠c) h ((h++[Nd.lst (σ.hs.map .int)]).set h.length (.lst ((σ.hs.set (sx r) v).map .int))):=by
 obtain ⟨⟨sj,sv,wj,wv,e1,e2,i1,i2,f1,f2⟩,hh,⟨n1,n2,n3⟩,h8,nh,nv⟩:=L
 have l1:=yjR e1
 have l2:=yjR e2
 refine ⟨⟨⟨sj,sv,wj,wv,yB (by omega) (ycI e1),yB (by omega) (ycI e2),i1,i2,f1,f2⟩,set_same (d:=Nd.lst (σ.hs.map .int)) (by simp),⟨by omega,by omega,n3⟩,(List.length_set ..).trans h8,yzv nh hv,nv⟩,by simp,fun n hn _=>?_⟩
 rw [List.getElem?_set_ne (by omega),List.getElem?_append_left hn]
noncomputable def yGq (lo:Nat) (h:AH) (c:Nat) (y:PV):En×AS->Prop
 | (.done,τ)=>∃ a w,y=.tup [.non,.loc a,.loc w]/\LS h a c w τ/\lo<=a
 | (.waits,τ)=>∃ p q,y=.tup [enV .waits,p,q]/\ytb h c τ.s
 | (.fell nm v,τ)=>∃ p q,y=.tup [enV (.fell nm v),p,q]/\ytb h c τ.s/\N64 v
noncomputable def yKU (bx:List Int) (c n:Nat):Prop:=∀ (us:List T) (h:AH) (a w:Nat) (σ:AS) (lo:Nat),2*ydu us+2<=n->okL us->LS h a c w σ->lo<=a->lo<=h.length ->
 ∃ h' y,yfX n [.lst (ybK us),.lst (bx.map .int),.loc c,.loc a,.loc w] h=some (y,h')/\yGq lo h' c y (evL bx us σ)/\Frm (·≠c) h h'
noncomputable def yLP (bx:List Int) (c n:Nat):Prop:=∀ (u:T) (h:AH) (a w:Nat) (σ:AS) (lo:Nat),2*ypk u+1<=n->okT u->LS h a c w σ->lo<=a->lo<=h.length ->
 ∃ h' y,ycy n [yot u,.lst (bx.map .int),.loc c,.loc a,.loc w] h=some (y,h')/\yGq lo h' c y (evT bx u σ)/\Frm (·≠c) h h'
theorem yKV {n:Nat}(G:yLP bx c n):yKU bx c (n+1):=by
 intro us h a w σ lo hd hu L lo1 lo2
 have key:∀ (ds:List PV) (us:List T) (h:AH) (a w:Nat) (σ:AS) (c5 c6:PVar),2*ydu us+1<=n->okL us->LS h a c w σ->lo<=a->lo<=h.length->∃ h' y,
   ob (ynO (yz 5) (yw (ydf (ycJ (ycy n) (yc (yg 5) (yc (yg 1) (yc (yg 2) (yc (yg 3) (yc (yg 4) (yr))))))) (yEO 3 (ymS (yz 6) (ymS (yz 3) (ymS (yz 4) (yGk)))))) (ycL (yJ (xOp (yBm) (yg 6) (xC .non))) (ycB (yiQ (yc (yg 6) (yc (yg 3) (yc (yg 4) (yr)))))) (ybH))) (ybK us) [.val (.lst ds),.val (.lst (bx.map .int)),.val (.loc c),.val (.loc a),.val (.loc w),c5,c6] h)
    (fun o h1=>ob (sqK (ycB (yiQ (yc (xC .non) (yc (yg 3) (yc (yg 4) (yr)))))) o h1) fnK)=some (y,h')/\yGq lo h' c y (evL bx us σ)/\Frm (·≠c) h h':=by
  intro ds us
  induction us with
  | nil =>
   intro h a w σ c5 c6 _ _ L lo1 lo2
   exact ⟨h,_,rfl,⟨a,w,rfl,L,lo1⟩,Frm.refl⟩
  | cons u us ih =>
   intro h a w σ c5 c6 hd hu L lo1 lo2
   have hd:2*max (ypk u) (ydu us)+1<=n:=hd
   obtain ⟨h1,y,e1,O,F1⟩:=G u h a w σ lo (by omega) hu.1 L lo1 lo2
   show ∃ h' y,ob (ynO _ _ (yot u::ybK us) _ h) _=some (y,h')/\yGq lo h' c y (match evT bx u σ with|(.done,τ)=>evL bx us τ|(.waits,τ)=>(.waits,τ)|(.fell nm v,τ)=>(.fell nm v,τ))/\_
   rw [yyx,show yz 5 (yot u) [.val (.lst ds),.val (.lst (bx.map .int)),.val (.loc c),.val (.loc a),.val (.loc w),c5,c6]=some [.val (.lst ds),.val (.lst (bx.map .int)),.val (.loc c),.val (.loc a),.val (.loc w),.val (yot u),c6] from rfl,Option.bind_some]
   walk_at "pk"
   rw [e1,yv]
   generalize evT bx u σ=r at *
   obtain ⟨e,τ⟩:=r
   cases e with
   | done =>
    obtain ⟨a',w',rfl,L1,lo3⟩:=O
    obtain ⟨h2,y2,e2,O2,F2⟩:=ih h1 a' w' τ (.val (yot u)) (.val .non) (by omega) hu.2 L1 lo3 (Nat.le_trans lo2 F1.1)
    refine ⟨h2,y2,?_,O2,F1.trans F2⟩
    exact e2
   | waits =>
    obtain ⟨p,q,rfl,S⟩:=O
    exact ⟨h1,_,rfl,⟨p,q,rfl,S⟩,F1⟩
   | fell nm v =>
    obtain ⟨p,q,rfl,S⟩:=O
    exact ⟨h1,_,rfl,⟨p,q,rfl,S⟩,F1⟩
 obtain ⟨h',y,e,O,F⟩:=key (ybK us) us h a w σ .no .no (by omega) hu L lo1 lo2
 refine ⟨h',y,?_,O,F⟩
 unfold yfX
 rw [yC]
 show ob (yw _ _ [.val (.lst (ybK us)),.val (.lst (bx.map .int)),.val (.loc c),.val (.loc a),.val (.loc w),.no,.no] h) fnK=_
 rw [ymT,yFh,show xIL (yg 0) [PVar.val (.lst (ybK us)),.val (.lst (bx.map .int)),.val (.loc c),.val (.loc a),.val (.loc w),.no,.no] h=some (ybK us,h) from rfl,yv,yBs]
 exact e
theorem yhm {n:Nat}{u:T}(hp:ywf u) (hu:okT u) (b1:1<=bx.length) (b16:bx.length<=16) (nb:∀ v∈bx,N64 v) (L:LS h a c w σ) {lo:Nat}(lo2:lo<=h.length):∃ h' y,ycy (n+1) [yot u,.lst (bx.map .int),.loc c,.loc a,.loc w] h=some (y,h')/\(∃ a w,y=.tup [.non,.loc a,.loc w]/\LS h' a c w (evP bx u σ)/\lo<=a)/\Frm (·≠c) h h':=by
 obtain ⟨d,k1,k2,L1⟩:=L.copy
 obtain ⟨h',e,L2,F⟩:=yxe hp hu b1 b16 nb L1
 have F':Frm (·≠c) h h':=by
  refine ⟨by rw [F.1];simp,fun n hn hx=>(F.2 n (by omega) hx (by omega)).trans ?_⟩
  rw [List.append_assoc,List.getElem?_append_left hn]
 refine ⟨h',_,?_,⟨_,_,rfl,L2,lo2⟩,F'⟩
 unfold ycy
 rw [yC]
 show ob (yw _ _ [.val (yot u),.val (.lst (bx.map .int)),.val (.loc c),.val (.loc a),.val (.loc w),.no,.no] h) fnK=_
 cases u<;>first|exact hp.elim|skip
 all_goals
  simp only [yot] at e ⊢
  first|rw [ydU ykh,ydU yjc,ydU yop,ydU ylT]|rw [ydU yhR,ydU ygL,ydU yjd,ydU yih]|rw [ydU yje,ydU yij,ydU ylU,ydU ykj]|rw [ydU ykl,ydU yjf,ydU yoq,ydU ylV]
  walk_at "pk"
  rw [k1,yv,k2]
  walk_at "pk"
  rw [List.length_append]
  rw [show h.length+[Nd.lst (σ.hs.map .int)].length=h.length+1 from rfl,e,yv]
theorem yKW {n:Nat}(G:yKU bx c n) (b1:1<=bx.length) (b16:bx.length<=16) (nb:∀ v∈bx,N64 v):yLP bx c (n+1):=by
 intro u h a w σ lo hd hu L lo1 lo2
 cases u with
 | let_ r n=>exact yhm (u:=.let_ r n) trivial hu b1 b16 nb L lo2
 | reckon v r p q=>exact yhm (u:=.reckon v r p q) trivial hu b1 b16 nb L lo2
 | take r p=>exact yhm (u:=.take r p) trivial hu b1 b16 nb L lo2
 | put p q=>exact yhm (u:=.put p q) trivial hu b1 b16 nb L lo2
 | throw nm r =>
  have ix:=yri L.hh (show sx r<σ.hs.length by rw [L.h8];exact yom hu.2)
  refine ⟨h,_,?_,⟨.loc a,.loc w,rfl,L.seen,ysX L.nh⟩,Frm.refl⟩
  unfold ycy
  rw [yC]
  show ob (yw _ _ [.val (.tup [.str "throw",.str nm,.str r]),.val (.lst (bx.map .int)),.val (.loc c),.val (.loc a),.val (.loc w),.no,.no] h) fnK=_
  rw [ydU yim]
  walk_at "pk"
  rw [yfk hu.2,yv,ix]
  walk_at "pk"
  rfl
 | wait =>
  refine ⟨h,_,?_,⟨.loc a,.loc w,rfl,L.seen⟩,Frm.refl⟩
  unfold ycy
  rw [yC]
  show ob (yw _ _ [.val (.tup [.str "wait"]),.val (.lst (bx.map .int)),.val (.loc c),.val (.loc a),.val (.loc w),.no,.no] h) fnK=_
  walk_at "pk"
  rfl
 | if_ r x y =>
  have hd:2*(1+max (ydu x) (ydu y))+1<=n+1:=hd
  obtain ⟨k1,k2,k3⟩:=hu
  have ix:=yri L.hh (show sx r<σ.hs.length by rw [L.h8];exact yom k1)
  unfold ycy
  rw [yC]
  show ∃ h' z,ob (yw _ _ [.val (.tup [.str "if",.str r,.lst (ybK x),.lst (ybK y)]),.val (.lst (bx.map .int)),.val (.loc c),.val (.loc a),.val (.loc w),.no,.no] h) fnK=some (z,h')/\yGq lo h' c z (if σ.at_ r≠0 then evL bx x σ else evL bx y σ)/\_
  rw [ydU ylX,ydU ykm]
  walk_at "pk"
  rw [yfk k1,yv,ix]
  walk_at "pk"
  by_cases hz:σ.hs.getD (sx r) 0=0
  .obtain ⟨h',z,e,O,F⟩:=G y h a w σ lo (by omega) k3 L lo1 lo2
   rw [if_neg (show ¬ σ.at_ r≠0 from fun q=>q hz)]
   refine ⟨h',z,?_,O,F⟩
   simp only [hz]
   walk_at "pk"
   rw [e,yv]
  .obtain ⟨h',z,e,O,F⟩:=G x h a w σ lo (by omega) k2 L lo1 lo2
   rw [if_pos (show σ.at_ r≠0 from hz)]
   refine ⟨h',z,?_,O,F⟩
   simp only [hz]
   walk_at "pk"
   rw [e,yv]
 | either x y=>exact hu.1.elim
 | try_ x nm r y =>
  have hd:2*(1+max (ydu x) (ydu y))+1<=n+1:=hd
  obtain ⟨-,k1,k2,k3⟩:=hu
  obtain ⟨d,c1,c2,L1⟩:=L.copy
  obtain ⟨h1,z,e1,O1,F1⟩:=G x _ _ _ σ lo (by omega) k2 L1 lo2 (by simp only [List.length_append];omega)
  have F0:Frm (·≠c) h h1:=(Frm.refl.app.app).trans F1
  unfold ycy
  rw [yC]
  show ∃ h' z,ob (yw _ _ [.val (.tup [.str "try",.lst (ybK x),.str nm,.str r,.lst (ybK y)]),.val (.lst (bx.map .int)),.val (.loc c),.val (.loc a),.val (.loc w),.no,.no] h) fnK=some (z,h')/\yGq lo h' c z (match evL bx x σ with|(.fell m v,τ)=>if m=nm then evL bx y ((⟨σ.hs,σ.v,τ.s⟩:AS).put_ r v) else (.fell m v,⟨σ.hs,σ.v,τ.s⟩)|(.waits,τ)=>(.waits,⟨σ.hs,σ.v,τ.s⟩)|(.done,τ)=>(.done,τ))/\_
  rw [ydU yko,ydU yjh,ydU yla]
  walk_at "pk"
  rw [c1,yv,c2]
  walk_at "pk"
  rw [List.length_append,show h.length+[Nd.lst (σ.hs.map .int)].length=h.length+1 from rfl,e1,yv]
  generalize evL bx x σ=t at *
  obtain ⟨e,τ⟩:=t
  cases e with
  | done =>
   obtain ⟨a',w',rfl,L2,lo3⟩:=O1
   refine ⟨h1,_,?_,⟨a',w',rfl,L2,lo3⟩,F0⟩
   walk_at "pk"
   rw [if_pos (show isN PV.non=true from rfl)]
  | waits =>
   obtain ⟨p,q,rfl,S⟩:=O1
   refine ⟨h1,_,?_,⟨p,q,rfl,S⟩,F0⟩
   walk_at "pk"
   rw [if_neg (show ¬ isN (enV .waits)=true from fun z=>by cases z),show enV .waits=.tup [.str "waits"] from rfl]
   rw [yIb,show yns [PV.str "waits"] none (some 2)=[.str "waits"] from rfl]
   walk_at "pk"
   rw [yzQ]
   walk_at "pk"
  | fell m v =>
   obtain ⟨p,q,rfl,S,hv⟩:=O1
   dsimp only
   walk_at "pk"
   rw [if_neg (show ¬ isN (enV (.fell m v))=true from fun z=>by cases z),show enV (.fell m v)=.tup [.str "fell",.str m,.int v] from rfl]
   rw [yIb,show yns [PV.str "fell",.str m,.int v] none (some 2)=[.str "fell",.str m] from rfl]
   walk_at "pk"
   rw [yzR]
   walk_at "pk"
   by_cases hq:m=nm
   .subst hq
    have L2:=L.re F0 S
    obtain ⟨L3,F3⟩:=L2.hold (r:=r) hv
    obtain ⟨h',z,e,O,F⟩:=G y _ _ _ _ lo (by omega) k3 L3 (Nat.le_trans lo2 F0.1) (by have:=F0.1;have:=F3.1;omega)
    rw [if_pos rfl]
    refine ⟨h',z,?_,O,(F0.trans F3).trans F⟩
    rw [if_neg (fun z=>z rfl),yhk L2.hh,yv,yjJ (n:=h1.length) (xs:=σ.hs) (i:=sx r) (v:=v) (by walk_at "pk") rfl (by
     walk_at "pk"
     rw [yfk k1]) (by simp) (by rw [L.h8];exact yom k1),yv]
    walk_at "pk"
    rw [e,yv]
   .rw [if_neg hq]
    refine ⟨h1,_,?_,⟨p,q,rfl,S,hv⟩,F0⟩
    rw [if_pos hq]
    rfl
theorem yIP (b1:1<=bx.length) (b16:bx.length<=16) (nb:∀ v∈bx,N64 v):∀ n,yKU bx c n
 | 0=>fun us h a w σ lo hd=>by omega
 | 1=>fun us h a w σ lo hd=>by omega
 | n+2=>yKV (yKW (yIP b1 b16 nb n) b1 b16 nb)
end
section
variable {h:AH}
theorem yIQ (ns:List Int) (hl:ns.length<=63):∃ h',yBW [.scr ns] h=some (.bl true,h'):=by
 unfold yBW
 rw [yC]
 show ∃ h',ob (yw _ _ [.val (.scr ns),.no,.no,.no,.no,.no,.no,.no,.no,.no,.no,.no] h) fnK=_
 walk_at "px"
 have hs0:∀ (cs:List Int) (h:AH) lo hi,yEZ [.lst (yns (cs.map PV.int) lo hi)] h=some (.int (yns cs lo hi).sum,h):=fun cs h lo hi=>by
  rw [yrm]
  unfold yEZ yew
  simp only [ypP]
 obtain ⟨na,nb',nc,en⟩:=yCm (h:=h) (yns ns none (some 1)).sum
 rw [hs0,yv,en,yv]
 have hmax:yyI [.int 1,.int (ns.length:Int)] h=some (.int (max 1 (ns.length:Int)),h):=by
  unfold yyI
  show some (PV.int (if (ns.length:Int)>1 then (ns.length:Int) else 1),h)=_
  congr 3
  split<;>omega
 rw [yHX (i:=0) (j:=max 1 (ns.length:Int)) (c:=11) (h1:=h) (by walk_at "px";rw [hmax];walk_at "px") (by omega),yv]
 refine yqx (P:=fun (q:Option (PV×AH))=>∃ h',q=some (.bl true,h')) (fun i ρ h1=>∃ c2 c3 c4 c5 c6 c7 c8 c9 c10 c11:PVar,ρ=[.val (.scr ns),.val (.lst [.str na,.str nb',.str nc]),c2,c3,c4,c5,c6,c7,c8,c9,c10,c11]) (fun _ _=>False) ⟨.no,.no,.no,.no,.no,.no,.no,.no,.no,.no,rfl⟩ ?_ ?_ (fun _ _ z=>z.elim)
 .rintro i x ρ h1 hx ⟨c2,c3,c4,c5,c6,c7,c8,c9,c10,c11,rfl⟩
  obtain ⟨k,rfl⟩:∃ k:Nat,x=.int (k:Int):=by
   unfold yDb at hx
   rw [List.getElem?_map] at hx
   obtain ⟨j,hj,rfl⟩:=Option.map_eq_some_iff.mp hx
   exact ⟨j*11,by simp⟩
  have hcl:(yns ns (some (k:Int)) (some ((k:Int)+11))).length<=12:=by
   have:=yuW ns k (k+11) (by omega)
   rw [show (k:Int)+11=((k+11:Nat):Int) by omega]
   omega
  generalize hcs:yns ns (some (k:Int)) (some ((k:Int)+11))=cs at hcl
  obtain ⟨ts,pl,et⟩:=yzO na nb' nc 5 3 h1 cs (by omega) hcl
  have wl:=pl.w
  have dl:=pl.d
  obtain ⟨bx,b1,b16,nb,eb⟩:=yCj (h:=h1) ((yns cs (some 1) (some 2)).sum+k)
  obtain ⟨sl,h8,nh,es⟩:=yCk (h:=h1) ((yns cs none (some 1)).sum+k)
  have gx:∀ (X:List Nd) (k:Nat),(h1++X)[h1.length+k]?=X[k]?:=fun X k=>by rw [List.getElem?_append_right (Nat.le_add_right _ _),Nat.add_sub_cancel_left]
  have L0:LS (h1++[Nd.lst (sl.map .int)]++[Nd.dct [] []]++[Nd.lst (sl.map .int)]++[Nd.dct [] []]) (h1.length+2) (h1.length+1) (h1.length+3) ⟨sl,fun _=>none,fun _=>none⟩:=by
   rw [show h1++[Nd.lst (sl.map .int)]++[Nd.dct [] []]++[Nd.lst (sl.map .int)]++[Nd.dct [] []]=h1++[Nd.lst (sl.map .int),.dct [] [],.lst (sl.map .int),.dct [] []] by simp]
   exact ⟨⟨[],[],[],[],gx _ 1,gx _ 3,⟨by simp,by simp,rfl⟩,⟨by simp,by simp,rfl⟩,fun _=>rfl,fun _=>rfl⟩,gx _ 2,by omega,h8,nh,fun j v e=>nomatch e⟩
  obtain ⟨h6,y,e6,O,F6⟩:=yIP b1 b16 nb 20 ts _ _ _ _ 0 (by omega) pl.ok L0 (Nat.zero_le _) (Nat.zero_le _)
  have eS:h6[h1.length]?=some (.lst (sl.map .int)):=F6.get (show h1.length≠h1.length+1 by omega) (ycI (ycI (ycI (by simp))))
  obtain ⟨h7,r,e7,⟨a1,rfl,ha,g1,g2,g3⟩,F7,g8⟩:=yzI (h:=h6) (us:=ts) (x:=.lst (bx.map .int)) (y:=.lst (sl.map .int)) pl.ok (by omega) LV.lst LV.lst (fun h2 _=>yuo) h8 b1 b16 nh nb
  have eS7:=F7.get (yjR eS) eS
  refine yuX rfl ?_
  walk_at "px"
  rw [yrm,hcs,show ydA 5 [.lst (cs.map .int),.int 3,.lst [.str na,.str nb',.str nc]] h1=_ from et]
  walk_at "px"
  rw [hs0]
  walk_at "px"
  rw [eb]
  walk_at "px"
  rw [hs0]
  walk_at "px"
  rw [es]
  walk_at "px"
  simp only [yzG,yv]
  rw [yhk (n:=h1.length) (xs:=sl.map .int) (ycI (by simp))]
  simp only [yzG,yv]
  simp only [List.length_append,List.length_cons,List.length_nil,Nat.zero_add,Nat.add_assoc,Nat.reduceAdd]
  rw [e6]
  generalize evL bx ts ⟨sl,fun _=>none,fun _=>none⟩=q at *
  obtain ⟨e,τ⟩:=q
  dsimp only at e7 g1 g2 g3 g8
  have stop:∀ (e:En) (τ:AS),(e≠.done)->ytb h6 (h1.length+1) τ.s->h7[a1]?=some (.lst (yiT τ.s))->h7[a1+1]?=some (.lst [])->h7[a1+2]?=some (.lst (sl.map .int))->ylS [.lst (ybu ts),.lst (bx.map .int),.lst (sl.map .int)] h6=some (.tup [enV e,.loc a1,.loc (a1+1),.loc (a1+2)],h7)->isN (enV e)=false/\ycM [.loc (h1.length+1)] h6=some (.lst (yiT τ.s),h6)/\yu 5 [.tup [enV e,.loc a1,.loc (a1+1),.loc (a1+2)],.tup [enV e,.lst (yiT τ.s),.lst [],.loc h1.length]] h7=some (.bl true,h7):=by
   rintro e τ ne ⟨sj,sv,q1,q2,q3⟩ g1 g2 g3 _
   refine ⟨by cases e<;>first|rfl|exact absurd rfl ne,ynx q1 q2 q3,yta g1 g2 g3 eS7 h8 (yrk _) yIO⟩
  cases e with
  | done =>
   obtain ⟨a,w,rfl,⟨⟨sj,sv,wj,wv,q1,q2,i1,i2,f1,f2⟩,hh,_⟩,_⟩:=O
   walk_at "px"
   rw [ynx q1 i1 f1,yv,if_pos (show isN PV.non=true from rfl),ynx q1 i1 f1,yv,ynx q2 i2 f2,yv]
   rw [yrl 7 ts (by omega) (by omega) pl.ok]
   walk_at "px"
   rw [yhk eS]
   walk_at "px"
   rw [e7,yv]
   have al:yu 5 [.tup [enV .done,.loc a1,.loc (a1+1),.loc (a1+2)],.tup [.tup [.str "done"],.lst (yiT τ.s),.lst (yiT τ.v),.loc a]] h7=some (.bl true,h7):=yta (e:=.done) g1 g2 g3 (F7.get (yjR hh) hh) g8 (yrk _) (yrk _)
   rw [al]
   walk_at "px"
   exact ⟨_,rfl,_,_,_,_,_,_,_,_,_,_,rfl⟩
  | waits =>
   obtain ⟨p,q,rfl,S⟩:=O
   obtain ⟨k1,k2,k3⟩:=stop .waits τ (by simp) S g1 g2 g3 e7
   walk_at "px"
   rw [k2,yv,if_neg (show ¬ isN (enV .waits)=true by rw [k1];simp),yrl 7 ts (by omega) (by omega) pl.ok]
   walk_at "px"
   rw [yhk eS]
   walk_at "px"
   rw [e7,yv,k3]
   walk_at "px"
   exact ⟨_,rfl,_,_,_,_,_,_,_,_,_,_,rfl⟩
  | fell nm v =>
   obtain ⟨p,q,rfl,S,_⟩:=O
   obtain ⟨k1,k2,k3⟩:=stop (.fell nm v) τ (by simp) S g1 g2 g3 e7
   walk_at "px"
   rw [k2,yv,if_neg (show ¬ isN (enV (.fell nm v))=true by rw [k1];simp),yrl 7 ts (by omega) (by omega) pl.ok]
   walk_at "px"
   rw [yhk eS]
   walk_at "px"
   rw [e7,yv,k3]
   walk_at "px"
   exact ⟨_,rfl,_,_,_,_,_,_,_,_,_,_,rfl⟩
 .rintro ρ' h' ⟨c2,c3,c4,c5,c6,c7,c8,c9,c10,c11,rfl⟩
  (try walk_at "px")
  exact ⟨_,rfl⟩
end
end
def top (i:Nat):Stmt:=PySem.Challenge.pw_retryhall_k18_alone_try.main.body.getD i (.Pass ⟨0,0,0,0⟩)
abbrev ybL:Stmt:=inClass (top 2) 0
abbrev ycQ:Stmt:=inClass (top 2) 1
abbrev yeM:Stmt:=inClass (top 2) 2
abbrev ycR:Stmt:=inClass (top 2) 3
abbrev yco:Stmt:=inClass (top 2) 4
abbrev ydL:Stmt:=inClass (top 2) 5
abbrev yeN:Stmt:=inClass (top 2) 7
abbrev yeO:Stmt:=inClass (top 2) 8
abbrev ycS:Stmt:=inClass (top 2) 9
abbrev ygw:Stmt:=top 6
abbrev ycp:Stmt:=top 7
abbrev ybx:Stmt:=inClass (top 9) 0
abbrev ybM:Stmt:=inClass (top 9) 1
abbrev ycT:Stmt:=inClass (top 9) 2
abbrev ybZ:Stmt:=inClass (top 9) 3
abbrev ybi:Stmt:=inClass (top 9) 4
abbrev yca:Stmt:=inClass (top 9) 5
abbrev ybN:Stmt:=inClass (top 9) 6
abbrev yby:Stmt:=inClass (top 9) 7
abbrev ybj:Stmt:=inClass (top 9) 8
abbrev ybO:Stmt:=inClass (top 12) 0
abbrev ybf:Stmt:=inClass (top 13) 0
abbrev ybz:Stmt:=inClass (top 14) 0
abbrev ybP:Stmt:=inClass (top 15) 0
abbrev ybk:Stmt:=inClass (top 25) 0
abbrev ybg:Stmt:=inClass (top 25) 8
abbrev yX:Stmt:=inClass (top 25) 7
abbrev ybl:Stmt:=inClass (top 25) 1
abbrev ybm:Stmt:=inClass (top 25) 2
abbrev ybQ:Stmt:=inClass (top 25) 3
abbrev yY:Stmt:=inClass (top 25) 4
abbrev ybA:Stmt:=inClass (top 25) 5
abbrev yR:Stmt:=inClass (top 25) 6
abbrev yio:Stmt:=top 24
abbrev ycb:Stmt:=inClass (top 16) 0
abbrev ybR:Stmt:=inClass (top 18) 0
abbrev ybn:Stmt:=inClass (top 19) 0
abbrev ycq:Stmt:=top 27
abbrev ycU:Stmt:=top 28
abbrev ycr:Stmt:=top 29
abbrev ycs:Stmt:=top 30
abbrev yct:Stmt:=top 31
abbrev ycu:Stmt:=top 32
abbrev ycV:Stmt:=top 33
abbrev ycW:Stmt:=top 34
abbrev ycv:Stmt:=top 35
abbrev ycw:Stmt:=top 36
abbrev ydM:Stmt:=top 37
abbrev ybS:Stmt:=top 38
abbrev ycx:Stmt:=top 39
abbrev yeP:Stmt:=top 40
abbrev ycX:Stmt:=top 41
abbrev ymY:Stmt:=top 42
theorem you:yq ["self"] ["self"] (yb ybL):=⟨rfl,rfl,rfl,by rfl',rfl,by rfl',by rfl'⟩
theorem ymB:yq ["self","box","number","top"] ["self","box","number"] (yb ycQ):=⟨rfl,rfl,rfl,by rfl',rfl,by rfl',by rfl'⟩
theorem yqb:yq ["self","box","layer"] ["self","box"] (yb yeM):=⟨rfl,rfl,rfl,by rfl',rfl,by rfl',by rfl'⟩
theorem ytc:yq ["self"] ["self"] (yb ycR):=⟨rfl,rfl,rfl,by rfl',rfl,by rfl',by rfl'⟩
theorem yip:yq ["self","top","beneath"] ["self"] (yb yco):=⟨rfl,rfl,rfl,by rfl',rfl,by rfl',by rfl'⟩
theorem yuY:yq ["self"] ["self"] (yb ydL):=⟨rfl,rfl,rfl,by rfl',rfl,by rfl',by rfl'⟩
theorem yxi:yq ["self","box","number"] ["self","box","number"] (yb yeN):=⟨rfl,rfl,rfl,by rfl',rfl,by rfl',by rfl'⟩
theorem yxj:yq ["self"] ["self"] (yb yeO):=⟨rfl,rfl,rfl,by rfl',rfl,by rfl',by rfl'⟩
theorem ymC:yq ["self","lowest"] ["self"] (yb ycS):=⟨rfl,rfl,rfl,by rfl',rfl,by rfl',by rfl'⟩
theorem yzS:yq ["word","one","other"] ["word","one","other"] (yb ygw):=⟨rfl,rfl,rfl,by rfl',rfl,by rfl',by rfl'⟩
theorem yro:yq ["slot"] ["slot"] (yb ycp):=⟨rfl,rfl,rfl,by rfl',rfl,by rfl',by rfl'⟩
theorem ymZ:yq ["self","slots","width"] ["self","slots","width"] (yb ybx):=⟨rfl,rfl,rfl,by rfl',rfl,by rfl',by rfl'⟩
theorem yov:yq ["self","slot"] ["self","slot"] (yb ybM):=⟨rfl,rfl,rfl,by rfl',rfl,by rfl',by rfl'⟩
theorem ytd:yq ["self","slot","number"] ["self","slot","number"] (yb ycT):=⟨rfl,rfl,rfl,by rfl',rfl,by rfl',by rfl'⟩
theorem ypo:yq ["self","place"] ["self","place"] (yb ybZ):=⟨rfl,rfl,rfl,by rfl',rfl,by rfl',by rfl'⟩
theorem ymc:yq ["self","word","slot","one","other"] ["self","word","slot","one","other"] (yb ybi):=⟨rfl,rfl,rfl,by rfl',rfl,by rfl',by rfl'⟩
theorem ypp:yq ["self","place","slot"] ["self","place","slot"] (yb yca):=⟨rfl,rfl,rfl,by rfl',rfl,by rfl',by rfl'⟩
theorem yow:yq ["self","place"] ["self","place"] (yb ybN):=⟨rfl,rfl,rfl,by rfl',rfl,by rfl',by rfl'⟩
theorem yna:yq ["self","slot","place"] ["self","slot","place"] (yb yby):=⟨rfl,rfl,rfl,by rfl',rfl,by rfl',by rfl'⟩
theorem yia:yq ["self","slot","place","numbers","box"] ["self","slot","place","numbers"] (yb ybj):=⟨rfl,rfl,rfl,by rfl',rfl,by rfl',by rfl'⟩
theorem yox:yq ["self","slot","number"] ["self","slot","number"] (yb ybO):=⟨rfl,rfl,rfl,by rfl',rfl,by rfl',by rfl'⟩
theorem ylf:yq ["self","word","slot","one","other"] ["self","word","slot","one","other"] (yb ybf):=⟨rfl,rfl,rfl,by rfl',rfl,by rfl',by rfl'⟩
theorem ynb:yq ["self","slot","place"] ["self","slot","place"] (yb ybz):=⟨rfl,rfl,rfl,by rfl',rfl,by rfl',by rfl'⟩
theorem yoy:yq ["self","place","slot"] ["self","place","slot"] (yb ybP):=⟨rfl,rfl,rfl,by rfl',rfl,by rfl',by rfl'⟩
theorem ymd:yq ["self","boxes","slots"] ["self","boxes","slots"] (yb ybk):=⟨rfl,rfl,rfl,by rfl',rfl,by rfl',by rfl'⟩
theorem ylg:yq ["self","part"] ["self","part"] (yb ybg):=⟨rfl,rfl,rfl,by rfl',rfl,by rfl',by rfl'⟩
theorem ykt:yq ["self","part"] ["self","part"] (yb yX):=⟨rfl,rfl,rfl,by rfl',rfl,by rfl',by rfl'⟩
theorem yfm:yq ["self","parts","part","end"] ["self","parts"] (yb ybl):=⟨rfl,rfl,rfl,by rfl',rfl,by rfl',by rfl'⟩
theorem yme:yq ["self","part"] ["self","part"] (yb ybm):=⟨rfl,rfl,rfl,by rfl',rfl,by rfl',by rfl'⟩
theorem yoz:yq ["self","part"] ["self","part"] (yb ybQ):=⟨rfl,rfl,rfl,by rfl',rfl,by rfl',by rfl'⟩
theorem ygN:yq ["self","part","end"] ["self","part"] (yb yY):=⟨rfl,rfl,rfl,by rfl',rfl,by rfl',by rfl'⟩
theorem yiM:yq ["self","part","end"] ["self","part"] (yb ybA):=⟨rfl,rfl,rfl,by rfl',rfl,by rfl',by rfl'⟩
theorem ydY:yq ["self","parts","before","end"] ["self","parts"] (yb yR):=⟨rfl,rfl,rfl,by rfl',rfl,by rfl',by rfl'⟩
theorem sc_alone:yq ["deed","boxes","slots","doing","end"] ["deed","boxes","slots"] (yb yio):=⟨rfl,rfl,rfl,by rfl',rfl,by rfl',by rfl'⟩
theorem ypq:yq ["self","slot","parts","others"] ["self","slot","parts","others"] (yb ycb):=⟨rfl,rfl,rfl,by rfl',rfl,by rfl',by rfl'⟩
theorem yoA:yq ["self","parts","name","slot","others"] ["self","parts","name","slot","others"] (yb ybR):=⟨rfl,rfl,rfl,by rfl',rfl,by rfl',by rfl'⟩
theorem ymf:yq ["self","name","slot"] ["self","name","slot"] (yb ybn):=⟨rfl,rfl,rfl,by rfl',rfl,by rfl',by rfl'⟩
theorem yrp:yq ["_law_cell"] ["_law_cell"] (yb ycq):=⟨rfl,rfl,rfl,by rfl',rfl,by rfl',by rfl'⟩
theorem yte:yq ["_law_cell"] ["_law_cell"] (yb ycU):=⟨rfl,rfl,rfl,by rfl',rfl,by rfl',by rfl'⟩
theorem ylh:yq ["_law_found","_law_due","_law_k"] ["_law_found","_law_due"] (yb ycr):=⟨rfl,rfl,rfl,by rfl',rfl,by rfl',by rfl'⟩
theorem ybo:yq ["_law_cell","_law_letters","_law_mixed_here","_law_size","_law_at","_law_names_here","_law_turn","_law_name","_law_k","_law_sign"] ["_law_cell"] (yb ycs):=⟨rfl,rfl,rfl,by rfl',rfl,by rfl',by rfl'⟩
theorem ybB:yq ["_law_mixed_here","_law_cell","_law_letters","_law_many","_law_rest","_law_one","_law_other","_law_third","_law_way","_law_word","_law_tree_here"] ["_law_mixed_here","_law_cell"] (yb yct):=⟨rfl,rfl,rfl,by rfl',rfl,by rfl',by rfl'⟩
theorem ycY:yq ["_law_mixed_here","_law_one","_law_other","_law_names_here","_law_letters","_law_slot","_law_stop"] ["_law_mixed_here","_law_one","_law_other","_law_names_here"] (yb ycu):=⟨rfl,rfl,rfl,by rfl',rfl,by rfl',by rfl'⟩
theorem ybs:yq ["_law_cells","_law_depth","_law_names_here","_law_tree_here","_law_at","_law_cell","_law_mixed_here","_law_stops","_law_many","_law_more","_law_one","_law_other"] ["_law_cells","_law_depth","_law_names_here"] (yb ycV):=⟨rfl,rfl,rfl,by rfl',rfl,by rfl',by rfl'⟩
theorem yjm:yq ["_law_tree_here","_law_made_here","_law_part_here"] ["_law_tree_here"] (yb ycW):=⟨rfl,rfl,rfl,by rfl',rfl,by rfl',by rfl'⟩
theorem ydN:yq ["_law_cell","_law_mixed_here","_law_many","_law_boxes_here","_law_k","_law_some"] ["_law_cell"] (yb ycv):=⟨rfl,rfl,rfl,by rfl',rfl,by rfl',by rfl'⟩
theorem yiq:yq ["_law_cell","_law_mixed_here","_law_slots_here"] ["_law_cell"] (yb ycw):=⟨rfl,rfl,rfl,by rfl',rfl,by rfl',by rfl'⟩
theorem yuZ:yq ["_law_word","_law_one","_law_other"] ["_law_word","_law_one","_law_other"] (yb ydM):=⟨rfl,rfl,rfl,by rfl',rfl,by rfl',by rfl'⟩
theorem ydB:yq ["_law_part_here","_law_boxes_here","_law_saw","_law_slots_here","_law_written","_law_one","_law_other","_law_box"] ["_law_part_here","_law_boxes_here","_law_saw","_law_slots_here","_law_written"] (yb ybS):=⟨rfl,rfl,rfl,by rfl',rfl,by rfl',by rfl'⟩
theorem yrq:yq ["_law_found"] ["_law_found"] (yb ycx):=⟨rfl,rfl,rfl,by rfl',rfl,by rfl',by rfl'⟩
theorem yib:yq ["_law_tree_here","_law_boxes_here","_law_saw","_law_slots_here","_law_written","_law_part_here","_law_end"] ["_law_tree_here","_law_boxes_here","_law_saw","_law_slots_here","_law_written"] (yb yeP):=⟨rfl,rfl,rfl,by rfl',rfl,by rfl',by rfl'⟩
theorem yeF:yq ["_law_part_here","_law_boxes_here","_law_saw","_law_slots_here","_law_written","_law_side","_law_tried"] ["_law_part_here","_law_boxes_here","_law_saw","_law_slots_here","_law_written"] (yb ycX):=⟨rfl,rfl,rfl,by rfl',rfl,by rfl',by rfl'⟩
theorem sc_law:yq ["_law_script","_law_names_here","_law_at","_law_cells","_law_tree_here","_law_boxes_here","_law_slots_here","_law_saw","_law_end","_law_left","_law_written","_law_due"] ["_law_script"] (yb ymY):=⟨rfl,rfl,rfl,by rfl',rfl,by rfl',by rfl'⟩
theorem ml1 {α:Type}{P:List α->Prop}(h:∀ a,P [a]):∀ us:List α,us.length=1->P us
 | [_],_=>h _
theorem ml2 {α:Type}{P:List α->Prop}(h:∀ a b,P [a,b]):∀ us:List α,us.length=2->P us
 | [_,_],_=>h _ _
theorem ml3 {α:Type}{P:List α->Prop}(h:∀ a b c,P [a,b,c]):∀ us:List α,us.length=3->P us
 | [_,_,_],_=>h _ _ _
theorem ml4 {α:Type}{P:List α->Prop}(h:∀ a b c d,P [a,b,c,d]):∀ us:List α,us.length=4->P us
 | [_,_,_,_],_=>h _ _ _ _
theorem ml5 {α:Type}{P:List α->Prop}(h:∀ a b c d e,P [a,b,c,d,e]):∀ us:List α,us.length=5->P us
 | [_,_,_,_,_],_=>h _ _ _ _ _
set_option genInjectivity false in
set_option genSizeOf false in
structure Ads where
 A:Nat->Addr
 yfy:Addr
 yfz:FuncData
 yir:Addr
 yis:FuncData
 yjn:Addr
 yjo:FuncData
 yit:Addr
 yiu:FuncData
 yhn:Addr
 yho:FuncData
 yjL:Addr
 yjM:FuncData
 yli:Addr
 ylj:FuncData
 ylk:Addr
 yll:FuncData
 yiv:Addr
 yiw:FuncData
 a_reckon:Addr
 d_reckon:FuncData
 yfY:Addr
 yfZ:FuncData
 ydC:Addr
 yeQ:FuncData
 ycz:Addr
 ycA:FuncData
 ydD:Addr
 ydE:FuncData
 ycZ:Addr
 yda:FuncData
 yek:Addr
 yel:FuncData
 ygx:Addr
 ygy:FuncData
 yfA:Addr
 yfB:FuncData
 yeR:Addr
 yeS:FuncData
 yem:Addr
 yen:FuncData
 yfC:Addr
 yfD:FuncData
 ydO:Addr
 ydP:FuncData
 yeT:Addr
 yeU:FuncData
 yfE:Addr
 yfF:FuncData
 yeo:Addr
 yep:FuncData
 ydQ:Addr
 ydR:FuncData
 ydr:Addr
 yds:FuncData
 yeq:Addr
 yer:FuncData
 ygk:Addr
 ygl:FuncData
 yhT:Addr
 yhU:FuncData
 yeV:Addr
 yeW:FuncData
 ygO:Addr
 ygP:FuncData
 yez:Addr
 yeA:FuncData
 a_alone:Addr
 d_alone:FuncData
 ygz:Addr
 ygA:FuncData
 yfG:Addr
 yfH:FuncData
 yes:Addr
 yet:FuncData
 ydF:Addr
 ydG:FuncData
 yfn:Addr
 yfo:FuncData
 yhp:Addr
 yhq:FuncData
 yhr:Addr
 yhs:FuncData
 yht:Addr
 yhu:FuncData
 yhv:Addr
 yhw:FuncData
 yix:Addr
 yiy:FuncData
 yiz:Addr
 yiA:FuncData
 yhx:Addr
 yhy:FuncData
 yhz:Addr
 yhA:FuncData
 yjN:Addr
 yjO:FuncData
 yfI:Addr
 yfJ:FuncData
 yhB:Addr
 yhC:FuncData
 ylm:Addr
 yln:FuncData
 yku:Addr
 ykv:FuncData
 a_law:Addr
 d_law:FuncData
 k_DONE:Addr
 k_SLOTS:Tok
 k_WAITS:Addr
 k_WIDE:Tok
abbrev ybF (K:PySem.W.Frag) (t:Ads):Ck:=⟨K,t.A⟩
structure Txt (K:PySem.W.Frag) (mg:Str->Option Value) (t:Ads):Prop where
 ypr:Fun K "__init__" "Log.__init__" ybL t.yfy t.yfz
 yps:Binds K t.yfz ["self"] []
 yva:Fun K "write" "Log.write" ycQ t.yir t.yis
 yvb:Binds K t.yis ["self","box","number"] []
 yzT:Fun K "own" "Log.own" yeM t.yjn t.yjo
 ytf:Binds K t.yjo ["self","box"] []
 yvc:Fun K "begin" "Log.begin" ycR t.yit t.yiu
 yvd:Binds K t.yiu ["self"] []
 ytg:Fun K "settle" "Log.settle" yco t.yhn t.yho
 yth:Binds K t.yho ["self"] []
 yxk:Fun K "drop" "Log.drop" ydL t.yjL t.yjM
 yxl:Binds K t.yjM ["self"] []
 yzU:Fun K "see" "Log.see" yeN t.yli t.ylj
 yzV:Binds K t.ylj ["self","box","number"] []
 yzW:Fun K "saw" "Log.saw" yeO t.ylk t.yll
 yti:Binds K t.yll ["self"] []
 yve:Fun K "wrote" "Log.wrote" ycS t.yiv t.yiw
 yvf:Binds K t.yiw ["self"] []
 F_reckon:Fun K "reckon" "reckon" ygw t.a_reckon t.d_reckon
 b_reckon:Binds K t.d_reckon ["word","one","other"] []
 m_reckon:mg "reckon" = some (.ref t.a_reckon)
 yjp:Fun K "slot_index" "slot_index" ycp t.yfY t.yfZ
 ymD:Binds K t.yfZ ["slot"] []
 ymE:mg "slot_index" = some (.ref t.yfY)
 yoB:Fun K "__init__" "Doer.__init__" ybx t.ydC t.yeQ
 yoC:Binds K t.yeQ ["self","slots","width"] []
 ypt:Fun K "held_in" "Doer.held_in" ybM t.ycz t.ycA
 ydo:Binds K t.ycA ["self","slot"] []
 yvg:Fun K "hold" "Doer.hold" ycT t.ydD t.ydE
 ygQ:Binds K t.ydE ["self","slot","number"] []
 yrr:Fun K "box_at" "Doer.box_at" ybZ t.ycZ t.yda
 ygB:Binds K t.yda ["self","place"] []
 ync:Fun K "do_reckon" "Doer.do_reckon" ybi t.yek t.yel
 ynd:Binds K t.yel ["self","word","slot","one","other"] []
 yrs:Fun K "do_put" "Doer.do_put" yca t.ygx t.ygy
 yrt:Binds K t.ygy ["self","place","slot"] []
 ypu:Fun K "sees_at" "Doer.sees_at" ybN t.yfA t.yfB
 ypv:Binds K t.yfB ["self","place"] []
 yoD:Fun K "take_own" "Doer.take_own" yby t.yeR t.yeS
 yoE:Binds K t.yeS ["self","slot","place"] []
 yne:Fun K "take_seen" "Doer.take_seen" ybj t.yem t.yen
 ynf:Binds K t.yen ["self","slot","place","numbers"] []
 ypw:Fun K "__init__" "Let.__init__" ybO t.yfC t.yfD
 ypx:Binds K t.yfD ["self","slot","number"] []
 ymg:Fun K "__init__" "Reckon.__init__" ybf t.ydO t.ydP
 ymh:Binds K t.ydP ["self","word","slot","one","other"] []
 yoF:Fun K "__init__" "Take.__init__" ybz t.yeT t.yeU
 yoG:Binds K t.yeU ["self","slot","place"] []
 ypy:Fun K "__init__" "Put.__init__" ybP t.yfE t.yfF
 ypz:Binds K t.yfF ["self","place","slot"] []
 yng:Fun K "__init__" "Doing.__init__" ybk t.yeo t.yep
 ynh:Binds K t.yep ["self","boxes","slots"] []
 ymi:Fun K "take_done" "Doing.take_done" ybg t.ydQ t.ydR
 ymj:Binds K t.ydR ["self","part"] []
 ylo:Fun K "plain_done" "Doing.plain_done" yX t.ydr t.yds
 ylp:Binds K t.yds ["self","part"] []
 yni:Fun K "list_end" "Doing.list_end" ybl t.yeq t.yer
 ycl:Binds K t.yer ["self","parts"] []
 ynj:Fun K "part_end" "Doing.part_end" ybm t.ygk t.ygl
 ynk:Binds K t.ygl ["self","part"] []
 ypA:Fun K "if_end" "Doing.if_end" ybQ t.yhT t.yhU
 ypB:Binds K t.yhU ["self","part"] []
 ylq:Fun K "either_end" "Doing.either_end" yY t.yeV t.yeW
 ylr:Binds K t.yeW ["self","part"] []
 yoH:Fun K "try_end" "Doing.try_end" ybA t.ygO t.ygP
 yoI:Binds K t.ygP ["self","part"] []
 ykw:Fun K "layered_end" "Doing.layered_end" yR t.yez t.yeA
 ygR:Binds K t.yeA ["self","parts"] []
 F_alone:Fun K "alone" "alone" yio t.a_alone t.d_alone
 b_alone:Binds K t.d_alone ["deed","boxes","slots"] []
 m_alone:mg "alone" = some (.ref t.a_alone)
 yru:Fun K "__init__" "If.__init__" ycb t.ygz t.ygA
 yrv:Binds K t.ygA ["self","slot","parts","others"] []
 ypC:Fun K "__init__" "Try.__init__" ybR t.yfG t.yfH
 ypD:Binds K t.yfH ["self","parts","name","slot","others"] []
 ynl:Fun K "__init__" "Throw.__init__" ybn t.yes t.yet
 ynm:Binds K t.yet ["self","name","slot"] []
 yga:Fun K "_law_mixed" "_law_mixed" ycq t.ydF t.ydG
 yhD:Binds K t.ydG ["_law_cell"] []
 yhE:mg "_law_mixed" = some (.ref t.ydF)
 yiB:Fun K "_law_wide" "_law_wide" ycU t.yfn t.yfo
 ykx:Binds K t.yfo ["_law_cell"] []
 yky:mg "_law_wide" = some (.ref t.yfn)
 yjq:Fun K "_law_alike" "_law_alike" ycr t.yhp t.yhq
 ymF:Binds K t.yhq ["_law_found","_law_due"] []
 ymG:mg "_law_alike" = some (.ref t.yhp)
 ymH:Fun K "_law_names" "_law_names" ycs t.yhr t.yhs
 ytj:Binds K t.yhs ["_law_cell"] []
 ytk:mg "_law_names" = some (.ref t.yhr)
 ymI:Fun K "_law_plain" "_law_plain" yct t.yht t.yhu
 ytl:Binds K t.yhu ["_law_mixed_here","_law_cell"] []
 ytm:mg "_law_plain" = some (.ref t.yht)
 ymJ:Fun K "_law_sided" "_law_sided" ycu t.yhv t.yhw
 ytn:Binds K t.yhw ["_law_mixed_here","_law_one","_law_other","_law_names_here"] []
 yto:mg "_law_sided" = some (.ref t.yhv)
 yiC:Fun K "_law_tree" "_law_tree" ycV t.yix t.yiy
 ykz:Binds K t.yiy ["_law_cells","_law_depth","_law_names_here"] []
 ykA:mg "_law_tree" = some (.ref t.yix)
 yfp:Fun K "_law_made" "_law_made" ycW t.yiz t.yiA
 ygS:Binds K t.yiA ["_law_tree_here"] []
 ygT:mg "_law_made" = some (.ref t.yiz)
 ymK:Fun K "_law_boxes" "_law_boxes" ycv t.yhx t.yhy
 ytp:Binds K t.yhy ["_law_cell"] []
 ytq:mg "_law_boxes" = some (.ref t.yhx)
 ymL:Fun K "_law_slots" "_law_slots" ycw t.yhz t.yhA
 ytr:Binds K t.yhA ["_law_cell"] []
 yts:mg "_law_slots" = some (.ref t.yhz)
 yqc:Fun K "_law_sum" "_law_sum" ydM t.yjN t.yjO
 yxm:Binds K t.yjO ["_law_word","_law_one","_law_other"] []
 yxn:mg "_law_sum" = some (.ref t.yjN)
 yjT:Fun K "_law_plainly" "_law_plainly" ybS t.yfI t.yfJ
 ypE:Binds K t.yfJ ["_law_part_here","_law_boxes_here","_law_saw","_law_slots_here","_law_written"] []
 ypF:mg "_law_plainly" = some (.ref t.yfI)
 yhF:Fun K "_law_pairs" "_law_pairs" ycx t.yhB t.yhC
 yjr:Binds K t.yhC ["_law_found"] []
 yjs:mg "_law_pairs" = some (.ref t.yhB)
 yjt:Fun K "_law_do" "_law_do" yeP t.ylm t.yln
 yls:Binds K t.yln ["_law_tree_here","_law_boxes_here","_law_saw","_law_slots_here","_law_written"] []
 ylt:mg "_law_do" = some (.ref t.ylm)
 yoJ:Fun K "_law_part" "_law_part" ycX t.yku t.ykv
 yvh:Binds K t.ykv ["_law_part_here","_law_boxes_here","_law_saw","_law_slots_here","_law_written"] []
 yvi:mg "_law_part" = some (.ref t.yku)
 F_law:Fun K "law" "law" ymY t.a_law t.d_law
 b_law:Binds K t.d_law ["_law_script"] []
 m_law:mg "law" = some (.ref t.a_law)
 m_Log:mg "Log" = some (.ref (t.A 0))
 mk_Log:Mk K (t.A 0) t.yfy
 m_Doing:mg "Doing" = some (.ref (t.A 1))
 mk_Doing:Mk K (t.A 1) t.yeo
 m_Doer:mg "Doer" = some (.ref (t.A 2))
 mk_Doer:Mk K (t.A 2) t.ydC
 m_Let:mg "Let" = some (.ref (t.A 3))
 mk_Let:Mk K (t.A 3) t.yfC
 m_Reckon:mg "Reckon" = some (.ref (t.A 4))
 mk_Reckon:Mk K (t.A 4) t.ydO
 m_Take:mg "Take" = some (.ref (t.A 5))
 mk_Take:Mk K (t.A 5) t.yeT
 m_Put:mg "Put" = some (.ref (t.A 6))
 mk_Put:Mk K (t.A 6) t.yfE
 m_If:mg "If" = some (.ref (t.A 7))
 mk_If:Mk K (t.A 7) t.ygz
 m_Either:mg "Either" = some (.ref (t.A 8))
 m_Try:mg "Try" = some (.ref (t.A 9))
 mk_Try:Mk K (t.A 9) t.yfG
 m_Throw:mg "Throw" = some (.ref (t.A 10))
 mk_Throw:Mk K (t.A 10) t.yes
 m_Wait:mg "Wait" = some (.ref (t.A 11))
 mk_Wait:makesIn K (t.A 11)=true
 io_Wait:findIn K (.ref (t.A 11)) "__init__" = some (some (.builtin "object.__init__"))
 kp_Wait:keepIn K (.ref (t.A 11))=true
 ytt:ykI K (t.A 0) "write" t.yir
 yqd:ykI K (t.A 0) "own" t.yjn
 ytu:ykI K (t.A 0) "begin" t.yit
 yrw:ykI K (t.A 0) "settle" t.yhn
 yvj:ykI K (t.A 0) "drop" t.yjL
 yxo:ykI K (t.A 0) "see" t.yli
 yqe:ykI K (t.A 0) "saw" t.ylk
 ytv:ykI K (t.A 0) "wrote" t.yiv
 ms_Doing_held_in:ykI K (t.A 1) "held_in" t.ycz
 ms_Doing_hold:ykI K (t.A 1) "hold" t.ydD
 ms_Doing_box_at:ykI K (t.A 1) "box_at" t.ycZ
 ms_Doing_do_reckon:ykI K (t.A 1) "do_reckon" t.yek
 ms_Doing_do_put:ykI K (t.A 1) "do_put" t.ygx
 ms_Doing_sees_at:ykI K (t.A 1) "sees_at" t.yfA
 ms_Doing_take_own:ykI K (t.A 1) "take_own" t.yeR
 ms_Doing_take_seen:ykI K (t.A 1) "take_seen" t.yem
 ylu:ykI K (t.A 1) "take_done" t.ydQ
 ykB:ykI K (t.A 1) "plain_done" t.ydr
 yce:ykI K (t.A 1) "list_end" t.yeq
 ymk:ykI K (t.A 1) "part_end" t.ygk
 yoK:ykI K (t.A 1) "if_end" t.yhT
 ykC:ykI K (t.A 1) "either_end" t.yeV
 ynn:ykI K (t.A 1) "try_end" t.ygO
 ygs:ykI K (t.A 1) "layered_end" t.yez
 cf_Doer:yFR K (t.A 2) "__init__" t.ydC
 cl:∀ k,Cls K (t.A k)
 fa:Fa (ybF K t)
 z_bool:mg "bool" = none
 z_dict:mg "dict" = none
 z_int:mg "int" = none
 z_isinstance:mg "isinstance" = none
 z_len:mg "len" = none
 z_list:mg "list" = none
 z_max:mg "max" = none
 z_range:mg "range" = none
 z_reversed:mg "reversed" = none
 z_sorted:mg "sorted" = none
 z_str:mg "str" = none
 z_sum:mg "sum" = none
 z_tuple:mg "tuple" = none
 m_DONE:mg "DONE" = some (.ref t.k_DONE)
 kt_DONE:KTp K t.k_DONE ((["done"]:List Str).map V.str)
 m_SLOTS:mg "SLOTS" = some (.str "abcdefgh" t.k_SLOTS)
 m_WAITS:mg "WAITS" = some (.ref t.k_WAITS)
 kt_WAITS:KTp K t.k_WAITS ((["waits"]:List Str).map V.str)
 m_WIDE:mg "WIDE" = some (.int 18446744073709551616 t.k_WIDE)
theorem yoL:Nm "DONE":=⟨by rfl',by rfl',by rfl'⟩
theorem yGg:Nm "Doer":=⟨by rfl',by rfl',by rfl'⟩
theorem yCp:Nm "Doing":=⟨by rfl',by rfl',by rfl'⟩
theorem yzX:Nm "Either":=⟨by rfl',by rfl',by rfl'⟩
theorem yIR:Nm "If":=⟨by rfl',by rfl',by rfl'⟩
theorem yDS:Nm "Let":=⟨by rfl',by rfl',by rfl'⟩
theorem yIS:Nm "Log":=⟨by rfl',by rfl',by rfl'⟩
theorem yDT:Nm "Put":=⟨by rfl',by rfl',by rfl'⟩
theorem ytw:Nm "Reckon":=⟨by rfl',by rfl',by rfl'⟩
theorem yCq:Nm "SLOTS":=⟨by rfl',by rfl',by rfl'⟩
theorem yzY:Nm "Take":=⟨by rfl',by rfl',by rfl'⟩
theorem ywi:Nm "Throw":=⟨by rfl',by rfl',by rfl'⟩
theorem yDU:Nm "Try":=⟨by rfl',by rfl',by rfl'⟩
theorem ywj:Nm "WAITS":=⟨by rfl',by rfl',by rfl'⟩
theorem yvk:Nm "WIDE":=⟨by rfl',by rfl',by rfl'⟩
theorem yzZ:Nm "Wait":=⟨by rfl',by rfl',by rfl'⟩
theorem ylv:Nm "_law_alike":=⟨by rfl',by rfl',by rfl'⟩
theorem ycf:Nm "_law_at":=⟨by rfl',by rfl',by rfl'⟩
theorem ydH:Nm "_law_box":=⟨by rfl',by rfl',by rfl'⟩
theorem yrx:Nm "_law_boxes":=⟨by rfl',by rfl',by rfl'⟩
theorem yt:Nm "_law_boxes_here":=⟨by rfl',by rfl',by rfl'⟩
theorem ycd:Nm "_law_cell":=⟨by rfl',by rfl',by rfl'⟩
theorem ydb:Nm "_law_cells":=⟨by rfl',by rfl',by rfl'⟩
theorem yiD:Nm "_law_depth":=⟨by rfl',by rfl',by rfl'⟩
theorem yjP:Nm "_law_do":=⟨by rfl',by rfl',by rfl'⟩
theorem ydc:Nm "_law_due":=⟨by rfl',by rfl',by rfl'⟩
theorem yiE:Nm "_law_end":=⟨by rfl',by rfl',by rfl'⟩
theorem ybC:Nm "_law_found":=⟨by rfl',by rfl',by rfl'⟩
theorem ydm:Nm "_law_k":=⟨by rfl',by rfl',by rfl'⟩
theorem ytx:Nm "_law_left":=⟨by rfl',by rfl',by rfl'⟩
theorem ybT:Nm "_law_letters":=⟨by rfl',by rfl',by rfl'⟩
theorem ygb:Nm "_law_made":=⟨by rfl',by rfl',by rfl'⟩
theorem yp:Nm "_law_made_here":=⟨by rfl',by rfl',by rfl'⟩
theorem ybU:Nm "_law_many":=⟨by rfl',by rfl',by rfl'⟩
theorem ygC:Nm "_law_mixed":=⟨by rfl',by rfl',by rfl'⟩
theorem yi:Nm "_law_mixed_here":=⟨by rfl',by rfl',by rfl'⟩
theorem ymM:Nm "_law_more":=⟨by rfl',by rfl',by rfl'⟩
theorem ymN:Nm "_law_name":=⟨by rfl',by rfl',by rfl'⟩
theorem yry:Nm "_law_names":=⟨by rfl',by rfl',by rfl'⟩
theorem yF:Nm "_law_names_here":=⟨by rfl',by rfl',by rfl'⟩
theorem yS:Nm "_law_one":=⟨by rfl',by rfl',by rfl'⟩
theorem yG:Nm "_law_other":=⟨by rfl',by rfl',by rfl'⟩
theorem yiF:Nm "_law_pairs":=⟨by rfl',by rfl',by rfl'⟩
theorem yty:Nm "_law_part":=⟨by rfl',by rfl',by rfl'⟩
theorem yd:Nm "_law_part_here":=⟨by rfl',by rfl',by rfl'⟩
theorem yrz:Nm "_law_plain":=⟨by rfl',by rfl',by rfl'⟩
theorem yoM:Nm "_law_plainly":=⟨by rfl',by rfl',by rfl'⟩
theorem ydI:Nm "_law_rest":=⟨by rfl',by rfl',by rfl'⟩
theorem ydd:Nm "_law_saw":=⟨by rfl',by rfl',by rfl'⟩
theorem yhV:Nm "_law_script":=⟨by rfl',by rfl',by rfl'⟩
theorem ytz:Nm "_law_side":=⟨by rfl',by rfl',by rfl'⟩
theorem yrA:Nm "_law_sided":=⟨by rfl',by rfl',by rfl'⟩
theorem ymO:Nm "_law_sign":=⟨by rfl',by rfl',by rfl'⟩
theorem ymP:Nm "_law_size":=⟨by rfl',by rfl',by rfl'⟩
theorem yju:Nm "_law_slot":=⟨by rfl',by rfl',by rfl'⟩
theorem yrB:Nm "_law_slots":=⟨by rfl',by rfl',by rfl'⟩
theorem yl:Nm "_law_slots_here":=⟨by rfl',by rfl',by rfl'⟩
theorem ytA:Nm "_law_some":=⟨by rfl',by rfl',by rfl'⟩
theorem ymQ:Nm "_law_stop":=⟨by rfl',by rfl',by rfl'⟩
theorem yrC:Nm "_law_stops":=⟨by rfl',by rfl',by rfl'⟩
theorem yvl:Nm "_law_sum":=⟨by rfl',by rfl',by rfl'⟩
theorem ylw:Nm "_law_third":=⟨by rfl',by rfl',by rfl'⟩
theorem yjv:Nm "_law_tree":=⟨by rfl',by rfl',by rfl'⟩
theorem yN:Nm "_law_tree_here":=⟨by rfl',by rfl',by rfl'⟩
theorem ygD:Nm "_law_tried":=⟨by rfl',by rfl',by rfl'⟩
theorem ytB:Nm "_law_turn":=⟨by rfl',by rfl',by rfl'⟩
theorem ygU:Nm "_law_way":=⟨by rfl',by rfl',by rfl'⟩
theorem yjw:Nm "_law_wide":=⟨by rfl',by rfl',by rfl'⟩
theorem yeG:Nm "_law_word":=⟨by rfl',by rfl',by rfl'⟩
theorem yD:Nm "_law_written":=⟨by rfl',by rfl',by rfl'⟩
theorem yCr:Nm "alone":=⟨by rfl',by rfl',by rfl'⟩
theorem yAa:Nm "before":=⟨by rfl',by rfl',by rfl'⟩
theorem yxp:Nm "beneath":=⟨by rfl',by rfl',by rfl'⟩
theorem yGh:Nm "bool":=⟨by rfl',by rfl',by rfl'⟩
theorem yoN:Nm "box":=⟨by rfl',by rfl',by rfl'⟩
theorem yrD:Nm "boxes":=⟨by rfl',by rfl',by rfl'⟩
theorem yGi:Nm "deed":=⟨by rfl',by rfl',by rfl'⟩
theorem yAb:Nm "dict":=⟨by rfl',by rfl',by rfl'⟩
theorem ylx:Nm "doing":=⟨by rfl',by rfl',by rfl'⟩
theorem yic:Nm "end":=⟨by rfl',by rfl',by rfl'⟩
theorem ytC:Nm "int":=⟨by rfl',by rfl',by rfl'⟩
theorem yH:Nm "isinstance":=⟨by rfl',by rfl',by rfl'⟩
theorem ywk:Nm "layer":=⟨by rfl',by rfl',by rfl'⟩
theorem yly:Nm "len":=⟨by rfl',by rfl',by rfl'⟩
theorem ydZ:Nm "list":=⟨by rfl',by rfl',by rfl'⟩
theorem yAc:Nm "lowest":=⟨by rfl',by rfl',by rfl'⟩
theorem yIT:Nm "max":=⟨by rfl',by rfl',by rfl'⟩
theorem yAd:Nm "name":=⟨by rfl',by rfl',by rfl'⟩
theorem ylz:Nm "number":=⟨by rfl',by rfl',by rfl'⟩
theorem yqf:Nm "numbers":=⟨by rfl',by rfl',by rfl'⟩
theorem yoO:Nm "one":=⟨by rfl',by rfl',by rfl'⟩
theorem yiG:Nm "other":=⟨by rfl',by rfl',by rfl'⟩
theorem ytD:Nm "others":=⟨by rfl',by rfl',by rfl'⟩
theorem yT:Nm "part":=⟨by rfl',by rfl',by rfl'⟩
theorem ynB:Nm "parts":=⟨by rfl',by rfl',by rfl'⟩
theorem yiH:Nm "place":=⟨by rfl',by rfl',by rfl'⟩
theorem yAe:Nm "reckon":=⟨by rfl',by rfl',by rfl'⟩
theorem ym:Nm "self":=⟨by rfl',by rfl',by rfl'⟩
theorem yeX:Nm "slot":=⟨by rfl',by rfl',by rfl'⟩
theorem ylA:Nm "slot_index":=⟨by rfl',by rfl',by rfl'⟩
theorem ynC:Nm "slots":=⟨by rfl',by rfl',by rfl'⟩
theorem yoP:Nm "sorted":=⟨by rfl',by rfl',by rfl'⟩
theorem yDV:Nm "str":=⟨by rfl',by rfl',by rfl'⟩
theorem yAf:Nm "sum":=⟨by rfl',by rfl',by rfl'⟩
theorem yDW:Nm "top":=⟨by rfl',by rfl',by rfl'⟩
theorem ywl:Nm "tuple":=⟨by rfl',by rfl',by rfl'⟩
theorem yCs:Nm "width":=⟨by rfl',by rfl',by rfl'⟩
theorem yml:Nm "word":=⟨by rfl',by rfl',by rfl'⟩
section
variable {P:Program}{w:World}{K:PySem.W.Frag}{mg:Str->Option Value}{base:Heap}{t:Ads}
theorem yAg {n:Nat}{ck:Ck}{vs:List V}{H:Hp}{Q:VK}{E:XK}(h:spE ck n (fun _ _=>none) vs H Q E):False:=by
 obtain ⟨_,_,_,_,_,_,_,_,q,_⟩:=h
 cases q
theorem ygV {f:Addr}{fd:FuncData}{ps:List Str}{k n:Nat}{ck:Ck}:FnOk P w K mg base CX0 k f fd ps (spE ck n fun _ _=>none):=⟨fun vs H Q E h=>(yAg h).elim,fun A outer s H args us vs Q E _ _ _ _ h=>(yAg h).elim⟩
theorem yoQ (T:Txt K mg t) :FnOk P w K mg base CX0 (0+1) t.yfy t.yfz ["self"] (spI (ybF K t) 0 0 yec):=by
 have fa:=T.fa
 exact zin T.ypr you rfl (by decide) fun cdv Ar outer sh H E hr=>(ycE (ydh fa.fl_stack (ybv (i:=0) rfl (Or.inl rfl) ym.d ym.c) (yhO (ygg (ya (yhO ysC) yf rfl))) rfl) (yhP (ydh fa.fl_last_seen (ybv (i:=0) rfl (Or.inl rfl) ym.d ym.c) (yhO ysC) rfl)))
theorem ytE (T:Txt K mg t) :FnOk P w K mg base CX0 (0+1) t.yir t.yis ["self","box","number"] (spE (ybF K t) 3 ygH):=by
 have fa:=T.fa
 exact zfn T.yva ymB fun cdv Ar outer sh H E hr=>(ye (yy (i:=3) ymB.nd rfl (Or.inl rfl) (yci ix_list yfh (ybY fa.fl_stack (z_v 0 ym) rfl) (yLB yCB yHo z_int) (fun _ _=>rfl)) rfl (Or.inl rfl)) (yh (yqD (yqk hr) (z_v 3 yDW) (z_v 1 yoN) (z_v 2 ylz) rfl)))
theorem yxq (T:Txt K mg t) :FnOk P w K mg base CX0 (0+1) t.yjn t.yjo ["self","box"] (spE (ybF K t) 2 yfQ):=by
 have fa:=T.fa
 exact zfn T.yzT yqb fun cdv Ar outer sh H E hr=>(ye (yFN PassesOwn.never rfl rfl T.z_reversed (ybY fa.fl_stack (z_v 0 ym) rfl) rfl rfl (yey (i:=2) yqb.nd rfl (Or.inl rfl) (Or.inl rfl)) (yh (ybr (yIj (yqk hr) (z_v 1 yoN) (z_v 2 ywk) (by with_unfolding_all rfl)) (yh (yx (yDj (yqk hr) (z_v 2 ywk) (z_v 1 yoN) (fun _ _=>rfl)))) yA)) (fun _=>rfl)) (yh (yx yux)))
theorem ytF (T:Txt K mg t) :FnOk P w K mg base CX0 (0+1) t.yit t.yiu ["self"] (spE (ybF K t) 1 ygI):=by
 have fa:=T.fa
 exact zfn T.yvc ytc fun cdv Ar outer sh H E hr=>(yh (ycF (yvT PySem.F.plainAttrs_list PySem.F.slot_list_append PySem.F.type_list_append ykL yHR (ybY fa.fl_stack (z_v 0 ym) rfl) (ya (yhO ysC) yf rfl) rfl rfl rfl rfl rfl) rfl))
theorem yrE (T:Txt K mg t) :FnOk P w K mg base CX0 (0+1) t.yhn t.yho ["self"] (spE (ybF K t) 1 yfR):=by
 have fa:=T.fa
 exact zfn T.ytg yip fun cdv Ar outer sh H E hr=>(ye (yy (i:=1) yip.nd rfl (Or.inl rfl) (yIh PySem.F.plainAttrs_list PySem.F.slot_list_pop PySem.F.type_list_pop yCG yDa (ybY fa.fl_stack (z_v 0 ym) rfl) rfl rfl) rfl (Or.inl rfl)) (ye (yy (i:=2) yip.nd rfl (Or.inl rfl) (yci ix_list yfh (ybY fa.fl_stack (z_v 0 ym) rfl) (yLB yCB yHo z_int) (fun _ _=>rfl)) rfl (Or.inl rfl)) (yh (ycF (yvT PySem.F.plainAttrs_dict PySem.F.slot_dict_update PySem.F.type_dict_update yIo yKH (z_v 2 yxp) (ya (z_v 1 yDW) yf rfl) rfl rfl rfl rfl rfl) rfl))))
theorem yvm (T:Txt K mg t) :FnOk P w K mg base CX0 (0+1) t.yjL t.yjM ["self"] (spE (ybF K t) 1 ygF):=by
 have fa:=T.fa
 exact zfn T.yxk yuY fun cdv Ar outer sh H E hr=>(yh (ycF (yIh PySem.F.plainAttrs_list PySem.F.slot_list_pop PySem.F.type_list_pop yCG yDa (ybY fa.fl_stack (z_v 0 ym) rfl) rfl rfl) rfl))
theorem yxr (T:Txt K mg t) :FnOk P w K mg base CX0 (0+1) t.yli t.ylj ["self","box","number"] (spE (ybF K t) 3 yja):=by
 have fa:=T.fa
 exact zfn T.yzU yxi fun cdv Ar outer sh H E hr=>(yh (yqD (yqk hr) (ybY fa.fl_last_seen (z_v 0 ym) rfl) (z_v 1 yoN) (z_v 2 ylz) rfl))
theorem yxs (T:Txt K mg t) :FnOk P w K mg base CX0 (0+1) t.ylk t.yll ["self"] (spE (ybF K t) 1 ygJ):=by
 have fa:=T.fa
 exact zfn T.yzW yxj fun cdv Ar outer sh H E hr=>(yh (yx (yhO (PXS.z_sortI rfl (ybY fa.fl_last_seen (z_v 0 ym) rfl) yoP rfl T.z_sorted yoc rfl rfl rfl rfl))))
theorem ytG (T:Txt K mg t) :FnOk P w K mg base CX0 (0+1) t.yiv t.yiw ["self"] (spE (ybF K t) 1 ygK):=by
 have fa:=T.fa
 exact zfn T.yve ymC fun cdv Ar outer sh H E hr=>(ye (yy (i:=1) ymC.nd rfl (Or.inl rfl) (yci ix_list yfh (ybY fa.fl_stack (z_v 0 ym) rfl) z_int (fun _ _=>rfl)) rfl (Or.inl rfl)) (yh (yx (yhO (PXS.z_sortI rfl (z_v 1 yAc) yoP rfl T.z_sorted yoc rfl rfl rfl rfl)))))
theorem yAh (T:Txt K mg t) :FnOk P w K mg base CX0 (0+1) t.a_reckon t.d_reckon ["word","one","other"] (spE (ybF K t) 3 ykU):=by
 have fa:=T.fa
 exact zfn T.F_reckon yzS fun cdv Ar outer sh H E hr=>(ye (ybr (yW ydq yiS (z_v 0 yml) z_str (yL _)) (yh (yx (ybD ybd ycj (ybD ydT yhg (z_v 1 yoO) (z_v 2 yiG)) (yyV yvk rfl T.m_WIDE)))) yA) (ye (ybr (yW ydq yiS (z_v 0 yml) z_str (yL _)) (yh (yx (ybD ybd ycj (ybD yvs yBk (z_v 1 yoO) (z_v 2 yiG)) (yyV yvk rfl T.m_WIDE)))) yA) (ye (ybr (yW ydq yiS (z_v 0 yml) z_str (yL _)) (yh (yx (ybD ybd ycj (ybD ynE yun (z_v 1 yoO) (z_v 2 yiG)) (yyV yvk rfl T.m_WIDE)))) yA) (ye (ybr (yW ydq yiS (z_v 0 yml) z_str (yL _)) (yh (yx (yIe (yW yrN yCQ (z_v 1 yoO) (z_v 2 yiG) (yL _)) z_int z_int))) yA) (yh (yx (yIe (yW ydq yiS (z_v 1 yoO) (z_v 2 yiG) (yL _)) z_int z_int)))))))
theorem yrF (T:Txt K mg t) :FnOk P w K mg base CX0 (0+1) t.yfY t.yfZ ["slot"] (spE (ybF K t) 1 ydw):=by
 have fa:=T.fa
 exact zfn T.yjp yro fun cdv Ar outer sh H E hr=>(yh (yx (yvT PySem.F.plainAttrs_str PySem.F.slot_str_find PySem.F.type_str_find ygj yej (yIc yCq rfl T.m_SLOTS) (ya (z_v 0 yeX) yf rfl) rfl rfl rfl rfl rfl)))
theorem yoR (T:Txt K mg t) (yeH:FnOk P w K mg base CX0 (1) t.yfY t.yfZ ["slot"] (spE (ybF K t) 1 ydw)):FnOk P w K mg base CX0 (1+1) t.ycz t.ycA ["self","slot"] (spE (ybF K t) 2 yV):=by
 have fa:=T.fa
 exact zfn T.ypt yov fun cdv Ar outer sh H E hr=>(yh (yx (yci ix_list yfh (ybY fa.fl_held (z_v 0 ym) rfl) (ybJ yeH (hr.mono (by omega)) ylA rfl T.ymE T.yjp.kp T.ymD (ya (z_v 1 yeX) yf rfl) rfl rfl) (fun _ _=>rfl))))
theorem ytH (T:Txt K mg t) (yeH:FnOk P w K mg base CX0 (1) t.yfY t.yfZ ["slot"] (spE (ybF K t) 1 ydw)):FnOk P w K mg base CX0 (1+1) t.ydD t.ydE ["self","slot","number"] (spE (ybF K t) 3 ybI):=by
 have fa:=T.fa
 exact zfn T.yvg ytd fun cdv Ar outer sh H E hr=>(yh (ylR (z_v 2 ylz) (ybY fa.fl_held (z_v 0 ym) rfl) (ybJ yeH (hr.mono (by omega)) ylA rfl T.ymE T.yjp.kp T.ymD (ya (z_v 1 yeX) yf rfl) rfl rfl) (fun _=>rfl) rfl rfl rfl))
theorem ypG (T:Txt K mg t) (yI:FnOk P w K mg base CX0 (2) t.ycz t.ycA ["self","slot"] (spE (ybF K t) 2 yV)):FnOk P w K mg base CX0 (2+1) t.ycZ t.yda ["self","place"] (spE (ybF K t) 2 ybw):=by
 have fa:=T.fa
 exact zfn T.yrr ypo fun cdv Ar outer sh H E hr=>(yh (yx (ybD ybd ycj (yU (z_v 0 ym) (T.cl 1) T.ms_Doing_held_in yI (hr.mono (by omega)) T.ydo (ya (z_v 1 yiH) yf rfl) rfl rfl rfl) (ybY fa.fl_width (z_v 0 ym) rfl))))
theorem yno (T:Txt K mg t) (yhW:FnOk P w K mg base CX0 (1) t.yfy t.yfz ["self"] (spI (ybF K t) 0 0 yec)):FnOk P w K mg base CX0 (2+1) t.ydC t.yeQ ["self","slots","width"] (spJ (ybF K t) 2 1 ydx):=by
 have fa:=T.fa
 exact yMd T.yoB ymZ rfl (by decide) fun cdv Ar outer sh H E hr=>(ycE (ydh fa.fl_held (ybv (i:=0) rfl (Or.inl rfl) ym.d ym.c) (yhO (yfP yZ ycN ydZ rfl T.z_list ydV (ya (z_v 1 ynC) yf rfl) rfl rfl)) rfl) (ycE (ydh fa.fl_width (ybv (i:=0) rfl (Or.inl rfl) ym.d ym.c) (z_v 2 yCs) rfl) (yhP (ydh fa.fl_log (ybv (i:=0) rfl (Or.inl rfl) ym.d ym.c) (yhO (yFP T.mk_Log yhW (hr.mono (by omega)) yIS rfl T.m_Log T.yps)) rfl))))
theorem ymm (T:Txt K mg t) (yI:FnOk P w K mg base CX0 (2) t.ycz t.ycA ["self","slot"] (spE (ybF K t) 2 yV)) (ybh:FnOk P w K mg base CX0 (2) t.ydD t.ydE ["self","slot","number"] (spE (ybF K t) 3 ybI)) (G_reckon:FnOk P w K mg base CX0 (1) t.a_reckon t.d_reckon ["word","one","other"] (spE (ybF K t) 3 ykU)):FnOk P w K mg base CX0 (2+1) t.yek t.yel ["self","word","slot","one","other"] (spE (ybF K t) 5 ydi):=by
 have fa:=T.fa
 exact zfn T.ync ymc fun cdv Ar outer sh H E hr=>(yh (ycF (yU (z_v 0 ym) (T.cl 1) T.ms_Doing_hold ybh (hr.mono (by omega)) T.ygQ (ya (z_v 2 yeX) (ya (ybJ G_reckon (hr.mono (by omega)) yAe rfl T.m_reckon T.F_reckon.kp T.b_reckon (ya (z_v 1 yml) (ya (yU (z_v 0 ym) (T.cl 1) T.ms_Doing_held_in yI (hr.mono (by omega)) T.ydo (ya (z_v 3 yoO) yf rfl) rfl rfl rfl) (ya (yU (z_v 0 ym) (T.cl 1) T.ms_Doing_held_in yI (hr.mono (by omega)) T.ydo (ya (z_v 4 yiG) yf rfl) rfl rfl rfl) yf rfl) rfl) rfl) rfl rfl) yf rfl) rfl) rfl rfl rfl) rfl))
theorem ypH (T:Txt K mg t) (ybp:FnOk P w K mg base CX0 (3) t.ycZ t.yda ["self","place"] (spE (ybF K t) 2 ybw)) (yI:FnOk P w K mg base CX0 (2) t.ycz t.ycA ["self","slot"] (spE (ybF K t) 2 yV)) (ykD:FnOk P w K mg base CX0 (1) t.yir t.yis ["self","box","number"] (spE (ybF K t) 3 ygH)):FnOk P w K mg base CX0 (3+1) t.ygx t.ygy ["self","place","slot"] (spE (ybF K t) 3 yeJ):=by
 have fa:=T.fa
 exact zfn T.yrs ypp fun cdv Ar outer sh H E hr=>(yh (ycF (yU (ybY fa.fl_log (z_v 0 ym) rfl) (T.cl 0) T.ytt ykD (hr.mono (by omega)) T.yvb (ya (yU (z_v 0 ym) (T.cl 1) T.ms_Doing_box_at ybp (hr.mono (by omega)) T.ygB (ya (z_v 1 yiH) yf rfl) rfl rfl rfl) (ya (yU (z_v 0 ym) (T.cl 1) T.ms_Doing_held_in yI (hr.mono (by omega)) T.ydo (ya (z_v 2 yeX) yf rfl) rfl rfl rfl) yf rfl) rfl) rfl rfl rfl) rfl))
theorem yoS (T:Txt K mg t) (ybp:FnOk P w K mg base CX0 (3) t.ycZ t.yda ["self","place"] (spE (ybF K t) 2 ybw)) (yid:FnOk P w K mg base CX0 (1) t.yjn t.yjo ["self","box"] (spE (ybF K t) 2 yfQ)):FnOk P w K mg base CX0 (3+1) t.yfA t.yfB ["self","place"] (spE (ybF K t) 2 yed):=by
 have fa:=T.fa
 exact zfn T.ypu yow fun cdv Ar outer sh H E hr=>(yh (yx (ywW yxH yEY (yU (ybY fa.fl_log (z_v 0 ym) rfl) (T.cl 0) T.yqd yid (hr.mono (by omega)) T.ytf (ya (yU (z_v 0 ym) (T.cl 1) T.ms_Doing_box_at ybp (hr.mono (by omega)) T.ygB (ya (z_v 1 yiH) yf rfl) rfl rfl rfl) yf rfl) rfl rfl rfl) yux (yL _))))
theorem ynp (T:Txt K mg t) (ybp:FnOk P w K mg base CX0 (3) t.ycZ t.yda ["self","place"] (spE (ybF K t) 2 ybw)) (ybh:FnOk P w K mg base CX0 (2) t.ydD t.ydE ["self","slot","number"] (spE (ybF K t) 3 ybI)) (yid:FnOk P w K mg base CX0 (1) t.yjn t.yjo ["self","box"] (spE (ybF K t) 2 yfQ)):FnOk P w K mg base CX0 (3+1) t.yeR t.yeS ["self","slot","place"] (spE (ybF K t) 3 ydy):=by
 have fa:=T.fa
 exact zfn T.yoD yna fun cdv Ar outer sh H E hr=>(yh (ycF (yU (z_v 0 ym) (T.cl 1) T.ms_Doing_hold ybh (hr.mono (by omega)) T.ygQ (ya (z_v 1 yeX) (ya (yU (ybY fa.fl_log (z_v 0 ym) rfl) (T.cl 0) T.yqd yid (hr.mono (by omega)) T.ytf (ya (yU (z_v 0 ym) (T.cl 1) T.ms_Doing_box_at ybp (hr.mono (by omega)) T.ygB (ya (z_v 2 yiH) yf rfl) rfl rfl rfl) yf rfl) rfl rfl rfl) yf rfl) rfl) rfl rfl rfl) rfl))
theorem ymn (T:Txt K mg t) (ybp:FnOk P w K mg base CX0 (3) t.ycZ t.yda ["self","place"] (spE (ybF K t) 2 ybw)) (ybh:FnOk P w K mg base CX0 (2) t.ydD t.ydE ["self","slot","number"] (spE (ybF K t) 3 ybI)) (yoT:FnOk P w K mg base CX0 (1) t.yli t.ylj ["self","box","number"] (spE (ybF K t) 3 yja)):FnOk P w K mg base CX0 (3+1) t.yem t.yen ["self","slot","place","numbers"] (spE (ybF K t) 4 ydj):=by
 have fa:=T.fa
 exact zfn T.yne yia fun cdv Ar outer sh H E hr=>(ye (yy (i:=4) yia.nd rfl (Or.inl rfl) (yU (z_v 0 ym) (T.cl 1) T.ms_Doing_box_at ybp (hr.mono (by omega)) T.ygB (ya (z_v 2 yiH) yf rfl) rfl rfl rfl) rfl (Or.inl rfl)) (ye (ycF (yU (ybY fa.fl_log (z_v 0 ym) rfl) (T.cl 0) T.yxo yoT (hr.mono (by omega)) T.yzV (ya (z_v 4 yoN) (ya (yci ix_list yfh (z_v 3 yqf) (z_v 4 yoN) (fun _ _=>rfl)) yf rfl) rfl) rfl rfl rfl) rfl) (yh (ycF (yU (z_v 0 ym) (T.cl 1) T.ms_Doing_hold ybh (hr.mono (by omega)) T.ygQ (ya (z_v 1 yeX) (ya (yci ix_list yfh (z_v 3 yqf) (z_v 4 yoN) (fun _ _=>rfl)) yf rfl) rfl) rfl rfl rfl) rfl))))
theorem yoU (T:Txt K mg t) :FnOk P w K mg base CX0 (0+1) t.yfC t.yfD ["self","slot","number"] (spI (ybF K t) 2 3 yee):=by
 have fa:=T.fa
 exact zin T.ypw yox rfl (by decide) fun cdv Ar outer sh H E hr=>(ycE (ydh fa.fl_slot (ybv (i:=0) rfl (Or.inl rfl) ym.d ym.c) (z_v 1 yeX) rfl) (yhP (ydh fa.fl_number (ybv (i:=0) rfl (Or.inl rfl) ym.d ym.c) (z_v 2 ylz) rfl)))
theorem ylB (T:Txt K mg t) :FnOk P w K mg base CX0 (0+1) t.ydO t.ydP ["self","word","slot","one","other"] (spI (ybF K t) 4 4 ycG):=by
 have fa:=T.fa
 exact zin T.ymg ylf rfl (by decide) fun cdv Ar outer sh H E hr=>(ycE (ydh fa.fl_word (ybv (i:=0) rfl (Or.inl rfl) ym.d ym.c) (z_v 1 yml) rfl) (ycE (ydh fa.fl_slot (ybv (i:=0) rfl (Or.inl rfl) ym.d ym.c) (z_v 2 yeX) rfl) (ycE (ydh fa.fl_one (ybv (i:=0) rfl (Or.inl rfl) ym.d ym.c) (z_v 3 yoO) rfl) (yhP (ydh fa.fl_other (ybv (i:=0) rfl (Or.inl rfl) ym.d ym.c) (z_v 4 yiG) rfl)))))
theorem ynq (T:Txt K mg t) :FnOk P w K mg base CX0 (0+1) t.yeT t.yeU ["self","slot","place"] (spI (ybF K t) 2 5 ydz):=by
 have fa:=T.fa
 exact zin T.yoF ynb rfl (by decide) fun cdv Ar outer sh H E hr=>(ycE (ydh fa.fl_slot (ybv (i:=0) rfl (Or.inl rfl) ym.d ym.c) (z_v 1 yeX) rfl) (yhP (ydh fa.fl_place (ybv (i:=0) rfl (Or.inl rfl) ym.d ym.c) (z_v 2 yiH) rfl)))
theorem yoV (T:Txt K mg t) :FnOk P w K mg base CX0 (0+1) t.yfE t.yfF ["self","place","slot"] (spI (ybF K t) 2 6 yef):=by
 have fa:=T.fa
 exact zin T.ypy yoy rfl (by decide) fun cdv Ar outer sh H E hr=>(ycE (ydh fa.fl_place (ybv (i:=0) rfl (Or.inl rfl) ym.d ym.c) (z_v 1 yiH) rfl) (yhP (ydh fa.fl_slot (ybv (i:=0) rfl (Or.inl rfl) ym.d ym.c) (z_v 2 yeX) rfl)))
theorem ypI (T:Txt K mg t) :FnOk P w K mg base CX0 (0+1) t.ygz t.ygA ["self","slot","parts","others"] (spI (ybF K t) 3 7 yeL):=by
 have fa:=T.fa
 exact zin T.yru ypq rfl (by decide) fun cdv Ar outer sh H E hr=>(ycE (ydh fa.fl_slot (ybv (i:=0) rfl (Or.inl rfl) ym.d ym.c) (z_v 1 yeX) rfl) (ycE (ydh fa.fl_parts (ybv (i:=0) rfl (Or.inl rfl) ym.d ym.c) (yhf (yfP yZ ycN ydZ rfl T.z_list ydV (ya (z_v 2 ynB) yf rfl) rfl rfl)) rfl) (yhP (ydh fa.fl_others (ybv (i:=0) rfl (Or.inl rfl) ym.d ym.c) (yhf (yfP yZ ycN ydZ rfl T.z_list ydV (ya (z_v 3 ytD) yf rfl) rfl rfl)) rfl))))
theorem yoW (T:Txt K mg t) :FnOk P w K mg base CX0 (0+1) t.yfG t.yfH ["self","parts","name","slot","others"] (spI (ybF K t) 4 9 yeg):=by
 have fa:=T.fa
 exact zin T.ypC yoA rfl (by decide) fun cdv Ar outer sh H E hr=>(ycE (ydh fa.fl_parts (ybv (i:=0) rfl (Or.inl rfl) ym.d ym.c) (yhf (yfP yZ ycN ydZ rfl T.z_list ydV (ya (z_v 1 ynB) yf rfl) rfl rfl)) rfl) (ycE (ydh fa.fl_name (ybv (i:=0) rfl (Or.inl rfl) ym.d ym.c) (z_v 2 yAd) rfl) (ycE (ydh fa.fl_slot (ybv (i:=0) rfl (Or.inl rfl) ym.d ym.c) (z_v 3 yeX) rfl) (yhP (ydh fa.fl_others (ybv (i:=0) rfl (Or.inl rfl) ym.d ym.c) (yhf (yfP yZ ycN ydZ rfl T.z_list ydV (ya (z_v 4 ytD) yf rfl) rfl rfl)) rfl)))))
theorem ymo (T:Txt K mg t) :FnOk P w K mg base CX0 (0+1) t.yes t.yet ["self","name","slot"] (spI (ybF K t) 2 10 ydl):=by
 have fa:=T.fa
 exact zin T.ynl ymf rfl (by decide) fun cdv Ar outer sh H E hr=>(ycE (ydh fa.fl_name (ybv (i:=0) rfl (Or.inl rfl) ym.d ym.c) (z_v 1 yAd) rfl) (yhP (ydh fa.fl_slot (ybv (i:=0) rfl (Or.inl rfl) ym.d ym.c) (z_v 2 yeX) rfl)))
theorem ymp (T:Txt K mg t) (ygW:FnOk P w K mg base CX0 (3) t.ydC t.yeQ ["self","slots","width"] (spJ (ybF K t) 2 1 ydx)):FnOk P w K mg base CX0 (4+1) t.yeo t.yep ["self","boxes","slots"] (spI (ybF K t) 2 1 ydk):=by
 have fa:=T.fa
 exact zin T.yng ymd rfl (by decide) fun cdv Ar outer sh H E hr=>(ycE (yFT T.cf_Doer yGg rfl T.m_Doer ygW (hr.mono (by omega)) T.yoC (ybv (i:=0) rfl (Or.inl rfl) ym.d ym.c) (ya (z_v 2 ynC) (ya (ykH ycK ymu yly rfl T.z_len ykN (ya (z_v 1 yrD) yf rfl) rfl rfl) yf rfl) rfl) rfl rfl rfl rfl) (yhP (ydh fa.fl_found (ybv (i:=0) rfl (Or.inl rfl) ym.d ym.c) (yhf (yfP yZ ycN ydZ rfl T.z_list ydV (ya (z_v 1 yrD) yf rfl) rfl rfl)) rfl)))
theorem ylC (T:Txt K mg t) (yhX:FnOk P w K mg base CX0 (4) t.yfA t.yfB ["self","place"] (spE (ybF K t) 2 yed)) (ygX:FnOk P w K mg base CX0 (4) t.yeR t.yeS ["self","slot","place"] (spE (ybF K t) 3 ydy)) (ygm:FnOk P w K mg base CX0 (4) t.yem t.yen ["self","slot","place","numbers"] (spE (ybF K t) 4 ydj)):FnOk P w K mg base CX0 (4+1) t.ydQ t.ydR ["self","part"] (spE (ybF K t) 2 ycH):=by
 have fa:=T.fa
 exact zfn T.ymi ylg fun cdv Ar outer sh H E hr=>(yh (ybr (yfO (yU (z_v 0 ym) (T.cl 1) T.ms_Doing_sees_at yhX (hr.mono (by omega)) T.ypv (ya (ybY fa.fl_place (z_v 1 yT) rfl) yf rfl) rfl rfl rfl) (fun _=>rfl)) (yh (ycF (yU (z_v 0 ym) (T.cl 1) T.ms_Doing_take_seen ygm (hr.mono (by omega)) T.ynf (ya (ybY fa.fl_slot (z_v 1 yT) rfl) (ya (ybY fa.fl_place (z_v 1 yT) rfl) (ya (ybY fa.fl_found (z_v 0 ym) rfl) yf rfl) rfl) rfl) rfl rfl rfl) rfl)) (yh (ycF (yU (z_v 0 ym) (T.cl 1) T.ms_Doing_take_own ygX (hr.mono (by omega)) T.yoE (ya (ybY fa.fl_slot (z_v 1 yT) rfl) (ya (ybY fa.fl_place (z_v 1 yT) rfl) yf rfl) rfl) rfl rfl rfl) rfl))))
theorem ykE (T:Txt K mg t) (yiI:FnOk P w K mg base CX0 (4) t.ygx t.ygy ["self","place","slot"] (spE (ybF K t) 3 yeJ)) (ygn:FnOk P w K mg base CX0 (3) t.yek t.yel ["self","word","slot","one","other"] (spE (ybF K t) 5 ydi)) (ybh:FnOk P w K mg base CX0 (2) t.ydD t.ydE ["self","slot","number"] (spE (ybF K t) 3 ybI)) (yfq:FnOk P w K mg base CX0 (5) t.ydQ t.ydR ["self","part"] (spE (ybF K t) 2 ycH)):FnOk P w K mg base CX0 (5+1) t.ydr t.yds ["self","part"] (spE (ybF K t) 2 ycn):=by
 have fa:=T.fa
 exact zfn T.ylo ykt fun cdv Ar outer sh H E hr=>(ye (ybr (yfO (ykH yba (yiW (K:=ckX _ _) fa.isa) yH rfl T.z_isinstance yE (ya (z_v 1 yT) (ya (ykS yDS rfl T.m_Let) yf rfl) rfl) rfl rfl) (fun _=>rfl)) (yh (ycF (yU (z_v 0 ym) (T.cl 1) T.ms_Doing_hold ybh (hr.mono (by omega)) T.ygQ (ya (ybY fa.fl_slot (z_v 1 yT) rfl) (ya (ybY fa.fl_number (z_v 1 yT) rfl) yf rfl) rfl) rfl rfl rfl) rfl)) yA) (ye (ybr (yfO (ykH yba (yiW (K:=ckX _ _) fa.isa) yH rfl T.z_isinstance yE (ya (z_v 1 yT) (ya (ykS ytw rfl T.m_Reckon) yf rfl) rfl) rfl rfl) (fun _=>rfl)) (yh (ycF (yU (z_v 0 ym) (T.cl 1) T.ms_Doing_do_reckon ygn (hr.mono (by omega)) T.ynd (ya (ybY fa.fl_word (z_v 1 yT) rfl) (ya (ybY fa.fl_slot (z_v 1 yT) rfl) (ya (ybY fa.fl_one (z_v 1 yT) rfl) (ya (ybY fa.fl_other (z_v 1 yT) rfl) yf rfl) rfl) rfl) rfl) rfl rfl rfl) rfl)) yA) (ye (ybr (yfO (ykH yba (yiW (K:=ckX _ _) fa.isa) yH rfl T.z_isinstance yE (ya (z_v 1 yT) (ya (ykS yzY rfl T.m_Take) yf rfl) rfl) rfl rfl) (fun _=>rfl)) (yh (ycF (yU (z_v 0 ym) (T.cl 1) T.ylu yfq (hr.mono (by omega)) T.ymj (ya (z_v 1 yT) yf rfl) rfl rfl rfl) rfl)) yA) (yh (ybr (yfO (ykH yba (yiW (K:=ckX _ _) fa.isa) yH rfl T.z_isinstance yE (ya (z_v 1 yT) (ya (ykS yDT rfl T.m_Put) yf rfl) rfl) rfl rfl) (fun _=>rfl)) (yh (ycF (yU (z_v 0 ym) (T.cl 1) T.ms_Doing_do_put yiI (hr.mono (by omega)) T.yrt (ya (ybY fa.fl_place (z_v 1 yT) rfl) (ya (ybY fa.fl_slot (z_v 1 yT) rfl) yf rfl) rfl) rfl rfl rfl) rfl)) yA)))))
structure yMk (P:Program) (w:World) (K:PySem.W.Frag) (mg:Str->Option Value) (base:Heap) (t:Ads) (n:Nat):Prop where
 yiN:FnOk P w K mg base CX0 (n+8) t.yeq t.yer ["self","parts"] (spE (ybF K t) 2 (ybb n))
 yiO:FnOk P w K mg base CX0 (n+8) t.ygk t.ygl ["self","part"] (spE (ybF K t) 2 (yM n))
 yjU:FnOk P w K mg base CX0 (n+8) t.yhT t.yhU ["self","part"] (spE (ybF K t) 2 (yfw n))
 yhG:FnOk P w K mg base CX0 (n+8) t.yeV t.yeW ["self","part"] (spE (ybF K t) 2 (yhl n))
 yjx:FnOk P w K mg base CX0 (n+8) t.ygO t.ygP ["self","part"] (spE (ybF K t) 2 (yeK n))
 ygY:FnOk P w K mg base CX0 (n+8) t.yez t.yeA ["self","parts"] (spE (ybF K t) 2 (ych n))
theorem yAi (T:Txt K mg t) (yI:FnOk P w K mg base CX0 (2) t.ycz t.ycA ["self","slot"] (spE (ybF K t) 2 yV)) (ybh:FnOk P w K mg base CX0 (2) t.ydD t.ydE ["self","slot","number"] (spE (ybF K t) 3 ybI)) (ydt:FnOk P w K mg base CX0 (6) t.ydr t.yds ["self","part"] (spE (ybF K t) 2 ycn)) (yiJ:FnOk P w K mg base CX0 (1) t.yit t.yiu ["self"] (spE (ybF K t) 1 ygI)) (yjQ:FnOk P w K mg base CX0 (1) t.yjL t.yjM ["self"] (spE (ybF K t) 1 ygF)) (yhH:FnOk P w K mg base CX0 (1) t.yhn t.yho ["self"] (spE (ybF K t) 1 yfR)) :∀ n,yMk P w K mg base t n
 | 0=>⟨ygV,ygV,ygV,ygV,ygV,ygV⟩
 | n+1=>by
  have fa:=T.fa
  have I:=yAi T yI ybh ydt yiJ yjQ yhH n
  have ybq:=I.yiN
  have yiP:=I.yiO
  have yjV:=I.yjU
  have yhI:=I.yhG
  have yjy:=I.yjx
  have yeB:=I.ygY
  exact ⟨zfn T.yni yfm fun cdv Ar outer sh H E hr=>(ye (ymx PassesOwn.never rfl (yqC (z_v 1 ynB)) (yey (i:=2) yfm.nd rfl (Or.inl rfl) (Or.inl rfl)) (ye (yy (i:=3) yfm.nd rfl (Or.inl rfl) (yU (z_v 0 ym) (T.cl 1) T.ymk yiP (hr.mono (by omega)) T.ynk (ya (z_v 2 yT) yf rfl) rfl rfl rfl) rfl (Or.inl rfl)) (yh (ybr (yW (yDk (ysD hr)) yHZ (z_v 3 yic) (yoi (ss:=["done"]) yoL rfl T.m_DONE T.kt_DONE) (yL _)) (yh (yx (z_v 3 yic))) yA))) (fun _=>rfl)) (yh (yx (yoi (ss:=["done"]) yoL rfl T.m_DONE T.kt_DONE)))),
   zfn T.ynj yme fun cdv Ar outer sh H E hr=>(ye (ybr (yfO (ykH yba (yiW (K:=ckX _ _) fa.isa) yH rfl T.z_isinstance yE (ya (z_v 1 yT) (ya (ykS yIR rfl T.m_If) yf rfl) rfl) rfl rfl) (fun _=>rfl)) (yh (yx (yU (z_v 0 ym) (T.cl 1) T.yoK yjV (hr.mono (by omega)) T.ypB (ya (z_v 1 yT) yf rfl) rfl rfl rfl))) yA) (ye (ybr (yfO (ykH yba (yiW (K:=ckX _ _) fa.isa) yH rfl T.z_isinstance yE (ya (z_v 1 yT) (ya (ykS yzX rfl T.m_Either) yf rfl) rfl) rfl rfl) (fun _=>rfl)) (yh (yx (yU (z_v 0 ym) (T.cl 1) T.ykC yhI (hr.mono (by omega)) T.ylr (ya (z_v 1 yT) yf rfl) rfl rfl rfl))) yA) (ye (ybr (yfO (ykH yba (yiW (K:=ckX _ _) fa.isa) yH rfl T.z_isinstance yE (ya (z_v 1 yT) (ya (ykS yDU rfl T.m_Try) yf rfl) rfl) rfl rfl) (fun _=>rfl)) (yh (yx (yU (z_v 0 ym) (T.cl 1) T.ynn yjy (hr.mono (by omega)) T.yoI (ya (z_v 1 yT) yf rfl) rfl rfl rfl))) yA) (ye (ybr (yfO (ykH yba (yiW (K:=ckX _ _) fa.isa) yH rfl T.z_isinstance yE (ya (z_v 1 yT) (ya (ykS ywi rfl T.m_Throw) yf rfl) rfl) rfl rfl) (fun _=>rfl)) (yh (yx (yex (ya z_str (ya (ybY fa.fl_name (z_v 1 yT) rfl) (ya (yU (z_v 0 ym) (T.cl 1) T.ms_Doing_held_in yI (hr.mono (by omega)) T.ydo (ya (ybY fa.fl_slot (z_v 1 yT) rfl) yf rfl) rfl rfl rfl) yf rfl) rfl) rfl)))) yA) (ye (ybr (yfO (ykH yba (yiW (K:=ckX _ _) fa.isa) yH rfl T.z_isinstance yE (ya (z_v 1 yT) (ya (ykS yzZ rfl T.m_Wait) yf rfl) rfl) rfl rfl) (fun _=>rfl)) (yh (yx (yoi (ss:=["waits"]) ywj rfl T.m_WAITS T.kt_WAITS))) yA) (ye (ycF (yU (z_v 0 ym) (T.cl 1) T.ykB ydt (hr.mono (by omega)) T.ylp (ya (z_v 1 yT) yf rfl) rfl rfl rfl) rfl) (yh (yx (yoi (ss:=["done"]) yoL rfl T.m_DONE T.kt_DONE))))))))),
   zfn T.ypA yoz fun cdv Ar outer sh H E hr=>(ye (ybr (yW yGP yLq (yU (z_v 0 ym) (T.cl 1) T.ms_Doing_held_in yI (hr.mono (by omega)) T.ydo (ya (ybY fa.fl_slot (z_v 1 yT) rfl) yf rfl) rfl rfl rfl) z_int (yL _)) (yh (yx (yU (z_v 0 ym) (T.cl 1) T.yce ybq (hr.mono (by omega)) T.ycl (ya (ybY fa.fl_parts (z_v 1 yT) rfl) yf rfl) rfl rfl rfl))) yA) (yh (yx (yU (z_v 0 ym) (T.cl 1) T.yce ybq (hr.mono (by omega)) T.ycl (ya (ybY fa.fl_others (z_v 1 yT) rfl) yf rfl) rfl rfl rfl)))),
   zfn T.ylq ygN fun cdv Ar outer sh H E hr=>(ye (yy (i:=2) ygN.nd rfl (Or.inl rfl) (yU (z_v 0 ym) (T.cl 1) T.ygs yeB (hr.mono (by omega)) T.ygR (ya (ybY fa.fl_parts (z_v 1 yT) rfl) yf rfl) rfl rfl rfl) rfl (Or.inl rfl)) (ye (ybr (yW (yzb (ysD hr)) yFy (z_v 2 yic) (yoi (ss:=["waits"]) ywj rfl T.m_WAITS T.kt_WAITS) (yL _)) (yh (yx (yU (z_v 0 ym) (T.cl 1) T.yce ybq (hr.mono (by omega)) T.ycl (ya (ybY fa.fl_others (z_v 1 yT) rfl) yf rfl) rfl rfl rfl))) yA) (yh (yx (z_v 2 yic))))),
   zfn T.yoH yiM fun cdv Ar outer sh H E hr=>(ye (yy (i:=2) yiM.nd rfl (Or.inl rfl) (yU (z_v 0 ym) (T.cl 1) T.ygs yeB (hr.mono (by omega)) T.ygR (ya (ybY fa.fl_parts (z_v 1 yT) rfl) yf rfl) rfl rfl rfl) rfl (Or.inl rfl)) (ye (ybr (yKK (yIf (yW ydq yiS (yci ix_tup ybE (z_v 2 yic) z_int (fun _ _=>rfl)) z_str (yL _)) (yFF (yW ydq yiS (yci ix_tup ybE (z_v 2 yic) z_int (fun _ _=>rfl)) (ybY fa.fl_name (z_v 1 yT) rfl) (yL _))))) (ye (ycF (yU (z_v 0 ym) (T.cl 1) T.ms_Doing_hold ybh (hr.mono (by omega)) T.ygQ (ya (ybY fa.fl_slot (z_v 1 yT) rfl) (ya (yci ix_tup ybE (z_v 2 yic) z_int (fun _ _=>rfl)) yf rfl) rfl) rfl rfl rfl) rfl) (yh (yx (yU (z_v 0 ym) (T.cl 1) T.yce ybq (hr.mono (by omega)) T.ycl (ya (ybY fa.fl_others (z_v 1 yT) rfl) yf rfl) rfl rfl rfl)))) yA) (yh (yx (z_v 2 yic))))),
   zfn T.ykw ydY fun cdv Ar outer sh H E hr=>(ye (yy (i:=2) ydY.nd rfl (Or.inl rfl) (yhO (yfP yZ ycN ydZ rfl T.z_list ydV (ya (ybY fa.fl_held (z_v 0 ym) rfl) yf rfl) rfl rfl)) rfl (Or.inl rfl)) (ye (ycF (yjG (ybY fa.fl_log (z_v 0 ym) rfl) (T.cl 0) T.ytu yiJ (hr.mono (by omega)) T.yvd rfl) rfl) (ye (yy (i:=3) ydY.nd rfl (Or.inl rfl) (yU (z_v 0 ym) (T.cl 1) T.yce ybq (hr.mono (by omega)) T.ycl (ya (z_v 1 ynB) yf rfl) rfl rfl rfl) rfl (Or.inl rfl)) (ye (ybr (yW (yzb (ysD hr)) yFy (z_v 3 yic) (yoi (ss:=["done"]) yoL rfl T.m_DONE T.kt_DONE) (yL _)) (yh (ycF (yjG (ybY fa.fl_log (z_v 0 ym) rfl) (T.cl 0) T.yrw yhH (hr.mono (by omega)) T.yth rfl) rfl)) (ye (ycF (yjG (ybY fa.fl_log (z_v 0 ym) rfl) (T.cl 0) T.yvj yjQ (hr.mono (by omega)) T.yxl rfl) rfl) (yh (yFK fa.fl_held (z_v 0 ym) (z_v 2 yAa) rfl)))) (yh (yx (z_v 3 yic)))))))⟩
theorem yCt (T:Txt K mg t) (ygo:FnOk P w K mg base CX0 (5) t.yeo t.yep ["self","boxes","slots"] (spI (ybF K t) 2 1 ydk)) (ybq:FnOk P w K mg base CX0 (28) t.yeq t.yer ["self","parts"] (spE (ybF K t) 2 (ybb 20))) (ylD:FnOk P w K mg base CX0 (1) t.ylk t.yll ["self"] (spE (ybF K t) 1 ygJ)) (ykF:FnOk P w K mg base CX0 (1) t.yiv t.yiw ["self"] (spE (ybF K t) 1 ygK)):FnOk P w K mg base CX0 (28+1) t.a_alone t.d_alone ["deed","boxes","slots"] (spE (ybF K t) 3 ylS):=by
 have fa:=T.fa
 exact zfn T.F_alone sc_alone fun cdv Ar outer sh H E hr=>(ye (yy (i:=3) sc_alone.nd rfl (Or.inl rfl) (yhO (ymw T.mk_Doing ygo (hr.mono (by omega)) yCp rfl T.m_Doing T.ynh (ya (z_v 1 yrD) (ya (z_v 2 ynC) yf rfl) rfl) rfl rfl)) rfl (Or.inl rfl)) (ye (yy (i:=4) sc_alone.nd rfl (Or.inl rfl) (yU (z_v 3 ylx) (T.cl 1) T.yce ybq (hr.mono (by omega)) T.ycl (ya (z_v 0 yGi) yf rfl) rfl rfl rfl) rfl (Or.inl rfl)) (ye (ybr (yW (yzb (ysD hr)) yFy (z_v 4 yic) (yoi (ss:=["done"]) yoL rfl T.m_DONE T.kt_DONE) (yL _)) (yh (yx (yex (ya (z_v 4 yic) (ya (yjG (ybY fa.fl_log (z_v 3 ylx) rfl) (T.cl 0) T.yqe ylD (hr.mono (by omega)) T.yti rfl) (ya (yjG (ybY fa.fl_log (z_v 3 ylx) rfl) (T.cl 0) T.ytv ykF (hr.mono (by omega)) T.yvf rfl) (ya (yhO (yfP yZ ycN ydZ rfl T.z_list ydV (ya (ybY fa.fl_held (z_v 3 ylx) rfl) yf rfl) rfl rfl)) yf rfl) rfl) rfl) rfl)))) yA) (yh (yx (yex (ya (z_v 4 yic) (ya (yjG (ybY fa.fl_log (z_v 3 ylx) rfl) (T.cl 0) T.yqe ylD (hr.mono (by omega)) T.yti rfl) (ya (yhO (ygg yf)) (ya (yhO (yfP yZ ycN ydZ rfl T.z_list ydV (ya (z_v 2 ynC) yf rfl) rfl rfl)) yf rfl) rfl) rfl) rfl)))))))
theorem yrG (T:Txt K mg t) :FnOk P w K mg base CX0 (0+1) t.ydF t.ydG ["_law_cell"] (spE (ybF K t) 1 ybG):=by
 have fa:=T.fa
 exact zfn T.yga yrp fun cdv Ar outer sh H E hr=>(yh (yx (ybD ybd ycj (ybD ynE yun (z_v 0 ycd) z_int) z_int)))
theorem ytI (T:Txt K mg t) :FnOk P w K mg base CX0 (0+1) t.yfn t.yfo ["_law_cell"] (spE (ybF K t) 1 ycO):=by
 have fa:=T.fa
 exact zfn T.yiB yte fun cdv Ar outer sh H E hr=>(yh (yx (ybD ybd ycj (ybD ynE yun (z_v 0 ycd) z_int) (ybD yvt yBl z_int z_int))))
structure yMl (P:Program) (w:World) (K:PySem.W.Frag) (mg:Str->Option Value) (base:Heap) (t:Ads) (n:Nat):Prop where
 ymR:FnOk P w K mg base CX0 (n+3) t.yhp t.yhq ["_law_found","_law_due"] (spE (ybF K t) 2 (yu n))
theorem yAj (T:Txt K mg t)  :∀ n,yMl P w K mg base t n
 | 0=>⟨ygV⟩
 | n+1=>by
  have fa:=T.fa
  have I:=yAj T  n
  have ygc:=I.ymR
  exact ⟨zfn T.yjq ylh fun cdv Ar outer sh H E hr=>(ye (ybr (yfO (ykH yba (yiW (K:=ckX _ _) fa.isa) yH rfl T.z_isinstance yE (ya (z_v 1 ydc) (ya (ysB ytC rfl T.z_int ysa) yf rfl) rfl) rfl rfl) (fun _=>rfl)) (yh (yx (yFE (ykH yba (yiW (K:=ckX _ _) fa.isa) yH rfl T.z_isinstance yE (ya (z_v 0 ybC) (ya (ysB ytC rfl T.z_int ysa) yf rfl) rfl) rfl rfl) (yFE (yKJ (ykH yba (yiW (K:=ckX _ _) fa.isa) yH rfl T.z_isinstance yE (ya (z_v 0 ybC) (ya (ysB yGh rfl T.z_bool yEy) yf rfl) rfl) rfl rfl)) (yId (ywW ydq yiS (z_v 0 ybC) (z_v 1 ydc) (yL _))))))) yA) (ye (ybr (yfO (ykH yba (yiW (K:=ckX _ _) fa.isa) yH rfl T.z_isinstance yE (ya (z_v 1 ydc) (ya (ysB yDV rfl T.z_str yCI) yf rfl) rfl) rfl rfl) (fun _=>rfl)) (yh (yx (yFE (ykH yba (yiW (K:=ckX _ _) fa.isa) yH rfl T.z_isinstance yE (ya (z_v 0 ybC) (ya (ysB yDV rfl T.z_str yCI) yf rfl) rfl) rfl rfl) (yId (ywW ydq yiS (z_v 0 ybC) (z_v 1 ydc) (yL _)))))) yA) (ye (ybr (yfO (ykH yba (yiW (K:=ckX _ _) fa.isa) yH rfl T.z_isinstance yE (ya (z_v 1 ydc) (ya (ysB ywl rfl T.z_tuple yvy) yf rfl) rfl) rfl rfl) (fun _=>rfl)) (yh (ybr (yvS (yfO (ykH yba (yiW (K:=ckX _ _) fa.isa) yH rfl T.z_isinstance yE (ya (z_v 0 ybC) (ya (ysB ywl rfl T.z_tuple yvy) yf rfl) rfl) rfl rfl) (fun _=>rfl))) (yh (yx yFD)) yA)) (yh (ybr (yvS (yfO (ykH yba (yiW (K:=ckX _ _) fa.isa) yH rfl T.z_isinstance yE (ya (z_v 0 ybC) (ya (ysB ydZ rfl T.z_list ydV) yf rfl) rfl) rfl rfl) (fun _=>rfl))) (yh (yx yFD)) yA))) (ye (ybr (yW yGP yLq (ykH ycK ymu yly rfl T.z_len ykN (ya (z_v 0 ybC) yf rfl) rfl rfl) (ykH ycK ymu yly rfl T.z_len ykN (ya (z_v 1 ydc) yf rfl) rfl rfl) (yL _)) (yh (yx yFD)) yA) (ye (ymx PassesOwn.never rfl (ynZ rfl T.z_range (ya (ykH ycK ymu yly rfl T.z_len ykN (ya (z_v 1 ydc) yf rfl) rfl rfl) yf rfl) rfl) (yey (i:=2) ylh.nd rfl (Or.inl rfl) (Or.inl rfl)) (yh (ybr (yvS (yfO (ybJ ygc (hr.mono (by omega)) ylv rfl T.ymG T.yjq.kp T.ymF (ya (yci yxS yFt (z_v 0 ybC) (z_v 2 ydm) (fun _ _=>rfl)) (ya (yci yxS yFt (z_v 1 ydc) (z_v 2 ydm) (fun _ _=>rfl)) yf rfl) rfl) rfl rfl) (fun _=>rfl))) (yh (yx yFD)) yA)) (fun _=>rfl)) (yh (yx yFD)))))))⟩
theorem yrH (T:Txt K mg t) (ybt:FnOk P w K mg base CX0 (1) t.ydF t.ydG ["_law_cell"] (spE (ybF K t) 1 ybG)):FnOk P w K mg base CX0 (1+1) t.yhr t.yhs ["_law_cell"] (spE (ybF K t) 1 yfS):=by
 have fa:=T.fa
 exact zfn T.ymH ybo fun cdv Ar outer sh H E hr=>(ye (yy (i:=1) ybo.nd rfl (Or.inl rfl) z_str rfl (Or.inl rfl)) (ye (yy (i:=2) ybo.nd rfl (Or.inl rfl) (ybJ ybt (hr.mono (by omega)) ygC rfl T.yhE T.yga.kp T.yhD (ya (z_v 0 ycd) yf rfl) rfl rfl) rfl (Or.inl rfl)) (ye (yy (i:=3) ybo.nd rfl (Or.inl rfl) (ybD ydT yhg z_int (ybD ybd ycj (z_v 2 yi) z_int)) rfl (Or.inl rfl)) (ye (yy (i:=4) ybo.nd rfl (Or.inl rfl) (ybD ybd ycj (ybD ybe ydK (z_v 2 yi) z_int) (z_v 3 ymP)) rfl (Or.inl rfl)) (ye (yoa (i:=5) ybo.nd rfl (Or.inl rfl) (ygg yf) rfl (Or.inl rfl)) (ye (ymx PassesOwn.never rfl (ynZ rfl T.z_range (ya z_int yf rfl) rfl) (yey (i:=6) ybo.nd rfl (Or.inl rfl) (Or.inl rfl)) (ye (yy (i:=7) ybo.nd rfl (Or.inl rfl) z_str rfl (Or.inl rfl)) (ye (ymx PassesOwn.never rfl (ynZ rfl T.z_range (ya (z_v 3 ymP) yf rfl) rfl) (yey (i:=8) ybo.nd rfl (Or.inl rfl) (Or.inl rfl)) (ye (yy (i:=9) ybo.nd rfl (Or.inl rfl) (ybD ydT yhg (ybD ybe ydK (ybD ybe ydK (z_v 2 yi) z_int) (ybD ydT yhg (ybD ynE yun (z_v 8 ydm) (z_v 8 ydm)) z_int)) (z_v 8 ydm)) rfl (Or.inl rfl)) (ye (ybr (yW ydq yiS (z_v 8 ydm) (z_v 4 ycf) (yL _)) (yh (yy (i:=9) ybo.nd rfl (Or.inl rfl) (ybD ydT yhg (z_v 9 ymO) (z_v 6 ytB)) rfl (Or.inl rfl))) yA) (yh (yy (i:=7) ybo.nd rfl (Or.inl rfl) (ybD ywo yHq (z_v 7 ymN) (yci ykK yst (z_v 1 ybT) (ybD ybd ycj (z_v 9 ymO) z_int) (fun _ _=>rfl))) rfl (Or.inl rfl))))) (fun _=>rfl)) (yh (yiL (ybv (i:=5) rfl (Or.inl rfl) yF.d yF.c) (z_v 7 ymN) rfl rfl rfl rfl rfl rfl)))) (fun _=>rfl)) (yob 5 (yh (yx (z_v 5 yF))))))))))
theorem yrI (T:Txt K mg t) (yde:FnOk P w K mg base CX0 (1) t.yfn t.yfo ["_law_cell"] (spE (ybF K t) 1 ycO)):FnOk P w K mg base CX0 (1+1) t.yht t.yhu ["_law_mixed_here","_law_cell"] (spE (ybF K t) 2 yfT):=by
 have fa:=T.fa
 exact zfn T.ymI ybB fun cdv Ar outer sh H E hr=>(ye (yy (i:=2) ybB.nd rfl (Or.inl rfl) (yLC yHb yJR z_str yBM (ygh (yci ix_list yfh (yhf (ygg (ya z_int (ya z_int (ya z_int yf rfl) rfl) rfl))) (ybD ybd ycj (z_v 0 yi) z_int) (fun _ _=>rfl)))) rfl (Or.inl rfl)) (ye (yy (i:=3) ybB.nd rfl (Or.inl rfl) (ykH yrV yHr yly rfl T.z_len ykN (ya (z_v 2 ybT) yf rfl) rfl rfl) rfl (Or.inl rfl)) (ye (yy (i:=4) ybB.nd rfl (Or.inl rfl) (ybD ybe ydK (z_v 0 yi) z_int) rfl (Or.inl rfl)) (ye (yy (i:=5) ybB.nd rfl (Or.inl rfl) (yci ykK yst (z_v 2 ybT) (ybD ybd ycj (z_v 4 ydI) (z_v 3 ybU)) (fun _ _=>rfl)) rfl (Or.inl rfl)) (ye (yy (i:=6) ybB.nd rfl (Or.inl rfl) (yci ykK yst (z_v 2 ybT) (ybD ybd ycj (ybD ybe ydK (z_v 4 ydI) (z_v 3 ybU)) (z_v 3 ybU)) (fun _ _=>rfl)) rfl (Or.inl rfl)) (ye (yy (i:=7) ybB.nd rfl (Or.inl rfl) (yci ykK yst (z_v 2 ybT) (ybD ybd ycj (ybD ybe ydK (ybD ybe ydK (z_v 4 ydI) (z_v 3 ybU)) (z_v 3 ybU)) (z_v 3 ybU)) (fun _ _=>rfl)) rfl (Or.inl rfl)) (ye (yy (i:=8) ybB.nd rfl (Or.inl rfl) (ybD ybd ycj (ybD ybe ydK (z_v 0 yi) z_int) z_int) rfl (Or.inl rfl)) (ye (ybr (yW ydq yiS (z_v 8 ygU) z_int (yL _)) (yh (yx (yhf (ygg (ya (yex (ya z_str (ya (z_v 5 yS) (ya (ybJ yde (hr.mono (by omega)) yjw rfl T.yky T.yiB.kp T.ykx (ya (z_v 1 ycd) yf rfl) rfl rfl) yf rfl) rfl) rfl)) yf rfl))))) yA) (ye (ybr (yW yrN yCQ (z_v 8 ygU) z_int (yL _)) (yh (yx (yhf (ygg (ya (yex (ya z_str (ya (z_v 5 yS) (ya (ybD ybd ycj (ybD ybe ydK (z_v 4 ydI) z_int) z_int) yf rfl) rfl) rfl)) yf rfl))))) yA) (ye (ybr (yW yrN yCQ (z_v 8 ygU) z_int (yL _)) (ye (yy (i:=9) ybB.nd rfl (Or.inl rfl) (yci ix_list yfh (yhf (ygg (ya z_str (ya z_str (ya z_str (ya z_str (ya z_str yf rfl) rfl) rfl) rfl) rfl))) (ybD ybd ycj (ybD ybe ydK (z_v 4 ydI) z_int) z_int) (fun _ _=>rfl)) rfl (Or.inl rfl)) (yh (yx (yhf (ygg (ya (yex (ya z_str (ya (z_v 9 yeG) (ya (z_v 5 yS) (ya (z_v 6 yG) (ya (z_v 7 ylw) yf rfl) rfl) rfl) rfl) rfl)) yf rfl)))))) yA) (ye (ybr (yW yrN yCQ (z_v 8 ygU) z_int (yL _)) (yh (yx (yhf (ygg (ya (yex (ya z_str (ya (z_v 5 yS) (ya (z_v 6 yG) yf rfl) rfl) rfl)) yf rfl))))) yA) (ye (ybr (yW yrN yCQ (z_v 8 ygU) z_int (yL _)) (yh (yx (yhf (ygg (ya (yex (ya z_str (ya (z_v 5 yS) (ya (z_v 6 yG) yf rfl) rfl) rfl)) yf rfl))))) yA) (ye (yy (i:=9) ybB.nd rfl (Or.inl rfl) (yci ix_list yfh (yhf (ygg (ya z_str (ya z_str (ya z_str yf rfl) rfl) rfl))) (ybD ybd ycj (ybD ybe ydK (z_v 4 ydI) z_int) z_int) (fun _ _=>rfl)) rfl (Or.inl rfl)) (ye (yy (i:=10) ybB.nd rfl (Or.inl rfl) (yhf (ygg (ya (yex (ya z_str (ya (z_v 5 yS) (ya (ybD ybd ycj (ybD ybe ydK (z_v 4 ydI) z_int) z_int) yf rfl) rfl) rfl)) (ya (yex (ya z_str (ya (z_v 6 yG) (ya (z_v 5 yS) yf rfl) rfl) rfl)) yf rfl) rfl))) rfl (Or.inl rfl)) (yh (yx (yhf (yyW yrW yyr (z_v 10 yN) (yhf (ygg (ya (yex (ya z_str (ya (z_v 9 yeG) (ya (z_v 6 yG) (ya (z_v 6 yG) (ya (z_v 7 ylw) yf rfl) rfl) rfl) rfl) rfl)) (ya (yex (ya z_str (ya (z_v 5 yS) (ya (z_v 6 yG) yf rfl) rfl) rfl)) yf rfl) rfl)))))))))))))))))))))
theorem yrJ (T:Txt K mg t) :FnOk P w K mg base CX0 (0+1) t.yhv t.yhw ["_law_mixed_here","_law_one","_law_other","_law_names_here"] (spE (ybF K t) 4 yfU):=by
 have fa:=T.fa
 exact zfn T.ymJ ycY fun cdv Ar outer sh H E hr=>(ye (yy (i:=4) ycY.nd rfl (Or.inl rfl) z_str rfl (Or.inl rfl)) (ye (yy (i:=5) ycY.nd rfl (Or.inl rfl) (yci ykK yst (z_v 4 ybT) (ybD ybd ycj (ybD ybe ydK (z_v 0 yi) z_int) z_int) (fun _ _=>rfl)) rfl (Or.inl rfl)) (ye (ybr (yW ydq yiS (ybD ybd ycj (z_v 0 yi) z_int) z_int (yL _)) (yh (yx (yex (ya z_str (ya (z_v 5 yju) (ya (z_v 1 yS) (ya (z_v 2 yG) yf rfl) rfl) rfl) rfl)))) yA) (ye (yy (i:=6) ycY.nd rfl (Or.inl rfl) (yex (ya z_str (ya (yci ix_list yfh (z_v 3 yF) (ybD ybd ycj (ybD ybe ydK (z_v 0 yi) z_int) z_int) (fun _ _=>rfl)) (ya (z_v 5 yju) yf rfl) rfl) rfl)) rfl (Or.inl rfl)) (ye (ybr (yW ydq yiS (ybD ybd ycj (ybD ybe ydK (z_v 0 yi) z_int) z_int) z_int (yL _)) (yh (yy (i:=1) ycY.nd rfl (Or.inl rfl) (yhf (yyW yrW yyr (z_v 1 yS) (yhf (ygg (ya (z_v 6 ymQ) yf rfl))))) rfl (Or.inl rfl))) yA) (ye (ybr (yW ydq yiS (ybD ybd ycj (ybD ybe ydK (z_v 0 yi) z_int) z_int) z_int (yL _)) (yh (yy (i:=1) ycY.nd rfl (Or.inl rfl) (yhf (yyW yrW yyr (z_v 1 yS) (yhf (ygg (ya (yex (ya z_str (ya (z_v 5 yju) (ya (yhf (ygg (ya (z_v 6 ymQ) yf rfl))) (ya (yhf (ygg yf)) yf rfl) rfl) rfl) rfl)) yf rfl))))) rfl (Or.inl rfl))) yA) (ye (ybr (yW ydq yiS (ybD ybd ycj (ybD ybe ydK (z_v 0 yi) z_int) z_int) z_int (yL _)) (yh (yy (i:=2) ycY.nd rfl (Or.inl rfl) (yhf (yyW yrW yyr (z_v 2 yG) (yhf (ygg (ya (yex (ya z_str (ya (yci ix_list yfh (z_v 3 yF) (ybD ybd ycj (ybD ybe ydK (z_v 0 yi) z_int) z_int) (fun _ _=>rfl)) (ya (yci ykK yst (z_v 4 ybT) (ybD ybd ycj (ybD ybe ydK (z_v 0 yi) z_int) z_int) (fun _ _=>rfl)) yf rfl) rfl) rfl)) yf rfl))))) rfl (Or.inl rfl))) yA) (yh (yx (yex (ya z_str (ya (z_v 1 yS) (ya (yci ix_list yfh (z_v 3 yF) (ybD ybd ycj (ybD ybe ydK (z_v 0 yi) z_int) z_int) (fun _ _=>rfl)) (ya (yci ykK yst (z_v 4 ybT) (ybD ybd ycj (ybD ybe ydK (z_v 0 yi) z_int) z_int) (fun _ _=>rfl)) (ya (z_v 2 yG) yf rfl) rfl) rfl) rfl) rfl)))))))))))
structure yMm (P:Program) (w:World) (K:PySem.W.Frag) (mg:Str->Option Value) (base:Heap) (t:Ads) (n:Nat):Prop where
 yoX:FnOk P w K mg base CX0 (n+3) t.yix t.yiy ["_law_cells","_law_depth","_law_names_here"] (spE (ybF K t) 3 (ydA n))
theorem yAk (T:Txt K mg t) (ybt:FnOk P w K mg base CX0 (1) t.ydF t.ydG ["_law_cell"] (spE (ybF K t) 1 ybG)) (yhJ:FnOk P w K mg base CX0 (2) t.yht t.yhu ["_law_mixed_here","_law_cell"] (spE (ybF K t) 2 yfT)) (yhK:FnOk P w K mg base CX0 (1) t.yhv t.yhw ["_law_mixed_here","_law_one","_law_other","_law_names_here"] (spE (ybF K t) 4 yfU)) :∀ n,yMm P w K mg base t n
 | 0=>⟨ygV⟩
 | n+1=>by
  have fa:=T.fa
  have I:=yAk T ybt yhJ yhK n
  have yfr:=I.yoX
  exact ⟨zfn T.yiC ybs fun cdv Ar outer sh H E hr=>(ye (yoa (i:=3) ybs.nd rfl (Or.inl rfl) (ygg yf) rfl (Or.inl rfl)) (ye (yy (i:=4) ybs.nd rfl (Or.inl rfl) z_int rfl (Or.inl rfl)) (ye (yBN 1000 PassesOwn.never (yW yrN yCQ (z_v 4 ycf) (ykH ycK ymu yly rfl T.z_len ykN (ya (z_v 0 ydb) yf rfl) rfl rfl) (yL _)) (ye (yy (i:=5) ybs.nd rfl (Or.inl rfl) (yci ix_list yfh (z_v 0 ydb) (z_v 4 ycf) (fun _ _=>rfl)) rfl (Or.inl rfl)) (ye (yy (i:=6) ybs.nd rfl (Or.inl rfl) (ybJ ybt (hr.mono (by omega)) ygC rfl T.yhE T.yga.kp T.yhD (ya (z_v 5 ycd) yf rfl) rfl rfl) rfl (Or.inl rfl)) (ye (yy (i:=4) ybs.nd rfl (Or.inl rfl) (ybD ydT yhg (z_v 4 ycf) z_int) rfl (Or.inl rfl)) (yh (ybr (yKK (yIg (yW ydq yiS (z_v 1 yiD) z_int (yL _)) (yDg (yW yrN yCQ (ybD ybd ycj (z_v 6 yi) z_int) z_int (yL _))))) (yob 3 (yh (yoa (i:=3) ybs.nd rfl (Or.inl rfl) (yyW yrW yyr (z_v 3 yN) (ybJ yhJ (hr.mono (by omega)) yrz rfl T.ytm T.ymI.kp T.ytl (ya (ybD ybe ydK (z_v 6 yi) z_int) (ya (z_v 5 ycd) yf rfl) rfl) rfl rfl)) rfl (Or.inl rfl)))) (yh (ybr (yW ydq yiS (ybD ybd ycj (z_v 6 yi) z_int) z_int (yL _)) (ye (yy (i:=7) ybs.nd rfl (Or.inl rfl) (yhf (ygg (ya (yex (ya z_str (ya (yci ix_list yfh (z_v 2 yF) (ybD ybd ycj (ybD ybe ydK (z_v 6 yi) z_int) z_int) (fun _ _=>rfl)) (ya (yci ykK yst z_str (ybD ybd ycj (ybD ybe ydK (z_v 6 yi) z_int) z_int) (fun _ _=>rfl)) yf rfl) rfl) rfl)) (ya (yex (ya z_str yf rfl)) yf rfl) rfl))) rfl (Or.inl rfl)) (yh (yiL (ybv (i:=3) rfl (Or.inl rfl) yN.d yN.c) (yci ix_list yfh (z_v 7 yrC) (ybD ybe ydK (ybD ybd ycj (ybD ybe ydK (z_v 6 yi) z_int) z_int) z_int) (fun _ _=>rfl)) rfl rfl rfl rfl rfl rfl))) (ye (yy (i:=8) ybs.nd rfl (Or.inl rfl) (ybD ybd ycj (ybD ybe ydK (z_v 6 yi) z_int) z_int) rfl (Or.inl rfl)) (ye (yy (i:=9) ybs.nd rfl (Or.inl rfl) (ybD ybd ycj (ybD ybe ydK (z_v 6 yi) z_int) z_int) rfl (Or.inl rfl)) (ye (yy (i:=10) ybs.nd rfl (Or.inl rfl) (ybJ yfr (hr.mono (by omega)) yjv rfl T.ykA T.yiC.kp T.ykz (ya (yhf (ywX ylI ywI (z_v 0 ydb) (ygh (z_v 4 ycf)) (ygh (ybD ydT yhg (z_v 4 ycf) (z_v 8 ybU))))) (ya (ybD yvs yBk (z_v 1 yiD) z_int) (ya (z_v 2 yF) yf rfl) rfl) rfl) rfl rfl) rfl (Or.inl rfl)) (ye (yy (i:=11) ybs.nd rfl (Or.inl rfl) (ybJ yfr (hr.mono (by omega)) yjv rfl T.ykA T.yiC.kp T.ykz (ya (yhf (ywX ylI ywI (z_v 0 ydb) (ygh (ybD ydT yhg (z_v 4 ycf) (z_v 8 ybU))) (ygh (ybD ydT yhg (ybD ydT yhg (z_v 4 ycf) (z_v 8 ybU)) (z_v 9 ymM))))) (ya (ybD yvs yBk (z_v 1 yiD) z_int) (ya (z_v 2 yF) yf rfl) rfl) rfl) rfl rfl) rfl (Or.inl rfl)) (ye (yy (i:=4) ybs.nd rfl (Or.inl rfl) (ybD ydT yhg (ybD ydT yhg (z_v 4 ycf) (z_v 8 ybU)) (z_v 9 ymM)) rfl (Or.inl rfl)) (yh (yiL (ybv (i:=3) rfl (Or.inl rfl) yN.d yN.c) (ybJ yhK (hr.mono (by omega)) yrA rfl T.yto T.ymJ.kp T.ytn (ya (ybD ybe ydK (z_v 6 yi) z_int) (ya (z_v 10 yS) (ya (z_v 11 yG) (ya (z_v 2 yF) yf rfl) rfl) rfl) rfl) rfl rfl) rfl rfl rfl rfl rfl rfl))))))))))))))) (yob 3 (yh (yx (z_v 3 yN)))))))⟩
structure yMn (P:Program) (w:World) (K:PySem.W.Frag) (mg:Str->Option Value) (base:Heap) (t:Ads) (n:Nat):Prop where
 yoY:FnOk P w K mg base CX0 (n+3) t.yiz t.yiA ["_law_tree_here"] (spE (ybF K t) 1 (ycP n))
theorem yAl (T:Txt K mg t) (ygE:FnOk P w K mg base CX0 (1) t.ygz t.ygA ["self","slot","parts","others"] (spI (ybF K t) 3 7 yeL)) (yfK:FnOk P w K mg base CX0 (1) t.yfC t.yfD ["self","slot","number"] (spI (ybF K t) 2 3 yee)) (yfL:FnOk P w K mg base CX0 (1) t.yfE t.yfF ["self","place","slot"] (spI (ybF K t) 2 6 yef)) (ydS:FnOk P w K mg base CX0 (1) t.ydO t.ydP ["self","word","slot","one","other"] (spI (ybF K t) 4 4 ycG)) (yeY:FnOk P w K mg base CX0 (1) t.yeT t.yeU ["self","slot","place"] (spI (ybF K t) 2 5 ydz)) (yeu:FnOk P w K mg base CX0 (1) t.yes t.yet ["self","name","slot"] (spI (ybF K t) 2 10 ydl)) (yfM:FnOk P w K mg base CX0 (1) t.yfG t.yfH ["self","parts","name","slot","others"] (spI (ybF K t) 4 9 yeg)) :∀ n,yMn P w K mg base t n
 | 0=>⟨ygV⟩
 | n+1=>by
  have fa:=T.fa
  have I:=yAl T ygE yfK yfL ydS yeY yeu yfM n
  have ydJ:=I.yoY
  exact ⟨zfn T.yfp yjm fun cdv Ar outer sh H E hr=>(ye (yoa (i:=1) yjm.nd rfl (Or.inl rfl) (ygg yf) rfl (Or.inl rfl)) (ye (ymx PassesOwn.never rfl (yqC (z_v 0 yN)) (yey (i:=2) yjm.nd rfl (Or.inl rfl) (Or.inl rfl)) (yh (ybr (yW ydq yiS (yci ix_tup ybE (z_v 2 yd) z_int (fun _ _=>rfl)) z_str (yL _)) (yh (yiL (ybv (i:=1) rfl (Or.inl rfl) yp.d yp.c) (yhf (ymw T.mk_Let yfK (hr.mono (by omega)) yDS rfl T.m_Let T.ypx (ya (yci ix_tup ybE (z_v 2 yd) z_int (fun _ _=>rfl)) (ya (yci ix_tup ybE (z_v 2 yd) z_int (fun _ _=>rfl)) yf rfl) rfl) rfl rfl)) rfl rfl rfl rfl rfl rfl)) (yh (ybr (yW ydq yiS (yci ix_tup ybE (z_v 2 yd) z_int (fun _ _=>rfl)) z_str (yL _)) (yh (yiL (ybv (i:=1) rfl (Or.inl rfl) yp.d yp.c) (yhf (ymw T.mk_Reckon ydS (hr.mono (by omega)) ytw rfl T.m_Reckon T.ymh (ya (yci ix_tup ybE (z_v 2 yd) z_int (fun _ _=>rfl)) (ya (yci ix_tup ybE (z_v 2 yd) z_int (fun _ _=>rfl)) (ya (yci ix_tup ybE (z_v 2 yd) z_int (fun _ _=>rfl)) (ya (yci ix_tup ybE (z_v 2 yd) z_int (fun _ _=>rfl)) yf rfl) rfl) rfl) rfl) rfl rfl)) rfl rfl rfl rfl rfl rfl)) (yh (ybr (yW ydq yiS (yci ix_tup ybE (z_v 2 yd) z_int (fun _ _=>rfl)) z_str (yL _)) (yh (yiL (ybv (i:=1) rfl (Or.inl rfl) yp.d yp.c) (yhf (ymw T.mk_Take yeY (hr.mono (by omega)) yzY rfl T.m_Take T.yoG (ya (yci ix_tup ybE (z_v 2 yd) z_int (fun _ _=>rfl)) (ya (yci ix_tup ybE (z_v 2 yd) z_int (fun _ _=>rfl)) yf rfl) rfl) rfl rfl)) rfl rfl rfl rfl rfl rfl)) (yh (ybr (yW ydq yiS (yci ix_tup ybE (z_v 2 yd) z_int (fun _ _=>rfl)) z_str (yL _)) (yh (yiL (ybv (i:=1) rfl (Or.inl rfl) yp.d yp.c) (yhf (ymw T.mk_Put yfL (hr.mono (by omega)) yDT rfl T.m_Put T.ypz (ya (yci ix_tup ybE (z_v 2 yd) z_int (fun _ _=>rfl)) (ya (yci ix_tup ybE (z_v 2 yd) z_int (fun _ _=>rfl)) yf rfl) rfl) rfl rfl)) rfl rfl rfl rfl rfl rfl)) (yh (ybr (yW ydq yiS (yci ix_tup ybE (z_v 2 yd) z_int (fun _ _=>rfl)) z_str (yL _)) (yh (yiL (ybv (i:=1) rfl (Or.inl rfl) yp.d yp.c) (yhf (ymw T.mk_If ygE (hr.mono (by omega)) yIR rfl T.m_If T.yrv (ya (yci ix_tup ybE (z_v 2 yd) z_int (fun _ _=>rfl)) (ya (ybJ ydJ (hr.mono (by omega)) ygb rfl T.ygT T.yfp.kp T.ygS (ya (yci ix_tup ybE (z_v 2 yd) z_int (fun _ _=>rfl)) yf rfl) rfl rfl) (ya (ybJ ydJ (hr.mono (by omega)) ygb rfl T.ygT T.yfp.kp T.ygS (ya (yci ix_tup ybE (z_v 2 yd) z_int (fun _ _=>rfl)) yf rfl) rfl rfl) yf rfl) rfl) rfl) rfl rfl)) rfl rfl rfl rfl rfl rfl)) (yh (ybr (yW ydq yiS (yci ix_tup ybE (z_v 2 yd) z_int (fun _ _=>rfl)) z_str (yL _)) (yh (yiL (ybv (i:=1) rfl (Or.inl rfl) yp.d yp.c) (yhf (ymw T.mk_Try yfM (hr.mono (by omega)) yDU rfl T.m_Try T.ypD (ya (ybJ ydJ (hr.mono (by omega)) ygb rfl T.ygT T.yfp.kp T.ygS (ya (yci ix_tup ybE (z_v 2 yd) z_int (fun _ _=>rfl)) yf rfl) rfl rfl) (ya (yci ix_tup ybE (z_v 2 yd) z_int (fun _ _=>rfl)) (ya (yci ix_tup ybE (z_v 2 yd) z_int (fun _ _=>rfl)) (ya (ybJ ydJ (hr.mono (by omega)) ygb rfl T.ygT T.yfp.kp T.ygS (ya (yci ix_tup ybE (z_v 2 yd) z_int (fun _ _=>rfl)) yf rfl) rfl rfl) yf rfl) rfl) rfl) rfl) rfl rfl)) rfl rfl rfl rfl rfl rfl)) (yh (ybr (yW ydq yiS (yci ix_tup ybE (z_v 2 yd) z_int (fun _ _=>rfl)) z_str (yL _)) (yh (yiL (ybv (i:=1) rfl (Or.inl rfl) yp.d yp.c) (yhf (ymw T.mk_Throw yeu (hr.mono (by omega)) ywi rfl T.m_Throw T.ynm (ya (yci ix_tup ybE (z_v 2 yd) z_int (fun _ _=>rfl)) (ya (yci ix_tup ybE (z_v 2 yd) z_int (fun _ _=>rfl)) yf rfl) rfl) rfl rfl)) rfl rfl rfl rfl rfl rfl)) (yh (yiL (ybv (i:=1) rfl (Or.inl rfl) yp.d yp.c) (yhf (yFG T.mk_Wait T.io_Wait T.kp_Wait yzZ rfl T.m_Wait)) rfl rfl rfl rfl rfl rfl)))))))))))))))) (fun _=>rfl)) (yob 1 (yh (yx (z_v 1 yp))))))⟩
theorem yrK (T:Txt K mg t) (ybt:FnOk P w K mg base CX0 (1) t.ydF t.ydG ["_law_cell"] (spE (ybF K t) 1 ybG)) (yde:FnOk P w K mg base CX0 (1) t.yfn t.yfo ["_law_cell"] (spE (ybF K t) 1 ycO)):FnOk P w K mg base CX0 (1+1) t.yhx t.yhy ["_law_cell"] (spE (ybF K t) 1 yfV):=by
 have fa:=T.fa
 exact zfn T.ymK ydN fun cdv Ar outer sh H E hr=>(ye (yy (i:=1) ydN.nd rfl (Or.inl rfl) (ybJ ybt (hr.mono (by omega)) ygC rfl T.yhE T.yga.kp T.yhD (ya (z_v 0 ycd) yf rfl) rfl rfl) rfl (Or.inl rfl)) (ye (yy (i:=2) ydN.nd rfl (Or.inl rfl) (yci ix_list yfh (yhf (ygg (ya z_int (ya z_int (ya z_int (ya (ybD ydT yhg z_int (ybD ybd ycj (ybD ybe ydK (z_v 1 yi) z_int) z_int)) yf rfl) rfl) rfl) rfl))) (ybD ybd ycj (z_v 1 yi) z_int) (fun _ _=>rfl)) rfl (Or.inl rfl)) (ye (yoa (i:=3) ydN.nd rfl (Or.inl rfl) (ygg yf) rfl (Or.inl rfl)) (ye (ymx PassesOwn.never rfl (ynZ rfl T.z_range (ya (z_v 2 ybU) yf rfl) rfl) (yey (i:=4) ydN.nd rfl (Or.inl rfl) (Or.inl rfl)) (ye (yy (i:=5) ydN.nd rfl (Or.inl rfl) (yhf (ygg (ya (ybD ybd ycj (ybD ybe ydK (ybD ybe ydK (z_v 1 yi) z_int) (ybD ydT yhg (z_v 4 ydm) z_int)) z_int) (ya (ybJ yde (hr.mono (by omega)) yjw rfl T.yky T.yiB.kp T.ykx (ya (ybD ydT yhg (z_v 0 ycd) (ybD ynE yun (z_v 4 ydm) (z_v 4 ydm))) yf rfl) rfl rfl) yf rfl) rfl))) rfl (Or.inl rfl)) (yh (yiL (ybv (i:=3) rfl (Or.inl rfl) yt.d yt.c) (yci ix_list yfh (z_v 5 ytA) (ybD ybd ycj (ybD ydT yhg (ybD ybe ydK (z_v 1 yi) z_int) (z_v 4 ydm)) z_int) (fun _ _=>rfl)) rfl rfl rfl rfl rfl rfl))) (fun _=>rfl)) (yob 3 (yh (yx (z_v 3 yt))))))))
theorem yrL (T:Txt K mg t) (ybt:FnOk P w K mg base CX0 (1) t.ydF t.ydG ["_law_cell"] (spE (ybF K t) 1 ybG)) (yde:FnOk P w K mg base CX0 (1) t.yfn t.yfo ["_law_cell"] (spE (ybF K t) 1 ycO)):FnOk P w K mg base CX0 (1+1) t.yhz t.yhA ["_law_cell"] (spE (ybF K t) 1 yfW):=by
 have fa:=T.fa
 exact zfn T.ymL yiq fun cdv Ar outer sh H E hr=>(ye (yy (i:=1) yiq.nd rfl (Or.inr rfl) (ybJ ybt (hr.mono (by omega)) ygC rfl T.yhE T.yga.kp T.yhD (ya (z_v 0 ycd) yf rfl) rfl rfl) rfl (Or.inl rfl)) (ye (yBT (iy:=2) [1] ["_law_mixed_here"] rfl (ynZ rfl T.z_range (ya z_int yf rfl) rfl) ⟨rfl,rfl,rfl,True.intro⟩ (fun _ _ _ _ _ _=>(ybD ybd ycj (ybD ybe ydK (yyU (i:=1) yi rfl (Or.inr (Or.inl rfl))) (ybD ydT yhg (ybD ynE yun (z_v 0 ydm) (z_v 0 ydm)) z_int)) z_int)) (by rfl') rfl (by rfl') (by rfl') (by rfl') rfl (fun _=>rfl) yiq.nd rfl (Or.inl rfl) (Or.inl rfl) rfl) (ye (ylR (ybJ yde (hr.mono (by omega)) yjw rfl T.yky T.yiB.kp T.ykx (ya (z_v 0 ycd) yf rfl) rfl rfl) (z_v 2 yl) (ybD ybd ycj (yyU (i:=1) yi rfl (Or.inr (Or.inl rfl))) z_int) (fun _=>rfl) rfl rfl rfl) (yh (yx (z_v 2 yl))))))
theorem yvn (T:Txt K mg t) :FnOk P w K mg base CX0 (0+1) t.yjN t.yjO ["_law_word","_law_one","_law_other"] (spE (ybF K t) 3 yhZ):=by
 have fa:=T.fa
 exact zfn T.yqc yuZ fun cdv Ar outer sh H E hr=>(ye (ybr (yW ydq yiS (z_v 0 yeG) z_str (yL _)) (yh (yx (yFH ynF yyt ytC rfl T.z_int ysa (ya (ywW yrN yCQ (z_v 1 yS) (z_v 2 yG) (yL _)) yf rfl) rfl rfl))) yA) (ye (ybr (yW ydq yiS (z_v 0 yeG) z_str (yL _)) (yh (yx (yFH ynF yyt ytC rfl T.z_int ysa (ya (ywW ydq yiS (z_v 1 yS) (z_v 2 yG) (yL _)) yf rfl) rfl rfl))) yA) (ye (ybr (yW ydq yiS (z_v 0 yeG) z_str (yL _)) (yh (yx (ybD ybd ycj (ybD ydT yhg (z_v 1 yS) (z_v 2 yG)) (ybD yvt yBl z_int z_int)))) yA) (ye (ybr (yW ydq yiS (z_v 0 yeG) z_str (yL _)) (yh (yx (ybD ybd ycj (ybD yvs yBk (z_v 1 yS) (z_v 2 yG)) (ybD yvt yBl z_int z_int)))) yA) (yh (yx (ybD ybd ycj (ybD ynE yun (z_v 1 yS) (z_v 2 yG)) (ybD yvt yBl z_int z_int))))))))
theorem yoZ (T:Txt K mg t) (ymq:FnOk P w K mg base CX0 (1) t.yjN t.yjO ["_law_word","_law_one","_law_other"] (spE (ybF K t) 3 yhZ)):FnOk P w K mg base CX0 (1+1) t.yfI t.yfJ ["_law_part_here","_law_boxes_here","_law_saw","_law_slots_here","_law_written"] (spE (ybF K t) 5 yeh):=by
 have fa:=T.fa
 exact zfn T.yjT ydB fun cdv Ar outer sh H E hr=>(yh (ybr (yW ydq yiS (yci ix_tup ybE (z_v 0 yd) z_int (fun _ _=>rfl)) z_str (yL _)) (yh (ylR (yci ix_tup ybE (z_v 0 yd) z_int (fun _ _=>rfl)) (z_v 3 yl) (yvT PySem.F.plainAttrs_str PySem.F.slot_str_find PySem.F.type_str_find ygj yej z_str (ya (yci ix_tup ybE (z_v 0 yd) z_int (fun _ _=>rfl)) yf rfl) rfl rfl rfl rfl rfl) (fun _=>rfl) rfl rfl rfl)) (yh (ybr (yW ydq yiS (yci ix_tup ybE (z_v 0 yd) z_int (fun _ _=>rfl)) z_str (yL _)) (ye (yy (i:=5) ydB.nd rfl (Or.inl rfl) (yci ix_list yfh (z_v 3 yl) (yvT PySem.F.plainAttrs_str PySem.F.slot_str_find PySem.F.type_str_find ygj yej z_str (ya (yci ix_tup ybE (z_v 0 yd) z_int (fun _ _=>rfl)) yf rfl) rfl rfl rfl rfl rfl) (fun _ _=>rfl)) rfl (Or.inl rfl)) (ye (yy (i:=6) ydB.nd rfl (Or.inl rfl) (yci ix_list yfh (z_v 3 yl) (yvT PySem.F.plainAttrs_str PySem.F.slot_str_find PySem.F.type_str_find ygj yej z_str (ya (yci ix_tup ybE (z_v 0 yd) z_int (fun _ _=>rfl)) yf rfl) rfl rfl rfl rfl rfl) (fun _ _=>rfl)) rfl (Or.inl rfl)) (yh (ylR (ybJ ymq (hr.mono (by omega)) yvl rfl T.yxn T.yqc.kp T.yxm (ya (yci ix_tup ybE (z_v 0 yd) z_int (fun _ _=>rfl)) (ya (z_v 5 yS) (ya (z_v 6 yG) yf rfl) rfl) rfl) rfl rfl) (z_v 3 yl) (yvT PySem.F.plainAttrs_str PySem.F.slot_str_find PySem.F.type_str_find ygj yej z_str (ya (yci ix_tup ybE (z_v 0 yd) z_int (fun _ _=>rfl)) yf rfl) rfl rfl rfl rfl rfl) (fun _=>rfl) rfl rfl rfl)))) (yh (ybr (yW ydq yiS (yci ix_tup ybE (z_v 0 yd) z_int (fun _ _=>rfl)) z_str (yL _)) (ye (yy (i:=7) ydB.nd rfl (Or.inl rfl) (ybD ybd ycj (yci ix_list yfh (z_v 3 yl) (yvT PySem.F.plainAttrs_str PySem.F.slot_str_find PySem.F.type_str_find ygj yej z_str (ya (yci ix_tup ybE (z_v 0 yd) z_int (fun _ _=>rfl)) yf rfl) rfl rfl rfl rfl rfl) (fun _ _=>rfl)) (ykH ycK ymu yly rfl T.z_len ykN (ya (z_v 1 yt) yf rfl) rfl rfl)) rfl (Or.inl rfl)) (yh (yqD (yqk hr) (z_v 4 yD) (z_v 7 ydH) (yci ix_list yfh (z_v 3 yl) (yvT PySem.F.plainAttrs_str PySem.F.slot_str_find PySem.F.type_str_find ygj yej z_str (ya (yci ix_tup ybE (z_v 0 yd) z_int (fun _ _=>rfl)) yf rfl) rfl rfl rfl rfl rfl) (fun _ _=>rfl)) rfl))) (ye (yy (i:=7) ydB.nd rfl (Or.inl rfl) (ybD ybd ycj (yci ix_list yfh (z_v 3 yl) (yvT PySem.F.plainAttrs_str PySem.F.slot_str_find PySem.F.type_str_find ygj yej z_str (ya (yci ix_tup ybE (z_v 0 yd) z_int (fun _ _=>rfl)) yf rfl) rfl rfl rfl rfl rfl) (fun _ _=>rfl)) (ykH ycK ymu yly rfl T.z_len ykN (ya (z_v 1 yt) yf rfl) rfl rfl)) rfl (Or.inl rfl)) (ye (ybr (yyY (yqk hr) (z_v 7 ydH) (z_v 4 yD) (by with_unfolding_all rfl)) (yh (yqD (yqk hr) (z_v 2 ydd) (z_v 7 ydH) (yci ix_list yfh (z_v 1 yt) (z_v 7 ydH) (fun _ _=>rfl)) rfl)) yA) (yh (ylR (yFI (yqk hr) (z_v 4 yD) (z_v 7 ydH) (yci ix_list yfh (z_v 1 yt) (z_v 7 ydH) (fun _ _=>rfl)) ⟨rfl,rfl,rfl,rfl⟩) (z_v 3 yl) (yvT PySem.F.plainAttrs_str PySem.F.slot_str_find PySem.F.type_str_find ygj yej z_str (ya (yci ix_tup ybE (z_v 0 yd) z_int (fun _ _=>rfl)) yf rfl) rfl rfl rfl rfl rfl) (fun _=>rfl) rfl rfl rfl))))))))))
theorem yrM (T:Txt K mg t) :FnOk P w K mg base CX0 (0+1) t.yhB t.yhC ["_law_found"] (spE (ybF K t) 1 ycM):=by
 have fa:=T.fa
 exact zfn T.yhF yrq fun cdv Ar outer sh H E hr=>(yh (yx (yhf (yIi [0] ["_law_found"] rfl (yqC (yhf (yFQ rfl (yyU (i:=0) ybC rfl (Or.inr (Or.inl rfl))) yoP rfl T.z_sorted yoc rfl rfl))) ⟨rfl,rfl,rfl,True.intro⟩ (fun _ _ _ _ _ _=>(yex (ya (z_v 0 ydH) (ya (yDj (yqk hr) (yyU (i:=1) ybC rfl (Or.inr (Or.inl rfl))) (z_v 0 ydH) (fun _ _=>rfl)) yf rfl) rfl))) (by rfl') rfl (by rfl') (by rfl') (by rfl') rfl (fun _=>rfl)))))
structure yMo (P:Program) (w:World) (K:PySem.W.Frag) (mg:Str->Option Value) (base:Heap) (t:Ads) (n:Nat):Prop where
 ytJ:FnOk P w K mg base CX0 (n+4) t.ylm t.yln ["_law_tree_here","_law_boxes_here","_law_saw","_law_slots_here","_law_written"] (spE (ybF K t) 5 (yfX n))
 ypa:FnOk P w K mg base CX0 (n+4) t.yku t.ykv ["_law_part_here","_law_boxes_here","_law_saw","_law_slots_here","_law_written"] (spE (ybF K t) 5 (ycy n))
theorem yAm (T:Txt K mg t) (yfN:FnOk P w K mg base CX0 (2) t.yfI t.yfJ ["_law_part_here","_law_boxes_here","_law_saw","_law_slots_here","_law_written"] (spE (ybF K t) 5 yeh)) :∀ n,yMo P w K mg base t n
 | 0=>⟨ygV,ygV⟩
 | n+1=>by
  have fa:=T.fa
  have I:=yAm T yfN n
  have ygZ:=I.ytJ
  have ypb:=I.ypa
  exact ⟨zfn T.yjt yib fun cdv Ar outer sh H E hr=>(ye (ymx PassesOwn.never rfl (yqC (z_v 0 yN)) (yey (i:=5) yib.nd rfl (Or.inl rfl) (Or.inl rfl)) (ye (yDi (ybJ ypb (hr.mono (by omega)) yty rfl T.yvi T.yoJ.kp T.yvh (ya (z_v 5 yd) (ya (z_v 1 yt) (ya (z_v 2 ydd) (ya (z_v 3 yl) (ya (z_v 4 yD) yf rfl) rfl) rfl) rfl) rfl) rfl rfl) (yDh rfl (yjF (yey (i:=6) yib.nd rfl (Or.inl rfl) (Or.inl rfl)) (yjF (yey (i:=3) yib.nd rfl (Or.inl rfl) (Or.inl rfl)) (yjF (yey (i:=4) yib.nd rfl (Or.inl rfl) (Or.inl rfl)) yyX rfl) rfl) rfl) rfl rfl) rfl rfl rfl) (yh (ybr (yW yEf yHp (z_v 6 yiE) yux (yL _)) (yh (yx (yex (ya (z_v 6 yiE) (ya (z_v 3 yl) (ya (z_v 4 yD) yf rfl) rfl) rfl)))) yA))) (fun _=>rfl)) (yh (yx (yex (ya yux (ya (z_v 3 yl) (ya (z_v 4 yD) yf rfl) rfl) rfl))))),
   zfn T.yoJ yeF fun cdv Ar outer sh H E hr=>(ye (ybr (yW ydq yiS (yci ix_tup ybE (z_v 0 yd) z_int (fun _ _=>rfl)) z_str (yL _)) (yh (yx (yex (ya (yex (ya z_str yf rfl)) (ya (z_v 3 yl) (ya (z_v 4 yD) yf rfl) rfl) rfl)))) yA) (ye (ybr (yW ydq yiS (yci ix_tup ybE (z_v 0 yd) z_int (fun _ _=>rfl)) z_str (yL _)) (yh (yx (yex (ya (yex (ya z_str (ya (yci ix_tup ybE (z_v 0 yd) z_int (fun _ _=>rfl)) (ya (yci ix_list yfh (z_v 3 yl) (yvT PySem.F.plainAttrs_str PySem.F.slot_str_find PySem.F.type_str_find ygj yej z_str (ya (yci ix_tup ybE (z_v 0 yd) z_int (fun _ _=>rfl)) yf rfl) rfl rfl rfl rfl rfl) (fun _ _=>rfl)) yf rfl) rfl) rfl)) (ya (z_v 3 yl) (ya (z_v 4 yD) yf rfl) rfl) rfl)))) yA) (ye (ybr (yW ydq yiS (yci ix_tup ybE (z_v 0 yd) z_int (fun _ _=>rfl)) z_str (yL _)) (ye (yy (i:=5) yeF.nd rfl (Or.inl rfl) (ybD ydT yhg z_int (yFH ynF yyt ytC rfl T.z_int ysa (ya (ywW ydq yiS (yci ix_list yfh (z_v 3 yl) (yvT PySem.F.plainAttrs_str PySem.F.slot_str_find PySem.F.type_str_find ygj yej z_str (ya (yci ix_tup ybE (z_v 0 yd) z_int (fun _ _=>rfl)) yf rfl) rfl rfl rfl rfl rfl) (fun _ _=>rfl)) z_int (yL _)) yf rfl) rfl rfl)) rfl (Or.inl rfl)) (yh (yx (ybJ ygZ (hr.mono (by omega)) yjP rfl T.ylt T.yjt.kp T.yls (ya (yci ix_tup ybE (z_v 0 yd) (z_v 5 ytz) (fun _ _=>rfl)) (ya (z_v 1 yt) (ya (z_v 2 ydd) (ya (z_v 3 yl) (ya (z_v 4 yD) yf rfl) rfl) rfl) rfl) rfl) rfl rfl)))) yA) (ye (ybr (yW ydq yiS (yci ix_tup ybE (z_v 0 yd) z_int (fun _ _=>rfl)) z_str (yL _)) (ye (yy (i:=6) yeF.nd rfl (Or.inl rfl) (ybJ ygZ (hr.mono (by omega)) yjP rfl T.ylt T.yjt.kp T.yls (ya (yci ix_tup ybE (z_v 0 yd) z_int (fun _ _=>rfl)) (ya (z_v 1 yt) (ya (z_v 2 ydd) (ya (yhO (yfP yZ ycN ydZ rfl T.z_list ydV (ya (z_v 3 yl) yf rfl) rfl rfl)) (ya (yhO (yfP ymy yvR yAb rfl T.z_dict yxZ (ya (z_v 4 yD) yf rfl) rfl rfl)) yf rfl) rfl) rfl) rfl) rfl) rfl rfl) rfl (Or.inl rfl)) (ye (ybr (yKK (yIg (yW yxH yEY (yci ix_tup ybE (z_v 6 ygD) z_int (fun _ _=>rfl)) yux (yL _)) (yDg (yW (yDk (ysD hr)) yHZ (yLC yFU yKI (yci ix_tup ybE (z_v 6 ygD) z_int (fun _ _=>rfl)) yBM (ygh z_int)) (yex (ya z_str (ya (yci ix_tup ybE (z_v 0 yd) z_int (fun _ _=>rfl)) yf rfl) rfl)) (yL _))))) (yh (yx (z_v 6 ygD))) yA) (ye (yy (i:=3) yeF.nd rfl (Or.inl rfl) (yhO (yfP yZ ycN ydZ rfl T.z_list ydV (ya (z_v 3 yl) yf rfl) rfl rfl)) rfl (Or.inl rfl)) (ye (ylR (yci yxS yFt (yci ix_tup ybE (z_v 6 ygD) z_int (fun _ _=>rfl)) z_int (fun _ _=>rfl)) (z_v 3 yl) (yvT PySem.F.plainAttrs_str PySem.F.slot_str_find PySem.F.type_str_find ygj yej z_str (ya (yci ix_tup ybE (z_v 0 yd) z_int (fun _ _=>rfl)) yf rfl) rfl rfl rfl rfl rfl) (fun _=>rfl) rfl rfl rfl) (yh (yx (ybJ ygZ (hr.mono (by omega)) yjP rfl T.ylt T.yjt.kp T.yls (ya (yci ix_tup ybE (z_v 0 yd) z_int (fun _ _=>rfl)) (ya (z_v 1 yt) (ya (z_v 2 ydd) (ya (z_v 3 yl) (ya (z_v 4 yD) yf rfl) rfl) rfl) rfl) rfl) rfl rfl))))))) yA) (ye (yy (i:=3) yeF.nd rfl (Or.inl rfl) (yhO (yfP yZ ycN ydZ rfl T.z_list ydV (ya (z_v 3 yl) yf rfl) rfl rfl)) rfl (Or.inl rfl)) (ye (yy (i:=4) yeF.nd rfl (Or.inl rfl) (yhO (yfP ymy yvR yAb rfl T.z_dict yxZ (ya (z_v 4 yD) yf rfl) rfl rfl)) rfl (Or.inl rfl)) (ye (ycF (ybJ yfN (hr.mono (by omega)) yoM rfl T.ypF T.yjT.kp T.ypE (ya (z_v 0 yd) (ya (z_v 1 yt) (ya (z_v 2 ydd) (ya (z_v 3 yl) (ya (z_v 4 yD) yf rfl) rfl) rfl) rfl) rfl) rfl rfl) rfl) (yh (yx (yex (ya yux (ya (z_v 3 yl) (ya (z_v 4 yD) yf rfl) rfl) rfl)))))))))))⟩
theorem yIU (T:Txt K mg t) (ygc:FnOk P w K mg base CX0 (8) t.yhp t.yhq ["_law_found","_law_due"] (spE (ybF K t) 2 (yu 5))) (yjz:FnOk P w K mg base CX0 (2) t.yhx t.yhy ["_law_cell"] (spE (ybF K t) 1 yfV)) (ygZ:FnOk P w K mg base CX0 (24) t.ylm t.yln ["_law_tree_here","_law_boxes_here","_law_saw","_law_slots_here","_law_written"] (spE (ybF K t) 5 (yfX 20))) (ydJ:FnOk P w K mg base CX0 (10) t.yiz t.yiA ["_law_tree_here"] (spE (ybF K t) 1 (ycP 7))) (yjA:FnOk P w K mg base CX0 (2) t.yhr t.yhs ["_law_cell"] (spE (ybF K t) 1 yfS)) (ygd:FnOk P w K mg base CX0 (1) t.yhB t.yhC ["_law_found"] (spE (ybF K t) 1 ycM)) (yjB:FnOk P w K mg base CX0 (2) t.yhz t.yhA ["_law_cell"] (spE (ybF K t) 1 yfW)) (yfr:FnOk P w K mg base CX0 (8) t.yix t.yiy ["_law_cells","_law_depth","_law_names_here"] (spE (ybF K t) 3 (ydA 5))) (G_alone:FnOk P w K mg base CX0 (29) t.a_alone t.d_alone ["deed","boxes","slots"] (spE (ybF K t) 3 ylS)):FnOk P w K mg base CX0 (29+1) t.a_law t.d_law ["_law_script"] (spE (ybF K t) 1 yBW):=by
 have fa:=T.fa
 exact zfn T.F_law sc_law fun cdv Ar outer sh H E hr=>(ye (yy (i:=1) sc_law.nd rfl (Or.inl rfl) (ybJ yjA (hr.mono (by omega)) yry rfl T.ytk T.ymH.kp T.ytj (ya (ykH (yql rfl) yFa yAf rfl T.z_sum yxY (ya (yhf (ywX ylI ywI (z_v 0 yhV) yBM (ygh z_int))) yf rfl) rfl rfl) yf rfl) rfl rfl) rfl (Or.inl rfl)) (ye (ymx PassesOwn.never rfl (yFJ rfl T.z_range (ya z_int (ya (ykH (yxI rfl) yHS yIT rfl T.z_max yIk (ya z_int (ya (ykH ycK ymu yly rfl T.z_len ykN (ya (z_v 0 yhV) yf rfl) rfl rfl) yf rfl) rfl) rfl rfl) (ya z_int yf rfl) rfl) rfl) rfl rfl) (yey (i:=2) sc_law.nd rfl (Or.inl rfl) (Or.inl rfl)) (ye (yy (i:=3) sc_law.nd rfl (Or.inl rfl) (yhf (ywX ylI ywI (z_v 0 yhV) (ygh (z_v 2 ycf)) (ygh (ybD ydT yhg (z_v 2 ycf) z_int)))) rfl (Or.inl rfl)) (ye (yy (i:=4) sc_law.nd rfl (Or.inl rfl) (ybJ yfr (hr.mono (by omega)) yjv rfl T.ykA T.yiC.kp T.ykz (ya (z_v 3 ydb) (ya z_int (ya (z_v 1 yF) yf rfl) rfl) rfl) rfl rfl) rfl (Or.inl rfl)) (ye (yy (i:=5) sc_law.nd rfl (Or.inl rfl) (ybJ yjz (hr.mono (by omega)) yrx rfl T.ytq T.ymK.kp T.ytp (ya (ybD ydT yhg (ykH (yql rfl) yFa yAf rfl T.z_sum yxY (ya (yhf (ywX ylI ywI (z_v 3 ydb) (ygh z_int) (ygh z_int))) yf rfl) rfl rfl) (z_v 2 ycf)) yf rfl) rfl rfl) rfl (Or.inl rfl)) (ye (yy (i:=6) sc_law.nd rfl (Or.inl rfl) (ybJ yjB (hr.mono (by omega)) yrB rfl T.yts T.ymL.kp T.ytr (ya (ybD ydT yhg (ykH (yql rfl) yFa yAf rfl T.z_sum yxY (ya (yhf (ywX ylI ywI (z_v 3 ydb) yBM (ygh z_int))) yf rfl) rfl rfl) (z_v 2 ycf)) yf rfl) rfl rfl) rfl (Or.inl rfl)) (ye (yy (i:=7) sc_law.nd rfl (Or.inl rfl) (yhO ysC) rfl (Or.inl rfl)) (ye (yDi (ybJ ygZ (hr.mono (by omega)) yjP rfl T.ylt T.yjt.kp T.yls (ya (z_v 4 yN) (ya (z_v 5 yt) (ya (z_v 7 ydd) (ya (yhO (yfP yZ ycN ydZ rfl T.z_list ydV (ya (z_v 6 yl) yf rfl) rfl rfl)) (ya (yhO ysC) yf rfl) rfl) rfl) rfl) rfl) rfl rfl) (yDh rfl (yjF (yey (i:=8) sc_law.nd rfl (Or.inl rfl) (Or.inl rfl)) (yjF (yey (i:=9) sc_law.nd rfl (Or.inl rfl) (Or.inl rfl)) (yjF (yey (i:=10) sc_law.nd rfl (Or.inl rfl) (Or.inl rfl)) yyX rfl) rfl) rfl) rfl rfl) rfl rfl rfl) (ye (yy (i:=11) sc_law.nd rfl (Or.inl rfl) (yex (ya (z_v 8 yiE) (ya (ybJ ygd (hr.mono (by omega)) yiF rfl T.yjs T.yhF.kp T.yjr (ya (z_v 7 ydd) yf rfl) rfl rfl) (ya (yhf (ygg yf)) (ya (z_v 6 yl) yf rfl) rfl) rfl) rfl)) rfl (Or.inl rfl)) (ye (ybr (yW yxH yEY (z_v 8 yiE) yux (yL _)) (yh (yy (i:=11) sc_law.nd rfl (Or.inl rfl) (yex (ya (yex (ya z_str yf rfl)) (ya (ybJ ygd (hr.mono (by omega)) yiF rfl T.yjs T.yhF.kp T.yjr (ya (z_v 7 ydd) yf rfl) rfl rfl) (ya (ybJ ygd (hr.mono (by omega)) yiF rfl T.yjs T.yhF.kp T.yjr (ya (z_v 10 yD) yf rfl) rfl rfl) (ya (z_v 9 ytx) yf rfl) rfl) rfl) rfl)) rfl (Or.inl rfl))) yA) (yh (ybr (yvS (yfO (ybJ ygc (hr.mono (by omega)) ylv rfl T.ymG T.yjq.kp T.ymF (ya (ybJ G_alone (hr.mono (by omega)) yCr rfl T.m_alone T.F_alone.kp T.b_alone (ya (ybJ ydJ (hr.mono (by omega)) ygb rfl T.ygT T.yfp.kp T.ygS (ya (z_v 4 yN) yf rfl) rfl rfl) (ya (yhf (yfP yZ ycN ydZ rfl T.z_list ydV (ya (z_v 5 yt) yf rfl) rfl rfl)) (ya (yhf (yfP yZ ycN ydZ rfl T.z_list ydV (ya (z_v 6 yl) yf rfl) rfl rfl)) yf rfl) rfl) rfl) rfl rfl) (ya (z_v 11 ydc) yf rfl) rfl) rfl rfl) (fun _=>rfl))) (yh (yx yFD)) yA)))))))))) (fun _=>rfl)) (yh (yx yFD))))
noncomputable def yCu (K:PySem.W.Frag):Sp:=fun vs H Q _=>∃ (a:Addr) (ns:List Int),vs=[.ref a]/\SqL K H a (ns.map V.int)/\ns.length<=63/\∀ H',Q (.bl true) H'
theorem yIV {A:Nat->Addr}:∀ vs H Q E,yCu K vs H Q E->spE ⟨K,A⟩ 1 yBW vs H Q E:=by
 rintro _ H Q E ⟨a,ns,rfl,hS,hl,q⟩
 obtain ⟨h',e⟩:=yIQ (h:=[]) ns hl
 exact ⟨⟨H,H,[],[]⟩,[.scr ns],.bl true,h',rfl,⟨Same.refl _,rfl,List.nodup_nil,fun n d a e=>by simp at e⟩,⟨.ref a,[],rfl,⟨a,rfl,hS⟩,rfl⟩,rfl,e,fun v W' _ _ rv=>by rw [show v=_ from rv];exact q _⟩
end
theorem all_mk {l:PySem.W.OpenLaw}{w:World}{K:PySem.W.Frag}{h:Heap}{mg:Str->Option Value}{fa CLog CDoing CDoer CLet CReckon CTake CPut CIf CEither CTry CThrow CWait f1 f2 f3 f4 f5 f6 f7 f8 f9 f10 f11 f12 f13 f14 f15 f16 f17 f18 f19 f20 f21 f22 f23 f24 f25 f26 f27 f28 f29 f30 f31 f32 f33 f34 f35 f36 f37 f38 f39 f40 f41 f42 f43 f44 f45 f46 f47 f48 f49 f50 f51 f52 f53 u1 u3:Addr}{u2 u4:Tok}(X:K.In h) (G:h.Ns mainGlobals mg) (hfa:mg "law" = some (.ref fa))
  {od1 an1 od2 an2 od3 an3 od4 an4 od5 an5 od6 an6 od7 an7 od8 an8 od9 an9 od10 an10 od11 an11 od12 an12 od13 an13 od14 an14 od15 an15 od16 an16 od17 an17 od18 an18 od19 an19 od20 an20 od21 an21 od22 an22 od23 an23 od24 an24 od25 an25 od26 an26 od27 an27 od28 an28 od29 an29 od30 an30 od31 an31 od32 an32 od33 an33 od34 an34 od35 an35 od36 an36 od37 an37 od38 an38 od39 an39 od40 an40 od41 an41 od42 an42 od43 an43 od44 an44 od45 an45 od46 an46 od47 an47 od48 an48 od49 an49 od50 an50 od51 an51 od52 an52 od53 an53:Option Addr}{sl1 sl2 sl3 sl4 sl5 sl6 sl7 sl8 sl9 sl10 sl11 sl12 sl13 sl14 sl15 sl16 sl17 sl18 sl19 sl20 sl21 sl22 sl23 sl24 sl25 sl26 sl27 sl28 sl29 sl30 sl31 sl32 sl33 sl34 sl35 sl36 sl37 sl38 sl39 sl40 sl41 sl42 sl43 sl44 sl45 sl46 sl47 sl48 sl49 sl50 sl51 sl52 sl53:Array (Option Value)}{oc1 kV1 dc1 pm1 cd1 ct1 oc2 kV2 dc2 pm2 cd2 ct2 oc3 kV3 dc3 pm3 cd3 ct3 oc4 kV4 dc4 pm4 cd4 ct4 oc5 kV5 dc5 pm5 cd5 ct5 oc6 kV6 dc6 pm6 cd6 ct6 oc7 kV7 dc7 pm7 cd7 ct7 oc8 kV8 dc8 pm8 cd8 ct8 oc9 kV9 dc9 pm9 cd9 ct9 oc10 kV10 dc10 pm10 cd10 ct10 oc11 kV11 dc11 pm11 cd11 ct11 oc12 kV12 dc12 pm12 cd12 ct12 oc13 kV13 dc13 pm13 cd13 ct13 oc14 kV14 dc14 pm14 cd14 ct14 oc15 kV15 dc15 pm15 cd15 ct15 oc16 kV16 dc16 pm16 cd16 ct16 oc17 kV17 dc17 pm17 cd17 ct17 oc18 kV18 dc18 pm18 cd18 ct18 oc19 kV19 dc19 pm19 cd19 ct19 oc20 kV20 dc20 pm20 cd20 ct20 oc21 kV21 dc21 pm21 cd21 ct21 oc22 kV22 dc22 pm22 cd22 ct22 oc23 kV23 dc23 pm23 cd23 ct23 oc24 kV24 dc24 pm24 cd24 ct24 oc25 kV25 dc25 pm25 cd25 ct25 oc26 kV26 dc26 pm26 cd26 ct26 oc27 kV27 dc27 pm27 cd27 ct27 oc28 kV28 dc28 pm28 cd28 ct28 oc29 kV29 dc29 pm29 cd29 ct29 oc30 kV30 dc30 pm30 cd30 ct30 oc31 kV31 dc31 pm31 cd31 ct31 oc32 kV32 dc32 pm32 cd32 ct32 oc33 kV33 dc33 pm33 cd33 ct33 oc34 kV34 dc34 pm34 cd34 ct34 oc35 kV35 dc35 pm35 cd35 ct35 oc36 kV36 dc36 pm36 cd36 ct36 oc37 kV37 dc37 pm37 cd37 ct37 oc38 kV38 dc38 pm38 cd38 ct38 oc39 kV39 dc39 pm39 cd39 ct39 oc40 kV40 dc40 pm40 cd40 ct40 oc41 kV41 dc41 pm41 cd41 ct41 oc42 kV42 dc42 pm42 cd42 ct42 oc43 kV43 dc43 pm43 cd43 ct43 oc44 kV44 dc44 pm44 cd44 ct44 oc45 kV45 dc45 pm45 cd45 ct45 oc46 kV46 dc46 pm46 cd46 ct46 oc47 kV47 dc47 pm47 cd47 ct47 oc48 kV48 dc48 pm48 cd48 ct48 oc49 kV49 dc49 pm49 cd49 ct49 oc50 kV50 dc50 pm50 cd50 ct50 oc51 kV51 dc51 pm51 cd51 ct51 oc52 kV52 dc52 pm52 cd52 ct52 oc53 kV53 dc53 pm53 cd53 ct53:Value}{qd1:Option Addr}{qn1:Nat}{qs1:Array (Option Value)}{qt1_0:Tok}{qd3:Option Addr}{qn3:Nat}{qs3:Array (Option Value)}{qt3_0:Tok}
  (nCLog:nsIn K mainGlobals "Log" = some (some (.ref CLog)))
  (nCDoing:nsIn K mainGlobals "Doing" = some (some (.ref CDoing)))
  (nCDoer:nsIn K mainGlobals "Doer" = some (some (.ref CDoer)))
  (nCLet:nsIn K mainGlobals "Let" = some (some (.ref CLet)))
  (nCReckon:nsIn K mainGlobals "Reckon" = some (some (.ref CReckon)))
  (nCTake:nsIn K mainGlobals "Take" = some (some (.ref CTake)))
  (nCPut:nsIn K mainGlobals "Put" = some (some (.ref CPut)))
  (nCIf:nsIn K mainGlobals "If" = some (some (.ref CIf)))
  (nCEither:nsIn K mainGlobals "Either" = some (some (.ref CEither)))
  (nCTry:nsIn K mainGlobals "Try" = some (some (.ref CTry)))
  (nCThrow:nsIn K mainGlobals "Throw" = some (some (.ref CThrow)))
  (nCWait:nsIn K mainGlobals "Wait" = some (some (.ref CWait)))
  (yha:findIn K (.ref CLog) "__init__" = some (some (.ref f1)))
  (yfs:findIn K (.ref CDoing) "__init__" = some (some (.ref f25)))
  (ygp:findIn K (.ref CDoer) "__init__" = some (some (.ref f12)))
  (yhb:findIn K (.ref CLet) "__init__" = some (some (.ref f21)))
  (yeZ:findIn K (.ref CReckon) "__init__" = some (some (.ref f22)))
  (ygq:findIn K (.ref CTake) "__init__" = some (some (.ref f23)))
  (yhc:findIn K (.ref CPut) "__init__" = some (some (.ref f24)))
  (yhY:findIn K (.ref CIf) "__init__" = some (some (.ref f35)))
  (yhd:findIn K (.ref CTry) "__init__" = some (some (.ref f36)))
  (yft:findIn K (.ref CThrow) "__init__" = some (some (.ref f37)))
  (yjC:findIn K (.ref CLog) "write" = some (some (.ref f2)))
  (ymr:findIn K (.ref CLog) "own" = some (some (.ref f3)))
  (yjD:findIn K (.ref CLog) "begin" = some (some (.ref f4)))
  (yiK:findIn K (.ref CLog) "settle" = some (some (.ref f5)))
  (ykG:findIn K (.ref CLog) "drop" = some (some (.ref f6)))
  (yms:findIn K (.ref CLog) "see" = some (some (.ref f7)))
  (ymt:findIn K (.ref CLog) "saw" = some (some (.ref f8)))
  (yjE:findIn K (.ref CLog) "wrote" = some (some (.ref f9)))
  (fs_Doing_held_in:findIn K (.ref CDoing) "held_in" = some (some (.ref f13)))
  (fs_Doing_hold:findIn K (.ref CDoing) "hold" = some (some (.ref f14)))
  (fs_Doing_box_at:findIn K (.ref CDoing) "box_at" = some (some (.ref f15)))
  (fs_Doing_do_reckon:findIn K (.ref CDoing) "do_reckon" = some (some (.ref f16)))
  (fs_Doing_do_put:findIn K (.ref CDoing) "do_put" = some (some (.ref f17)))
  (fs_Doing_sees_at:findIn K (.ref CDoing) "sees_at" = some (some (.ref f18)))
  (fs_Doing_take_own:findIn K (.ref CDoing) "take_own" = some (some (.ref f19)))
  (fs_Doing_take_seen:findIn K (.ref CDoing) "take_seen" = some (some (.ref f20)))
  (yfa:findIn K (.ref CDoing) "take_done" = some (some (.ref f26)))
  (yeC:findIn K (.ref CDoing) "plain_done" = some (some (.ref f27)))
  (yfu:findIn K (.ref CDoing) "list_end" = some (some (.ref f28)))
  (yfv:findIn K (.ref CDoing) "part_end" = some (some (.ref f29)))
  (yhe:findIn K (.ref CDoing) "if_end" = some (some (.ref f30)))
  (yeD:findIn K (.ref CDoing) "either_end" = some (some (.ref f31)))
  (ygr:findIn K (.ref CDoing) "try_end" = some (some (.ref f32)))
  (yea:findIn K (.ref CDoing) "layered_end" = some (some (.ref f33)))
  (cr_Doer:PySem.W.readsIn K CDoer (.type "type")=true)
  (cc_Doer:PySem.W.findCls K (.ref CDoer) (.type "type") "__init__" = some (.val (.ref f12)))
  (cs_Doer:PySem.W.specialIn K (.ref CDoer) "__getattribute__" = some (some (.builtin "type.__getattribute__")))
  (i1:isFn K (.ref f1)=true)
  (l1:K.lookup f1=some ⟨oc1,od1,.func (fnOf "__init__" "Log.__init__" (yk ybL) (yj ybL) (yb ybL) .none kV1 dc1 pm1 an1 cd1 ct1),sl1⟩)
  (c1:codeIn K cd1 "Log.__init__" = true)
  (k1:keepIn K (.ref f1)=true)
  (i2:isFn K (.ref f2)=true)
  (l2:K.lookup f2=some ⟨oc2,od2,.func (fnOf "write" "Log.write" (yk ycQ) (yj ycQ) (yb ycQ) .none kV2 dc2 pm2 an2 cd2 ct2),sl2⟩)
  (c2:codeIn K cd2 "Log.write" = true)
  (k2:keepIn K (.ref f2)=true)
  (i3:isFn K (.ref f3)=true)
  (l3:K.lookup f3=some ⟨oc3,od3,.func (fnOf "own" "Log.own" (yk yeM) (yj yeM) (yb yeM) .none kV3 dc3 pm3 an3 cd3 ct3),sl3⟩)
  (c3:codeIn K cd3 "Log.own" = true)
  (k3:keepIn K (.ref f3)=true)
  (i4:isFn K (.ref f4)=true)
  (l4:K.lookup f4=some ⟨oc4,od4,.func (fnOf "begin" "Log.begin" (yk ycR) (yj ycR) (yb ycR) .none kV4 dc4 pm4 an4 cd4 ct4),sl4⟩)
  (c4:codeIn K cd4 "Log.begin" = true)
  (k4:keepIn K (.ref f4)=true)
  (i5:isFn K (.ref f5)=true)
  (l5:K.lookup f5=some ⟨oc5,od5,.func (fnOf "settle" "Log.settle" (yk yco) (yj yco) (yb yco) .none kV5 dc5 pm5 an5 cd5 ct5),sl5⟩)
  (c5:codeIn K cd5 "Log.settle" = true)
  (k5:keepIn K (.ref f5)=true)
  (i6:isFn K (.ref f6)=true)
  (l6:K.lookup f6=some ⟨oc6,od6,.func (fnOf "drop" "Log.drop" (yk ydL) (yj ydL) (yb ydL) .none kV6 dc6 pm6 an6 cd6 ct6),sl6⟩)
  (c6:codeIn K cd6 "Log.drop" = true)
  (k6:keepIn K (.ref f6)=true)
  (i7:isFn K (.ref f7)=true)
  (l7:K.lookup f7=some ⟨oc7,od7,.func (fnOf "see" "Log.see" (yk yeN) (yj yeN) (yb yeN) .none kV7 dc7 pm7 an7 cd7 ct7),sl7⟩)
  (c7:codeIn K cd7 "Log.see" = true)
  (k7:keepIn K (.ref f7)=true)
  (i8:isFn K (.ref f8)=true)
  (l8:K.lookup f8=some ⟨oc8,od8,.func (fnOf "saw" "Log.saw" (yk yeO) (yj yeO) (yb yeO) .none kV8 dc8 pm8 an8 cd8 ct8),sl8⟩)
  (c8:codeIn K cd8 "Log.saw" = true)
  (k8:keepIn K (.ref f8)=true)
  (i9:isFn K (.ref f9)=true)
  (l9:K.lookup f9=some ⟨oc9,od9,.func (fnOf "wrote" "Log.wrote" (yk ycS) (yj ycS) (yb ycS) .none kV9 dc9 pm9 an9 cd9 ct9),sl9⟩)
  (c9:codeIn K cd9 "Log.wrote" = true)
  (k9:keepIn K (.ref f9)=true)
  (a10:nsIn K mainGlobals "reckon" = some (some (.ref f10)))
  (l10:K.lookup f10=some ⟨oc10,od10,.func (fnOf "reckon" "reckon" (yk ygw) (yj ygw) (yb ygw) .none kV10 dc10 pm10 an10 cd10 ct10),sl10⟩)
  (c10:codeIn K cd10 "reckon" = true)
  (k10:keepIn K (.ref f10)=true)
  (a11:nsIn K mainGlobals "slot_index" = some (some (.ref f11)))
  (l11:K.lookup f11=some ⟨oc11,od11,.func (fnOf "slot_index" "slot_index" (yk ycp) (yj ycp) (yb ycp) .none kV11 dc11 pm11 an11 cd11 ct11),sl11⟩)
  (c11:codeIn K cd11 "slot_index" = true)
  (k11:keepIn K (.ref f11)=true)
  (i12:isFn K (.ref f12)=true)
  (l12:K.lookup f12=some ⟨oc12,od12,.func (fnOf "__init__" "Doer.__init__" (yk ybx) (yj ybx) (yb ybx) .none kV12 dc12 pm12 an12 cd12 ct12),sl12⟩)
  (c12:codeIn K cd12 "Doer.__init__" = true)
  (k12:keepIn K (.ref f12)=true)
  (i13:isFn K (.ref f13)=true)
  (l13:K.lookup f13=some ⟨oc13,od13,.func (fnOf "held_in" "Doer.held_in" (yk ybM) (yj ybM) (yb ybM) .none kV13 dc13 pm13 an13 cd13 ct13),sl13⟩)
  (c13:codeIn K cd13 "Doer.held_in" = true)
  (k13:keepIn K (.ref f13)=true)
  (i14:isFn K (.ref f14)=true)
  (l14:K.lookup f14=some ⟨oc14,od14,.func (fnOf "hold" "Doer.hold" (yk ycT) (yj ycT) (yb ycT) .none kV14 dc14 pm14 an14 cd14 ct14),sl14⟩)
  (c14:codeIn K cd14 "Doer.hold" = true)
  (k14:keepIn K (.ref f14)=true)
  (i15:isFn K (.ref f15)=true)
  (l15:K.lookup f15=some ⟨oc15,od15,.func (fnOf "box_at" "Doer.box_at" (yk ybZ) (yj ybZ) (yb ybZ) .none kV15 dc15 pm15 an15 cd15 ct15),sl15⟩)
  (c15:codeIn K cd15 "Doer.box_at" = true)
  (k15:keepIn K (.ref f15)=true)
  (i16:isFn K (.ref f16)=true)
  (l16:K.lookup f16=some ⟨oc16,od16,.func (fnOf "do_reckon" "Doer.do_reckon" (yk ybi) (yj ybi) (yb ybi) .none kV16 dc16 pm16 an16 cd16 ct16),sl16⟩)
  (c16:codeIn K cd16 "Doer.do_reckon" = true)
  (k16:keepIn K (.ref f16)=true)
  (i17:isFn K (.ref f17)=true)
  (l17:K.lookup f17=some ⟨oc17,od17,.func (fnOf "do_put" "Doer.do_put" (yk yca) (yj yca) (yb yca) .none kV17 dc17 pm17 an17 cd17 ct17),sl17⟩)
  (c17:codeIn K cd17 "Doer.do_put" = true)
  (k17:keepIn K (.ref f17)=true)
  (i18:isFn K (.ref f18)=true)
  (l18:K.lookup f18=some ⟨oc18,od18,.func (fnOf "sees_at" "Doer.sees_at" (yk ybN) (yj ybN) (yb ybN) .none kV18 dc18 pm18 an18 cd18 ct18),sl18⟩)
  (c18:codeIn K cd18 "Doer.sees_at" = true)
  (k18:keepIn K (.ref f18)=true)
  (i19:isFn K (.ref f19)=true)
  (l19:K.lookup f19=some ⟨oc19,od19,.func (fnOf "take_own" "Doer.take_own" (yk yby) (yj yby) (yb yby) .none kV19 dc19 pm19 an19 cd19 ct19),sl19⟩)
  (c19:codeIn K cd19 "Doer.take_own" = true)
  (k19:keepIn K (.ref f19)=true)
  (i20:isFn K (.ref f20)=true)
  (l20:K.lookup f20=some ⟨oc20,od20,.func (fnOf "take_seen" "Doer.take_seen" (yk ybj) (yj ybj) (yb ybj) .none kV20 dc20 pm20 an20 cd20 ct20),sl20⟩)
  (c20:codeIn K cd20 "Doer.take_seen" = true)
  (k20:keepIn K (.ref f20)=true)
  (i21:isFn K (.ref f21)=true)
  (l21:K.lookup f21=some ⟨oc21,od21,.func (fnOf "__init__" "Let.__init__" (yk ybO) (yj ybO) (yb ybO) .none kV21 dc21 pm21 an21 cd21 ct21),sl21⟩)
  (c21:codeIn K cd21 "Let.__init__" = true)
  (k21:keepIn K (.ref f21)=true)
  (i22:isFn K (.ref f22)=true)
  (l22:K.lookup f22=some ⟨oc22,od22,.func (fnOf "__init__" "Reckon.__init__" (yk ybf) (yj ybf) (yb ybf) .none kV22 dc22 pm22 an22 cd22 ct22),sl22⟩)
  (c22:codeIn K cd22 "Reckon.__init__" = true)
  (k22:keepIn K (.ref f22)=true)
  (i23:isFn K (.ref f23)=true)
  (l23:K.lookup f23=some ⟨oc23,od23,.func (fnOf "__init__" "Take.__init__" (yk ybz) (yj ybz) (yb ybz) .none kV23 dc23 pm23 an23 cd23 ct23),sl23⟩)
  (c23:codeIn K cd23 "Take.__init__" = true)
  (k23:keepIn K (.ref f23)=true)
  (i24:isFn K (.ref f24)=true)
  (l24:K.lookup f24=some ⟨oc24,od24,.func (fnOf "__init__" "Put.__init__" (yk ybP) (yj ybP) (yb ybP) .none kV24 dc24 pm24 an24 cd24 ct24),sl24⟩)
  (c24:codeIn K cd24 "Put.__init__" = true)
  (k24:keepIn K (.ref f24)=true)
  (i25:isFn K (.ref f25)=true)
  (l25:K.lookup f25=some ⟨oc25,od25,.func (fnOf "__init__" "Doing.__init__" (yk ybk) (yj ybk) (yb ybk) .none kV25 dc25 pm25 an25 cd25 ct25),sl25⟩)
  (c25:codeIn K cd25 "Doing.__init__" = true)
  (k25:keepIn K (.ref f25)=true)
  (i26:isFn K (.ref f26)=true)
  (l26:K.lookup f26=some ⟨oc26,od26,.func (fnOf "take_done" "Doing.take_done" (yk ybg) (yj ybg) (yb ybg) .none kV26 dc26 pm26 an26 cd26 ct26),sl26⟩)
  (c26:codeIn K cd26 "Doing.take_done" = true)
  (k26:keepIn K (.ref f26)=true)
  (i27:isFn K (.ref f27)=true)
  (l27:K.lookup f27=some ⟨oc27,od27,.func (fnOf "plain_done" "Doing.plain_done" (yk yX) (yj yX) (yb yX) .none kV27 dc27 pm27 an27 cd27 ct27),sl27⟩)
  (c27:codeIn K cd27 "Doing.plain_done" = true)
  (k27:keepIn K (.ref f27)=true)
  (i28:isFn K (.ref f28)=true)
  (l28:K.lookup f28=some ⟨oc28,od28,.func (fnOf "list_end" "Doing.list_end" (yk ybl) (yj ybl) (yb ybl) .none kV28 dc28 pm28 an28 cd28 ct28),sl28⟩)
  (c28:codeIn K cd28 "Doing.list_end" = true)
  (k28:keepIn K (.ref f28)=true)
  (i29:isFn K (.ref f29)=true)
  (l29:K.lookup f29=some ⟨oc29,od29,.func (fnOf "part_end" "Doing.part_end" (yk ybm) (yj ybm) (yb ybm) .none kV29 dc29 pm29 an29 cd29 ct29),sl29⟩)
  (c29:codeIn K cd29 "Doing.part_end" = true)
  (k29:keepIn K (.ref f29)=true)
  (i30:isFn K (.ref f30)=true)
  (l30:K.lookup f30=some ⟨oc30,od30,.func (fnOf "if_end" "Doing.if_end" (yk ybQ) (yj ybQ) (yb ybQ) .none kV30 dc30 pm30 an30 cd30 ct30),sl30⟩)
  (c30:codeIn K cd30 "Doing.if_end" = true)
  (k30:keepIn K (.ref f30)=true)
  (i31:isFn K (.ref f31)=true)
  (l31:K.lookup f31=some ⟨oc31,od31,.func (fnOf "either_end" "Doing.either_end" (yk yY) (yj yY) (yb yY) .none kV31 dc31 pm31 an31 cd31 ct31),sl31⟩)
  (c31:codeIn K cd31 "Doing.either_end" = true)
  (k31:keepIn K (.ref f31)=true)
  (i32:isFn K (.ref f32)=true)
  (l32:K.lookup f32=some ⟨oc32,od32,.func (fnOf "try_end" "Doing.try_end" (yk ybA) (yj ybA) (yb ybA) .none kV32 dc32 pm32 an32 cd32 ct32),sl32⟩)
  (c32:codeIn K cd32 "Doing.try_end" = true)
  (k32:keepIn K (.ref f32)=true)
  (i33:isFn K (.ref f33)=true)
  (l33:K.lookup f33=some ⟨oc33,od33,.func (fnOf "layered_end" "Doing.layered_end" (yk yR) (yj yR) (yb yR) .none kV33 dc33 pm33 an33 cd33 ct33),sl33⟩)
  (c33:codeIn K cd33 "Doing.layered_end" = true)
  (k33:keepIn K (.ref f33)=true)
  (a34:nsIn K mainGlobals "alone" = some (some (.ref f34)))
  (l34:K.lookup f34=some ⟨oc34,od34,.func (fnOf "alone" "alone" (yk yio) (yj yio) (yb yio) .none kV34 dc34 pm34 an34 cd34 ct34),sl34⟩)
  (c34:codeIn K cd34 "alone" = true)
  (k34:keepIn K (.ref f34)=true)
  (i35:isFn K (.ref f35)=true)
  (l35:K.lookup f35=some ⟨oc35,od35,.func (fnOf "__init__" "If.__init__" (yk ycb) (yj ycb) (yb ycb) .none kV35 dc35 pm35 an35 cd35 ct35),sl35⟩)
  (c35:codeIn K cd35 "If.__init__" = true)
  (k35:keepIn K (.ref f35)=true)
  (i36:isFn K (.ref f36)=true)
  (l36:K.lookup f36=some ⟨oc36,od36,.func (fnOf "__init__" "Try.__init__" (yk ybR) (yj ybR) (yb ybR) .none kV36 dc36 pm36 an36 cd36 ct36),sl36⟩)
  (c36:codeIn K cd36 "Try.__init__" = true)
  (k36:keepIn K (.ref f36)=true)
  (i37:isFn K (.ref f37)=true)
  (l37:K.lookup f37=some ⟨oc37,od37,.func (fnOf "__init__" "Throw.__init__" (yk ybn) (yj ybn) (yb ybn) .none kV37 dc37 pm37 an37 cd37 ct37),sl37⟩)
  (c37:codeIn K cd37 "Throw.__init__" = true)
  (k37:keepIn K (.ref f37)=true)
  (a38:nsIn K mainGlobals "_law_mixed" = some (some (.ref f38)))
  (l38:K.lookup f38=some ⟨oc38,od38,.func (fnOf "_law_mixed" "_law_mixed" (yk ycq) (yj ycq) (yb ycq) .none kV38 dc38 pm38 an38 cd38 ct38),sl38⟩)
  (c38:codeIn K cd38 "_law_mixed" = true)
  (k38:keepIn K (.ref f38)=true)
  (a39:nsIn K mainGlobals "_law_wide" = some (some (.ref f39)))
  (l39:K.lookup f39=some ⟨oc39,od39,.func (fnOf "_law_wide" "_law_wide" (yk ycU) (yj ycU) (yb ycU) .none kV39 dc39 pm39 an39 cd39 ct39),sl39⟩)
  (c39:codeIn K cd39 "_law_wide" = true)
  (k39:keepIn K (.ref f39)=true)
  (a40:nsIn K mainGlobals "_law_alike" = some (some (.ref f40)))
  (l40:K.lookup f40=some ⟨oc40,od40,.func (fnOf "_law_alike" "_law_alike" (yk ycr) (yj ycr) (yb ycr) .none kV40 dc40 pm40 an40 cd40 ct40),sl40⟩)
  (c40:codeIn K cd40 "_law_alike" = true)
  (k40:keepIn K (.ref f40)=true)
  (a41:nsIn K mainGlobals "_law_names" = some (some (.ref f41)))
  (l41:K.lookup f41=some ⟨oc41,od41,.func (fnOf "_law_names" "_law_names" (yk ycs) (yj ycs) (yb ycs) .none kV41 dc41 pm41 an41 cd41 ct41),sl41⟩)
  (c41:codeIn K cd41 "_law_names" = true)
  (k41:keepIn K (.ref f41)=true)
  (a42:nsIn K mainGlobals "_law_plain" = some (some (.ref f42)))
  (l42:K.lookup f42=some ⟨oc42,od42,.func (fnOf "_law_plain" "_law_plain" (yk yct) (yj yct) (yb yct) .none kV42 dc42 pm42 an42 cd42 ct42),sl42⟩)
  (c42:codeIn K cd42 "_law_plain" = true)
  (k42:keepIn K (.ref f42)=true)
  (a43:nsIn K mainGlobals "_law_sided" = some (some (.ref f43)))
  (l43:K.lookup f43=some ⟨oc43,od43,.func (fnOf "_law_sided" "_law_sided" (yk ycu) (yj ycu) (yb ycu) .none kV43 dc43 pm43 an43 cd43 ct43),sl43⟩)
  (c43:codeIn K cd43 "_law_sided" = true)
  (k43:keepIn K (.ref f43)=true)
  (a44:nsIn K mainGlobals "_law_tree" = some (some (.ref f44)))
  (l44:K.lookup f44=some ⟨oc44,od44,.func (fnOf "_law_tree" "_law_tree" (yk ycV) (yj ycV) (yb ycV) .none kV44 dc44 pm44 an44 cd44 ct44),sl44⟩)
  (c44:codeIn K cd44 "_law_tree" = true)
  (k44:keepIn K (.ref f44)=true)
  (a45:nsIn K mainGlobals "_law_made" = some (some (.ref f45)))
  (l45:K.lookup f45=some ⟨oc45,od45,.func (fnOf "_law_made" "_law_made" (yk ycW) (yj ycW) (yb ycW) .none kV45 dc45 pm45 an45 cd45 ct45),sl45⟩)
  (c45:codeIn K cd45 "_law_made" = true)
  (k45:keepIn K (.ref f45)=true)
  (a46:nsIn K mainGlobals "_law_boxes" = some (some (.ref f46)))
  (l46:K.lookup f46=some ⟨oc46,od46,.func (fnOf "_law_boxes" "_law_boxes" (yk ycv) (yj ycv) (yb ycv) .none kV46 dc46 pm46 an46 cd46 ct46),sl46⟩)
  (c46:codeIn K cd46 "_law_boxes" = true)
  (k46:keepIn K (.ref f46)=true)
  (a47:nsIn K mainGlobals "_law_slots" = some (some (.ref f47)))
  (l47:K.lookup f47=some ⟨oc47,od47,.func (fnOf "_law_slots" "_law_slots" (yk ycw) (yj ycw) (yb ycw) .none kV47 dc47 pm47 an47 cd47 ct47),sl47⟩)
  (c47:codeIn K cd47 "_law_slots" = true)
  (k47:keepIn K (.ref f47)=true)
  (a48:nsIn K mainGlobals "_law_sum" = some (some (.ref f48)))
  (l48:K.lookup f48=some ⟨oc48,od48,.func (fnOf "_law_sum" "_law_sum" (yk ydM) (yj ydM) (yb ydM) .none kV48 dc48 pm48 an48 cd48 ct48),sl48⟩)
  (c48:codeIn K cd48 "_law_sum" = true)
  (k48:keepIn K (.ref f48)=true)
  (a49:nsIn K mainGlobals "_law_plainly" = some (some (.ref f49)))
  (l49:K.lookup f49=some ⟨oc49,od49,.func (fnOf "_law_plainly" "_law_plainly" (yk ybS) (yj ybS) (yb ybS) .none kV49 dc49 pm49 an49 cd49 ct49),sl49⟩)
  (c49:codeIn K cd49 "_law_plainly" = true)
  (k49:keepIn K (.ref f49)=true)
  (a50:nsIn K mainGlobals "_law_pairs" = some (some (.ref f50)))
  (l50:K.lookup f50=some ⟨oc50,od50,.func (fnOf "_law_pairs" "_law_pairs" (yk ycx) (yj ycx) (yb ycx) .none kV50 dc50 pm50 an50 cd50 ct50),sl50⟩)
  (c50:codeIn K cd50 "_law_pairs" = true)
  (k50:keepIn K (.ref f50)=true)
  (a51:nsIn K mainGlobals "_law_do" = some (some (.ref f51)))
  (l51:K.lookup f51=some ⟨oc51,od51,.func (fnOf "_law_do" "_law_do" (yk yeP) (yj yeP) (yb yeP) .none kV51 dc51 pm51 an51 cd51 ct51),sl51⟩)
  (c51:codeIn K cd51 "_law_do" = true)
  (k51:keepIn K (.ref f51)=true)
  (a52:nsIn K mainGlobals "_law_part" = some (some (.ref f52)))
  (l52:K.lookup f52=some ⟨oc52,od52,.func (fnOf "_law_part" "_law_part" (yk ycX) (yj ycX) (yb ycX) .none kV52 dc52 pm52 an52 cd52 ct52),sl52⟩)
  (c52:codeIn K cd52 "_law_part" = true)
  (k52:keepIn K (.ref f52)=true)
  (a53:nsIn K mainGlobals "law" = some (some (.ref f53)))
  (l53:K.lookup f53=some ⟨oc53,od53,.func (fnOf "law" "law" (yk ymY) (yj ymY) (yb ymY) .none kV53 dc53 pm53 an53 cd53 ct53),sl53⟩)
  (c53:codeIn K cd53 "law" = true)
  (k53:keepIn K (.ref f53)=true)
  (pgLog:plainGet K CLog Str.empty=true)
  (hdLog:hasDictIn K CLog=true)
  (poLog:plainOver K CLog=true)
  (saLog:findIn K (.ref CLog) "__setattr__" = some (some (.builtin "object.__setattr__")))
  (mkLog:makesIn K CLog=true)
  (kcLog:keepIn K (.ref CLog)=true)
  (pgDoing:plainGet K CDoing Str.empty=true)
  (hdDoing:hasDictIn K CDoing=true)
  (poDoing:plainOver K CDoing=true)
  (saDoing:findIn K (.ref CDoing) "__setattr__" = some (some (.builtin "object.__setattr__")))
  (mkDoing:makesIn K CDoing=true)
  (kcDoing:keepIn K (.ref CDoing)=true)
  (pgDoer:plainGet K CDoer Str.empty=true)
  (hdDoer:hasDictIn K CDoer=true)
  (poDoer:plainOver K CDoer=true)
  (saDoer:findIn K (.ref CDoer) "__setattr__" = some (some (.builtin "object.__setattr__")))
  (mkDoer:makesIn K CDoer=true)
  (kcDoer:keepIn K (.ref CDoer)=true)
  (pgLet:plainGet K CLet Str.empty=true)
  (hdLet:hasDictIn K CLet=true)
  (poLet:plainOver K CLet=true)
  (saLet:findIn K (.ref CLet) "__setattr__" = some (some (.builtin "object.__setattr__")))
  (mkLet:makesIn K CLet=true)
  (kcLet:keepIn K (.ref CLet)=true)
  (haLet:findIn K (.ref CLet) "__class__" = some (some (.builtin "object.__class__")))
  (hmLet:mroIn K CLet (.type "object")=some true)
  (pgReckon:plainGet K CReckon Str.empty=true)
  (hdReckon:hasDictIn K CReckon=true)
  (poReckon:plainOver K CReckon=true)
  (saReckon:findIn K (.ref CReckon) "__setattr__" = some (some (.builtin "object.__setattr__")))
  (mkReckon:makesIn K CReckon=true)
  (kcReckon:keepIn K (.ref CReckon)=true)
  (haReckon:findIn K (.ref CReckon) "__class__" = some (some (.builtin "object.__class__")))
  (hmReckon:mroIn K CReckon (.type "object")=some true)
  (pgTake:plainGet K CTake Str.empty=true)
  (hdTake:hasDictIn K CTake=true)
  (poTake:plainOver K CTake=true)
  (saTake:findIn K (.ref CTake) "__setattr__" = some (some (.builtin "object.__setattr__")))
  (mkTake:makesIn K CTake=true)
  (kcTake:keepIn K (.ref CTake)=true)
  (haTake:findIn K (.ref CTake) "__class__" = some (some (.builtin "object.__class__")))
  (hmTake:mroIn K CTake (.type "object")=some true)
  (pgPut:plainGet K CPut Str.empty=true)
  (hdPut:hasDictIn K CPut=true)
  (poPut:plainOver K CPut=true)
  (saPut:findIn K (.ref CPut) "__setattr__" = some (some (.builtin "object.__setattr__")))
  (mkPut:makesIn K CPut=true)
  (kcPut:keepIn K (.ref CPut)=true)
  (haPut:findIn K (.ref CPut) "__class__" = some (some (.builtin "object.__class__")))
  (hmPut:mroIn K CPut (.type "object")=some true)
  (pgIf:plainGet K CIf Str.empty=true)
  (hdIf:hasDictIn K CIf=true)
  (poIf:plainOver K CIf=true)
  (saIf:findIn K (.ref CIf) "__setattr__" = some (some (.builtin "object.__setattr__")))
  (mkIf:makesIn K CIf=true)
  (kcIf:keepIn K (.ref CIf)=true)
  (haIf:findIn K (.ref CIf) "__class__" = some (some (.builtin "object.__class__")))
  (hmIf:mroIn K CIf (.type "object")=some true)
  (pgEither:plainGet K CEither Str.empty=true)
  (hdEither:hasDictIn K CEither=true)
  (poEither:plainOver K CEither=true)
  (saEither:findIn K (.ref CEither) "__setattr__" = some (some (.builtin "object.__setattr__")))
  (haEither:findIn K (.ref CEither) "__class__" = some (some (.builtin "object.__class__")))
  (hmEither:mroIn K CEither (.type "object")=some true)
  (pgTry:plainGet K CTry Str.empty=true)
  (hdTry:hasDictIn K CTry=true)
  (poTry:plainOver K CTry=true)
  (saTry:findIn K (.ref CTry) "__setattr__" = some (some (.builtin "object.__setattr__")))
  (mkTry:makesIn K CTry=true)
  (kcTry:keepIn K (.ref CTry)=true)
  (haTry:findIn K (.ref CTry) "__class__" = some (some (.builtin "object.__class__")))
  (hmTry:mroIn K CTry (.type "object")=some true)
  (pgThrow:plainGet K CThrow Str.empty=true)
  (hdThrow:hasDictIn K CThrow=true)
  (poThrow:plainOver K CThrow=true)
  (saThrow:findIn K (.ref CThrow) "__setattr__" = some (some (.builtin "object.__setattr__")))
  (mkThrow:makesIn K CThrow=true)
  (kcThrow:keepIn K (.ref CThrow)=true)
  (haThrow:findIn K (.ref CThrow) "__class__" = some (some (.builtin "object.__class__")))
  (hmThrow:mroIn K CThrow (.type "object")=some true)
  (pgWait:plainGet K CWait Str.empty=true)
  (hdWait:hasDictIn K CWait=true)
  (poWait:plainOver K CWait=true)
  (saWait:findIn K (.ref CWait) "__setattr__" = some (some (.builtin "object.__setattr__")))
  (mkWait:makesIn K CWait=true)
  (kcWait:keepIn K (.ref CWait)=true)
  (ioWait:findIn K (.ref CWait) "__init__" = some (some (.builtin "object.__init__")))
  (haWait:findIn K (.ref CWait) "__class__" = some (some (.builtin "object.__class__")))
  (hmWait:mroIn K CWait (.type "object")=some true)
  (naLog_stack:findIn K (.ref CLog) "stack" = some none)
  (naLog_last_seen:findIn K (.ref CLog) "last_seen" = some none)
  (naDoing_held:findIn K (.ref CDoing) "held" = some none)
  (naDoing_width:findIn K (.ref CDoing) "width" = some none)
  (naDoing_log:findIn K (.ref CDoing) "log" = some none)
  (naDoing_found:findIn K (.ref CDoing) "found" = some none)
  (naLet_slot:findIn K (.ref CLet) "slot" = some none)
  (naReckon_slot:findIn K (.ref CReckon) "slot" = some none)
  (naTake_slot:findIn K (.ref CTake) "slot" = some none)
  (naPut_slot:findIn K (.ref CPut) "slot" = some none)
  (naIf_slot:findIn K (.ref CIf) "slot" = some none)
  (naTry_slot:findIn K (.ref CTry) "slot" = some none)
  (naThrow_slot:findIn K (.ref CThrow) "slot" = some none)
  (naLet_number:findIn K (.ref CLet) "number" = some none)
  (naReckon_word:findIn K (.ref CReckon) "word" = some none)
  (naReckon_one:findIn K (.ref CReckon) "one" = some none)
  (naReckon_other:findIn K (.ref CReckon) "other" = some none)
  (naTake_place:findIn K (.ref CTake) "place" = some none)
  (naPut_place:findIn K (.ref CPut) "place" = some none)
  (naIf_parts:findIn K (.ref CIf) "parts" = some none)
  (naEither_parts:findIn K (.ref CEither) "parts" = some none)
  (naTry_parts:findIn K (.ref CTry) "parts" = some none)
  (naIf_others:findIn K (.ref CIf) "others" = some none)
  (naEither_others:findIn K (.ref CEither) "others" = some none)
  (naTry_others:findIn K (.ref CTry) "others" = some none)
  (naTry_name:findIn K (.ref CTry) "name" = some none)
  (naThrow_name:findIn K (.ref CThrow) "name" = some none)
  (sb3_4:subIn K (.ref CLet) (.ref CReckon)=some false)
  (ne3_4:(CLet == CReckon)=false)
  (sb3_5:subIn K (.ref CLet) (.ref CTake)=some false)
  (ne3_5:(CLet == CTake)=false)
  (sb3_6:subIn K (.ref CLet) (.ref CPut)=some false)
  (ne3_6:(CLet == CPut)=false)
  (sb3_7:subIn K (.ref CLet) (.ref CIf)=some false)
  (ne3_7:(CLet == CIf)=false)
  (sb3_8:subIn K (.ref CLet) (.ref CEither)=some false)
  (ne3_8:(CLet == CEither)=false)
  (sb3_9:subIn K (.ref CLet) (.ref CTry)=some false)
  (ne3_9:(CLet == CTry)=false)
  (sb3_10:subIn K (.ref CLet) (.ref CThrow)=some false)
  (ne3_10:(CLet == CThrow)=false)
  (sb3_11:subIn K (.ref CLet) (.ref CWait)=some false)
  (ne3_11:(CLet == CWait)=false)
  (sb4_3:subIn K (.ref CReckon) (.ref CLet)=some false)
  (ne4_3:(CReckon == CLet)=false)
  (sb4_5:subIn K (.ref CReckon) (.ref CTake)=some false)
  (ne4_5:(CReckon == CTake)=false)
  (sb4_6:subIn K (.ref CReckon) (.ref CPut)=some false)
  (ne4_6:(CReckon == CPut)=false)
  (sb4_7:subIn K (.ref CReckon) (.ref CIf)=some false)
  (ne4_7:(CReckon == CIf)=false)
  (sb4_8:subIn K (.ref CReckon) (.ref CEither)=some false)
  (ne4_8:(CReckon == CEither)=false)
  (sb4_9:subIn K (.ref CReckon) (.ref CTry)=some false)
  (ne4_9:(CReckon == CTry)=false)
  (sb4_10:subIn K (.ref CReckon) (.ref CThrow)=some false)
  (ne4_10:(CReckon == CThrow)=false)
  (sb4_11:subIn K (.ref CReckon) (.ref CWait)=some false)
  (ne4_11:(CReckon == CWait)=false)
  (sb5_3:subIn K (.ref CTake) (.ref CLet)=some false)
  (ne5_3:(CTake == CLet)=false)
  (sb5_4:subIn K (.ref CTake) (.ref CReckon)=some false)
  (ne5_4:(CTake == CReckon)=false)
  (sb5_6:subIn K (.ref CTake) (.ref CPut)=some false)
  (ne5_6:(CTake == CPut)=false)
  (sb5_7:subIn K (.ref CTake) (.ref CIf)=some false)
  (ne5_7:(CTake == CIf)=false)
  (sb5_8:subIn K (.ref CTake) (.ref CEither)=some false)
  (ne5_8:(CTake == CEither)=false)
  (sb5_9:subIn K (.ref CTake) (.ref CTry)=some false)
  (ne5_9:(CTake == CTry)=false)
  (sb5_10:subIn K (.ref CTake) (.ref CThrow)=some false)
  (ne5_10:(CTake == CThrow)=false)
  (sb5_11:subIn K (.ref CTake) (.ref CWait)=some false)
  (ne5_11:(CTake == CWait)=false)
  (sb6_3:subIn K (.ref CPut) (.ref CLet)=some false)
  (ne6_3:(CPut == CLet)=false)
  (sb6_4:subIn K (.ref CPut) (.ref CReckon)=some false)
  (ne6_4:(CPut == CReckon)=false)
  (sb6_5:subIn K (.ref CPut) (.ref CTake)=some false)
  (ne6_5:(CPut == CTake)=false)
  (sb6_7:subIn K (.ref CPut) (.ref CIf)=some false)
  (ne6_7:(CPut == CIf)=false)
  (sb6_8:subIn K (.ref CPut) (.ref CEither)=some false)
  (ne6_8:(CPut == CEither)=false)
  (sb6_9:subIn K (.ref CPut) (.ref CTry)=some false)
  (ne6_9:(CPut == CTry)=false)
  (sb6_10:subIn K (.ref CPut) (.ref CThrow)=some false)
  (ne6_10:(CPut == CThrow)=false)
  (sb6_11:subIn K (.ref CPut) (.ref CWait)=some false)
  (ne6_11:(CPut == CWait)=false)
  (sb7_3:subIn K (.ref CIf) (.ref CLet)=some false)
  (ne7_3:(CIf == CLet)=false)
  (sb7_4:subIn K (.ref CIf) (.ref CReckon)=some false)
  (ne7_4:(CIf == CReckon)=false)
  (sb7_5:subIn K (.ref CIf) (.ref CTake)=some false)
  (ne7_5:(CIf == CTake)=false)
  (sb7_6:subIn K (.ref CIf) (.ref CPut)=some false)
  (ne7_6:(CIf == CPut)=false)
  (sb7_8:subIn K (.ref CIf) (.ref CEither)=some false)
  (ne7_8:(CIf == CEither)=false)
  (sb7_9:subIn K (.ref CIf) (.ref CTry)=some false)
  (ne7_9:(CIf == CTry)=false)
  (sb7_10:subIn K (.ref CIf) (.ref CThrow)=some false)
  (ne7_10:(CIf == CThrow)=false)
  (sb7_11:subIn K (.ref CIf) (.ref CWait)=some false)
  (ne7_11:(CIf == CWait)=false)
  (sb9_3:subIn K (.ref CTry) (.ref CLet)=some false)
  (ne9_3:(CTry == CLet)=false)
  (sb9_4:subIn K (.ref CTry) (.ref CReckon)=some false)
  (ne9_4:(CTry == CReckon)=false)
  (sb9_5:subIn K (.ref CTry) (.ref CTake)=some false)
  (ne9_5:(CTry == CTake)=false)
  (sb9_6:subIn K (.ref CTry) (.ref CPut)=some false)
  (ne9_6:(CTry == CPut)=false)
  (sb9_7:subIn K (.ref CTry) (.ref CIf)=some false)
  (ne9_7:(CTry == CIf)=false)
  (sb9_8:subIn K (.ref CTry) (.ref CEither)=some false)
  (ne9_8:(CTry == CEither)=false)
  (sb9_10:subIn K (.ref CTry) (.ref CThrow)=some false)
  (ne9_10:(CTry == CThrow)=false)
  (sb9_11:subIn K (.ref CTry) (.ref CWait)=some false)
  (ne9_11:(CTry == CWait)=false)
  (sb10_3:subIn K (.ref CThrow) (.ref CLet)=some false)
  (ne10_3:(CThrow == CLet)=false)
  (sb10_4:subIn K (.ref CThrow) (.ref CReckon)=some false)
  (ne10_4:(CThrow == CReckon)=false)
  (sb10_5:subIn K (.ref CThrow) (.ref CTake)=some false)
  (ne10_5:(CThrow == CTake)=false)
  (sb10_6:subIn K (.ref CThrow) (.ref CPut)=some false)
  (ne10_6:(CThrow == CPut)=false)
  (sb10_7:subIn K (.ref CThrow) (.ref CIf)=some false)
  (ne10_7:(CThrow == CIf)=false)
  (sb10_8:subIn K (.ref CThrow) (.ref CEither)=some false)
  (ne10_8:(CThrow == CEither)=false)
  (sb10_9:subIn K (.ref CThrow) (.ref CTry)=some false)
  (ne10_9:(CThrow == CTry)=false)
  (sb10_11:subIn K (.ref CThrow) (.ref CWait)=some false)
  (ne10_11:(CThrow == CWait)=false)
  (sb11_3:subIn K (.ref CWait) (.ref CLet)=some false)
  (ne11_3:(CWait == CLet)=false)
  (sb11_4:subIn K (.ref CWait) (.ref CReckon)=some false)
  (ne11_4:(CWait == CReckon)=false)
  (sb11_5:subIn K (.ref CWait) (.ref CTake)=some false)
  (ne11_5:(CWait == CTake)=false)
  (sb11_6:subIn K (.ref CWait) (.ref CPut)=some false)
  (ne11_6:(CWait == CPut)=false)
  (sb11_7:subIn K (.ref CWait) (.ref CIf)=some false)
  (ne11_7:(CWait == CIf)=false)
  (sb11_8:subIn K (.ref CWait) (.ref CEither)=some false)
  (ne11_8:(CWait == CEither)=false)
  (sb11_9:subIn K (.ref CWait) (.ref CTry)=some false)
  (ne11_9:(CWait == CTry)=false)
  (sb11_10:subIn K (.ref CWait) (.ref CThrow)=some false)
  (ne11_10:(CWait == CThrow)=false)
  (ty3:typeIn K (.ref CLet)=some (.type "type"))
  (ty4:typeIn K (.ref CReckon)=some (.type "type"))
  (ty5:typeIn K (.ref CTake)=some (.type "type"))
  (ty6:typeIn K (.ref CPut)=some (.type "type"))
  (ty7:typeIn K (.ref CIf)=some (.type "type"))
  (ty8:typeIn K (.ref CEither)=some (.type "type"))
  (ty9:typeIn K (.ref CTry)=some (.type "type"))
  (ty10:typeIn K (.ref CThrow)=some (.type "type"))
  (ty11:typeIn K (.ref CWait)=some (.type "type"))
  (hn:PySem.W.specialIn K (.builtin "object.__class__") "__get__" = some (some (.builtin "getset_descriptor.__get__")))
  (htk:PySem.W.takesIn K (.builtin "object.__class__")=some true)
  (z1:nsIn K mainGlobals "bool" = some none)
  (z2:nsIn K mainGlobals "dict" = some none)
  (z3:nsIn K mainGlobals "int" = some none)
  (z4:nsIn K mainGlobals "isinstance" = some none)
  (z5:nsIn K mainGlobals "len" = some none)
  (z6:nsIn K mainGlobals "list" = some none)
  (z7:nsIn K mainGlobals "max" = some none)
  (z8:nsIn K mainGlobals "range" = some none)
  (z9:nsIn K mainGlobals "reversed" = some none)
  (z10:nsIn K mainGlobals "sorted" = some none)
  (z11:nsIn K mainGlobals "str" = some none)
  (z12:nsIn K mainGlobals "sum" = some none)
  (z13:nsIn K mainGlobals "tuple" = some none)
  (q1:nsIn K mainGlobals "DONE" = some (some (.ref u1)))
  (qk1:K.lookup u1=some ⟨.type "tuple",qd1,.seq #[.str "done" qt1_0] qn1,qs1⟩)
  (q2:nsIn K mainGlobals "SLOTS" = some (some (.str "abcdefgh" u2)))
  (q3:nsIn K mainGlobals "WAITS" = some (some (.ref u3)))
  (qk3:K.lookup u3=some ⟨.type "tuple",qd3,.seq #[.str "waits" qt3_0] qn3,qs3⟩)
  (q4:nsIn K mainGlobals "WIDE" = some (some (.int 18446744073709551616 u4))) :
  ∃ fd:FuncData,(∀ (s:Shared) (v:Value),BindsTo s fd ⟨[v],[]⟩ [("_law_script",v)])/\∀ base:Heap,K.In base->base.Ns mainGlobals mg->FnOk l.prog w K mg base CX0 30 fa fd ["_law_script"] (yCu K):=by
 have e:=hfa.symm.trans (mg_of X G a53)
 cases e
 have F1:=yP (st:=ybL) l1 c1 k1
 have b1:=F1.binds (ps:=["self"]) fun _ _ _ _ _ _=>ml1 fun _=>rfl
 have F2:=yP (st:=ycQ) l2 c2 k2
 have b2:=F2.binds (ps:=["self","box","number"]) fun _ _ _ _ _ _=>ml3 fun _ _ _=>rfl
 have F3:=yP (st:=yeM) l3 c3 k3
 have b3:=F3.binds (ps:=["self","box"]) fun _ _ _ _ _ _=>ml2 fun _ _=>rfl
 have F4:=yP (st:=ycR) l4 c4 k4
 have b4:=F4.binds (ps:=["self"]) fun _ _ _ _ _ _=>ml1 fun _=>rfl
 have F5:=yP (st:=yco) l5 c5 k5
 have b5:=F5.binds (ps:=["self"]) fun _ _ _ _ _ _=>ml1 fun _=>rfl
 have F6:=yP (st:=ydL) l6 c6 k6
 have b6:=F6.binds (ps:=["self"]) fun _ _ _ _ _ _=>ml1 fun _=>rfl
 have F7:=yP (st:=yeN) l7 c7 k7
 have b7:=F7.binds (ps:=["self","box","number"]) fun _ _ _ _ _ _=>ml3 fun _ _ _=>rfl
 have F8:=yP (st:=yeO) l8 c8 k8
 have b8:=F8.binds (ps:=["self"]) fun _ _ _ _ _ _=>ml1 fun _=>rfl
 have F9:=yP (st:=ycS) l9 c9 k9
 have b9:=F9.binds (ps:=["self"]) fun _ _ _ _ _ _=>ml1 fun _=>rfl
 have F10:=yP (st:=ygw) l10 c10 k10
 have b10:=F10.binds (ps:=["word","one","other"]) fun _ _ _ _ _ _=>ml3 fun _ _ _=>rfl
 have F11:=yP (st:=ycp) l11 c11 k11
 have b11:=F11.binds (ps:=["slot"]) fun _ _ _ _ _ _=>ml1 fun _=>rfl
 have F12:=yP (st:=ybx) l12 c12 k12
 have b12:=F12.binds (ps:=["self","slots","width"]) fun _ _ _ _ _ _=>ml3 fun _ _ _=>rfl
 have F13:=yP (st:=ybM) l13 c13 k13
 have b13:=F13.binds (ps:=["self","slot"]) fun _ _ _ _ _ _=>ml2 fun _ _=>rfl
 have F14:=yP (st:=ycT) l14 c14 k14
 have b14:=F14.binds (ps:=["self","slot","number"]) fun _ _ _ _ _ _=>ml3 fun _ _ _=>rfl
 have F15:=yP (st:=ybZ) l15 c15 k15
 have b15:=F15.binds (ps:=["self","place"]) fun _ _ _ _ _ _=>ml2 fun _ _=>rfl
 have F16:=yP (st:=ybi) l16 c16 k16
 have b16:=F16.binds (ps:=["self","word","slot","one","other"]) fun _ _ _ _ _ _=>ml5 fun _ _ _ _ _=>rfl
 have F17:=yP (st:=yca) l17 c17 k17
 have b17:=F17.binds (ps:=["self","place","slot"]) fun _ _ _ _ _ _=>ml3 fun _ _ _=>rfl
 have F18:=yP (st:=ybN) l18 c18 k18
 have b18:=F18.binds (ps:=["self","place"]) fun _ _ _ _ _ _=>ml2 fun _ _=>rfl
 have F19:=yP (st:=yby) l19 c19 k19
 have b19:=F19.binds (ps:=["self","slot","place"]) fun _ _ _ _ _ _=>ml3 fun _ _ _=>rfl
 have F20:=yP (st:=ybj) l20 c20 k20
 have b20:=F20.binds (ps:=["self","slot","place","numbers"]) fun _ _ _ _ _ _=>ml4 fun _ _ _ _=>rfl
 have F21:=yP (st:=ybO) l21 c21 k21
 have b21:=F21.binds (ps:=["self","slot","number"]) fun _ _ _ _ _ _=>ml3 fun _ _ _=>rfl
 have F22:=yP (st:=ybf) l22 c22 k22
 have b22:=F22.binds (ps:=["self","word","slot","one","other"]) fun _ _ _ _ _ _=>ml5 fun _ _ _ _ _=>rfl
 have F23:=yP (st:=ybz) l23 c23 k23
 have b23:=F23.binds (ps:=["self","slot","place"]) fun _ _ _ _ _ _=>ml3 fun _ _ _=>rfl
 have F24:=yP (st:=ybP) l24 c24 k24
 have b24:=F24.binds (ps:=["self","place","slot"]) fun _ _ _ _ _ _=>ml3 fun _ _ _=>rfl
 have F25:=yP (st:=ybk) l25 c25 k25
 have b25:=F25.binds (ps:=["self","boxes","slots"]) fun _ _ _ _ _ _=>ml3 fun _ _ _=>rfl
 have F26:=yP (st:=ybg) l26 c26 k26
 have b26:=F26.binds (ps:=["self","part"]) fun _ _ _ _ _ _=>ml2 fun _ _=>rfl
 have F27:=yP (st:=yX) l27 c27 k27
 have b27:=F27.binds (ps:=["self","part"]) fun _ _ _ _ _ _=>ml2 fun _ _=>rfl
 have F28:=yP (st:=ybl) l28 c28 k28
 have b28:=F28.binds (ps:=["self","parts"]) fun _ _ _ _ _ _=>ml2 fun _ _=>rfl
 have F29:=yP (st:=ybm) l29 c29 k29
 have b29:=F29.binds (ps:=["self","part"]) fun _ _ _ _ _ _=>ml2 fun _ _=>rfl
 have F30:=yP (st:=ybQ) l30 c30 k30
 have b30:=F30.binds (ps:=["self","part"]) fun _ _ _ _ _ _=>ml2 fun _ _=>rfl
 have F31:=yP (st:=yY) l31 c31 k31
 have b31:=F31.binds (ps:=["self","part"]) fun _ _ _ _ _ _=>ml2 fun _ _=>rfl
 have F32:=yP (st:=ybA) l32 c32 k32
 have b32:=F32.binds (ps:=["self","part"]) fun _ _ _ _ _ _=>ml2 fun _ _=>rfl
 have F33:=yP (st:=yR) l33 c33 k33
 have b33:=F33.binds (ps:=["self","parts"]) fun _ _ _ _ _ _=>ml2 fun _ _=>rfl
 have F34:=yP (st:=yio) l34 c34 k34
 have b34:=F34.binds (ps:=["deed","boxes","slots"]) fun _ _ _ _ _ _=>ml3 fun _ _ _=>rfl
 have F35:=yP (st:=ycb) l35 c35 k35
 have b35:=F35.binds (ps:=["self","slot","parts","others"]) fun _ _ _ _ _ _=>ml4 fun _ _ _ _=>rfl
 have F36:=yP (st:=ybR) l36 c36 k36
 have b36:=F36.binds (ps:=["self","parts","name","slot","others"]) fun _ _ _ _ _ _=>ml5 fun _ _ _ _ _=>rfl
 have F37:=yP (st:=ybn) l37 c37 k37
 have b37:=F37.binds (ps:=["self","name","slot"]) fun _ _ _ _ _ _=>ml3 fun _ _ _=>rfl
 have F38:=yP (st:=ycq) l38 c38 k38
 have b38:=F38.binds (ps:=["_law_cell"]) fun _ _ _ _ _ _=>ml1 fun _=>rfl
 have F39:=yP (st:=ycU) l39 c39 k39
 have b39:=F39.binds (ps:=["_law_cell"]) fun _ _ _ _ _ _=>ml1 fun _=>rfl
 have F40:=yP (st:=ycr) l40 c40 k40
 have b40:=F40.binds (ps:=["_law_found","_law_due"]) fun _ _ _ _ _ _=>ml2 fun _ _=>rfl
 have F41:=yP (st:=ycs) l41 c41 k41
 have b41:=F41.binds (ps:=["_law_cell"]) fun _ _ _ _ _ _=>ml1 fun _=>rfl
 have F42:=yP (st:=yct) l42 c42 k42
 have b42:=F42.binds (ps:=["_law_mixed_here","_law_cell"]) fun _ _ _ _ _ _=>ml2 fun _ _=>rfl
 have F43:=yP (st:=ycu) l43 c43 k43
 have b43:=F43.binds (ps:=["_law_mixed_here","_law_one","_law_other","_law_names_here"]) fun _ _ _ _ _ _=>ml4 fun _ _ _ _=>rfl
 have F44:=yP (st:=ycV) l44 c44 k44
 have b44:=F44.binds (ps:=["_law_cells","_law_depth","_law_names_here"]) fun _ _ _ _ _ _=>ml3 fun _ _ _=>rfl
 have F45:=yP (st:=ycW) l45 c45 k45
 have b45:=F45.binds (ps:=["_law_tree_here"]) fun _ _ _ _ _ _=>ml1 fun _=>rfl
 have F46:=yP (st:=ycv) l46 c46 k46
 have b46:=F46.binds (ps:=["_law_cell"]) fun _ _ _ _ _ _=>ml1 fun _=>rfl
 have F47:=yP (st:=ycw) l47 c47 k47
 have b47:=F47.binds (ps:=["_law_cell"]) fun _ _ _ _ _ _=>ml1 fun _=>rfl
 have F48:=yP (st:=ydM) l48 c48 k48
 have b48:=F48.binds (ps:=["_law_word","_law_one","_law_other"]) fun _ _ _ _ _ _=>ml3 fun _ _ _=>rfl
 have F49:=yP (st:=ybS) l49 c49 k49
 have b49:=F49.binds (ps:=["_law_part_here","_law_boxes_here","_law_saw","_law_slots_here","_law_written"]) fun _ _ _ _ _ _=>ml5 fun _ _ _ _ _=>rfl
 have F50:=yP (st:=ycx) l50 c50 k50
 have b50:=F50.binds (ps:=["_law_found"]) fun _ _ _ _ _ _=>ml1 fun _=>rfl
 have F51:=yP (st:=yeP) l51 c51 k51
 have b51:=F51.binds (ps:=["_law_tree_here","_law_boxes_here","_law_saw","_law_slots_here","_law_written"]) fun _ _ _ _ _ _=>ml5 fun _ _ _ _ _=>rfl
 have F52:=yP (st:=ycX) l52 c52 k52
 have b52:=F52.binds (ps:=["_law_part_here","_law_boxes_here","_law_saw","_law_slots_here","_law_written"]) fun _ _ _ _ _ _=>ml5 fun _ _ _ _ _=>rfl
 have F53:=yP (st:=ymY) l53 c53 k53
 have b53:=F53.binds (ps:=["_law_script"]) fun _ _ _ _ _ _=>ml1 fun _=>rfl
 let AA:Nat->Addr:=fun k=>match k with|0=>CLog|1=>CDoing|2=>CDoer|3=>CLet|4=>CReckon|5=>CTake|6=>CPut|7=>CIf|8=>CEither|9=>CTry|10=>CThrow|11=>CWait|_=>CLog
 have CL:∀ k,Cls K (AA k):=fun k=>match k with|0=>⟨pgLog,hdLog,poLog,saLog⟩|1=>⟨pgDoing,hdDoing,poDoing,saDoing⟩|2=>⟨pgDoer,hdDoer,poDoer,saDoer⟩|3=>⟨pgLet,hdLet,poLet,saLet⟩|4=>⟨pgReckon,hdReckon,poReckon,saReckon⟩|5=>⟨pgTake,hdTake,poTake,saTake⟩|6=>⟨pgPut,hdPut,poPut,saPut⟩|7=>⟨pgIf,hdIf,poIf,saIf⟩|8=>⟨pgEither,hdEither,poEither,saEither⟩|9=>⟨pgTry,hdTry,poTry,saTry⟩|10=>⟨pgThrow,hdThrow,poThrow,saThrow⟩|11=>⟨pgWait,hdWait,poWait,saWait⟩|_+12=>⟨pgLog,hdLog,poLog,saLog⟩
 have TY3:∀ (H:Hp) (a dx:Addr) (fs:List (Str×V)),H a=some (.ins CLet dx fs)->ynJ K H (.ref a) (.ref CLet):=fun H a dx fs e=>.ins e (CL 3) haLet hn htk hmLet
 have TY4:∀ (H:Hp) (a dx:Addr) (fs:List (Str×V)),H a=some (.ins CReckon dx fs)->ynJ K H (.ref a) (.ref CReckon):=fun H a dx fs e=>.ins e (CL 4) haReckon hn htk hmReckon
 have TY5:∀ (H:Hp) (a dx:Addr) (fs:List (Str×V)),H a=some (.ins CTake dx fs)->ynJ K H (.ref a) (.ref CTake):=fun H a dx fs e=>.ins e (CL 5) haTake hn htk hmTake
 have TY6:∀ (H:Hp) (a dx:Addr) (fs:List (Str×V)),H a=some (.ins CPut dx fs)->ynJ K H (.ref a) (.ref CPut):=fun H a dx fs e=>.ins e (CL 6) haPut hn htk hmPut
 have TY7:∀ (H:Hp) (a dx:Addr) (fs:List (Str×V)),H a=some (.ins CIf dx fs)->ynJ K H (.ref a) (.ref CIf):=fun H a dx fs e=>.ins e (CL 7) haIf hn htk hmIf
 have TY8:∀ (H:Hp) (a dx:Addr) (fs:List (Str×V)),H a=some (.ins CEither dx fs)->ynJ K H (.ref a) (.ref CEither):=fun H a dx fs e=>.ins e (CL 8) haEither hn htk hmEither
 have TY9:∀ (H:Hp) (a dx:Addr) (fs:List (Str×V)),H a=some (.ins CTry dx fs)->ynJ K H (.ref a) (.ref CTry):=fun H a dx fs e=>.ins e (CL 9) haTry hn htk hmTry
 have TY10:∀ (H:Hp) (a dx:Addr) (fs:List (Str×V)),H a=some (.ins CThrow dx fs)->ynJ K H (.ref a) (.ref CThrow):=fun H a dx fs e=>.ins e (CL 10) haThrow hn htk hmThrow
 have TY11:∀ (H:Hp) (a dx:Addr) (fs:List (Str×V)),H a=some (.ins CWait dx fs)->ynJ K H (.ref a) (.ref CWait):=fun H a dx fs e=>.ins e (CL 11) haWait hn htk hmWait
 have T:Txt K mg ⟨AA,f1,fnOf "__init__" "Log.__init__" (yk ybL) (yj ybL) (yb ybL) .none kV1 dc1 pm1 an1 cd1 ct1,f2,fnOf "write" "Log.write" (yk ycQ) (yj ycQ) (yb ycQ) .none kV2 dc2 pm2 an2 cd2 ct2,f3,fnOf "own" "Log.own" (yk yeM) (yj yeM) (yb yeM) .none kV3 dc3 pm3 an3 cd3 ct3,f4,fnOf "begin" "Log.begin" (yk ycR) (yj ycR) (yb ycR) .none kV4 dc4 pm4 an4 cd4 ct4,f5,fnOf "settle" "Log.settle" (yk yco) (yj yco) (yb yco) .none kV5 dc5 pm5 an5 cd5 ct5,f6,fnOf "drop" "Log.drop" (yk ydL) (yj ydL) (yb ydL) .none kV6 dc6 pm6 an6 cd6 ct6,f7,fnOf "see" "Log.see" (yk yeN) (yj yeN) (yb yeN) .none kV7 dc7 pm7 an7 cd7 ct7,f8,fnOf "saw" "Log.saw" (yk yeO) (yj yeO) (yb yeO) .none kV8 dc8 pm8 an8 cd8 ct8,f9,fnOf "wrote" "Log.wrote" (yk ycS) (yj ycS) (yb ycS) .none kV9 dc9 pm9 an9 cd9 ct9,f10,fnOf "reckon" "reckon" (yk ygw) (yj ygw) (yb ygw) .none kV10 dc10 pm10 an10 cd10 ct10,f11,fnOf "slot_index" "slot_index" (yk ycp) (yj ycp) (yb ycp) .none kV11 dc11 pm11 an11 cd11 ct11,f12,fnOf "__init__" "Doer.__init__" (yk ybx) (yj ybx) (yb ybx) .none kV12 dc12 pm12 an12 cd12 ct12,f13,fnOf "held_in" "Doer.held_in" (yk ybM) (yj ybM) (yb ybM) .none kV13 dc13 pm13 an13 cd13 ct13,f14,fnOf "hold" "Doer.hold" (yk ycT) (yj ycT) (yb ycT) .none kV14 dc14 pm14 an14 cd14 ct14,f15,fnOf "box_at" "Doer.box_at" (yk ybZ) (yj ybZ) (yb ybZ) .none kV15 dc15 pm15 an15 cd15 ct15,f16,fnOf "do_reckon" "Doer.do_reckon" (yk ybi) (yj ybi) (yb ybi) .none kV16 dc16 pm16 an16 cd16 ct16,f17,fnOf "do_put" "Doer.do_put" (yk yca) (yj yca) (yb yca) .none kV17 dc17 pm17 an17 cd17 ct17,f18,fnOf "sees_at" "Doer.sees_at" (yk ybN) (yj ybN) (yb ybN) .none kV18 dc18 pm18 an18 cd18 ct18,f19,fnOf "take_own" "Doer.take_own" (yk yby) (yj yby) (yb yby) .none kV19 dc19 pm19 an19 cd19 ct19,f20,fnOf "take_seen" "Doer.take_seen" (yk ybj) (yj ybj) (yb ybj) .none kV20 dc20 pm20 an20 cd20 ct20,f21,fnOf "__init__" "Let.__init__" (yk ybO) (yj ybO) (yb ybO) .none kV21 dc21 pm21 an21 cd21 ct21,f22,fnOf "__init__" "Reckon.__init__" (yk ybf) (yj ybf) (yb ybf) .none kV22 dc22 pm22 an22 cd22 ct22,f23,fnOf "__init__" "Take.__init__" (yk ybz) (yj ybz) (yb ybz) .none kV23 dc23 pm23 an23 cd23 ct23,f24,fnOf "__init__" "Put.__init__" (yk ybP) (yj ybP) (yb ybP) .none kV24 dc24 pm24 an24 cd24 ct24,f25,fnOf "__init__" "Doing.__init__" (yk ybk) (yj ybk) (yb ybk) .none kV25 dc25 pm25 an25 cd25 ct25,f26,fnOf "take_done" "Doing.take_done" (yk ybg) (yj ybg) (yb ybg) .none kV26 dc26 pm26 an26 cd26 ct26,f27,fnOf "plain_done" "Doing.plain_done" (yk yX) (yj yX) (yb yX) .none kV27 dc27 pm27 an27 cd27 ct27,f28,fnOf "list_end" "Doing.list_end" (yk ybl) (yj ybl) (yb ybl) .none kV28 dc28 pm28 an28 cd28 ct28,f29,fnOf "part_end" "Doing.part_end" (yk ybm) (yj ybm) (yb ybm) .none kV29 dc29 pm29 an29 cd29 ct29,f30,fnOf "if_end" "Doing.if_end" (yk ybQ) (yj ybQ) (yb ybQ) .none kV30 dc30 pm30 an30 cd30 ct30,f31,fnOf "either_end" "Doing.either_end" (yk yY) (yj yY) (yb yY) .none kV31 dc31 pm31 an31 cd31 ct31,f32,fnOf "try_end" "Doing.try_end" (yk ybA) (yj ybA) (yb ybA) .none kV32 dc32 pm32 an32 cd32 ct32,f33,fnOf "layered_end" "Doing.layered_end" (yk yR) (yj yR) (yb yR) .none kV33 dc33 pm33 an33 cd33 ct33,f34,fnOf "alone" "alone" (yk yio) (yj yio) (yb yio) .none kV34 dc34 pm34 an34 cd34 ct34,f35,fnOf "__init__" "If.__init__" (yk ycb) (yj ycb) (yb ycb) .none kV35 dc35 pm35 an35 cd35 ct35,f36,fnOf "__init__" "Try.__init__" (yk ybR) (yj ybR) (yb ybR) .none kV36 dc36 pm36 an36 cd36 ct36,f37,fnOf "__init__" "Throw.__init__" (yk ybn) (yj ybn) (yb ybn) .none kV37 dc37 pm37 an37 cd37 ct37,f38,fnOf "_law_mixed" "_law_mixed" (yk ycq) (yj ycq) (yb ycq) .none kV38 dc38 pm38 an38 cd38 ct38,f39,fnOf "_law_wide" "_law_wide" (yk ycU) (yj ycU) (yb ycU) .none kV39 dc39 pm39 an39 cd39 ct39,f40,fnOf "_law_alike" "_law_alike" (yk ycr) (yj ycr) (yb ycr) .none kV40 dc40 pm40 an40 cd40 ct40,f41,fnOf "_law_names" "_law_names" (yk ycs) (yj ycs) (yb ycs) .none kV41 dc41 pm41 an41 cd41 ct41,f42,fnOf "_law_plain" "_law_plain" (yk yct) (yj yct) (yb yct) .none kV42 dc42 pm42 an42 cd42 ct42,f43,fnOf "_law_sided" "_law_sided" (yk ycu) (yj ycu) (yb ycu) .none kV43 dc43 pm43 an43 cd43 ct43,f44,fnOf "_law_tree" "_law_tree" (yk ycV) (yj ycV) (yb ycV) .none kV44 dc44 pm44 an44 cd44 ct44,f45,fnOf "_law_made" "_law_made" (yk ycW) (yj ycW) (yb ycW) .none kV45 dc45 pm45 an45 cd45 ct45,f46,fnOf "_law_boxes" "_law_boxes" (yk ycv) (yj ycv) (yb ycv) .none kV46 dc46 pm46 an46 cd46 ct46,f47,fnOf "_law_slots" "_law_slots" (yk ycw) (yj ycw) (yb ycw) .none kV47 dc47 pm47 an47 cd47 ct47,f48,fnOf "_law_sum" "_law_sum" (yk ydM) (yj ydM) (yb ydM) .none kV48 dc48 pm48 an48 cd48 ct48,f49,fnOf "_law_plainly" "_law_plainly" (yk ybS) (yj ybS) (yb ybS) .none kV49 dc49 pm49 an49 cd49 ct49,f50,fnOf "_law_pairs" "_law_pairs" (yk ycx) (yj ycx) (yb ycx) .none kV50 dc50 pm50 an50 cd50 ct50,f51,fnOf "_law_do" "_law_do" (yk yeP) (yj yeP) (yb yeP) .none kV51 dc51 pm51 an51 cd51 ct51,f52,fnOf "_law_part" "_law_part" (yk ycX) (yj ycX) (yb ycX) .none kV52 dc52 pm52 an52 cd52 ct52,fa,fnOf "law" "law" (yk ymY) (yj ymY) (yb ymY) .none kV53 dc53 pm53 an53 cd53 ct53,u1,u2,u3,u4⟩:=⟨F1,b1,F2,b2,F3,b3,F4,b4,F5,b5,F6,b6,F7,b7,F8,b8,F9,b9,F10,b10,mg_of X G a10,F11,b11,mg_of X G a11,F12,b12,F13,b13,F14,b14,F15,b15,F16,b16,F17,b17,F18,b18,F19,b19,F20,b20,F21,b21,F22,b22,F23,b23,F24,b24,F25,b25,F26,b26,F27,b27,F28,b28,F29,b29,F30,b30,F31,b31,F32,b32,F33,b33,F34,b34,mg_of X G a34,F35,b35,F36,b36,F37,b37,F38,b38,mg_of X G a38,F39,b39,mg_of X G a39,F40,b40,mg_of X G a40,F41,b41,mg_of X G a41,F42,b42,mg_of X G a42,F43,b43,mg_of X G a43,F44,b44,mg_of X G a44,F45,b45,mg_of X G a45,F46,b46,mg_of X G a46,F47,b47,mg_of X G a47,F48,b48,mg_of X G a48,F49,b49,mg_of X G a49,F50,b50,mg_of X G a50,F51,b51,mg_of X G a51,F52,b52,mg_of X G a52,F53,b53,mg_of X G a53,mg_of X G nCLog,⟨mkLog,yha,i1,kcLog⟩,mg_of X G nCDoing,⟨mkDoing,yfs,i25,kcDoing⟩,mg_of X G nCDoer,⟨mkDoer,ygp,i12,kcDoer⟩,mg_of X G nCLet,⟨mkLet,yhb,i21,kcLet⟩,mg_of X G nCReckon,⟨mkReckon,yeZ,i22,kcReckon⟩,mg_of X G nCTake,⟨mkTake,ygq,i23,kcTake⟩,mg_of X G nCPut,⟨mkPut,yhc,i24,kcPut⟩,mg_of X G nCIf,⟨mkIf,yhY,i35,kcIf⟩,mg_of X G nCEither,mg_of X G nCTry,⟨mkTry,yhd,i36,kcTry⟩,mg_of X G nCThrow,⟨mkThrow,yft,i37,kcThrow⟩,mg_of X G nCWait,mkWait,ioWait,kcWait,⟨yjC,i2,k2⟩,⟨ymr,i3,k3⟩,⟨yjD,i4,k4⟩,⟨yiK,i5,k5⟩,⟨ykG,i6,k6⟩,⟨yms,i7,k7⟩,⟨ymt,i8,k8⟩,⟨yjE,i9,k9⟩,⟨fs_Doing_held_in,i13,k13⟩,⟨fs_Doing_hold,i14,k14⟩,⟨fs_Doing_box_at,i15,k15⟩,⟨fs_Doing_do_reckon,i16,k16⟩,⟨fs_Doing_do_put,i17,k17⟩,⟨fs_Doing_sees_at,i18,k18⟩,⟨fs_Doing_take_own,i19,k19⟩,⟨fs_Doing_take_seen,i20,k20⟩,⟨yfa,i26,k26⟩,⟨yeC,i27,k27⟩,⟨yfu,i28,k28⟩,⟨yfv,i29,k29⟩,⟨yhe,i30,k30⟩,⟨yeD,i31,k31⟩,⟨ygr,i32,k32⟩,⟨yea,i33,k33⟩,⟨cr_Doer,cc_Doer,cs_Doer,k12⟩,CL,⟨all_cons ⟨CL 0,naLog_stack⟩ (fun k hk=>absurd hk (by simp)),all_cons ⟨CL 0,naLog_last_seen⟩ (fun k hk=>absurd hk (by simp)),all_cons ⟨CL 1,naDoing_held⟩ (fun k hk=>absurd hk (by simp)),all_cons ⟨CL 1,naDoing_width⟩ (fun k hk=>absurd hk (by simp)),all_cons ⟨CL 1,naDoing_log⟩ (fun k hk=>absurd hk (by simp)),all_cons ⟨CL 1,naDoing_found⟩ (fun k hk=>absurd hk (by simp)),all_cons ⟨CL 3,naLet_slot⟩ (all_cons ⟨CL 4,naReckon_slot⟩ (all_cons ⟨CL 5,naTake_slot⟩ (all_cons ⟨CL 6,naPut_slot⟩ (all_cons ⟨CL 7,naIf_slot⟩ (all_cons ⟨CL 9,naTry_slot⟩ (all_cons ⟨CL 10,naThrow_slot⟩ (fun k hk=>absurd hk (by simp)))))))),all_cons ⟨CL 3,naLet_number⟩ (fun k hk=>absurd hk (by simp)),all_cons ⟨CL 4,naReckon_word⟩ (fun k hk=>absurd hk (by simp)),all_cons ⟨CL 4,naReckon_one⟩ (fun k hk=>absurd hk (by simp)),all_cons ⟨CL 4,naReckon_other⟩ (fun k hk=>absurd hk (by simp)),all_cons ⟨CL 5,naTake_place⟩ (all_cons ⟨CL 6,naPut_place⟩ (fun k hk=>absurd hk (by simp))),all_cons ⟨CL 7,naIf_parts⟩ (all_cons ⟨CL 8,naEither_parts⟩ (all_cons ⟨CL 9,naTry_parts⟩ (fun k hk=>absurd hk (by simp)))),all_cons ⟨CL 7,naIf_others⟩ (all_cons ⟨CL 8,naEither_others⟩ (all_cons ⟨CL 9,naTry_others⟩ (fun k hk=>absurd hk (by simp)))),all_cons ⟨CL 9,naTry_name⟩ (all_cons ⟨CL 10,naThrow_name⟩ (fun k hk=>absurd hk (by simp))),all_cons (fun H p dx fs e=>⟨_,_,TY3 H p dx fs e,rfl,yhj⟩) (all_cons (fun H p dx fs e=>⟨_,_,TY3 H p dx fs e,rfl,yo ne3_4 hmReckon ty4 sb3_4⟩) (all_cons (fun H p dx fs e=>⟨_,_,TY3 H p dx fs e,rfl,yo ne3_5 hmTake ty5 sb3_5⟩) (all_cons (fun H p dx fs e=>⟨_,_,TY3 H p dx fs e,rfl,yo ne3_6 hmPut ty6 sb3_6⟩) (all_cons (fun H p dx fs e=>⟨_,_,TY3 H p dx fs e,rfl,yo ne3_7 hmIf ty7 sb3_7⟩) (all_cons (fun H p dx fs e=>⟨_,_,TY3 H p dx fs e,rfl,yo ne3_8 hmEither ty8 sb3_8⟩) (all_cons (fun H p dx fs e=>⟨_,_,TY3 H p dx fs e,rfl,yo ne3_9 hmTry ty9 sb3_9⟩) (all_cons (fun H p dx fs e=>⟨_,_,TY3 H p dx fs e,rfl,yo ne3_10 hmThrow ty10 sb3_10⟩) (all_cons (fun H p dx fs e=>⟨_,_,TY3 H p dx fs e,rfl,yo ne3_11 hmWait ty11 sb3_11⟩) (all_cons (fun H p dx fs e=>⟨_,_,TY4 H p dx fs e,rfl,yo ne4_3 hmLet ty3 sb4_3⟩) (all_cons (fun H p dx fs e=>⟨_,_,TY4 H p dx fs e,rfl,yhj⟩) (all_cons (fun H p dx fs e=>⟨_,_,TY4 H p dx fs e,rfl,yo ne4_5 hmTake ty5 sb4_5⟩) (all_cons (fun H p dx fs e=>⟨_,_,TY4 H p dx fs e,rfl,yo ne4_6 hmPut ty6 sb4_6⟩) (all_cons (fun H p dx fs e=>⟨_,_,TY4 H p dx fs e,rfl,yo ne4_7 hmIf ty7 sb4_7⟩) (all_cons (fun H p dx fs e=>⟨_,_,TY4 H p dx fs e,rfl,yo ne4_8 hmEither ty8 sb4_8⟩) (all_cons (fun H p dx fs e=>⟨_,_,TY4 H p dx fs e,rfl,yo ne4_9 hmTry ty9 sb4_9⟩) (all_cons (fun H p dx fs e=>⟨_,_,TY4 H p dx fs e,rfl,yo ne4_10 hmThrow ty10 sb4_10⟩) (all_cons (fun H p dx fs e=>⟨_,_,TY4 H p dx fs e,rfl,yo ne4_11 hmWait ty11 sb4_11⟩) (all_cons (fun H p dx fs e=>⟨_,_,TY5 H p dx fs e,rfl,yo ne5_3 hmLet ty3 sb5_3⟩) (all_cons (fun H p dx fs e=>⟨_,_,TY5 H p dx fs e,rfl,yo ne5_4 hmReckon ty4 sb5_4⟩) (all_cons (fun H p dx fs e=>⟨_,_,TY5 H p dx fs e,rfl,yhj⟩) (all_cons (fun H p dx fs e=>⟨_,_,TY5 H p dx fs e,rfl,yo ne5_6 hmPut ty6 sb5_6⟩) (all_cons (fun H p dx fs e=>⟨_,_,TY5 H p dx fs e,rfl,yo ne5_7 hmIf ty7 sb5_7⟩) (all_cons (fun H p dx fs e=>⟨_,_,TY5 H p dx fs e,rfl,yo ne5_8 hmEither ty8 sb5_8⟩) (all_cons (fun H p dx fs e=>⟨_,_,TY5 H p dx fs e,rfl,yo ne5_9 hmTry ty9 sb5_9⟩) (all_cons (fun H p dx fs e=>⟨_,_,TY5 H p dx fs e,rfl,yo ne5_10 hmThrow ty10 sb5_10⟩) (all_cons (fun H p dx fs e=>⟨_,_,TY5 H p dx fs e,rfl,yo ne5_11 hmWait ty11 sb5_11⟩) (all_cons (fun H p dx fs e=>⟨_,_,TY6 H p dx fs e,rfl,yo ne6_3 hmLet ty3 sb6_3⟩) (all_cons (fun H p dx fs e=>⟨_,_,TY6 H p dx fs e,rfl,yo ne6_4 hmReckon ty4 sb6_4⟩) (all_cons (fun H p dx fs e=>⟨_,_,TY6 H p dx fs e,rfl,yo ne6_5 hmTake ty5 sb6_5⟩) (all_cons (fun H p dx fs e=>⟨_,_,TY6 H p dx fs e,rfl,yhj⟩) (all_cons (fun H p dx fs e=>⟨_,_,TY6 H p dx fs e,rfl,yo ne6_7 hmIf ty7 sb6_7⟩) (all_cons (fun H p dx fs e=>⟨_,_,TY6 H p dx fs e,rfl,yo ne6_8 hmEither ty8 sb6_8⟩) (all_cons (fun H p dx fs e=>⟨_,_,TY6 H p dx fs e,rfl,yo ne6_9 hmTry ty9 sb6_9⟩) (all_cons (fun H p dx fs e=>⟨_,_,TY6 H p dx fs e,rfl,yo ne6_10 hmThrow ty10 sb6_10⟩) (all_cons (fun H p dx fs e=>⟨_,_,TY6 H p dx fs e,rfl,yo ne6_11 hmWait ty11 sb6_11⟩) (all_cons (fun H p dx fs e=>⟨_,_,TY7 H p dx fs e,rfl,yo ne7_3 hmLet ty3 sb7_3⟩) (all_cons (fun H p dx fs e=>⟨_,_,TY7 H p dx fs e,rfl,yo ne7_4 hmReckon ty4 sb7_4⟩) (all_cons (fun H p dx fs e=>⟨_,_,TY7 H p dx fs e,rfl,yo ne7_5 hmTake ty5 sb7_5⟩) (all_cons (fun H p dx fs e=>⟨_,_,TY7 H p dx fs e,rfl,yo ne7_6 hmPut ty6 sb7_6⟩) (all_cons (fun H p dx fs e=>⟨_,_,TY7 H p dx fs e,rfl,yhj⟩) (all_cons (fun H p dx fs e=>⟨_,_,TY7 H p dx fs e,rfl,yo ne7_8 hmEither ty8 sb7_8⟩) (all_cons (fun H p dx fs e=>⟨_,_,TY7 H p dx fs e,rfl,yo ne7_9 hmTry ty9 sb7_9⟩) (all_cons (fun H p dx fs e=>⟨_,_,TY7 H p dx fs e,rfl,yo ne7_10 hmThrow ty10 sb7_10⟩) (all_cons (fun H p dx fs e=>⟨_,_,TY7 H p dx fs e,rfl,yo ne7_11 hmWait ty11 sb7_11⟩) (all_cons (fun H p dx fs e=>⟨_,_,TY9 H p dx fs e,rfl,yo ne9_3 hmLet ty3 sb9_3⟩) (all_cons (fun H p dx fs e=>⟨_,_,TY9 H p dx fs e,rfl,yo ne9_4 hmReckon ty4 sb9_4⟩) (all_cons (fun H p dx fs e=>⟨_,_,TY9 H p dx fs e,rfl,yo ne9_5 hmTake ty5 sb9_5⟩) (all_cons (fun H p dx fs e=>⟨_,_,TY9 H p dx fs e,rfl,yo ne9_6 hmPut ty6 sb9_6⟩) (all_cons (fun H p dx fs e=>⟨_,_,TY9 H p dx fs e,rfl,yo ne9_7 hmIf ty7 sb9_7⟩) (all_cons (fun H p dx fs e=>⟨_,_,TY9 H p dx fs e,rfl,yo ne9_8 hmEither ty8 sb9_8⟩) (all_cons (fun H p dx fs e=>⟨_,_,TY9 H p dx fs e,rfl,yhj⟩) (all_cons (fun H p dx fs e=>⟨_,_,TY9 H p dx fs e,rfl,yo ne9_10 hmThrow ty10 sb9_10⟩) (all_cons (fun H p dx fs e=>⟨_,_,TY9 H p dx fs e,rfl,yo ne9_11 hmWait ty11 sb9_11⟩) (all_cons (fun H p dx fs e=>⟨_,_,TY10 H p dx fs e,rfl,yo ne10_3 hmLet ty3 sb10_3⟩) (all_cons (fun H p dx fs e=>⟨_,_,TY10 H p dx fs e,rfl,yo ne10_4 hmReckon ty4 sb10_4⟩) (all_cons (fun H p dx fs e=>⟨_,_,TY10 H p dx fs e,rfl,yo ne10_5 hmTake ty5 sb10_5⟩) (all_cons (fun H p dx fs e=>⟨_,_,TY10 H p dx fs e,rfl,yo ne10_6 hmPut ty6 sb10_6⟩) (all_cons (fun H p dx fs e=>⟨_,_,TY10 H p dx fs e,rfl,yo ne10_7 hmIf ty7 sb10_7⟩) (all_cons (fun H p dx fs e=>⟨_,_,TY10 H p dx fs e,rfl,yo ne10_8 hmEither ty8 sb10_8⟩) (all_cons (fun H p dx fs e=>⟨_,_,TY10 H p dx fs e,rfl,yo ne10_9 hmTry ty9 sb10_9⟩) (all_cons (fun H p dx fs e=>⟨_,_,TY10 H p dx fs e,rfl,yhj⟩) (all_cons (fun H p dx fs e=>⟨_,_,TY10 H p dx fs e,rfl,yo ne10_11 hmWait ty11 sb10_11⟩) (all_cons (fun H p dx fs e=>⟨_,_,TY11 H p dx fs e,rfl,yo ne11_3 hmLet ty3 sb11_3⟩) (all_cons (fun H p dx fs e=>⟨_,_,TY11 H p dx fs e,rfl,yo ne11_4 hmReckon ty4 sb11_4⟩) (all_cons (fun H p dx fs e=>⟨_,_,TY11 H p dx fs e,rfl,yo ne11_5 hmTake ty5 sb11_5⟩) (all_cons (fun H p dx fs e=>⟨_,_,TY11 H p dx fs e,rfl,yo ne11_6 hmPut ty6 sb11_6⟩) (all_cons (fun H p dx fs e=>⟨_,_,TY11 H p dx fs e,rfl,yo ne11_7 hmIf ty7 sb11_7⟩) (all_cons (fun H p dx fs e=>⟨_,_,TY11 H p dx fs e,rfl,yo ne11_8 hmEither ty8 sb11_8⟩) (all_cons (fun H p dx fs e=>⟨_,_,TY11 H p dx fs e,rfl,yo ne11_9 hmTry ty9 sb11_9⟩) (all_cons (fun H p dx fs e=>⟨_,_,TY11 H p dx fs e,rfl,yo ne11_10 hmThrow ty10 sb11_10⟩) (all_cons (fun H p dx fs e=>⟨_,_,TY11 H p dx fs e,rfl,yhj⟩) (fun k hk=>absurd hk (by simp [yK])))))))))))))))))))))))))))))))))))))))))))))))))))))))))))))))))))))))))⟩,mg_none_of X G z1,mg_none_of X G z2,mg_none_of X G z3,mg_none_of X G z4,mg_none_of X G z5,mg_none_of X G z6,mg_none_of X G z7,mg_none_of X G z8,mg_none_of X G z9,mg_none_of X G z10,mg_none_of X G z11,mg_none_of X G z12,mg_none_of X G z13,mg_of X G q1,⟨_,_,_,qk1,rfl,rfl,(by show 1<=sizeLine;decide),.cons ⟨_,rfl⟩ (.nil)⟩,mg_of X G q2,mg_of X G q3,⟨_,_,_,qk3,rfl,rfl,(by show 1<=sizeLine;decide),.cons ⟨_,rfl⟩ (.nil)⟩,mg_of X G q4⟩
 refine ⟨fnOf "law" "law" (yk ymY) (yj ymY) (yb ymY) .none kV53 dc53 pm53 an53 cd53 ct53,fun s v=>.of_eq rfl,fun base _ _=>?_⟩
 have yhW:=yoQ (P:=l.prog) (w:=w) (base:=base) T
 have ykD:=ytE (P:=l.prog) (w:=w) (base:=base) T
 have yid:=yxq (P:=l.prog) (w:=w) (base:=base) T
 have yiJ:=ytF (P:=l.prog) (w:=w) (base:=base) T
 have yhH:=yrE (P:=l.prog) (w:=w) (base:=base) T
 have yjQ:=yvm (P:=l.prog) (w:=w) (base:=base) T
 have yoT:=yxr (P:=l.prog) (w:=w) (base:=base) T
 have ylD:=yxs (P:=l.prog) (w:=w) (base:=base) T
 have ykF:=ytG (P:=l.prog) (w:=w) (base:=base) T
 have G_reckon:=yAh (P:=l.prog) (w:=w) (base:=base) T
 have yeH:=yrF (P:=l.prog) (w:=w) (base:=base) T
 have yI:=yoR (P:=l.prog) (w:=w) (base:=base) T yeH
 have ybh:=ytH (P:=l.prog) (w:=w) (base:=base) T yeH
 have ybp:=ypG (P:=l.prog) (w:=w) (base:=base) T yI
 have ygW:=yno (P:=l.prog) (w:=w) (base:=base) T yhW
 have ygn:=ymm (P:=l.prog) (w:=w) (base:=base) T yI ybh G_reckon
 have yiI:=ypH (P:=l.prog) (w:=w) (base:=base) T ybp yI ykD
 have yhX:=yoS (P:=l.prog) (w:=w) (base:=base) T ybp yid
 have ygX:=ynp (P:=l.prog) (w:=w) (base:=base) T ybp ybh yid
 have ygm:=ymn (P:=l.prog) (w:=w) (base:=base) T ybp ybh yoT
 have yfK:=yoU (P:=l.prog) (w:=w) (base:=base) T
 have ydS:=ylB (P:=l.prog) (w:=w) (base:=base) T
 have yeY:=ynq (P:=l.prog) (w:=w) (base:=base) T
 have yfL:=yoV (P:=l.prog) (w:=w) (base:=base) T
 have ygE:=ypI (P:=l.prog) (w:=w) (base:=base) T
 have yfM:=yoW (P:=l.prog) (w:=w) (base:=base) T
 have yeu:=ymo (P:=l.prog) (w:=w) (base:=base) T
 have ygo:=ymp (P:=l.prog) (w:=w) (base:=base) T ygW
 have yfq:=ylC (P:=l.prog) (w:=w) (base:=base) T yhX ygX ygm
 have ydt:=ykE (P:=l.prog) (w:=w) (base:=base) T yiI ygn ybh yfq
 have GR4:=yAi (P:=l.prog) (w:=w) (base:=base) T yI ybh ydt yiJ yjQ yhH 20
 have ybq:=GR4.yiN
 have yiP:=GR4.yiO
 have yjV:=GR4.yjU
 have yhI:=GR4.yhG
 have yjy:=GR4.yjx
 have yeB:=GR4.ygY
 have G_alone:=yCt (P:=l.prog) (w:=w) (base:=base) T ygo ybq ylD ykF
 have ybt:=yrG (P:=l.prog) (w:=w) (base:=base) T
 have yde:=ytI (P:=l.prog) (w:=w) (base:=base) T
 have GR0:=yAj (P:=l.prog) (w:=w) (base:=base) T  5
 have ygc:=GR0.ymR
 have yjA:=yrH (P:=l.prog) (w:=w) (base:=base) T ybt
 have yhJ:=yrI (P:=l.prog) (w:=w) (base:=base) T yde
 have yhK:=yrJ (P:=l.prog) (w:=w) (base:=base) T
 have GR1:=yAk (P:=l.prog) (w:=w) (base:=base) T ybt yhJ yhK 5
 have yfr:=GR1.yoX
 have GR2:=yAl (P:=l.prog) (w:=w) (base:=base) T ygE yfK yfL ydS yeY yeu yfM 7
 have ydJ:=GR2.yoY
 have yjz:=yrK (P:=l.prog) (w:=w) (base:=base) T ybt yde
 have yjB:=yrL (P:=l.prog) (w:=w) (base:=base) T ybt yde
 have ymq:=yvn (P:=l.prog) (w:=w) (base:=base) T
 have yfN:=yoZ (P:=l.prog) (w:=w) (base:=base) T ymq
 have ygd:=yrM (P:=l.prog) (w:=w) (base:=base) T
 have GR3:=yAm (P:=l.prog) (w:=w) (base:=base) T yfN 20
 have ygZ:=GR3.ytJ
 have ypb:=GR3.ypa
 have G_law:=yIU (P:=l.prog) (w:=w) (base:=base) T ygc yjz ygZ ydJ yjA ygd yjB yfr G_alone
 exact G_law.imp yIV
theorem walk {l:PySem.W.OpenLaw}{q:Program}{loose:List Str}{XP:(Str->Option Value)->Heap->Prop}{YP:World->Heap->Prop}{d:DefRec}{K:Params->PySem.W.Frag}(hn:l.most=some 63) (hdf:d.params.defaults=[])
  (hY:∀ (w:World) (h:Heap),YP w h->(K w.params).In h)
  (F:∀ (w:World) (mg:Str->Option Value) (fa:Addr) (h:Heap),(K w.params).In h->h.Ns mainGlobals mg->mg d.name=some (.ref fa) ->
   ∃ fd:FuncData,(∀ (s:Shared) (u:Value),BindsTo s fd ⟨[u],[]⟩ [("_law_script",u)])/\∀ base:Heap,(K w.params).In base->base.Ns mainGlobals mg->FnOk l.prog w (K w.params) mg base CX0 30 fa fd ["_law_script"] (yCu (K w.params))) :
  PySem.W.WalkO q loose XP YP l.row.toRowW d [] (fun f vs=>PySem.call f vs) :=
 L2.walk_of (n:=63) (k:=30) (x:="_law_script") (CX:=fun _=>CX0) (sp:=fun w=>yCu (K w.params)) hn (by decide) hdf ⟨rfl,by decide,by decide⟩ hY F (fun _ _ a ns hl _ hS=>⟨a,ns,rfl,hS,hl,fun _=>rfl⟩) fun _ _ _ _ _ z=>z
end My
namespace PySem.W.Fast
def tw15317240057821012813:=()
def tw15970700232436909239:=()
def tw5307548658434564088:=()
def tw2538007832036779405:=()
def tw9089227837338680238:=()
def tw12871086716007861651:=()
def tw13726915287263891504:=()
def tw4163859896821966711:=()
def tw2358054050508922208:=()
def tw16683173469476080374:=()
def tw16850048942898728008:=()
def tw4874129980145999384:=()
def tw14641267025633153395:=()
def tw10401832516953774744:=()
def tw9996979697886051638:=()
def tw2379464698732810497:=()
def tw13715285891578922200:=()
def tw6976261009686317415:=()
def tw612974881816988078:=()
def tw10094656897756480147:=()
def tw3858540436927082433:=()
def tw16127584152342122469:=()
def tw6138906399770891335:=()
def tw3866244723126000594:=()
def tw8861535050231139175:=()
def tw10663566997603270022:=()
def tw11494047753032907093:=()
def tw12709576258317908600:=()
def tw839922249502348580:=()
def tw12025417403100042681:=()
def tw726617027840674679:=()
def tw6743109572028452750:=()
def tw3283173286303433839:=()
def tw12826898822205006454:=()
def tw12987859126775163753:=()
def tw7064325652457063608:=()
def tw15759937024861473378:=()
def tw3853989264375890811:=()
def tw15343940497662885823:=()
def tw14910944776893974295:=()
def tw8919459485103970528:=()
def tw15732419453599515256:=()
def tw4826494766111043418:=()
def tw15287150234559666431:=()
def tw14547493939823700957:=()
def tw1727373747917343827:=()
def tw16022028314593689264:=()
def tw5475670687055378110:=()
def tw1416971858228223483:=()
def tw4252837834141795496:=()
def tw5143750386601890407:=()
def tw17516965725910018456:=()
def tw6077741274199032592:=()
def tw18334053863675471239:=()
def tw382290341861134134:=()
def tw10429118760871433711:=()
def tw6828633521811335207:=()
def tw16969305043539568778:=()
def tw13383339887045245967:=()
def tw8071539205610205065:=()
def tw2076697087869541482:=()
def tw7244112458958791291:=()
def tw4567312005969923105:=()
def tw17262621131574972037:=()
def tw5288519382667897513:=()
def tw6151903474036968377:=()
def tw8074827050117299160:=()
def tw10474687317646608726:=()
def tw12759747182567761746:=()
def tw4097295345368436410:=()
def tw8618290368362849366:=()
def tw16552305482760176643:=()
def tw4965953134558464005:=()
def tw16281183721618425429:=()
def tw8814882212636407407:=()
def tw16808978992968496531:=()
def tw474667017429557002:=()
def tw10358605871442701316:=()
def tw15509507997723627690:=()
def tw9539101172495943222:=()
def tw11113388371490268632:=()
def tw188444978225616093:=()
def tw14444202935508282347:=()
def tw16252809462883933259:=()
def tw14038801683317678815:=()
def tw1714597875756249090:=()
def tw11646505932953632275:=()
def tw5874867914957074066:=()
def tw3711003370293283829:=()
def tw14305767516784782205:=()
def tw8458779541470151663:=()
def tw18415540406162519739:=()
def tw11906354178913075044:=()
def tw4242776601019512632:=()
def tw10064603189357089490:=()
def tw8447705064806976000:=()
def tw8425989861537279853:=()
def tw18365561770709701540:=()
def tw3976069086760697735:=()
def tw1501597261346075250:=()
def tw10815508017407274457:=()
def tw13295205538975184889:=()
def tw4554936610339823057:=()
def tw3095694209198893537:=()
def tw11418850111234559041:=()
def tw9034230908959632630:=()
def tw14163031109391133488:=()
def tw3716335226339549574:=()
def tw5373556519570168687:=()
def tw7888938544130064653:=()
def tw9615027650619760225:=()
def tw8571236588022699381:=()
def tw5149640965080027005:=()
def tw4476992626075841978:=()
def tw17877156472958631674:=()
def tw11337592278830251427:=()
def tw3070618175108099601:=()
def tw9252339357907416622:=()
def tw12842776953287228592:=()
def tw7660663757973075488:=()
def tw5644825932828103550:=()
def tw4929292452027306310:=()
def tw13507582639529957270:=()
def tw5548226179013158606:=()
def tw1395733512884738553:=()
def tw16770707696004761238:=()
def tw15791695686163865993:=()
def tw17863116197645914296:=()
def tw3146686525471424470:=()
def tw17295275111261226712:=()
def tw16693646631541078526:=()
def tw6786118237663441181:=()
def tw8156018261101515648:=()
def tw9461231763090055932:=()
def tw14499673446456350123:=()
def tw36515568071636493:=()
def tw9212167283554994753:=()
def tw2481349251868824086:=()
def tw3412496230607305215:=()
def tw1682024519912382816:=()
def tw15369448028150227007:=()
def tw18323474536961952396:=()
def tw11781275195601426123:=()
def tw9586180078203813175:=()
def tw163639231123405318:=()
def tw7295093294365663959:=()
def tw14818886690267401593:=()
def tw881170146286012871:=()
def tw16296339729548000976:=()
def tw16681523744133370602:=()
def tw4961837829178080872:=()
def tw483569773656438264:=()
def tw11267087191010897259:=()
def tw13696342219099978705:=()
def tw4016256130437501607:=()
def tw13444573748487628026:=()
def tw4627975012432797886:=()
def tw12848315555187169258:=()
def tw1742419346024732013:=()
def tw3227847905832338132:=()
def tw17972347710590458669:=()
def tw8457316280362302648:=()
def tw1962249503542812720:=()
def tw9020731436002258175:=()
def tw6115640476982872814:=()
def tw13590856559815714067:=()
def tw13308151937805605932:=()
def tw10063130763340674036:=()
def tw3872016968428106162:=()
def tw8451208426304511567:=()
def tw10701064637239493114:=()
def tw13418623554762980234:=()
def tw9479530142735678201:=()
def tw15183533752778931999:=()
def tw16872556055443034832:=()
def tw17483168904267070864:=()
def tw3597620225868410648:=()
def tw620700399840698720:=()
def tw8594307719475398943:=()
def tw3337688823502264102:=()
def tw7075607979381554256:=()
def tw7633499247043742133:=()
def tw6920717129360458956:=()
def tw232340130557581762:=()
def tw2425223478280662156:=()
def tw4949154875299855008:=()
def tw15594013316389084501:=()
def tw11890784868206304073:=()
def tw17817109999455867867:=()
def tw8461460924925432015:=()
def tw10578135358548043845:=()
def tw4717849775266435277:=()
def tw384867870764708120:=()
def tw12885566834754669366:=()
def tw11512763840930152275:=()
def tw16720987777141509377:=()
def tw11423727088387086701:=()
def tw11416212091614504369:=()
def tw6931638672422187397:=()
def tw17256750563896275569:=()
def tw17598557970127563262:=()
def tw15923569276895493624:=()
def tw10482561048130765838:=()
def tw10809694725254751667:=()
def tw3977536918425752925:=()
def tw13510439954409798904:=()
def tw9170379879316559101:=()
def tw14216481064005900826:=()
def tw6412602390057336387:=()
def tw8507566102818229355:=()
def tw14319848303994924349:=()
def tw12142106286638103963:=()
def tw6330135518899369917:=()
def tw16415796091808019108:=()
def tw7007595767843298607:=()
def tw5422328405412857405:=()
def tw14115244321366878584:=()
def tw2811667600079333745:=()
def tw13233454124889490753:=()
def tw15241011887755165759:=()
def tw8130199245214854917:=()
def tw10178179638436995347:=()
def tw7785055642962555789:=()
def tw9838611701035886756:=()
def tw12614848631652900719:=()
def tw1778966976075919938:=()
def tw6440215369893516656:=()
def tw13233343558454631614:=()
def tw9105236191388411361:=()
def tw15358252186668133533:=()
def tw6957147702202569179:=()
def tw10847898052910110560:=()
def tw13783403934835311542:=()
def tw4211960541281960735:=()
def tw11358331067694282765:=()
def tw723855786962929487:=()
def tw5470719713185315660:=()
def tw616546280391414474:=()
def tw2460438396306771392:=()
def tw13209784286839572492:=()
def tw1207546212147859284:=()
def tw8876261601216025600:=()
def tw11690029094198574315:=()
def tw8224134307282994460:=()
def tw241401757961868972:=()
def tw9688694273340059997:=()
def tw5700057908706784355:=()
def tw237509153169455250:=()
def tw11486432807208112638:=()
def tw462452101396026973:=()
def tw854145094196384931:=()
def tw14662823746096825277:=()
def tw15467086492750870623:=()
def tw2991580396134842369:=()
def tw12214378007188325185:=()
def tw13122698130683801959:=()
def tw3184260687684641648:=()
def tw16496527457609276492:=()
def tw7233558084050642930:=()
def tw5708888715223730528:=()
def tw11731719828171375223:=()
def tw6754876738464598299:=()
def tw483984859106975947:=()
def tw11552699219998270827:=()
def tw6815533986459742336:=()
def tw1791436202253256724:=()
def tw4895311283442682635:=()
def tw6316784765605940345:=()
def tw17054752411759324977:=()
def tw2713002642843907802:=()
def tw15436219809684463667:=()
def tw9819284420934346790:=()
def tw2920950051232857746:=()
def tw4656786333778301377:=()
def tw14231818752839476189:=()
def tw2013500976159586462:=()
def tw6134992617305228017:=()
def tw11963384530579297394:=()
def tw3520329482133293996:=()
def tw15345900287604006320:=()
def tw12923364375797334801:=()
def tw3229248409165749832:=()
def tw6253953870028399877:=()
def tw17911077266544486987:=()
def tw5403714150558105541:=()
def tw11585232700052854093:=()
def tw17823544971310987781:=()
def tw7535472517210941705:=()
def tw14705743396409984065:=()
def tw7884254130620591974:=()
def tw9355172304342625241:=()
def tw3296937237993326583:=()
def tw2231033994780458733:=()
def tw14909493965087646959:=()
def tw14160356228667546634:=()
def tw13576042522741547217:=()
def tw3222781920721090092:=()
def tw6238025263545062817:=()
def tw15908629410492468420:=()
def tw14651834206013719704:=()
def tw1719353428993132369:=()
def tw850047878408177300:=()
def tw15070503173767363387:=()
def tw4377992316942706943:=()
def tw9541413226236081078:=()
def tw5430669426147085785:=()
def tw3802060435068946356:=()
def tw358404262063328331:=()
def tw1712436384741434587:=()
def tw12330336857300299112:=()
def tw1298641580090792208:=()
def tw18035772505552625090:=()
def tw13892351959475995187:=()
def tw4760132843378970812:=()
def tw17631787790818043647:=()
def tw18338380396178703305:=()
def tw808227887583173213:=()
def tw15505259059490660793:=()
def tw12859728098932380191:=()
def tw14863041748506650120:=()
def tw5581674005636698184:=()
def tw18085202965410870523:=()
def tw5323542383065463847:=()
def tw9813955362256515068:=()
def tw3063583050633851007:=()
def tw13481253882836411978:=()
def tw11158948163012509430:=()
def tw962174605628452106:=()
def tw994081267933804527:=()
def tw6688325579986921695:=()
def tw7531163358842022474:=()
def tw16512367778630532817:=()
def tw3534194722762617182:=()
def tw5353087889252147930:=()
def tw5508970175301052414:=()
def tw14142103460465757791:=()
def tw3836510115721404783:=()
def tw9872627313755288169:=()
def tw10150474734752054244:=()
def tw2180407575080013261:=()
def tw6890416140656665959:=()
def tw8043341655106615566:=()
def tw6261423850155541901:=()
def tw17167358777717475921:=()
def tw8817636869070579378:=()
def tw15670749496259751419:=()
def tw14154655350065946644:=()
def tw2239947561577392793:=()
def tw7332939830835655064:=()
def tw9733847917522280407:=()
def tw11357040208392032865:=()
def tw3129765210816127241:=()
def tw7738651657998754936:=()
def tw17478505811981254509:=()
def tw13931080755073323785:=()
def tw3108236974308212552:=()
def tw6496128064322819239:=()
def tw16811394781012071143:=()
def tw6623216601322004381:=()
def tw17138733964704904256:=()
def tw16109455559554161325:=()
def tw5002897610331753410:=()
def tw6715200859304315633:=()
def tw925729129080167133:=()
def tw7367697868390934183:=()
def tw9890536119082115395:=()
def tw10788745825444524920:=()
def tw11164662262298330095:=()
def tw9633782356390284069:=()
def tw5569701185200513725:=()
def tw13352575891319678601:=()
def tw3878372075754053952:=()
def tw3702888076816660773:=()
def tw10165138485691150910:=()
def tw655052330127606774:=()
def tw6992838042532071219:=()
def tw11074695242145186587:=()
def tw17500670355145452274:=()
def tw11740422480264700555:=()
def tw10909798896838375715:=()
def tw12366614793441660778:=()
def tw17640352018660934186:=()
def tw18140366916160122433:=()
def tw6688560860264246320:=()
def tw14505097545835847697:=()
def tw1658896972775674772:=()
def tw15000522159473187817:=()
def tw7604483514680491733:=()
def tw9988830206362805042:=()
def tw6391430282659245688:=()
def tw278494950974717872:=()
def tw5988541399043102795:=()
def tw16299808302276412103:=()
def tw15822727472180744872:=()
def tw15073249657376783108:=()
def tw11968337675698702582:=()
def tw14590712418558904516:=()
def tw9217047080026571224:=()
def tw18397781894367364956:=()
def tw13506319399866957087:=()
def tw6530126938062799369:=()
def tw15602977250128993282:=()
def tw11421859884329847280:=()
def tw8355113109459996433:=()
def tw11589677446969172992:=()
def tw7946766864847944000:=()
def tw12483702989149284285:=()
def tw16683187766065872744:=()
def tw15083123096224887237:=()
def tw6305901926935166781:=()
def tw9620718587438888119:=()
def tw192564407479902485:=()
def tw3288355666416324692:=()
def tw14830871901356079770:=()
def tw9292046986559605085:=()
def tw15961943574662067439:=()
def tw17199297695284532250:=()
def tw4737831401702594763:=()
def tw16382251132566072587:=()
def tw1145165329044939939:=()
def tw16409291102027152594:=()
def tw5417489472952944286:=()
def tw6311084397243530856:=()
def tw7801266360164474765:=()
def tw1967549652197496599:=()
def tw10487974942928981574:=()
def tw833844346007964540:=()
def tw13520848428857690792:=()
def tw18101671644037008636:=()
def tw14552499322780260002:=()
def tw3712451454694807656:=()
def tw12869475967447915686:=()
def tw16012865492422642580:=()
def tw13535123904976173457:=()
def tw11650841148756901090:=()
def tw6764856153780196207:=()
def tw5997674047222540169:=()
def tw11013472798526942137:=()
def tw14684745230022275018:=()
def tw16854986165855741579:=()
def tw6601605329848887265:=()
def tw4629060755162340447:=()
def tw18429395351669681784:=()
def tw11160546631392956891:=()
def tw16322583598539280364:=()
def tw8551304246247271898:=()
def tw15329550664234949163:=()
def tw7886359241266400908:=()
def tw9172015482317322419:=()
def tw3398028847555768147:=()
def tw8768479002519681455:=()
def tw5916542787131747027:=()
def tw15339967846719182843:=()
def tw2206412407193817525:=()
def tw7672884460895232238:=()
def tw6881036431414809953:=()
def tw10023246217432403971:=()
def tw12402944503237478969:=()
def tw3626198901287326592:=()
def tw2386144786544714192:=()
def tw3328070132194703483:=()
def tw1680034567789425898:=()
def tw18235230819708240465:=()
def tw5517942431626531576:=()
def tw14495569897556671111:=()
def tw8007526543332737433:=()
def tw4090548593763583565:=()
def tw9672369293597489250:=()
def tw15747245835041877735:=()
def tw12048156972224764766:=()
def tw365166334556514543:=()
def tw15979157378628622916:=()
def tw13603655131322187751:=()
def tw2739784968399284807:=()
def tw943609680054006764:=()
def tw2794062502022484018:=()
def tw8025975634965751410:=()
def tw2710151501576914960:=()
def tw1061720986654086615:=()
def tw11349663993751280248:=()
def tw9947100605527533992:=()
def tw10583036102818828027:=()
def tw539052411814638467:=()
def tw1068510346596732532:=()
def tw9521773447718865886:=()
def tw904244055133796497:=()
def tw18034059441797224219:=()
def tw7581922411037804838:=()
def tw14228060385096383671:=()
def tw9070388106582962360:=()
def tw5337033448216848272:=()
def tw4363110274789890807:=()
def tw14290557739817342889:=()
def tw13482176392876992389:=()
def tw8376202140869988997:=()
def tw17592924469799921548:=()
def tw5958211886282740583:=()
def tw9001625254879140499:=()
def tw11621998773919472653:=()
def tw5121802521001320714:=()
def tw11230557879559822557:=()
def tw1934169732661469329:=()
def tw8780811860026088188:=()
def tw7901597196836750309:=()
def tw1996519120651177007:=()
def tw9602340750672743819:=()
def tw11341121897424610931:=()
def tw12375235574104321914:=()
def tw584897560270827819:=()
def tw4959517493737743608:=()
def tw8718122155702967641:=()
def tw4707628862512400590:=()
def tw11797782850143498678:=()
def tw10789926641794149915:=()
def tw6414861149011088678:=()
def tw6729621561631036912:=()
def tw14655925962548023685:=()
def tw8737988997432837172:=()
def tw1791381757942251637:=()
def tw10345109383398277912:=()
def tw923937956270108225:=()
def tw1158348732453077209:=()
def tw585420836807911456:=()
def tw5095289037230226413:=()
def tw17130500218816574553:=()
def tw8892597038031340283:=()
def tw6294377270789055426:=()
def tw7992447256370811812:=()
def tw778155261673784310:=()
def tw10113467334060617715:=()
def tw12553879719375397606:=()
def tw5029835926943878049:=()
def tw5462086668578957692:=()
def tw3124557067430458484:=()
def tw15957701906244265321:=()
def tw15148135695553527968:=()
def tw9924899669023296468:=()
def tw16482370215638211337:=()
def tw10168278476751673255:=()
def tw4959826115644062776:=()
def tw523682347049266853:=()
def tw7226167153729827855:=()
def tw7114452887716228908:=()
def tw736977511603219156:=()
def tw1723615442975587194:=()
def tw1409147564027976637:=()
def tw5978796620369385313:=()
def tw17902965154223145491:=()
def tw12067358337704742984:=()
def tw9625388747815600728:=()
def tw6397884634928208693:=()
def tw14582034881127885485:=()
def tw5852407168072483131:=()
def tw15981767642853683214:=()
def tw11083823190868392756:=()
def tw3159571447468392577:=()
def tw11084462949297697053:=()
def tw16818793760159987583:=()
def tw821678422784282591:=()
def tw427614037724986860:=()
def tw10470478213749169712:=()
def tw4838660104242956212:=()
def tw4657633504753400544:=()
def tw3703461101786446137:=()
def tw5713869611998427127:=()
def tw16863829549798349489:=()
def tw10873589560058350630:=()
def tw17287979944739986058:=()
def tw13584876366107049534:=()
def tw15464109324980283629:=()
def tw10732075292935825700:=()
def tw3894921873041585237:=()
def tw13775771680443714700:=()
def tw13967563966185566666:=()
def tw3495612383727478232:=()
def tw7609414690528455361:=()
def tw4365856882569876901:=()
def tw3737091836516499751:=()
def tw9093316284254983945:=()
def tw4728515440822554463:=()
def tw7505073546885230054:=()
def tw2750274990406877775:=()
def tw6419987307277752294:=()
def tw5162513265511182584:=()
def tw8270353355086788849:=()
def tw14796177417307619158:=()
def tw10658019956212336844:=()
def tw4544254940157207106:=()
def tw799549185907711225:=()
def tw15086583751096656899:=()
def tw16577482156487782165:=()
def tw4710970275050097011:=()
def tw4809466298210981730:=()
def tw3574688313500401901:=()
def tw5568917149524464449:=()
def tw18196516543382504870:=()
def tw9789997065919324010:=()
def tw2172637002078051138:=()
def tw8755852815685248892:=()
def tw8118801677546748434:=()
def tw307116371015593046:=()
def tw7748667540759996837:=()
def tw13683062182110281996:=()
def tw11238053914117725775:=()
def tw6957933102516848358:=()
def tw12147037144740571640:=()
def tw11811746344638535446:=()
def tw17849490621422313506:=()
def tw17934372209426984793:=()
def tw5190382004982213498:=()
def tw10955367231185422542:=()
def tw10849672779961057891:=()
def tw13474179941306475270:=()
def tw9710191295967993854:=()
def tw17941954148375350540:=()
def tw11169695378235520802:=()
def tw1499712058198874410:=()
def tw5278186149726445593:=()
def tw992659913689641587:=()
def tw17367604139196951457:=()
def tw3121067602201177989:=()
def tw6818562510306348609:=()
def tw11041266649658227159:=()
def tw18078157701469220360:=()
def tw5540423684966469227:=()
def tw6372918268520620074:=()
def tw14165686196542010780:=()
def tw11592308220904032986:=()
def tw2237152727831513955:=()
def tw15762306681807775780:=()
def tw13288725185523397917:=()
def tw17112287205175093984:=()
def tw8260225762454666768:=()
def tw14428742708382633672:=()
def tw16559442281903094012:=()
def tw11436448124316274835:=()
def tw7722230240794254711:=()
def tw107566070721331614:=()
def tw16674692647311851022:=()
def tw12382785133541616060:=()
def tw5080087497709334883:=()
def tw4658669960004947115:=()
def tw3894334914341991303:=()
def tw10250192164076076902:=()
def tw5608330920800561186:=()
def tw6845906408620496298:=()
def tw1794716612611674428:=()
def tw18142441063384577069:=()
def tw1522460109773877376:=()
def tw5616111849337138128:=()
def tw5609682746486989976:=()
def tw16464292512750860504:=()
def tw13411580726056796588:=()
def tw17163882342814086502:=()
def tw9770482407644142320:=()
def tw7855903204056370324:=()
def tw15412845635936749287:=()
def tw15909323191415004167:=()
def tw14066535949318813876:=()
def tw6145740777805978645:=()
def tw11099022074693565529:=()
def tw17691734359858779934:=()
def tw6174746187598615684:=()
def tw16300742313946274399:=()
def tw13042150459425680906:=()
def tw14216509832288549774:=()
def tw2021211487339014925:=()
def tw5647342677828075777:=()
def tw6180531128494919923:=()
def tw9774597450079976136:=()
def tw5423170727894447715:=()
def tw16720580405108467743:=()
def tw2424417762002829506:=()
def tw4918141083694112852:=()
def tw10122266018938677882:=()
end PySem.W.Fast
open PySem PySem.W PyProof.Rows
set_option maxRecDepth 100000 in
set_option maxHeartbeats 0 in
theorem PySem.Challenge.cw_retryhall_k18_alone_try_holds : PySem.Challenge.rw_retryhall_k18_alone_try.Holds := by
 w_on;o_law;k_head;(case hw=>w_witness2)
 k_fill
 refine My.walk (l:=PySem.Challenge.rw_retryhall_k18_alone_try) rfl rfl (fun w h Y=>PySem.W.kIn_of Y) ?F
 case F =>
  intro w mg fa h KX G hmg
  refine' My.all_mk KX G hmg ..
  all_goals first|k_is|decide|skip
