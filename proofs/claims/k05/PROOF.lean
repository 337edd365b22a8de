import PyProof.Rows.All
import Wide.All
import OpenK.AllK
import Wide.FinOn
import Lean
import PyProof.EqAt
import PyProof.EqKinds
import PyProof.TupleCall
import PySem.Challenge.RW_retryhall_k05_deeds_read
set_option Elab.async false
set_option linter.all false
set_option maxRecDepth 100000
set_option maxHeartbeats 4000000
open PySem.W (fnOf findIn keepIn subIn codeIn nsIn isFn mg_of plainGet hasDictIn makesIn plainOver instObj typeIn emptyDict mroIn mg_none_of kia_one)
local macro_rules | `(tactic| rfl')=>`(tactic| decide +kernel)
noncomputable section
namespace L2
open PySem PySem.Spec PyProof.Rows
abbrev Key:=Sum Int Str
def yGz:Key->Value->Bool
 | .inl k,v=>Value.isInt k v
 | .inr x,v=>Value.isStrOf x v
def yMC (w:World):Key->Int
 | .inl k=>hashInt k
 | .inr x=>hashStr w x
theorem ydX:∀ {k:Key}{v:Value},yGz k v=true->(∃ i t,k=Sum.inl i/\v=Value.int i t)\/(∃ x t,k=Sum.inr x/\v=Value.str x t)
 | .inl i,v,h=>by
  obtain ⟨t,e⟩:=Value.isInt_shape (k:=i) (v:=v) h
  exact .inl ⟨i,t,rfl,e⟩
 | .inr x,v,h=>by
  obtain ⟨t,e⟩:=Value.isStrOf_shape (x:=x) (v:=v) h
  exact .inr ⟨x,t,rfl,e⟩
theorem yGA (a b:Int):decide ((Sum.inl a:Key)=Sum.inl b)=(a == b):=by
 by_cases e:a=b
 .subst e;simp
 .have h:¬ (Sum.inl a:Key)=Sum.inl b:=fun q=>e (Sum.inl.inj q)
  rw [decide_eq_false h]
  exact (beq_eq_false_iff_ne.mpr e).symm
theorem yGB (a b:Str):decide ((Sum.inr a:Key)=Sum.inr b)=decide (a=b):=by
 by_cases e:a=b
 .subst e;simp
 .have h:¬ (Sum.inr a:Key)=Sum.inr b:=fun q=>e (Sum.inr.inj q)
  rw [decide_eq_false h,decide_eq_false e]
theorem yGC (a:Int) (b:Str):decide ((Sum.inl a:Key)=Sum.inr b)=false:=decide_eq_false (fun q=>nomatch q)
theorem yGD (a:Str) (b:Int):decide ((Sum.inr a:Key)=Sum.inl b)=false:=decide_eq_false (fun q=>nomatch q)
noncomputable def yyJ (prog:Program) (w:World):PySem.KeyKind prog w Key where
 is:=yGz
 hash:=yMC w
 inj:=fun v a b ha hb=>by
  rcases ydX ha with ⟨i,t,rfl,rfl⟩|⟨x,t,rfl,rfl⟩
  .rcases ydX hb with ⟨j,u,rfl,e⟩|⟨y,u,rfl,e⟩
   .injection e with e1 _;rw [e1]
   .exact nomatch e
  .rcases ydX hb with ⟨j,u,rfl,e⟩|⟨y,u,rfl,e⟩
   .exact nomatch e
   .injection e with e1 _;rw [e1]
 byValue:=fun k v h=>by
  rcases ydX h with ⟨i,t,rfl,rfl⟩|⟨x,t,rfl,rfl⟩<;>rfl
 pyHash:=fun hv h=>by
  rcases ydX hv with ⟨i,t,rfl,rfl⟩|⟨x,t,rfl,rfl⟩
  .exact wpAny_pyHash_int h
  .exact wpAny_pyHash_str h
 eqBool:=fun hu hv h=>by
  rcases ydX hu with ⟨i,t,rfl,rfl⟩|⟨x,t,rfl,rfl⟩
  .rcases ydX hv with ⟨j,u,rfl,rfl⟩|⟨y,u,rfl,rfl⟩
   .rw [yGA] at h;exact wpAny_eqBool_int h
   .rw [yGC] at h;exact SeqAt.EqAt.int_str i t y u _ _ _ _ h
  .rcases ydX hv with ⟨j,u,rfl,rfl⟩|⟨y,u,rfl,rfl⟩
   .rw [yGD] at h;exact SeqAt.EqAt.str_int x t j u _ _ _ _ h
   .rw [yGB] at h;exact wpAny_eqBool_str h
 «strs»:=fun k x t v h=>by
  rcases ydX h with ⟨i,u,rfl,e⟩|⟨y,u,rfl,e⟩
  .exact nomatch e
  .injection e with e1 _
   subst e1
   cases v<;>rfl
end L2
namespace L2
open PySem PySem.Spec PyProof.Rows
inductive V where
 | non|bl (b:Bool)|int (i:Int)|str (x:Str)|byt (b:Array UInt8)|flt (b:UInt64)|ref (a:Addr)|ty (n:String)
 deriving DecidableEq
noncomputable def RelV:V->Value->Prop
 | .non,u=>u=Value.none
 | .bl b,u=>u=Value.bool b
 | .int i,u=>∃ t,u=Value.int i t
 | .str x,u=>∃ t,u=Value.str x t
 | .byt b,u=>∃ t,u=Value.bytes b t
 | .flt b,u=>∃ t,u=Value.float b t
 | .ref a,u=>u=Value.ref a
 | .ty n,u=>u=Value.type n
abbrev Vals:List V->List Value->Prop:=Paired RelV
theorem Vals.length {xs:List V}{us:List Value}(r:Vals xs us):xs.length=us.length:=Paired.length r
theorem Vals.get:∀ {xs:List V}{us:List Value}{i:Nat}{x:V},Vals xs us->xs[i]?=some x->∃ u,us[i]?=some u/\RelV x u
 | _,_,_,_,.nil,e=>by simp at e
 | _,_,0,_,.cons r _,e=>by simp at e;subst e;exact ⟨_,rfl,r⟩
 | _,_,i+1,x,.cons _ t,e=>by
  obtain ⟨u,h1,h2⟩:=Vals.get (i:=i) (x:=x) t (by simpa using e)
  exact ⟨u,by simpa using h1,h2⟩
theorem Vals.append:∀ {xs ys:List V}{us ws:List Value},Vals xs us->Vals ys ws->Vals (xs++ys) (us++ws)
 | _,_,_,_,.nil,s=>s
 | _,_,_,_,.cons r t,s=>.cons r (Vals.append t s)
theorem Vals.take:∀ {xs:List V}{us:List Value}(n:Nat),Vals xs us->Vals (xs.take n) (us.take n)
 | _,_,0,_=>.nil
 | _,_,_+1,.nil=>.nil
 | _,_,n+1,.cons r t=>.cons r (Vals.take n t)
theorem Vals.drop:∀ {xs:List V}{us:List Value}(n:Nat),Vals xs us->Vals (xs.drop n) (us.drop n)
 | _,_,0,r=>r
 | _,_,_+1,.nil=>.nil
 | _,_,n+1,.cons _ t=>Vals.drop n t
def RelO:Option V->Option Value->Prop
 | some v,some u=>RelV v u
 | none,none=>True
 | _,_=>False
def KV {κ:Type}:List (κ×V)->List (κ×Value)->Prop:=Paired fun (p:κ×V) (q:κ×Value)=>p.1=q.1/\RelV p.2 q.2
def kV:Key->V
 | .inl i=>.int i
 | .inr x=>.str x
inductive HO where
 | lst (xs:List V)
 | tup (xs:List V)
 | dK (kvs:List (Key×V))|dT (kvs:List (List Key×V))
 | set (S:Int->Bool) (n:Nat)
 | ins (C dx:Addr) (fs:List (Str×V))
 | own (x:Addr)
 | xd (fs:List (Str×V))
 | met (f x:Addr)
 | rng (lo hi:Int)
 | frz (o:Obj) (u:HO)
 | tbl (ps:Array Value)
 | ext (φ:Heap->Prop)
abbrev Hp:=Addr->Option HO
def upd (H:Hp) (a:Addr) (o:HO):Hp:=fun b=>if b=a then some o else H b
theorem ybX {H:Hp}{a:Addr}{o:HO}:upd H a o a=some o:=by unfold upd;rw [if_pos rfl]
theorem ybV {H:Hp}{a b:Addr}{o:HO}(h:b≠a):upd H a o b=H b:=by unfold upd;rw [if_neg h]
theorem ydM {H:Hp}{a b:Addr}{o:HO}(h:H a=some o) (h':H b=none):a≠b:=by
 intro e;subst e;rw [h] at h';cases h'
section
variable (P:Program) (w:World)
noncomputable def ObjOk (H:Hp) (h:Heap) (a:Addr):HO->Prop
 | .lst xs=>xs.length<=sizeLine/\∃ (its:List Value) (n:Nat),Vals xs its/\h.get? a=some { cls:=.type "list",data:=.seq its.toArray n }
 | .tup xs=>xs.length<=sizeLine/\∃ its:List Value,Vals xs its/\IsTup h a its.toArray
 | .dK kvs=>kvs.length<=sizeLine/\(a == sysModules)=false/\∃ vs,KV kvs vs/\h.DictOf (yyJ P w) a vs
 | .dT kvs=>kvs.length<=sizeLine/\(a == sysModules)=false/\∃ xs:List (List Key×Addr×Value),
   Paired (fun (p:List Key×V) (q:List Key×Addr×Value)=>p.1=q.1/\H q.2.1=some (.tup (p.1.map kV))/\RelV p.2 q.2.2) kvs xs /\
   ∃ o es ep,h.get? a=some o/\o.ExactDict/\o.data=.dict es ep/\es.toList=xs.map (entryOfKey (tupleKind (yyJ P w)))/\(xs.map (·.1)).Nodup
 | .set S n=>h.SetOf (intKind P w) a S n
 | .ins C dx fs=>H dx=some (.own a)/\fs.length<=1000/\dx≠a/\h.get? a=some (instObj C dx) /\
   ∃ mA,h.Ns1 dx mA/\(∀ f,RelO (fs.lookup f) (mA f))/\PySem.Within mA (fs.map (·.1))
 | .own _=>∃ o,h.get? a=some o
 | .xd fs=>∃ mA,h.Ns1 a mA/\∀ f,RelO (fs.lookup f) (mA f)
 | .rng lo hi=>∃ t u v,h.get? a=some { cls:=.type "range",data:=.fields #[.int lo t,.int hi u,.int 1 v] }
 | .frz o u=>h.get? a=some o/\ObjOk H h a u
 | .tbl ps=>h.get? a=some { cls:=.none,data:=.fields ps }
 | .met f x=>h.get? a=some (PySem.W.methodObj (.ref f) (.ref x))
 | .ext φ=>φ h/\(∃ o,h.get? a=some o)/\∀ h1 h2:Heap,φ h1->(∀ o,h1.get? a=some o->h2.get? a=some o)->φ h2
def HOk (H:Hp) (h:Heap):Prop:=∀ a o,H a=some o->ObjOk P w H h a o
end
section
variable {P:Program}{w:World}{H H':Hp}{h h':Heap}{a:Addr}{o:HO}
theorem ObjOk.lt (x:ObjOk P w H h a o):a<h.objs.size:=by
 cases o with
 | lst xs=>obtain ⟨_,_,_,_,e⟩:=x;exact Heap.lt_size e
 | tup xs=>obtain ⟨_,_,_,p⟩:=x;exact p.lt
 | dK kvs=>obtain ⟨_,_,_,_,o,_,_,e,_⟩:=x;exact Heap.lt_size e
 | dT kvs=>obtain ⟨_,_,_,_,o,_,_,e,_⟩:=x;exact Heap.lt_size e
 | set S n=>obtain ⟨o,_,_,_,e,_⟩:=x;exact Heap.lt_size e
 | ins C dx fs=>obtain ⟨_,_,_,e,_⟩:=x;exact Heap.lt_size e
 | own y=>obtain ⟨_,e⟩:=x;exact Heap.lt_size e
 | xd fs=>obtain ⟨_,⟨_,_,_,e,_⟩,_⟩:=x;exact Heap.lt_size e
 | rng lo hi=>obtain ⟨_,_,_,e⟩:=x;exact Heap.lt_size e
 | frz ob u=>obtain ⟨e,_⟩:=x;exact Heap.lt_size e
 | tbl ps=>exact Heap.lt_size (show h.get? a=some _ from x)
 | met f y=>exact Heap.lt_size (show h.get? a=some _ from x)
 | ext φ=>obtain ⟨_,⟨_,e⟩,_⟩:=x;exact Heap.lt_size e
theorem Paired.mapP {α β:Type}{F G:α->β->Prop}:∀ {l₁:List α}{l₂:List β},Paired F l₁ l₂->(∀ a b,F a b->G a b)->Paired G l₁ l₂
 | _,_,.nil,_=>.nil
 | _,_,.cons r t,f=>.cons (f _ _ r) (Paired.mapP t f)
theorem ObjOk.stay (x:ObjOk P w H h a o) (k:∀ b u,(b=a\/H b=some (.own a))->h.get? b=some u->h'.get? b=some u)
  (ho:∀ b,H b=some (.own a)->H' b=some (.own a)) (ht:∀ b xs,H b=some (.tup xs)->H' b=some (.tup xs)):ObjOk P w H' h' a o:=by
 induction o with
 | lst xs=>obtain ⟨z,its,n,r,e⟩:=x;exact ⟨z,its,n,r,k _ _ (.inl rfl) e⟩
 | tup xs=>obtain ⟨z,its,r,ob,e,c⟩:=x;exact ⟨z,its,r,ob,k _ _ (.inl rfl) e,c⟩
 | dK kvs=>obtain ⟨z,y,vs,r,ob,es,ep,e,c⟩:=x;exact ⟨z,y,vs,r,ob,es,ep,k _ _ (.inl rfl) e,c⟩
 | dT kvs =>
  obtain ⟨z,y,xs,r,ob,es,ep,e,c⟩:=x
  exact ⟨z,y,xs,Paired.mapP r fun p q z=>⟨z.1,ht _ _ z.2.1,z.2.2⟩,ob,es,ep,k _ _ (.inl rfl) e,c⟩
 | set S n=>obtain ⟨ob,es,ep,t,e,c⟩:=x;exact ⟨ob,es,ep,t,k _ _ (.inl rfl) e,c⟩
 | ins C dx fs =>
  obtain ⟨d,z,ne,e,mA,⟨od,es,ep,e2,c⟩,r⟩:=x
  exact ⟨ho _ d,z,ne,k _ _ (.inl rfl) e,mA,⟨od,es,ep,k _ _ (.inr d) e2,c⟩,r⟩
 | own y=>obtain ⟨ob,e⟩:=x;exact ⟨ob,k _ _ (.inl rfl) e⟩
 | xd fs=>obtain ⟨mA,⟨od,es,ep,e,c⟩,r⟩:=x;exact ⟨mA,⟨od,es,ep,k _ _ (.inl rfl) e,c⟩,r⟩
 | rng lo hi=>obtain ⟨t,u,v,e⟩:=x;exact ⟨t,u,v,k _ _ (.inl rfl) e⟩
 | frz ob u ih=>obtain ⟨e,q⟩:=x;exact ⟨k _ _ (.inl rfl) e,ih q⟩
 | tbl ps =>
  have e:h.get? a=some { cls:=.none,data:=.fields ps }:=x
  show h'.get? a=some { cls:=.none,data:=.fields ps }
  exact k a _ (.inl rfl) e
 | met f y =>
  have e:h.get? a=some (PySem.W.methodObj (.ref f) (.ref y)):=x
  show h'.get? a=some (PySem.W.methodObj (.ref f) (.ref y))
  exact k a _ (.inl rfl) e
 | ext φ=>obtain ⟨p,⟨o,e⟩,st⟩:=x;exact ⟨st _ _ p fun o q=>k _ _ (.inl rfl) q,⟨o,k _ _ (.inl rfl) e⟩,st⟩
theorem HOk.lt (x:HOk P w H h) (e:H a=some o):a<h.objs.size:=(x a o e).lt
theorem HOk.fresh (x:HOk P w H h) (e:h.objs.size<=a):H a=none:=by
 cases q:H a with
 | none=>rfl
 | some u=>exact absurd (Nat.lt_of_lt_of_le (x.lt q) e) (Nat.lt_irrefl _)
theorem HOk.kept (x:HOk P w H h) (k:∀ b u,h.get? b=some u->h'.get? b=some u):HOk P w H h':=fun a o e =>
 (x a o e).stay (fun b u _ q=>k b u q) (fun _ q=>q) fun _ _ q=>q
theorem HOk.laid (x:HOk P w H h) (k:∀ b u,h.get? b=some u->h'.get? b=some u) (hp:h.objs.size<=a) (new:ObjOk P w (upd H a o) h' a o):HOk P w (upd H a o) h':=fun b u e=>by
 have hn:=x.fresh hp
 by_cases hb:b=a
 .subst hb;rw [ybX] at e;cases e;exact new
 .rw [ybV hb] at e
  exact (x b u e).stay (fun c v _ q=>k c v q) (fun c q=>by rw [ybV (ydM q hn)];exact q) fun c xs q=>by rw [ybV (ydM q hn)];exact q
end
def Rd (H:Hp) (a:Addr) (u:HO):Prop:=H a=some u\/∃ o,H a=some (.frz o u)
theorem Rd.ok {P:Program}{w:World}{H:Hp}{h:Heap}{a:Addr}{u:HO}(r:Rd H a u) (x:HOk P w H h):ObjOk P w H h a u:=by
 rcases r with r|⟨o,r⟩
 .exact x a u r
 .obtain ⟨_,q⟩:=x a _ r
  exact q
noncomputable def Mut:Option HO->Prop
 | some (.lst _)=>True
 | some (.dK _)=>True
 | some (.dT _)=>True
 | some (.set _ _)=>True
 | some (.ins _ _ _)=>True
 | some (.ext _)=>True
 | _=>False
section
variable {P:Program}{w:World}{H:Hp}{h h':Heap}{x e:Addr}{o':HO}
theorem HOk.write (ok:HOk P w H h) (mu:Mut (H x)) (he:e=x\/H e=some (.own x)) (k:∀ b u,b≠e->h.get? b=some u->h'.get? b=some u) (heo:∃ u,h'.get? e=some u)
  (new:ObjOk P w (upd H x o') h' x o'):HOk P w (upd H x o') h':=fun b u q=>by
 have nown:∀ c y,H c=some (.own y)->c≠x:=fun c y r z=>by subst z;rw [r] at mu;exact mu
 have ntup:∀ c xs,H c=some (.tup xs)->c≠x:=fun c xs r z=>by subst z;rw [r] at mu;exact mu
 by_cases hb:b=x
 .subst hb;rw [ybX] at q;cases q;exact new
 .rw [ybV hb] at q
  by_cases hbe:b=e
  .have q':H b=some (.own x):=by
    rcases he with z|z
    .exact absurd (hbe.trans z) hb
    .rw [hbe];exact z
   rw [q] at q';cases q'
   obtain ⟨v,hv⟩:=heo
   exact ⟨v,by rw [hbe];exact hv⟩
  .refine (ok b u q).stay (fun c v hc r=>k c v ?_ r) (fun c r=>by rw [ybV (nown c b r)];exact r) fun c xs r=>by rw [ybV (ntup c xs r)];exact r
   rcases hc with rfl|hc
   .exact hbe
   .rintro rfl
    rcases he with z|z
    .exact nown c b hc z
    .rw [hc] at z;cases z;exact hb rfl
end
structure Un (fs ex:List Addr) (H H':Hp) (h h':Heap):Prop where
 keep:∀ b o,h.get? b=some o->H b=none->b∉fs->b∉ex->h'.get? b=some o
 slot:∀ b o,h.get? b=some o->H b=none->b∈fs->b∉ex->∃ sl,h'.get? b=some { o with slots:=sl }
 free:∀ b o,h.get? b=some o->H b=none->b∉ex->H' b=none
 there:∀ b o,h.get? b=some o->b∉ex->∃ o',h'.get? b=some o'
 tups:∀ b xs,H b=some (.tup xs)->H' b=some (.tup xs)
 frzs:∀ b o u,H b=some (.frz o u)->H' b=some (.frz o u)
 tbls:∀ b ps,H b=some (.tbl ps)->∃ more,H' b=some (.tbl (ps++more))
section
variable {fs fs' ex ex':List Addr}{H H1 H2:Hp}{h h1 h2 h':Heap}{a x e:Addr}{o:HO}
theorem Un.any (u:Un fs ex H H1 h h1) {b:Addr}{ob:Obj}(q:h.get? b=some ob) (n:H b=none) (hx:b∉ex):∃ sl,h1.get? b=some { ob with slots:=sl }:=by
 by_cases hb:b∈fs
 .exact u.slot b ob q n hb hx
 .exact ⟨ob.slots,u.keep b ob q n hb hx⟩
theorem Un.kept (k:∀ b u,h.get? b=some u->h'.get? b=some u):Un fs ex H H h h' :=
 ⟨fun b ob q _ _ _=>k b ob q,fun b ob q _ _ _=>⟨ob.slots,k b ob q⟩,fun _ _ _ n _=>n,fun b ob q _=>⟨ob,k b ob q⟩,fun _ _ q=>q,fun _ _ _ q=>q,fun _ ps q=>⟨#[],by rw [q];simp⟩⟩
theorem Un.refl:Un fs ex H H h h:=Un.kept fun _ _ q=>q
theorem Un.laid (k:∀ b u,h.get? b=some u->h'.get? b=some u) (hp:h.objs.size<=a) (hn:H a=none):Un fs ex H (upd H a o) h h' where
 keep:=fun b u q _ _ _=>k b u q
 slot:=fun b u q _ _ _=>⟨u.slots,k b u q⟩
 free:=fun b u q n _=>by rw [ybV (Nat.ne_of_lt (Nat.lt_of_lt_of_le (Heap.lt_size q) hp))];exact n
 there:=fun b u q _=>⟨u,k b u q⟩
 tups:=fun b xs q=>by rw [ybV (ydM q hn)];exact q
 frzs:=fun b u xs q=>by rw [ybV (ydM q hn)];exact q
 tbls:=fun b ps q=>⟨#[],by rw [ybV (ydM q hn),q];simp⟩
theorem Un.write (mu:Mut (H x)) (he:e=x\/H e=some (.own x)) (k:∀ b u,b≠e->h.get? b=some u->h'.get? b=some u) (heo:∃ u,h'.get? e=some u):Un fs ex H (upd H x o) h h':=by
 have hx:∀ b,H b=none->b≠x:=fun b n z=>by subst z;rw [n] at mu;exact mu
 have hb:∀ b,H b=none->b≠e:=fun b n z=>by
  subst z
  rcases he with r|r
  .exact hx b n r
  .rw [n] at r;cases r
 have hm:∀ b u,H b=some u->¬ Mut (some u)->b≠x:=fun b u q nm z=>by subst z;rw [q] at mu;exact nm mu
 refine ⟨fun b u q n _ _=>k b u (hb b n) q,fun b u q n _ _=>⟨u.slots,k b u (hb b n) q⟩,fun b u q n _=>by rw [ybV (hx b n)];exact n,fun b u q _=>?_,
  fun b xs q=>by rw [ybV (hm b _ q fun z=>z)];exact q,fun b u xs q=>by rw [ybV (hm b _ q fun z=>z)];exact q,fun b ps q=>⟨#[],by rw [ybV (hm b _ q fun z=>z),q];simp⟩⟩
 by_cases hbe:b=e
 .subst hbe;exact heo
 .exact ⟨u,k b u hbe q⟩
end
def trk (h:Heap) (H:Hp):List Addr:=(List.range h.objs.size).filter fun a=>(H a).isSome
def yBo (h:Heap) (H:Hp):Heap:=PySem.W.hideAll h (trk h H)
theorem yyK (h:Heap) (H:Hp):(yBo h H).objs.size=h.objs.size:=PySem.W.hideAll_size _ _
theorem yBp {h:Heap}{H:Hp}{b:Addr}{o:Obj}(e:h.get? b=some o) (n:H b=none):(yBo h H).get? b=some o :=
 PySem.W.hideAll_get _ e fun hm=>by
  have q:(H b).isSome=true:=(List.mem_filter.mp hm).2
  rw [n] at q;simp at q
theorem yEf {h:Heap}{H:Hp}{b:Addr}{o:Obj}(e:(yBo h H).get? b=some o):h.get? b=some o/\H b=none:=by
 have e':h.get? b=some o:=PySem.W.of_hideAll (trk h H) e
 refine ⟨e',?_⟩
 cases q:H b with
 | none=>rfl
 | some x =>
  have hm:b∈trk h H:=List.mem_filter.mpr ⟨List.mem_range.mpr (Heap.lt_size e'),by simp [q]⟩
  have z:(yBo h H).get? b=none:=PySem.W.hideAll_none (trk h H) hm
  rw [z] at e;cases e
noncomputable def yEg (g h:Heap) (L:Addr):List (Addr×Obj):=(List.range h.objs.size).filterMap fun a=>if a=L\/(g.get? a).isSome=true then none else (h.get? a).map fun o=>(a,o)
def rest (g h:Heap) (L d:Addr):List (Addr×Obj):=(yEg g h L).filter fun p=>decide (p.1≠d)
end L2
namespace L2
open PySem PySem.Spec PyProof.Rows
structure Mod (K:PySem.W.Frag) (mg:Str->Option Value) (base:Heap):Prop where
 kin:K.In base
 glob:base.Ns mainGlobals mg
 blt:∃ mb,base.Ns builtinsNs mb/\∀ x:Str,x≠"__name__"->mb x=bootBuiltins x
 nolimit:base.NoLimit
structure Cx where
 prog:Program
 w:World
 K:PySem.W.Frag
 mg:Str->Option Value
 base:Heap
 A:Around
 N:List Str
 s₀:Shared
 H₀:Hp
 env:Env
 outer:List Env
 stack:List Env
 ex:List Addr
 fn:Str->Bool
 calm:Bool
 pn:List (Addr×Obj)
 xe:Value->Shared->Prop
def frs (l:List Env):List Addr:=l.filterMap (·.frame)
abbrev Cx.fs (X:Cx):List Addr:=frs X.outer
noncomputable def Vis (sc:Scope) (x:Str):Prop:=sc.names.lookup x=some .local \/ sc.names.lookup x=some .cell\/sc.names.lookup x=some .free
def Loc (sc:Scope) (x:Str):Prop:=sc.names.lookup x=some .local \/ sc.names.lookup x=some .cell
noncomputable def Look (env:Env) (h:Heap) (m:Str->Option Value) (x:Str) (u:Value):Prop :=
 (env.kindOf x=some .local/\m x=some u)\/((env.kindOf x=some .cell\/env.kindOf x=some .free)/\∃ c,env.cells.lookup x=some c/\h.IsCell c (some u))
structure Cx.Ok (X:Cx):Prop where
 mod:Mod X.K X.mg X.base
 kind:X.env.scope.kind=.function
 glob:X.env.globals=mainGlobals
 blt:X.env.builtins=builtinsNs
 above:X.s₀.heap.objs.size<=X.env.locals
 inj:∀ x y c,X.env.cells.lookup x=some c->X.env.cells.lookup y=some c->x=y
 has:∀ x,(X.env.kindOf x=some .cell\/X.env.kindOf x=some .free)->∃ c,X.env.cells.lookup x=some c
 cab:∀ x c,X.fn x=true->X.env.cells.lookup x=some c->X.s₀.heap.objs.size<=c
 hd:X.calm=true->X.A.handled=none
 frames:X.A.frames=some X.stack
 stk:X.stack=X.outer\/(X.stack=X.env::X.outer/\X.env.frame=some X.env.locals)
 exf:∀ b∈X.ex,b≠X.env.locals/\∀ x c,X.env.cells.lookup x=some c->c≠b
 bs:∀ b o,X.base.get? b=some o->X.s₀.heap.get? b=some o/\X.H₀ b=none
 bsz:X.base.objs.size<=X.s₀.heap.objs.size
 noex:∀ b o,X.base.get? b=some o->b∉X.ex
 exfs:∀ b∈X.ex,b∉X.fs
 funs:X.s₀.heap.FunFrames X.base X.outer
 frf:∀ b∈X.fs,X.H₀ b=none
structure Inv (X:Cx) (pins:List (Addr×Obj)) (σ:List (Option V)) (H:Hp) (s:Shared):Prop where
 ok:X.Ok
 os:s.os=X.s₀.os
 bare:AllBare s.gens
 base:Un X.fs X.ex X.H₀ H X.s₀.heap s.heap
 loc:∃ m,s.heap.Ns X.env.locals m/\∀ (i:Nat) (x:Str) (v:V),X.N[i]?=some x->σ[i]?=some (some v)->Vis X.env.scope x->∃ u,RelV v u/\Look X.env s.heap m x u
 cell:∀ x c,X.env.cells.lookup x=some c->∃ v,s.heap.IsCell c v
 free:H X.env.locals=none
 freeC:∀ x c,X.env.cells.lookup x=some c->H c=none
 pin:∀ p∈X.pn++pins,s.heap.get? p.1=some p.2/\H p.1=none/\p.1≠X.env.locals/\p.1∉X.fs/\∀ v,p.2.data≠.cell v
 hok:HOk X.prog X.w H s.heap
 len:σ.length=X.N.length
section
variable {X:Cx}{pins:List (Addr×Obj)}{σ:List (Option V)}{H H':Hp}{s:Shared}{h':Heap}
theorem Cx.Ok.nofr (ok:X.Ok) {b:Addr}{o:Obj}(e:X.base.get? b=some o):b∉X.fs:=fun hb=>by
 have:=(ok.funs.mem hb).1
 rw [e] at this;cases this
theorem Inv.bs (I:Inv X pins σ H s):∀ b o,X.base.get? b=some o->s.heap.get? b=some o/\H b=none:=fun b o e =>
 ⟨I.base.keep b o (I.ok.bs b o e).1 (I.ok.bs b o e).2 (I.ok.nofr e) (I.ok.noex b o e),I.base.free b o (I.ok.bs b o e).1 (I.ok.bs b o e).2 (I.ok.noex b o e)⟩
theorem Inv.bk (I:Inv X pins σ H s):∀ b o,X.base.get? b=some o->s.heap.get? b=some o:=fun b o e=>(I.bs b o e).1
theorem Inv.mod (I:Inv X pins σ H s):Mod X.K X.mg X.base:=I.ok.mod
theorem Inv.kIn (I:Inv X pins σ H s):X.K.In s.heap:=I.ok.mod.kin.keeps I.bk
theorem Inv.lt (I:Inv X pins σ H s):X.env.locals<s.heap.objs.size:=let ⟨_,hn,_⟩:=I.loc;hn.lt
theorem Inv.sz (I:Inv X pins σ H s):X.s₀.heap.objs.size<=s.heap.objs.size:=Nat.le_trans I.ok.above (Nat.le_of_lt I.lt)
theorem Inv.nofs (I:Inv X pins σ H s) {a:Addr}(h:s.heap.objs.size<=a):a∉X.fs:=fun hb=>by
 obtain ⟨_,o,ho,_⟩:=I.ok.funs.mem hb
 exact absurd (Nat.lt_of_lt_of_le (Heap.lt_size ho) (Nat.le_trans I.sz h)) (Nat.lt_irrefl _)
theorem Inv.cne (I:Inv X pins σ H s):∀ x c,X.env.cells.lookup x=some c->c≠X.env.locals:=fun x c e z=>by
 obtain ⟨v,o,ho,hd⟩:=I.cell x c e
 obtain ⟨m,⟨o',es,ep,ho',hd',_⟩,_⟩:=I.loc
 rw [z,ho'] at ho;cases ho;rw [hd'] at hd;cases hd
theorem Inv.funs (I:Inv X pins σ H s):s.heap.FunFrames X.base X.outer:=by
 have all:∀ (l:List Env),(∀ b∈frs l,b∈X.fs)->X.s₀.heap.FunFrames X.base l->s.heap.FunFrames X.base l:=by
  intro l
  induction l with
  | nil=>intro _ _;trivial
  | cons env r ih =>
   intro hs hl
   obtain ⟨hk,⟨L,o,hf,hn,ho,hd⟩,hr⟩:=hl
   have hL:L∈X.fs:=hs L (by unfold frs;rw [List.filterMap_cons,hf];exact List.mem_cons_self)
   obtain ⟨sl,e⟩:=I.base.slot L o ho (I.ok.frf L hL) hL fun z=>I.ok.exfs L z hL
   exact ⟨hk,⟨L,_,hf,hn,e,hd⟩,ih (fun b hb=>hs b (by unfold frs;rw [List.filterMap_cons,hf];exact List.mem_cons_of_mem _ hb)) hr⟩
 exact all X.outer (fun _ hb=>hb) I.ok.funs
theorem Inv.stack (I:Inv X pins σ H s):s.heap.FunFrames X.base X.stack:=by
 rcases I.ok.stk with e|⟨e,hf⟩
 .rw [e];exact I.funs
 .rw [e]
  obtain ⟨m,hn,_⟩:=I.loc
  refine .cons (by rw [I.ok.kind];decide) hf hn ?_ I.funs
  exact Heap.get?_none_of_le (Nat.le_trans I.ok.bsz I.ok.above)
theorem Inv.stkSub (I:Inv X pins σ H s):∀ b∈frs X.stack,b∈X.env.locals::X.fs:=fun b hb=>by
 rcases I.ok.stk with e|⟨e,hf⟩
 .rw [e] at hb;exact List.mem_cons_of_mem _ hb
 .rw [e] at hb
  unfold frs at hb
  rw [List.filterMap_cons,hf] at hb
  exact hb
theorem Inv.stkFree (I:Inv X pins σ H s):∀ b∈frs X.stack,H b=none:=fun b hb=>by
 rcases List.mem_cons.mp (I.stkSub b hb) with e|hb
 .rw [e];exact I.free
 .obtain ⟨_,o,ho,_⟩:=I.ok.funs.mem hb
  exact I.base.free b o ho (I.ok.frf b hb) fun z=>I.ok.exfs b z hb
theorem Inv.step {g':Array GenState}{t':Nat}{d':Drawn}{ch:List Addr}(I:Inv X pins σ H s)
  (hch:∀ b∈ch,(b∈X.ex\/X.s₀.heap.objs.size<=b)/\b≠X.env.locals/\(∀ x c,X.env.cells.lookup x=some c->c≠b)/\∀ p∈X.pn++pins,p.1≠b)
  (keep:∀ b o,b≠X.env.locals->b∉X.fs->b∉ch->s.heap.get? b=some o->H b=none->h'.get? b=some o)
  (slot:∀ b o,b≠X.env.locals->b∈X.fs->b∉ch->s.heap.get? b=some o->H b=none->∃ sl,h'.get? b=some { o with slots:=sl }) (free:∀ b o,b∉ch->s.heap.get? b=some o->H b=none->H' b=none)
  (there:∀ b o,b∉ch->s.heap.get? b=some o->∃ o',h'.get? b=some o')
  (tups:∀ b xs,H b=some (.tup xs)->H' b=some (.tup xs)) (frzs:∀ b o u,H b=some (.frz o u)->H' b=some (.frz o u)) (tbls:∀ b ps,H b=some (.tbl ps)->∃ more,H' b=some (.tbl (ps++more)))
  (ns:∀ m,s.heap.Ns X.env.locals m->h'.Ns X.env.locals m) (hok:HOk X.prog X.w H' h') (hg:AllBare g') :
  Inv X pins σ H' { s with heap:=h',gens:=g',drawn:=d',toks:=t' }:=by
 have neL:∀ b o,X.s₀.heap.get? b=some o->b≠X.env.locals:=fun b o e=>Nat.ne_of_lt (Nat.lt_of_lt_of_le (Heap.lt_size e) I.ok.above)
 have neC:∀ b o,X.s₀.heap.get? b=some o->b∉X.ex->b∉ch:=fun b o e hx hb=>by
  rcases (hch b hb).1 with z|z
  .exact hx z
  .exact absurd (Nat.lt_of_lt_of_le (Heap.lt_size e) z) (Nat.lt_irrefl _)
 have cellK:∀ x c,X.env.cells.lookup x=some c->∀ v,s.heap.IsCell c v->h'.IsCell c v:=fun x c e v ⟨o,ho,hd⟩=>by
  have nch:c∉ch:=fun z=>(hch c z).2.2.1 x c e rfl
  by_cases hc:c∈X.fs
  .obtain ⟨sl,q⟩:=slot c o (I.cne x c e) hc nch ho (I.freeC x c e)
   exact ⟨_,q,hd⟩
  .exact ⟨o,keep c o (I.cne x c e) hc nch ho (I.freeC x c e),hd⟩
 refine ⟨I.ok,I.os,hg,⟨fun b o e n hb hx=>?_,fun b o e n hb hx=>?_,fun b o e n hx=>?_,fun b o e hx=>?_,fun b xs e=>tups b xs (I.base.tups b xs e),fun b o xs e=>frzs b o xs (I.base.frzs b o xs e),fun b ps e=>?_⟩,?_,fun x c e=>?_,?_,fun x c e=>?_,fun p hp=>?_,hok,I.len⟩
 .exact keep b o (neL b o e) hb (neC b o e hx) (I.base.keep b o e n hb hx) (I.base.free b o e n hx)
 .obtain ⟨sl,e1⟩:=I.base.slot b o e n hb hx
  obtain ⟨sl',e2⟩:=slot b _ (neL b o e) hb (neC b o e hx) e1 (I.base.free b o e n hx)
  exact ⟨sl',e2⟩
 .obtain ⟨o',e1⟩:=I.base.there b o e hx
  exact free b o' (neC b o e hx) e1 (I.base.free b o e n hx)
 .obtain ⟨o',e1⟩:=I.base.there b o e hx
  exact there b o' (neC b o e hx) e1
 .obtain ⟨m1,e1⟩:=I.base.tbls b ps e
  obtain ⟨m2,e2⟩:=tbls b _ e1
  exact ⟨m1++m2,by rw [e2,Array.append_assoc]⟩
 .obtain ⟨m,hn,hl⟩:=I.loc
  refine ⟨m,ns m hn,fun i x v e1 e2 e3=>?_⟩
  obtain ⟨u,r,l⟩:=hl i x v e1 e2 e3
  refine ⟨u,r,?_⟩
  rcases l with l|⟨k,c,e,z⟩
  .exact .inl l
  .exact .inr ⟨k,c,e,cellK x c e _ z⟩
 .obtain ⟨v,z⟩:=I.cell x c e
  exact ⟨v,cellK x c e v z⟩
 .obtain ⟨m,⟨o,_,_,ho,_⟩,_⟩:=I.loc
  exact free _ o (fun z=>(hch _ z).2.1 rfl) ho I.free
 .obtain ⟨v,o,ho,hd⟩:=I.cell x c e
  exact free c o (fun z=>(hch c z).2.2.1 x c e rfl) ho (I.freeC x c e)
 .obtain ⟨e,n,ne,nf,d⟩:=I.pin p hp
  have nch:p.1∉ch:=fun z=>(hch p.1 z).2.2.2 p hp rfl
  exact ⟨keep p.1 p.2 ne nf nch e n,free p.1 p.2 nch e n,ne,nf,d⟩
theorem Inv.un {t':Nat}(I:Inv X pins σ H s) (u:Un X.fs [] H H' s.heap h') (hok:HOk X.prog X.w H' h'):Inv X pins σ H' { s with heap:=h',toks:=t' }:=by
 obtain ⟨m,⟨o,es,ep,ho,r⟩,_⟩:=id I.loc
 obtain ⟨sl,hL⟩:=u.any ho I.free (by simp)
 exact I.step (g':=s.gens) (d':=s.drawn) (ch:=[]) (fun _ z=>nomatch z) (fun b o _ hb _ e n=>u.keep b o e n hb (by simp)) (fun b o _ hb _ e n=>u.slot b o e n hb (by simp)) (fun b o _ e n=>u.free b o e n (by simp)) (fun b o _ e=>u.there b o e (by simp)) u.tups u.frzs u.tbls (fun m' hm=>by
  obtain ⟨o',es',ep',ho',r'⟩:=hm
  rw [ho] at ho';cases ho'
  exact ⟨_,es',ep',hL,r'⟩) hok I.bare
theorem Inv.call {g':Array GenState}{t':Nat}{d':Drawn}{ch:List Addr}(I:Inv X pins σ H s) (u:Un (frs X.stack) ch H H' s.heap h') (hok:HOk X.prog X.w H' h') (hg:AllBare g')
  (hch:∀ b∈ch,(b∈X.ex\/X.s₀.heap.objs.size<=b)/\b≠X.env.locals/\(∀ x c,X.env.cells.lookup x=some c->c≠b)/\∀ p∈X.pn++pins,p.1≠b) :
  Inv X pins σ H' { s with heap:=h',gens:=g',drawn:=d',toks:=t' }:=by
 obtain ⟨m,⟨o,es,ep,ho,r⟩,_⟩:=id I.loc
 obtain ⟨sl,hL⟩:=u.any ho I.free fun z=>(hch _ z).2.1 rfl
 exact I.step (ch:=ch) hch (fun b o hL hb hc e n=>u.keep b o e n (fun z=>(List.mem_cons.mp (I.stkSub b z)).elim hL hb) hc) (fun b o _ _ hc e n=>u.any e n hc) (fun b o hc e n=>u.free b o e n hc) (fun b o hc e=>u.there b o e hc) u.tups u.frzs u.tbls (fun m' hm=>by
  obtain ⟨o',es',ep',ho',r'⟩:=hm
  rw [ho] at ho';cases ho'
  exact ⟨_,es',ep',hL,r'⟩) hok hg
theorem Inv.turned {t':Nat}{it:Addr}(I:Inv X pins σ H s) (k:∀ b o,b≠it->s.heap.get? b=some o->h'.get? b=some o) (hn:H it=none) (hL:it≠X.env.locals)
  (h1:it∈X.ex\/X.s₀.heap.objs.size<=it) (h2:∀ x c,X.env.cells.lookup x=some c->c≠it) (h3:∀ p∈X.pn++pins,p.1≠it):Inv X pins σ H { s with heap:=h',toks:=t' }:=by
 have nit:∀ b u,H b=some u->b≠it:=fun b u e z=>by rw [z,hn] at e;cases e
 refine I.step (g':=s.gens) (d':=s.drawn) (ch:=[it]) (fun b hb=>?_) (fun b o _ _ hc e _=>k b o (fun z=>hc (by simp [z])) e) (fun b o _ _ hc e _=>⟨o.slots,k b o (fun z=>hc (by simp [z])) e⟩) (fun _ _ _ _ n=>n)
  (fun b o hc e=>⟨o,k b o (fun z=>hc (by simp [z])) e⟩) (fun _ _ e=>e) (fun _ _ _ e=>e) (fun b ps e=>⟨#[],by rw [e];simp⟩) (fun m hm=>?_) (fun b u e=>?_) I.bare
 .have e:b=it:=by simpa using hb
  subst e
  exact ⟨h1,hL,h2,h3⟩
 .obtain ⟨o,es,ep,ho,r⟩:=hm
  exact ⟨o,es,ep,k _ o (Ne.symm hL) ho,r⟩
 .refine (I.hok b u e).stay (fun c v hc q=>k c v ?_ q) (fun _ q=>q) fun _ _ q=>q
  rcases hc with z|z
  .rw [z];exact nit b u e
  .exact nit c _ z
theorem Inv.tok (I:Inv X pins σ H s) (t:Nat):Inv X pins σ H { s with toks:=t }:=I.un (h':=s.heap) (t':=t) Un.refl I.hok
theorem Inv.kept {t':Nat}(I:Inv X pins σ H s) (k:∀ b u,s.heap.get? b=some u->h'.get? b=some u):Inv X pins σ H { s with heap:=h',toks:=t' }:=I.un (Un.kept k) (I.hok.kept k)
theorem Inv.laid {a:Addr}{o:HO}{t':Nat}(I:Inv X pins σ H s) (k:∀ b u,s.heap.get? b=some u->h'.get? b=some u) (hp:s.heap.objs.size<=a) (new:ObjOk X.prog X.w (upd H a o) h' a o) :
  Inv X pins σ (upd H a o) { s with heap:=h',toks:=t' }:=I.un (Un.laid k hp (I.hok.fresh hp)) (I.hok.laid k hp new)
theorem Inv.write {x e:Addr}{o:HO}{t':Nat}(I:Inv X pins σ H s) (mu:Mut (H x)) (he:e=x\/H e=some (.own x)) (k:∀ b u,b≠e->s.heap.get? b=some u->h'.get? b=some u) (heo:∃ u,h'.get? e=some u)
  (new:ObjOk X.prog X.w (upd H x o) h' x o):Inv X pins σ (upd H x o) { s with heap:=h',toks:=t' }:=I.un (Un.write mu he k heo) (I.hok.write mu he k heo new)
theorem Inv.pins_of {pins':List (Addr×Obj)}(I:Inv X pins σ H s) (h:∀ p∈pins',s.heap.get? p.1=some p.2/\H p.1=none/\p.1≠X.env.locals/\p.1∉X.fs/\∀ v,p.2.data≠.cell v):Inv X pins' σ H s :=
 ⟨I.ok,I.os,I.bare,I.base,I.loc,I.cell,I.free,I.freeC,fun p hp=>(List.mem_append.mp hp).elim (fun z=>I.pin p (List.mem_append_left _ z)) (h p),I.hok,I.len⟩
theorem ywu {N:List Str}(hN:N.Nodup) {i j:Nat}{x:Str}(a:N[i]?=some x) (b:N[j]?=some x):i=j:=by
 obtain ⟨h1,e1⟩:=List.getElem?_eq_some_iff.mp a
 obtain ⟨h2,e2⟩:=List.getElem?_eq_some_iff.mp b
 exact (List.getElem_inj hN).mp (e1.trans e2.symm)
theorem yyL {M:Model}{A:Around}{E:Value->Shared->Prop}{i:Nat}{x:Str}{v:V}{u:Value}{Q:Unit->Shared->Prop}(I:Inv X pins σ H s) (hN:X.N.Nodup) (hi:X.N[i]?=some x) (hx:Loc X.env.scope x) (r:RelV v u)
  (h:∀ s',Inv X pins (σ.set i (some v)) H s'->(∃ a,Heap.SameBut a s.heap s'.heap/\(a=X.env.locals\/X.env.cells.lookup x=some a))->Q () s') (hf:X.fn x=true\/X.env.scope.names.lookup x=some .local:=by first|exact .inl rfl|exact .inr rfl|assumption):wpAny M A (storeName X.env x u) Q E s:=by
 obtain ⟨m,hn,hl⟩:=id I.loc
 have hcls:(X.env.scope.kind == .class || (X.env.scope.kind == .module && X.env.locals != X.env.globals))=false:=by rw [I.ok.kind];rfl
 have hiσ:i<σ.length:=by rw [I.len];exact (List.getElem?_eq_some_iff.mp hi).1
 have cne:=I.cne
 have tracked:∀ {a:Addr}{h':Heap},(∃ o,s.heap.get? a=some o/\H a=none)->Heap.SameBut a s.heap h'->HOk X.prog X.w H h':=fun {a h'} ha hs b ob e=>by
  obtain ⟨_,_,hfree⟩:=ha
  refine (I.hok b ob e).stay (fun c w' hc q=>(hs.2 c ?_).trans q) (fun _ q=>q) fun _ _ q=>q
  rintro rfl
  rcases hc with rfl|hc
  .rw [hfree] at e;cases e
  .rw [hfree] at hc;cases hc
 rcases hx with hk|hk
 .refine wpAny_storeName_local hk hn (fun h' hn' hs=>?_) hcls
  obtain ⟨oL,_,_,hoL,_⟩:=id hn
  refine h _ ⟨I.ok,I.os,I.bare,⟨fun b o e n hb hx=>?_,fun b o e n hb hx=>?_,I.base.free,fun b o e hx=>?_,I.base.tups,I.base.frzs,I.base.tbls⟩,⟨_,hn',fun j y v' e1 e2 e3=>?_⟩,fun y c e=>?_,I.free,I.freeC,fun p hp=>?_,tracked ⟨oL,hoL,I.free⟩ hs,by simpa using I.len⟩ ⟨_,hs,.inl rfl⟩
  .exact (hs.2 b (Nat.ne_of_lt (Nat.lt_of_lt_of_le (Heap.lt_size e) I.ok.above))).trans (I.base.keep b o e n hb hx)
  .obtain ⟨sl,e1⟩:=I.base.slot b o e n hb hx
   exact ⟨sl,(hs.2 b (Nat.ne_of_lt (Nat.lt_of_lt_of_le (Heap.lt_size e) I.ok.above))).trans e1⟩
  .obtain ⟨o',e1⟩:=I.base.there b o e hx
   exact ⟨o',(hs.2 b (Nat.ne_of_lt (Nat.lt_of_lt_of_le (Heap.lt_size e) I.ok.above))).trans e1⟩
  .by_cases hj:j=i
   .subst hj
    rw [hi] at e1;cases e1
    rw [List.getElem?_set_self hiσ] at e2
    cases e2
    exact ⟨u,r,.inl ⟨hk,by simp⟩⟩
   .rw [List.getElem?_set_ne (Ne.symm hj)] at e2
    obtain ⟨u',r',q⟩:=hl j y v' e1 e2 e3
    refine ⟨u',r',?_⟩
    rcases q with ⟨k,e⟩|⟨k,c,e,z⟩
    .refine .inl ⟨k,?_⟩
     have:y≠x:=fun e=>hj (ywu hN e1 (e ▸ hi))
     simp [this,e]
    .exact .inr ⟨k,c,e,z.sameBut hs (cne y c e)⟩
  .obtain ⟨w',z⟩:=I.cell y c e
   exact ⟨w',z.sameBut hs (cne y c e)⟩
  .obtain ⟨e,n,ne,nf,d⟩:=I.pin p hp
   exact ⟨(hs.2 p.1 ne).trans e,n,ne,nf,d⟩
 .have hfn:X.fn x=true:=by
   rcases hf with z|z
   .exact z
   .rw [z] at hk;cases hk
  obtain ⟨c,hc⟩:=I.ok.has x (.inl hk)
  obtain ⟨w',z⟩:=I.cell x c hc
  refine wpAny_storeName_cell I.ok.kind hk hc z (fun h' hc' hs=>?_)
  obtain ⟨oc,hoc,hocd⟩:=id z
  refine h { s with heap:=h' } ⟨I.ok,I.os,I.bare,⟨fun b o e n hb hx=>?_,fun b o e n hb hx=>?_,I.base.free,fun b o e hx=>?_,I.base.tups,I.base.frzs,I.base.tbls⟩,⟨m,hn.sameBut hs (Ne.symm (cne x c hc)),fun j y v' e1 e2 e3=>?_⟩,fun y c' e=>?_,I.free,I.freeC,fun p hp=>?_,tracked ⟨oc,hoc,I.freeC x c hc⟩ hs,by simpa using I.len⟩ ⟨c,hs,.inr hc⟩
  .exact (hs.2 b (Nat.ne_of_lt (Nat.lt_of_lt_of_le (Heap.lt_size e) (I.ok.cab x c hfn hc)))).trans (I.base.keep b o e n hb hx)
  .obtain ⟨sl,e1⟩:=I.base.slot b o e n hb hx
   exact ⟨sl,(hs.2 b (Nat.ne_of_lt (Nat.lt_of_lt_of_le (Heap.lt_size e) (I.ok.cab x c hfn hc)))).trans e1⟩
  .obtain ⟨o',e1⟩:=I.base.there b o e hx
   exact ⟨o',(hs.2 b (Nat.ne_of_lt (Nat.lt_of_lt_of_le (Heap.lt_size e) (I.ok.cab x c hfn hc)))).trans e1⟩
  .by_cases hj:j=i
   .subst hj
    rw [hi] at e1;cases e1
    rw [List.getElem?_set_self hiσ] at e2
    cases e2
    exact ⟨u,r,.inr ⟨.inl hk,c,hc,hc'⟩⟩
   .rw [List.getElem?_set_ne (Ne.symm hj)] at e2
    obtain ⟨u',r',q⟩:=hl j y v' e1 e2 e3
    refine ⟨u',r',?_⟩
    rcases q with q|⟨k,c',e,z'⟩
    .exact .inl q
    .refine .inr ⟨k,c',e,z'.sameBut hs ?_⟩
     rintro rfl
     exact hj (ywu hN e1 (I.ok.inj _ _ _ e hc ▸ hi))
  .by_cases hcc:c'=c
   .subst hcc;exact ⟨_,hc'⟩
   .obtain ⟨w2,z2⟩:=I.cell y c' e
    exact ⟨w2,z2.sameBut hs hcc⟩
  .obtain ⟨e,n,ne,nf,d⟩:=I.pin p hp
   refine ⟨(hs.2 p.1 ?_).trans e,n,ne,nf,d⟩
   intro q
   rw [q,hoc] at e
   have q':oc=p.2:=Option.some.inj e
   exact d w' (by rw [<- q'];exact hocd)
theorem ypm {M:Model}{A:Around}{E:Value->Shared->Prop}{i:Nat}{x:Str}{v:V}{u:Value}{Q:Unit->Shared->Prop}(I:Inv X pins σ H s) (hN:X.N.Nodup) (hi:X.N[i]?=some x) (hx:Loc X.env.scope x) (r:RelV v u)
  (h:∀ s',Inv X pins (σ.set i (some v)) H s'->Q () s') (hf:X.fn x=true\/X.env.scope.names.lookup x=some .local:=by first|exact .inl rfl|exact .inr rfl|assumption):wpAny M A (storeName X.env x u) Q E s :=
 yyL I hN hi hx r (fun s' I' _=>h s' I') hf
theorem Inv.call' {s':Shared}{ch:List Addr}(I:Inv X pins σ H s) (ho:s'.os=s.os) (u:Un (frs X.stack) ch H H' s.heap s'.heap) (hok:HOk X.prog X.w H' s'.heap) (hg:AllBare s'.gens)
  (hch:∀ b∈ch,(b∈X.ex\/X.s₀.heap.objs.size<=b)/\b≠X.env.locals/\(∀ x c,X.env.cells.lookup x=some c->c≠b)/\∀ p∈X.pn++pins,p.1≠b):Inv X pins σ H' s':=by
 obtain ⟨h',g',d',t',o'⟩:=s'
 have e:o'=s.os:=ho
 subst e
 exact I.call (g':=g') (t':=t') (d':=d') u hok hg hch
end
abbrev XK:=Value->Option Addr->Hp->Prop
abbrev St:=List (Option V)
abbrev VK:=V->Hp->Prop
abbrev TE:=St->Hp->VK->Prop
abbrev TT:=St->Hp->(Bool->Hp->Prop)->Prop
abbrev TA:=St->Hp->(List V->Hp->Prop)->Prop
structure Ends where
 nx:St->Hp->Prop
 rt:VK
 bk:St->Hp->Prop:=fun _ _=>False
 ct:St->Hp->Prop:=fun _ _=>False
abbrev TS:=Ends->St->Hp->Prop
noncomputable def EP (X:Cx) (pins:List (Addr×Obj)) (σ:St) (Q:VK) (u:Value) (s':Shared):Prop:=∃ v H',Inv X pins σ H' s'/\RelV v u/\Q v H'
noncomputable def TP (X:Cx) (pins:List (Addr×Obj)) (σ:St) (Q:Bool->Hp->Prop) (b:Bool) (s':Shared):Prop:=∃ H',Inv X pins σ H' s'/\Q b H'
noncomputable def AP (X:Cx) (pins:List (Addr×Obj)) (σ:St) (Q:List V->Hp->Prop) (us:List Value) (s':Shared):Prop:=∃ vs H',Inv X pins σ H' s'/\Vals vs us/\Q vs H'
noncomputable def SP (X:Cx) (pins:List (Addr×Obj)) (D:Ends) (f:Flow) (s':Shared):Prop :=
 match f with
 | .next=>∃ σ' H',Inv X pins σ' H' s'/\D.nx σ' H'
 | .brk=>∃ σ' H',Inv X pins σ' H' s'/\D.bk σ' H'
 | .cont=>∃ σ' H',Inv X pins σ' H' s'/\D.ct σ' H'
 | .ret u=>∃ v σ' H',Inv X pins σ' H' s'/\RelV v u/\D.rt v H'
noncomputable def PE (X:Cx) (e:Expr) (t:TE):Prop :=
 ∀ (pins:List (Addr×Obj)) (s:Shared) (σ:St) (H:Hp) (Q:VK),Inv X pins σ H s->t σ H Q->wpAny (model X.prog X.w) X.A (eval e X.env) (EP X pins σ Q) X.xe s
noncomputable def PT (X:Cx) (e:Expr) (t:TT):Prop :=
 ∀ (pins:List (Addr×Obj)) (s:Shared) (σ:St) (H:Hp) (Q:Bool->Hp->Prop),Inv X pins σ H s->t σ H Q->wpAny (model X.prog X.w) X.A (isTrue e X.env (eval e X.env)) (TP X pins σ Q) X.xe s
noncomputable def PW (X:Cx) (e:Expr) (t:TT):Prop :=
 ∀ (whole:Sem Value) (pins:List (Addr×Obj)) (s:Shared) (σ:St) (H:Hp) (Q:Bool->Hp->Prop),Inv X pins σ H s->t σ H Q->wpAny (model X.prog X.w) X.A (isTrue e X.env whole) (TP X pins σ Q) X.xe s
theorem PW.pt {X:Cx}{e:Expr}{t:TT}(h:PW X e t):PT X e t:=h _
noncomputable def PA (X:Cx) (es:List Expr) (t:TA):Prop :=
 ∀ (pos:Pos) (pins:List (Addr×Obj)) (s:Shared) (σ:St) (H:Hp) (Q:List V->Hp->Prop),Inv X pins σ H s->t σ H Q->wpAny (model X.prog X.w) X.A (spliced (backTo pos (starEach es X.env))) (AP X pins σ Q) X.xe s
noncomputable def PS (X:Cx) (st:Stmt) (t:TS):Prop :=
 ∀ (pins:List (Addr×Obj)) (s:Shared) (σ:St) (H:Hp) (D:Ends),Inv X pins σ H s->t D σ H->wpAny (model X.prog X.w) X.A (exec st X.env) (SP X pins D) X.xe s
noncomputable def PSs (X:Cx) (st:List Stmt) (t:TS):Prop :=
 ∀ (pins:List (Addr×Obj)) (s:Shared) (σ:St) (H:Hp) (D:Ends),Inv X pins σ H s->t D σ H->wpAny (model X.prog X.w) X.A (execs st X.env) (SP X pins D) X.xe s
theorem thn {α:Type}{t:Sem α}{Q Q':α->Shared->Prop}{M:Model}{A:Around}{E:Value->Shared->Prop}{s:Shared}(h:wpAny M A t Q E s) (hQ:∀ a s,Q a s->Q' a s):wpAny M A t Q' E s:=wpAny_mono h hQ fun _ _ x=>x
end L2
namespace L2
open PySem PySem.Spec PyProof.Rows
section
variable {X:Cx}
def yGs (i:Nat):TE:=fun σ H Q=>∃ v,σ[i]?=some (some v)/\Q v H
def tC (v:V):TE:=fun _ H Q=>Q v H
theorem yce {i:Nat}{x:Str}{pos:Pos}(hN:X.N[i]?=some x) (hv:Vis X.env.scope x) (hd:(x == ("__debug__":Str))=false:=by decide) (hcd:(x == ("__classdict__":Str))=false:=by decide):PE X (.Name x pos) (yGs i):=by
 intro pins s σ H Q I h
 obtain ⟨v,e,h⟩:=h
 obtain ⟨m,hn,hl⟩:=I.loc
 obtain ⟨u,r,l⟩:=hl i x v hN e hv
 have fin:EP X pins σ Q u s:=⟨v,H,I,r,h⟩
 rcases l with ⟨hk,hm⟩|⟨hk,c,hc,hcell⟩
 .exact wpAny_Name (wpAny_loadName_local I.ok.kind hk hn hm fin) hd
 .rcases hk with hk|hk
  .exact wpAny_Name (wpAny_loadName_cell I.ok.kind hk hc hcell fin) hd
  .exact wpAny_Name (wpAny_loadName_free I.ok.kind hk hc hcell fin hcd) hd
theorem yGE {i j pos}:PE X (.Constant (.int i) j pos) (tC (.int i)):=fun _ _ _ H _ I h=>wpAny_Constant_int ⟨.int i,H,I.tok _,⟨_,rfl⟩,h⟩
theorem yJM {b j pos}:PE X (.Constant (.bool b) j pos) (tC (.bl b)):=fun _ _ _ H _ I h=>Constant_bool ⟨.bl b,H,I,rfl,h⟩
theorem yGF {j pos}:PE X (.Constant .none j pos) (tC .non):=fun _ _ _ H _ I h=>Constant_none ⟨.non,H,I,rfl,h⟩
theorem yGG {x j pos}:PE X (.Constant (.str x) j pos) (tC (.str x)):=fun _ _ _ H _ I h=>Calls.Constant_str ⟨.str x,H,I.tok _,⟨_,rfl⟩,h⟩
def Gl (X:Cx) (x:Str):Prop:=X.env.kindOf x=some .globalImplicit
theorem yrS {E:Value->Shared->Prop}{pins:List (Addr×Obj)}{s:Shared}{σ:St}{H:Hp}{x:Str}{u:Value}{pos:Pos}{Q:Value->Shared->Prop}(I:Inv X pins σ H s) (hg:Gl X x) (hm:X.mg x=some u) (h:Q u s)
  (hd:(x == ("__debug__":Str))=false:=by decide):wpAny (model X.prog X.w) X.A (eval (.Name x pos) X.env) Q E s :=
 Calls.Name_function_global I.ok.kind hg (Calls.loadGlobal_global (by rw [I.ok.glob];exact I.mod.glob.keeps I.bk) hm h) hd
theorem ytd {E:Value->Shared->Prop}{pins:List (Addr×Obj)}{s:Shared}{σ:St}{H:Hp}{x:Str}{u:Value}{pos:Pos}{Q:Value->Shared->Prop}(I:Inv X pins σ H s) (hg:Gl X x) (hm:X.mg x=none) (hv:bootBuiltins x=some u) (h:Q u s)
  (hn:x≠"__name__":=by decide) (hd:(x == ("__debug__":Str))=false:=by decide):wpAny (model X.prog X.w) X.A (eval (.Name x pos) X.env) Q E s:=by
 obtain ⟨mb,h1,h2⟩:=I.mod.blt
 exact Calls.Name_function_global I.ok.kind hg (Calls.loadGlobal_builtin (by rw [I.ok.glob];exact I.mod.glob.keeps I.bk) hm (by rw [I.ok.blt];exact h1.keeps I.bk) ((h2 x hn).trans hv) h) hd
theorem yuY {x:Str}{v:V}{u:Value}{pos:Pos}(hg:Gl X x) (hm:X.mg x=some u) (r:RelV v u) (hd:(x == ("__debug__":Str))=false:=by decide):PE X (.Name x pos) (tC v) :=
 fun _ _ _ H _ I h=>yrS I hg hm ⟨v,H,I,r,h⟩ hd
theorem yEh {x:Str}{v:V}{u:Value}{pos:Pos}(hg:Gl X x) (hm:X.mg x=none) (hv:bootBuiltins x=some u) (r:RelV v u) (hn:x≠"__name__":=by decide) (hd:(x == ("__debug__":Str))=false:=by decide):PE X (.Name x pos) (tC v) :=
 fun _ _ _ H _ I h=>ytd I hg hm hv ⟨v,H,I,r,h⟩ hn hd
variable {a b:Expr}{ta tb:TE}{pos:Pos}
def tB (t:TE):TT:=fun σ H Q=>t σ H fun x H1=>∃ c,x=.bl c/\Q c H1
theorem yGH {e:Expr}{t:TE}(h:PE X e t) (he:∀ whole,isTrue e X.env whole=(do let v <- whole;standAt e.pos;holding [v] (truthy v)):=by intro _;rfl):PT X e (tB t):=by
 intro pins s σ H Q I hw
 refine isTrue_plain (thn (h pins s σ H _ I hw) fun v s1 ⟨x,H1,I1,r1,q1⟩=>?_) (he _)
 obtain ⟨d,rfl,q⟩:=q1
 cases r1
 exact wpAny_truthy_bool ⟨H1,I1,q⟩
variable {tA tB':TT}{rest:List Expr}
def yLX (t u:TT):TT:=fun σ H Q=>t σ H fun c H1=>if c=true then u σ H1 Q else Q false H1
def tOr (t u:TT):TT:=fun σ H Q=>t σ H fun c H1=>if c=true then Q true H1 else u σ H1 Q
def yJN (t:TT):TT:=fun σ H Q=>t σ H fun c H1=>Q (!c) H1
theorem yEi (ha:PT X a tA):PW X (.BoolOp .And [a] pos) tA:=by
 intro wh pins s σ H Q I h
 refine isTrue_and (thn (ha pins s σ H Q I h) fun c s1 e=>?_)
 cases c with
 | true=>exact isTrue_and_nil e
 | false=>exact e
theorem yGI (ha:PT X a tA):PW X (.BoolOp .Or [a] pos) tA:=by
 intro wh pins s σ H Q I h
 refine isTrue_or (thn (ha pins s σ H Q I h) fun c s1 e=>?_)
 cases c with
 | false=>exact isTrue_or_nil e
 | true=>exact e
theorem yGJ (ha:PT X a tA) (hb:PW X (.BoolOp .And (b::rest) pos) tB'):PW X (.BoolOp .And (a::b::rest) pos) (yLX tA tB'):=by
 intro wh pins s σ H Q I h
 refine isTrue_and (thn (ha pins s σ H _ I h) fun c s1 ⟨H1,I1,q1⟩=>?_)
 cases c with
 | true=>exact hb wh pins s1 σ H1 Q I1 q1
 | false=>exact ⟨H1,I1,q1⟩
theorem yJO (ha:PT X a tA) (hb:PW X (.BoolOp .Or (b::rest) pos) tB'):PW X (.BoolOp .Or (a::b::rest) pos) (tOr tA tB'):=by
 intro wh pins s σ H Q I h
 refine isTrue_or (thn (ha pins s σ H _ I h) fun c s1 ⟨H1,I1,q1⟩=>?_)
 cases c with
 | true=>exact ⟨H1,I1,q1⟩
 | false=>exact hb wh pins s1 σ H1 Q I1 q1
theorem yGK (ha:PT X a tA):PT X (.UnaryOp .Not a pos) (yJN tA):=by
 intro pins s σ H Q I h
 exact isTrue_not (ha pins s σ H (fun c H1=>Q (!c) H1) I h)
def yGL (ta tb:TE):TE:=fun σ H Q=>ta σ H fun x H1=>∃ c,x=.bl c/\if c=true then tb σ H1 Q else Q (.bl false) H1
def yGM (ta:TE):TE:=fun σ H Q=>ta σ H fun x H1=>∃ c,x=.bl c/\Q (.bl (!c)) H1
theorem yGN {op} {t:TE}(h:PE X a t):PE X (.BoolOp op [a] pos) t:=fun pins s σ H Q I hw=>BoolOp_one (h pins s σ H Q I hw)
theorem yGO (ha:PE X a ta) (hb:PE X (.BoolOp .And (b::rest) pos) tb):PE X (.BoolOp .And (a::b::rest) pos) (yGL ta tb):=by
 intro pins s σ H Q I h
 refine BoolOp_and (thn (ha pins s σ H _ I h) fun v s1 ⟨x,H1,I1,r1,q1⟩=>?_)
 obtain ⟨c,rfl,q1⟩:=q1
 cases r1
 refine wpAny_truthy_bool ?_
 cases c with
 | true=>exact hb pins s1 σ H1 Q I1 q1
 | false=>exact ⟨.bl false,H1,I1,rfl,q1⟩
theorem yGP (ha:PE X a ta):PE X (.UnaryOp .Not a pos) (yGM ta):=by
 intro pins s σ H Q I h
 refine UnaryOp_ (thn (ha pins s σ H _ I h) fun v s1 ⟨x,H1,I1,r1,q1⟩=>?_)
 obtain ⟨c,rfl,q1⟩:=q1
 cases r1
 exact not_of (wpAny_truthy_bool ⟨.bl (!c),H1,I1,rfl,q1⟩)
def tIf (t:TT) (ta tb:TE):TE:=fun σ H Q=>t σ H fun c H1=>if c=true then ta σ H1 Q else tb σ H1 Q
theorem yBq {c:Expr}(hc:PT X c tA) (ha:PE X a ta) (hb:PE X b tb):PE X (.IfExp c a b pos) (tIf tA ta tb):=by
 intro pins s σ H Q I h
 refine wpAny_IfExp (thn (hc pins s σ H _ I h) fun d s1 ⟨H1,I1,q1⟩=>?_)
 cases d with
 | true=>exact ha pins s1 σ H1 Q I1 q1
 | false=>exact hb pins s1 σ H1 Q I1 q1
end
end L2
namespace L2
open PySem PySem.Spec PyProof.Rows
noncomputable def SqL (K:PySem.W.Frag) (H:Hp) (a:Addr) (xs:List V):Prop :=
 Rd H a (.lst xs) \/
  ∃ (o:Obj) (its:Array Value) (n:Nat),K.lookup a=some o/\o.cls=.type "list"/\o.dict=none/\o.data=.seq its n/\its.size<=sizeLine/\Vals xs its.toList
noncomputable def SqT (K:PySem.W.Frag) (H:Hp) (a:Addr) (xs:List V):Prop :=
 Rd H a (.tup xs) \/
  ∃ (o:Obj) (its:Array Value) (n:Nat),K.lookup a=some o/\o.cls=.type "tuple"/\o.data=.seq its n/\its.size<=sizeLine/\Vals xs its.toList
noncomputable def yMD:Value->Option V
 | .none=>some .non
 | .bool b=>some (.bl b)
 | .int i _=>some (.int i)
 | .str x _=>some (.str x)
 | .bytes b _=>some (.byt b)
 | .float b _=>some (.flt b)
 | .ref a=>some (.ref a)
 | .type n=>some (.ty n)
 | _=>none
theorem RelV.abs {x:V}{u:Value}(r:RelV x u):yMD u=some x:=by
 cases x with
 | non=>cases r;rfl
 | bl _=>cases r;rfl
 | int _=>obtain ⟨t,rfl⟩:=r;rfl
 | str _=>obtain ⟨t,rfl⟩:=r;rfl
 | byt _=>obtain ⟨t,rfl⟩:=r;rfl
 | flt _=>obtain ⟨t,rfl⟩:=r;rfl
 | ref _=>cases r;rfl
 | ty _=>cases r;rfl
theorem RelV.inj {x y:V}{u:Value}(r:RelV x u) (q:RelV y u):x=y:=Option.some.inj (r.abs.symm.trans q.abs)
theorem Vals.inj:∀ {xs ys:List V}{us:List Value},Vals xs us->Vals ys us->xs=ys
 | _,_,_,.nil,.nil=>rfl
 | _,_,_,.cons r t,.cons r' t'=>by rw [r.inj r',Vals.inj t t']
section
variable {X:Cx}{pins:List (Addr×Obj)}{σ:St}{H:Hp}{s:Shared}{a:Addr}{xs ys:List V}
theorem SqL.of {K:PySem.W.Frag}(h:H a=some (.lst xs)):SqL K H a xs:=.inl (.inl h)
theorem SqT.of {K:PySem.W.Frag}(h:H a=some (.tup xs)):SqT K H a xs:=.inl (.inl h)
theorem Inv.list (I:Inv X pins σ H s) (h:SqL X.K H a xs):∃ its:List Value,Vals xs its/\PlainL s.heap a its.toArray/\xs.length<=sizeLine:=by
 rcases h with h|⟨o,its,n,hk,hc,hd,hs,hz,r⟩
 .obtain ⟨z,its,n,r,e⟩:=h.ok I.hok
  exact ⟨its,r,⟨_,n,e,rfl,rfl,rfl⟩,z⟩
 .refine ⟨its.toList,r,⟨o,n,I.kIn a o hk,hc,hd,by simpa using hs⟩,?_⟩
  have e:=r.length
  simp only [Array.length_toList] at e
  omega
theorem Inv.tuple (I:Inv X pins σ H s) (h:SqT X.K H a xs):∃ its:List Value,Vals xs its/\IsTup s.heap a its.toArray/\xs.length<=sizeLine:=by
 rcases h with h|⟨o,its,n,hk,hc,hs,hz,r⟩
 .obtain ⟨z,its,r,p⟩:=h.ok I.hok
  exact ⟨its,r,p,z⟩
 .refine ⟨its.toList,r,⟨o,I.kIn a o hk,hc,n,by simpa using hs⟩,?_⟩
  have e:=r.length
  simp only [Array.length_toList] at e
  omega
theorem Inv.list_inj (I:Inv X pins σ H s) (h:SqL X.K H a xs) (h':SqL X.K H a ys):xs=ys:=by
 obtain ⟨its,r,⟨o,n,e,_,_,d⟩,_⟩:=I.list h
 obtain ⟨its',r',⟨o',n',e',_,_,d'⟩,_⟩:=I.list h'
 rw [e] at e';cases e'
 rw [d] at d'
 injection d' with d1 _
 have:its=its':=by simpa using congrArg Array.toList d1
 subst this
 exact r.inj r'
theorem Inv.tuple_inj (I:Inv X pins σ H s) (h:SqT X.K H a xs) (h':SqT X.K H a ys):xs=ys:=by
 obtain ⟨its,r,⟨o,e,_,n,d⟩,_⟩:=I.tuple h
 obtain ⟨its',r',⟨o',e',_,n',d'⟩,_⟩:=I.tuple h'
 rw [e] at e';cases e'
 rw [d] at d'
 injection d' with d1 _
 have:its=its':=by simpa using congrArg Array.toList d1
 subst this
 exact r.inj r'
end
abbrev Cx.wish (X:Cx) (E:Value->Shared->Prop):Cx:={ X with xe:=E }
abbrev Cx.nox (X:Cx):Cx:=X.wish fun _ _=>False
theorem Cx.Ok.wish {X:Cx}(ok:X.Ok) (E:Value->Shared->Prop):(X.wish E).Ok :=
 ⟨ok.mod,ok.kind,ok.glob,ok.blt,ok.above,ok.inj,ok.has,ok.cab,ok.hd,ok.frames,ok.stk,ok.exf,ok.bs,ok.bsz,ok.noex,ok.exfs,ok.funs,ok.frf⟩
theorem Cx.Ok.unwish {X:Cx}{E:Value->Shared->Prop}(ok:(X.wish E).Ok):X.Ok :=
 ⟨ok.mod,ok.kind,ok.glob,ok.blt,ok.above,ok.inj,ok.has,ok.cab,ok.hd,ok.frames,ok.stk,ok.exf,ok.bs,ok.bsz,ok.noex,ok.exfs,ok.funs,ok.frf⟩
section
variable {X:Cx}{pins:List (Addr×Obj)}{σ:St}{H:Hp}{s:Shared}{E:Value->Shared->Prop}
theorem Inv.wish (I:Inv X pins σ H s) (E:Value->Shared->Prop):Inv (X.wish E) pins σ H s:=⟨I.ok.wish E,I.os,I.bare,I.base,I.loc,I.cell,I.free,I.freeC,I.pin,I.hok,I.len⟩
theorem Inv.unwish (I:Inv (X.wish E) pins σ H s):Inv X pins σ H s:=⟨I.ok.unwish,I.os,I.bare,I.base,I.loc,I.cell,I.free,I.freeC,I.pin,I.hok,I.len⟩
theorem SP.unwish {D:Ends}{f:Flow}{s':Shared}(h:SP (X.wish E) pins D f s'):SP X pins D f s':=by
 cases f with
 | next=>obtain ⟨σ',H',I,q⟩:=h;exact ⟨σ',H',I.unwish,q⟩
 | brk=>obtain ⟨σ',H',I,q⟩:=h;exact ⟨σ',H',I.unwish,q⟩
 | cont=>obtain ⟨σ',H',I,q⟩:=h;exact ⟨σ',H',I.unwish,q⟩
 | ret u=>obtain ⟨v,σ',H',I,r,q⟩:=h;exact ⟨v,σ',H',I.unwish,r,q⟩
theorem PSs.nox {st:List Stmt}{t:TS}(h:PSs X.nox st t):PSs X st t:=fun pins s σ H D I hw =>
 wpAny_mono (h pins s σ H D (I.wish _) hw) (fun _ _ q=>q.unwish) fun _ _ z=>False.elim z
end
section
variable {X:Cx}{st:Stmt}{rest:List Stmt}{t u:TS}{e:Expr}{te:TE}{pos:Pos}
def yGQ:TS:=fun D σ H=>D.nx σ H
def yJP (t u:TS):TS:=fun D σ H=>t { D with nx:=u D } σ H
theorem yEj:PSs X [] yGQ:=fun _ _ σ H _ I h=>wpAny_execs_nil ⟨σ,H,I,h⟩
theorem ywv (h1:PS X st t) (h2:PSs X rest u):PSs X (st::rest) (yJP t u):=by
 intro pins s σ H D I h
 refine wpAny_execs_cons (thn (h1 pins s σ H { D with nx:=u D } I h) fun f s1 q=>?_)
 cases f with
 | next =>
  obtain ⟨σ',H',I',q⟩:=q
  exact h2 pins s1 σ' H' D I' q
 | ret v=>exact q
 | brk=>exact q
 | cont=>exact q
theorem yyM (h1:PS X st t):PSs X [st] t:=by
 intro pins s σ H D I h
 refine wpAny_execs_cons (thn (h1 pins s σ H D I h) fun f s1 q=>?_)
 cases f with
 | next=>exact wpAny_execs_nil q
 | ret v=>exact q
 | brk=>exact q
 | cont=>exact q
theorem Inv.quiet {pins:List (Addr×Obj)}{σ:St}{H:Hp}{s:Shared}(I:Inv X pins σ H s):interactive X.env=false:=by simp [interactive,I.ok.kind]
def yEk (te:TE):TS:=fun D σ H=>te σ H fun _ H1=>D.nx σ H1
theorem yyN (he:PE X e te) (hs:swapsWith e none pos.line X.env=pure false:=by rfl):PS X (.Expr e pos) (yEk te):=by
 intro pins s σ H D I h
 exact wpAny_Expr_any (thn (he pins s σ H _ I h) fun v s1 ⟨x,H1,I1,r1,q1⟩=>⟨σ,H1,I1,q1⟩) I.quiet hs
def yLY (te:TE):TS:=fun D σ H=>te σ H D.rt
theorem yGR (he:PE X e te):PS X (.Return (some e) pos) (yLY te):=by
 intro pins s σ H D I h
 exact wpAny_Return_some (thn (he pins s σ H _ I h) fun v s1 ⟨x,H1,I1,r1,q1⟩=>⟨x,σ,H1,I1,r1,q1⟩)
def yLZ (c:TT) (t u:TS):TS:=fun D σ H=>c σ H fun b H1=>if b=true then t D σ H1 else u D σ H1
theorem yJQ {c:Expr}{a b:List Stmt}{tc:TT}(hc:PT X c tc) (ha:PSs X a t) (hb:PSs X b u):PS X (.If c a b pos) (yLZ tc t u):=by
 intro pins s σ H D I h
 refine wpAny_If (thn (hc pins s σ H _ I h) fun d s1 ⟨H1,I1,q1⟩=>?_)
 cases d with
 | true=>exact ha pins s1 σ H1 D I1 q1
 | false=>exact hb pins s1 σ H1 D I1 q1
def yDl:TS:=fun _ _ _=>False
theorem yBr:PS X st yDl:=fun _ _ _ _ _ _ h=>h.elim
end
abbrev TG:=V->St->Hp->(St->Hp->Prop)->Prop
abbrev TGs:=List V->St->Hp->(St->Hp->Prop)->Prop
noncomputable def PG (X:Cx) (target:Expr) (t:TG):Prop :=
 ∀ (pins:List (Addr×Obj)) (s:Shared) (σ:St) (H:Hp) (v:V) (u:Value) (Q:St->Hp->Prop),Inv X pins σ H s->RelV v u->t v σ H Q ->
  wpAny (model X.prog X.w) X.A (assign target X.env u) (fun _ s'=>∃ σ' H',Inv X pins σ' H' s'/\Q σ' H') X.xe s
noncomputable def PGs (X:Cx) (ts:List Expr) (t:TGs):Prop :=
 ∀ (pins:List (Addr×Obj)) (s:Shared) (σ:St) (H:Hp) (vs:List V) (us:List Value) (Q:St->Hp->Prop),Inv X pins σ H s->Vals vs us->t vs σ H Q ->
  wpAny (model X.prog X.w) X.A (assignInOrder ((assignEach ts X.env).map (·.2)) us) (fun _ s'=>∃ σ' H',Inv X pins σ' H' s'/\Q σ' H') X.xe s
section
variable {X:Cx}{pos:Pos}
def yBs (i:Nat):TG:=fun v σ H Q=>Q (σ.set i (some v)) H
theorem yyO {i:Nat}{x:Str}(hN:X.N.Nodup) (hi:X.N[i]?=some x) (hx:Loc X.env.scope x) (hf:X.fn x=true\/X.env.scope.names.lookup x=some .local:=by first|exact .inl rfl|exact .inr rfl|assumption):PG X (.Name x pos) (yBs i):=by
 intro pins s σ H v u Q I r h
 exact wpAny_assign_Name (ypm I hN hi hx r (fun s' I'=>⟨_,H,I',h⟩) hf)
def yMa:TGs:=fun vs σ H Q=>vs=[]/\Q σ H
def yGS (t:TG) (u:TGs):TGs:=fun vs σ H Q=>∃ v r,vs=v::r/\t v σ H fun σ' H'=>u r σ' H' Q
theorem yEl:PGs X [] yMa:=by
 intro pins s σ H vs us Q I r h
 obtain ⟨e,h⟩:=h
 subst e
 cases r
 exact assignInOrder_nil ⟨σ,H,I,h⟩
theorem yBt {e:Expr}{es:List Expr}{t:TG}{u:TGs}(h1:PG X e t) (h2:PGs X es u)
  (hs:(assignEach (e::es) X.env).map (·.2)=assign e X.env::(assignEach es X.env).map (·.2):=by rfl):PGs X (e::es) (yGS t u):=by
 intro pins s σ H vs us Q I r h
 obtain ⟨v,vr,e1,h⟩:=h
 subst e1
 cases r with
 | cons r rr =>
  rw [hs]
  refine assignInOrder_cons (thn (h1 pins s σ H _ _ _ I r h) fun _ s1 ⟨σ1,H1,I1,q1⟩=>?_)
  exact h2 pins s1 σ1 H1 _ _ Q I1 rr q1
def yMb (K:PySem.W.Frag) (n:Nat) (t:TGs):TG:=fun v σ H Q=>∃ a xs,v=.ref a/\SqT K H a xs/\xs.length=n/\t xs σ H Q
theorem yGT {es:List Expr}{k:Nat}{t:TGs}{n:Nat}(hc:X.calm=true) (h:PGs X es t)
  (hn:(assignEach es X.env).length=n:=by rfl) (hst:(assignEach es X.env).findIdx? (·.1)=none:=by rfl):PG X (.Tuple es k pos) (yMb X.K n t):=by
 intro pins s σ H v u Q I r hw
 obtain ⟨a,xs,e1,hq,hl,hw⟩:=hw
 subst e1
 cases r
 obtain ⟨its,rv,ht,hz⟩:=I.tuple hq
 refine assign_Tuple_tuple (I.ok.hd hc) ht (by simp [hn,<- hl,rv.length]) hst fun h' hx=>?_
 have I1:Inv X pins σ H { s with heap:=h' }:=I.kept (t':=s.toks) fun b o e=>hx b o (Nat.ne_of_lt (Heap.lt_size e)) e
 exact h pins _ σ H xs _ Q I1 (by simpa using rv) hw
def yJR (te:TE) (g:TG):TS:=fun D σ H=>te σ H fun x H1=>g x σ H1 D.nx
theorem yDm {i:Nat}{x:Str}{e:Expr}{te:TE}{pos':Pos}(hN:X.N.Nodup) (hi:X.N[i]?=some x) (hx:Loc X.env.scope x) (he:PE X e te) (hs:swapsWith e (some (.Name x pos')) pos.line X.env=pure false:=by rfl) (hf:X.fn x=true\/X.env.scope.names.lookup x=some .local:=by first|exact .inl rfl|exact .inr rfl|assumption) :
  PS X (.Assign [.Name x pos'] e pos) (yJR te (yBs i)):=by
 intro pins s σ H D I h
 refine wpAny_Assign_Name (thn (he pins s σ H _ I h) fun v s1 ⟨y,H1,I1,r1,q1⟩=>?_) hs
 exact ypm I1 hN hi hx r1 (fun s2 I2=>⟨_,H1,I2,q1⟩) hf
def yMc (i j:Nat) (ta:TA):TS:=fun D σ H=>ta σ H fun vs H1=>∃ v w,vs=[v,w]/\D.nx ((σ.set i (some v)).set j (some w)) H1
theorem yGU {i j:Nat}{x y:Str}{a b:Expr}{ta:TA}{px py pt:Pos}{kt k2 pt2} (hc:X.calm=true) (hN:X.N.Nodup) (hi:X.N[i]?=some x) (hj:X.N[j]?=some y) (hij:i≠j)
  (hx:X.env.scope.names.lookup x=some .local) (hy:X.env.scope.names.lookup y=some .local) (ha:PA X [a,b] ta)
  (hw:swappedStores [.Tuple [.Name x px,.Name y py] kt pt] (.Tuple [a,b] k2 pt2) X.env=pure (some [x,y]))
  (hs:swapsWithSole [.Tuple [.Name x px,.Name y py] kt pt] (.Tuple [a,b] k2 pt2) pos.line X.env=pure false:=by rfl) :
  PS X (.Assign [.Tuple [.Name x px,.Name y py] kt pt] (.Tuple [a,b] k2 pt2) pos) (yMc i j ta):=by
 intro pins s σ H D I h
 rw [exec_Assign_arm]
 refine wpAny_bind (wpAny_standAt ?_)
 rw [hs]
 refine wpAny_bind (wpAny_pure ?_)
 rw [if_neg (by decide)]
 refine wpAny_bind (Tuple_ (thn (ha _ pins s σ H _ I h) fun us s1 ⟨vs,H1,I1,r1,q1⟩=>?_))
 obtain ⟨v,w,e1,q1⟩:=q1
 subst e1
 obtain ⟨u1,u2,rfl,rv,rw'⟩:∃ u1 u2,us=[u1,u2]/\RelV v u1/\RelV w u2:=by
  cases r1 with
  | cons p q =>
   cases q with
   | cons p' q' =>
    cases q'
    exact ⟨_,_,rfl,p,p'⟩
 refine wpAny_newObj_type ?_ (by show 2<=sizeLine;decide)
 have I2:Inv X pins σ H1 { s1 with heap:=s1.heap.push { cls:=.type "tuple",data:=.seq [u1,u2].toArray } }:=I1.kept (t':=s1.toks) fun b o e=>Heap.get?_push_of_some _ e
 rw [hw]
 refine wpAny_bind (wpAny_pure ?_)
 show wpAny (model X.prog X.w) X.A (do rule "assign.swapped-stores";let items <- unpackItems (.ref s1.heap.objs.size) 2 none;assignInOrder [fun v=>bindName X.env y v,fun v=>bindName X.env x v] items.reverse;pure Flow.next) _ _ _
 refine wpAny_bind (wpAny_rule (wpAny_bind (unpackItems_tuple (items:=#[u1,u2]) (I.ok.hd hc) (IsTup.new s1.heap _) fun h' hx'=>?_)))
 have I3:=I2.kept (h':=h') (t':=s1.toks) fun b o e=>hx' b o (Nat.ne_of_lt (Heap.lt_size e)) e
 show wpAny _ _ (assignInOrder [fun v=>bindName X.env y v,fun v=>bindName X.env x v] [u2,u1] >>= fun _=>pure Flow.next) _ _ _
 refine wpAny_bind (assignInOrder_cons (wpAny_bindName (ypm I3 hN hj (.inl hy) rw' (fun s2 I4=>?_) (.inr hy))))
 refine assignInOrder_cons (wpAny_bindName (ypm I4 hN hi (.inl hx) rv (fun s3 I5=>assignInOrder_nil (wpAny_pure ?_)) (.inr hx)))
 rw [List.set_comm _ _ (Ne.symm hij)] at I5
 exact ⟨_,H1,I5,q1⟩
end
section
variable {X:Cx}{pos:Pos}
noncomputable def yDn (c:TT) (tb:TS):TS:=fun D σ H=>∃ W:Nat->St->Hp->Prop,(∃ m,W m σ H)/\∀ m σ H,W m σ H ->
 c σ H fun b H1=>if b=true then ∃ N:St->Hp->Prop,(∀ σ' H',N σ' H'->∃ m',m'<m/\W m' σ' H')/\tb { D with nx:=N,ct:=N,bk:=D.nx } σ H1 else D.nx σ H1
theorem yBu {c:Expr}{body:List Stmt}{tc:TT}{tb:TS}(hp:PassesOwn (model X.prog X.w) X.A X.env X.xe) (hc:PT X c tc) (hb:PSs X body tb):PS X (.While c body [] pos) (yDn tc tb):=by
 intro pins s σ H D I h
 obtain ⟨W,⟨m0,w0⟩,turn⟩:=h
 refine wpAny_While (codeAny_whileLoop (fun n s'=>∃ σ' H',Inv X pins σ' H' s'/\W n σ' H') ?_ m0 ⟨σ,H,I,w0⟩)
 rintro n s1 ⟨σ1,H1,I1,w1⟩
 refine wpAny_passesOwn hp (thn (hc pins s1 σ1 H1 _ I1 (turn n σ1 H1 w1)) fun b s2 ⟨H2,I2,q2⟩=>?_)
 cases b with
 | true =>
  obtain ⟨N,hN,q2⟩:=q2
  rw [if_pos rfl]
  refine wpAny_passesOwn hp (thn (hb pins s2 σ1 H2 _ I2 q2) fun f s3 q3=>?_)
  cases f with
  | next =>
   obtain ⟨σ3,H3,I3,n3⟩:=q3
   obtain ⟨m',hm,w3⟩:=hN σ3 H3 n3
   exact ⟨m',hm,σ3,H3,I3,w3⟩
  | cont =>
   obtain ⟨σ3,H3,I3,n3⟩:=q3
   obtain ⟨m',hm,w3⟩:=hN σ3 H3 n3
   exact ⟨m',hm,σ3,H3,I3,w3⟩
  | brk=>exact q3
  | ret v=>exact q3
 | false =>
  rw [if_neg Bool.false_ne_true]
  exact wpAny_execs_nil ⟨σ1,H2,I2,q2⟩
end
structure It where
 go:Nat->Hp->Prop
 yld:Nat->Hp->V->Hp->Prop
 stop:Nat->Hp->Prop
noncomputable def yBg (X:Cx) (pins:List (Addr×Obj)) (H:Hp) (b:Addr):Prop :=
 H b=none/\b≠X.env.locals/\b∉X.fs/\(b∈X.ex\/X.s₀.heap.objs.size<=b)/\(∀ x c,X.env.cells.lookup x=some c->c≠b)/\∀ p∈X.pn++pins,p.1≠b
theorem Inv.fpOk {X:Cx}{pins:List (Addr×Obj)}{σ:St}{H H':Hp}{s:Shared}{b:Addr}(I:Inv X pins σ H s) (hb:s.heap.objs.size<=b) (hn:H' b=none):yBg X pins H' b:=by
 refine ⟨hn,Nat.ne_of_gt (Nat.lt_of_lt_of_le I.lt hb),I.nofs hb,.inr (Nat.le_trans I.sz hb),fun x c e z=>?_,fun p hp z=>?_⟩
 .obtain ⟨v,q⟩:=I.cell x c e
  exact absurd (Nat.lt_of_lt_of_le q.lt (by rw [z];exact hb)) (Nat.lt_irrefl _)
 .exact absurd (Nat.lt_of_lt_of_le (Heap.lt_size (I.pin p hp).1) (by rw [z];exact hb)) (Nat.lt_irrefl _)
structure Turn (P:Program) (w:World) (K:PySem.W.Frag) (tg:Expr) (J:It) (fp:List Addr) (it:Addr) (tn:Nat->Heap->Prop):Prop where
 mem:it∈fp
 obj:∀ i h,tn i h->∀ b∈fp,∃ o,h.get? b=some o/\∀ v,o.data≠.cell v
 keep:∀ i h h',tn i h->(∀ b∈fp,∀ o,h.get? b=some o->h'.get? b=some o)->tn i h'
 item:∀ (X:Cx),X.prog=P->X.w=w->X.K=K->X.calm=true->∀ (i:Nat) (pins:List (Addr×Obj)) (s:Shared) (σ:St) (H:Hp) (E:Value->Shared->Prop),Inv X pins σ H s->(∀ b∈fp,yBg X pins H b)->tn i s.heap->J.go i H ->
  wpAny (model P w) X.A (pyNext (.ref it)) (fun r s1=>∃ u,r=some u /\
   wpAny (model P w) X.A (letOwnedTupleGo tg (.ref it) u) (fun _ s2=>∃ x H',Inv X pins σ H' s2/\RelV x u/\J.yld i H x H'/\tn (i+1) s2.heap/\∀ b∈fp,H' b=none) E s1) E s
 done:∀ (X:Cx),X.prog=P->X.w=w->X.K=K->X.calm=true->∀ (i:Nat) (pins:List (Addr×Obj)) (s:Shared) (σ:St) (H:Hp) (E:Value->Shared->Prop),Inv X pins σ H s->(∀ b∈fp,yBg X pins H b)->tn i s.heap->J.stop i H ->
  wpAny (model P w) X.A (pyNext (.ref it)) (fun r s1=>r=none/\Inv X pins σ H s1) E s
 self:∀ (A:Around) (i:Nat) (s:Shared) (Q:Value->Shared->Prop) (E:Value->Shared->Prop),tn i s.heap->Q (.ref it) s->wpAny (model P w) A (pyIter (.ref it)) Q E s
abbrev TI:=St->Hp->(It->Hp->Prop)->Prop
noncomputable def PIE (X:Cx) (pins:List (Addr×Obj)) (σ:St) (tg:Expr) (R:It->Hp->Prop) (itv:Value) (s2:Shared):Prop :=
 ∃ (it:Addr) (fp:List Addr) (tn:Nat->Heap->Prop) (J:It) (H':Hp),itv=.ref it/\Inv X pins σ H' s2/\Turn X.prog X.w X.K tg J fp it tn/\tn 0 s2.heap/\(∀ b∈fp,yBg X pins H' b)/\R J H'
noncomputable def PI (X:Cx) (tg iter:Expr) (wi:TI):Prop :=
 ∀ (pins:List (Addr×Obj)) (s:Shared) (σ:St) (H:Hp) (R:It->Hp->Prop),Inv X pins σ H s->wi σ H R ->
  wpAny (model X.prog X.w) X.A (eval iter X.env) (fun v s1=>wpAny (model X.prog X.w) X.A (pyIter v) (PIE X pins σ tg R) X.xe s1) X.xe s
theorem yBv {M:Model}{A:Around}{E:Value->Shared->Prop}{s:Shared}{tg:Expr}{it:Addr}{u:Value}{o:Obj}{n:String}{vs:Array Value}{Q:Unit->Shared->Prop}(ho:s.heap.get? it=some o) (hc:o.cls=.type n) (hd:o.data=.fields vs)
    (hn:["enumerate","zip","dict_itemiterator","dict_reverseitemiterator","odict_iterator","itertools.zip_longest","itertools.pairwise"].contains n=false) (hQ:Q () s):wpAny M A (letOwnedTupleGo tg (.ref it) u) Q E s:=by
  unfold letOwnedTupleGo
  cases tg<;>first
    | exact wpAny_pure hQ
    | (cases u<;>first
        | exact wpAny_pure hQ
        | (refine wpAny_bind (wpAny_load ho ?_)
           rw [hc,hd]
           show wpAny M A (if (["enumerate","zip","dict_itemiterator","dict_reverseitemiterator","odict_iterator","itertools.zip_longest","itertools.pairwise"].contains n && vs[0]? == some (rawInt _))=true then _ else _) Q E s
           rw [if_neg (by intro h;rw [hn,Bool.false_and] at h;cases h)]
           exact wpAny_pure hQ))
noncomputable def Itl (K:PySem.W.Frag) (a:Addr):It :=
 ⟨fun i H=>∃ xs x,SqL K H a xs/\xs[i]?=some x,fun i H x H'=>H'=H/\∀ xs,SqL K H a xs->xs[i]?=some x,fun i H=>∃ xs,SqL K H a xs/\xs.length<=i⟩
noncomputable def Itt (K:PySem.W.Frag) (a:Addr):It :=
 ⟨fun i H=>∃ xs x,SqT K H a xs/\xs[i]?=some x,fun i H x H'=>H'=H/\∀ xs,SqT K H a xs->xs[i]?=some x,fun i H=>∃ xs,SqT K H a xs/\xs.length<=i⟩
def Itr (lo:Int) (n:Nat):It:=⟨fun i _=>i<n,fun i H x H'=>H'=H/\x=.int (lo+i),fun i _=>n<=i⟩
theorem yyP {P:Program}{w:World}{K:PySem.W.Frag}{tg:Expr}(a it:Addr):Turn P w K tg (Itl K a) [it] it (fun i h=>h.IsListIter it a i) where
 mem:=by simp
 obj:=fun i h st b hb=>by
  have e:b=it:=by simpa using hb
  subst e
  obtain ⟨o,e,c,d⟩:=st
  exact ⟨o,e,fun v z=>by rw [d] at z;cases z⟩
 keep:=fun i h h' st k=>st.at fun o e=>k it (by simp) o e
 item:=by
  intro X hP hw hK hc i pins s σ H E I hf st hg
  subst hP hw hK
  obtain ⟨xs,x,hq,hx⟩:=hg
  obtain ⟨its,rv,p,hz⟩:=I.list hq
  obtain ⟨u,hu,ru⟩:=rv.get hx
  obtain ⟨f0,f1,f2,f3,f4,f5⟩:=hf it (by simp)
  refine wpAny_pyNext_list_item st p.isList (x:=u) (by simpa using hu) fun h' st' sb=>?_
  have I1:Inv X pins σ H { s with heap:=h' }:=I.turned (t':=s.toks) (fun b o hb e=>(sb.2 b hb).trans e) f0 f1 f3 f4 f5
  obtain ⟨o,e,c,d⟩:=id st'
  exact ⟨u,rfl,yBv (s:={ s with heap:=h' }) e c d (by decide) ⟨x,H,I1,ru,⟨rfl,fun ys hy=>by rw [I.list_inj hy hq];exact hx⟩,st',fun b hb=>(hf b hb).1⟩⟩
 done:=by
  intro X hP hw hK hc i pins s σ H E I hf st hg
  subst hP hw hK
  obtain ⟨xs,hq,hx⟩:=hg
  obtain ⟨its,rv,p,hz⟩:=I.list hq
  obtain ⟨f0,f1,f2,f3,f4,f5⟩:=hf it (by simp)
  have hl:=rv.length
  exact wpAny_pyNext_list_end (I.ok.hd hc) st p.isList (by simp;omega) fun h' eb=>⟨rfl,I.turned (t':=s.toks) (fun b o hb e=>eb b o hb e) f0 f1 f3 f4 f5⟩
 self:=fun _ _ _ _ _ st h=>wpAny_pyIter_listiter st h
theorem yxt {P:Program}{w:World}{K:PySem.W.Frag}{tg:Expr}(a it:Addr):Turn P w K tg (Itt K a) [it] it (fun i h=>h.IsTupleIter it a i) where
 mem:=by simp
 obj:=fun i h st b hb=>by
  have e:b=it:=by simpa using hb
  subst e
  obtain ⟨o,e,c,d⟩:=st
  exact ⟨o,e,fun v z=>by rw [d] at z;cases z⟩
 keep:=fun i h h' st k=>st.at fun o e=>k it (by simp) o e
 item:=by
  intro X hP hw hK hc i pins s σ H E I hf st hg
  subst hP hw hK
  obtain ⟨xs,x,hq,hx⟩:=hg
  obtain ⟨its,rv,p,hz⟩:=I.tuple hq
  obtain ⟨u,hu,ru⟩:=rv.get hx
  obtain ⟨f0,f1,f2,f3,f4,f5⟩:=hf it (by simp)
  refine wpAny_pyNext_tuple_item st (show s.heap.IsTuple a its.toArray from p) (x:=u) (by simpa using hu) fun h' st' sb=>?_
  have I1:Inv X pins σ H { s with heap:=h' }:=I.turned (t':=s.toks) (fun b o hb e=>(sb.2 b hb).trans e) f0 f1 f3 f4 f5
  obtain ⟨o,e,c,d⟩:=id st'
  exact ⟨u,rfl,yBv (s:={ s with heap:=h' }) e c d (by decide) ⟨x,H,I1,ru,⟨rfl,fun ys hy=>by rw [I.tuple_inj hy hq];exact hx⟩,st',fun b hb=>(hf b hb).1⟩⟩
 done:=by
  intro X hP hw hK hc i pins s σ H E I hf st hg
  subst hP hw hK
  obtain ⟨xs,hq,hx⟩:=hg
  obtain ⟨its,rv,p,hz⟩:=I.tuple hq
  obtain ⟨f0,f1,f2,f3,f4,f5⟩:=hf it (by simp)
  have hl:=rv.length
  exact wpAny_pyNext_tuple_end (I.ok.hd hc) st (show s.heap.IsTuple a its.toArray from p) (by simp;omega) fun h' eb=>⟨rfl,I.turned (t':=s.toks) (fun b o hb e=>eb b o hb e) f0 f1 f3 f4 f5⟩
 self:=fun _ _ _ _ _ st h=>wpAny_pyIter_tupleiter st h
theorem yxu {P:Program}{w:World}{K:PySem.W.Frag}{tg:Expr}(it:Addr) (lo:Int) (n:Nat):Turn P w K tg (Itr lo n) [it] it (fun i h=>IsRangeIter h it (lo+(i:Nat)*1) ((n:Int)-(i:Nat)) 1) where
 mem:=by simp
 obj:=fun i h st b hb=>by
  have e:b=it:=by simpa using hb
  subst e
  exact ⟨_,st,fun v z=>by
   have z':Data.fields _=Data.cell v:=z
   cases z'⟩
 keep:=fun i h h' st k=>k it (by simp) _ st
 item:=by
  intro X hP hw hK hc i pins s σ H E I hf st hg
  subst hP hw hK
  obtain ⟨f0,f1,f2,f3,f4,f5⟩:=hf it (by simp)
  have W:=Walks.range (prog:=X.prog) (w:=X.w) (I.ok.hd hc) it lo 1 n
  refine W.item i s _ _ hg st fun v h' tk hv st' kk=>?_
  obtain ⟨t,rfl⟩:=hv
  have I1:Inv X pins σ H { s with heap:=h',toks:=tk }:=I.turned (fun b o hb e=>kk b o (by simpa using hb) e) f0 f1 f3 f4 f5
  refine ⟨_,rfl,yBv (s:={ s with heap:=h',toks:=tk }) (n:="range_iterator") st' rfl rfl (by decide) ⟨.int (lo+i),H,I1,⟨t,?_⟩,⟨rfl,rfl⟩,st',fun b hb=>(hf b hb).1⟩⟩
  rw [Int.mul_one]
 done:=by
  intro X hP hw hK hc i pins s σ H E I hf st hg
  subst hP hw hK
  obtain ⟨f0,f1,f2,f3,f4,f5⟩:=hf it (by simp)
  exact wpAny_pyNext_range_end (I.ok.hd hc) st (by have:n<=i:=hg;omega) fun h' eb=>⟨rfl,I.turned (t':=s.toks) (fun b o hb e=>eb b o hb e) f0 f1 f3 f4 f5⟩
 self:=fun _ _ _ _ _ st h=>wpAny_pyIter_rangeiter st h
end L2
namespace L2
open PySem PySem.Spec PyProof.Rows
section
variable {X:Cx}{tg:Expr}
def yEm (K:PySem.W.Frag) (tl:TE):TI:=fun σ H R=>tl σ H fun x H1=>∃ a,x=.ref a/\(∃ xs,SqL K H1 a xs)/\R (Itl K a) H1
def yMd (K:PySem.W.Frag) (tl:TE):TI:=fun σ H R=>tl σ H fun x H1=>∃ a,x=.ref a/\(∃ xs,SqT K H1 a xs)/\R (Itt K a) H1
theorem yyQ {l:Expr}{tl:TE}(hl:PE X l tl):PI X tg l (yEm X.K tl):=by
 intro pins s σ H R I h
 refine thn (hl pins s σ H _ I h) fun v s1 ⟨x,H1,I1,r1,q1⟩=>?_
 obtain ⟨a,e,⟨xs,hq⟩,q⟩:=q1
 subst e
 cases r1
 obtain ⟨its,rv,p,hz⟩:=I1.list hq
 refine wpAny_pyIter_list p.isList ?_
 refine ⟨s1.heap.objs.size,[s1.heap.objs.size],_,_,H1,rfl,I1.kept (t':=s1.toks) fun b o e=>Heap.get?_push_of_some _ e,yyP a _,⟨_,Heap.get?_push_size _ rfl,rfl,rfl⟩,fun b hb=>?_,q⟩
 have e:b=s1.heap.objs.size:=by simpa using hb
 subst e
 exact I1.fpOk (Nat.le_refl _) (I1.hok.fresh (Nat.le_refl _))
theorem yGV {l:Expr}{tl:TE}(hl:PE X l tl):PI X tg l (yMd X.K tl):=by
 intro pins s σ H R I h
 refine thn (hl pins s σ H _ I h) fun v s1 ⟨x,H1,I1,r1,q1⟩=>?_
 obtain ⟨a,e,⟨xs,hq⟩,q⟩:=q1
 subst e
 cases r1
 obtain ⟨its,rv,p,hz⟩:=I1.tuple hq
 refine wpAny_pyIter_tuple (show s1.heap.IsTuple a its.toArray from p) ?_
 refine ⟨s1.heap.objs.size,[s1.heap.objs.size],_,_,H1,rfl,I1.kept (t':=s1.toks) fun b o e=>Heap.get?_push_of_some _ e,yxt a _,⟨_,Heap.get?_push_size _ rfl,rfl,rfl⟩,fun b hb=>?_,q⟩
 have e:b=s1.heap.objs.size:=by simpa using hb
 subst e
 exact I1.fpOk (Nat.le_refl _) (I1.hok.fresh (Nat.le_refl _))
theorem yBw {pins:List (Addr×Obj)}{σ:St}{H:Hp}{s:Shared}{R:It->Hp->Prop}{E:Value->Shared->Prop}{lo hi:Int}{t u v:Tok}{tk:Nat}(I:Inv X pins σ H s) (h1:-(2 ^ 62)<=lo) (h2:lo<2 ^ 62) (h3:-(2 ^ 62)<=hi) (h4:hi<2 ^ 62)
  (q:R (Itr lo (hi-lo).toNat) H):wpAny (model X.prog X.w) X.A (pyIter (.ref s.heap.objs.size)) (PIE X pins σ tg R) E { s with heap:=s.heap.push { cls:=.type "range",data:=.fields #[.int lo t,.int hi u,.int 1 v] },toks:=tk }:=by
 refine wpAny_pyIter_range (IsRange.new ..) (small_one h1 h2 h3 h4) ?_
 have I1:Inv X pins σ H { s with heap:=s.heap.push { cls:=.type "range",data:=.fields #[.int lo t,.int hi u,.int 1 v] },toks:=tk }:=I.kept fun b o e=>Heap.get?_push_of_some _ e
 refine ⟨(s.heap.push { cls:=.type "range",data:=.fields #[.int lo t,.int hi u,.int 1 v] }).objs.size,[(s.heap.push { cls:=.type "range",data:=.fields #[.int lo t,.int hi u,.int 1 v] }).objs.size],_,_,H,rfl,
  I1.kept (t':=tk) fun b o e=>Heap.get?_push_of_some _ e,yxu _ lo (hi-lo).toNat,?_,fun b hb=>?_,q⟩
 .have e1:lo+((0:Nat):Int)*1=lo:=by simp
  have e2:(((hi-lo).toNat:Nat):Int)-((0:Nat):Int)=Builtin.Range.rangeSize lo hi 1:=by rw [rangeSize_one];split<;>omega
  show IsRangeIter _ _ (lo+((0:Nat):Int)*1) ((((hi-lo).toNat:Nat):Int)-((0:Nat):Int)) 1
  rw [e1,e2]
  exact Heap.get?_push_size _ rfl
 .have e:b=(s.heap.push { cls:=.type "range",data:=.fields #[.int lo t,.int hi u,.int 1 v] }).objs.size:=by simpa using hb
  subst e
  exact I1.fpOk (Nat.le_refl _) (I1.hok.fresh (Nat.le_refl _))
def yGW (ta:TA):TI:=fun σ H R=>ta σ H fun vs H1=>∃ j:Int,vs=[.int j]/\-(2 ^ 62)<=j/\j<2 ^ 62/\R (Itr 0 j.toNat) H1
theorem yyR {a:Expr}{ta:TA}{p pos:Pos}(hg:Gl X "range") (hm:X.mg "range" = none) (ha:PA X [a] ta) (hs:starEach [a] X.env=[(false,eval a X.env)]:=by rfl):PI X tg (.Call (.Name "range" p) [a] [] pos) (yGW ta):=by
 intro pins s σ H R I h
 refine Call_ (ytd I hg hm boot_range (PyProof.Rows.callWith_type1 (thn (ha pos pins s σ H _ I h) fun us s1 ⟨vs,H1,I1,r1,q1⟩=>?_) hs rfl))
 obtain ⟨j,e,q1,q2,q⟩:=q1
 subst e
 cases r1 with
 | cons r rr =>
  cases rr
  obtain ⟨t,rfl⟩:=r
  exact call_range_1 (yBw I1 (by omega) (by omega) q1 q2 (by simpa using q))
noncomputable def yJE (wi:TI) (g:TG) (tb:TS):TS:=fun D σ H=>wi σ H fun J H1=>∃ W:Nat->Nat->St->Hp->Prop,(∃ m,W 0 m σ H1)/\∀ i m σ H,W i m σ H ->
 (J.stop i H/\D.nx σ H)\/(J.go i H/\∃ N:St->Hp->Prop,(∀ σ' H',N σ' H'->∃ m',m'<m/\W (i+1) m' σ' H')/\∀ x H',J.yld i H x H'->g x σ H' fun σ2 H2=>tb { D with nx:=N,ct:=N,bk:=D.nx } σ2 H2)
def yww (fp:List Addr) (h:Heap):List (Addr×Obj):=fp.filterMap fun b=>(h.get? b).map fun o=>(b,o)
theorem ylO {fp:List Addr}{h:Heap}{b:Addr}{o:Obj}(hb:b∈fp) (e:h.get? b=some o):(b,o)∈yww fp h:=List.mem_filterMap.mpr ⟨b,hb,by rw [e];rfl⟩
theorem yyS {fp:List Addr}{h:Heap}{p:Addr×Obj}(hp:p∈yww fp h):p.1∈fp/\h.get? p.1=some p.2:=by
 obtain ⟨b,hb,e⟩:=List.mem_filterMap.mp hp
 cases q:h.get? b with
 | none=>rw [q] at e;cases e
 | some o =>
  rw [q] at e
  have e':(b,o)=p:=Option.some.inj e
  subst e'
  exact ⟨hb,q⟩
theorem Inv.pinned {pins:List (Addr×Obj)}{σ:St}{H:Hp}{s:Shared}{fp:List Addr}(I:Inv X pins σ H s) (hf:∀ b∈fp,yBg X pins H b) (ho:∀ b∈fp,∃ o,s.heap.get? b=some o/\∀ v,o.data≠.cell v):Inv X (pins++yww fp s.heap) σ H s :=
 I.pins_of fun p hp=>(List.mem_append.mp hp).elim (fun z=>I.pin p (List.mem_append_right _ z)) fun z=>by
  obtain ⟨hb,e⟩:=yyS z
  obtain ⟨f0,f1,f2,_⟩:=hf p.1 hb
  obtain ⟨o,e',d⟩:=ho p.1 hb
  rw [e] at e';cases e'
  exact ⟨e,f0,f1,f2,d⟩
theorem Inv.unpinned {pins pl:List (Addr×Obj)}{σ:St}{H:Hp}{s:Shared}(I:Inv X (pins++pl) σ H s):Inv X pins σ H s:=I.pins_of fun p hp=>I.pin p (List.mem_append_right _ (List.mem_append_left _ hp))
theorem yyT {iter:Expr}{body:List Stmt}{wi:TI}{g:TG}{tb:TS}{pos:Pos}(hp:PassesOwn (model X.prog X.w) X.A X.env X.xe) (hc:X.calm=true) (hi:PI X tg iter wi) (hg:PG X tg g) (hb:PSs X body tb)
  (hs:∀ x,foldedSetIterable iter X.env x=pure x:=by intro _;rfl):PS X (.For tg iter body [] pos) (yJE wi g tb):=by
 intro pins s σ H D I h
 refine wpAny_For (thn (hi pins s σ H _ I h) fun v s1 h1=>thn h1 fun itv s2 h2=>?_) hs
 obtain ⟨it,fp,tn,J,H2,e,I2,T,st2,f2,W,⟨m0,w0⟩,turn⟩:=h2
 subst e
 have stat:∀ {H':Hp},(∀ b∈fp,H' b=none)->∀ b∈fp,yBg X pins H' b:=fun hn b hb=>⟨hn b hb,(f2 b hb).2⟩
 refine codeAny_forLoop_any (fun n s'=>∃ i σ' H',Inv X pins σ' H' s'/\tn i s'.heap/\(∀ b∈fp,H' b=none)/\W i n σ' H') ?_ m0 ⟨0,σ,H2,I2,st2,fun b hb=>(f2 b hb).1,w0⟩
 rintro n s3 ⟨i,σ3,H3,I3,st3,fr3,w3⟩
 rcases turn i n σ3 H3 w3 with ⟨stop,qn⟩|⟨go,N,hN,step⟩
 .refine wpAny_passesOwn hp (thn (T.done X rfl rfl rfl hc i pins s3 σ3 H3 X.xe I3 (stat fr3) st3 stop) fun r s4 ⟨hr,I4⟩=>?_)
  subst hr
  exact wpAny_execs_nil ⟨σ3,H3,I4,qn⟩
 .refine wpAny_passesOwn hp (thn (T.item X rfl rfl rfl hc i pins s3 σ3 H3 X.xe I3 (stat fr3) st3 go) fun r s4 ⟨u,hr,h4⟩=>?_)
  subst hr
  refine wpAny_passesOwn hp (thn h4 fun _ s5 ⟨x,H5,I5,r5,y5,st5,fr5⟩=>?_)
  have I5':=I5.pinned (stat fr5) (T.obj _ _ st5)
  refine wpAny_passesOwn hp (thn (hg _ s5 σ3 H5 x u _ I5' r5 (step x H5 y5)) fun _ s6 ⟨σ6,H6,I6,q6⟩=>?_)
  refine wpAny_passesOwn hp (thn (hb _ s6 σ6 H6 _ I6 q6) fun f s7 q7=>?_)
  have again:∀ {σ7:St}{H7:Hp},Inv X (pins++yww fp s5.heap) σ7 H7 s7->N σ7 H7->∃ m,m<n/\∃ i σ' H',Inv X pins σ' H' s7/\tn i s7.heap/\(∀ b∈fp,H' b=none)/\W i m σ' H':=fun {σ7 H7} I7 n7=>by
   obtain ⟨m',hm,w7⟩:=hN σ7 H7 n7
   refine ⟨m',hm,i+1,σ7,H7,I7.unpinned,T.keep _ _ _ st5 fun b hb o e=>(I7.pin (b,o) (List.mem_append_right _ (List.mem_append_right _ (ylO hb e)))).1,fun b hb=>?_,w7⟩
   obtain ⟨o,e,d⟩:=T.obj _ _ st5 b hb
   exact (I7.pin (b,o) (List.mem_append_right _ (List.mem_append_right _ (ylO hb e)))).2.1
  cases f with
  | next=>obtain ⟨σ7,H7,I7,n7⟩:=q7;exact again I7 n7
  | cont=>obtain ⟨σ7,H7,I7,n7⟩:=q7;exact again I7 n7
  | brk=>obtain ⟨σ7,H7,I7,q7⟩:=q7;exact ⟨σ7,H7,I7.unpinned,q7⟩
  | ret v=>obtain ⟨x7,σ7,H7,I7,r7,q7⟩:=q7;exact ⟨x7,σ7,H7,I7.unpinned,r7,q7⟩
end
end L2
namespace L2
open PySem PySem.Spec PyProof.Rows
abbrev R2:=V->V->Hp->VK->Prop
noncomputable def OpR (X:Cx) (f:Value->Value->Sem Value) (r:R2):Prop :=
 ∀ (pins:List (Addr×Obj)) (s:Shared) (σ:St) (H:Hp) (x y:V) (v u:Value) (Q:VK),Inv X pins σ H s->RelV x v->RelV y u->r x y H Q ->
  wpAny (model X.prog X.w) X.A (f v u) (EP X pins σ Q) X.xe s
noncomputable def UnR (X:Cx) (f:Value->Sem Value) (r:V->Hp->VK->Prop):Prop :=
 ∀ (pins:List (Addr×Obj)) (s:Shared) (σ:St) (H:Hp) (x:V) (v:Value) (Q:VK),Inv X pins σ H s->RelV x v->r x H Q ->
  wpAny (model X.prog X.w) X.A (f v) (EP X pins σ Q) X.xe s
noncomputable def CallR (X:Cx) (f:Value) (r:List V->Hp->VK->Prop):Prop :=
 ∀ (pins:List (Addr×Obj)) (s:Shared) (σ:St) (H:Hp) (xs:List V) (us:List Value) (Q:VK),Inv X pins σ H s->Vals xs us->r xs H Q ->
  wpAny (model X.prog X.w) X.A (call f us) (EP X pins σ Q) X.xe s
def tOp (r:R2) (ta tb:TE):TE:=fun σ H Q=>ta σ H fun x H1=>tb σ H1 fun y H2=>r x y H2 Q
def tUn (r:V->Hp->VK->Prop) (ta:TE):TE:=fun σ H Q=>ta σ H fun x H1=>r x H1 Q
def rI (C:Int->Int->Prop) (g:Int->Int->V):R2:=fun x y H Q=>∃ i j,x=.int i/\y=.int j/\C i j/\Q (g i j) H
def rI0 (g:Int->Int->V):R2:=fun x y H Q=>∃ i j,x=.int i/\y=.int j/\Q (g i j) H
def rU (g:Int->V):V->Hp->VK->Prop:=fun x H Q=>∃ i,x=.int i/\Q (g i) H
section
variable {X:Cx}{a b c:Expr}{ta tb tc:TE}{pos:Pos}
theorem yJS (ha:PE X a ta) (hb:PE X b tb) {pins:List (Addr×Obj)}{s:Shared}{σ:St}{H:Hp}{R:V->V->Hp->Prop}(I:Inv X pins σ H s)
  (h:ta σ H fun x H1=>tb σ H1 fun y H2=>R x y H2) {Q:Value->Shared->Prop}{f:Value->Value->Sem Value}
  (hf:∀ v u s2 x y H2,Inv X pins σ H2 s2->RelV x v->RelV y u->R x y H2->wpAny (model X.prog X.w) X.A (f v u) Q X.xe s2) :
  wpAny (model X.prog X.w) X.A (eval a X.env) (fun v s₁=>wpAny (model X.prog X.w) X.A (eval b X.env) (fun u s₂=>wpAny (model X.prog X.w) X.A (f v u) Q X.xe s₂) X.xe s₁) X.xe s:=by
 refine thn (ha pins s σ H _ I h) fun v s1 ⟨x,H1,I1,r1,q1⟩=>?_
 refine thn (hb pins s1 σ H1 _ I1 q1) fun u s2 ⟨y,H2,I2,r2,q2⟩=>?_
 exact hf v u s2 x y H2 I2 r1 r2 q2
theorem yGX {op:Operator}{r:R2}(ho:OpR X (binaryOp op) r) (ha:PE X a ta) (hb:PE X b tb):PE X (.BinOp a op b pos) (tOp r ta tb):=by
 intro pins s σ H Q I h
 exact wpAny_BinOp (yJS ha hb I h fun v u s2 x y H2 I2 rx ry q=>ho pins s2 σ H2 x y v u Q I2 rx ry q)
theorem yJT {op:UnaryOp}{r:V->Hp->VK->Prop}(ho:UnR X (unaryOp op) r) (ha:PE X a ta):PE X (.UnaryOp op a pos) (tUn r ta):=by
 intro pins s σ H Q I h
 exact UnaryOp_ (thn (ha pins s σ H _ I h) fun v s1 ⟨x,H1,I1,r1,q1⟩=>ho pins s1 σ H1 x v Q I1 r1 q1)
theorem opI {f:Value->Value->Sem Value}{C:Int->Int->Prop}{g:Int->Int->Int}
  (rule:∀ (i j:Int) (t u:Tok) (s:Shared) (Q:Value->Shared->Prop) (E:Value->Shared->Prop),C i j->Q (.int (g i j) s.toks) { s with toks:=s.toks+1 }->wpAny (model X.prog X.w) X.A (f (.int i t) (.int j u)) Q E s) :
  OpR X f (rI C fun i j=>.int (g i j)):=by
 intro pins s σ H x y v u Q I rx ry h
 obtain ⟨i,j,rfl,rfl,hc,q⟩:=h
 obtain ⟨t,rfl⟩:=rx
 obtain ⟨t',rfl⟩:=ry
 exact rule i j t t' s _ _ hc ⟨.int (g i j),H,I.tok _,⟨_,rfl⟩,q⟩
theorem yMe {f:Value->Value->Sem Value}{g:Int->Int->Int}
  (rule:∀ (i j:Int) (t u:Tok) (s:Shared) (Q:Value->Shared->Prop) (E:Value->Shared->Prop),Q (.int (g i j) s.toks) { s with toks:=s.toks+1 }->wpAny (model X.prog X.w) X.A (f (.int i t) (.int j u)) Q E s) :
  OpR X f (rI0 fun i j=>.int (g i j)):=by
 intro pins s σ H x y v u Q I rx ry h
 obtain ⟨i,j,rfl,rfl,q⟩:=h
 obtain ⟨t,rfl⟩:=rx
 obtain ⟨t',rfl⟩:=ry
 exact rule i j t t' s _ _ ⟨.int (g i j),H,I.tok _,⟨_,rfl⟩,q⟩
theorem yJU {f:Value->Value->Sem Value}{g:Int->Int->Bool}
  (rule:∀ (i j:Int) (t u:Tok) (s:Shared) (Q:Value->Shared->Prop) (E:Value->Shared->Prop),Q (.bool (g i j)) s->wpAny (model X.prog X.w) X.A (f (.int i t) (.int j u)) Q E s) :
  OpR X f (rI0 fun i j=>.bl (g i j)):=by
 intro pins s σ H x y v u Q I rx ry h
 obtain ⟨i,j,rfl,rfl,q⟩:=h
 obtain ⟨t,rfl⟩:=rx
 obtain ⟨t',rfl⟩:=ry
 exact rule i j t t' s _ _ ⟨.bl (g i j),H,I,rfl,q⟩
def yMf (i j:Int):Prop:=0<j/\j<1073741824
def yJV (i j:Int):Prop:=0<=j/\j<=1000000/\i.natAbs<2 ^ 64
def CMul (i j:Int):Prop:=(-(2 ^ 64)<i/\i<2 ^ 64)\/(-(2 ^ 64)<j/\j<2 ^ 64)
theorem CMul.ok {i j:Int}(h:CMul i j):IntMulOk i j:=by
 rcases h with ⟨h1,h2⟩|⟨h1,h2⟩
 .exact .of_left (intBits_le_64 h1 h2)
 .exact .of_right (intBits_le_64 h1 h2)
theorem yeL:OpR X (binaryOp .Add) (rI0 fun i j=>.int (i+j)):=yMe fun _ _ _ _ _ _ _ q=>add_int q
theorem ywx:OpR X (binaryOp .Sub) (rI0 fun i j=>.int (i-j)):=yMe fun _ _ _ _ _ _ _ q=>sub_int q
theorem yyU:OpR X (binaryOp .Mult) (rI CMul fun i j=>.int (i*j)):=opI fun _ _ _ _ _ _ _ hc q=>mul_int q hc.ok
theorem ydC:OpR X (binaryOp .FloorDiv) (rI yMf fun i j=>.int (i/j)):=opI fun i j _ _ _ _ _ hc q=>by
 have h1:(0:Int)<j:=hc.1
 have h2:j<1073741824:=hc.2
 exact floordiv_int (by omega) (by rw [Int.fdiv_eq_ediv_of_nonneg i (by omega)];exact q) (.inl (PyProof.noPylong_small (by omega)))
theorem yfC:OpR X (binaryOp .Mod) (rI (fun _ j=>0<j) fun i j=>.int (i%j)):=opI fun i j _ _ _ _ _ hc q=>by
 have h1:(0:Int)<j:=hc
 exact mod_int' (by omega) (by rw [Int.fmod_eq_emod_of_nonneg i (by omega)];exact q)
theorem yyV:OpR X (binaryOp .Pow) (rI yJV fun i j=>.int (i ^ j.toNat)):=opI fun _ _ _ _ _ _ _ hc q=>pow_int_small hc.1 hc.2.1 hc.2.2 q
theorem unI {f:Value->Sem Value}{g:Int->Int}
  (rule:∀ (i:Int) (t:Tok) (s:Shared) (Q:Value->Shared->Prop) (E:Value->Shared->Prop),Q (.int (g i) s.toks) { s with toks:=s.toks+1 }->wpAny (model X.prog X.w) X.A (f (.int i t)) Q E s) :
  UnR X f (rU fun i=>.int (g i)):=by
 intro pins s σ H x v Q I rx h
 obtain ⟨i,rfl,q⟩:=h
 obtain ⟨t,rfl⟩:=rx
 exact rule i t s _ _ ⟨.int (g i),H,I.tok _,⟨_,rfl⟩,q⟩
theorem yGY:UnR X (unaryOp .USub) (rU fun i=>.int (-i)):=unI fun _ _ _ _ _ q=>neg_int q
end
noncomputable def yDo:V->V->Bool
 | .non,.non=>true|.non,.int _=>true|.int _,.non=>true|.non,.bl _=>true|.bl _,.non=>true|.non,.str _=>true|.str _,.non=>true
 | .int _,.int _=>true|.bl _,.bl _=>true|.str _,.str _=>true|.byt _,.byt _=>true
 | .int _,.str _=>true|.str _,.int _=>true|.bl _,.str _=>true|.str _,.bl _=>true
 | _,_=>false
def rEq:R2:=fun x y H Q=>yDo x y=true/\Q (.bl (decide (x=y))) H
def rNe:R2:=fun x y H Q=>yDo x y=true/\Q (.bl (!decide (x=y))) H
theorem yyW {i j:Int}:decide (V.int i=V.int j)=(i == j):=by
 rw [Bool.eq_iff_iff]
 simp
theorem yDp {i j:Bool}:decide (V.bl i=V.bl j)=(i == j):=by
 rw [Bool.eq_iff_iff]
 simp
theorem yyX {i j:Str}:decide (V.str i=V.str j)=(i == j):=by
 rw [Bool.eq_iff_iff]
 simp
theorem yyY {i j:Array UInt8}:decide (V.byt i=V.byt j)=(i.toList == j.toList):=by
 rw [Bool.eq_iff_iff]
 cases i
 cases j
 simp
section
variable {X:Cx}{a b c:Expr}{ta tb tc:TE}{pos:Pos}
theorem ycH {pins:List (Addr×Obj)}{σ:St}{H:Hp}{s:Shared}{Q:VK}{k k':Bool}(I:Inv X pins σ H s) (q:Q (.bl k) H) (e:k=k'):EP X pins σ Q (.bool k') s:=by
 subst e
 exact ⟨.bl k,H,I,rfl,q⟩
theorem ydN:OpR X (compareOp .Eq) rEq:=by
 intro pins s σ H x y v u Q I rx ry h
 obtain ⟨hs,q⟩:=h
 cases x with
 | non =>
  cases rx
  cases y with
  | non=>cases ry;exact PySem.EqNone.eq_none_none (ycH I q (by simp))
  | bl j=>cases ry;exact PySem.EqNone.eq_none_bool (ycH I q (by simp))
  | int j=>obtain ⟨t',rfl⟩:=ry;exact PySem.EqNone.eq_none_int (ycH I q (by simp))
  | str j=>obtain ⟨t',rfl⟩:=ry;exact PySem.EqNone.eq_none_str (ycH I q (by simp))
  | _=>exact absurd (show false=true from hs) Bool.false_ne_true
 | bl i =>
  cases rx
  cases y with
  | non=>cases ry;exact PySem.EqNone.eq_bool_none (ycH I q (by simp))
  | bl j=>cases ry;exact eq_bool (ycH I q yDp)
  | str j=>obtain ⟨t',rfl⟩:=ry;exact PySem.EqMixed.eq_bool_str (ycH I q (by simp))
  | _=>exact absurd (show false=true from hs) Bool.false_ne_true
 | int i =>
  obtain ⟨t,rfl⟩:=rx
  cases y with
  | non=>cases ry;exact PySem.EqNone.eq_int_none (ycH I q (by simp))
  | int j=>obtain ⟨t',rfl⟩:=ry;exact eq_int (ycH I q yyW)
  | str j=>obtain ⟨t',rfl⟩:=ry;exact PySem.EqMixed.eq_int_str (ycH I q (by simp))
  | _=>exact absurd (show false=true from hs) Bool.false_ne_true
 | str i =>
  obtain ⟨t,rfl⟩:=rx
  cases y with
  | non=>cases ry;exact PySem.EqNone.eq_str_none (ycH I q (by simp))
  | bl j=>cases ry;exact PySem.EqMixed.eq_str_bool (ycH I q (by simp))
  | int j=>obtain ⟨t',rfl⟩:=ry;exact PySem.EqMixed.eq_str_int (ycH I q (by simp))
  | str j=>obtain ⟨t',rfl⟩:=ry;exact eq_str (ycH I q yyX)
  | _=>exact absurd (show false=true from hs) Bool.false_ne_true
 | byt i =>
  obtain ⟨t,rfl⟩:=rx
  cases y with
  | byt j=>obtain ⟨t',rfl⟩:=ry;exact PySem.W.eq_bytes (ycH I q yyY)
  | _=>exact absurd (show false=true from hs) Bool.false_ne_true
 | _=>cases y<;>exact absurd (show false=true from hs) Bool.false_ne_true
theorem yxv:OpR X (compareOp .NotEq) rNe:=by
 intro pins s σ H x y v u Q I rx ry h
 obtain ⟨hs,q⟩:=h
 cases x with
 | non =>
  cases rx
  cases y with
  | non=>cases ry;exact PySem.EqNone.ne_none_none (ycH I q (by simp))
  | bl j=>cases ry;exact PySem.EqNone.ne_none_bool (ycH I q (by simp))
  | int j=>obtain ⟨t',rfl⟩:=ry;exact PySem.EqNone.ne_none_int (ycH I q (by simp))
  | str j=>obtain ⟨t',rfl⟩:=ry;exact PySem.EqNone.ne_none_str (ycH I q (by simp))
  | _=>exact absurd (show false=true from hs) Bool.false_ne_true
 | bl i =>
  cases rx
  cases y with
  | non=>cases ry;exact PySem.EqNone.ne_bool_none (ycH I q (by simp))
  | bl j=>cases ry;exact ne_bool (ycH I q (congrArg not yDp))
  | str j=>obtain ⟨t',rfl⟩:=ry;exact PySem.EqMixed.ne_bool_str (ycH I q (by simp))
  | _=>exact absurd (show false=true from hs) Bool.false_ne_true
 | int i =>
  obtain ⟨t,rfl⟩:=rx
  cases y with
  | non=>cases ry;exact PySem.EqNone.ne_int_none (ycH I q (by simp))
  | int j=>obtain ⟨t',rfl⟩:=ry;exact ne_int (ycH I q (congrArg not yyW))
  | str j=>obtain ⟨t',rfl⟩:=ry;exact PySem.EqMixed.ne_int_str (ycH I q (by simp))
  | _=>exact absurd (show false=true from hs) Bool.false_ne_true
 | str i =>
  obtain ⟨t,rfl⟩:=rx
  cases y with
  | non=>cases ry;exact PySem.EqNone.ne_str_none (ycH I q (by simp))
  | bl j=>cases ry;exact PySem.EqMixed.ne_str_bool (ycH I q (by simp))
  | int j=>obtain ⟨t',rfl⟩:=ry;exact PySem.EqMixed.ne_str_int (ycH I q (by simp))
  | str j=>obtain ⟨t',rfl⟩:=ry;exact ne_str (ycH I q (congrArg not yyX))
  | _=>exact absurd (show false=true from hs) Bool.false_ne_true
 | byt i =>
  obtain ⟨t,rfl⟩:=rx
  cases y with
  | byt j=>obtain ⟨t',rfl⟩:=ry;exact PySem.W.ne_bytes (ycH I q (congrArg not yyY))
  | _=>exact absurd (show false=true from hs) Bool.false_ne_true
 | _=>cases y<;>exact absurd (show false=true from hs) Bool.false_ne_true
theorem yxw:OpR X (compareOp .Lt) (rI0 fun i j=>.bl (decide (i<j))):=yJU fun _ _ _ _ _ _ _ q=>lt_int q
theorem yBx:OpR X (compareOp .LtE) (rI0 fun i j=>.bl (decide (i<=j))):=yJU fun _ _ _ _ _ _ _ q=>le_int q
theorem yuZ:OpR X (compareOp .Gt) (rI0 fun i j=>.bl (decide (j<i))):=yJU fun _ _ _ _ _ _ _ q=>gt_int q
theorem yyZ:OpR X (compareOp .In) (fun x y H Q=>∃ i j,x=.str i/\y=.str j/\Q (.bl (!(Builtin.Str.occurrences j i 0 j.length 1).isEmpty)) H):=by
 intro pins s σ H x y v u Q I rx ry h
 obtain ⟨i,j,rfl,rfl,q⟩:=h
 obtain ⟨t,rfl⟩:=rx
 obtain ⟨t',rfl⟩:=ry
 exact in_str (ycH I q rfl)
theorem ywy:OpR X (compareOp .Is) (fun x y H Q=>y=.non/\Q (.bl (decide (x=.non))) H):=by
 intro pins s σ H x y v u Q I rx ry h
 obtain ⟨rfl,q⟩:=h
 cases ry
 refine is_none_gen (ycH I q ?_)
 cases x<;>first
  | (cases rx;rfl)
  | (obtain ⟨t,rfl⟩:=rx;rfl)
theorem yza:OpR X (compareOp .IsNot) (fun x y H Q=>y=.non/\Q (.bl (!decide (x=.non))) H):=by
 intro pins s σ H x y v u Q I rx ry h
 obtain ⟨rfl,q⟩:=h
 cases ry
 refine isnot_none_gen (ycH I q ?_)
 cases x<;>first
  | (cases rx;rfl)
  | (obtain ⟨t,rfl⟩:=rx;rfl)
theorem yI (b:Expr) {op:CmpOp}(h:op≠.In:=by decide) (h2:op≠.NotIn:=by decide):behindInMarks op b=false:=by
 have e1:(op == CmpOp.In)=false:=by cases op<;>first|rfl|exact absurd rfl h
 have e2:(op == CmpOp.NotIn)=false:=by cases op<;>first|rfl|exact absurd rfl h2
 cases b<;>simp [behindInMarks,e1,e2]
theorem yEn {op:CmpOp}{r:R2}(ho:OpR X (compareOp op) r) (ha:PE X a ta) (hb:PE X b tb) (hm:behindInMarks op b=false):PE X (.Compare a [op] [b] pos) (tOp r ta tb):=by
 intro pins s σ H Q I h
 exact wpAny_Compare1 (yJS ha hb I h fun v u s2 x y H2 I2 rx ry q=>ho pins s2 σ H2 x y v u Q I2 rx ry q) hm
def yEo (t:TE):TT:=fun σ H Q=>t σ H fun x H'=>∃ k,x=.bl k/\Q k H'
theorem yEp {op:CmpOp}{r:R2}(ho:OpR X (compareOp op) r) (ha:PE X a ta) (hb:PE X b tb) (hm:behindInMarks op b=false):PT X (.Compare a [op] [b] pos) (yEo (tOp r ta tb)):=by
 intro pins s σ H Q I h
 refine wpAny_isTrue_Compare1 (thn (ha pins s σ H _ I h) fun v s1 ⟨x,H1,I1,r1,q1⟩=>thn (hb pins s1 σ H1 _ I1 q1) fun u s2 ⟨y,H2,I2,r2,q2⟩ =>
  thn (ho pins s2 σ H2 x y v u _ I2 r1 r2 q2) fun c s3 ⟨z,H3,I3,r3,k,e,q3⟩=>?_) hm
 subst e
 cases r3
 exact wpAny_truthy_bool ⟨H3,I3,q3⟩
noncomputable def yzb (r r':R2) (ta tb tc:TE):TE:=fun σ H Q=>ta σ H fun x H1=>tb σ H1 fun y H2=>r x y H2 fun z H3=>∃ k,z=.bl k /\
 (if k=true then tc σ H3 fun w' H4=>r' y w' H4 Q else Q (.bl false) H3)
theorem yBy {op op':CmpOp}{r r':R2}(ho:OpR X (compareOp op) r) (ho':OpR X (compareOp op') r') (ha:PE X a ta) (hb:PE X b tb) (hc:PE X c tc)
  (hm:lastMarks [op,op'] [b,c]=false:=by with_unfolding_all rfl):PE X (.Compare a [op,op'] [b,c] pos) (yzb r r' ta tb tc):=by
 intro pins s σ H Q I h
 refine Compare_chain (thn (ha pins s σ H _ I h) fun v s1 ⟨x,H1,I1,r1,q1⟩=>chain_link (thn (hb pins s1 σ H1 _ I1 q1) fun u s2 ⟨y,H2,I2,r2,q2⟩ =>
  thn (ho pins s2 σ H2 x y v u _ I2 r1 r2 q2) fun d s3 ⟨z,H3,I3,r3,k,e,q3⟩=>?_)) hm
 subst e
 cases r3
 refine wpAny_truthy_bool ?_
 cases k with
 | false=>exact ite_ff ⟨.bl false,H3,I3,rfl,q3⟩
 | true=>exact ite_tt (chain_last (thn (hc pins s3 σ H3 _ I3 q3) fun w' s4 ⟨z',H4,I4,r4,q4⟩=>ho' pins s4 σ H4 y z' u w' Q I4 r2 r4 q4))
theorem yBz {op op':CmpOp}{r r':R2}(ho:OpR X (compareOp op) r) (ho':OpR X (compareOp op') r') (ha:PE X a ta) (hb:PE X b tb) (hc:PE X c tc)
  (hm:lastMarks [op,op'] [b,c]=false:=by with_unfolding_all rfl):PT X (.Compare a [op,op'] [b,c] pos) (yEo (yzb r r' ta tb tc)):=by
 intro pins s σ H Q I h
 refine isTrue_chain (thn (ha pins s σ H _ I h) fun v s1 ⟨x,H1,I1,r1,q1⟩=>test_link (thn (hb pins s1 σ H1 _ I1 q1) fun u s2 ⟨y,H2,I2,r2,q2⟩ =>
  thn (ho pins s2 σ H2 x y v u _ I2 r1 r2 q2) fun d s3 ⟨z,H3,I3,r3,k,e,q3⟩=>?_)) hm
 subst e
 cases r3
 refine wpAny_truthy_bool ?_
 cases k with
 | false =>
  obtain ⟨k',e',q'⟩:=q3
  cases e'
  exact ite_ff ⟨H3,I3,q'⟩
 | true =>
  refine ite_tt (test_last (thn (hc pins s3 σ H3 _ I3 q3) fun w' s4 ⟨z',H4,I4,r4,q4⟩=>thn (ho' pins s4 σ H4 y z' u w' _ I4 r2 r4 q4) fun d' s5 ⟨z2,H5,I5,r5,k2,e2,q5⟩=>?_))
  subst e2
  cases r5
  exact wpAny_truthy_bool ⟨H5,I5,q5⟩
theorem yte:(sizeLine:Nat)<2 ^ 63:=by rw [sizeLine_eq];decide
theorem ydO:OpR X (binaryOp .Add) (fun x y H Q=>∃ i j,x=.str i/\y=.str j/\i.length+j.length<=sizeLine/\Q (.str (i++j)) H):=by
 intro pins s σ H x y v u Q I rx ry h
 obtain ⟨i,j,rfl,rfl,hz,q⟩:=h
 obtain ⟨t,rfl⟩:=rx
 obtain ⟨t',rfl⟩:=ry
 exact add_str (fun t' tk=>⟨.str (i++j),H,I.tok _,⟨_,rfl⟩,q⟩) hz
theorem vals1 {x:V}{us:List Value}(r:Vals [x] us):∃ u,us=[u]/\RelV x u:=by
 cases r with
 | cons r1 r2=>cases r2;exact ⟨_,rfl,r1⟩
theorem vals2 {x y:V}{us:List Value}(r:Vals [x,y] us):∃ u w',us=[u,w']/\RelV x u/\RelV y w':=by
 cases r with
 | cons r1 r2 =>
  cases r2 with
  | cons r3 r4=>cases r4;exact ⟨_,_,rfl,r1,r3⟩
theorem yng (hc:X.calm=true):CallR X (.builtin "max") (fun xs H Q=>∃ i j,xs=[.int i,.int j]/\Q (.int (if j>i then j else i)) H):=by
 intro pins s σ H xs us Q I r h
 obtain ⟨i,j,rfl,q⟩:=h
 obtain ⟨u,w',rfl,⟨t,rfl⟩,⟨t',rfl⟩⟩:=vals2 r
 refine max_two_ints (I.ok.hd hc) fun h' tk k=>⟨_,H,I.kept k,?_,q⟩
 by_cases hj:j>i
 .rw [if_pos hj,if_pos hj];exact ⟨_,rfl⟩
 .rw [if_neg hj,if_neg hj];exact ⟨_,rfl⟩
theorem ytf:CallR X (.type "int") (fun xs H Q=>(∃ i,xs=[.int i]/\Q (.int i) H)\/∃ k,xs=[.bl k]/\Q (.int (if k then 1 else 0)) H):=by
 intro pins s σ H xs us Q I r h
 rcases h with ⟨i,rfl,q⟩|⟨k,rfl,q⟩
 .obtain ⟨u,rfl,t,rfl⟩:=vals1 r
  exact call_int_int ⟨.int i,H,I,⟨_,rfl⟩,q⟩
 .obtain ⟨u,rfl,r1⟩:=vals1 r
  cases r1
  exact call_int_bool ⟨.int (if k then 1 else 0),H,I.tok _,⟨_,rfl⟩,q⟩
theorem call_str_int:CallR X (.type "str") (fun xs H Q=>∃ i,xs=[.int i]/\i.natAbs.log2<1920/\Q (.str (toString i)) H):=by
 intro pins s σ H xs us Q I r h
 obtain ⟨i,rfl,hz,q⟩:=h
 obtain ⟨u,rfl,t,rfl⟩:=vals1 r
 exact PySem.P.str_of_int hz ⟨.str _,H,I.tok _,⟨_,rfl⟩,q⟩
end
end L2
namespace L2
open PySem PySem.Spec PyProof.Rows
structure ObjM (h:Heap) (x dx C:Addr) (mA:Str->Option Value):Prop where
 obj:h.get? x=some (instObj C dx)
 ns:h.Ns1 dx mA
 ne:dx≠x
theorem yzc {h:Heap}{dx:Addr}{mA:Str->Option Value}(n:h.Ns1 dx mA):∃ od,h.get? dx=some od/\∀ name,PySem.W.lookIn name od=some (mA name):=by
 obtain ⟨o,es,ep,ho,hd,hk,_,hm⟩:=n
 refine ⟨o,ho,fun name=>?_⟩
 have e:=hm name
 unfold nsFind findBy at e
 rw [<- Array.find?_toList] at e
 unfold PySem.W.lookIn
 rw [hd]
 dsimp only
 split
 .rename_i y q
  rw [q] at e
  exact congrArg some e
 .rename_i q
  rw [q] at e
  have a:es.toList.any (·.refKey)=false:=by
   rw [List.any_eq_false]
   intro y hy
   obtain ⟨z,t,hkey⟩:=hk y (Array.mem_toList_iff.mp hy)
   simp [DictEntry.refKey,hkey]
  have a':¬ es.toList.any (·.refKey)=true:=by rw [a];exact Bool.false_ne_true
  rw [if_neg a']
  exact congrArg some e
theorem ObjM.look {h:Heap}{x dx C:Addr}{mA:Str->Option Value}(I:ObjM h x dx C mA):∃ od,PySem.W.InstAt h x (instObj C dx) C (some od)/\∀ name,PySem.W.lookIn name od=some (mA name) :=
 let ⟨od,ho,hl⟩:=yzc I.ns
 ⟨od,⟨I.obj,rfl,rfl,ho⟩,hl⟩
section
variable {prog:Program}{w:World}{A:Around}{E:Value->Shared->Prop}{s:Shared}{K:PySem.W.Frag}{x dx C f:Addr}{mA:Str->Option Value}{name:Str}{v:Value}
theorem yEq {expr:Bool}{Q:Value->Shared->Prop}(X:K.In s.heap) (I:ObjM s.heap x dx C mA) (hg:plainGet K C name=true) (hh:hasDictIn K C=true)
  (ha:findIn K (.ref C) name=some none) (hv:mA name=some v) (hv':PySem.W.handedIn v=true) (h:Q v { s with toks:=s.toks+1 }) :
  wpAny (model prog w) A (getAttr (.ref x) name expr) Q E s:=by
 obtain ⟨od,J,hl⟩:=I.look
 exact PySem.W.get_value X J (PySem.W.plainGet_of hg).1 (PySem.W.findObj_own hh ha rfl (by rw [hl,hv])) hv' h
theorem yBA {pl:Sem Bool}{Q:Value×List Value->Shared->Prop}(X:K.In s.heap) (I:ObjM s.heap x dx C mA) (hg:plainGet K C name=true)
  (hf:findIn K (.ref C) name=some (some (.ref f))) (ht:isFn K (.ref f)=true) (hv:mA name=none) (h:Q (.ref f,[.ref x]) s) :
  wpAny (model prog w) A (getMethod (.ref x) name pl) Q E s:=by
 obtain ⟨od,J,hl⟩:=I.look
 exact PySem.W.method_fn X J (PySem.W.plainGet_of hg).1 (PySem.W.plainGet_of hg).2 hf (beq_iff_eq.mp ht) (by show (PySem.W.lookIn name od).map (·.isSome)=some false;rw [hl,hv];rfl) h
theorem yEr {ns:List Str}{Q:Unit->Shared->Prop}(X:K.In s.heap) (I:ObjM s.heap x dx C mA)
  (hs:findIn K (.ref C) "__setattr__" = some (some (.builtin "object.__setattr__"))) (hp:plainOver K C=true) (ht:PySem.W.takerIn K C name=some none) (hh:hasDictIn K C=true)
  (hw:PySem.Within mA ns) (hsz:ns.length<=sizeLine)
  (h:∀ h',ObjM h' x dx C (fun y=>if y=name then some v else mA y)->Heap.SameBut dx s.heap h'->Q () { s with heap:=h',toks:=s.toks+2 }) :
  wpAny (model prog w) A (setAttr (.ref x) name v) Q E s:=by
 obtain ⟨od,J,hl⟩:=I.look
 refine PySem.W.set_plain X J hs (PySem.W.osa_open (s:={ s with toks:=s.toks+1 }) (r:=none) X J hp ht fun b=>?_)
 obtain ⟨cd,hc,hd'⟩:=PySem.W.any_some hh
 have hx:s.heap.get? x=some ⟨.ref C,some dx,.plain,#[]⟩:=I.obj
 refine wpAny_bind (wpAny_pure (wpAny_bind (wpAny_bind (wpAny_loadPart hx (wpAny_bind (PySem.W.Looks.here (s:={ s with toks:=s.toks+1 }) (PySem.W.looks_clsIn X hc) ?_))))))
 rw [hd']
 refine wpAny_pure (a:=some dx) (wpAny_bind (wpAny_pure (wpAny_bind ?_)))
 refine wpAny_nsSet1 (s:={ s with toks:=s.toks+1 }) I.ns fun h' hn2 hs2=>?_
 obtain ⟨oD,esD,epD,hoD,hdD,hcD⟩:=hn2.count (PySem.Within.cons name v hw)
 refine wpAny_bind (wpAny_lookBehind hoD (by rw [hdD];exact pastItsLine_dict (Nat.le_trans hcD (by rw [List.length_cons];omega))) ?_)
 exact wpAny_pure (h _ ⟨(hs2.2 _ (Ne.symm I.ne)).trans I.obj,hn2,I.ne⟩ hs2)
theorem yBB {R:Result->Shared->Prop}{vs:List Value}{kw:List (Str×Value)}(X:K.In s.heap) (hm:makesIn K C=true)
  (hi:findIn K (.ref C) "__init__" = some (some (.ref f))) (hf:typeIn K (.ref f)=some (.type "function"))
  (h:codeAny (model prog w) (A.under (.builtin "type.__call__" ⟨.ref C::vs,kw⟩)) (.call (.ref f) ⟨.ref (s.heap.objs.size+1)::vs,kw⟩) (PySem.W.InitBack (s.heap.objs.size+1) R)
   { s with heap:=(s.heap.push emptyDict).push (instObj C s.heap.objs.size) }) :
  codeAny (model prog w) A (.call (.ref C) ⟨vs,kw⟩) R s:=by
 obtain ⟨hh,g,d,t,os⟩:=s
 exact PySem.W.make_core (PySem.W.makes_of X hm) (PySem.W.looks_findIn X hi) (fun self=>PySem.W.bind_fn X self hf) (.inl rfl) h
end
def yrr (f:Str) (v:V):List (Str×V)->List (Str×V)
 | []=>[(f,v)]
 | (g,x)::r=>if g=f then (g,v)::r else (g,x)::yrr f v r
theorem ypu (f g:Str) (v:V):∀ fs:List (Str×V),(yrr f v fs).lookup g=if g=f then some v else fs.lookup g
 | []=>by
  show List.lookup g [(f,v)]=_
  by_cases h:g=f
  .have hb:(g == f)=true:=beq_iff_eq.mpr h
   simp only [List.lookup,hb,if_pos h]
  .have hb:(g == f)=false:=beq_eq_false_iff_ne.mpr h
   simp only [List.lookup,hb,if_neg h]
 | (k,x)::r=>by
  have ih:=ypu f g v r
  rw [show yrr f v ((k,x)::r)=(if k=f then (k,v)::r else (k,x)::yrr f v r) from rfl]
  by_cases hk:k=f
  .rw [if_pos hk]
   by_cases h:g=k
   .have hb:(g == k)=true:=beq_iff_eq.mpr h
    simp only [List.lookup,hb,if_pos (h.trans hk)]
   .have hb:(g == k)=false:=beq_eq_false_iff_ne.mpr h
    simp only [List.lookup,hb,if_neg (fun e:g=f=>h (e.trans hk.symm))]
  .rw [if_neg hk]
   by_cases h:g=k
   .have hb:(g == k)=true:=beq_iff_eq.mpr h
    simp only [List.lookup,hb,if_neg (fun e:g=f=>hk (h.symm.trans e))]
   .have hb:(g == k)=false:=beq_eq_false_iff_ne.mpr h
    simp only [List.lookup,hb]
    exact ih
theorem ypv (f:Str) (v:V):∀ fs:List (Str×V),f∈(yrr f v fs).map (·.1)/\∀ g,g∈fs.map (·.1)->g∈(yrr f v fs).map (·.1)
 | []=>⟨by simp [yrr],fun g h=>by simp at h⟩
 | (k,x)::r=>by
  obtain ⟨i1,i2⟩:=ypv f v r
  rw [show yrr f v ((k,x)::r)=(if k=f then (k,v)::r else (k,x)::yrr f v r) from rfl]
  by_cases hk:k=f
  .rw [if_pos hk]
   subst hk
   exact ⟨by simp,fun g h=>by simpa using h⟩
  .rw [if_neg hk]
   refine ⟨?_,fun g h=>?_⟩
   .rw [List.map_cons]
    exact List.mem_cons_of_mem _ i1
   .rw [List.map_cons] at h ⊢
    rcases List.mem_cons.mp h with e|e
    .exact List.mem_cons.mpr (.inl e)
    .exact List.mem_cons_of_mem _ (i2 g e)
theorem ypw (f:Str) (v:V):∀ fs:List (Str×V),(yrr f v fs).length<=fs.length+1
 | []=>by simp [yrr]
 | (k,x)::r=>by
  have ih:=ypw f v r
  rw [show yrr f v ((k,x)::r)=(if k=f then (k,v)::r else (k,x)::yrr f v r) from rfl]
  by_cases hk:k=f
  .rw [if_pos hk,List.length_cons,List.length_cons];omega
  .rw [if_neg hk,List.length_cons,List.length_cons];omega
theorem RelO.some_of {v:V}{o:Option Value}(r:RelO (some v) o):∃ u,o=some u/\RelV v u:=by
 cases o with
 | none=>exact (show False from r).elim
 | some u=>exact ⟨u,rfl,r⟩
theorem RelO.none_of {o:Option Value}(r:RelO none o):o=none:=by
 cases o with
 | none=>rfl
 | some u=>exact (show False from r).elim
theorem yzd {v:V}{u:Value}(r:RelV v u):PySem.W.handedIn u=true:=by
 cases v with
 | non=>cases (show u=Value.none from r);rfl
 | bl b=>cases (show u=Value.bool b from r);rfl
 | int i=>obtain ⟨t,e⟩:=(show ∃ t,u=Value.int i t from r);cases e;rfl
 | str x=>obtain ⟨t,e⟩:=(show ∃ t,u=Value.str x t from r);cases e;rfl
 | byt b=>obtain ⟨t,e⟩:=(show ∃ t,u=Value.bytes b t from r);cases e;rfl
 | flt b=>obtain ⟨t,e⟩:=(show ∃ t,u=Value.float b t from r);cases e;rfl
 | ref a=>cases (show u=Value.ref a from r);rfl
 | ty n=>cases (show u=Value.type n from r);rfl
section
variable {P:Program}{w:World}{H H':Hp}{h h':Heap}{a C dx:Addr}{fs fs':List (Str×V)}
theorem yrT (hok:HOk P w H h) (e:H a=some (.ins C dx fs)):∃ mA,ObjM h a dx C mA/\(∀ f,RelO (fs.lookup f) (mA f))/\PySem.Within mA (fs.map (·.1))/\fs.length<=1000/\H dx=some (.own a):=by
 obtain ⟨d,z,ne,ob,mA,n,r,q⟩:=(show ObjOk P w H h a (.ins C dx fs) from hok a _ e)
 exact ⟨mA,⟨ob,n,ne⟩,r,q,z,d⟩
end
structure Cls (K:PySem.W.Frag) (C:Addr):Prop where
 pg:plainGet K C Str.empty=true
 hd:hasDictIn K C=true
 po:plainOver K C=true
 sa:findIn K (.ref C) "__setattr__" = some (some (.builtin "object.__setattr__"))
theorem Cls.get {K:PySem.W.Frag}{C:Addr}(c:Cls K C) (f:Str):plainGet K C f=true:=c.pg
def NoAttr (K:PySem.W.Frag) (C:Addr) (f:Str):Prop:=findIn K (.ref C) f=some none
theorem NoAttr.taker {K:PySem.W.Frag}{C:Addr}{f:Str}(n:NoAttr K C f):PySem.W.takerIn K C f=some none:=by
 unfold PySem.W.takerIn
 rw [show findIn K (.ref C) f=some none from n]
 rfl
structure ykV (K:PySem.W.Frag) (C:Addr) (m:Str) (f:Addr):Prop where
 at_:findIn K (.ref C) m=some (some (.ref f))
 fn:isFn K (.ref f)=true
 kp:keepIn K (.ref f)=true
section
variable {X:Cx}{pins:List (Addr×Obj)}{σ:St}{H:Hp}{s:Shared}{a C dx:Addr}{fs:List (Str×V)}{f:Str}{v:V}{A:Around}{E:Value->Shared->Prop}
theorem yxx {b:Bool}{Q:Value->Shared->Prop}(I:Inv X pins σ H s) (e:H a=some (.ins C dx fs)) (c:Cls X.K C) (n:NoAttr X.K C f) (l:fs.lookup f=some v)
  (h:∀ u s',Inv X pins σ H s'->RelV v u->Q u s'):wpAny (model X.prog X.w) A (getAttr (.ref a) f b) Q E s:=by
 obtain ⟨mA,O,r,_,_,_⟩:=yrT I.hok e
 obtain ⟨u,hu,ru⟩:=RelO.some_of (v:=v) (o:=mA f) (by rw [<- l];exact r f)
 exact yEq I.kIn O (c.get f) c.hd n hu (yzd ru) (h u _ (I.tok _) ru)
theorem ynX {m:Str}{g:Addr}{pl:Sem Bool}{Q:Value×List Value->Shared->Prop}(I:Inv X pins σ H s) (e:H a=some (.ins C dx fs)) (c:Cls X.K C) (k:ykV X.K C m g) (l:fs.lookup m=none)
  (h:Q (.ref g,[.ref a]) s):wpAny (model X.prog X.w) A (getMethod (.ref a) m pl) Q E s:=by
 obtain ⟨mA,O,r,_,_,_⟩:=yrT I.hok e
 have hn:mA m=none:=RelO.none_of (by rw [<- l];exact r m)
 exact yBA I.kIn O (c.get m) k.at_ k.fn hn h
theorem yxy {y:V}{u:Value}{Q:Unit->Shared->Prop}(I:Inv X pins σ H s) (e:H a=some (.ins C dx fs)) (c:Cls X.K C) (n:NoAttr X.K C f) (hl:fs.length<1000) (ry:RelV y u)
  (h:∀ s',Inv X pins σ (upd H a (.ins C dx (yrr f y fs))) s'->Q () s'):wpAny (model X.prog X.w) A (setAttr (.ref a) f u) Q E s:=by
 obtain ⟨mA,O,r,wi,_,ho⟩:=yrT I.hok e
 have hz:(fs.map (·.1)).length<=sizeLine:=by rw [List.length_map,sizeLine_eq];omega
 refine yEr I.kIn O c.sa c.po n.taker c.hd wi hz fun h' O' sb=>h _ ?_
 have hd:∃ o,h'.get? dx=some o:=let ⟨o,_,_,e',_⟩:=O'.ns;⟨o,e'⟩
 refine I.write (x:=a) (e:=dx) (by rw [e];exact True.intro) (.inr ho) (fun b q hb z=>(sb.2 b hb).trans z) hd ?_
 refine ⟨by rw [ybV O.ne];exact ho,?_,O.ne,O'.obj,_,O'.ns,fun g=>?_,fun g hg=>?_⟩
 .have:=ypw f y fs;omega
 .show RelO ((yrr f y fs).lookup g) (if g=f then some u else mA g)
  rw [ypu]
  by_cases q:g=f
  .rw [if_pos q,if_pos q];exact ry
  .rw [if_neg q,if_neg q];exact r g
 .by_cases q:g=f
  .rw [q];exact (ypv f y fs).1
  .refine (ypv f y fs).2 g (wi g fun z=>hg ?_)
   show (if g=f then some u else mA g)=none
   rw [if_neg q];exact z
theorem Inv.made (I:Inv X pins σ H s):Inv X pins σ (upd (upd H s.heap.objs.size (.own (s.heap.objs.size+1))) (s.heap.objs.size+1) (.ins C s.heap.objs.size []))
  { s with heap:=(s.heap.push emptyDict).push (instObj C s.heap.objs.size) }:=by
 have e1:(s.heap.push emptyDict).get? s.heap.objs.size=some emptyDict:=Heap.get?_push_size s.heap rfl
 have e2:((s.heap.push emptyDict).push (instObj C s.heap.objs.size)).get? (s.heap.objs.size+1)=some (instObj C s.heap.objs.size):=by
  have:=Heap.get?_push_size (s.heap.push emptyDict) (o:=instObj C s.heap.objs.size) rfl
  rwa [Heap.size_push] at this
 have e3:(s.heap.push emptyDict).Ns s.heap.objs.size (fun _=>none):=⟨emptyDict,#[],_,e1,rfl,(fun e he=>absurd he (by simp)),fun _=>rfl⟩
 have I1:=I.laid (a:=s.heap.objs.size) (o:=.own (s.heap.objs.size+1)) (h':=s.heap.push emptyDict) (t':=s.toks) (fun b u q=>Heap.get?_push_of_some _ q) (Nat.le_refl _) ⟨_,e1⟩
 refine I1.laid (a:=s.heap.objs.size+1) (o:=.ins C s.heap.objs.size []) (t':=s.toks) (fun b u q=>Heap.get?_push_of_some _ q) (Nat.le_of_eq (Heap.size_push _ _)) ?_
 have ne:s.heap.objs.size≠s.heap.objs.size+1:=Nat.ne_of_lt (Nat.lt_succ_self _)
 refine ⟨by rw [ybV ne,ybX],Nat.zero_le _,ne,e2,fun _=>none,(Heap.Ns1.of_empty e3).at fun o q=>Heap.get?_push_of_some _ q,fun _=>True.intro,fun y hy=>absurd rfl hy⟩
theorem yEs {prog:Program}{w:World}{env:Env}{e:Expr}{f:Str}{pos:Pos}{s:Shared}{Q:Value->Shared->Prop}(hb:attributeBase e f env (eval e env)=eval e env)
  (h:wpAny (model prog w) A (eval e env) (fun o s₁=>wpAny (model prog w) A (getAttr o f true) Q E s₁) E s):wpAny (model prog w) A (eval (.Attribute e f pos) env) Q E s :=
 Attribute_any_ h (by rw [arm_eval_Attribute,hb])
end
noncomputable def yMg (K:PySem.W.Frag) (ta:TE) (f:Str):TE:=fun σ H Q=>ta σ H fun x H1=>∃ a C dx fs v,x=.ref a/\H1 a=some (.ins C dx fs)/\Cls K C/\NoAttr K C f/\fs.lookup f=some v/\Q v H1
noncomputable def yJW (K:PySem.W.Frag) (ta tv:TE) (f:Str):TS:=fun D σ H=>tv σ H fun y H1=>ta σ H1 fun x H2=>∃ a C dx fs,x=.ref a/\H2 a=some (.ins C dx fs)/\Cls K C/\NoAttr K C f/\fs.length<1000 /\
 D.nx σ (upd H2 a (.ins C dx (yrr f y fs)))
section
variable {X:Cx}{o e value:Expr}{f:Str}{pos pos' tpos:Pos}{ta tv:TE}
theorem yGZ (he:PE X e ta) (hb:attributeBase e f X.env (eval e X.env)=eval e X.env):PE X (.Attribute e f pos) (yMg X.K ta f):=by
 intro pins s σ H Q I h
 refine yEs hb (thn (he pins s σ H _ I h) fun u s1 ⟨x,H1,I1,rx,a,C,dx,fs,v,ex,ea,c,n,l,q⟩=>?_)
 subst ex
 obtain rfl:u=Value.ref a:=rx
 exact yxx I1 ea c n l fun u' s2 I2 ru=>⟨v,H1,I2,ru,q⟩
theorem yDq (ha:PE X o ta) (hv:PE X value tv) (hs:swapsWith value (some (.Attribute o f pos')) pos.line X.env=pure false):PS X (.Assign [.Attribute o f pos'] value pos) (yJW X.K ta tv f):=by
 intro pins s σ H D I h
 refine plainObj_wpAny_Assign_Attribute (thn (hv pins s σ H _ I h) fun u s1 ⟨y,H1,I1,ry,q⟩=>thn (ha pins s1 σ H1 _ I1 q) fun ov s2 ⟨x,H2,I2,rx,a,C,dx,fs,ex,ea,c,n,l,q2⟩=>?_) hs
 subst ex
 obtain rfl:ov=Value.ref a:=rx
 exact yxy I2 ea c n l ry fun s3 I3=>⟨σ,_,I3,q2⟩
end
section
variable {X:Cx}{pins:List (Addr×Obj)}{σ:St}{H:Hp}{s:Shared}{A:Around}{E:Value->Shared->Prop}{Q:Value->Shared->Prop}{c:Value}{b:Bool}
inductive ypn (K:PySem.W.Frag) (H:Hp):V->Value->Prop where
 | non:ypn K H .non (.type "NoneType")
 | bl (x:Bool):ypn K H (.bl x) (.type "bool")
 | int (i:Int):ypn K H (.int i) (.type "int")
 | str (x:Str):ypn K H (.str x) (.type "str")
 | flt (x:UInt64):ypn K H (.flt x) (.type "float")
 | lst {a:Addr}{xs:List V}(e:H a=some (.lst xs)):ypn K H (.ref a) (.type "list")
 | frz {a:Addr}{o:Obj}{xs:List V}(e:H a=some (.frz o (.lst xs))):ypn K H (.ref a) (.type "list")
 | tup {a:Addr}{xs:List V}(e:H a=some (.tup xs)):ypn K H (.ref a) (.type "tuple")
 | kt {a:Addr}{o:Obj}(e:K.lookup a=some o) (c:o.cls=.type "tuple"):ypn K H (.ref a) (.type "tuple")
 | dK {a:Addr}{kvs:List (Key×V)}(e:H a=some (.dK kvs)):ypn K H (.ref a) (.type "dict")
 | dT {a:Addr}{kvs:List (List Key×V)}(e:H a=some (.dT kvs)):ypn K H (.ref a) (.type "dict")
 | ins {a C dx:Addr}{fs:List (Str×V)}(e:H a=some (.ins C dx fs)) (cl:Cls K C) (ha:findIn K (.ref C) "__class__" = some (some (.builtin "object.__class__")))
   (hn:PySem.W.specialIn K (.builtin "object.__class__") "__get__" = some (some (.builtin "getset_descriptor.__get__"))) (htk:PySem.W.takesIn K (.builtin "object.__class__")=some true)
   (hm:mroIn K C (.type "object")=some true):ypn K H (.ref a) (.ref C)
theorem yze {x:V}{u t:Value}(I:Inv X pins σ H s) (rx:RelV x u) (ty:ypn X.K H x t) (e:PySem.W.kitOne X.K t c=some b) (h:∀ tk,Q (.bool b) { s with toks:=tk }) :
  wpAny (model X.prog X.w) A (call (.builtin "isinstance") [u,c]) Q E s:=by
 cases ty with
 | non=>cases (show u=Value.none from rx);exact kia_one PySem.W.kitx_none I.kIn True.intro e (fun z=>nomatch z) h
 | bl y=>cases (show u=Value.bool y from rx);exact kia_one PySem.W.kitx_bool I.kIn True.intro e (fun z=>nomatch z) h
 | int i=>obtain ⟨t,q⟩:=(show ∃ t,u=Value.int i t from rx);cases q;exact kia_one PySem.W.kitx_int I.kIn True.intro e (fun z=>nomatch z) h
 | str y=>obtain ⟨t,q⟩:=(show ∃ t,u=Value.str y t from rx);cases q;exact kia_one PySem.W.kitx_str I.kIn True.intro e (fun z=>nomatch z) h
 | flt y=>obtain ⟨t,q⟩:=(show ∃ t,u=Value.float y t from rx);cases q;exact kia_one PySem.W.kitx_float I.kIn True.intro e (fun z=>nomatch z) h
 | @lst a xs ea =>
  cases (show u=Value.ref a from rx)
  obtain ⟨_,_,n,_,h1⟩:=(show ObjOk X.prog X.w H s.heap a (.lst xs) from I.hok a _ ea)
  exact kia_one PySem.W.kitx_list I.kIn ⟨_,h1,rfl⟩ e (fun z=>nomatch z) h
 | @frz a ob xs ea =>
  cases (show u=Value.ref a from rx)
  obtain ⟨_,_,_,n,_,h1⟩:=(show ObjOk X.prog X.w H s.heap a (.frz ob (.lst xs)) from I.hok a _ ea)
  exact kia_one PySem.W.kitx_list I.kIn ⟨_,h1,rfl⟩ e (fun z=>nomatch z) h
 | @tup a xs ea =>
  cases (show u=Value.ref a from rx)
  obtain ⟨_,_,_,p⟩:=(show ObjOk X.prog X.w H s.heap a (.tup xs) from I.hok a _ ea)
  obtain ⟨o,h1,h2,_⟩:=p
  exact kia_one PySem.W.kitx_tuple I.kIn ⟨o,h1,h2⟩ e (fun z=>nomatch z) h
 | @kt a ob ek ck =>
  cases (show u=Value.ref a from rx)
  exact kia_one PySem.W.kitx_tuple I.kIn ⟨ob,I.kIn a ob ek,ck⟩ e (fun z=>nomatch z) h
 | @dK a kvs ea =>
  cases (show u=Value.ref a from rx)
  obtain ⟨_,_,vs,_,p⟩:=(show ObjOk X.prog X.w H s.heap a (.dK kvs) from I.hok a _ ea)
  obtain ⟨o,es,ep,h1,h2,_⟩:=p
  exact kia_one PySem.W.kitx_dict I.kIn ⟨o,h1,h2.1⟩ e (fun z=>nomatch z) h
 | @dT a kvs ea =>
  cases (show u=Value.ref a from rx)
  obtain ⟨_,_,xs,_,o,es,ep,h1,h2,_⟩:=(show ObjOk X.prog X.w H s.heap a (.dT kvs) from I.hok a _ ea)
  exact kia_one PySem.W.kitx_dict I.kIn ⟨o,h1,h2.1⟩ e (fun z=>nomatch z) h
 | @ins a C dx fs ea cl ha hn htk hm =>
  cases (show u=Value.ref a from rx)
  obtain ⟨mA,O,_⟩:=yrT I.hok ea
  obtain ⟨od,J,_⟩:=O.look
  exact kia_one (PySem.W.kitx_own (cl.get _) cl.hd ha hn htk hm) I.kIn J e (fun z=>nomatch z) h
end
end L2
namespace L2
open PySem PySem.Spec PyProof.Rows
structure Room (k:Nat) (A:Around):Prop where
 hd:A.handled=none
 dp:A.depth+3*k+5<recursionLimit
 un:A.units+16*k+200<cLine
theorem Room.mono {j k:Nat}{A:Around}(r:Room k A) (h:j<=k):Room j A:=⟨r.hd,by have:=r.dp;omega,by have:=r.un;omega⟩
theorem Room.deeper {k:Nat}{A:Around}(r:Room (k+1) A) (env:Env):Room k (A.deeper env) :=
 ⟨r.hd,by have:=r.dp;show A.depth+1+3*k+5<_;omega,by have:=r.un;show A.units+3+16*k+200<_;omega⟩
theorem yxz {A:Around}{C:Addr}{us:List Value}{kw:List (Str×Value)}:(A.under (.builtin "type.__call__" ⟨.ref C::us,kw⟩)).depth=A.depth+1:=by
 first|rfl|simp [Around.under,Code.weight,Code.isCreation,Code.isGuard,Code.isCaller,Code.frames,Code.isFrame,guardIds]
theorem yxA {A:Around}{C:Addr}{us:List Value}{kw:List (Str×Value)}:(A.under (.builtin "type.__call__" ⟨.ref C::us,kw⟩)).units=A.units+1:=by
 first|rfl|simp [Around.under,Code.cUnits,Code.frames,Code.isFrame]
theorem Room.make {k:Nat}{A:Around}(r:Room (k+1) A) (C:Addr) (us:List Value) (kw:List (Str×Value)):Room k (A.under (.builtin "type.__call__" ⟨.ref C::us,kw⟩)) :=
 ⟨r.hd,by have:=r.dp;rw [yxz];omega,by have:=r.un;rw [yxA];omega⟩
theorem Room.depth {k:Nat}{A:Around}(r:Room k A):A.depth<recursionLimit:=by have:=r.dp;omega
def yHa:TA:=fun _ H Q=>Q [] H
def yEt (ta:TE) (tr:TA):TA:=fun σ H Q=>ta σ H fun x H1=>tr σ H1 fun xs H2=>Q (x::xs) H2
section
variable {X:Cx}{e:Expr}{es:List Expr}{te:TE}{t:TA}{pos:Pos}
theorem yDr:PA X [] yHa:=fun _ _ _ _ H Q I h=>Calls.spliced_nil ⟨[],H,I,.nil,h⟩
theorem yzf (ha:PE X e te) (hr:PA X es t) (hs:starEach (e::es) X.env=(false,eval e X.env)::starEach es X.env:=by rfl):PA X (e::es) (yEt te t):=by
 intro pos pins s σ H Q I h
 rw [hs]
 show wpAny _ _ (spliced ((false,eval e X.env)::backTo pos (starEach es X.env))) _ _ s
 refine Calls.spliced_cons (thn (ha pins s σ H _ I h) fun u s1 ⟨x,H1,I1,r1,q1⟩=>?_)
 exact thn (hr pos pins s1 σ H1 _ I1 q1) fun us s2 ⟨xs,H2,I2,r2,q2⟩=>⟨x::xs,H2,I2,.cons r1 r2,q2⟩
def yMh (t:TA):TE:=fun σ H Q=>t σ H fun xs H1=>xs.length<=sizeLine/\∀ p,H1 p=none->Q (.ref p) (upd H1 p (.tup xs))
def yMi (t:TA):TE:=fun σ H Q=>t σ H fun xs H1=>xs.length<=sizeLine/\∀ p,H1 p=none->Q (.ref p) (upd H1 p (.lst xs))
theorem yHb {x1} (h:PA X es t):PE X (.Tuple es x1 pos) (yMh t):=by
 intro pins s σ H Q I hq
 refine wpAny_Tuple_spliced (thn (h pos pins s σ H _ I hq) fun us s1 ⟨xs,H1,I1,r,z,q⟩=>⟨by rw [<- r.length];exact z,?_⟩)
 have hf:H1 s1.heap.objs.size=none:=I1.hok.fresh (Nat.le_refl _)
 refine ⟨.ref s1.heap.objs.size,upd H1 s1.heap.objs.size (.tup xs),I1.laid (t':=s1.toks) (fun b u e=>Heap.get?_push_of_some _ e) (Nat.le_refl _) ?_,rfl,q _ hf⟩
 exact ⟨z,us,r,⟨_,Heap.get?_push_size _ rfl,rfl,_,rfl⟩⟩
theorem yHc (h:PA X es t):PE X (.List es pos) (yMi t):=by
 intro pins s σ H Q I hq
 refine wpAny_List_spliced (thn (h pos pins s σ H _ I hq) fun us s1 ⟨xs,H1,I1,r,z,q⟩=>⟨by rw [<- r.length];exact z,?_⟩)
 have hf:H1 s1.heap.objs.size=none:=I1.hok.fresh (Nat.le_refl _)
 refine ⟨.ref s1.heap.objs.size,upd H1 s1.heap.objs.size (.lst xs),I1.laid (t':=s1.toks) (fun b u e=>Heap.get?_push_of_some _ e) (Nat.le_refl _) ?_,rfl,q _ hf⟩
 exact ⟨z,us,0,r,Heap.get?_push_size _ rfl⟩
end
abbrev Sp:=List V->Hp->VK->XK->Prop
abbrev CXT:=List Env->Hp->Shared->XK->Value->Shared->Prop
structure Env0 (P:Program) (w:World) (K:PySem.W.Frag) (mg:Str->Option Value) (base:Heap) (A:Around) (outer:List Env) (s:Shared) (H:Hp):Prop where
 frames:A.frames=some outer
 mod:Mod K mg base
 bs:∀ b o,base.get? b=some o->s.heap.get? b=some o/\H b=none
 bsz:base.objs.size<=s.heap.objs.size
 funs:s.heap.FunFrames base outer
 frf:∀ b∈frs outer,H b=none
 hok:HOk P w H s.heap
 bare:AllBare s.gens
noncomputable def CE (outer:List Env) (P:Program) (w:World) (H:Hp) (s:Shared) (Q:VK) (u:Value) (s':Shared):Prop :=
 ∃ v H',s'.os=s.os/\AllBare s'.gens/\Un (frs outer) [] H H' s.heap s'.heap/\HOk P w H' s'.heap/\RelV v u/\Q v H'
noncomputable def CR (CX:CXT) (outer:List Env) (P:Program) (w:World) (H:Hp) (s:Shared) (Q:VK) (E:XK) (r:Result) (s':Shared):Prop :=
 match r with
 | .ok (.ret u)=>CE outer P w H s Q u s'
 | .ok _=>False
 | .error e=>CX outer H s E e s'
structure FnOk (P:Program) (w:World) (K:PySem.W.Frag) (mg:Str->Option Value) (base:Heap) (CX:CXT) (k:Nat) (f:Addr) (fd:FuncData) (ps:List Str) (sp:Sp):Prop where
 len:∀ vs H Q E,sp vs H Q E->vs.length=ps.length
 run:∀ (A:Around) (outer:List Env) (s:Shared) (H:Hp) (args:Args) (us:List Value) (vs:List V) (Q:VK) (E:XK),Room k A->Env0 P w K mg base A outer s H->BindsTo s fd args (ps.zip us)->Vals vs us->sp vs H Q E ->
  codeAny (model P w) A (.call (.ref f) args) (CR CX outer P w H s Q E) s
theorem FnOk.mono {P:Program}{w:World}{K:PySem.W.Frag}{mg:Str->Option Value}{base:Heap}{CX:CXT}{j k:Nat}{f:Addr}{fd:FuncData}{ps:List Str}{sp:Sp}(F:FnOk P w K mg base CX j f fd ps sp) (h:j<=k) :
  FnOk P w K mg base CX k f fd ps sp:=⟨F.len,fun A outer s H args us vs Q E hr=>F.run A outer s H args us vs Q E (hr.mono h)⟩
theorem FnOk.imp {P:Program}{w:World}{K:PySem.W.Frag}{mg:Str->Option Value}{base:Heap}{CX:CXT}{k:Nat}{f:Addr}{fd:FuncData}{ps:List Str}{sp sp':Sp}(F:FnOk P w K mg base CX k f fd ps sp)
  (h:∀ vs H Q E,sp' vs H Q E->sp vs H Q E):FnOk P w K mg base CX k f fd ps sp' :=
 ⟨fun vs H Q E q=>F.len vs H Q E (h _ _ _ _ q),fun A outer s H args us vs Q E hr he hb hv hs=>F.run A outer s H args us vs Q E hr he hb hv (h _ _ _ _ hs)⟩
theorem Env0.make {P:Program}{w:World}{K:PySem.W.Frag}{mg:Str->Option Value}{base:Heap}{A:Around}{outer:List Env}{s:Shared}{H:Hp}(e:Env0 P w K mg base A outer s H) (C:Addr) (us:List Value) (kw:List (Str×Value)) :
  Env0 P w K mg base (A.under (.builtin "type.__call__" ⟨.ref C::us,kw⟩)) outer s H:=⟨by first|exact e.frames|(simpa [Around.under,Code.envs,Code.isFrame,pushEnvs] using e.frames),e.mod,e.bs,e.bsz,e.funs,e.frf,e.hok,e.bare⟩
section
variable {X:Cx}{pins:List (Addr×Obj)}{σ:St}{H:Hp}{s s':Shared}
theorem Inv.env0 (I:Inv X pins σ H s):Env0 X.prog X.w X.K X.mg X.base X.A X.stack s H :=
 ⟨I.ok.frames,I.ok.mod,I.bs,Nat.le_trans I.ok.bsz I.sz,I.stack,I.stkFree,I.hok,I.bare⟩
theorem Inv.after {Q:VK}{u:Value}(I:Inv X pins σ H s) (h:CE X.stack X.prog X.w H s Q u s'):EP X pins σ Q u s':=by
 obtain ⟨v,H',os,bare,un,hok,r,q⟩:=h
 obtain ⟨hh,g,d,t,os'⟩:=s'
 obtain rfl:os'=s.os:=os
 exact ⟨v,H',I.call (h':=hh) (g':=g) (d':=d) (t':=t) (ch:=[]) un hok bare (fun b z=>absurd z (by simp)),r,q⟩
end
def yEu (sp:Sp) (dvs:List V) (E:XK) (t:TA):TE:=fun σ H Q=>t σ H fun vs H1=>sp (vs++dvs) H1 Q E
noncomputable def yEv (C:Addr) (m:Str) (sp:Sp) (dvs:List V) (E:XK) (ta:TE) (t:TA):TE:=fun σ H Q=>ta σ H fun x H1=>∃ a dx fs,x=.ref a/\H1 a=some (.ins C dx fs)/\fs.lookup m=none /\
 t σ H1 fun vs H2=>sp (x::(vs++dvs)) H2 Q E
noncomputable def yHd (C:Addr) (sp:Sp) (dvs:List V) (E:XK) (t:TA):TE:=fun σ H Q=>t σ H fun vs H1=>∀ x dx,H1 x=none->H1 dx=none->dx≠x ->
 sp (.ref x::(vs++dvs)) (upd (upd H1 dx (.own x)) x (.ins C dx [])) (fun v H2=>v=.non/\Q (.ref x) H2) E
noncomputable def Binds (K:PySem.W.Frag) (fd:FuncData) (ps:List Str) (ds:List Value):Prop :=
 ∀ (s:Shared) (us:List Value),K.In s.heap->(us++ds).length=ps.length->BindsTo s fd ⟨us,[]⟩ (ps.zip (us++ds))
theorem Binds.all {K:PySem.W.Frag}{fd:FuncData}{ps:List Str}(h:∀ us:List Value,us.length=ps.length->bindArgs fd ⟨us,[]⟩=pure (ps.zip us)):Binds K fd ps []:=fun s us _ hl=>by
 rw [List.append_nil] at hl ⊢
 exact .of_eq (h us hl)
noncomputable def ypx (CX:CXT) (X:Cx) (E:XK):Prop:=∀ (pins:List (Addr×Obj)) (σ:St) (H:Hp) (s:Shared) (e:Value) (s':Shared),Inv X pins σ H s->CX X.stack H s E e s'->X.xe e s'
section
variable {X:Cx}{CX:CXT}{k:Nat}{f C:Addr}{fd:FuncData}{ps:List Str}{sp:Sp}{dvs:List V}{ds:List Value}{E:XK}{x m:Str}{p pos apos:Pos}{e o:Expr}{es:List Expr}{ta:TE}{t:TA}
theorem ywz {pins:List (Addr×Obj)}{σ:St}{H:Hp}{s:Shared}{Q:VK}{us:List Value}{vs:List V}(F:FnOk X.prog X.w X.K X.mg X.base CX k f fd ps sp) (hr:Room k X.A) (hb:Binds X.K fd ps ds) (hd:Vals dvs ds) (hx:ypx CX X E)
  (I:Inv X pins σ H s) (r:Vals vs us) (h:sp (vs++dvs) H Q E):wpAny (model X.prog X.w) X.A (call (.ref f) us) (EP X pins σ Q) X.xe s:=by
 have r2:Vals (vs++dvs) (us++ds):=r.append hd
 have hl:(us++ds).length=ps.length:=by rw [<- r2.length];exact F.len _ _ _ _ h
 refine wpAny_call (codeAny_mono (F.run X.A X.stack s H ⟨us,[]⟩ (us++ds) (vs++dvs) Q E hr I.env0 (hb s us I.kIn hl) r2 h) fun r s' hq=>?_)
 cases r with
 | error e=>exact hx pins σ H s e s' I hq
 | ok fl =>
  cases fl with
  | ret u=>exact I.after hq
  | next=>exact False.elim hq
  | brk=>exact False.elim hq
  | cont=>exact False.elim hq
theorem yzg (F:FnOk X.prog X.w X.K X.mg X.base CX k f fd ps sp) (hr:Room k X.A) (hg:Gl X x) (hm:X.mg x=some (.ref f)) (hk:keepIn X.K (.ref f)=true) (hb:Binds X.K fd ps ds) (hd:Vals dvs ds) (hx:ypx CX X E)
  (ha:PA X (e::es) t) (hdb:(x == ("__debug__":Str))=false:=by decide) (he:starEach (e::es) X.env=(false,eval e X.env)::starEach es X.env:=by rfl) (hpl:(backTo pos (starEach es X.env)).any (·.1)=false:=by rfl) :
  PE X (.Call (.Name x p) (e::es) [] pos) (yEu sp dvs E t):=by
 intro pins s σ H Q I h
 refine wpAny_Call_Name_kw (yrS I hg hm ?_ hdb)
 refine PySem.W.callWith_K (h₀:=X.base) I.ok.mod.kin hk (thn (ha pos pins s σ H _ I h) fun us s1 ⟨vs,H1,I1,r,q⟩=>⟨I1.kIn,?_⟩) he hpl
 exact ywz F hr hb hd hx I1 r q
theorem yEw {pl:Sem Bool}(he:PE X o ta) (c:Cls X.K C) (hm:ykV X.K C m f) (F:FnOk X.prog X.w X.K X.mg X.base CX k f fd ps sp) (hr:Room k X.A) (hb:Binds X.K fd ps ds) (hd:Vals dvs ds) (hx:ypx CX X E) (ha:PA X (e::es) t)
  (hst:starEach (e::es) X.env=(false,eval e X.env)::starEach es X.env:=by rfl) (hpl:(backTo pos (starEach es X.env)).any (·.1)=false:=by rfl)
  (ht:eval (.Call (.Attribute o m apos) (e::es) [] pos) X.env=(do
   let ov <- eval o X.env
   standAt apos.atName
   let (f,first) <- holding [ov] (getMethod ov m pl)
   callWith pos f first (backTo pos (starEach (e::es) X.env)) (backToKw pos (keywordEach [] X.env))):=by rfl) :
  PE X (.Call (.Attribute o m apos) (e::es) [] pos) (yEv C m sp dvs E ta t):=by
 intro pins s σ H Q I h
 refine PySem.W.methodCall_KW (pl:=pl) (thn (he pins s σ H _ I h) fun u s1 ⟨x,H1,I1,rx,a,dx,fs,ex,ea,l,q⟩=>?_) ht
 subst ex
 obtain rfl:u=Value.ref a:=rx
 refine ynX I1 ea c hm l ?_
 refine PySem.W.callWith_K (first:=[.ref a]) (h₀:=X.base) I.ok.mod.kin hm.kp (thn (ha pos pins s1 σ H1 _ I1 q) fun us s2 ⟨vs,H2,I2,r,q2⟩=>⟨I2.kIn,?_⟩) hst hpl
 exact ywz (us:=.ref a::us) (vs:=.ref a::vs) F hr hb hd hx I2 (.cons rfl r) q2
theorem yBC {pl:Sem Bool}(he:PE X o ta) (c:Cls X.K C) (hm:ykV X.K C m f) (F:FnOk X.prog X.w X.K X.mg X.base CX k f fd ps sp) (hr:Room k X.A) (hb:Binds X.K fd ps ds) (hd:Vals dvs ds) (hx:ypx CX X E)
  (ht:eval (.Call (.Attribute o m apos) [] [] pos) X.env=(do
   let ov <- eval o X.env
   standAt apos.atName
   let (f,first) <- holding [ov] (getMethod ov m pl)
   callWith pos f first (backTo pos (starEach [] X.env)) (backToKw pos (keywordEach [] X.env))):=by rfl) :
  PE X (.Call (.Attribute o m apos) [] [] pos) (yEv C m sp dvs E ta yHa):=by
 intro pins s σ H Q I h
 refine PySem.W.methodCall_KW (pl:=pl) (thn (he pins s σ H _ I h) fun u s1 ⟨x,H1,I1,rx,a,dx,fs,ex,ea,l,q⟩=>?_) ht
 subst ex
 obtain rfl:u=Value.ref a:=rx
 refine ynX I1 ea c hm l ?_
 exact PySem.W.callWith_K0 (first:=[.ref a]) I1.kIn hm.kp (ywz (us:=[.ref a]) (vs:=[.ref a]) F hr hb hd hx I1 (.cons rfl .nil) q)
structure Mk (K:PySem.W.Frag) (C f:Addr):Prop where
 makes:makesIn K C=true
 init:findIn K (.ref C) "__init__" = some (some (.ref f))
 fn:isFn K (.ref f)=true
 kp:keepIn K (.ref C)=true
theorem yBD {pins:List (Addr×Obj)}{σ:St}{H:Hp}{s:Shared}{Q:VK}{us:List Value}{vs:List V}(M:Mk X.K C f) (F:FnOk X.prog X.w X.K X.mg X.base CX k f fd ps sp) (hr:Room (k+1) X.A) (hb:Binds X.K fd ps ds) (hd:Vals dvs ds)
  (hx:ypx CX X E) (I:Inv X pins σ H s) (r:Vals vs us)
  (h:∀ x dx,H x=none->H dx=none->dx≠x->sp (.ref x::(vs++dvs)) (upd (upd H dx (.own x)) x (.ins C dx [])) (fun v H2=>v=.non/\Q (.ref x) H2) E) :
  wpAny (model X.prog X.w) X.A (call (.ref C) us) (EP X pins σ Q) X.xe s:=by
 have hq:=h (s.heap.objs.size+1) s.heap.objs.size (I.hok.fresh (Nat.le_succ _)) (I.hok.fresh (Nat.le_refl _)) (Nat.ne_of_lt (Nat.lt_succ_self _))
 have I2:=Inv.made (C:=C) I
 have r2:Vals (V.ref (s.heap.objs.size+1)::(vs++dvs)) (Value.ref (s.heap.objs.size+1)::(us++ds)):=.cons rfl (r.append hd)
 have hl:(Value.ref (s.heap.objs.size+1)::us++ds).length=ps.length:=by
  have e:=r2.length
  rw [F.len _ _ _ _ hq] at e
  exact e.symm
 refine wpAny_call (yBB (f:=f) I.kIn M.makes M.init (beq_iff_eq.mp M.fn) (codeAny_mono (F.run _ X.stack _ _ ⟨Value.ref (s.heap.objs.size+1)::us,[]⟩ (Value.ref (s.heap.objs.size+1)::(us++ds)) _ _ E (hr.make C us [])
  (I2.env0.make C us []) (hb _ (Value.ref (s.heap.objs.size+1)::us) I2.kIn hl) r2 hq) fun r s' hq'=>?_))
 cases r with
 | error e=>exact hx pins σ _ _ e s' I2 hq'
 | ok fl =>
  cases fl with
  | ret u =>
   obtain ⟨v,H',I3,rv,ev,q3⟩:=I2.after hq'
   subst ev
   exact ⟨rv,⟨V.ref (s.heap.objs.size+1),H',I3,rfl,q3⟩⟩
  | next=>exact False.elim hq'
  | brk=>exact False.elim hq'
  | cont=>exact False.elim hq'
theorem yEx (M:Mk X.K C f) (F:FnOk X.prog X.w X.K X.mg X.base CX k f fd ps sp) (hr:Room (k+1) X.A) (hg:Gl X x) (hm:X.mg x=some (.ref C)) (hb:Binds X.K fd ps ds) (hd:Vals dvs ds) (hx:ypx CX X E)
  (ha:PA X (e::es) t) (hdb:(x == ("__debug__":Str))=false:=by decide) (he:starEach (e::es) X.env=(false,eval e X.env)::starEach es X.env:=by rfl) (hpl:(backTo pos (starEach es X.env)).any (·.1)=false:=by rfl) :
  PE X (.Call (.Name x p) (e::es) [] pos) (yHd C sp dvs E t):=by
 intro pins s σ H Q I h
 refine wpAny_Call_Name_kw (yrS I hg hm ?_ hdb)
 refine PySem.W.callWith_K (h₀:=X.base) I.ok.mod.kin M.kp (thn (ha pos pins s σ H _ I h) fun us s1 ⟨vs,H1,I1,r,q⟩=>⟨I1.kIn,?_⟩) he hpl
 exact yBD M F hr hb hd hx I1 r q
end
section
variable {X:Cx}{CX:CXT}{k:Nat}{f C:Addr}{fd:FuncData}{ps ks:List Str}{sp:Sp}{E:XK}{x m:Str}{p pos apos kpos:Pos}{e o:Expr}{es:List Expr}{kws:List Keyword}{te ta:TE}{t tk:TA}{nm:Option Str}
variable {g:List Value->List Value->List Value}{gV:List V->List V->List V}
end
structure yv (N P:List Str) (sc:Scope):Prop where
 kind:sc.kind=.function
 co:sc.isCoroutine=false
 gen:sc.isGenerator=false
 nd:N.Nodup
 pre:N.take P.length=P
 par:∀ x∈P,sc.names.lookup x=some .local \/ sc.names.lookup x=some .cell
 nofree:∀ y∈sc.names,y.2≠.free
theorem ytg {kindOf:Str->Option NameKind}{x:Str}:∀ {binds:List (Str×Value)}{m:Str->Option Value},(∀ v,(x,v)∉binds)->bindL kindOf binds m x=m x
 | [],_,_=>rfl
 | (n,v)::r,m,h=>by
  unfold bindL
  rw [ytg fun w hw=>h w (List.mem_cons_of_mem _ hw)]
  split
  .have:x≠n:=by rintro rfl;exact h v List.mem_cons_self
   simp [this]
  .rfl
theorem yth {kindOf:Str->Option NameKind}{x:Str}:∀ {binds:List (Str×Value)}{m:Str->Option Value},(∀ v,(x,v)∉binds)->bindC kindOf binds m x=m x
 | [],_,_=>rfl
 | (n,v)::r,m,h=>by
  unfold bindC
  rw [yth fun w hw=>h w (List.mem_cons_of_mem _ hw)]
  split
  .rfl
  .have:x≠n:=by rintro rfl;exact h v List.mem_cons_self
   simp [this]
theorem yti {kindOf:Str->Option NameKind}{x:Str}{v:Value}:∀ {P:List Str}{vs:List Value}{i:Nat}{m:Str->Option Value},P.Nodup->P[i]?=some x->vs[i]?=some v->kindOf x=some .local ->
  bindL kindOf (P.zip vs) m x=some v
 | [],_,_,_,_,h,_,_=>by simp at h
 | _::_,[],_,_,_,_,h,_=>by simp at h
 | p::P,w::vs,0,m,nd,h1,h2,hk=>by
  simp at h1 h2;subst h1;subst h2
  show bindL kindOf ((p,w)::P.zip vs) m p=_
  unfold bindL
  rw [ytg fun v hv=>(List.nodup_cons.mp nd).1 (List.of_mem_zip hv).1,if_pos hk]
  simp
 | p::P,w::vs,i+1,m,nd,h1,h2,hk=>by
  show bindL kindOf ((p,w)::P.zip vs) m x=_
  unfold bindL
  exact yti (i:=i) (List.nodup_cons.mp nd).2 (by simpa using h1) (by simpa using h2) hk
theorem ytj {kindOf:Str->Option NameKind}{x:Str}{v:Value}:∀ {P:List Str}{vs:List Value}{i:Nat}{m:Str->Option Value},P.Nodup->P[i]?=some x->vs[i]?=some v->kindOf x≠some .local ->
  bindC kindOf (P.zip vs) m x=some v
 | [],_,_,_,_,h,_,_=>by simp at h
 | _::_,[],_,_,_,_,h,_=>by simp at h
 | p::P,w::vs,0,m,nd,h1,h2,hk=>by
  simp at h1 h2;subst h1;subst h2
  show bindC kindOf ((p,w)::P.zip vs) m p=_
  unfold bindC
  rw [yth fun v hv=>(List.nodup_cons.mp nd).1 (List.of_mem_zip hv).1,if_neg hk]
  simp
 | p::P,w::vs,i+1,m,nd,h1,h2,hk=>by
  show bindC kindOf ((p,w)::P.zip vs) m x=_
  unfold bindC
  exact ytj (i:=i) (List.nodup_cons.mp nd).2 (by simpa using h1) (by simpa using h2) hk
def start (N:List Str) (vs:List V):St:=vs.map some++List.replicate (N.length-vs.length) none
noncomputable def yDs (CX:CXT) (P:Program) (w:World) (K:PySem.W.Frag) (mg:Str->Option Value) (base:Heap) (N:List Str) (qual:Str) (scope:Scope) (f:Addr) (cd:Value) (A:Around) (outer:List Env) (s:Shared) (H:Hp) (E:XK):Cx where
 prog:=P
 w:=w
 K:=K
 mg:=mg
 base:=base
 A:=A.deeper (envOfC qual scope s.heap.objs.size f cd)
 N:=N
 s₀:=s
 H₀:=H
 env:=envOfC qual scope s.heap.objs.size f cd
 outer:=outer
 stack:=envOfC qual scope s.heap.objs.size f cd::outer
 ex:=[]
 calm:=true
 fn:=fun _=>true
 pn:=[]
 xe:=fun e s'=>wpAny (model P w) (A.deeper (envOfC qual scope s.heap.objs.size f cd)) (leaving (envOfC qual scope s.heap.objs.size f cd) e) (fun _ s''=>CX outer H s E e s'') (fun e' s''=>CX outer H s E e' s'') s'
theorem ywA {sc:Scope}{n:Nat}{x:Str}(h:sc.names.lookup x=some .cell):∃ c,(cellsFrom n sc.names []).lookup x=some c:=by
 have q:=PySem.W.cellsFrom_some sc.names n [] (.inl h)
 exact Option.isSome_iff_exists.mp q
theorem yzh {CX:CXT}{P:Program}{w:World}{K:PySem.W.Frag}{mg:Str->Option Value}{base:Heap}{N ps:List Str}{qual:Str}{scope:Scope}{f:Addr}{cd:Value}{A:Around}{outer:List Env}{s s1:Shared}{H:Hp}{E:XK}{us:List Value}{vs:List V}
  (S:yv N ps scope) (hd:A.handled=none) (e0:Env0 P w K mg base A outer s H) (hl:vs.length=ps.length) (r:Vals vs us)
  (x:InCallC s s.heap.objs.size (bindL (envOfC qual scope s.heap.objs.size f cd).kindOf (ps.zip us) fun _=>none) (cellsFrom (s.heap.objs.size+1) scope.names []) (bindC (envOfC qual scope s.heap.objs.size f cd).kindOf (ps.zip us) fun _=>none) s1) :
  Inv (yDs CX P w K mg base N qual scope f cd A outer s H E) [] (start N vs) H s1:=by
 have hpl:ps.length<=N.length:=by have:=congrArg List.length S.pre;rw [List.length_take] at this;omega
 obtain ⟨h1,tk,rfl,hk⟩:=x.done
 have noA:∀ b:Addr,b∉(yDs CX P w K mg base N qual scope f cd A outer s H E).ex:=fun b z=>absurd (show b∈([]:List Addr) from z) (by simp)
 refine ⟨⟨e0.mod,S.kind,rfl,rfl,Nat.le_refl _,fun y z c h1 h2=>?_,fun y hy=>?_,fun y c _ h=>?_,fun _=>hd,Around.frames_deeper e0.frames,.inr ⟨rfl,rfl⟩,fun b z=>absurd z (noA b),e0.bs,e0.bsz,fun b _ _=>noA b,fun b z=>absurd z (noA b),e0.funs,e0.frf⟩,
  rfl,e0.bare,Un.kept hk,⟨_,x.toInCall.ns,fun i y v h1 h2 h3=>?_⟩,fun y c h=>⟨_,x.cell y c h⟩,e0.hok.fresh (Nat.le_refl _),fun y c h=>?_,fun p hp=>absurd (show p∈([]:List (Addr×Obj)) from hp) (by simp),e0.hok.kept hk,?_⟩
 .exact name_of_addr x.apart (PySem.mem_of_lookup h1) (PySem.mem_of_lookup h2)
 .have hy:scope.names.lookup y=some .cell\/scope.names.lookup y=some .free:=hy
  rcases hy with hy|hy
  .exact ywA hy
  .exact absurd rfl (S.nofree _ (PySem.mem_of_lookup hy))
 .exact Nat.le_of_lt (x.above y c (PySem.mem_of_lookup h))
 .have hi:i<vs.length:=by
   unfold start at h2
   by_cases hi:i<vs.length
   .exact hi
   .rw [List.getElem?_append_right (by simpa using hi)] at h2
    rw [List.getElem?_replicate] at h2
    split at h2<;>cases h2
  have ha:vs[i]?=some v:=by
   unfold start at h2
   rw [List.getElem?_append_left (by simpa using hi),List.getElem?_map] at h2
   cases e:vs[i]? with
   | none=>rw [e] at h2;cases h2
   | some a=>rw [e] at h2;cases h2;rfl
  obtain ⟨u,hu,rv⟩:=r.get ha
  have hp:ps[i]?=some y:=by
   rw [<- S.pre,List.getElem?_take_of_lt (by omega)];exact h1
  have ndP:ps.Nodup:=by rw [<- S.pre];exact S.nd.sublist (List.take_sublist _ _)
  refine ⟨u,rv,?_⟩
  rcases S.par y (List.mem_of_getElem? hp) with k|k
  .exact .inl ⟨k,yti ndP hp hu k⟩
  .obtain ⟨c,e⟩:=ywA (n:=s.heap.objs.size+1) k
   refine .inr ⟨.inl k,c,e,?_⟩
   have q:=x.cell y c e
   rw [ytj ndP hp hu (by show scope.names.lookup y≠_;rw [k];decide)] at q
   exact q
 .exact e0.hok.fresh (Nat.le_of_lt (x.above y c (PySem.mem_of_lookup h)))
 .unfold start
  show _=N.length
  rw [List.length_append,List.length_map,List.length_replicate]
  omega
theorem yJX {CX:CXT}{P:Program}{w:World}{K:PySem.W.Frag}{mg:Str->Option Value}{base:Heap}{k:Nat}{f:Addr}{name qual:Str}{params:Arguments}{body:List Stmt}{scope:Scope}{dV kV doc pm cdv ct oc:Value}{an od:Option Addr}
  {osl:Array (Option Value)}{N ps:List Str}{sp:Sp}(lk:K.lookup f=some ⟨oc,od,.func (fnOf name qual params body scope dV kV doc pm an cdv ct),osl⟩) (hcd:codeIn K cdv qual=true) (S:yv N ps scope)
  (len:∀ vs H Q E,sp vs H Q E->vs.length=ps.length)
  (hbody:∀ (A:Around) (outer:List Env) (s:Shared) (H:Hp) (vs:List V) (Q:VK) (E:XK),Room k (A.deeper (envOfC qual scope s.heap.objs.size f cdv))->sp vs H Q E ->
   ∃ t,PSs (yDs CX P w K mg base N qual scope f cdv A outer s H E) body t/\t { nx:=fun _ H'=>Q .non H',rt:=Q } (start N vs) H) :
  FnOk P w K mg base CX (k+1) f (fnOf name qual params body scope dV kV doc pm an cdv ct) ps sp:=by
 refine ⟨len,fun A outer s H args us vs Q E hr e0 hb r hsp=>?_⟩
 have hl:=len _ _ _ _ hsp
 have KX:K.In s.heap:=e0.mod.kin.keeps fun b o e=>(e0.bs b o e).1
 have lim:s.heap.NoLimit:=e0.mod.nolimit.keeps fun b o e=>(e0.bs b o e).1
 have hkind:∀ y∈ps.zip us,scope.names.lookup y.1=some .local \/ (scope.names.lookup y.1=some .cell/\((cellsFrom (s.heap.objs.size+1) scope.names []).lookup y.1).isSome=true):=fun ⟨n,v⟩ hy=>by
  rcases S.par n (List.of_mem_zip hy).1 with q|q
  .exact .inl q
  .exact .inr ⟨q,PySem.W.cellsFrom_some _ _ _ (.inl q)⟩
 refine codeAny_call_function hr.depth (KX _ _ lk) rfl S.co S.gen rfl (PySem.W.codeRec_of KX hcd) (hb _ _ _ _ ?_)
 refine wpAny_newFunctionEnv_cells S.kind hkind fun env he s1 x=>?_
 subst he
 refine ⟨lim.keeps x.toInCall.keep,codeAny_func ?_⟩
 obtain ⟨t,ht,hq⟩:=hbody A outer s H vs Q E (hr.deeper _) hsp
 have I:Inv (yDs CX P w K mg base N qual scope f cdv A outer s H E) [] (start N vs) H s1:=yzh S hr.hd e0 hl r x
 refine wpAny_mono (ht [] s1 (start N vs) H _ I hq) (fun fl s' hs=>?_) fun e s' hs=>hs
 have fin:∀ {σ':St}{H':Hp}{v:V}{u:Value},Inv (yDs CX P w K mg base N qual scope f cdv A outer s H E) [] σ' H' s'->RelV v u->Q v H'->CE outer P w H s Q u s' :=
  fun {σ' H' v u} J rv q=>⟨v,H',J.os,J.bare,J.base,J.hok,rv,q⟩
 cases fl with
 | ret u =>
  obtain ⟨v,σ',H',J,rv,q⟩:=hs
  exact fin J rv q
 | next =>
  obtain ⟨σ',H',J,q⟩:=hs
  exact fin (v:=V.non) (u:=Value.none) J rfl q
 | brk =>
  obtain ⟨_,_,_,q⟩:=hs
  exact False.elim q
 | cont =>
  obtain ⟨_,_,_,q⟩:=hs
  exact False.elim q
end L2
namespace L2
open PySem PySem.Spec PyProof.Rows
section
variable {X:Cx}{x:Str}{p pos:Pos}{e:Expr}{es:List Expr}{t:TA}{id T:String}{r:List V->Hp->VK->Prop}
def tCB (r:List V->Hp->VK->Prop) (t:TA):TE:=fun σ H Q=>t σ H fun vs H1=>r vs H1 Q
theorem yBE (hc:CallR X (.builtin id) r) (hg:Gl X x) (hm:X.mg x=none) (hv:bootBuiltins x=some (.builtin id)) (ha:PA X (e::es) t) (hn:x≠"__name__":=by decide) (hdb:(x == ("__debug__":Str))=false:=by decide)
  (he:starEach (e::es) X.env=(false,eval e X.env)::starEach es X.env:=by rfl) (hpl:(backTo pos (starEach es X.env)).any (·.1)=false:=by rfl):PE X (.Call (.Name x p) (e::es) [] pos) (tCB r t):=by
 intro pins s σ H Q I h
 refine wpAny_Call_Name_kw (ytd I hg hm hv ?_ hn hdb)
 exact PyProof.Rows.callWith_builtin1 (thn (ha pos pins s σ H _ I h) fun us s1 ⟨vs,H1,I1,r1,q1⟩=>hc pins s1 σ H1 vs us Q I1 r1 q1) he hpl
theorem ytk (hc:CallR X (.type T) r) (hg:Gl X x) (hm:X.mg x=none) (hv:bootBuiltins x=some (.type T)) (ha:PA X (e::es) t) (hn:x≠"__name__":=by decide) (hdb:(x == ("__debug__":Str))=false:=by decide)
  (he:starEach (e::es) X.env=(false,eval e X.env)::starEach es X.env:=by rfl) (hpl:(backTo pos (starEach es X.env)).any (·.1)=false:=by rfl):PE X (.Call (.Name x p) (e::es) [] pos) (tCB r t):=by
 intro pins s σ H Q I h
 refine wpAny_Call_Name_kw (ytd I hg hm hv ?_ hn hdb)
 exact PyProof.Rows.callWith_type1 (thn (ha pos pins s σ H _ I h) fun us s1 ⟨vs,H1,I1,r1,q1⟩=>hc pins s1 σ H1 vs us Q I1 r1 q1) he hpl
end
end L2
namespace HT
open PySem PyProof.Rows
section
open PySem.SeqAt
open PySem.AutoSeq1 (wpAny_loadPart')
open PySem.MeetsSeq PySem.MeetsSeq2 PySem.MeetsSeq3
end
section
variable {prog:Program}{w:World}{A:Around}{E:Value->Shared->Prop}{s:Shared}
def sIx (n d:Nat):Option Int->Nat
 | none=>d
 | some v=>if v<0 then (v+(n:Int)).toNat else min v.toNat n
end
end HT
namespace L2
open PySem PySem.Spec PyProof.Rows
abbrev TO:=St->Hp->(Option Int->Hp->Prop)->Prop
noncomputable def PO (X:Cx) (e:Option Expr) (t:TO):Prop :=
 ∀ (pins:List (Addr×Obj)) (s:Shared) (σ:St) (H:Hp) (Q:Option Int->Hp->Prop),Inv X pins σ H s->t σ H Q ->
  wpAny (model X.prog X.w) X.A (evalPart e X.env) (fun u s'=>∃ o H',Inv X pins σ H' s'/\IsPart u o/\Q o H') X.xe s
def yzi:TO:=fun _ H Q=>Q none H
def yHe (t:TE):TO:=fun σ H Q=>t σ H fun x H1=>∃ i,x=.int i/\Q (some i) H1
theorem intsAre_of {ns:List Int}:∀ {us:List Value},Vals (ns.map V.int) us->IntsAre us ns:=by
 induction ns with
 | nil=>intro us r;rw [List.map_nil] at r;cases r;exact .nil
 | cons n ns ih =>
  intro us r
  rw [List.map_cons] at r
  cases r with
  | cons r1 r2 =>
   obtain ⟨t,e⟩:=r1
   subst e
   exact .cons n t (ih r2)
section
variable {X:Cx}{e:Expr}{te:TE}{lo hi:Option Expr}{tl th:TO}{pos p2:Pos}
theorem yEy:PO X none yzi:=by
 intro pins s σ H Q I h
 rw [evalPart_none]
 exact wpAny_pure ⟨none,H,I,.none,h⟩
theorem yEz (h:PE X e te):PO X (some e) (yHe te):=by
 intro pins s σ H Q I hw
 rw [evalPart_some]
 refine thn (h pins s σ H _ I hw) fun u s1 ⟨x,H1,I1,r1,q1⟩=>?_
 obtain ⟨i,rfl,q⟩:=q1
 obtain ⟨t,rfl⟩:=r1
 exact ⟨some i,H1,I1,.int i t,q⟩
noncomputable def SlR (X:Cx) (r:V->Option Int->Option Int->Hp->VK->Prop):Prop :=
 ∀ (pins:List (Addr×Obj)) (s:Shared) (σ:St) (H:Hp) (x:V) (v vl vu:Value) (lo hi:Option Int) (sl:Addr) (Q:VK),Inv X pins σ H s->RelV x v->s.heap.IsSliceOf sl vl vu .none->IsPart vl lo->IsPart vu hi->r x lo hi H Q ->
  ∃ T id,typeLookup (.type T) "__getitem__" = pure (some (.builtin id))/\s.TypeIs v T/\wpAny (model X.prog X.w) X.A (getItem v (.ref sl)) (EP X pins σ Q) X.xe s
noncomputable def tSl (r:V->Option Int->Option Int->Hp->VK->Prop) (te:TE) (tl th:TO):TE:=fun σ H Q=>te σ H fun x H1=>tl σ H1 fun l H2=>th σ H2 fun u H3=>r x l u H3 Q
theorem yBF {r:V->Option Int->Option Int->Hp->VK->Prop}(hr:SlR X r) (he:PE X e te) (hl:PO X lo tl) (hu:PO X hi th):PE X (.Subscript e (.Slice lo hi none p2) pos) (tSl r te tl th):=by
 intro pins s σ H Q I h
 refine Subscript_ (thn (he pins s σ H _ I h) fun v s1 ⟨x,H1,I1,r1,q1⟩=>?_)
 refine wpAny_Slice (thn (hl pins s1 σ H1 _ I1 q1) fun vl s2 ⟨l,H2,I2,pl,q2⟩=>thn (hu pins s2 σ H2 _ I2 q2) fun vu s3 ⟨u,H3,I3,pu,q3⟩=>?_)
 rw [evalPart_none]
 refine wpAny_pure ?_
 have I4:Inv X pins σ H3 { s3 with heap:=s3.heap.push { cls:=.type "slice",data:=.fields #[vl,vu,.none] } }:=I3.kept (t':=s3.toks) fun b ob q=>Heap.get?_push_of_some _ q
 obtain ⟨T,id,hT,ht,hg⟩:=hr pins { s3 with heap:=s3.heap.push { cls:=.type "slice",data:=.fields #[vl,vu,.none] } } σ H3 x v vl vu l u s3.heap.objs.size Q I4 r1 (Heap.IsSliceOf.new ..) pl pu q3
 show wpAny (model X.prog X.w) X.A (subscriptTail e (.Slice lo hi none p2) v (.ref s3.heap.objs.size)) (EP X pins σ Q) X.xe { s3 with heap:=s3.heap.push { cls:=.type "slice",data:=.fields #[vl,vu,.none] } }
 exact tail_any (ops:=[.ref s3.heap.objs.size,v]) ht hT hg (by with_unfolding_all rfl)
noncomputable def yHf (xs:List V) (lo hi:Option Int):List V:=(xs.drop (HT.sIx xs.length 0 lo)).take (HT.sIx xs.length xs.length hi-HT.sIx xs.length 0 lo)
theorem yva (xs:List V) (lo hi:Option Int):(yHf xs lo hi).length<=xs.length:=by
 unfold yHf
 rw [List.length_take,List.length_drop]
 omega
end
end L2
namespace L2
open PySem PySem.Spec PyProof.Rows
noncomputable def ixN (n:Nat) (i:Int):Option Nat:=if 0<=i then (if i<n then some i.toNat else none) else if -(n:Int)<=i then some (i+n).toNat else none
def atI {α:Type}(xs:List α) (i:Int):Option α:=(ixN xs.length i).bind fun j=>xs[j]?
theorem yEA {n:Nat}{i:Int}{j:Nat}(h:ixN n i=some j):seqIndex? i n=some j/\j<n/\-(n:Int)<=i/\i<n:=by
 unfold ixN at h
 by_cases h0:0<=i
 .rw [if_pos h0] at h
  by_cases h1:i<n
  .rw [if_pos h1] at h
   have e:i.toNat=j:=Option.some.inj h
   exact ⟨by rw [seqIndex_of h0 h1,e],by omega,by omega,h1⟩
  .rw [if_neg h1] at h;cases h
 .rw [if_neg h0] at h
  by_cases h1:-(n:Int)<=i
  .rw [if_pos h1] at h
   have e:(i+n).toNat=j:=Option.some.inj h
   exact ⟨by rw [seqIndex_neg (by omega) h1,e],by omega,h1,by omega⟩
  .rw [if_neg h1] at h;cases h
theorem yvb {α:Type}{xs:List α}{i:Int}{v:α}(h:atI xs i=some v):∃ j,seqIndex? i xs.length=some j/\xs[j]?=some v/\j<xs.length/\-(xs.length:Int)<=i/\i<xs.length:=by
 unfold atI at h
 cases e:ixN xs.length i with
 | none=>rw [e] at h;cases h
 | some j =>
  rw [e] at h
  obtain ⟨h1,h2,h3,h4⟩:=yEA e
  exact ⟨j,h1,h,h2,h3,h4⟩
theorem ymw {α:Type}{xs:List α}{j:Nat}{v:α}(h:xs[j]?=some v):atI xs (j:Int)=some v:=by
 have hj:j<xs.length:=(List.getElem?_eq_some_iff.mp h).1
 have e:ixN xs.length (j:Int)=some j:=by
  unfold ixN
  rw [if_pos (by omega),if_pos (by omega)];simp
 unfold atI;rw [e];exact h
def yzj (b:Expr):Prop:=∀ o i,subscripted b false o i=operate [o,i] (getItem o i)
noncomputable def IxR (X:Cx) (r:R2):Prop :=
 ∀ (value slice:Expr) (pins:List (Addr×Obj)) (s:Shared) (σ:St) (H:Hp) (x y:V) (v u:Value) (Q:VK),Inv X pins σ H s->RelV x v->RelV y u->r x y H Q ->
  subscripted slice false v u=operate [v,u] (getItem v u)->wpAny (model X.prog X.w) X.A (subscriptTail value slice v u) (EP X pins σ Q) X.xe s
noncomputable def MtR (X:Cx) (id:String) (r:V->List V->Hp->VK->Prop):Prop :=
 ∀ (pins:List (Addr×Obj)) (s:Shared) (σ:St) (H:Hp) (x:V) (xs:List V) (v:Value) (us:List Value) (Q:VK),Inv X pins σ H s->RelV x v->Vals xs us->r x xs H Q ->
  wpAny (model X.prog X.w) X.A (call (.builtin id) (v::us)) (EP X pins σ Q) X.xe s
section
variable {X:Cx}{a b:Expr}{ta tb:TE}{pos:Pos}
theorem yJY {r:R2}(hr:IxR X r) (ha:PE X a ta) (hb:PE X b tb) (hs:yzj b):PE X (.Subscript a b pos) (tOp r ta tb):=by
 intro pins s σ H Q I h
 exact Subscript_ (yJS ha hb I h fun v u s2 x y H2 I2 rx ry q=>hr a b pins s2 σ H2 x y v u Q I2 rx ry q (hs _ _))
def yMj (K:PySem.W.Frag):R2:=fun x y H Q=>∃ p xs i v,x=.ref p/\y=.int i/\SqL K H p xs/\atI xs i=some v/\Q v H
def yMk (K:PySem.W.Frag):R2:=fun x y H Q=>∃ p xs i v,x=.ref p/\y=.int i/\SqT K H p xs/\atI xs i=some v/\Q v H
def yMl:R2:=fun x y H Q=>∃ z i c,x=.str z/\y=.int i/\z.length<=sizeLine/\atI z.cps.toList i=some c/\Q (.str ⟨#[c]⟩) H
theorem ypy:IxR X (yMj X.K):=by
 intro value slice pins s σ H x y v u Q I rx ry h hs
 obtain ⟨p,xs,i,z,rfl,rfl,hq,he,q⟩:=h
 cases rx
 obtain ⟨t,rfl⟩:=ry
 obtain ⟨its,r,pl,hz⟩:=I.list hq
 obtain ⟨j,h1,h2,h3,h4,h5⟩:=yvb he
 obtain ⟨w,ew,rw'⟩:=r.get h2
 have hl:=r.length
 have hn:=yte
 have fin:EP X pins σ Q w s:=⟨z,H,I,rw',q⟩
 by_cases h0:0<=i
 .have hj:i.toNat=j:=by
   rw [seqIndex_of h0 h5] at h1
   exact Option.some.inj h1
  exact item_listR pl.isList h0 (by omega) (by rw [hj];simpa using ew) fin hs
 .have hj:(i+(its.toArray.size:Int)).toNat=j:=by
   rw [seqIndex_neg (by omega) h4] at h1
   rw [List.size_toArray,<- hl]
   exact Option.some.inj h1
  exact subscriptTail_builtinR (x:=w) pl.isList.typeIs slot_list_getitem.lookup
   (wpAny_getItem_list_neg (Q:=fun r s'=>r=w/\EP X pins σ Q r s') pl.isList (by omega) (by rw [List.size_toArray]<;>omega) (by omega) (by rw [hj];simpa using ew) ⟨rfl,fin⟩) hs
theorem ybS:IxR X (yMk X.K):=by
 intro value slice pins s σ H x y v u Q I rx ry h hs
 obtain ⟨p,xs,i,z,rfl,rfl,hq,he,q⟩:=h
 cases rx
 obtain ⟨t,rfl⟩:=ry
 obtain ⟨its,r,pl,hz⟩:=I.tuple hq
 obtain ⟨j,h1,h2,h3,h4,h5⟩:=yvb he
 obtain ⟨w,ew,rw'⟩:=r.get h2
 have hl:=r.length
 have hn:=yte
 have fin:EP X pins σ Q w s:=⟨z,H,I,rw',q⟩
 exact subscriptTail_builtinR (x:=w) pl.typeIs slot_tuple_getitem.lookup
  (getItem_tuple (j:=j) (Q:=fun r s'=>r=w/\EP X pins σ Q r s') pl (by omega) (by omega) (by rw [List.size_toArray,<- hl];exact h1) (by simpa using ew) ⟨rfl,fin⟩) hs
theorem yzk:IxR X yMl:=by
 intro value slice pins s σ H x y v u Q I rx ry h hs
 obtain ⟨z,i,c,rfl,rfl,hz,he,q⟩:=h
 obtain ⟨t,rfl⟩:=rx
 obtain ⟨t',rfl⟩:=ry
 obtain ⟨j,h1,h2,h3,h4,h5⟩:=yvb he
 have hl:z.cps.toList.length=z.length:=by simp [Str.length]
 rw [hl] at h1 h4 h5
 have hn:=yte
 exact tail_any (typeIs_str s z t) slot_str_getitem.lookup (getItem_str (c:=c) (by
  have e1:decide (i < -(2 ^ 63:Int))=false:=decide_eq_false (by omega)
  have e2:decide (i>=2 ^ 63)=false:=decide_eq_false (by omega)
  rw [e1,e2,Bool.or_false]) (by rw [h1];simpa using h2) ⟨.str ⟨#[c]⟩,H,I.tok _,⟨_,rfl⟩,q⟩) hs
theorem Inv.lst {pins:List (Addr×Obj)}{σ:St}{H:Hp}{s:Shared}{p:Addr}{xs:List V}(I:Inv X pins σ H s) (h:H p=some (.lst xs)) :
  ∃ (its:List Value) (n:Nat),Vals xs its/\s.heap.get? p=some { cls:=.type "list",data:=.seq its.toArray n }/\xs.length<=sizeLine:=by
 obtain ⟨z,its,n,r,e⟩:=I.hok p _ h
 exact ⟨its,n,r,e,z⟩
theorem ytl (lo hi:Option Int) (n:Nat):(sliceBounds lo hi none n).1=((HT.sIx n 0 lo:Nat):Int)/\(sliceBounds lo hi none n).2.1=((HT.sIx n n hi:Nat):Int)/\(sliceBounds lo hi none n).2.2=1:=by
 refine ⟨?_,?_,rfl⟩
 .cases lo with
  | none=>simp [sliceBounds,HT.sIx]
  | some i =>
   simp only [sliceBounds,HT.sIx,Option.getD_none,show (1:Int)>0 by decide,if_true]
   by_cases h:i<0
   .simp only [h,if_true]<;>omega
   .simp only [h,if_false]<;>omega
 .cases hi with
  | none=>simp [sliceBounds,HT.sIx]
  | some i =>
   simp only [sliceBounds,HT.sIx,Option.getD_none,show (1:Int)>0 by decide,if_true]
   by_cases h:i<0
   .simp only [h,if_true]<;>omega
   .simp only [h,if_false]<;>omega
theorem yrU (its:List Value) (lo hi:Option Int):slicePick its.toArray lo hi none=((its.drop (HT.sIx its.length 0 lo)).take (HT.sIx its.length its.length hi-HT.sIx its.length 0 lo)).toArray:=by
 obtain ⟨h1,h2,h3⟩:=ytl lo hi its.toArray.size
 unfold slicePick
 rw [h1,h2,h3]
 simp only [sliceRange_one,pick_run,List.size_toArray]<;>rfl
noncomputable def yMm (K:PySem.W.Frag):V->Option Int->Option Int->Hp->VK->Prop:=fun x lo hi H Q=>∃ a xs,x=.ref a/\SqL K H a xs/\∀ p,H p=none->Q (.ref p) (upd H p (.lst (yHf xs lo hi)))
theorem yrV:SlR X (yMm X.K):=by
 intro pins s σ H x v vl vu lo hi sl Q I rx hs pl pu h
 obtain ⟨a,xs,rfl,hx,q⟩:=h
 cases rx
 obtain ⟨its,r,ht,hz⟩:=I.list hx
 have hlen:=r.length
 refine ⟨"list",_,slot_list_getitem.lookup,ht.isList.typeIs,?_⟩
 refine wpAny_getItem_list_slice ht.isList hs pl pu .none (by simp) ?_ (by rw [List.size_toArray]<;>omega)
 rw [yrU,<- hlen]
 refine ⟨.ref s.heap.objs.size,_,I.laid (t':=s.toks) (o:=.lst (yHf xs lo hi)) (fun b ob q=>Heap.get?_push_of_some _ q) (Nat.le_refl _) ?_,rfl,q _ (I.hok.fresh (Nat.le_refl _))⟩
 exact ⟨Nat.le_trans (yva xs lo hi) hz,_,0,(r.drop (HT.sIx xs.length 0 lo)).take (HT.sIx xs.length xs.length hi-HT.sIx xs.length 0 lo),Heap.get?_push_size _ rfl⟩
def ynh:V->Bool
 | .non=>true
 | .bl _=>true
 | .int _=>true
 | .str _=>true
 | _=>false
noncomputable def eqV:V->V->Bool
 | .non,.non=>true
 | .bl a,.bl b=>a == b
 | .bl a,.int b=>(if a then 1 else 0) == b
 | .int a,.bl b=>a == (if b then 1 else 0)
 | .int a,.int b=>a == b
 | .str a,.str b=>a == b
 | _,_=>false
theorem yDt {A:Around}{s:Shared}{y x:V}{u v:Value}(ry:RelV y u) (rx:RelV x v) (fy:ynh y=true) (fx:ynh x=true):SeqAt.EqAt A s u v (eqV y x):=by
 cases y with
 | non =>
  cases ry
  cases x with
  | non=>cases rx;exact SeqAt.EqAt.same _
  | bl b=>cases rx;exact SeqAt.EqAt.none_bool b
  | int b=>obtain ⟨t,rfl⟩:=rx;exact SeqAt.EqAt.none_int b t
  | str b=>obtain ⟨t,rfl⟩:=rx;exact SeqAt.EqAt.none_str b t
  | _=>exact absurd (show false=true from fx) Bool.false_ne_true
 | bl a =>
  cases ry
  cases x with
  | non=>cases rx;exact SeqAt.EqAt.bool_none a
  | bl b=>cases rx;exact SeqAt.EqAt.bool_bool a b
  | int b=>obtain ⟨t,rfl⟩:=rx;exact SeqAt.EqAt.bool_int a b t
  | str b=>obtain ⟨t,rfl⟩:=rx;exact SeqAt.EqAt.bool_str a b t
  | _=>exact absurd (show false=true from fx) Bool.false_ne_true
 | int a =>
  obtain ⟨t',rfl⟩:=ry
  cases x with
  | non=>cases rx;exact SeqAt.EqAt.int_none a t'
  | bl b=>cases rx;exact SeqAt.EqAt.int_bool a t' b
  | int b=>obtain ⟨t,rfl⟩:=rx;exact SeqAt.EqAt.int_int a t' b t
  | str b=>obtain ⟨t,rfl⟩:=rx;exact SeqAt.EqAt.int_str a t' b t
  | _=>exact absurd (show false=true from fx) Bool.false_ne_true
 | str a =>
  obtain ⟨t',rfl⟩:=ry
  cases x with
  | non=>cases rx;exact SeqAt.EqAt.str_none a t'
  | bl b=>cases rx;exact SeqAt.EqAt.str_bool a t' b
  | int b=>obtain ⟨t,rfl⟩:=rx;exact SeqAt.EqAt.str_int a t' b t
  | str b=>obtain ⟨t,rfl⟩:=rx;exact SeqAt.EqAt.str_str a t' b t
  | _=>exact absurd (show false=true from fx) Bool.false_ne_true
 | _=>exact absurd (show false=true from fy) Bool.false_ne_true
noncomputable def eqU (x:V) (u:Value):Bool:=match u with
 | .none=>eqV .non x
 | .bool b=>eqV (.bl b) x
 | .int i _=>eqV (.int i) x
 | .str z _=>eqV (.str z) x
 | _=>false
theorem yDu {x y:V}{u:Value}(r:RelV y u) (f:ynh y=true):eqU x u=eqV y x:=by
 cases y with
 | non=>cases r;rfl
 | bl b=>cases r;rfl
 | int i=>obtain ⟨t,rfl⟩:=r;rfl
 | str z=>obtain ⟨t,rfl⟩:=r;rfl
 | _=>exact absurd (show false=true from f) Bool.false_ne_true
theorem yvc {x:V}:∀ {xs:List V}{us:List Value},Vals xs us->xs.all ynh=true->us.any (eqU x)=xs.any fun y=>eqV y x
 | _,_,.nil,_=>rfl
 | y::xs,u::us,.cons r t,f=>by
  rw [List.all_cons,Bool.and_eq_true] at f
  rw [List.any_cons,List.any_cons,yDu r f.1,yvc t f.2]
theorem yrW {A:Around}{s:Shared}{x:V}{v:Value}(rx:RelV x v) (fx:ynh x=true):∀ {xs:List V}{us:List Value},Vals xs us->xs.all ynh=true->∀ u∈us,SeqAt.EqAt A s u v (eqU x u)
 | _,_,.nil,_=>fun u hu=>by cases hu
 | y::xs,u::us,.cons r t,f=>fun u' hu=>by
  rw [List.all_cons,Bool.and_eq_true] at f
  rcases List.mem_cons.mp hu with rfl|hu
  .rw [yDu r f.1];exact yDt r rx f.1 fx
  .exact yrW rx fx t f.2 u' hu
def inV (x:V) (xs:List V):Bool:=xs.any fun y=>eqV y x
noncomputable def rIn (K:PySem.W.Frag) (neg:Bool):R2:=fun x y H Q=>∃ p xs,y=.ref p/\(SqL K H p xs\/SqT K H p xs)/\ynh x=true/\xs.all ynh=true/\Q (.bl (if neg then !inV x xs else inV x xs)) H
theorem ypz:OpR X (compareOp .In) (rIn X.K false):=by
 intro pins s σ H x y v u Q I rx ry h
 obtain ⟨p,xs,rfl,hq,fx,fs,q⟩:=h
 cases ry
 rcases hq with hq|hq
 .obtain ⟨its,r,pl,hz⟩:=I.list hq
  refine SeqAt.in_listAt (eqU x) pl.isList (fun w hw=>yrW rx fx r fs w (by simpa using hw)) ⟨.bl _,H,I,rfl,?_⟩
  rw [show its.toArray.any (eqU x)=its.any (eqU x) by simp,yvc r fs]
  exact q
 .obtain ⟨its,r,pl,hz⟩:=I.tuple hq
  refine SeqAt.in_tupleAt (eqU x) pl (fun w hw=>yrW rx fx r fs w (by simpa using hw)) ⟨.bl _,H,I,rfl,?_⟩
  rw [show its.toArray.any (eqU x)=its.any (eqU x) by simp,yvc r fs]
  exact q
theorem yiY:CallR X (.builtin "len") (fun xs H Q=>∃ p ys,xs=[.ref p]/\(SqL X.K H p ys\/SqT X.K H p ys)/\Q (.int ys.length) H):=by
 intro pins s σ H xs us Q I r h
 obtain ⟨p,ys,rfl,hq,q⟩:=h
 obtain ⟨u,rfl,rx⟩:=vals1 r
 cases rx
 have hn:=yte
 rcases hq with hq|hq
 .obtain ⟨its,r',pl,hz⟩:=I.list hq
  have hlen:=r'.length
  exact Calls.call_len_list pl.isList (by simp only [List.size_toArray]<;>omega) ⟨.int ys.length,H,I.tok _,⟨s.toks+1,by rw [List.size_toArray,hlen]⟩,q⟩
 .obtain ⟨its,r',pl,hz⟩:=I.tuple hq
  have hlen:=r'.length
  exact len_tuple pl (by simp only [List.size_toArray]<;>omega) ⟨.int ys.length,H,I.tok _,⟨s.toks+1,by rw [List.size_toArray,hlen]⟩,q⟩
theorem ykW:CallR X (.builtin "len") (fun xs H Q=>∃ z,xs=[.str z]/\z.length<=sizeLine/\Q (.int z.length) H):=by
 intro pins s σ H xs us Q I r h
 obtain ⟨z,rfl,hz,q⟩:=h
 obtain ⟨u,rfl,t,rfl⟩:=vals1 r
 have hn:=yte
 exact len_str (by omega) ⟨.int z.length,H,I.tok _,⟨_,rfl⟩,q⟩
theorem CallR.or {f:Value}{r r':List V->Hp->VK->Prop}(h:CallR X f r) (h':CallR X f r'):CallR X f (fun xs H Q=>r xs H Q\/r' xs H Q):=by
 intro pins s σ H xs us Q I rs q
 rcases q with q|q
 .exact h pins s σ H xs us Q I rs q
 .exact h' pins s σ H xs us Q I rs q
theorem ybO:CallR X (.type "list") (fun xs H Q=>∃ p ys,xs=[.ref p]/\(SqL X.K H p ys\/SqT X.K H p ys)/\∀ l,H l=none->Q (.ref l) (upd H l (.lst ys))):=by
 intro pins s σ H xs us Q I r h
 obtain ⟨p,ys,rfl,hq,q⟩:=h
 obtain ⟨u,rfl,rx⟩:=vals1 r
 cases rx
 have fin:∀ (its:List Value),Vals ys its->ys.length<=sizeLine->∀ (h':Heap) (c':Nat),(∀ b o',s.heap.get? b=some o'->h'.get? b=some o') ->
   h'.get? s.heap.objs.size=some { cls:=.type "list",dict:=none,data:=.seq its.toArray c',slots:=#[] }->EP X pins σ Q (.ref s.heap.objs.size) { s with heap:=h' }:=fun its r' hz h' c' kp e =>
  ⟨.ref s.heap.objs.size,_,I.laid (t':=s.toks) kp (Nat.le_refl _) (show ObjOk X.prog X.w _ h' _ (.lst ys) from ⟨hz,its,c',r',e⟩),rfl,q _ (I.hok.fresh (Nat.le_refl _))⟩
 rcases hq with hq|hq
 .obtain ⟨its,r',pl,hz⟩:=I.list hq
  have hlen:=r'.length
  obtain ⟨o,ho,hc,n,hd⟩:=pl.isList
  exact call_list_seq p (.inl rfl) ho hc hd (fun h' c' kp e=>fin its r' hz h' c' kp e) (by simp only [List.size_toArray]<;>omega)
 .obtain ⟨its,r',pl,hz⟩:=I.tuple hq
  have hlen:=r'.length
  obtain ⟨o,ho,hc,n,hd⟩:=pl
  exact call_list_seq p (.inr rfl) ho hc hd (fun h' c' kp e=>fin its r' hz h' c' kp e) (by simp only [List.size_toArray]<;>omega)
noncomputable def tyV (K:PySem.W.Frag) (T:String) (x:V) (H:Hp):Prop:=match x with
 | .str _=>T = "str"
 | .int _=>T = "int"
 | .ref p=>(T = "list"/\∃ xs,SqL K H p xs)\/(T = "tuple"/\∃ o,K.lookup p=some o/\o.cls=.type "tuple"/\o.dict=none) \/
   (T = "dict"/\((∃ kvs,H p=some (.dK kvs))\/∃ kvs,H p=some (.dT kvs)))\/(T = "set"/\∃ S n,H p=some (.set S n))
 | _=>False
theorem yDv {pins:List (Addr×Obj)}{σ:St}{H:Hp}{s:Shared}{T:String}{x:V}{v:Value}(I:Inv X pins σ H s) (r:RelV x v) (ty:tyV X.K T x H) :
  s.TypeIs v T/\∀ a,v=.ref a->∃ ob,s.heap.get? a=some ob/\ob.dict=none:=by
 cases x with
 | str z =>
  obtain ⟨t,rfl⟩:=r
  cases (show T = "str" from ty)
  exact ⟨typeIs_str s z t,fun _ e=>nomatch e⟩
 | int i =>
  obtain ⟨t,rfl⟩:=r
  cases (show T = "int" from ty)
  exact ⟨typeIs_int s i t,fun _ e=>nomatch e⟩
 | ref p =>
  cases r
  rcases ty with ⟨rfl,xs,hq⟩|⟨rfl,o,hk,hc,hd⟩|⟨rfl,hk⟩|⟨rfl,S,n,hk⟩
  .obtain ⟨its,_,pl,_⟩:=I.list hq
   refine ⟨pl.isList.typeIs,fun a e=>?_⟩
   cases e
   obtain ⟨o,n,e,c,hd,_⟩:=pl
   exact ⟨o,e,hd⟩
  .refine ⟨⟨o,I.kIn p o hk,hc⟩,fun a e=>?_⟩
   cases e
   exact ⟨o,I.kIn _ o hk,hd⟩
  .have z:∃ o,s.heap.get? p=some o/\o.ExactDict:=by
    rcases hk with ⟨kvs,hk⟩|⟨kvs,hk⟩
    .obtain ⟨_,_,_,_,o,_,_,e,ex,_⟩:=I.hok p _ hk
     exact ⟨o,e,ex⟩
    .obtain ⟨_,_,_,_,o,_,_,e,ex,_⟩:=I.hok p _ hk
     exact ⟨o,e,ex⟩
   obtain ⟨o,e,ex⟩:=z
   refine ⟨⟨o,e,ex.1⟩,fun a e2=>?_⟩
   cases e2
   exact ⟨o,e,ex.2.1⟩
  .obtain ⟨o,_,_,_,e,ex,_⟩:=I.hok p _ hk
   refine ⟨⟨o,e,ex.1⟩,fun a e2=>?_⟩
   cases e2
   exact ⟨o,e,ex.2.1⟩
 | _=>exact False.elim ty
noncomputable def yMn (K:PySem.W.Frag) (T:String) (r:V->List V->Hp->VK->Prop) (to:TE):TE:=fun σ H Q=>to σ H fun x H1=>tyV K T x H1/\r x [] H1 Q
noncomputable def tBM (K:PySem.W.Frag) (T:String) (r:V->List V->Hp->VK->Prop) (to:TE) (t:TA):TE:=fun σ H Q=>to σ H fun x H1=>tyV K T x H1/\t σ H1 fun xs H2=>r x xs H2 Q
variable {o e:Expr}{es:List Expr}{to:TE}{t:TA}{name:Str}{apos cpos:Pos}{T id:String}{r:V->List V->Hp->VK->Prop}
theorem yHg (pa:PlainAttrs T) (slot:Slot T name id) (hty:typeOf (.builtin id)=pure (.type "method_descriptor")) (hm:MtR X id r) (ho:PE X o to)
  (hbase:attributeBase o name X.env (eval o X.env)=eval o X.env:=by rfl) (hline:(apos.endLine == cpos.line)=true:=by rfl):PE X (.Call (.Attribute o name apos) [] [] cpos) (yMn X.K T r to):=by
 intro pins s σ H Q I h
 refine wpAny_Call_method0_late hbase hline (thn (ho pins s σ H _ I h) fun v s1 ⟨x,H1,I1,r1,ty,q1⟩=>?_)
 obtain ⟨h1,h2⟩:=yDv I1 r1 ty
 exact ⟨T,id,pa,slot,hty,h1,h2,Calls.callWith_builtin rfl (PySem.evalArgs_none (hm pins s1 σ H1 x [] v [] Q I1 r1 .nil q1))⟩
theorem yHh (pa:PlainAttrs T) (slot:Slot T name id) (hty:typeOf (.builtin id)=pure (.type "method_descriptor")) (hm:MtR X id r) (ho:PE X o to) (ha:PA X (e::es) t)
  (hbase:attributeBase o name X.env (eval o X.env)=eval o X.env:=by rfl)
  (hfew:((backTo cpos (starEach (e::es) X.env)).all (fun x=>!x.1) && (backToKw cpos (keywordEach [] X.env)).all (fun x=>x.1.isSome)
   && decide ((e::es).length+([]:List Keyword).length+(if ([]:List Keyword).isEmpty then 0 else 1)<30))=true:=by rfl)
  (hline:(apos.endLine == cpos.line)=true:=by rfl) (hs:starEach (e::es) X.env=(false,eval e X.env)::starEach es X.env:=by rfl) (hplain:(backTo cpos (starEach es X.env)).any (·.1)=false:=by rfl) :
  PE X (.Call (.Attribute o name apos) (e::es) [] cpos) (tBM X.K T r to t):=by
 intro pins s σ H Q I h
 refine wpAny_Call_method_late hbase hfew hline rfl (thn (ho pins s σ H _ I h) fun v s1 ⟨x,H1,I1,r1,ty,q1⟩=>?_)
 obtain ⟨h1,h2⟩:=yDv I1 r1 ty
 refine ⟨T,id,pa,slot,hty,h1,h2,?_⟩
 have hA:=ha cpos pins s1 σ H1 _ I1 q1
 rw [hs] at hA ⊢
 refine Calls.callWith_builtin (by show (false || (backTo cpos (starEach es X.env)).any (·.1))=false;rw [hplain]<;>rfl) (Calls.evalArgs_plain ?_)
 exact thn hA fun us s2 ⟨vs,H2,I2,r2,q2⟩=>hm pins s2 σ H2 x vs v us Q I2 r1 r2 q2
end
end L2
namespace L2
open PySem PySem.Spec PyProof.Rows
noncomputable def MtM (X:Cx) (id:String) (r:V->List V->Hp->VK->Prop):Prop :=
 ∀ (pins:List (Addr×Obj)) (s:Shared) (σ:St) (H:Hp) (x:V) (xs:List V) (v:Value) (us:List Value) (Q:VK),Inv X pins σ H s->RelV x v->Vals xs us->r x xs H Q ->
  wpAny (model X.prog X.w) X.A (call (.builtin id) (v::us)) (EP X pins σ Q) X.xe s
theorem Vals.one:∀ {x:V}{us:List Value},Vals [x] us->∃ u,us=[u]/\RelV x u
 | _,_,.cons r .nil=>⟨_,rfl,r⟩
theorem Vals.zero:∀ {us:List Value},Vals [] us->us=[]
 | _,.nil=>rfl
theorem Vals.rep {xs:List V}{us:List Value}(h:Vals xs us):∀ k:Nat,Vals (List.replicate k xs).flatten (List.replicate k us).flatten
 | 0=>.nil
 | k+1=>by
  rw [List.replicate_succ,List.replicate_succ,List.flatten_cons,List.flatten_cons]
  exact Vals.append h (Vals.rep h k)
section
variable {X:Cx}{pins:List (Addr×Obj)}{σ:St}{H:Hp}{s:Shared}{l b:Addr}{xs ys zs:List V}
theorem Inv.lset {its its':List Value}{n:Nat}{f:Array Value->Array Value}{t':Nat}(I:Inv X pins σ H s) (hH:H l=some (.lst xs))
  (e:s.heap.get? l=some { cls:=.type "list",data:=.seq its.toArray n }) (hf:f its.toArray=its'.toArray) (hv:Vals ys its') (hz:ys.length<=sizeLine) :
  Inv X pins σ (upd H l (.lst ys)) { s with heap:=s.heap.update l (Obj.mapSeq f),toks:=t' }:=by
 have q:=PySem.IsL.update e f
 rw [hf] at q
 refine I.write (x:=l) (e:=l) (by rw [hH];exact trivial) (.inl rfl) (fun b' u hb hu=>(Heap.get?_update_other s.heap (Obj.mapSeq f) (Ne.symm hb)).trans hu) ⟨_,q⟩ ?_
 exact ⟨hz,its',_,hv,q⟩
theorem Inv.lnew {its:List Value}{t':Nat}(I:Inv X pins σ H s) (hv:Vals ys its) (hz:ys.length<=sizeLine) :
  Inv X pins σ (upd H s.heap.objs.size (.lst ys)) { s with heap:=s.heap.push { cls:=.type "list",data:=.seq its.toArray },toks:=t' } :=
 I.laid (fun _ _ q=>Heap.get?_push_of_some _ q) (Nat.le_refl _) ⟨hz,its,0,hv,Heap.get?_push_size _ rfl⟩
theorem Inv.fresh (I:Inv X pins σ H s):H s.heap.objs.size=none:=I.hok.fresh (Nat.le_refl _)
theorem Inv.lstM (I:Inv X pins σ H s) (hH:H l=some (.lst xs)):xs.length<=sizeLine/\∃ (its:List Value) (n:Nat),Vals xs its/\xs.length=its.length/\s.heap.get? l=some { cls:=.type "list",data:=.seq its.toArray n }:=by
 obtain ⟨z,its,n,r,e⟩:=I.hok l _ hH
 exact ⟨z,its,n,r,r.length,e⟩
end
section
variable {X:Cx}
noncomputable def yvd:V->List V->Hp->VK->Prop:=fun x vs H Q=>∃ l xs y,x=.ref l/\vs=[y]/\H l=some (.lst xs)/\xs.length<sizeLine/\Q .non (upd H l (.lst (xs++[y])))
theorem yni:MtM X "list.append" yvd:=by
 intro pins s σ H x vs v us Q I rx rv h
 obtain ⟨l,xs,y,rfl,rfl,hH,hz,q⟩:=h
 cases rx
 obtain ⟨u,rfl,ru⟩:=rv.one
 obtain ⟨z,its,n,r,hl,e⟩:=I.lstM hH
 refine call_meets F.slot_list_append ⟨_,e,rfl⟩ F.entry_list_append (F.args_list_append_2 _ _) (PySem.list_append l its.toArray n u (by rw [List.size_toArray];omega)) ⟨e,?_⟩
 refine ⟨.non,_,I.lset (its':=its++[u]) hH e (by simp) (r.append (.cons ru .nil)) ?_,rfl,q⟩
 rw [List.length_append,List.length_singleton]
 omega
def yDw:V->List V->Hp->VK->Prop:=fun x vs H Q=>∃ l xs,x=.ref l/\vs=[]/\H l=some (.lst xs)/\Q .non (upd H l (.lst []))
theorem ywB:MtM X "list.clear" yDw:=by
 intro pins s σ H x vs v us Q I rx rv h
 obtain ⟨l,xs,rfl,rfl,hH,q⟩:=h
 cases rx
 have hus:=rv.zero
 subst hus
 obtain ⟨z,its,n,r,hl,e⟩:=I.lstM hH
 refine call_meets F.slot_list_clear ⟨_,e,rfl⟩ F.entry_list_clear (F.args_list_clear_1 _) (AutoSeq1.list_clear_list_0 l its.toArray n (by rw [List.size_toArray];omega)) ⟨e,?_⟩
 exact ⟨.non,_,I.lset (its':=[]) (ys:=[]) hH e rfl .nil (Nat.zero_le _),rfl,q⟩
noncomputable def yMo:R2:=fun x y H Q=>∃ l b xs zs,x=.ref l/\y=.ref b/\H l=some (.lst xs)/\H b=some (.lst zs)/\xs.length+zs.length<=sizeLine/\∀ p,H p=none->Q (.ref p) (upd H p (.lst (xs++zs)))
theorem yDx:OpR X (binaryOp .Add) yMo:=by
 intro pins s σ H x y v u Q I rx ry h
 obtain ⟨l,b,xs,zs,rfl,rfl,hH,hB,hz,q⟩:=h
 cases rx
 cases ry
 obtain ⟨z,its,n,r,hl,e⟩:=I.lstM hH
 obtain ⟨z2,its2,n2,r2,hl2,e2⟩:=I.lstM hB
 refine PySem.P.add_list e e2 ?_ (by rw [List.size_toArray,List.size_toArray];omega)
 have ea:its.toArray++its2.toArray=(its++its2).toArray:=by simp
 rw [ea]
 exact ⟨.ref _,_,I.lnew (t':=s.toks) (r.append r2) (by rw [List.length_append];omega),rfl,q _ I.fresh⟩
end
section
variable {prog:Program}{w:World}{A:Around}{E:Value->Shared->Prop}{s:Shared}
end
section
variable {X:Cx}
end
end L2
namespace Att
open PySem PySem.W PySem.Calls PyProof.Rows
theorem ypA {P:Params}{h:Heap}:∀ (ns:List Int) (vs:List Value),WellAll P h vs (ns.map WData.int)->IntsAre vs ns:=by
 intro ns
 induction ns with
 | nil =>
  intro vs w
  rw [List.map_nil] at w
  cases w
  exact .nil
 | cons n ns ih =>
  intro vs w
  rw [List.map_cons] at w
  cases w with
  | cons a b =>
   cases a
   exact .cons _ _ (ih _ b)
theorem yzl {l:OpenLaw}{n:Nat}(hn:l.most=some n) {P:Params}{h:Heap}{args:List WData}{vals:List Value}
  (hpre:l.row.toRowW.claim.pre args=true) (hwl:WellAll P h vals args) :
  ∃ a vs ns,vals=[Value.ref a]/\args=[WData.list (ns.map WData.int)]/\h.get? a=some { cls:=.type "list",data:=.seq vs.toArray }/\IntsAre vs ns/\ns.length<=n:=by
 have hsh:WShape.hasAll [] args [.list .int]=true:=(pre_splitW hpre).1
 have hc:l.pre.holds [] { args:=args }=true:=(pre_splitW hpre).2
 obtain ⟨d,r,rfl,h1,h2⟩:=hasAllW_cons hsh
 obtain rfl:=hasAllW_nil h2
 obtain ⟨xs,rfl,h3⟩:=hasW_list h1
 obtain ⟨ns,rfl⟩:=items_int h3
 have hlen:ns.length<=n:=by
  unfold OpenLaw.pre at hc
  have h4:(WTm.not (.lt (.lit (.int (n:Int))) (.len (.arg 0)))).holds [] { args:=[.list (ns.map .int)] }=true:=by
   have h4:=(holds_andW hc).1
   rw [hn] at h4
   exact h4
  have h5:=condW_of h4 (w_not (w_lt w_lit (w_len_list (w_arg rfl))))
  rw [List.length_map] at h5
  refine Nat.le_of_not_lt fun q=>?_
  have q':(n:Int)<((ns.length:Nat):Int):=by omega
  first
   | (rw [decide_eq_true q'] at h5;exact absurd h5 (by decide))
   | (simp at h5;omega)
 cases hwl with
 | cons w1 w2 =>
  cases w2
  cases w1 with
  | list ho hall=>exact ⟨_,_,ns,rfl,rfl,ho,ypA ns _ hall,hlen⟩
theorem yzm (l:OpenLaw) (args:List WData):l.row.toRowW.claim.post args (.bool true) args=true :=
 postW_of (r:=l.row.toRowW) (X:=(true == true))
  (show WShape.has [] (.bool true) .bool=true by first|rfl|decide|simp [WShape.has,WShape.arms,WShape.armsAll])
  (show (WTm.eq .res (.lit (.bool true))).value [] { args:=args,res:=some (.bool true),after:=args }=some (.bool (true == true)) from w_eq_bool (w_res rfl) w_lit) rfl
theorem attach_call {l:OpenLaw}{n:Nat}{q:Program}{loose:List Str}{XP:(Str->Option Value)->Heap->Prop}{YP:World->Heap->Prop}{d:DefRec}
  (hn:l.most=some n) (hdf:d.params.defaults=[])
  (call:∀ (w:World) (s₀ s₁:Shared) (mg mb:Str->Option Value) (fa:Addr) (o:Obj) (pm cd doc:Value) (a:Addr) (vs:List Value) (ns:List Int),
   Ground q loose [] XP w s₀ mg mb s₁.heap->YP w s₁.heap ->
   s₁.heap.get? fa=some o->o.data=.func (docDef d.name d.params d.body d.scope pm cd doc)->s₁.heap.CodeRec cd d.name->mg d.name=some (.ref fa) ->
   s₁.heap.get? a=some { cls:=.type "list",data:=.seq vs.toArray }->IntsAre vs ns->ns.length<=n->s₁.gens = #[] ->
   codeAny (model l.prog w) callerA (.call (.ref fa) ⟨[.ref a],[]⟩) (fun r s'=>r=.ok (.ret (.bool true))/\OldK s₁.heap s'.heap/\s'.os=s₁.os/\AllBare s'.gens) s₁) :
  WalkO q loose XP YP l.row.toRowW d [] (fun f vs=>PySem.call f vs):=by
 intro w s₀ s₁ mg mb G Y fa o pm cd doc dV kV ho hd hcd hD hmg hg args vals as hpre hlay hrd hwl hlo
 obtain rfl:dV=.none:=Dflts.none hD hdf
 obtain rfl:kV=.none:=Dflts.noKw hD
 obtain ⟨a,vs,ns,rfl,rfl,hobj,hints,hlen⟩:=yzl hn hpre hwl
 refine enter_call (codeAny_mono (call w s₀ s₁ mg mb fa o pm cd doc a vs ns G Y ho (fd_plain hd) hcd hmg hobj hints hlen hg) fun r s' hq=>?_)
 obtain ⟨rfl,h2,h3,h4⟩:=hq
 exact ⟨.inl ⟨.bool true,.bool true,[],rfl,fun _=>rfl,.bool true,yzm l _,fun _=>⟨List.Pairwise.nil,fun _ hm=>(nomatch hm)⟩⟩,h2,h3,h4⟩
section
variable {prog:Program}{w:World}{A:Around}{E:Value->Shared->Prop}{s:Shared}{K:Frag}
end
end Att
namespace L2
open PySem PySem.Spec PyProof.Rows
theorem ypB:∀ {vs:List Value}{ns:List Int},IntsAre vs ns->Vals (ns.map V.int) vs
 | _,_,.nil=>.nil
 | _,_,.cons n t h=>.cons ⟨t,rfl⟩ (ypB h)
def yJZ (H:Hp):Prop:=∀ b,H b=none\/∃ o xs,H b=some (.frz o (.lst xs))
theorem yBG {P:Program}{w:World}{K:PySem.W.Frag}{mg mb:Str->Option Value}{CX:CXT}{k:Nat}{fa a:Addr}{fd:FuncData}{x:Str}{sp:Sp}{s₁:Shared}{vs:List Value}{ns:List Int}
  (KX:K.In s₁.heap) (hns:s₁.heap.Ns mainGlobals mg) (hb:s₁.heap.Ns builtinsNs mb) (hbb:∀ x:Str,x≠"__name__"->mb x=bootBuiltins x) (hlim:s₁.heap.NoLimit) (hg:s₁.gens = #[])
  (ha:s₁.heap.get? a=some { cls:=.type "list",data:=.seq vs.toArray }) (hi:IntsAre vs ns) (hl:ns.length<=sizeLine) (hr:Room k callerA)
  (F:∀ base:Heap,K.In base->base.Ns mainGlobals mg->FnOk P w K mg base CX k fa fd [x] sp) (hbind:∀ (s:Shared) (u:Value),BindsTo s fd ⟨[u],[]⟩ [(x,u)])
  (hsp:∀ H:Hp,yJZ H->SqL K H a (ns.map V.int)->sp [.ref a] H (fun v _=>v=.bl true) fun _ _ _=>False)
  (hCX:∀ H e s',CX [] H s₁ (fun _ _ _=>False) e s'->False) :
  codeAny (model P w) callerA (.call (.ref fa) ⟨[.ref a],[]⟩) (fun r s'=>r=.ok (.ret (.bool true))/\OldK s₁.heap s'.heap/\s'.os=s₁.os/\AllBare s'.gens) s₁:=by
 have rv:=ypB hi
 have lenV:=hi.length
 have core:∀ H:Hp,yJZ H->SqL K H a (ns.map V.int)->HOk P w H s₁.heap->(∀ b,H b≠none->b=a)->(H a≠none->K.lookup a=none) ->
   codeAny (model P w) callerA (.call (.ref fa) ⟨[.ref a],[]⟩) (fun r s'=>r=.ok (.ret (.bool true))/\OldK s₁.heap s'.heap/\s'.os=s₁.os/\AllBare s'.gens) s₁:=by
  intro H hO hS hok hA hK
  have base_of:∀ {b:Addr}{o:Obj},s₁.heap.get? b=some o->H b=none->(yBo s₁.heap H).get? b=some o:=fun e n=>yBp e n
  have noA:∀ {b:Addr}{o:Obj}{es:Array DictEntry}{ep:Nat},s₁.heap.get? b=some o->o.data=.dict es ep->H b=none:=fun {b o es ep} e d=>by
   cases q:H b with
   | none=>rfl
   | some u =>
    have e':b=a:=hA b (by rw [q];simp)
    subst e'
    rw [ha] at e;cases e
    have d':Data.seq vs.toArray _=Data.dict es ep:=d
    cases d'
  have nsK:∀ {b:Addr}{m:Str->Option Value},s₁.heap.Ns b m->(yBo s₁.heap H).Ns b m:=fun {b m} ⟨o,es,ep,e,d,r⟩=>⟨o,es,ep,base_of e (noA e d),d,r⟩
  have hKb:K.In (yBo s₁.heap H):=fun b o e=>base_of (KX b o e) (by
   cases q:H b with
   | none=>rfl
   | some u =>
    have e':b=a:=hA b (by rw [q];simp)
    subst e'
    rw [hK (by rw [q];simp)] at e;cases e)
  have hM:Mod K mg (yBo s₁.heap H):=⟨hKb,nsK hns,⟨mb,nsK hb,hbb⟩,let ⟨mc,h1,h2⟩:=hlim;⟨mc,nsK h1,h2⟩⟩
  have e0:Env0 P w K mg (yBo s₁.heap H) callerA [] s₁ H:=⟨rfl,hM,fun b o e=>yEf e,Nat.le_of_eq (yyK _ _),trivial,fun b hb=>absurd (show b∈([]:List Addr) from hb) (by simp),hok,.of_eq hg⟩
  refine codeAny_mono ((F _ hKb (nsK hns)).run callerA [] s₁ H ⟨[.ref a],[]⟩ [.ref a] [.ref a] _ _ hr e0 (hbind s₁ (.ref a)) (.cons rfl .nil) (hsp H hO hS)) fun r s' h=>?_
  cases r with
  | error e=>exact (hCX H e s' h).elim
  | ok fl =>
   cases fl with
   | next=>exact False.elim h
   | brk=>exact False.elim h
   | cont=>exact False.elim h
   | ret u =>
    obtain ⟨v,H',os,bare,un,hok',r',q⟩:=h
    have q':v=.bl true:=q
    subst q'
    obtain rfl:u=Value.bool true:=r'
    refine ⟨rfl,OldK.of_keep fun b o e=>?_,os,bare⟩
    cases q:H b with
    | none=>exact un.keep b o e q (by intro z;exact absurd (show b∈([]:List Addr) from z) (by simp)) (by simp)
    | some u =>
     rcases hO b with z|⟨ob,xs,z⟩
     .rw [q] at z;cases z
     .have z2:=un.frzs b ob _ z
      obtain ⟨e1,_⟩:=hok b _ z
      obtain ⟨e2,_⟩:=hok' b _ z2
      rw [e] at e1;cases e1
      exact e2
 cases hk:K.lookup a with
 | some o =>
  have e:=KX a o hk
  rw [ha] at e
  cases e
  refine core (fun _=>none) (fun _=>.inl rfl) (.inr ⟨_,vs.toArray,_,hk,rfl,rfl,rfl,by rw [List.size_toArray,lenV];exact hl,by simpa using rv⟩) (fun b u z=>by have z':(none:Option HO)=some u:=z;cases z') (fun b z=>absurd rfl z) fun z=>absurd rfl z
 | none =>
  refine core (fun b=>if b=a then some (.frz { cls:=.type "list",data:=.seq vs.toArray } (.lst (ns.map V.int))) else none) (fun b=>?_) (.inl (.inr ⟨{ cls:=.type "list",data:=.seq vs.toArray },if_pos rfl⟩)) (fun b u z=>?_) (fun b z=>?_) fun _=>hk
  .by_cases hb:b=a
   .exact .inr ⟨_,_,if_pos hb⟩
   .exact .inl (if_neg hb)
  .by_cases hb:b=a
   .have z':=(if_pos hb).symm.trans z
    cases z'
    subst hb
    exact ⟨ha,by rw [List.length_map];exact hl,vs,_,rv,ha⟩
   .have z':=(if_neg hb).symm.trans z
    cases z'
  .by_cases hb:b=a
   .exact hb
   .exact absurd (if_neg hb) z
end L2
namespace L2
open PySem PySem.Spec PyProof.Rows
theorem walk_of {l:PySem.W.OpenLaw}{n k:Nat}{q:Program}{loose:List Str}{XP:(Str->Option Value)->Heap->Prop}{YP:World->Heap->Prop}{d:DefRec}{K:Params->PySem.W.Frag}{CX:World->CXT}{sp:World->Sp}{x:Str}
  (hn:l.most=some n) (hn2:n<=sizeLine) (hdf:d.params.defaults=[]) (hr:Room k callerA)
  (hY:∀ (w:World) (h:Heap),YP w h->(K w.params).In h)
  (F:∀ (w:World) (mg:Str->Option Value) (fa:Addr) (h:Heap),(K w.params).In h->h.Ns mainGlobals mg->mg d.name=some (.ref fa) ->
   ∃ fd:FuncData,(∀ (s:Shared) (u:Value),BindsTo s fd ⟨[u],[]⟩ [(x,u)]) /\
    ∀ base:Heap,(K w.params).In base->base.Ns mainGlobals mg->FnOk l.prog w (K w.params) mg base (CX w) k fa fd [x] (sp w))
  (hsp:∀ (w:World) (H:Hp) (a:Addr) (ns:List Int),ns.length<=n->yJZ H->SqL (K w.params) H a (ns.map V.int)->sp w [.ref a] H (fun v _=>v=.bl true) fun _ _ _=>False)
  (hCX:∀ (w:World) (H:Hp) (s:Shared) (e:Value) (s':Shared),CX w [] H s (fun _ _ _=>False) e s'->False) :
  PySem.W.WalkO q loose XP YP l.row.toRowW d [] (fun f vs=>PySem.call f vs):=by
 refine Att.attach_call hn hdf fun w s₀ s₁ mg mb fa o pm cd doc a vs ns G Y ho hd hcd hmg hobj hints hlen hg=>?_
 have KX:=hY w _ Y
 obtain ⟨fd,hb,hF⟩:=F w mg fa _ KX G.T.g hmg
 exact yBG KX G.T.g G.T.b G.T.builtins G.T.nolimit hg hobj hints (Nat.le_trans hlen hn2) hr hF hb (fun H hO hS=>hsp w H a ns hlen hO hS) fun H e s'=>hCX w H s₁ e s'
end L2
namespace L2
open PySem PySem.Spec PyProof.Rows
noncomputable def inClass (s:Stmt) (j:Nat):Stmt:=match s with
 | .ClassDef _ _ _ body _ _ _ _ _ _ _=>body.getD j (.Pass ⟨0,0,0,0⟩)
 | _=>.Pass ⟨0,0,0,0⟩
noncomputable def yi (s:Stmt):Arguments:=match s with
 | .FunctionDef _ a _ _ _ _ _ _ _ _=>a
 | _=>{ posonlyargs:=[],args:=[],vararg:=none,kwonlyargs:=[],kw_defaults:=[],kwarg:=none,defaults:=[] }
def yg (s:Stmt):List Stmt:=match s with
 | .FunctionDef _ _ b _ _ _ _ _ _ _=>b
 | _=>[]
noncomputable def yb (s:Stmt):Scope:=match s with
 | .FunctionDef _ _ _ _ _ _ sc _ _ _=>sc
 | _=>{ kind:=.function,names:=[],isGenerator:=false,isCoroutine:=false }
abbrev CX0:CXT:=fun _ _ _ _ _ _=>False
abbrev E0:XK:=fun _ _ _=>False
theorem yxB {X:Cx}:ypx CX0 X E0:=fun _ _ _ _ _ _ _ h=>h.elim
structure Fun (K:PySem.W.Frag) (x qual:Str) (st:Stmt) (f:Addr) (fd:FuncData):Prop where
 ex:∃ (oc:Value) (od:Option Addr) (kV doc pm:Value) (an:Option Addr) (cdv ct:Value) (osl:Array (Option Value)),
  fd=fnOf x qual (yi st) (yg st) (yb st) .none kV doc pm an cdv ct/\K.lookup f=some ⟨oc,od,.func fd,osl⟩/\codeIn K cdv qual=true
 kp:keepIn K (.ref f)=true
section
variable {P:Program}{w:World}{K:PySem.W.Frag}{mg:Str->Option Value}{base:Heap}
theorem Fun.ok {x qual:Str}{st:Stmt}{f:Addr}{fd:FuncData}{N ps:List Str}{k:Nat}{sp:Sp}(F:Fun K x qual st f fd) (S:yv N ps (yb st)) (len:∀ vs H Q E,sp vs H Q E->vs.length=ps.length)
  (hbody:∀ (cdv:Value) (A:Around) (outer:List Env) (s:Shared) (H:Hp) (vs:List V) (Q:VK) (E:XK),Room k (A.deeper (envOfC qual (yb st) s.heap.objs.size f cdv))->sp vs H Q E ->
   ∃ t,PSs (yDs CX0 P w K mg base N qual (yb st) f cdv A outer s H E).nox (yg st) t/\t { nx:=fun _ H'=>Q .non H',rt:=Q } (start N vs) H):FnOk P w K mg base CX0 (k+1) f fd ps sp:=by
 obtain ⟨oc,od,kV,doc,pm,an,cdv,ct,osl,rfl,lk,hcd⟩:=F.ex
 refine yJX lk hcd S len fun A outer s H vs Q E hr hsp=>?_
 obtain ⟨t,h,q⟩:=hbody cdv A outer s H vs Q E hr hsp
 exact ⟨t,h.nox,q⟩
theorem Fun.binds {x qual:Str}{st:Stmt}{f:Addr}{fd:FuncData}{ps:List Str}(F:Fun K x qual st f fd)
  (h:∀ (kV doc pm:Value) (an:Option Addr) (cdv ct:Value) (us:List Value),us.length=ps.length->bindArgs (fnOf x qual (yi st) (yg st) (yb st) .none kV doc pm an cdv ct) ⟨us,[]⟩=pure (ps.zip us)):Binds K fd ps []:=by
 obtain ⟨oc,od,kV,doc,pm,an,cdv,ct,osl,rfl,lk,hcd⟩:=F.ex
 exact .all (h kV doc pm an cdv ct)
theorem yQ {x qual:Str}{st:Stmt}{f:Addr}{oc:Value}{od an:Option Addr}{osl:Array (Option Value)}{kV doc pm cdv ct:Value}(l:K.lookup f=some ⟨oc,od,.func (fnOf x qual (yi st) (yg st) (yb st) .none kV doc pm an cdv ct),osl⟩)
  (c:codeIn K cdv qual=true) (k:keepIn K (.ref f)=true):Fun K x qual st f (fnOf x qual (yi st) (yg st) (yb st) .none kV doc pm an cdv ct):=⟨⟨oc,od,kV,doc,pm,an,cdv,ct,osl,rfl,l,c⟩,k⟩
end
theorem ytm {n:Nat}(h:n<=1000):n<sizeLine:=Nat.lt_of_le_of_lt h (by decide)
section
variable {X:Cx}
end
def Same (H H':Hp):Prop:=∀ b o,H b=some o->H' b=some o
theorem Same.refl (H:Hp):Same H H:=fun _ _ h=>h
theorem Same.trans {H H1 H2:Hp}(a:Same H H1) (b:Same H1 H2):Same H H2:=fun c o h=>b c o (a c o h)
theorem Same.free {H H':Hp}(e:Same H H') {l:Addr}(h:H' l=Option.none):H l=Option.none:=by
 cases q:H l with
 | none=>rfl
 | some o =>
  rw [e l o q] at h
  cases h
theorem Same.seq {K:PySem.W.Frag}{H H':Hp}{a:Addr}{xs:List V}(e:Same H H') (h:SqL K H a xs):SqL K H' a xs:=by
 rcases h with (h|⟨o,h⟩)|h
 .exact .inl (.inl (e _ _ h))
 .exact .inl (.inr ⟨o,e _ _ h⟩)
 .exact .inr h
end L2
namespace L2
open PySem PySem.Spec PyProof.Rows
def cV:V->Option Value
 | .ty n=>some (.type n)
 | .ref a=>some (.ref a)
 | _=>none
def IsI (K:PySem.W.Frag) (H:Hp) (x c:V) (b:Bool):Prop:=∃ t u,ypn K H x t/\cV c=some u/\PySem.W.kitOne K t u=some b
theorem yve {K:PySem.W.Frag}{H:Hp}{i:Int}:IsI K H (.int i) (.ty "int") true:=⟨_,_,.int i,rfl,by with_unfolding_all rfl⟩
theorem ytn {K:PySem.W.Frag}{H:Hp}{i:Int}:IsI K H (.int i) (.ty "bool") false:=⟨_,_,.int i,rfl,by with_unfolding_all rfl⟩
theorem yvf {K:PySem.W.Frag}{H:Hp}:IsI K H .non (.ty "int") false:=⟨_,_,.non,rfl,by with_unfolding_all rfl⟩
theorem yvg {K:PySem.W.Frag}{H:Hp}{i:Bool}:IsI K H (.bl i) (.ty "bool") true:=⟨_,_,.bl i,rfl,by with_unfolding_all rfl⟩
theorem yvh {K:PySem.W.Frag}{H:Hp}{i:Str}:IsI K H (.str i) (.ty "str") true:=⟨_,_,.str i,rfl,by with_unfolding_all rfl⟩
theorem yto {K:PySem.W.Frag}{H:Hp}{a:Addr}{xs:List V}(e:H a=some (.lst xs)):IsI K H (.ref a) (.ty "list") true:=⟨_,_,.lst e,rfl,by with_unfolding_all rfl⟩
theorem str_len {v:Int}(h0:0<=v) {k:Nat}(hk:0<k) (h:v<10 ^ k):(Str.ofString (toString v)).length<=k:=toString_length_le h0 hk h
end L2
namespace L2
open PySem
abbrev yKa:R2:=rI0 fun i j=>.int (i+j)
abbrev yKb:R2:=rI0 fun i j=>.int (i-j)
abbrev yKc:R2:=rI CMul fun i j=>.int (i*j)
abbrev yKd:R2:=rI yMf fun i j=>.int (i/j)
abbrev yKe:R2:=rI (fun _ j=>0<j) fun i j=>.int (i%j)
abbrev yKf:R2:=rI yJV fun i j=>.int (i ^ j.toNat)
abbrev yME:R2:=rI0 fun i j=>.bl (decide (i<j))
abbrev yMF:R2:=rI0 fun i j=>.bl (decide (i<=j))
abbrev yMG:R2:=rI0 fun i j=>.bl (decide (j<i))
abbrev yKg:V->Hp->VK->Prop:=rU fun i=>.int (-i)
def yKh:R2:=fun x y H Q=>∃ i j,x=.str i/\y=.str j/\i.length+j.length<=sizeLine/\Q (.str (i++j)) H
def yMH:R2:=fun x y H Q=>y=.non/\Q (.bl (decide (x=.non))) H
def yKi:R2:=fun x y H Q=>y=.non/\Q (.bl (!decide (x=.non))) H
noncomputable def yKj:List V->Hp->VK->Prop:=fun xs H Q=>(∃ i,xs=[.int i]/\Q (.int i) H)\/∃ k,xs=[.bl k]/\Q (.int (if k then 1 else 0)) H
def yKk:List V->Hp->VK->Prop:=fun xs H Q=>∃ z,xs=[.str z]/\z.length<=sizeLine/\Q (.int z.length) H
noncomputable def yKl (K:PySem.W.Frag):List V->Hp->VK->Prop:=fun xs H Q=>∃ p ys,xs=[.ref p]/\(SqL K H p ys\/SqT K H p ys)/\Q (.int ys.length) H
def yKm:List V->Hp->VK->Prop:=fun xs H Q=>∃ i,xs=[.int i]/\i.natAbs.log2<1920/\Q (.str (toString i)) H
def yMp (K:PySem.W.Frag):List V->Hp->VK->Prop:=fun xs H Q=>∃ x c b,xs=[x,c]/\IsI K H x c b/\Q (.bl b) H
theorem yiZ {H:Hp}{p:Addr}(h:H p=none) (o:HO):Same H (upd H p o):=fun b u q=>by rw [ybV (ydM q h)];exact q
section
variable {K:PySem.W.Frag}{σ:St}{H:Hp}{Q:VK}{ta tb tc:TE}{tA tB':TT}{t u:TS}{D:Ends}
theorem w_not {Q:Bool->Hp->Prop}:yJN tA σ H Q=tA σ H fun c H1=>Q (!c) H1:=rfl
end
end L2
namespace L2
open PySem
def yEB (cs:List Nat):Int:=cs.foldl (fun (a:Int) (c:Nat)=>a*10+((c:Int)-48)) 0
noncomputable def yHi:List V->Hp->VK->Prop:=fun xs H Q=>∃ x:Str,xs=[.str x]/\x.cps.toList≠[]/\(∀ c∈x.cps.toList,48<=c/\c<=57)/\x.length<=640/\Q (.int (yEB x.cps.toList)) H
def yMq:R2:=fun x y H Q=>∃ (c:Nat) (j:Str),x=.str ⟨#[c]⟩/\y=.str j/\Q (.bl (decide (c∈j.cps.toList))) H
noncomputable def rJoin:V->List V->Hp->VK->Prop:=fun x vs H Q=>∃ (sep:Str) (p:Addr) (ts:List Str),x=.str sep/\vs=[.ref p]/\H p=some (.lst (ts.map V.str))/\sep.length<=16/\(ts.map (·.length)).sum+ts.length<=1048576/\Q (.str (Str.join sep ts)) H
noncomputable def yMr:List V->Hp->VK->Prop:=fun xs H Q=>∃ (p:Addr) (bs:List Bool),xs=[.ref p]/\H p=some (.lst (bs.map V.bl))/\Q (.bl (bs.all id)) H
noncomputable def yMs:List V->Hp->VK->Prop:=fun xs H Q=>∃ (p:Addr) (ns:List Int),xs=[.ref p]/\H p=some (.lst (ns.map V.int))/\Q (.int ns.sum) H
noncomputable def yEC (K:PySem.W.Frag):List V->Hp->VK->Prop:=fun xs H Q=>∃ p ys,xs=[.ref p]/\(SqL K H p ys\/SqT K H p ys)/\∀ l,H l=none->Q (.ref l) (upd H l (.lst ys))
noncomputable def Its (z:Str):It:=⟨fun i _=>i<z.length,fun i H x H'=>H'=H/\∃ c,z.cps.toList[i]?=some c/\x=.str ⟨#[c]⟩,fun i _=>i=z.length⟩
def yMt (ta:TE):TI:=fun σ H R=>ta σ H fun x H1=>∃ z,x=.str z/\z.length<=sizeLine/\R (Its z) H1
noncomputable def yKn (J:It) (te:TE) (inn:V->St) (D:Addr) (Q:VK) (H:Hp):Prop:=∃ W:Nat->Nat->Hp->Prop,(∃ m,W 0 m H)/\∀ i m H,W i m H ->
 (J.stop i H/\Q (.ref D) H)\/(J.go i H/\∀ x H',J.yld i H x H'->te (inn x) H' fun y H2=>∃ acc,H2 D=some (.lst acc)/\acc.length<sizeLine/\∃ m',m'<m/\W (i+1) m' (upd H2 D (.lst (acc++[y]))))
def inner (ix:List Nat) (σ:St) (x:V):St:=some x::ix.map fun i=>(σ[i]?).getD none
noncomputable def yHj (wi:TI) (ix:List Nat) (te:TE):TE:=fun σ H Q=>wi σ H fun J H1=>∀ D,H1 D=none->yKn J te (inner ix σ) D Q (upd H1 D (.lst []))
section
variable {K:PySem.W.Frag}{σ:St}{H:Hp}{Q:VK}{ta tb tc:TE}{tA tB':TT}{t u:TS}{D:Ends}
end
end L2
namespace L2
open PySem
def yDy (C:Addr):TE:=fun _ H Q=>∀ x dx,H x=none->H dx=none->dx≠x->Q (.ref x) (upd (upd H dx (.own x)) x (.ins C dx []))
noncomputable def yDz {κ:Type}(A:κ->Addr) (m:Str) (sp:κ->Sp) (ta:TE):TE:=fun σ H Q=>ta σ H fun x H1=>∃ a k dx fs,x=.ref a/\H1 a=some (.ins (A k) dx fs)/\fs.lookup m=none/\sp k [x] H1 Q E0
theorem yKo {k:Str}{v:V}{r:List (Str×V)}:List.lookup k ((k,v)::r)=some v:=by simp [List.lookup]
theorem yHk {k k':Str}{v:V}{r:List (Str×V)}(h:¬ k=k'):List.lookup k ((k',v)::r)=List.lookup k r:=by
 have:(k == k')=false:=by simpa using h
 simp [List.lookup,this]
section
variable {K:PySem.W.Frag}{σ:St}{H:Hp}{Q:VK}{ta tb tc:TE}{t u:TS}{D:Ends}
end
end L2
namespace L2
open PySem PySem.Builtin PySem.Builtin.Str
theorem at_one {z:Str}{c i:Nat}:StrLaws.At z ⟨#[c]⟩ z.length i ↔ z.cps.toList[i]?=some c:=by
 unfold StrLaws.At subAt
 have e1:(⟨#[c]⟩:Str).length=1:=rfl
 rw [e1]
 have e2:(z.cps.extract i (i+1) == (⟨#[c]⟩:Str).cps)=true ↔ z.cps.extract i (i+1) = #[c]:=by simp
 rw [e2]
 constructor
 .rintro ⟨h1,h2⟩
  have h3:(z.cps.extract i (i+1)).toList=[c]:=by rw [h2]
  rw [Array.toList_extract,List.extract_eq_take_drop] at h3
  have h4:((z.cps.toList.drop i).take (i+1-i))[0]?=some c:=by rw [h3];rfl
  rw [List.getElem?_take_of_lt (by omega),List.getElem?_drop] at h4
  simpa using h4
 .intro h
  obtain ⟨hlt,hc⟩:=List.getElem?_eq_some_iff.mp h
  have hl:i<z.length:=by simpa [Str.length] using hlt
  refine ⟨by omega,?_⟩
  apply Array.ext'
  rw [Array.toList_extract,List.extract_eq_take_drop]
  have e:i+1-i=1:=by omega
  rw [e,List.drop_eq_getElem_cons hlt,hc]
  rfl
theorem yED (z:Str) (c:Nat):(occurrences z ⟨#[c]⟩ 0 z.length 1=[]/\c∉z.cps.toList)\/∃ r,occurrences z ⟨#[c]⟩ 0 z.length 1=z.cps.toList.idxOf c::r/\c∈z.cps.toList:=by
 rcases StrLaws.occ_head z ⟨#[c]⟩ 1 (Nat.le_refl _) with ⟨h1,h2⟩|⟨i,r,h1,h2,h3⟩
 .refine .inl ⟨h1,fun hc=>?_⟩
  obtain ⟨i,hi,e⟩:=List.getElem_of_mem hc
  exact h2 i (at_one.mpr (List.getElem?_eq_some_iff.mpr ⟨hi,e⟩))
 .have hi:=at_one.mp h2
  obtain ⟨hlt,hc⟩:=List.getElem?_eq_some_iff.mp hi
  have hm:c∈z.cps.toList:=List.mem_of_getElem? hi
  refine .inr ⟨r,?_,hm⟩
  have hj:z.cps.toList.idxOf c<z.cps.toList.length:=List.idxOf_lt_length_of_mem hm
  have hg:z.cps.toList[z.cps.toList.idxOf c]?=some c:=by
   rw [List.getElem?_eq_getElem hj,List.getElem_idxOf hj]
  have e:i=z.cps.toList.idxOf c:=by
   rcases Nat.lt_trichotomy i (z.cps.toList.idxOf c) with h|h|h
   .exact absurd hc (by
     have:=List.not_of_lt_findIdx (p:=(· == c)) (xs:=z.cps.toList) (i:=i) (by simpa [List.idxOf] using h)
     simpa using this)
   .exact h
   .exact absurd (at_one.mpr hg) (h3 _ h)
  rw [h1,e]
end L2
namespace L2
open PySem PySem.Spec PyProof.Rows
theorem yjv {env:Env}(y:Str):∀ names:List (Str×NameKind),
  (names.map fun (n,k)=>if (k == NameKind.free && env.scope.kind == .function && env.kindOf n == some .cell) then (n,NameKind.cell) else (n,k)).lookup y
   = (names.lookup y).map fun k=>if (k == NameKind.free && env.scope.kind == .function && env.kindOf y == some .cell) then NameKind.cell else k
 | []=>rfl
 | (n,k)::r=>by
  have ih:=yjv (env:=env) y r
  show List.lookup y ((if (k == NameKind.free && env.scope.kind == .function && env.kindOf n == some .cell)=true then (n,NameKind.cell) else (n,k))::_)=_
  cases hx:y == n with
  | true =>
   have e:y=n:=eq_of_beq hx
   subst e
   by_cases hc:(k == NameKind.free && env.scope.kind == .function && env.kindOf y == some .cell)=true
   .rw [if_pos hc]
    simp only [List.lookup_cons,hx,Option.map_some,if_pos hc]
   .rw [if_neg hc]
    simp only [List.lookup_cons,hx,Option.map_some,if_neg hc]
  | false =>
   by_cases hc:(k == NameKind.free && env.scope.kind == .function && env.kindOf n == some .cell)=true
   .rw [if_pos hc];simp only [List.lookup_cons,hx];exact ih
   .rw [if_neg hc];simp only [List.lookup_cons,hx];exact ih
theorem ykX {env:Env}:∀ (names:List (Str×NameKind)) (cs:List (Str×Addr)),(∀ n,(n,NameKind.free)∈names->∃ c,env.cells.lookup n=some c) ->
  ∃ cl,(forIn names cs (fun (x:Str×NameKind) (r:List (Str×Addr))=>if (x.2 == NameKind.free)=true then do let c <- cellOf env x.1;pure (ForInStep.yield ((x.1,c)::r)) else pure (ForInStep.yield r)):Sem (List (Str×Addr)))=pure cl /\
   (∀ y,(y,NameKind.free)∈names->cl.lookup y=env.cells.lookup y)/\(∀ y,(y,NameKind.free)∉names->cl.lookup y=cs.lookup y)
 | [],cs,_=>⟨cs,rfl,fun y h=>by simp at h,fun y _=>rfl⟩
 | (n,k)::r,cs,h=>by
  by_cases hk:k=.free
  .subst hk
   obtain ⟨c,hc⟩:=h n List.mem_cons_self
   obtain ⟨cl,e,h1,h2⟩:=ykX r ((n,c)::cs) fun y hy=>h y (List.mem_cons_of_mem _ hy)
   refine ⟨cl,?_,fun y hy=>?_,fun y hy=>?_⟩
   .rw [List.forIn_cons]
    have e0:cellOf env n=pure c:=by unfold cellOf;rw [hc]
    simp only [beq_self_eq_true,if_true,e0,pure_bind]
    exact e
   .by_cases hr:(y,NameKind.free)∈r
    .exact h1 y hr
    .rw [h2 y hr]
     rcases List.mem_cons.mp hy with z|z
     .cases z
      rw [hc];simp [List.lookup]
     .exact absurd z hr
   .have hr:(y,NameKind.free)∉r:=fun z=>hy (List.mem_cons_of_mem _ z)
    rw [h2 y hr]
    have hn:(y == n)=false:=by
     cases e:y == n with
     | false=>rfl
     | true=>exact absurd (by rw [eq_of_beq e];exact List.mem_cons_self) hy
    simp [List.lookup,hn]
  .obtain ⟨cl,e,h1,h2⟩:=ykX r cs fun y hy=>h y (List.mem_cons_of_mem _ hy)
   have hb:(k == NameKind.free)=false:=by simpa using hk
   refine ⟨cl,?_,fun y hy=>?_,fun y hy=>?_⟩
   .rw [List.forIn_cons]
    simp only [hb,Bool.false_eq_true,if_false,pure_bind]
    exact e
   .rcases List.mem_cons.mp hy with z|z
    .cases z;exact absurd rfl hk
    .exact h1 y z
   .exact h2 y fun z=>hy (List.mem_cons_of_mem _ z)
noncomputable def cxC (X:Cx) (scope:Scope) (cl:List (Str×Addr)) (C:Addr) (N:List Str) (s₃:Shared) (H₃:Hp) (fp:List Addr) (pins:List (Addr×Obj)):Cx :=
 { prog:=X.prog,w:=X.w,K:=X.K,mg:=X.mg,base:=X.base,A:=X.A,N:=N,s₀:=s₃,H₀:=H₃,env:=compEnvC scope cl C X.env,outer:=X.stack,stack:=X.stack,ex:=fp,fn:=fun _=>false,calm:=X.calm,pn:=X.pn++pins,xe:=fun _ _=>False }
noncomputable def FrOk (X:Cx) (scope:Scope):List Nat->List Str->Prop
 | [],[]=>True
 | i::is,y::ys=>X.N[i]?=some y/\scope.names.lookup y=some .free/\X.env.kindOf y=some .cell/\FrOk X scope is ys
 | _,_=>False
theorem FrOk.len {X:Cx}{scope:Scope}:∀ {is:List Nat}{ys:List Str},FrOk X scope is ys->is.length=ys.length
 | [],[],_=>rfl
 | _::is,_::ys,h=>by rw [List.length_cons,List.length_cons,FrOk.len h.2.2.2]
theorem FrOk.get {X:Cx}{scope:Scope}:∀ {is:List Nat}{ys:List Str}{j:Nat}{y:Str},FrOk X scope is ys->ys[j]?=some y->∃ i,is[j]?=some i/\X.N[i]?=some y/\scope.names.lookup y=some .free/\X.env.kindOf y=some .cell
 | [],[],_,_,_,e=>by simp at e
 | [],_::_,_,_,h,_=>h.elim
 | _::_,[],_,_,h,_=>h.elim
 | i::is,z::ys,0,y,h,e=>by
  simp at e
  subst e
  exact ⟨i,rfl,h.1,h.2.1,h.2.2.1⟩
 | i::is,z::ys,j+1,y,h,e=>by
  obtain ⟨k,h1,h2⟩:=FrOk.get (j:=j) h.2.2.2 (by simpa using e)
  exact ⟨k,by simpa using h1,h2⟩
theorem yEE {X:Cx}{elt iter:Expr}{x:Str}{px:Pos}{scope:Scope}{cpos:Pos}{wi:TI}{te:TE}(ix:List Nat) (fr:List Str) (hc:X.calm=true) (hi:PI X (.Name x px) iter wi) (hfr:FrOk X scope ix fr)
  (he:∀ (cl:List (Str×Addr)) (C:Addr) (s₃:Shared) (H₃:Hp) (fp:List Addr) (pins:List (Addr×Obj)),PE (cxC X scope cl C (x::fr) s₃ H₃ fp pins) elt te)
  (hnd:(x::fr).Nodup:=by rfl') (hkind:scope.kind=.function:=by rfl) (hcell:∀ y∈scope.names,y.2≠.cell:=by rfl')
  (hnames:∀ y∈scope.names,y.2=.local->scope.names.lookup y.1=some .local:=by rfl') (hfree0:∀ y∈scope.names,y.2=.free->y.1∈fr:=by rfl') (hx:scope.names.lookup x=some .local:=by rfl)
  (hs:∀ v,foldedSetIterable iter X.env v=pure v:=by intro _;rfl):PE X (.ListComp elt [⟨.Name x px,iter,[],0⟩] scope cpos) (yHj wi ix te):=by
 intro pins s σ H Q I h
 have hfn:X.env.scope.kind=.function:=I.ok.kind
 have hfree:∀ y∈scope.names,y.2=.free->X.env.kindOf y.1=some .cell/\scope.names.lookup y.1=some .free:=fun y hy e=>by
  obtain ⟨j,hj,ej⟩:=List.getElem_of_mem (hfree0 y hy e)
  obtain ⟨i,_,_,h3,h4⟩:=hfr.get (j:=j) (y:=y.1) (by rw [List.getElem?_eq_getElem hj,ej])
  exact ⟨h4,h3⟩
 obtain ⟨cl,ecl,hcl1,hcl2⟩:=ykX (env:=X.env) scope.names [] fun n hn=>I.ok.has n (.inl (hfree _ hn rfl).1)
 have hclos:closureFor scope X.env=pure cl:=by
  unfold closureFor
  have:(forIn scope.names ([]:List (Str×Addr)) (fun (x:Str×NameKind) (r:List (Str×Addr))=>if (x.2 == NameKind.free)=true then do let c <- cellOf X.env x.1;pure (ForInStep.yield ((x.1,c)::r)) else pure (ForInStep.yield r)):Sem (List (Str×Addr)))=pure cl:=ecl
  first
   | exact (by simpa using congrArg (· >>= fun r=>pure r) this)
   | (rw [show (pure cl:Sem (List (Str×Addr)))=(pure cl >>= fun r=>pure r) from rfl,<- this];rfl)
 have hcle:∀ y c,cl.lookup y=some c->X.env.cells.lookup y=some c/\(y,NameKind.free)∈scope.names:=fun y c e=>by
  by_cases hy:(y,NameKind.free)∈scope.names
  .exact ⟨by rw [<- hcl1 y hy];exact e,hy⟩
  .rw [hcl2 y hy] at e;simp at e
 rw [eval_ListComp]
 refine wpAny_comprehension_free (use:=none) rfl hs hclos hkind hnames ?_
 refine thn (hi pins s σ H _ I h) fun v s1 h1=>thn h1 fun itv s2 h2=>?_
 obtain ⟨it,fp,tn,J,H2,e,I2,T,st2,f2,q2⟩:=h2
 subst e
 refine wpAny_newObj_type ?_
 generalize hs3:({ s2 with heap:=s2.heap.push { cls:=.type "list",dict:=none,data:=.seq ([]:List Value).toArray } }:Shared)=s3
 generalize hD:s2.heap.objs.size=D
 have hDn:H2 D=none:=by rw [<- hD];exact I2.hok.fresh (Nat.le_refl _)
 have I3:Inv X pins σ (upd H2 D (.lst [])) s3:=by
  rw [<- hs3,<- hD]
  exact I2.lnew (t':=s2.toks) (ys:=[]) (its:=[]) .nil (Nat.zero_le _)
 have k3:∀ b o,s2.heap.get? b=some o->s3.heap.get? b=some o:=fun b o e=>by rw [<- hs3];exact Heap.get?_push_of_some _ e
 have st3:tn 0 s3.heap:=T.keep _ _ _ st2 fun b _ o e=>k3 b o e
 have fne:∀ b∈fp,b≠D:=fun b hb=>by
  obtain ⟨o,e,_⟩:=T.obj _ _ st2 b hb
  rw [<- hD]
  exact Nat.ne_of_lt (Heap.lt_size e)
 have f3:∀ b∈fp,yBg X pins (upd H2 D (.lst [])) b:=fun b hb=>⟨by rw [ybV (fne b hb)];exact (f2 b hb).1,(f2 b hb).2⟩
 have q3:=q2 D hDn
 generalize upd H2 D (.lst [])=H3 at I3 f3 q3
 obtain ⟨W,⟨m0,w0⟩,turn⟩:=q3
 refine wpAny_newFunctionEnv hcell (by intro y hy;simp at hy) (fun h4 hns hsb=>?_) hkind
 try dsimp only at hns hsb ⊢
 generalize hC:s3.heap.objs.size=C at hns hsb ⊢
 have k4:∀ b o,s3.heap.get? b=some o->h4.get? b=some o:=fun b o e=>(hsb.2 b (by rw [<- hC];exact Nat.ne_of_lt (Heap.lt_size e))).trans (Heap.get?_push_of_some _ e)
 have Cne:∀ b o,s3.heap.get? b=some o->b≠C:=fun b o e=>by rw [<- hC];exact Nat.ne_of_lt (Heap.lt_size e)
 have stk:=I3.stkSub
 have pinF:∀ p∈X.pn++pins,p.1∉frs X.stack:=fun p hp z=>by
  obtain ⟨_,_,n1,n2,_⟩:=I3.pin p hp
  rcases List.mem_cons.mp (stk _ z) with z|z
  .exact n1 z
  .exact n2 z
 have okC:(cxC X scope cl C (x::fr) s3 H3 fp pins).Ok:=by
  refine ⟨I3.ok.mod,by show (relabel scope X.env).kind=_;exact hkind,I3.ok.glob,I3.ok.blt,Nat.le_of_eq hC,fun y z c h1 h2=>I3.ok.inj y z c (hcle y c h1).1 (hcle z c h2).1,fun y hy=>?_,fun y c hf _=>(by cases hf),I3.ok.hd,I3.ok.frames,.inl rfl,fun b hb=>⟨?_,fun y c e z=>?_⟩,I3.bs,?_,fun b o e hb=>?_,fun b hb z=>?_,I3.stack,I3.stkFree⟩
  .have hy:((relabel scope X.env).names.lookup y=some .cell)\/((relabel scope X.env).names.lookup y=some .free):=hy
   rw [show (relabel scope X.env).names.lookup y=_ from yjv y scope.names] at hy
   cases e:scope.names.lookup y with
   | none=>rw [e] at hy;simp at hy
   | some k =>
    have hm:(y,k)∈scope.names:=PySem.mem_of_lookup e
    have hkf:k=.free:=by
     rw [e] at hy
     cases k<;>simp at hy ⊢
     exact absurd rfl (hcell _ hm)
    subst hkf
    obtain ⟨c,hc'⟩:=I3.ok.has y (.inl (hfree _ hm rfl).1)
    exact ⟨c,by show cl.lookup y=_;rw [hcl1 y hm];exact hc'⟩
  .obtain ⟨o,e,_⟩:=T.obj _ _ st3 b hb
   exact Cne b o e
  .exact (f3 b hb).2.2.2.2.1 y c (hcle y c e).1 z
  .exact Nat.le_trans I3.ok.bsz I3.sz
  .rcases (f3 b hb).2.2.2.1 with z|z
   .exact I3.ok.noex b o e z
   .exact absurd (Nat.lt_of_lt_of_le (Heap.lt_size e) (Nat.le_trans I3.ok.bsz z)) (Nat.lt_irrefl _)
  .rcases List.mem_cons.mp (stk _ z) with z|z
   .exact (f3 b hb).2.1 z
   .exact (f3 b hb).2.2.1 z
 have inn:∀ v,(inner ix σ v)=some v::ix.map fun i=>(σ[i]?).getD none:=fun _=>rfl
 have I4:Inv (cxC X scope cl C (x::fr) s3 H3 fp pins) [] (none::ix.map fun i=>(σ[i]?).getD none) H3 { s3 with heap:=h4,toks:=s3.toks+([]:List (Str×Value)).length }:=by
  refine ⟨okC,rfl,I3.bare,Un.kept k4,⟨_,hns,fun j y v e1 e2 e3=>?_⟩,fun y c e=>?_,I3.hok.fresh (Nat.le_of_eq hC),fun y c e=>I3.freeC y c (hcle y c e).1,fun p hp=>?_,I3.hok.kept k4,?_⟩
  .match j,e1,e2 with
   | 0,e1,e2=>simp at e2
   | j+1,e1,e2 =>
    obtain ⟨i,hi1,hi2,hi3,hi4⟩:=hfr.get (j:=j) (y:=y) (by have e1':(x::fr)[j+1]?=some y:=e1;simpa using e1')
    have e2':σ[i]?=some (some v):=by
     have e2:(ix.map fun i=>(σ[i]?).getD none)[j]?=some (some v):=by simpa using e2
     rw [List.getElem?_map,hi1] at e2
     simp at e2
     cases z:σ[i]? with
     | none=>rw [z] at e2;simp at e2
     | some o=>rw [z] at e2;simp at e2;rw [e2]
    obtain ⟨m,_,hl⟩:=I3.loc
    obtain ⟨u,r,l⟩:=hl i y v hi2 e2' (.inr (.inl hi4))
    refine ⟨u,r,?_⟩
    rcases l with ⟨k,_⟩|⟨k,c,ec,z⟩
    .rw [hi4] at k;cases k
    .have hm:(y,NameKind.free)∈scope.names:=PySem.mem_of_lookup hi3
     refine .inr ⟨.inl ?_,c,by show cl.lookup y=_;rw [hcl1 y hm];exact ec,?_⟩
     .show (relabel scope X.env).names.lookup y=_
      rw [show (relabel scope X.env).names.lookup y=_ from yjv y scope.names,hi3]
      simp [hfn,hi4]
     .obtain ⟨o,ho,hd⟩:=z
      exact ⟨o,k4 _ _ ho,hd⟩
  .obtain ⟨v,o,ho,hd⟩:=I3.cell y c (hcle y c e).1
   exact ⟨v,o,k4 _ _ ho,hd⟩
  .have hp:p∈X.pn++pins:=by simpa [cxC] using hp
   obtain ⟨e,n,ne,nf,d⟩:=I3.pin p hp
   exact ⟨k4 _ _ e,n,Cne _ _ e,pinF p hp,d⟩
  .show (none::ix.map fun i=>(σ[i]?).getD none).length=(x::fr).length
   rw [List.length_cons,List.length_cons,List.length_map,hfr.len]
 have st4:tn 0 h4:=T.keep _ _ _ st3 fun b _ o e=>k4 b o e
 have f4:∀ b∈fp,b≠C/\b∉frs X.stack/\(∀ y c,cl.lookup y=some c->c≠b)/\∀ p∈(X.pn++pins)++([]:List (Addr×Obj)),p.1≠b:=fun b hb=>by
  obtain ⟨o,e,_⟩:=T.obj _ _ st3 b hb
  refine ⟨Cne b o e,fun z=>?_,fun y c e=>(f3 b hb).2.2.2.2.1 y c (hcle y c e).1,fun p hp=>(f3 b hb).2.2.2.2.2 p (by simpa using hp)⟩
  rcases List.mem_cons.mp (stk _ z) with z|z
  .exact (f3 b hb).2.1 z
  .exact (f3 b hb).2.2.1 z
 have stat:∀ {H':Hp},(∀ b∈fp,H' b=none)->∀ b∈fp,yBg (cxC X scope cl C (x::fr) s3 H3 fp pins) [] H' b:=fun hn b hb=>⟨hn b hb,(f4 b hb).1,(f4 b hb).2.1,.inl hb,(f4 b hb).2.2.1,(f4 b hb).2.2.2⟩
 have fin:∀ {σ':St}{H':Hp}{s':Shared},Inv (cxC X scope cl C (x::fr) s3 H3 fp pins) [] σ' H' s'->Q (.ref D) H'->compPost (model X.prog X.w) X.A X.xe none (EP X pins σ Q) (.ref D) C (.ok .next) s':=fun {σ' H' s'} I' q'=>by
  obtain ⟨m,hn,_⟩:=I'.loc
  refine ⟨m,hn,fun h' sb=>⟨.ref D,H',?_,rfl,q'⟩⟩
  have hCn:H' C=none:=I'.free
  have same:∀ b,b≠C->h'.get? b=s'.heap.get? b:=fun b hb=>sb.2 b hb
  have U:=I'.base
  have U':Un (frs X.stack) fp H3 H' s3.heap h':=by
   refine ⟨fun b o e n h1 h2=>?_,fun b o e n h1 h2=>?_,U.free,fun b o e h2=>?_,U.tups,U.frzs,U.tbls⟩
   .rw [same b (Cne b o e)];exact U.keep b o e n h1 h2
   .rw [same b (Cne b o e)];exact U.slot b o e n h1 h2
   .rw [same b (Cne b o e)];exact U.there b o e h2
  refine I3.call' (s':={ s' with heap:=h' }) (by show s'.os=s3.os;exact I'.os) U' ?_ I'.bare fun b hb=>⟨(f3 b hb).2.2.2.1,(f3 b hb).2.1,(f3 b hb).2.2.2.2.1,(f3 b hb).2.2.2.2.2⟩
  intro b ob e
  refine (I'.hok b ob e).stay (fun c w' hc q=>?_) (fun _ q=>q) fun _ _ q=>q
  show h'.get? c=_
  rw [same c ?_]
  .exact q
  rintro rfl
  rcases hc with rfl|hc
  .rw [hCn] at e;cases e
  .rw [hCn] at hc;cases hc
 have loop:∀ s5:Shared,s5={ s3 with heap:=h4,toks:=s3.toks+([]:List (Str×Value)).length } ->
   codeAny (model X.prog X.w) X.A (.compLoop (.ListComp elt [⟨.Name x px,iter,[],0⟩] scope cpos) 0 (.ref it) (.ref D) (compEnvC scope cl C X.env)) (compPost (model X.prog X.w) X.A X.xe none (EP X pins σ Q) (.ref D) C) s5:=by
  rintro s5 rfl
  refine codeAny_loop rfl (fun n s'=>∃ i o H',Inv (cxC X scope cl C (x::fr) s3 H3 fp pins) [] (o::ix.map fun i=>(σ[i]?).getD none) H' s'/\tn i s'.heap/\(∀ b∈fp,H' b=none)/\W i n H') ?_ m0 ⟨0,none,H3,I4,st4,fun b hb=>(f3 b hb).1,w0⟩
  rintro n s6 ⟨i,o,H6,I6,st6,fr6,w6⟩
  show wpAny _ _ ((compTurn (.ListComp elt [⟨.Name x px,iter,[],0⟩] scope cpos) 0 (.ref it) (.ref D) (compEnvC scope cl C X.env)).onRaise (fun x=>do noteFrame x (compEnvC scope cl C X.env);theTreesLotGoes x)) _ _ s6
  refine wpAny_noted ?_
  rw [compTurn_list1]
  rcases turn i n H6 w6 with ⟨stop,qn⟩|⟨go,step⟩
  .refine wpAny_bind (wpAny_standAt (wpAny_bind (thn (T.done (cxC X scope cl C (x::fr) s3 H3 fp pins) rfl rfl rfl hc i [] s6 _ H6 _ I6 (stat fr6) st6 stop) fun r s7 ⟨hr,I7⟩=>?_)))
   subst hr
   exact wpAny_pure (fin I7 qn)
  .refine wpAny_bind (wpAny_standAt (wpAny_bind (thn (T.item (cxC X scope cl C (x::fr) s3 H3 fp pins) rfl rfl rfl hc i [] s6 _ H6 _ I6 (stat fr6) st6 go) fun r s7 ⟨u,hr,h7⟩=>?_)))
   subst hr
   refine wpAny_bind (thn h7 fun _ s8 ⟨y,H8,I8,r8,y8,st8,fr8⟩=>?_)
   have I8':=I8.pinned (stat fr8) (T.obj _ _ st8)
   have hx':Loc (cxC X scope cl C (x::fr) s3 H3 fp pins).env.scope x:=.inl (lookup_relabel_local hx)
   refine wpAny_bind (wpAny_mono (yyO (X:=cxC X scope cl C (x::fr) s3 H3 fp pins) (i:=0) (x:=x) (pos:=px) hnd rfl hx' (.inr (lookup_relabel_local hx)) _ s8 _ H8 y u (fun σ9 H9=>σ9=inner ix σ y/\H9=H8) I8' r8 ⟨rfl,rfl⟩) (fun _ s9 ⟨σ9,H9,I9,e9,e9'⟩=>?_) fun _ _ f=>f.elim)
   subst e9 e9'
   refine wpAny_bind (wpAny_bind (wpAny_mono (he cl C s3 H3 fp pins _ s9 _ _ _ I9 (step y _ y8)) (fun v s10 ⟨z,H10,I10,r10,acc,a10,l10,m',hm',w10⟩=>?_) fun _ _ f=>f.elim))
   refine wpAny_bind (wpAny_mono (yni (X:=cxC X scope cl C (x::fr) s3 H3 fp pins) _ s10 _ H10 (.ref D) [z] (.ref D) [v] (fun _ H11=>H11=upd H10 D (.lst (acc++[z]))) I10 rfl (.cons r10 .nil) ⟨D,acc,z,rfl,rfl,a10,l10,rfl⟩) (fun _ s11 ⟨_,H11,I11,_,e11⟩=>?_) fun _ _ f=>f.elim)
   subst e11
   refine wpAny_pure (wpAny_pure ⟨rfl,m',hm',i+1,some y,_,I11.unpinned,T.keep _ _ _ st8 fun b hb o e=>(I11.pin (b,o) (List.mem_append_right _ (List.mem_append_right _ (ylO hb e)))).1,fun b hb=>?_,w10⟩)
   obtain ⟨o,e,d⟩:=T.obj _ _ st8 b hb
   exact (I11.pin (b,o) (List.mem_append_right _ (List.mem_append_right _ (ylO hb e)))).2.1
 exact codeAny_compStart_list (loop _ rfl) (T.self X.A 0 _ _ _ st4 (loop _ rfl))
end L2
namespace L2
open PySem PySem.Spec PyProof.Rows
theorem yBH {P:Program}{w:World}{K:PySem.W.Frag}{tg:Expr}{ty:String}(hty:ty = "str_ascii_iterator"\/ty = "str_iterator") (z:Str) (t:Tok) (it:Addr):Turn P w K tg (Its z) [it] it (fun i h=>h.IsStrIter it ty z t i) where
 mem:=by simp
 obj:=fun i h st b hb=>by
  have e:b=it:=by simpa using hb
  subst e
  obtain ⟨o,e,c,d⟩:=st
  exact ⟨o,e,fun v q=>by rw [d] at q;cases q⟩
 keep:=fun i h h' st k=>by
  obtain ⟨o,e,c,d⟩:=st
  exact ⟨o,k it (by simp) o e,c,d⟩
 item:=by
  intro X hP hw hK hc i pins s σ H E I hf st hg
  subst hP hw hK
  obtain ⟨f0,f1,f2,f3,f4,f5⟩:=hf it (by simp)
  have hg:i<z.length:=hg
  obtain ⟨ch,hz⟩:∃ ch,z.cps[i]?=some ch:=⟨_,Array.getElem?_eq_getElem (show i<z.cps.size from hg)⟩
  have fin:∀ h',h'.IsStrIter it ty z t (i+1)->Heap.SameBut it s.heap h'->∃ u,some (Value.str ⟨#[ch]⟩ s.toks)=some u /\
    wpAny (model X.prog X.w) X.A (letOwnedTupleGo tg (.ref it) u) (fun _ s2=>∃ x H',Inv X pins σ H' s2/\RelV x u/\(Its z).yld i H x H'/\s2.heap.IsStrIter it ty z t (i+1)/\∀ b∈[it],H' b=none) E { s with heap:=h',toks:=s.toks+1 }:=fun h' st' sb=>by
   have I1:Inv X pins σ H { s with heap:=h',toks:=s.toks+1 }:=I.turned (t':=s.toks+1) (fun b o hb e=>(sb.2 b hb).trans e) f0 f1 f3 f4 f5
   obtain ⟨o,e,c,d⟩:=id st'
   refine ⟨_,rfl,yBv (s:={ s with heap:=h',toks:=s.toks+1 }) e c d (by rcases hty with rfl|rfl<;>decide) ⟨.str ⟨#[ch]⟩,H,I1,⟨_,rfl⟩,⟨rfl,_,by simpa using hz,rfl⟩,st',fun b hb=>(hf b hb).1⟩⟩
  rcases hty with rfl|rfl
  .exact wpAny_pyNext_ascii_item st hz fun h' st' sb=>fin h' st' sb
  .exact wpAny_pyNext_wide_item st hz fun h' st' sb=>fin h' st' sb
 done:=by
  intro X hP hw hK hc i pins s σ H E I hf st hg
  subst hP hw hK
  obtain ⟨f0,f1,f2,f3,f4,f5⟩:=hf it (by simp)
  have hg:i=z.length:=hg
  have hz:z.cps[i]?=none:=by simp [hg,Str.length]
  rcases hty with rfl|rfl
  .exact wpAny_pyNext_ascii_end (I.ok.hd hc) st hz fun h' eb=>⟨rfl,I.turned (t':=s.toks) (fun b o hb e=>eb b o hb e) f0 f1 f3 f4 f5⟩
  .exact wpAny_pyNext_wide_end (I.ok.hd hc) st hz fun h' eb=>⟨rfl,I.turned (t':=s.toks) (fun b o hb e=>eb b o hb e) f0 f1 f3 f4 f5⟩
 self:=fun _ _ _ _ _ st h=>by
  rcases hty with rfl|rfl
  .exact wpAny_pyIter_striter_ascii st h
  .exact wpAny_pyIter_striter_wide st h
section
variable {X:Cx}{tg:Expr}
theorem yHl {l:Expr}{tl:TE}(hl:PE X l tl):PI X tg l (yMt tl):=by
 intro pins s σ H R I h
 refine thn (hl pins s σ H _ I h) fun v s1 ⟨x,H1,I1,r1,q1⟩=>?_
 obtain ⟨z,e,hz,q⟩:=q1
 subst e
 obtain ⟨t,rfl⟩:=r1
 have fin:∀ ty,(ty = "str_ascii_iterator"\/ty = "str_iterator")->PIE X pins σ tg R (.ref s1.heap.objs.size) { s1 with heap:=s1.heap.push { cls:=.type ty,data:=.fields #[.str z t,.int 0 0] } }:=fun ty hty=>by
  refine ⟨s1.heap.objs.size,[s1.heap.objs.size],_,_,H1,rfl,I1.kept (t':=s1.toks) fun b o e=>Heap.get?_push_of_some _ e,yBH hty z t _,⟨_,Heap.get?_push_size _ rfl,rfl,rfl⟩,fun b hb=>?_,q⟩
  have e:b=s1.heap.objs.size:=by simpa using hb
  subst e
  exact I1.fpOk (Nat.le_refl _) (I1.hok.fresh (Nat.le_refl _))
 cases ha:z.cps.all (· < 128)
 .exact wpAny_pyIter_wide ha (fin _ (.inr rfl))
 .exact wpAny_pyIter_ascii ha (fin _ (.inl rfl))
theorem ywC:∀ {bs:List Bool}{us:List Value},Vals (bs.map V.bl) us->us=bs.map Value.bool
 | [],_,.nil=>rfl
 | b::bs,_,.cons r t=>by rw [show _=Value.bool b from r,ywC t];rfl
theorem yBI (hc:X.calm=true):CallR X (.builtin "all") yMr:=by
 intro pins s σ H xs us Q I r h
 obtain ⟨p,bs,rfl,hp,q⟩:=h
 obtain ⟨u,rfl,rx⟩:=vals1 r
 cases rx
 obtain ⟨its,n,rv,e,hz⟩:=I.lst hp
 have eb:=ywC rv
 subst eb
 have hl:s.heap.IsList p (bs.map Value.bool).toArray:=⟨_,e,rfl,n,rfl⟩
 have hlt:p<s.heap.objs.size:=Heap.lt_size e
 refine call_all_walk (wpAny_pyIter_list hl ?_)
 refine ⟨s.heap.objs.size,[s.heap.objs.size,p],[s.heap.objs.size],(bs.map Value.bool).toArray.size,_,_,fun i=>(bs[i]?).getD true,rfl,Walks.list (A:=X.A.in1) (I.ok.hd hc) _ p (Nat.ne_of_lt hlt) _,
  ⟨⟨_,Heap.get?_push_size _ rfl,rfl,rfl⟩,hl.push _⟩,fun i v s' Q' E' hP hQ=>?_,fun h' tk hk=>?_⟩
 .have hP:(bs.map Value.bool)[i]?=some v:=by simpa using hP
  rw [List.getElem?_map] at hP
  cases eb:bs[i]? with
  | none=>rw [eb] at hP;cases hP
  | some b =>
   rw [eb] at hP
   cases hP
   simp only [eb,Option.getD_some] at hQ
   exact wpAny_truthy_bool hQ
 .have ea:((List.range (bs.map Value.bool).toArray.size).all fun i=>(bs[i]?).getD true)=bs.all id:=by
   rw [List.size_toArray,List.length_map]
   exact LSm.range_all bs
  rw [ea]
  exact ⟨.bl _,H,I.kept (t':=tk) fun b o eo=>hk b o (fun hm=>by rw [List.mem_singleton.mp hm] at eo;exact absurd (Heap.lt_size eo) (Nat.lt_irrefl _)) (Heap.get?_push_of_some _ eo),rfl,q⟩
theorem ywD (hc:X.calm=true):CallR X (.builtin "sum") yMs:=by
 intro pins s σ H xs us Q I r h
 obtain ⟨p,ns,rfl,hp,q⟩:=h
 obtain ⟨u,rfl,rx⟩:=vals1 r
 cases rx
 obtain ⟨its,n,rv,e,hz⟩:=I.lst hp
 have hi:IntsAre its ns:=intsAre_of rv
 have hl:s.heap.IsList p its.toArray:=⟨_,e,rfl,n,rfl⟩
 obtain ⟨xs,hx⟩:=hi.allInts.items
 have hl':s.heap.IsList p (intItems xs):=hx ▸ hl
 refine sum_intListG (I.ok.hd hc) hl' fun h' tk t' hk=>?_
 have e1:ns=xs.toList.map (·.1):=by
  rw [<- nums_intItems,<- hx]
  exact (show numsOf its.toArray.toList=ns from hi.numsOf).symm
 have e2:preSum (numAt xs) xs.size=ns.sum:=by
  rw [preSum_eq,List.take_of_length_le (by simp),e1]
 rw [e2]
 exact ⟨.int ns.sum,H,I.kept (t':=tk) hk,⟨_,rfl⟩,q⟩
theorem yzn:∀ {ts:List Str}{us:List Value},Vals (ts.map V.str) us->StrsAre us ts
 | [],_,.nil=>.nil
 | y::ts,_,.cons r t=>by
  obtain ⟨k,e⟩:=(show ∃ t,_=Value.str y t from r)
  rw [e]
  exact .cons y k (yzn t)
theorem yvi:MtR X "str.join" rJoin:=by
 intro pins s σ H x xs v us Q I rx rv h
 obtain ⟨sep,p,ts,rfl,rfl,hp,h1,h2,q⟩:=h
 obtain ⟨t,rfl⟩:=rx
 obtain ⟨u,rfl,ru⟩:=vals1 rv
 cases ru
 obtain ⟨its,n,r,e,hz⟩:=I.lst hp
 have hl:s.heap.IsList p its.toArray:=⟨_,e,rfl,n,rfl⟩
 refine join_listW hl (yzn r) h1 h2 fun t' k=>⟨.str (Str.join sep ts),H,I.tok k,⟨t',?_⟩,q⟩
 show Value.str (Txt.join sep ts) t'=Value.str (Str.join sep ts) t'
 rw [show Txt.join sep ts=Str.join sep ts from StrLaws.glued_eq_join sep ts]
theorem ytp:OpR X (compareOp .In) yMq:=by
 intro pins s σ H x y v u Q I rx ry h
 obtain ⟨c,j,rfl,rfl,q⟩:=h
 refine yyZ pins s σ H _ _ v u Q I rx ry ⟨_,_,rfl,rfl,?_⟩
 have e:(!(Builtin.Str.occurrences j ⟨#[c]⟩ 0 j.length 1).isEmpty)=decide (c∈j.cps.toList):=by
  rcases yED j c with ⟨h1,h2⟩|⟨r,h1,h2⟩
  .rw [h1];simp [h2]
  .rw [h1];simp [h2]
 rw [e]
 exact q
theorem yBJ {C:Addr}{x:Str}{p pos:Pos}(hm:makesIn X.K C=true) (hi:findIn X.K (.ref C) "__init__" = some (some (.builtin "object.__init__"))) (hk:keepIn X.K (.ref C)=true)
  (hg:Gl X x) (hmg:X.mg x=some (.ref C)) (hdb:(x == ("__debug__":Str))=false:=by decide):PE X (.Call (.Name x p) [] [] pos) (yDy C):=by
 intro pins s σ H Q I h
 refine wpAny_Call_Name_kw (yrS I hg hmg ?_ hdb)
 refine PySem.W.callWith_K0 I.kIn hk (wpAny_call ?_)
 have I2:=Inv.made (C:=C) I
 have q:=h (s.heap.objs.size+1) s.heap.objs.size (I.hok.fresh (Nat.le_succ _)) (I.hok.fresh (Nat.le_refl _)) (Nat.ne_of_lt (Nat.lt_succ_self _))
 have kin:=I.kIn
 obtain ⟨hh,g,d,t,os⟩:=s
 have Y:=PySem.W.makes_of (M:=model X.prog X.w) kin hm
 refine PySem.W.make_core Y (PySem.W.looks_findIn kin hi) (fun self=>PySem.W.Looks.of_pure (PySem.W.oi_bind self)) (.inr ⟨rfl,rfl⟩) ?_
 have e1:((hh.push emptyDict).push (instObj C hh.objs.size)).get? (hh.objs.size+1)=some (instObj C hh.objs.size):=by
  have:=Heap.get?_push_size (h:=hh.push emptyDict) (o:=instObj C hh.objs.size) rfl
  rwa [Heap.size_push] at this
 have t1:PySem.W.Looks (model X.prog X.w) ((hh.push emptyDict).push (instObj C hh.objs.size)) (typeOf (.ref (hh.objs.size+1))) (.ref C):=(PySem.W.Looks.ld e1).andThen .now
 have t2:PySem.W.Looks (model X.prog X.w) ((hh.push emptyDict).push (instObj C hh.objs.size)) (isInstance (.ref (hh.objs.size+1)) (.type "object")) true:=t1.andThen (Y.top.keeps fun b o e=>Heap.get?_push_of_some _ (Heap.get?_push_of_some _ e))
 refine codeAny_call_builtin PySem.W.oi_plain PySem.W.entry_oi (@PySem.W.check_slot (model X.prog X.w) _ _ _ "object.__init__" "object" "__init__" (.ref (hh.objs.size+1)) [] [] _ PySem.W.oi_kind PySem.W.oi_split t2 (PySem.W.oi_args (.ref (hh.objs.size+1))) ?_)
 show wpAny _ _ (Builtin.«object.__init__» ⟨[.ref (hh.objs.size+1)],[]⟩) _ _ _
 rw [PySem.W.oi_run]
 exact wpAny_pure (And.intro rfl ⟨.ref _,_,I2,rfl,q⟩)
noncomputable def yvj {κ:Type}(P:Program) (w:World) (K:PySem.W.Frag) (mg:Str->Option Value) (base:Heap) (k:Nat) (A:κ->Addr) (m:Str) (sp:κ->Sp):Prop :=
 ∀ c:κ,Cls K (A c)/\((∀ vs H Q E,¬ sp c vs H Q E)\/∃ f fd ps,ykV K (A c) m f/\FnOk P w K mg base CX0 k f fd ps (sp c)/\Binds K fd ps [])
theorem yzo {κ:Type}{A:κ->Addr}{m:Str}{sp:κ->Sp}{k:Nat}{o:Expr}{ta:TE}{apos pos:Pos}{pl:Sem Bool}(he:PE X o ta) (G:yvj X.prog X.w X.K X.mg X.base k A m sp) (hr:Room k X.A)
  (ht:eval (.Call (.Attribute o m apos) [] [] pos) X.env=(do
   let ov <- eval o X.env
   standAt apos.atName
   let (f,first) <- holding [ov] (getMethod ov m pl)
   callWith pos f first (backTo pos (starEach [] X.env)) (backToKw pos (keywordEach [] X.env))):=by rfl):PE X (.Call (.Attribute o m apos) [] [] pos) (yDz A m sp ta):=by
 intro pins s σ H Q I h
 refine PySem.W.methodCall_KW (pl:=pl) (thn (he pins s σ H _ I h) fun u s1 ⟨x,H1,I1,rx,a,c,dx,fs,ex,ea,l,q⟩=>?_) ht
 subst ex
 obtain rfl:u=Value.ref a:=rx
 obtain ⟨cl,hn|⟨f,fd,ps,hm,F,hb⟩⟩:=G c
 .exact (hn _ _ _ _ q).elim
 refine ynX I1 ea cl hm l ?_
 exact PySem.W.callWith_K0 (first:=[.ref a]) I1.kIn hm.kp (ywz (us:=[.ref a]) (vs:=[.ref a]) (dvs:=[]) (ds:=[]) F hr hb .nil yxB I1 (.cons rfl .nil) q)
end
end L2
namespace L2
open PySem PySem.Spec PyProof.Rows
section
variable {X:Cx}
theorem ybI:CallR X (.builtin "isinstance") (yMp X.K):=by
 intro pins s σ H xs us Q I r h
 obtain ⟨x,c,b,rfl,⟨t,u',ty,hc,hk⟩,q⟩:=h
 obtain ⟨u,w',rfl,ru,rc⟩:=vals2 r
 have e:w'=u':=by
  cases c<;>first|(cases hc;exact rc)|cases hc
 subst e
 exact yze I ru ty hk fun tk=>⟨.bl b,H,I.tok tk,rfl,q⟩
theorem yrs:∀ (cs:List Nat) (a:Nat),(∀ c∈cs,48<=c/\c<=57)->((cs.foldl (fun acc c=>acc*10+(c-48)) a:Nat):Int)=cs.foldl (fun (a:Int) (c:Nat)=>a*10+((c:Int)-48)) (a:Int)
 | [],_,_=>rfl
 | c::cs,a,h=>by
  have hc:=h c List.mem_cons_self
  rw [List.foldl_cons,List.foldl_cons,yrs cs _ fun d hd=>h d (List.mem_cons_of_mem _ hd)]
  congr 1
  omega
theorem ytq:CallR X (.type "int") yHi:=by
 intro pins s σ H xs us Q I r h
 obtain ⟨z,rfl,hne,hd,hl,q⟩:=h
 obtain ⟨u,rfl,t,rfl⟩:=vals1 r
 have e:=PySem.intText_digits (x:=z) hd hne (by omega)
 have e2:((PySem.NumText.digitsVal z.cps.toList:Nat):Int)=yEB z.cps.toList:=yrs z.cps.toList 0 hd
 rw [e2] at e
 exact PySem.W.KIN.call_text e hl ⟨.int _,H,I.tok _,⟨_,rfl⟩,q⟩
end
end L2
namespace L2
open PySem PySem.Spec PyProof.Rows
theorem ypC:bootBuiltins "len" = some (.builtin "len"):=by rfl'
theorem yHm:bootBuiltins "all" = some (.builtin "all"):=by rfl'
theorem yDA:bootBuiltins "sum" = some (.builtin "sum"):=by rfl'
theorem ybb:bootBuiltins "isinstance" = some (.builtin "isinstance"):=by rfl'
theorem ywE:bootBuiltins "int" = some (.type "int"):=by rfl'
theorem yHn:bootBuiltins "str" = some (.type "str"):=by rfl'
theorem yEF:bootBuiltins "bool" = some (.type "bool"):=by rfl'
theorem yfL:bootBuiltins "list" = some (.type "list"):=by rfl'
section
variable {X:Cx}
theorem yEG {x:Str}{n:Int}{t:Tok}{pos:Pos}(hg:Gl X x) (hm:X.mg x=some (.int n t)) (hd:(x == ("__debug__":Str))=false:=by decide):PE X (.Name x pos) (tC (.int n)):=yuY hg hm ⟨t,rfl⟩ hd
theorem yEH {x:Str}{n:Str}{t:Tok}{pos:Pos}(hg:Gl X x) (hm:X.mg x=some (.str n t)) (hd:(x == ("__debug__":Str))=false:=by decide):PE X (.Name x pos) (tC (.str n)):=yuY hg hm ⟨t,rfl⟩ hd
theorem yzp {x:Str}{a:Addr}{pos:Pos}(hg:Gl X x) (hm:X.mg x=some (.ref a)) (hd:(x == ("__debug__":Str))=false:=by decide):PE X (.Name x pos) (tC (.ref a)):=yuY hg hm rfl hd
theorem yHo {x:Str}{n:String}{pos:Pos}(hg:Gl X x) (hm:X.mg x=none) (hv:bootBuiltins x=some (.type n)) (hn:x≠"__name__":=by decide) (hd:(x == ("__debug__":Str))=false:=by decide):PE X (.Name x pos) (tC (.ty n)):=yEh hg hm hv rfl hn hd
end
end L2
namespace L2
open PySem PySem.Spec PyProof.Rows
theorem yvk {K:PySem.W.Frag}{H:Hp}{i:Int}:IsI K H (.int i) (.ty "str") false:=⟨_,_,.int i,rfl,by with_unfolding_all rfl⟩
theorem ytr {K:PySem.W.Frag}{H:Hp}{i:Int}:IsI K H (.int i) (.ty "list") false:=⟨_,_,.int i,rfl,by with_unfolding_all rfl⟩
theorem yrX {K:PySem.W.Frag}{H:Hp}{i:Int}:IsI K H (.int i) (.ty "tuple") false:=⟨_,_,.int i,rfl,by with_unfolding_all rfl⟩
theorem yts {K:PySem.W.Frag}{H:Hp}{i:Int}:IsI K H (.int i) (.ty "dict") false:=⟨_,_,.int i,rfl,by with_unfolding_all rfl⟩
theorem yxC {K:PySem.W.Frag}{H:Hp}{i:Bool}:IsI K H (.bl i) (.ty "int") true:=⟨_,_,.bl i,rfl,by with_unfolding_all rfl⟩
theorem yxD {K:PySem.W.Frag}{H:Hp}{i:Bool}:IsI K H (.bl i) (.ty "str") false:=⟨_,_,.bl i,rfl,by with_unfolding_all rfl⟩
theorem yvl {K:PySem.W.Frag}{H:Hp}{i:Bool}:IsI K H (.bl i) (.ty "list") false:=⟨_,_,.bl i,rfl,by with_unfolding_all rfl⟩
theorem ytt {K:PySem.W.Frag}{H:Hp}{i:Bool}:IsI K H (.bl i) (.ty "tuple") false:=⟨_,_,.bl i,rfl,by with_unfolding_all rfl⟩
theorem yvm {K:PySem.W.Frag}{H:Hp}{i:Bool}:IsI K H (.bl i) (.ty "dict") false:=⟨_,_,.bl i,rfl,by with_unfolding_all rfl⟩
theorem yvn {K:PySem.W.Frag}{H:Hp}{i:Str}:IsI K H (.str i) (.ty "int") false:=⟨_,_,.str i,rfl,by with_unfolding_all rfl⟩
theorem ytu {K:PySem.W.Frag}{H:Hp}{i:Str}:IsI K H (.str i) (.ty "bool") false:=⟨_,_,.str i,rfl,by with_unfolding_all rfl⟩
theorem ytv {K:PySem.W.Frag}{H:Hp}{i:Str}:IsI K H (.str i) (.ty "list") false:=⟨_,_,.str i,rfl,by with_unfolding_all rfl⟩
theorem yrY {K:PySem.W.Frag}{H:Hp}{i:Str}:IsI K H (.str i) (.ty "tuple") false:=⟨_,_,.str i,rfl,by with_unfolding_all rfl⟩
theorem ytw {K:PySem.W.Frag}{H:Hp}{i:Str}:IsI K H (.str i) (.ty "dict") false:=⟨_,_,.str i,rfl,by with_unfolding_all rfl⟩
theorem ytx {K:PySem.W.Frag}{H:Hp}:IsI K H (.non) (.ty "bool") false:=⟨_,_,.non,rfl,by with_unfolding_all rfl⟩
theorem yvo {K:PySem.W.Frag}{H:Hp}:IsI K H (.non) (.ty "str") false:=⟨_,_,.non,rfl,by with_unfolding_all rfl⟩
theorem yty {K:PySem.W.Frag}{H:Hp}:IsI K H (.non) (.ty "list") false:=⟨_,_,.non,rfl,by with_unfolding_all rfl⟩
theorem yrZ {K:PySem.W.Frag}{H:Hp}:IsI K H (.non) (.ty "tuple") false:=⟨_,_,.non,rfl,by with_unfolding_all rfl⟩
theorem ytz {K:PySem.W.Frag}{H:Hp}:IsI K H (.non) (.ty "dict") false:=⟨_,_,.non,rfl,by with_unfolding_all rfl⟩
theorem yvp {K:PySem.W.Frag}{H:Hp}{a:Addr}{xs:List V}(e:H a=some (.lst xs)):IsI K H (.ref a) (.ty "int") false:=⟨_,_,.lst e,rfl,by with_unfolding_all rfl⟩
theorem ytA {K:PySem.W.Frag}{H:Hp}{a:Addr}{xs:List V}(e:H a=some (.lst xs)):IsI K H (.ref a) (.ty "bool") false:=⟨_,_,.lst e,rfl,by with_unfolding_all rfl⟩
theorem yvq {K:PySem.W.Frag}{H:Hp}{a:Addr}{xs:List V}(e:H a=some (.lst xs)):IsI K H (.ref a) (.ty "str") false:=⟨_,_,.lst e,rfl,by with_unfolding_all rfl⟩
theorem ysa {K:PySem.W.Frag}{H:Hp}{a:Addr}{xs:List V}(e:H a=some (.lst xs)):IsI K H (.ref a) (.ty "tuple") false:=⟨_,_,.lst e,rfl,by with_unfolding_all rfl⟩
theorem ytB {K:PySem.W.Frag}{H:Hp}{a:Addr}{xs:List V}(e:H a=some (.lst xs)):IsI K H (.ref a) (.ty "dict") false:=⟨_,_,.lst e,rfl,by with_unfolding_all rfl⟩
theorem ysb {K:PySem.W.Frag}{H:Hp}{a:Addr}(e:(∃ xs,H a=some (.tup xs))\/∃ o,K.lookup a=some o/\o.cls=.type "tuple"):IsI K H (.ref a) (.ty "tuple") true:=e.elim (fun ⟨_,e⟩=>⟨_,_,.tup e,rfl,by with_unfolding_all rfl⟩) fun ⟨_,e,c⟩=>⟨_,_,.kt e c,rfl,by with_unfolding_all rfl⟩
theorem yvr {K:PySem.W.Frag}{H:Hp}{a:Addr}(e:(∃ xs,H a=some (.tup xs))\/∃ o,K.lookup a=some o/\o.cls=.type "tuple"):IsI K H (.ref a) (.ty "int") false:=e.elim (fun ⟨_,e⟩=>⟨_,_,.tup e,rfl,by with_unfolding_all rfl⟩) fun ⟨_,e,c⟩=>⟨_,_,.kt e c,rfl,by with_unfolding_all rfl⟩
theorem ytC {K:PySem.W.Frag}{H:Hp}{a:Addr}(e:(∃ xs,H a=some (.tup xs))\/∃ o,K.lookup a=some o/\o.cls=.type "tuple"):IsI K H (.ref a) (.ty "bool") false:=e.elim (fun ⟨_,e⟩=>⟨_,_,.tup e,rfl,by with_unfolding_all rfl⟩) fun ⟨_,e,c⟩=>⟨_,_,.kt e c,rfl,by with_unfolding_all rfl⟩
theorem yvs {K:PySem.W.Frag}{H:Hp}{a:Addr}(e:(∃ xs,H a=some (.tup xs))\/∃ o,K.lookup a=some o/\o.cls=.type "tuple"):IsI K H (.ref a) (.ty "str") false:=e.elim (fun ⟨_,e⟩=>⟨_,_,.tup e,rfl,by with_unfolding_all rfl⟩) fun ⟨_,e,c⟩=>⟨_,_,.kt e c,rfl,by with_unfolding_all rfl⟩
theorem ytD {K:PySem.W.Frag}{H:Hp}{a:Addr}(e:(∃ xs,H a=some (.tup xs))\/∃ o,K.lookup a=some o/\o.cls=.type "tuple"):IsI K H (.ref a) (.ty "list") false:=e.elim (fun ⟨_,e⟩=>⟨_,_,.tup e,rfl,by with_unfolding_all rfl⟩) fun ⟨_,e,c⟩=>⟨_,_,.kt e c,rfl,by with_unfolding_all rfl⟩
theorem ytE {K:PySem.W.Frag}{H:Hp}{a:Addr}(e:(∃ xs,H a=some (.tup xs))\/∃ o,K.lookup a=some o/\o.cls=.type "tuple"):IsI K H (.ref a) (.ty "dict") false:=e.elim (fun ⟨_,e⟩=>⟨_,_,.tup e,rfl,by with_unfolding_all rfl⟩) fun ⟨_,e,c⟩=>⟨_,_,.kt e c,rfl,by with_unfolding_all rfl⟩
end L2
namespace L2
open PySem PySem.Spec PyProof.Rows
theorem yhU {K:PySem.W.Frag}{C:Addr}:PySem.W.kitOne K (.ref C) (.ref C)=some true:=by
 unfold PySem.W.kitOne
 have:((Value.ref C) == (Value.ref C))=true:=by simp
 rw [if_pos this]
theorem ywF {K:PySem.W.Frag}{C C':Addr}{b:Bool}(hm:mroIn K C' (.type "object")=some true) (ht:typeIn K (.ref C')=some (.type "type")) (hs:subIn K (.ref C) (.ref C')=some b):PySem.W.kitCls K (.ref C) (.ref C')=some b:=by
 unfold PySem.W.kitCls
 have h1:(PySem.W.clsIn K C').isSome=true:=by
  unfold mroIn at hm
  cases e:PySem.W.clsIn K C' with
  | none=>rw [e] at hm;cases hm
  | some c=>rfl
 have h2:(typeIn K (.ref C') == some (.type "type"))=true:=by rw [ht];simp
 show (if _ then _ else _)=_
 rw [if_pos (by rw [h1,h2];rfl)]
 exact hs
theorem yka {K:PySem.W.Frag}{C C':Addr}(hm:mroIn K C' (.type "object")=some true) (ht:typeIn K (.ref C')=some (.type "type")) (hs:subIn K (.ref C) (.ref C')=some true):PySem.W.kitOne K (.ref C) (.ref C')=some true:=by
 unfold PySem.W.kitOne
 split
 .rfl
 .exact ywF hm ht hs
theorem ycq {K:PySem.W.Frag}{C C':Addr}(hn:(C == C')=false) (hm:mroIn K C' (.type "object")=some true) (ht:typeIn K (.ref C')=some (.type "type")) (hs:subIn K (.ref C) (.ref C')=some false):PySem.W.kitOne K (.ref C) (.ref C')=some false:=by
 unfold PySem.W.kitOne
 have:¬ ((Value.ref C) == (Value.ref C'))=true:=by
  intro z
  have z:=eq_of_beq z
  cases z
  simp at hn
 rw [if_neg this]
 exact ywF hm ht hs
theorem all_cons {α:Type}{p:α->Prop}{a:α}{l:List α}(h:p a) (t:∀ x∈l,p x):∀ x∈a::l,p x:=fun x hx=>by
 rcases List.mem_cons.mp hx with e|e
 .rw [e];exact h
 .exact t x e
end L2
namespace PX
open PySem L2
structure Ck where
 K:PySem.W.Frag
 A:Nat->Addr
inductive PV where
 | non|bl (b:Bool)|int (i:Int)|str (s:Str)|ty (n:String)|cls (k:Nat)
 | scr (ns:List Int)
 | lst (xs:List PV)|tup (xs:List PV)
 | ins (k:Nat) (ns:List Str) (xs:List PV)
 | loc (n:Nat)
inductive Nd where
 | lst (xs:List PV)|dct (ks:List Key) (xs:List PV)|fz (ks:List Key) (xs:List PV)|ins (k:Nat) (ns:List Str) (xs:List PV)|dead
abbrev AH:=List Nd
inductive PVar where|no|val (x:PV)|own (d:Nd)
abbrev PSt:=List PVar
inductive Out where|nx (ρ:PSt)|rt (x:PV)|bk (ρ:PSt)|ct (ρ:PSt)
abbrev XE:=PSt->AH->Option (PV×AH)
abbrev XT:=PSt->AH->Option (Bool×AH)
abbrev XA:=PSt->AH->Option (List PV×AH)
abbrev XO:=PSt->AH->Option (Nd×AH)
abbrev XS:=PSt->AH->Option (Out×AH)
abbrev Fn:=List PV->AH->Option (PV×AH)
noncomputable def KTp (K:PySem.W.Frag) (a:Addr) (xs:List V):Prop:=∃ (o:Obj) (its:Array Value) (n:Nat),K.lookup a=some o/\o.cls=.type "tuple"/\o.data=.seq its n/\its.size<=sizeLine/\Vals xs its.toList
def TpAt (K:PySem.W.Frag) (F:Hp) (a:Addr) (xs:List V):Prop:=F a=some (.tup xs)\/KTp K a xs
theorem TpAt.mono {K:PySem.W.Frag}{F F':Hp}{a:Addr}{xs:List V}(s:Same F F') (h:TpAt K F a xs):TpAt K F' a xs:=h.elim (fun h=>.inl (s _ _ h)) .inr
mutual
noncomputable def Rep (K:Ck) (F:Hp) (m:List Addr):PV->V->Prop
 | .non,v=>v=.non
 | .bl b,v=>v=.bl b
 | .int i,v=>v=.int i
 | .str s,v=>v=.str s
 | .ty n,v=>v=.ty n
 | .cls k,v=>v=.ref (K.A k)
 | .scr ns,v=>∃ a,v=.ref a/\SqL K.K F a (ns.map V.int)
 | .lst xs,v=>∃ a vs,v=.ref a/\F a=some (.lst vs)/\RepL K F m xs vs
 | .tup xs,v=>∃ a vs,v=.ref a/\TpAt K.K F a vs/\RepL K F m xs vs
 | .ins k ns xs,v=>∃ a dx vs,v=.ref a/\F a=some (.ins (K.A k) dx (ns.zip vs))/\vs.length=ns.length/\RepL K F m xs vs
 | .loc n,v=>∃ a,v=.ref a/\m[n]?=some a
noncomputable def RepL (K:Ck) (F:Hp) (m:List Addr):List PV->List V->Prop
 | [],vs=>vs=[]
 | x::xs,vs=>∃ v r,vs=v::r/\Rep K F m x v/\RepL K F m xs r
end
section
variable {K:Ck}{F F' H H':Hp}{m m':List Addr}
theorem ynY {n:Nat}{a:Addr}(p:m <+: m') (h:m[n]?=some a):m'[n]?=some a:=by
 obtain ⟨r,rfl⟩:=p
 rw [List.getElem?_append_left (List.getElem?_eq_some_iff.mp h).1];exact h
mutual
theorem Rep.mono (s:Same F F') (p:m <+: m'):∀ (x:PV) (v:V),Rep K F m x v->Rep K F' m' x v
 | .non,_,h=>h
 | .bl _,_,h=>h
 | .int _,_,h=>h
 | .str _,_,h=>h
 | .ty _,_,h=>h
 | .cls _,_,h=>h
 | .scr _,_,⟨a,e,h⟩=>⟨a,e,s.seq h⟩
 | .lst xs,_,⟨a,vs,e,h,r⟩=>⟨a,vs,e,s _ _ h,RepL.mono s p xs vs r⟩
 | .tup xs,_,⟨a,vs,e,h,r⟩=>⟨a,vs,e,h.mono s,RepL.mono s p xs vs r⟩
 | .ins _ _ xs,_,⟨a,dx,vs,e,h,l,r⟩=>⟨a,dx,vs,e,s _ _ h,l,RepL.mono s p xs vs r⟩
 | .loc _,_,⟨a,e,h⟩=>⟨a,e,ynY p h⟩
theorem RepL.mono (s:Same F F') (p:m <+: m'):∀ (xs:List PV) (vs:List V),RepL K F m xs vs->RepL K F' m' xs vs
 | [],_,h=>h
 | x::xs,_,⟨v,r,e,h,l⟩=>⟨v,r,e,Rep.mono s p x v h,RepL.mono s p xs r l⟩
end
theorem RepL.len:∀ {xs:List PV}{vs:List V},RepL K F m xs vs->vs.length=xs.length
 | [],_,h=>by rw [show _=[] from h];rfl
 | x::xs,_,⟨v,r,e,h,l⟩=>by rw [e,List.length_cons,List.length_cons,RepL.len l]
theorem RepL.get:∀ {xs:List PV}{vs:List V}{i:Nat}{x:PV},RepL K F m xs vs->xs[i]?=some x->∃ v,vs[i]?=some v/\Rep K F m x v
 | x::xs,_,0,y,⟨v,r,e,h,l⟩,q=>by
  simp at q;subst q;subst e;exact ⟨v,rfl,h⟩
 | x::xs,_,i+1,y,⟨v,r,e,h,l⟩,q=>by
  subst e
  obtain ⟨w,h1,h2⟩:=RepL.get (i:=i) l (by simpa using q)
  exact ⟨w,by simpa using h1,h2⟩
theorem RepL.get' {xs:List PV}{vs:List V}{i:Nat}{v:V}(h:RepL K F m xs vs) (e:vs[i]?=some v):∃ x,xs[i]?=some x/\Rep K F m x v:=by
 have hl:=h.len
 have hi:i<vs.length:=(List.getElem?_eq_some_iff.mp e).1
 have hx:xs[i]?=some xs[i]:=List.getElem?_eq_getElem (by omega)
 obtain ⟨w,h1,h2⟩:=h.get hx
 rw [e] at h1;cases h1
 exact ⟨_,hx,h2⟩
theorem RepL.app:∀ {xs ys:List PV}{vs us:List V},RepL K F m xs vs->RepL K F m ys us->RepL K F m (xs++ys) (vs++us)
 | [],_,_,_,h,k=>by rw [show _=[] from h];exact k
 | x::xs,ys,_,us,⟨v,r,e,h,l⟩,k=>by subst e;exact ⟨v,r++us,rfl,h,RepL.app l k⟩
theorem RepL.snoc {xs:List PV}{vs:List V}{x:PV}{v:V}(h:RepL K F m xs vs) (k:Rep K F m x v):RepL K F m (xs++[x]) (vs++[v]):=h.app ⟨v,[],rfl,k,rfl⟩
theorem RepL.drop:∀ {xs:List PV}{vs:List V}(n:Nat),RepL K F m xs vs->RepL K F m (xs.drop n) (vs.drop n)
 | _,_,0,h=>by simpa using h
 | [],_,n+1,h=>by rw [show _=[] from h];rfl
 | x::xs,_,n+1,⟨v,r,e,h,l⟩=>by subst e;simpa using RepL.drop n l
theorem RepL.take:∀ {xs:List PV}{vs:List V}(n:Nat),RepL K F m xs vs->RepL K F m (xs.take n) (vs.take n)
 | _,_,0,h=>by simp;rfl
 | [],_,n+1,h=>by rw [show _=[] from h];rfl
 | x::xs,_,n+1,⟨v,r,e,h,l⟩=>by subst e;exact ⟨v,r.take n,rfl,h,RepL.take n l⟩
theorem RepL.set:∀ {xs:List PV}{vs:List V}{x:PV}{v:V}(i:Nat),RepL K F m xs vs->Rep K F m x v->RepL K F m (xs.set i x) (vs.set i v)
 | [],_,_,_,_,h,_=>by rw [show _=[] from h];rfl
 | y::xs,_,x,v,0,⟨w,r,e,h,l⟩,k=>by subst e;exact ⟨v,r,rfl,k,l⟩
 | y::xs,_,x,v,i+1,⟨w,r,e,h,l⟩,k=>by subst e;exact ⟨w,r.set i v,rfl,h,RepL.set i l k⟩
theorem RepL.of_ints:∀ (ns:List Int),RepL K F m (ns.map PV.int) (ns.map V.int)
 | []=>rfl
 | n::ns=>⟨_,_,rfl,rfl,RepL.of_ints ns⟩
end
noncomputable def NdAt (K:Ck) (F H:Hp) (m:List Addr):Nd->Addr->Prop
 | .dead,a=>∃ o,H a=some o
 | .lst xs,a=>F a=none/\∃ vs,H a=some (.lst vs)/\RepL K F m xs vs
 | .dct ks xs,a=>F a=none/\∃ vs,H a=some (.dK (ks.zip vs))/\vs.length=ks.length/\RepL K F m xs vs
 | .fz ks xs,a=>F a=none/\∃ o vs,H a=some (.frz o (.dK (ks.zip vs)))/\vs.length=ks.length/\RepL K F m xs vs
 | .ins k ns xs,a=>F a=none/\∃ dx vs,H a=some (.ins (K.A k) dx (ns.zip vs))/\vs.length=ns.length/\RepL K F m xs vs
structure Wd where
 F:Hp
 H:Hp
 m:List Addr
 h:AH
structure WOk (K:Ck) (W:Wd):Prop where
 le:Same W.F W.H
 len:W.m.length=W.h.length
 nd:W.m.Nodup
 at_:∀ (n:Nat) (d:Nd) (a:Addr),W.h[n]?=some d->W.m[n]?=some a->NdAt K W.F W.H W.m d a
structure Le (K:Ck) (W W':Wd):Prop where
 ok:WOk K W'
 fs:Same W.F W'.F
 pre:W.m <+: W'.m
 keep:∀ b o,W.H b=some o->b∉W.m->W'.H b=some o
 new:∀ b o,W.H b=some o->b∉W.m->W.F b=none->W'.F b=none
 mn:∀ b∈W'.m,b∉W.m->W.H b=none
 fz:∀ (n:Nat) (ks:List Key) (xs:List PV),W.h[n]?=some (.fz ks xs)->W'.h[n]?=some (.fz ks xs)/\∀ a,W.m[n]?=some a->W'.H a=W.H a
theorem Le.refl {K:Ck}{W:Wd}(h:WOk K W):Le K W W:=⟨h,Same.refl _,List.prefix_refl _,fun _ _ e _=>e,fun _ _ _ _ e=>e,fun _ h h'=>absurd h h',fun _ _ _ e=>⟨e,fun _ _=>rfl⟩⟩
theorem Le.trans {K:Ck}{W W1 W2:Wd}(a:Le K W W1) (b:Le K W1 W2):Le K W W2 where
 ok:=b.ok
 fs:=a.fs.trans b.fs
 pre:=a.pre.trans b.pre
 keep:=fun c o e n=>b.keep c o (a.keep c o e n) fun z=>by rw [a.mn c z n] at e;cases e
 new:=fun c o e n f=>b.new c o (a.keep c o e n) (fun z=>by rw [a.mn c z n] at e;cases e) (a.new c o e n f)
 mn:=fun c z n=>by
  by_cases hc:c∈W1.m
  .exact a.mn c hc n
  .have:=b.mn c z hc
   cases e:W.H c with
   | none=>rfl
   | some o=>rw [a.keep c o e n] at this;cases this
 fz:=fun n ks xs e=>by
  obtain ⟨e1,q1⟩:=a.fz n ks xs e
  obtain ⟨e2,q2⟩:=b.fz n ks xs e1
  exact ⟨e2,fun c em=>(q2 c (ynY a.pre em)).trans (q1 c em)⟩
abbrev ygI (K:Ck) (W:Wd) (x:PV) (v:V):Prop:=Rep K W.F W.m x v
abbrev yhm (K:Ck) (W:Wd) (x:List PV) (v:List V):Prop:=RepL K W.F W.m x v
theorem Le.rep {K:Ck}{W W':Wd}(l:Le K W W') {x:PV}{v:V}(h:ygI K W x v):ygI K W' x v:=Rep.mono l.fs l.pre x v h
theorem Le.repL {K:Ck}{W W':Wd}(l:Le K W W') {x:List PV}{v:List V}(h:yhm K W x v):yhm K W' x v:=RepL.mono l.fs l.pre x v h
theorem NdAt.mono {K:Ck}{F F' H H':Hp}{m m':List Addr}(s:Same F F') (p:m <+: m') {d:Nd}{a:Addr}(hH:∀ o,H a=some o->H' a=some o) (hF:F a=none->F' a=none) (h:NdAt K F H m d a):NdAt K F' H' m' d a:=by
 cases d with
 | dead=>obtain ⟨o,e⟩:=h;exact ⟨o,hH _ e⟩
 | lst xs=>obtain ⟨f,vs,e,r⟩:=h;exact ⟨hF f,vs,hH _ e,RepL.mono s p _ _ r⟩
 | dct ks xs=>obtain ⟨f,vs,e,l,r⟩:=h;exact ⟨hF f,vs,hH _ e,l,RepL.mono s p _ _ r⟩
 | fz ks xs=>obtain ⟨f,o,vs,e,l,r⟩:=h;exact ⟨hF f,o,vs,hH _ e,l,RepL.mono s p _ _ r⟩
 | ins C ns xs=>obtain ⟨f,dx,vs,e,l,r⟩:=h;exact ⟨hF f,dx,vs,hH _ e,l,RepL.mono s p _ _ r⟩
theorem NdAt.some {K:Ck}{F H:Hp}{m:List Addr}{d:Nd}{a:Addr}(h:NdAt K F H m d a):∃ o,H a=some o:=by
 cases d with
 | dead=>exact h
 | lst xs=>obtain ⟨f,vs,e,r⟩:=h;exact ⟨_,e⟩
 | dct ks xs=>obtain ⟨f,vs,e,r⟩:=h;exact ⟨_,e⟩
 | fz ks xs=>obtain ⟨f,o,vs,e,r⟩:=h;exact ⟨_,e⟩
 | ins C ns xs=>obtain ⟨f,dx,vs,e,r⟩:=h;exact ⟨_,e⟩
structure Good (K:Ck) (W0 W:Wd) (ρ:PSt) (σ:St):Prop where
 le:Le K W0 W
 len:σ.length=ρ.length
 val:∀ (i:Nat) (x:PV),ρ[i]?=some (.val x)->∃ v,σ[i]?=some (some v)/\ygI K W x v
 own:∀ (i:Nat) (d:Nd),ρ[i]?=some (.own d)->∃ p,σ[i]?=some (some (.ref p))/\p∉W.m/\W0.H p=none/\d≠.dead/\NdAt K W.F W.H W.m d p
 ne:∀ (i j:Nat) (d d':Nd),i≠j->ρ[i]?=some (.own d)->ρ[j]?=some (.own d')->σ[i]?≠σ[j]?
theorem Good.ok {K:Ck}{W0 W:Wd}{ρ:PSt}{σ:St}(g:Good K W0 W ρ σ):WOk K W:=g.le.ok
theorem Good.step {K:Ck}{W0 W W':Wd}{ρ:PSt}{σ:St}(g:Good K W0 W ρ σ) (l:Le K W W'):Good K W0 W' ρ σ where
 le:=g.le.trans l
 len:=g.len
 val:=fun i x e=>let ⟨v,h1,h2⟩:=g.val i x e;⟨v,h1,l.rep h2⟩
 own:=fun i d e=>by
  obtain ⟨p,h1,h2,h3,h4,h5⟩:=g.own i d e
  obtain ⟨o,ho⟩:=h5.some
  have n':p∉W'.m:=fun z=>by rw [l.mn p z h2] at ho;cases ho
  refine ⟨p,h1,n',h3,h4,h5.mono l.fs l.pre (fun o e=>l.keep p o e h2) fun f=>l.new p o ho h2 f⟩
 ne:=g.ne
theorem WOk.some {K:Ck}{W:Wd}(w:WOk K W) {a:Addr}(h:a∈W.m):∃ o,W.H a=some o:=by
 obtain ⟨n,hn,e⟩:=List.getElem_of_mem h
 have hl:n<W.h.length:=by rw [<- w.len];exact hn
 exact (w.at_ n W.h[n] a (List.getElem?_eq_getElem hl) (by rw [List.getElem?_eq_getElem hn,e])).some
theorem Le.fresh {K:Ck}{W W':Wd}(l:Le K W W') {p:Addr}(h:W'.H p=none):W.H p=none:=by
 cases e:W.H p with
 | none=>rfl
 | some o =>
  by_cases hm:p∈W.m
  .obtain ⟨o,q⟩:=l.ok.some (l.pre.subset hm)
   rw [h] at q;cases q
  .rw [l.keep p o e hm] at h;cases h
theorem WOk.out {K:Ck}{W:Wd}(w:WOk K W) {p:Addr}(h:W.H p=none):p∉W.m:=fun z=>by
 obtain ⟨o,q⟩:=w.some z
 rw [h] at q;cases q
theorem WOk.ff {K:Ck}{W:Wd}(w:WOk K W) {p:Addr}(h:W.H p=none):W.F p=none:=Same.free w.le h
structure Lf (K:Ck) (W W':Wd):Prop where
 fs:Same W.F W'.F
 pre:W.m <+: W'.m
 fz:∀ (n:Nat) (ks:List Key) (xs:List PV),W.h[n]?=some (.fz ks xs)->W'.h[n]?=some (.fz ks xs)/\∀ a,W.m[n]?=some a->W'.H a=W.H a
theorem Le.lf {K:Ck}{W W':Wd}(l:Le K W W'):Lf K W W':=⟨l.fs,l.pre,l.fz⟩
theorem Lf.refl {K:Ck}{W:Wd}:Lf K W W:=⟨Same.refl _,List.prefix_refl _,fun _ _ _ e=>⟨e,fun _ _=>rfl⟩⟩
theorem Lf.trans {K:Ck}{W W1 W2:Wd}(a:Lf K W W1) (b:Lf K W1 W2):Lf K W W2:=⟨a.fs.trans b.fs,a.pre.trans b.pre,fun n ks xs e=>by
  obtain ⟨e1,q1⟩:=a.fz n ks xs e
  obtain ⟨e2,q2⟩:=b.fz n ks xs e1
  exact ⟨e2,fun c em=>(q2 c (ynY a.pre em)).trans (q1 c em)⟩⟩
theorem Lf.rep {K:Ck}{W W':Wd}(l:Lf K W W') {x:PV}{v:V}(h:ygI K W x v):ygI K W' x v:=Rep.mono l.fs l.pre x v h
noncomputable def yfM (K:Ck) (t:TE) (e:XE):Prop:=∀ (W0 W:Wd) (ρ:PSt) (σ:St) (Q:VK) (x:PV) (h':AH),Good K W0 W ρ σ->e ρ W.h=some (x,h') ->
 (∀ v W',W'.h=h'->Le K W W'->ygI K W' x v->Q v W'.H)->t σ W.H Q
noncomputable def yuU (K:Ck) (t:TT) (e:XT):Prop:=∀ (W0 W:Wd) (ρ:PSt) (σ:St) (Q:Bool->Hp->Prop) (x:Bool) (h':AH),Good K W0 W ρ σ->e ρ W.h=some (x,h') ->
 (∀ W',W'.h=h'->Le K W W'->Q x W'.H)->t σ W.H Q
noncomputable def ytF (K:Ck) (t:TA) (e:XA):Prop:=∀ (W0 W:Wd) (ρ:PSt) (σ:St) (Q:List V->Hp->Prop) (x:List PV) (h':AH),Good K W0 W ρ σ->e ρ W.h=some (x,h') ->
 (∀ v W',W'.h=h'->Le K W W'->yhm K W' x v->Q v W'.H)->t σ W.H Q
noncomputable def yyD (K:Ck) (t:TE) (e:XO):Prop:=∀ (W0 W:Wd) (ρ:PSt) (σ:St) (Q:VK) (d:Nd) (h':AH),Good K W0 W ρ σ->e ρ W.h=some (d,h') ->
 (∀ p W',W'.h=h'->Le K W W'->p∉W'.m->W.H p=none->d≠.dead->NdAt K W'.F W'.H W'.m d p->Q (.ref p) W'.H)->t σ W.H Q
noncomputable def Ends.Ok (K:Ck) (W0 W:Wd) (D:Ends) (h':AH):Out->Prop
 | .nx ρ'=>∀ W' σ',W'.h=h'->Lf K W W'->Good K W0 W' ρ' σ'->D.nx σ' W'.H
 | .bk ρ'=>∀ W' σ',W'.h=h'->Lf K W W'->Good K W0 W' ρ' σ'->D.bk σ' W'.H
 | .ct ρ'=>∀ W' σ',W'.h=h'->Lf K W W'->Good K W0 W' ρ' σ'->D.ct σ' W'.H
 | .rt x=>∀ W' v,W'.h=h'->Le K W0 W'->ygI K W' x v->D.rt v W'.H
noncomputable def yne (K:Ck) (t:TS) (s:XS):Prop:=∀ (W0 W:Wd) (ρ:PSt) (σ:St) (D:Ends) (o:Out) (h':AH),Good K W0 W ρ σ->s ρ W.h=some (o,h')->Ends.Ok K W0 W D h' o->t D σ W.H
noncomputable def ob {α β:Type}(o:Option (α×AH)) (f:α->AH->Option β):Option β:=o.bind fun q=>f q.1 q.2
theorem yq {α β:Type}{o:Option (α×AH)}{f:α->AH->Option β}{b:β}(h:ob o f=some b):∃ x h',o=some (x,h')/\f x h'=some b:=by
 obtain ⟨⟨x,h'⟩,e,k⟩:=Option.bind_eq_some_iff.mp h
 exact ⟨x,h',e,k⟩
end PX
namespace PX
open PySem L2
variable {K:Ck}
def yk (i:Nat):XE:=fun ρ h=>match ρ[i]? with|some (.val x)=>some (x,h)|_=>none
def xC (x:PV):XE:=fun _ h=>some (x,h)
abbrev P2:=PV->PV->AH->Option (PV×AH)
abbrev P2O:=PV->PV->AH->Option (Nd×AH)
def xOp (p:P2) (a b:XE):XE:=fun ρ h=>ob (a ρ h) fun x h1=>ob (b ρ h1) fun y h2=>p x y h2
def yHp (p:P2O) (a b:XE):XO:=fun ρ h=>ob (a ρ h) fun x h1=>ob (b ρ h1) fun y h2=>p x y h2
def xUn (p:PV->AH->Option (PV×AH)) (a:XE):XE:=fun ρ h=>ob (a ρ h) fun x h1=>p x h1
def oB (x:PV) (h:AH):Option (Bool×AH):=match x with|.bl b=>some (b,h)|_=>none
noncomputable def yrt (p p':P2) (a b c:XE):XE:=fun ρ h=>ob (a ρ h) fun x h1=>ob (b ρ h1) fun y h2=>ob (p x y h2) fun z h3=>ob (oB z h3) fun k h3=>if k=true then ob (c ρ h3) fun w h4=>p' y w h4 else some (.bl false,h3)
def yF (a:XE):XT:=fun ρ h=>ob (a ρ h) oB
def ypD (a b:XE):XE:=fun ρ h=>ob (a ρ h) fun x h1=>ob (oB x h1) fun k h1=>if k=true then b ρ h1 else some (.bl false,h1)
def yBK (a:XE):XE:=fun ρ h=>ob (a ρ h) fun x h1=>ob (oB x h1) fun k h1=>some (.bl (!k),h1)
def yyE (a b:XT):XT:=fun ρ h=>ob (a ρ h) fun k h1=>if k=true then b ρ h1 else some (false,h1)
def xOr (a b:XT):XT:=fun ρ h=>ob (a ρ h) fun k h1=>if k=true then some (true,h1) else b ρ h1
def ypo (a:XT):XT:=fun ρ h=>ob (a ρ h) fun k h1=>some (!k,h1)
def xIf (c:XT) (a b:XE):XE:=fun ρ h=>ob (c ρ h) fun k h1=>if k=true then a ρ h1 else b ρ h1
def yu:XA:=fun _ h=>some ([],h)
def yd (a:XE) (r:XA):XA:=fun ρ h=>ob (a ρ h) fun x h1=>ob (r ρ h1) fun xs h2=>some (x::xs,h2)
def ysc (a:XA):XE:=fun ρ h=>ob (a ρ h) fun xs h1=>if xs.length<=1000 then some (.tup xs,h1) else none
def ymp (a:XA):XO:=fun ρ h=>ob (a ρ h) fun xs h1=>if xs.length<=1000 then some (.lst xs,h1) else none
noncomputable def xFz (e:XO):XE:=fun ρ h=>ob (e ρ h) fun d h1=>match d with|.lst xs=>some (.lst xs,h1)|.ins k ns xs=>some (.ins k ns xs,h1)|_=>none
def yuV (e:XO):XE:=fun ρ h=>ob (e ρ h) fun d h1=>some (.loc h1.length,h1++[d])
def ybJ (f:Fn) (a:XA):XE:=fun ρ h=>ob (a ρ h) f
def xCB (p:List PV->AH->Option (PV×AH)) (a:XA):XE:=fun ρ h=>ob (a ρ h) p
def ytG (p:List PV->AH->Option (Nd×AH)) (a:XA):XO:=fun ρ h=>ob (a ρ h) p
abbrev PM:=PV->List PV->AH->Option (PV×AH)
noncomputable def xBM (c:PV->AH->Bool) (p:PM) (o:XE) (a:XA):XE:=fun ρ h=>ob (o ρ h) fun x h1=>if c x h1=true then ob (a ρ h1) fun xs h2=>p x xs h2 else none
noncomputable def ytH (e:XE):PSt->AH->Option (Option Int×AH):=fun ρ h=>ob (e ρ h) fun x h1=>match x with|.int i=>some (some i,h1)|_=>none
def ynZ:PSt->AH->Option (Option Int×AH):=fun _ h=>some (none,h)
noncomputable def yEI (p:PV->Option Int->Option Int->AH->Option (Nd×AH)) (e:XE) (lo hi:PSt->AH->Option (Option Int×AH)):XO:=fun ρ h=>ob (e ρ h) fun x h1=>ob (lo ρ h1) fun l h2=>ob (hi ρ h2) fun u h3=>p x l u h3
noncomputable def yfq (K:Ck) (r:R2) (p:P2):Prop:=∀ (W:Wd) (x y:PV) (v u:V) (Q:VK) (z:PV) (h':AH),WOk K W->ygI K W x v->ygI K W y u->p x y W.h=some (z,h')->(∀ w W',W'.h=h'->Le K W W'->ygI K W' z w->Q w W'.H)->r v u W.H Q
noncomputable def yxE (K:Ck) (W:Wd) (d:Nd) (h':AH) (Q:VK):Prop:=∀ p W',W'.h=h'->Le K W W'->p∉W'.m->W.H p=none->d≠.dead->NdAt K W'.F W'.H W'.m d p->Q (.ref p) W'.H
noncomputable def yzq (K:Ck) (r:R2) (p:P2O):Prop:=∀ (W:Wd) (x y:PV) (v u:V) (Q:VK) (d:Nd) (h':AH),WOk K W->ygI K W x v->ygI K W y u->p x y W.h=some (d,h')->yxE K W d h' Q->r v u W.H Q
noncomputable def yEJ (K:Ck) (r:V->Hp->VK->Prop) (p:PV->AH->Option (PV×AH)):Prop:=∀ (W:Wd) (x:PV) (v:V) (Q:VK) (z:PV) (h':AH),WOk K W->ygI K W x v->p x W.h=some (z,h')->(∀ w W',W'.h=h'->Le K W W'->ygI K W' z w->Q w W'.H)->r v W.H Q
noncomputable def ypa (K:Ck) (r:List V->Hp->VK->Prop) (p:List PV->AH->Option (PV×AH)):Prop:=∀ (W:Wd) (xs:List PV) (vs:List V) (Q:VK) (z:PV) (h':AH),WOk K W->yhm K W xs vs->p xs W.h=some (z,h')->(∀ w W',W'.h=h'->Le K W W'->ygI K W' z w->Q w W'.H)->r vs W.H Q
noncomputable def yzr (K:Ck) (r:List V->Hp->VK->Prop) (p:List PV->AH->Option (Nd×AH)):Prop:=∀ (W:Wd) (xs:List PV) (vs:List V) (Q:VK) (d:Nd) (h':AH),WOk K W->yhm K W xs vs->p xs W.h=some (d,h')->yxE K W d h' Q->r vs W.H Q
noncomputable def ytI (K:Ck) (T:String) (c:PV->AH->Bool) (r:V->List V->Hp->VK->Prop) (p:PM):Prop :=
 (∀ (W:Wd) (x:PV) (v:V),WOk K W->ygI K W x v->c x W.h=true->tyV K.K T v W.H) /\
 ∀ (W:Wd) (x:PV) (v:V) (xs:List PV) (vs:List V) (Q:VK) (z:PV) (h':AH),WOk K W->ygI K W x v->yhm K W xs vs->p x xs W.h=some (z,h')->(∀ w W',W'.h=h'->Le K W W'->ygI K W' z w->Q w W'.H)->r v vs W.H Q
theorem yEK (i:Nat):yfM K (yGs i) (yk i):=by
 intro W0 W ρ σ Q x h' g e q
 unfold yk at e
 split at e
 .rename_i y hy
  cases e
  obtain ⟨v,h1,h2⟩:=g.val i _ hy
  exact ⟨v,h1,q v W rfl (.refl g.ok) h2⟩
 .cases e
theorem yxF {v:V}{x:PV}(h:∀ W:Wd,ygI K W x v):yfM K (tC v) (xC x):=by
 intro W0 W ρ σ Q y h' g e q
 cases e
 exact q v W rfl (.refl g.ok) (h W)
theorem yzs {i:Int}:yfM K (tC (.int i)) (xC (.int i)):=yxF fun _=>rfl
theorem yzt {i:Str}:yfM K (tC (.str i)) (xC (.str i)):=yxF fun _=>rfl
theorem yHq {i:Bool}:yfM K (tC (.bl i)) (xC (.bl i)):=yxF fun _=>rfl
theorem yEL:yfM K (tC .non) (xC .non):=yxF fun _=>rfl
theorem yHr {n:String}:yfM K (tC (.ty n)) (xC (.ty n)):=yxF fun _=>rfl
theorem yEM {k:Nat}:yfM K (tC (.ref (K.A k))) (xC (.cls k)):=yxF fun _=>rfl
section
variable {ta tb tc:TE}{ea eb ec:XE}{t:TA}{e:XA}
theorem ywG {r:R2}{p:P2}(o:yfq K r p) (a:yfM K ta ea) (b:yfM K tb eb):yfM K (tOp r ta tb) (xOp p ea eb):=by
 intro W0 W ρ σ Q z h' g e q
 obtain ⟨x,h1,e1,f1⟩:=yq e
 obtain ⟨y,h2,e2,f2⟩:=yq f1
 refine a W0 W ρ σ _ x h1 g e1 fun v W1 w1 l1 r1=>?_
 subst w1
 refine b W0 W1 ρ σ _ y h2 (g.step l1) e2 fun u W2 w2 l2 r2=>?_
 subst w2
 exact o W2 x y v u Q z h' l2.ok (l2.rep r1) r2 f2 fun w W3 w3 l3 r3=>q w W3 w3 (l1.trans (l2.trans l3)) r3
theorem yoa {W W1:Wd}{d:Nd}{h':AH}{Q:VK}(l:Le K W W1) (q:yxE K W d h' Q):yxE K W1 d h' Q:=fun p W' e l' n f=>q p W' e (l.trans l') n (l.fresh f)
theorem yEN {r:R2}{p:P2O}(o:yzq K r p) (a:yfM K ta ea) (b:yfM K tb eb):yyD K (tOp r ta tb) (yHp p ea eb):=by
 intro W0 W ρ σ Q z h' g e q
 obtain ⟨x,h1,e1,f1⟩:=yq e
 obtain ⟨y,h2,e2,f2⟩:=yq f1
 refine a W0 W ρ σ _ x h1 g e1 fun v W1 w1 l1 r1=>?_
 subst w1
 refine b W0 W1 ρ σ _ y h2 (g.step l1) e2 fun u W2 w2 l2 r2=>?_
 subst w2
 exact o W2 x y v u Q z h' l2.ok (l2.rep r1) r2 f2 (yoa (l1.trans l2) q)
theorem yHs {r} {p} (o:yEJ K r p) (a:yfM K ta ea):yfM K (tUn r ta) (xUn p ea):=by
 intro W0 W ρ σ Q z h' g e q
 obtain ⟨x,h1,e1,f1⟩:=yq e
 refine a W0 W ρ σ _ x h1 g e1 fun v W1 w1 l1 r1=>?_
 subst w1
 exact o W1 x v Q z h' l1.ok r1 f1 fun w W3 w3 l3 r3=>q w W3 w3 (l1.trans l3) r3
theorem ysd {x:PV}{h:AH}{k:Bool}{h':AH}(e:oB x h=some (k,h')):x=.bl k/\h'=h:=by
 unfold oB at e
 split at e
 .cases e;exact ⟨rfl,rfl⟩
 .cases e
theorem ytJ {r r':R2}{p p':P2}(o:yfq K r p) (o':yfq K r' p') (a:yfM K ta ea) (b:yfM K tb eb) (c:yfM K tc ec):yfM K (yzb r r' ta tb tc) (yrt p p' ea eb ec):=by
 intro W0 W ρ σ Q z h' g e q
 obtain ⟨x,h1,e1,f1⟩:=yq e
 obtain ⟨y,h2,e2,f2⟩:=yq f1
 obtain ⟨z',h3,e3,f3⟩:=yq f2
 obtain ⟨k,h3',e3',f4⟩:=yq f3
 obtain ⟨rfl,rfl⟩:=ysd e3'
 refine a W0 W ρ σ _ x h1 g e1 fun v W1 w1 l1 r1=>?_
 subst w1
 refine b W0 W1 ρ σ _ y h2 (g.step l1) e2 fun u W2 w2 l2 r2=>?_
 subst w2
 refine o W2 x y v u _ _ _ l2.ok (l2.rep r1) r2 e3 fun w W3 w3 l3 r3=>⟨k,r3,?_⟩
 subst w3
 have l:=l1.trans (l2.trans l3)
 cases k with
 | false =>
  rw [if_neg (by decide)] at f4 ⊢
  cases f4
  exact q _ W3 rfl l rfl
 | true =>
  rw [if_pos rfl] at f4 ⊢
  obtain ⟨w',h4,e4,f5⟩:=yq f4
  refine c W0 W3 ρ σ _ w' h4 (g.step l) e4 fun u' W4 w4 l4 r4=>?_
  subst w4
  exact o' W4 y w' u u' Q z h' l4.ok ((l3.trans l4).rep r2) r4 f5 fun w W5 w5 l5 r5=>q w W5 w5 (l.trans (l4.trans l5)) r5
theorem yse (a:yfM K ta ea):yuU K (yEo ta) (yF ea):=by
 intro W0 W ρ σ Q k h' g e q
 obtain ⟨x,h1,e1,f1⟩:=yq e
 obtain ⟨rfl,rfl⟩:=ysd f1
 exact a W0 W ρ σ _ _ _ g e1 fun v W1 w1 l1 r1=>⟨k,r1,q W1 w1 l1⟩
theorem yHt (a:yfM K ta ea):yuU K (tB ta) (yF ea):=yse a
theorem yBL (a:yfM K ta ea) (b:yfM K tb eb):yfM K (yGL ta tb) (ypD ea eb):=by
 intro W0 W ρ σ Q z h' g e q
 obtain ⟨x,h1,e1,f1⟩:=yq e
 obtain ⟨k,h1',e1',f2⟩:=yq f1
 obtain ⟨rfl,rfl⟩:=ysd e1'
 refine a W0 W ρ σ _ _ _ g e1 fun v W1 w1 l1 r1=>⟨k,r1,?_⟩
 subst w1
 cases k with
 | false =>
  rw [if_neg (by decide)] at f2 ⊢
  cases f2
  exact q _ W1 rfl l1 rfl
 | true =>
  rw [if_pos rfl] at f2 ⊢
  exact b W0 W1 ρ σ _ z h' (g.step l1) f2 fun v W2 w2 l2 r2=>q v W2 w2 (l1.trans l2) r2
theorem yBM (a:yfM K ta ea):yfM K (yGM ta) (yBK ea):=by
 intro W0 W ρ σ Q z h' g e q
 obtain ⟨x,h1,e1,f1⟩:=yq e
 obtain ⟨k,h1',e1',f2⟩:=yq f1
 obtain ⟨rfl,rfl⟩:=ysd e1'
 cases f2
 exact a W0 W ρ σ _ _ _ g e1 fun v W1 w1 l1 r1=>⟨k,r1,q _ W1 w1 l1 rfl⟩
section
variable {tA tB':TT}{eA eB:XT}
theorem yEO (a:yuU K tA eA) (b:yuU K tB' eB):yuU K (yLX tA tB') (yyE eA eB):=by
 intro W0 W ρ σ Q z h' g e q
 obtain ⟨k,h1,e1,f1⟩:=yq e
 refine a W0 W ρ σ _ _ _ g e1 fun W1 w1 l1=>?_
 subst w1
 cases k with
 | false =>
  rw [if_neg (by decide)] at f1 ⊢
  cases f1
  exact q W1 rfl l1
 | true =>
  rw [if_pos rfl] at f1 ⊢
  exact b W0 W1 ρ σ _ z h' (g.step l1) f1 fun W2 w2 l2=>q W2 w2 (l1.trans l2)
theorem yHu (a:yuU K tA eA) (b:yuU K tB' eB):yuU K (tOr tA tB') (xOr eA eB):=by
 intro W0 W ρ σ Q z h' g e q
 obtain ⟨k,h1,e1,f1⟩:=yq e
 refine a W0 W ρ σ _ _ _ g e1 fun W1 w1 l1=>?_
 subst w1
 cases k with
 | true =>
  rw [if_pos rfl] at f1 ⊢
  cases f1
  exact q W1 rfl l1
 | false =>
  rw [if_neg (by decide)] at f1 ⊢
  exact b W0 W1 ρ σ _ z h' (g.step l1) f1 fun W2 w2 l2=>q W2 w2 (l1.trans l2)
theorem yEP (a:yuU K tA eA):yuU K (yJN tA) (ypo eA):=by
 intro W0 W ρ σ Q z h' g e q
 obtain ⟨k,h1,e1,f1⟩:=yq e
 cases f1
 exact a W0 W ρ σ _ _ _ g e1 fun W1 w1 l1=>q W1 w1 l1
theorem yHv (c:yuU K tA eA) (a:yfM K ta ea) (b:yfM K tb eb):yfM K (tIf tA ta tb) (xIf eA ea eb):=by
 intro W0 W ρ σ Q z h' g e q
 obtain ⟨k,h1,e1,f1⟩:=yq e
 refine c W0 W ρ σ _ _ _ g e1 fun W1 w1 l1=>?_
 subst w1
 cases k with
 | true =>
  rw [if_pos rfl] at f1 ⊢
  exact a W0 W1 ρ σ _ z h' (g.step l1) f1 fun v W2 w2 l2 r2=>q v W2 w2 (l1.trans l2) r2
 | false =>
  rw [if_neg (by decide)] at f1 ⊢
  exact b W0 W1 ρ σ _ z h' (g.step l1) f1 fun v W2 w2 l2 r2=>q v W2 w2 (l1.trans l2) r2
end
theorem yvt:ytF K yHa yu:=by
 intro W0 W ρ σ Q z h' g e q
 cases e
 exact q [] W rfl (.refl g.ok) rfl
theorem yBN (a:yfM K ta ea) (r:ytF K t e):ytF K (yEt ta t) (yd ea e):=by
 intro W0 W ρ σ Q z h' g e q
 obtain ⟨x,h1,e1,f1⟩:=yq e
 obtain ⟨xs,h2,e2,f2⟩:=yq f1
 cases f2
 refine a W0 W ρ σ _ x h1 g e1 fun v W1 w1 l1 r1=>?_
 subst w1
 exact r W0 W1 ρ σ _ xs _ (g.step l1) e2 fun vs W2 w2 l2 r2=>q (v::vs) W2 w2 (l1.trans l2) ⟨v,vs,rfl,l2.rep r1,r2⟩
def yDB (W:Wd) (p:Addr) (o:HO):Wd:=⟨upd W.F p o,upd W.H p o,W.m,W.h⟩
theorem yvu {W:Wd}{p:Addr}{o:HO}(w:WOk K W) (h:W.H p=none):Le K W (yDB W p o):=by
 have hm:=w.out h
 have hf:=w.ff h
 have sF:Same W.F (upd W.F p o):=yiZ hf o
 refine ⟨⟨?_,w.len,w.nd,fun n d a e1 e2=>?_⟩,sF,List.prefix_refl _,fun b u e _=>yiZ h o b u e,fun b u e _ f=>?_,fun b z n=>absurd z n,fun n ks xs e1=>⟨e1,fun a e2=>ybV fun z=>hm (z ▸ List.mem_of_getElem? e2)⟩⟩
 .intro b u e
  show upd W.H p o b=some u
  by_cases hb:b=p
  .subst hb;rw [show (yDB W b o).F b=upd W.F b o b from rfl,ybX] at e;rw [ybX];exact e
  .rw [show (yDB W p o).F b=upd W.F p o b from rfl,ybV hb] at e;rw [ybV hb];exact w.le _ _ e
 .have ha:a≠p:=fun z=>hm (z ▸ List.mem_of_getElem? e2)
  exact (w.at_ n d a e1 e2).mono sF (List.prefix_refl _) (fun u e=>by rw [show (yDB W p o).H a=upd W.H p o a from rfl,ybV ha];exact e) fun f=>(ybV ha).trans f
 .have:b≠p:=ydM e h
  rw [show (yDB W p o).F b=upd W.F p o b from rfl,ybV this];exact f
def yta (W:Wd) (p:Addr) (o:HO):Wd:=⟨W.F,upd W.H p o,W.m,W.h⟩
theorem ymx {W:Wd}{p:Addr}{o:HO}(w:WOk K W) (h:W.H p=none):Le K W (yta W p o):=by
 have hm:=w.out h
 refine ⟨⟨?_,w.len,w.nd,fun n d a e1 e2=>?_⟩,Same.refl _,List.prefix_refl _,fun b u e _=>yiZ h o b u e,fun b u e _ f=>f,fun b z n=>absurd z n,fun n ks xs e1=>⟨e1,fun a e2=>ybV fun z=>hm (z ▸ List.mem_of_getElem? e2)⟩⟩
 .exact fun b u e=>yiZ h o b u (w.le _ _ e)
 .exact (w.at_ n d a e1 e2).mono (Same.refl _) (List.prefix_refl _) (fun u e=>yiZ h o _ _ e) id
theorem small {n:Nat}(h:n<=1000):n<=sizeLine:=Nat.le_of_lt (ytm h)
theorem yEQ (a:ytF K t e):yfM K (yMh t) (ysc e):=by
 intro W0 W ρ σ Q z h' g e q
 obtain ⟨xs,h1,e1,f1⟩:=yq e
 split at f1
 .rename_i hl
  cases f1
  refine a W0 W ρ σ _ xs _ g e1 fun vs W1 w1 l1 r1=>⟨small (by rw [r1.len];exact hl),fun p hp=>?_⟩
  have l2:=yvu (o:=.tup vs) l1.ok hp
  exact q (.ref p) (yDB W1 p (.tup vs)) w1 (l1.trans l2) ⟨p,vs,rfl,.inl ybX,l2.repL r1⟩
 .cases f1
theorem yER (a:ytF K t e):yyD K (yMi t) (ymp e):=by
 intro W0 W ρ σ Q z h' g e q
 obtain ⟨xs,h1,e1,f1⟩:=yq e
 split at f1
 .rename_i hl
  cases f1
  refine a W0 W ρ σ _ xs _ g e1 fun vs W1 w1 l1 r1=>⟨small (by rw [r1.len];exact hl),fun p hp=>?_⟩
  have l2:=ymx (o:=.lst vs) l1.ok hp
  exact q p (yta W1 p (.lst vs)) w1 (l1.trans l2) (l1.ok.out hp) (l1.fresh hp) (fun z=>by cases z) ⟨l1.ok.ff hp,vs,ybX,r1⟩
 .cases f1
def yBO (W:Wd) (p:Addr) (o:HO):Wd:=⟨upd W.F p o,W.H,W.m,W.h⟩
theorem yzu {W:Wd}{p:Addr}{o:HO}(w:WOk K W) (h:W.H p=some o) (hm:p∉W.m) (hf:W.F p=none):WOk K (yBO W p o)/\Same W.F (upd W.F p o):=by
 have sF:Same W.F (upd W.F p o):=yiZ hf o
 refine ⟨⟨?_,w.len,w.nd,fun n d a e1 e2=>?_⟩,sF⟩
 .intro b u e
  by_cases hb:b=p
  .subst hb;rw [show (yBO W b o).F b=upd W.F b o b from rfl,ybX] at e;cases e;exact h
  .rw [show (yBO W p o).F b=upd W.F p o b from rfl,ybV hb] at e;exact w.le _ _ e
 .have ha:a≠p:=fun z=>hm (z ▸ List.mem_of_getElem? e2)
  exact (w.at_ n d a e1 e2).mono sF (List.prefix_refl _) (fun u e=>e) fun f=>(ybV ha).trans f
theorem yvv {W W1:Wd}{p:Addr}{o:HO}(l:Le K W W1) (h:W1.H p=some o) (hm:p∉W1.m) (hf:W1.F p=none) (hn:W.H p=none):Le K W (yBO W1 p o):=by
 obtain ⟨k,sF⟩:=yzu l.ok h hm hf
 refine ⟨k,l.fs.trans sF,l.pre,l.keep,fun b u e n f=>?_,l.mn,l.fz⟩
 have:b≠p:=ydM e hn
 rw [show (yBO W1 p o).F b=upd W1.F p o b from rfl,ybV this];exact l.new b u e n f
theorem yHw {o:XO}(a:yyD K ta o):yfM K ta (xFz o):=by
 intro W0 W ρ σ Q z h' g e q
 obtain ⟨d,h1,e1,f1⟩:=yq e
 refine a W0 W ρ σ _ d h1 g e1 fun p W1 w1 l1 hm hn hd at_=>?_
 split at f1
 .rename_i xs
  cases f1
  obtain ⟨hf,vs,hp,r⟩:=at_
  have l2:=yvv l1 hp hm hf hn
  exact q (.ref p) (yBO W1 p (.lst vs)) w1 l2 ⟨p,vs,rfl,ybX,RepL.mono (yiZ hf _) (List.prefix_refl _) _ _ r⟩
 .rename_i k ns xs
  cases f1
  obtain ⟨hf,dx,vs,hp,hl,r⟩:=at_
  have l2:=yvv l1 hp hm hf hn
  exact q (.ref p) (yBO W1 p _) w1 l2 ⟨p,dx,vs,rfl,ybX,hl,RepL.mono (yiZ hf _) (List.prefix_refl _) _ _ r⟩
 .cases f1
theorem yES {o:XO}(a:yyD K ta o):yfM K ta (yuV o):=by
 intro W0 W ρ σ Q z h' g e q
 obtain ⟨d,h1,e1,f1⟩:=yq e
 cases f1
 refine a W0 W ρ σ _ d h1 g e1 fun p W1 w1 l1 hm hn hd at_=>?_
 subst w1
 have pre:W1.m <+: W1.m++[p]:=List.prefix_append _ _
 refine q (.ref p) ⟨W1.F,W1.H,W1.m++[p],W1.h++[d]⟩ rfl ⟨⟨l1.ok.le,?_,?_,fun n d' a e1 e2=>?_⟩,l1.fs,l1.pre.trans pre,l1.keep,l1.new,fun b z n=>?_,fun n ks xs e1=>⟨by
  have:=(l1.fz n ks xs e1).1
  show (W1.h++[d])[n]?=_
  rw [List.getElem?_append_left (List.getElem?_eq_some_iff.mp this).1];exact this,(l1.fz n ks xs e1).2⟩⟩ ⟨p,rfl,?_⟩
 .show (W1.m++[p]).length=(W1.h++[d]).length
  rw [List.length_append,List.length_append,l1.ok.len];rfl
 .show (W1.m++[p]).Nodup
  rw [List.nodup_append]
  refine ⟨l1.ok.nd,by simp,?_⟩
  intro a ha b hb
  simp at hb
  subst hb
  exact fun z=>hm (z ▸ ha)
 .have e1:(W1.h++[d])[n]?=some d':=e1
  have e2:(W1.m++[p])[n]?=some a:=e2
  by_cases hlt:n<W1.h.length
  .rw [List.getElem?_append_left hlt] at e1
   rw [List.getElem?_append_left (by rw [l1.ok.len];exact hlt)] at e2
   exact (l1.ok.at_ n d' a e1 e2).mono (Same.refl _) pre (fun _ f1=>f1) id
  .rw [List.getElem?_append_right (by omega)] at e1
   rw [List.getElem?_append_right (by rw [l1.ok.len];omega)] at e2
   rw [l1.ok.len] at e2
   cases hk:n-W1.h.length with
   | zero =>
    rw [hk] at e1 e2
    simp at e1 e2
    subst e1 e2
    exact at_.mono (Same.refl _) pre (fun _ f1=>f1) id
   | succ k=>rw [hk] at e1;simp at e1
 .have z:b∈W1.m++[p]:=z
  rcases List.mem_append.mp z with z|z
  .exact l1.mn b z n
  .simp at z;subst z;exact hn
 .show (W1.m++[p])[W1.h.length]?=some p
  rw [<- l1.ok.len];simp
noncomputable def spE (K:Ck) (n:Nat) (f:Fn):Sp:=fun vs H Q _=>∃ (W:Wd) (xs:List PV) (x:PV) (h':AH),W.H=H/\WOk K W/\yhm K W xs vs/\xs.length=n/\f xs W.h=some (x,h')/\∀ v W',W'.h=h'->Le K W W'->ygI K W' x v->Q v W'.H
theorem yBP {n:Nat}{f:Fn}{ex:XK}(a:ytF K t e) (hn:∀ ρ h xs h',e ρ h=some (xs,h')->xs.length=n):yfM K (yEu (spE K n f) [] ex t) (ybJ f e):=by
 intro W0 W ρ σ Q z h' g e' q
 obtain ⟨xs,h1,e1,e2⟩:=yq e'
 refine a W0 W ρ σ _ xs h1 g e1 fun vs W1 w1 l1 r1=>?_
 subst w1
 rw [List.append_nil]
 exact ⟨W1,xs,z,h',rfl,l1.ok,r1,hn _ _ _ _ e1,e2,fun v W2 w2 l2 r2=>q v W2 w2 (l1.trans l2) r2⟩
theorem yzv:∀ ρ h xs h',yu ρ h=some (xs,h')->xs.length=0:=fun ρ h xs h' e=>by cases e;rfl
theorem yBQ {n:Nat}(l:∀ ρ h xs h',e ρ h=some (xs,h')->xs.length=n):∀ ρ h xs h',yd ea e ρ h=some (xs,h')->xs.length=n+1:=fun ρ h xs h' q=>by
 obtain ⟨x,h1,e1,q⟩:=yq q
 obtain ⟨ys,h2,e2,q⟩:=yq q
 cases q
 rw [List.length_cons,l _ _ _ _ e2]
theorem yDC {r} {p} (o:ypa K r p) (a:ytF K t e):yfM K (tCB r t) (xCB p e):=by
 intro W0 W ρ σ Q z h' g e' q
 obtain ⟨xs,h1,e1,e2⟩:=yq e'
 refine a W0 W ρ σ _ xs h1 g e1 fun vs W1 w1 l1 r1=>?_
 subst w1
 exact o W1 xs vs Q z h' l1.ok r1 e2 fun v W2 w2 l2 r2=>q v W2 w2 (l1.trans l2) r2
theorem yET {r} {p} (o:yzr K r p) (a:ytF K t e):yyD K (tCB r t) (ytG p e):=by
 intro W0 W ρ σ Q z h' g e' q
 obtain ⟨xs,h1,e1,e2⟩:=yq e'
 refine a W0 W ρ σ _ xs h1 g e1 fun vs W1 w1 l1 r1=>?_
 subst w1
 exact o W1 xs vs Q z h' l1.ok r1 e2 (yoa l1 q)
theorem yDD {T:String}{c} {r} {p} (o:ytI K T c r p) (b:yfM K ta ea) (a:ytF K t e):yfM K (tBM K.K T r ta t) (xBM c p ea e):=by
 intro W0 W ρ σ Q z h' g e' q
 obtain ⟨x,h1,e1,f1⟩:=yq e'
 split at f1
 .rename_i hc
  obtain ⟨xs,h2,e2,f2⟩:=yq f1
  refine b W0 W ρ σ _ x h1 g e1 fun v W1 w1 l1 r1=>⟨o.1 W1 x v l1.ok r1 (by rw [w1];exact hc),?_⟩
  subst w1
  refine a W0 W1 ρ σ _ xs h2 (g.step l1) e2 fun vs W2 w2 l2 r2=>?_
  subst w2
  exact o.2 W2 x v xs vs Q z h' l2.ok (l2.rep r1) r2 f2 fun w W3 w3 l3 r3=>q w W3 w3 (l1.trans (l2.trans l3)) r3
 .cases f1
theorem yEU {T:String}{c} {r} {p} (o:ytI K T c r p) (b:yfM K ta ea):yfM K (yMn K.K T r ta) (xBM c p ea yu):=yDD (t:=yHa) o b yvt
end
noncomputable def yGt (K:Ck) (t:TO) (e:PSt->AH->Option (Option Int×AH)):Prop:=∀ (W0 W:Wd) (ρ:PSt) (σ:St) (Q:Option Int->Hp->Prop) (x:Option Int) (h':AH),Good K W0 W ρ σ->e ρ W.h=some (x,h') ->
 (∀ W',W'.h=h'->Le K W W'->Q x W'.H)->t σ W.H Q
theorem yxG:yGt K yzi ynZ:=by
 intro W0 W ρ σ Q z h' g e q
 cases e
 exact q W rfl (.refl g.ok)
theorem yBR {ta:TE}{ea:XE}(a:yfM K ta ea):yGt K (yHe ta) (ytH ea):=by
 intro W0 W ρ σ Q z h' g e q
 obtain ⟨x,h1,e1,f1⟩:=yq e
 split at f1
 .rename_i i
  cases f1
  exact a W0 W ρ σ _ _ _ g e1 fun v W1 w1 l1 r1=>⟨i,r1,q W1 w1 l1⟩
 .cases f1
noncomputable def yzw (K:Ck) (r:V->Option Int->Option Int->Hp->VK->Prop) (p:PV->Option Int->Option Int->AH->Option (Nd×AH)):Prop:=∀ (W:Wd) (x:PV) (v:V) (lo hi:Option Int) (Q:VK) (d:Nd) (h':AH),WOk K W->ygI K W x v->p x lo hi W.h=some (d,h')->yxE K W d h' Q->r v lo hi W.H Q
theorem yEV {r} {p} {ta:TE}{ea:XE}{tl th:TO}{el eh} (o:yzw K r p) (a:yfM K ta ea) (b:yGt K tl el) (c:yGt K th eh):yyD K (tSl r ta tl th) (yEI p ea el eh):=by
 intro W0 W ρ σ Q z h' g e q
 obtain ⟨x,h1,e1,f1⟩:=yq e
 obtain ⟨l,h2,e2,f2⟩:=yq f1
 obtain ⟨u,h3,e3,f3⟩:=yq f2
 refine a W0 W ρ σ _ x h1 g e1 fun v W1 w1 l1 r1=>?_
 subst w1
 refine b W0 W1 ρ σ _ l h2 (g.step l1) e2 fun W2 w2 l2=>?_
 subst w2
 refine c W0 W2 ρ σ _ u h3 (g.step (l1.trans l2)) e3 fun W3 w3 l3=>?_
 subst w3
 exact o W3 x v l u Q z h' l3.ok ((l2.trans l3).rep r1) f3 (yoa (l1.trans (l2.trans l3)) q)
end PX
namespace PX
open PySem L2
variable {K:Ck}
def yby:XS:=fun ρ h=>some (.nx ρ,h)
noncomputable def yx (s u:XS):XS:=fun ρ h=>ob (s ρ h) fun o h1=>match o with|.nx ρ'=>u ρ' h1|.rt x=>some (.rt x,h1)|.bk ρ'=>some (.bk ρ',h1)|.ct ρ'=>some (.ct ρ',h1)
def yiW (e:XE):XS:=fun ρ h=>ob (e ρ h) fun _ h1=>some (.nx ρ,h1)
def ycc (e:XE):XS:=fun ρ h=>ob (e ρ h) fun x h1=>some (.rt x,h1)
def ydg (c:XT) (s u:XS):XS:=fun ρ h=>ob (c ρ h) fun k h1=>if k=true then s ρ h1 else u ρ h1
abbrev XG:=PV->PSt->Option PSt
abbrev XGs:=List PV->PSt->Option PSt
def yw (i:Nat):XG:=fun x ρ=>some (ρ.set i (.val x))
def yBh:XGs:=fun xs ρ=>match xs with|[]=>some ρ|_=>none
def ykY (g:XG) (r:XGs):XGs:=fun xs ρ=>match xs with|[]=>none|x::xs=>(g x ρ).bind fun ρ'=>r xs ρ'
def yyF (n:Nat) (g:XGs):XG:=fun x ρ=>match x with|.tup xs=>if xs.length=n then g xs ρ else none|_=>none
def ydI (e:XE) (g:XG):XS:=fun ρ h=>ob (e ρ h) fun x h1=>(g x ρ).bind fun ρ'=>some (.nx ρ',h1)
def yzx (e:XO) (i:Nat):XS:=fun ρ h=>ob (e ρ h) fun d h1=>some (.nx (ρ.set i (.own d)),h1)
def yBS:PVar->PVar
 | .own (.lst xs)=>.val (.lst xs)
 | .own (.ins k ns xs)=>.val (.ins k ns xs)
 | v=>v
def yvw (i:Nat) (ρ:PSt):PSt:=ρ.modify i yBS
def yHx (i:Nat) (s:XS):XS:=fun ρ h=>s (yvw i ρ) h
noncomputable def ymy (i:Nat) (e:XE):XS:=fun ρ h=>match ρ[i]? with
 | some (.own (.lst xs))=>ob (e ρ h) fun x h1=>if xs.length<100000 then some (.nx (ρ.set i (.own (.lst (xs++[x])))),h1) else none
 | _=>none
noncomputable def yjZ (g:XG) (s:XS):List PV->PSt->AH->Option (Out×AH)
 | [],ρ,h=>some (.nx ρ,h)
 | x::xs,ρ,h=>(g x ρ).bind fun ρ1=>ob (s ρ1 h) fun o h1=>match o with|.nx ρ'=>yjZ g s xs ρ' h1|.ct ρ'=>yjZ g s xs ρ' h1|.bk ρ'=>some (.nx ρ',h1)|.rt y=>some (.rt y,h1)
def ytb (it:XA) (g:XG) (s:XS):XS:=fun ρ h=>ob (it ρ h) fun xs h1=>yjZ g s xs ρ h1
noncomputable def whl (c:XT) (s:XS):Nat->PSt->AH->Option (Out×AH)
 | 0,_,_=>none
 | n+1,ρ,h=>ob (c ρ h) fun k h1=>if k=true then ob (s ρ h1) fun o h2=>(match o with|.nx ρ'=>whl c s n ρ' h2|.ct ρ'=>whl c s n ρ' h2|.bk ρ'=>some (.nx ρ',h2)|.rt y=>some (.rt y,h2)) else some (.nx ρ,h1)
def yoE (fuel:Nat) (c:XT) (s:XS):XS:=fun ρ h=>whl c s fuel ρ h
noncomputable def ygJ (N:Nat) (s:XS):Fn:=fun xs h=>ob (s (xs.map .val++List.replicate (N-xs.length) .no) h) fun o h1=>match o with|.rt x=>some (x,h1)|.nx _=>some (.non,h1)|_=>none
def yBi (ρ:PSt) (i:Nat):PVar:=match ρ[i]? with|some (.val y)=>.val y|_=>.no
def ysf (ix:List Nat) (ρ:PSt) (x:PV):PSt:=.val x::ix.map (yBi ρ)
noncomputable def yuW (e:XE) (inn:PV->PSt):List PV->AH->Option (List PV×AH)
 | [],h=>some ([],h)
 | x::xs,h=>ob (e (inn x) h) fun y h1=>ob (yuW e inn xs h1) fun ys h2=>some (y::ys,h2)
noncomputable def ysg (it:XA) (ix:List Nat) (e:XE):XO:=fun ρ h=>ob (it ρ h) fun xs h1=>if xs.length<=100000 then ob (yuW e (ysf ix ρ) xs h1) fun ys h2=>some (.lst ys,h2) else none
theorem Ends.Ok.from_ {W0 W W1:Wd}{D:Ends}{h':AH}{o:Out}(l:Lf K W W1) (k:Ends.Ok K W0 W D h' o):Ends.Ok K W0 W1 D h' o:=by
 cases o with
 | nx ρ=>exact fun W' σ' e l' g=>k W' σ' e (l.trans l') g
 | bk ρ=>exact fun W' σ' e l' g=>k W' σ' e (l.trans l') g
 | ct ρ=>exact fun W' σ' e l' g=>k W' σ' e (l.trans l') g
 | rt x=>exact k
section
variable {ta tb:TE}{ea eb:XE}{t u:TS}{s s':XS}{tA:TT}{eA:XT}
theorem yBT:yne K yGQ yby:=by
 intro W0 W ρ σ D o h' g e q
 cases e
 exact q W σ rfl .refl g
theorem yEW (a:yne K t s) (b:yne K u s'):yne K (yJP t u) (yx s s'):=by
 intro W0 W ρ σ D o h' g e q
 obtain ⟨o1,h1,e1,f1⟩:=yq e
 refine a W0 W ρ σ _ o1 h1 g e1 ?_
 cases o1 with
 | nx ρ'=>exact fun W' σ' w l g'=>b W0 W' ρ' σ' D o h' g' (by rw [w];exact f1) (q.from_ l)
 | rt x=>cases f1;exact q
 | bk ρ'=>cases f1;exact q
 | ct ρ'=>cases f1;exact q
theorem yBU (a:yfM K ta ea):yne K (yEk ta) (yiW ea):=by
 intro W0 W ρ σ D o h' g e q
 obtain ⟨x,h1,e1,f1⟩:=yq e
 cases f1
 exact a W0 W ρ σ _ x _ g e1 fun v W1 w1 l1 r1=>q W1 σ w1 l1.lf (g.step l1)
theorem yEX (a:yfM K ta ea):yne K (yLY ta) (ycc ea):=by
 intro W0 W ρ σ D o h' g e q
 obtain ⟨x,h1,e1,f1⟩:=yq e
 cases f1
 exact a W0 W ρ σ _ x _ g e1 fun v W1 w1 l1 r1=>q W1 v w1 (g.le.trans l1) r1
theorem yEY (c:yuU K tA eA) (a:yne K t s) (b:yne K u s'):yne K (yLZ tA t u) (ydg eA s s'):=by
 intro W0 W ρ σ D o h' g e q
 obtain ⟨k,h1,e1,f1⟩:=yq e
 refine c W0 W ρ σ _ k h1 g e1 fun W1 w1 l1=>?_
 subst w1
 cases k with
 | true =>
  rw [if_pos rfl] at f1 ⊢
  exact a W0 W1 ρ σ D o h' (g.step l1) f1 (q.from_ l1.lf)
 | false =>
  rw [if_neg (by decide)] at f1 ⊢
  exact b W0 W1 ρ σ D o h' (g.step l1) f1 (q.from_ l1.lf)
theorem Good.set {W0 W:Wd}{ρ:PSt}{σ:St}(g:Good K W0 W ρ σ) (i:Nat) {x:PV}{v:V}(r:ygI K W x v):Good K W0 W (ρ.set i (.val x)) (σ.set i (some v)) where
 le:=g.le
 len:=by simp [g.len]
 val:=fun j y e=>by
  by_cases hj:i=j
  .subst hj
   by_cases hl:i<ρ.length
   .rw [List.getElem?_set_self hl] at e
    cases e
    exact ⟨v,List.getElem?_set_self (by rw [g.len];exact hl),r⟩
   .rw [List.getElem?_eq_none (by simp;omega)] at e;cases e
  .rw [List.getElem?_set_ne hj] at e
   obtain ⟨w,h1,h2⟩:=g.val j y e
   exact ⟨w,by rw [List.getElem?_set_ne hj];exact h1,h2⟩
 own:=fun j d e=>by
  by_cases hj:i=j
  .subst hj
   by_cases hl:i<ρ.length
   .rw [List.getElem?_set_self hl] at e;cases e
   .rw [List.getElem?_eq_none (by simp;omega)] at e;cases e
  .rw [List.getElem?_set_ne hj] at e
   obtain ⟨p,h1,h2⟩:=g.own j d e
   exact ⟨p,by rw [List.getElem?_set_ne hj];exact h1,h2⟩
 ne:=fun j k d d' hjk e1 e2=>by
  have f:∀ {j:Nat}{d:Nd},(ρ.set i (.val x))[j]?=some (.own d)->i≠j/\ρ[j]?=some (.own d):=fun {j d} e=>by
   by_cases hj:i=j
   .subst hj
    by_cases hl:i<ρ.length
    .rw [List.getElem?_set_self hl] at e;cases e
    .rw [List.getElem?_eq_none (by simp;omega)] at e;cases e
   .rw [List.getElem?_set_ne hj] at e;exact ⟨hj,e⟩
  obtain ⟨a1,a2⟩:=f e1
  obtain ⟨b1,b2⟩:=f e2
  rw [List.getElem?_set_ne a1,List.getElem?_set_ne b1]
  exact g.ne j k d d' hjk a2 b2
theorem Good.setO {W0 W:Wd}{ρ:PSt}{σ:St}(g:Good K W0 W ρ σ) (i:Nat) {d:Nd}{p:Addr}(hm:p∉W.m) (h0:W0.H p=none) (hd:d≠.dead) (at_:NdAt K W.F W.H W.m d p)
  (ne:∀ j d',i≠j->ρ[j]?=some (.own d')->σ[j]?≠some (some (.ref p))):Good K W0 W (ρ.set i (.own d)) (σ.set i (some (.ref p))) where
 le:=g.le
 len:=by simp [g.len]
 val:=fun j y e=>by
  by_cases hj:i=j
  .subst hj
   by_cases hl:i<ρ.length
   .rw [List.getElem?_set_self hl] at e;cases e
   .rw [List.getElem?_eq_none (by simp;omega)] at e;cases e
  .rw [List.getElem?_set_ne hj] at e
   obtain ⟨w,h1,h2⟩:=g.val j y e
   exact ⟨w,by rw [List.getElem?_set_ne hj];exact h1,h2⟩
 own:=fun j d' e=>by
  by_cases hj:i=j
  .subst hj
   by_cases hl:i<ρ.length
   .rw [List.getElem?_set_self hl] at e
    cases e
    exact ⟨p,List.getElem?_set_self (by rw [g.len];exact hl),hm,h0,hd,at_⟩
   .rw [List.getElem?_eq_none (by simp;omega)] at e;cases e
  .rw [List.getElem?_set_ne hj] at e
   obtain ⟨p,h1,h2⟩:=g.own j d' e
   exact ⟨p,by rw [List.getElem?_set_ne hj];exact h1,h2⟩
 ne:=fun j k d1 d2 hjk e1 e2=>by
  have self:∀ {j:Nat}{d':Nd},i=j->(ρ.set i (.own d))[j]?=some (.own d')->(σ.set i (some (.ref p)))[j]?=some (some (.ref p)):=fun {j d'} hj e=>by
   subst hj
   by_cases hl:i<ρ.length
   .exact List.getElem?_set_self (by rw [g.len];exact hl)
   .rw [List.getElem?_eq_none (by simp;omega)] at e;cases e
  by_cases hj:i=j
  .have hk:i≠k:=fun z=>hjk (hj.symm.trans z)
   rw [self hj e1,List.getElem?_set_ne hk]
   rw [List.getElem?_set_ne hk] at e2
   exact (ne k d2 hk e2).symm
  .rw [List.getElem?_set_ne hj]
   rw [List.getElem?_set_ne hj] at e1
   by_cases hk:i=k
   .rw [self hk e2]
    exact ne j d1 hj e1
   .rw [List.getElem?_set_ne hk] at e2 ⊢
    exact g.ne j k d1 d2 hjk e1 e2
noncomputable def yBj (K:Ck) (g:TG) (y:XG):Prop:=∀ (W0 W:Wd) (ρ ρ':PSt) (σ:St) (x:PV) (v:V) (Q:St->Hp->Prop),Good K W0 W ρ σ->ygI K W x v->y x ρ=some ρ'->(∀ σ',Good K W0 W ρ' σ'->Q σ' W.H)->g v σ W.H Q
noncomputable def yxH (K:Ck) (g:TGs) (y:XGs):Prop:=∀ (W0 W:Wd) (ρ ρ':PSt) (σ:St) (x:List PV) (v:List V) (Q:St->Hp->Prop),Good K W0 W ρ σ->yhm K W x v->y x ρ=some ρ'->(∀ σ',Good K W0 W ρ' σ'->Q σ' W.H)->g v σ W.H Q
theorem ytK (i:Nat):yBj K (yBs i) (yw i):=by
 intro W0 W ρ ρ' σ x v Q g r e q
 cases e
 exact q _ (g.set i r)
theorem yBV:yxH K yMa yBh:=by
 intro W0 W ρ ρ' σ x v Q g r e q
 cases x with
 | nil=>cases e;exact ⟨r,q _ g⟩
 | cons _ _=>cases e
theorem yzy {g:TG}{gs:TGs}{y:XG}{ys:XGs}(a:yBj K g y) (b:yxH K gs ys):yxH K (yGS g gs) (ykY y ys):=by
 intro W0 W ρ ρ' σ x v Q gd r e q
 cases x with
 | nil=>cases e
 | cons x xs =>
  obtain ⟨v1,vs,rfl,r1,r2⟩:=r
  obtain ⟨ρ1,e1,e2⟩:=Option.bind_eq_some_iff.mp e
  exact ⟨v1,vs,rfl,a W0 W ρ ρ1 σ x v1 _ gd r1 e1 fun σ' g'=>b W0 W ρ1 ρ' σ' xs vs Q g' r2 e2 q⟩
theorem yBW {n:Nat}{gs:TGs}{ys:XGs}(b:yxH K gs ys):yBj K (yMb K.K n gs) (yyF n ys):=by
 intro W0 W ρ ρ' σ x v Q g r e q
 unfold yyF at e
 split at e
 .rename_i xs
  split at e
  .rename_i hl
   obtain ⟨a,vs,rfl,hs,rs⟩:=r
   exact ⟨a,vs,rfl,(hs.elim (fun h=>SqT.of (g.ok.le _ _ h)) .inr),by rw [rs.len];exact hl,b W0 W ρ ρ' σ xs vs Q g rs e q⟩
  .cases e
 .cases e
theorem yEZ {g:TG}{y:XG}(a:yfM K ta ea) (b:yBj K g y):yne K (yJR ta g) (ydI ea y):=by
 intro W0 W ρ σ D o h' gd e q
 obtain ⟨x,h1,e1,f1⟩:=yq e
 obtain ⟨ρ',e2,f2⟩:=Option.bind_eq_some_iff.mp f1
 cases f2
 exact a W0 W ρ σ _ x _ gd e1 fun v W1 w1 l1 r1=>b W0 W1 ρ ρ' σ x v _ (gd.step l1) r1 e2 fun σ' g'=>q W1 σ' w1 l1.lf g'
theorem yBX {o:XO}(i:Nat) (a:yyD K ta o):yne K (yJR ta (yBs i)) (yzx o i):=by
 intro W0 W ρ σ D o h' gd e q
 obtain ⟨d,h1,e1,f1⟩:=yq e
 cases f1
 refine a W0 W ρ σ _ d _ gd e1 fun p W1 w1 l1 hm hn hd at_=>q W1 _ w1 l1.lf ((gd.step l1).setO i hm (gd.le.fresh hn) hd at_ fun j d' hj e hs=>?_)
 obtain ⟨p',h1,h2,_,_,h5⟩:=gd.own j d' e
 rw [h1] at hs
 cases hs
 obtain ⟨o,ho⟩:=h5.some
 rw [hn] at ho;cases ho
theorem Good.frz {W0 W:Wd}{ρ:PSt}{σ:St}(g:Good K W0 W ρ σ) (i:Nat):∃ W',W'.h=W.h/\W'.H=W.H/\Lf K W W'/\Good K W0 W' (yvw i ρ) σ:=by
 unfold yvw
 cases e:ρ[i]? with
 | none=>exact ⟨W,rfl,rfl,.refl,by rw [List.modify_eq_self (by simpa using e)];exact g⟩
 | some v =>
  have hl:i<ρ.length:=(List.getElem?_eq_some_iff.mp e).1
  have em:ρ.modify i yBS=ρ.set i (yBS v):=by
   apply List.ext_getElem?
   intro j
   rw [List.getElem?_modify,List.getElem?_set]
   by_cases hj:i=j
   .subst hj
    obtain ⟨_,ev⟩:=List.getElem?_eq_some_iff.mp e
    simp [hl,ev]
   .simp [hj]
  have same:yBS v=v->∃ W',W'.h=W.h/\W'.H=W.H/\Lf K W W'/\Good K W0 W' (ρ.modify i yBS) σ:=fun z=>⟨W,rfl,rfl,.refl,by
   rw [em,z]
   have:ρ.set i v=ρ:=by
    apply List.ext_getElem?
    intro j
    by_cases hj:i=j
    .subst hj;rw [List.getElem?_set_self hl,e]
    .rw [List.getElem?_set_ne hj]
   rw [this];exact g⟩
  have go:∀ (d:Nd) (x:PV) (p:Addr) (o:HO),v=.own d->yBS v=.val x->σ[i]?=some (some (.ref p))->p∉W.m->W0.H p=none->W.H p=some o->W.F p=none->(∀ (F':Hp),Same W.F F'->F' p=some o->Rep K F' W.m x (.ref p)) ->
    ∃ W',W'.h=W.h/\W'.H=W.H/\Lf K W W'/\Good K W0 W' (ρ.modify i yBS) σ:=fun d x p o hv hx hs hm h0 hp hf hr=>by
   obtain ⟨k,sF⟩:=yzu (K:=K) g.ok hp hm hf
   have lf:Lf K W (yBO W p o):=⟨sF,List.prefix_refl _,fun _ _ _ e=>⟨e,fun _ _=>rfl⟩⟩
   refine ⟨yBO W p o,rfl,rfl,lf,⟨yvv g.le hp hm hf h0,by rw [List.length_modify];exact g.len,fun j y e'=>?_,fun j d' e'=>?_,fun j1 j2 d1 d2 hj e1 e2=>?_⟩⟩
   .rw [em,hx] at e'
    by_cases hj:i=j
    .subst hj
     rw [List.getElem?_set_self hl] at e'
     cases e'
     exact ⟨_,hs,hr _ sF ybX⟩
    .rw [List.getElem?_set_ne hj] at e'
     obtain ⟨w,a1,a2⟩:=g.val j y e'
     exact ⟨w,a1,lf.rep a2⟩
   .rw [em,hx] at e'
    by_cases hj:i=j
    .subst hj
     rw [List.getElem?_set_self hl] at e'
     cases e'
    .rw [List.getElem?_set_ne hj] at e'
     obtain ⟨q,a1,a2,a3,a4,a5⟩:=g.own j d' e'
     have hq:q≠p:=fun z=>g.ne j i d' d (fun z=>hj z.symm) e' (hv ▸ e) (by rw [a1,hs,z])
     exact ⟨q,a1,a2,a3,a4,a5.mono sF (List.prefix_refl _) (fun _ e=>e) fun f=>(ybV hq).trans f⟩
   .rw [em,hx] at e1 e2
    have f:∀ {j:Nat}{d:Nd},(ρ.set i (.val x))[j]?=some (.own d)->ρ[j]?=some (.own d):=fun {j d} e=>by
     by_cases hj:i=j
     .subst hj;rw [List.getElem?_set_self hl] at e;cases e
     .rw [List.getElem?_set_ne hj] at e;exact e
    exact g.ne j1 j2 d1 d2 hj (f e1) (f e2)
  cases v with
  | no=>exact same rfl
  | val x=>exact same rfl
  | own d =>
   obtain ⟨p,a1,a2,a3,a4,a5⟩:=g.own i d e
   cases d with
   | lst xs =>
    obtain ⟨hf,vs,hp,r⟩:=a5
    exact go _ (.lst xs) p _ rfl rfl a1 a2 a3 hp hf fun F' s hF=>⟨p,vs,rfl,hF,RepL.mono s (List.prefix_refl _) _ _ r⟩
   | dct ks xs=>exact same rfl
   | fz ks xs=>exact same rfl
   | ins k ns xs =>
    obtain ⟨hf,dx,vs,hp,hl,r⟩:=a5
    exact go _ (.ins k ns xs) p _ rfl rfl a1 a2 a3 hp hf fun F' s hF=>⟨p,dx,vs,rfl,hF,hl,RepL.mono s (List.prefix_refl _) _ _ r⟩
   | dead=>exact same rfl
theorem yFa (i:Nat) (a:yne K t s):yne K t (yHx i s):=by
 intro W0 W ρ σ D o h' g e q
 obtain ⟨W',e1,e2,l,g'⟩:=g.frz i
 rw [<- e2]
 exact a W0 W' _ σ D o h' g' (by rw [e1];exact e) (q.from_ l)
end
end PX
namespace PX
open PySem L2
variable {K:Ck}
section
variable {ta tb:TE}{ea eb:XE}{t u:TS}{s s':XS}{tA:TT}{eA:XT}
def yFb (W:Wd) (p:Addr) (o:HO):Wd:=⟨W.F,upd W.H p o,W.m,W.h⟩
theorem yFc {W:Wd}{p:Addr}{o:HO}(w:WOk K W) (hm:p∉W.m) (hf:W.F p=none):WOk K (yFb W p o):=by
 refine ⟨fun b u e=>?_,w.len,w.nd,fun n d a e1 e2=>?_⟩
 .have:b≠p:=ydM e hf
  exact (ybV this).trans (w.le _ _ e)
 .have ha:a≠p:=fun z=>hm (z ▸ List.mem_of_getElem? e2)
  exact (w.at_ n d a e1 e2).mono (Same.refl _) (List.prefix_refl _) (fun u e=>(ybV ha).trans e) id
theorem yzz {W W1:Wd}{p:Addr}{o:HO}(l:Le K W W1) (hm:p∉W1.m) (hf:W1.F p=none) (hn:W.H p=none):Le K W (yFb W1 p o) :=
 ⟨yFc l.ok hm hf,l.fs,l.pre,fun b u e n=>(ybV (ydM e hn)).trans (l.keep b u e n),l.new,l.mn,fun n ks xs e1=>⟨(l.fz n ks xs e1).1,fun a e2=>(ybV (fun (z:a=p)=>hm (z ▸ List.mem_of_getElem? (ynY l.pre e2)))).trans ((l.fz n ks xs e1).2 a e2)⟩⟩
theorem yDE {W W1:Wd}{p:Addr}{o:HO}(l:Le K W W1) (hm:p∉W1.m):Lf K W (yFb W1 p o) :=
 ⟨l.fs,l.pre,fun n ks xs e1=>⟨(l.fz n ks xs e1).1,fun a e2=>(ybV (fun (z:a=p)=>hm (z ▸ List.mem_of_getElem? (ynY l.pre e2)))).trans ((l.fz n ks xs e1).2 a e2)⟩⟩
theorem Good.mut {W0 W:Wd}{ρ:PSt}{σ:St}(g:Good K W0 W ρ σ) {i:Nat}{d d':Nd}{p:Addr}{o:HO}(e:ρ[i]?=some (.own d)) (hs:σ[i]?=some (some (.ref p))) (hm:p∉W.m) (h0:W0.H p=none) (hf:W.F p=none) (hd:d'≠.dead)
  (at_:NdAt K W.F (upd W.H p o) W.m d' p):Good K W0 (yFb W p o) (ρ.set i (.own d')) σ:=by
 have hl:i<ρ.length:=(List.getElem?_eq_some_iff.mp e).1
 refine ⟨yzz g.le hm hf h0,by rw [List.length_set];exact g.len,fun j y e'=>?_,fun j d1 e'=>?_,fun j1 j2 d1 d2 hj e1 e2=>?_⟩
 .by_cases hj:i=j
  .subst hj;rw [List.getElem?_set_self hl] at e';cases e'
  .rw [List.getElem?_set_ne hj] at e';exact g.val j y e'
 .by_cases hj:i=j
  .subst hj;rw [List.getElem?_set_self hl] at e';cases e';exact ⟨p,hs,hm,h0,hd,at_⟩
  .rw [List.getElem?_set_ne hj] at e'
   obtain ⟨q,a1,a2,a3,a4,a5⟩:=g.own j d1 e'
   have hq:q≠p:=fun z=>g.ne j i d1 d (fun z=>hj z.symm) e' e (by rw [a1,hs,z])
   exact ⟨q,a1,a2,a3,a4,a5.mono (Same.refl _) (List.prefix_refl _) (fun u e=>(ybV hq).trans e) id⟩
 .have f:∀ {j:Nat}{d1:Nd},(ρ.set i (.own d'))[j]?=some (.own d1)->∃ d2,ρ[j]?=some (.own d2):=fun {j d1} e'=>by
   by_cases hj:i=j
   .subst hj;exact ⟨d,e⟩
   .rw [List.getElem?_set_ne hj] at e';exact ⟨_,e'⟩
  obtain ⟨_,f1⟩:=f e1
  obtain ⟨_,f2⟩:=f e2
  exact g.ne j1 j2 _ _ hj f1 f2
theorem big {n:Nat}(h:n<100000):n<sizeLine:=Nat.lt_of_lt_of_le h (by decide)
theorem yHy {n:Nat}(h:n<=100000):n<=sizeLine:=Nat.le_trans h (by decide)
theorem yBY (i:Nat) (a:yfM K ta ea):yne K (yEk (tBM K.K "list" yvd (yGs i) (yEt ta yHa))) (ymy i ea):=by
 intro W0 W ρ σ D o h' g e q
 unfold ymy at e
 split at e
 .rename_i xs0 hx
  obtain ⟨x,h1,e1,f1⟩:=yq e
  split at f1
  .rename_i hlen
   cases f1
   obtain ⟨p,a1,a2,a3,a4,hf,vs,hp,r⟩:=g.own i _ hx
   refine ⟨.ref p,a1,.inl ⟨rfl,_,SqL.of hp⟩,?_⟩
   refine a W0 W ρ σ _ x _ g e1 fun v W1 w1 l1 r1=>⟨p,vs,v,rfl,rfl,l1.keep _ _ hp a2,by rw [r.len];exact big hlen,?_⟩
   have g1:=g.step l1
   obtain ⟨p',b1,b2,b3,b4,b5,vs',b6,b7⟩:=g1.own i _ hx
   rw [a1] at b1
   cases b1
   rw [l1.keep _ _ hp a2] at b6
   cases b6
   exact q (yFb W1 p (.lst (vs++[v]))) σ w1 (yDE l1 b2) (g1.mut hx a1 b2 b3 b5 (fun z=>by cases z) ⟨b5,_,ybX,b7.snoc r1⟩)
  .cases f1
 .cases e
structure yKp (K:Ck) (W:Wd) (J:It) (xs:List PV):Prop where
 go:∀ (i:Nat) (W':Wd),Lf K W W'->WOk K W'->i<xs.length->J.go i W'.H
 yld:∀ (i:Nat) (W':Wd) (v:V) (H2:Hp),Lf K W W'->WOk K W'->i<xs.length->J.yld i W'.H v H2->H2=W'.H/\∃ x,xs[i]?=some x/\ygI K W' x v
 stop:∀ (W':Wd),Lf K W W'->WOk K W'->J.stop xs.length W'.H
noncomputable def yDF (K:Ck) (wi:TI) (e:XA):Prop:=∀ (W0 W:Wd) (ρ:PSt) (σ:St) (R:It->Hp->Prop) (xs:List PV) (h':AH),Good K W0 W ρ σ->e ρ W.h=some (xs,h')->(∀ J W',W'.h=h'->Le K W W'->yKp K W' J xs->R J W'.H)->wi σ W.H R
noncomputable def xIL (e:XE):XA:=fun ρ h=>ob (e ρ h) fun x h1=>match x with|.lst xs=>some (xs,h1)|.scr ns=>some (ns.map .int,h1)|_=>none
def xIT (e:XE):XA:=fun ρ h=>ob (e ρ h) fun x h1=>match x with|.tup xs=>some (xs,h1)|_=>none
def sgn (c:Nat):PV:=.str ⟨#[c]⟩
noncomputable def xIS (e:XE):XA:=fun ρ h=>ob (e ρ h) fun x h1=>match x with|.str z=>if z.length<=100000 then some (z.cps.toList.map sgn,h1) else none|_=>none
def yzA (lo:Int) (n:Nat):List PV:=(List.range n).map fun (k:Nat)=>.int (lo+(k:Int))
noncomputable def yHz (a:XA):XA:=fun ρ h=>ob (a ρ h) fun xs h1=>match xs with|[.int j]=>if -1000000000<=j/\j<=1000000000 then some (yzA 0 j.toNat,h1) else none|_=>none
theorem yjw {W:Wd}(w:WOk K W) {a:Addr}{vs:List V}(h:SqL K.K W.F a vs):SqL K.K W.H a vs:=Same.seq w.le h
theorem yfr {W:Wd}(w:WOk K W) {a:Addr}{vs:List V}(h:TpAt K.K W.F a vs):SqT K.K W.H a vs:=h.elim (fun h=>SqT.of (w.le _ _ h)) .inr
theorem yzB (a:yfM K ta ea):yDF K (yEm K.K ta) (xIL ea):=by
 intro W0 W ρ σ R xs h' g e q
 obtain ⟨x,h1,e1,f1⟩:=yq e
 refine a W0 W ρ σ _ x h1 g e1 fun v W1 w1 l1 r1=>?_
 have key:∀ (a:Addr) (vs:List V),v=.ref a->SqL K.K W1.F a vs->RepL K W1.F W1.m xs vs->h1=h'->∃ a,v=.ref a/\(∃ xs,SqL K.K W1.H a xs)/\R (Itl K.K a) W1.H:=fun a vs ev hs rs eh=>by
  subst eh
  refine ⟨a,ev,⟨vs,yjw l1.ok hs⟩,q _ W1 w1 l1 ⟨fun i W' l w hi=>?_,fun i W' v' H2 l w hi hy=>?_,fun W' l w=>?_⟩⟩
  .obtain ⟨v',h1,_⟩:=rs.get (List.getElem?_eq_getElem hi)
   exact ⟨vs,v',yjw w (Same.seq l.fs hs),h1⟩
  .obtain ⟨h1,h2⟩:=hy
   have:=h2 vs (yjw w (Same.seq l.fs hs))
   obtain ⟨x,h3,h4⟩:=rs.get' this
   exact ⟨h1,x,h3,l.rep h4⟩
  .exact ⟨vs,yjw w (Same.seq l.fs hs),by rw [rs.len];exact Nat.le_refl _⟩
 split at f1
 .cases f1
  obtain ⟨a,vs,ev,hs,rs⟩:=r1
  exact key a vs ev (SqL.of hs) rs rfl
 .rename_i ns
  cases f1
  obtain ⟨a,ev,hs⟩:=r1
  exact key a _ ev hs (RepL.of_ints ns) rfl
 .cases f1
theorem yBZ (a:yfM K ta ea):yDF K (yMd K.K ta) (xIT ea):=by
 intro W0 W ρ σ R xs h' g e q
 obtain ⟨x,h1,e1,f1⟩:=yq e
 refine a W0 W ρ σ _ x h1 g e1 fun v W1 w1 l1 r1=>?_
 split at f1
 .cases f1
  obtain ⟨a,vs,ev,hs,rs⟩:=r1
  refine ⟨a,ev,⟨vs,yfr l1.ok hs⟩,q _ W1 w1 l1 ⟨fun i W' l w hi=>?_,fun i W' v' H2 l w hi hy=>?_,fun W' l w=>?_⟩⟩
  .obtain ⟨v',h1,_⟩:=rs.get (List.getElem?_eq_getElem hi)
   exact ⟨vs,v',yfr w (hs.mono l.fs),h1⟩
  .obtain ⟨h1,h2⟩:=hy
   have:=h2 vs (yfr w (hs.mono l.fs))
   obtain ⟨x,h3,h4⟩:=rs.get' this
   exact ⟨h1,x,h3,l.rep h4⟩
  .exact ⟨vs,yfr w (hs.mono l.fs),by rw [rs.len];exact Nat.le_refl _⟩
 .cases f1
theorem yCa (a:yfM K ta ea):yDF K (yMt ta) (xIS ea):=by
 intro W0 W ρ σ R xs h' g e q
 obtain ⟨x,h1,e1,f1⟩:=yq e
 refine a W0 W ρ σ _ x h1 g e1 fun v W1 w1 l1 r1=>?_
 split at f1
 .rename_i z
  split at f1
  .rename_i hz
   cases f1
   have hl:z.length=z.cps.toList.length:=by simp [Str.length]
   refine ⟨z,r1,yHy hz,q _ W1 w1 l1 ⟨fun i W' l w hi=>?_,fun i W' v' H2 l w hi hy=>?_,fun W' l w=>?_⟩⟩
   .show i<z.length
    rw [hl];simpa using hi
   .obtain ⟨h1,c,h2,h3⟩:=hy
    exact ⟨h1,sgn c,by rw [List.getElem?_map,h2];rfl,h3⟩
   .show _=z.length
    rw [hl];simp
  .cases f1
 .cases f1
theorem yHA (W:Wd) (lo:Int) (n:Nat):yKp K W (Itr lo n) (yzA lo n):=by
 refine ⟨fun i W' l w hi=>?_,fun i W' v' H2 l w hi hy=>?_,fun W' l w=>?_⟩
 .show i<n
  simpa [yzA] using hi
 .obtain ⟨h1,h2⟩:=hy
  have hi:i<n:=by simpa [yzA] using hi
  exact ⟨h1,.int (lo+(i:Int)),by simp [yzA,hi],h2⟩
 .show n<=_
  simp [yzA]
theorem yzC {t:TA}{e:XA}(a:ytF K t e):yDF K (yGW t) (yHz e):=by
 intro W0 W ρ σ R xs h' g e q
 obtain ⟨ys,h1,e1,f1⟩:=yq e
 split at f1
 .rename_i j
  split at f1
  .rename_i hj
   cases f1
   refine a W0 W ρ σ _ _ _ g e1 fun vs W1 w1 l1 r1=>?_
   obtain ⟨v,r,rfl,rv,rr⟩:=r1
   obtain rfl:r=[]:=rr
   exact ⟨j,by rw [show v=.int j from rv],by omega,by omega,q _ W1 w1 l1 (yHA W1 0 _)⟩
  .cases f1
 .cases f1
theorem yFd {wi:TI}{it:XA}{g:TG}{y:XG}(a:yDF K wi it) (b:yBj K g y) (c:yne K t s):yne K (yJE wi g t) (ytb it y s):=by
 intro W0 W ρ σ D o h' gd e q
 obtain ⟨xs,h1,e1,f1⟩:=yq e
 refine a W0 W ρ σ _ xs h1 gd e1 fun J W1 w1 l1 J1=>?_
 subst w1
 have q1:=q.from_ l1.lf
 refine ⟨fun i m σ H=>m=xs.length-i/\i<=xs.length/\∃ W' ρ',W'.H=H/\Lf K W1 W'/\Good K W0 W' ρ' σ/\yjZ y s (xs.drop i) ρ' W'.h=some (o,h'),⟨_,rfl,Nat.zero_le _,W1,ρ,rfl,.refl,gd.step l1,by simpa using f1⟩,?_⟩
 rintro i m σ _ ⟨rfl,hi,W',ρ',rfl,l,g',f⟩
 by_cases hlt:i<xs.length
 .rw [List.drop_eq_getElem_cons hlt] at f
  obtain ⟨ρ1,k1,f⟩:=Option.bind_eq_some_iff.mp f
  obtain ⟨o1,h2,k2,f3⟩:=yq f
  refine .inr ⟨J1.go i W' l g'.ok hlt,fun σ2 H2=>i+1<=xs.length/\∃ W2 ρ2,W2.H=H2/\Lf K W1 W2/\Good K W0 W2 ρ2 σ2/\yjZ y s (xs.drop (i+1)) ρ2 W2.h=some (o,h'),fun σ2 H2 ⟨n1,n2⟩=>⟨xs.length-(i+1),by omega,rfl,n1,n2⟩,fun v H2 hy=>?_⟩
  obtain ⟨rfl,x,hx,rx⟩:=J1.yld i W' v H2 l g'.ok hlt hy
  rw [List.getElem?_eq_getElem hlt] at hx
  cases hx
  refine b W0 W' ρ' ρ1 σ _ v _ g' rx k1 fun σ2 g2=>?_
  refine c W0 W' ρ1 σ2 _ o1 h2 g2 k2 ?_
  cases o1 with
  | nx ρ2=>exact fun W2 σ3 w2 l2 g3=>⟨hlt,W2,ρ2,rfl,l.trans l2,g3,by rw [w2];exact f3⟩
  | ct ρ2=>exact fun W2 σ3 w2 l2 g3=>⟨hlt,W2,ρ2,rfl,l.trans l2,g3,by rw [w2];exact f3⟩
  | bk ρ2=>cases f3;exact fun W2 σ3 w2 l2 g3=>q1 W2 σ3 w2 (l.trans l2) g3
  | rt x=>cases f3;exact q1
 .have ei:i=xs.length:=by omega
  subst ei
  refine .inl ⟨J1.stop W' l g'.ok,?_⟩
  rw [List.drop_length] at f
  cases f
  exact q1 W' σ rfl l g'
theorem yzD (n:Nat) (c:yuU K tA eA) (a:yne K t s):yne K (yDn tA t) (yoE n eA s):=by
 intro W0 W ρ σ D o h' gd e q
 refine ⟨fun m σ H=>∃ W' ρ',W'.H=H/\Lf K W W'/\Good K W0 W' ρ' σ/\whl eA s m ρ' W'.h=some (o,h'),⟨n,W,ρ,rfl,.refl,gd,e⟩,?_⟩
 rintro m σ _ ⟨W',ρ',rfl,l,g',f⟩
 cases m with
 | zero=>cases f
 | succ m =>
  obtain ⟨k,h1,e1,f1⟩:=yq f
  refine c W0 W' ρ' σ _ k h1 g' e1 fun W1 w1 l1=>?_
  subst w1
  cases k with
  | false =>
   rw [if_neg (by decide)] at f1 ⊢
   cases f1
   exact q W1 σ rfl (l.trans l1.lf) (g'.step l1)
  | true =>
   rw [if_pos rfl] at f1 ⊢
   obtain ⟨o1,h2,k2,f3⟩:=yq f1
   refine ⟨fun σ2 H2=>∃ W2 ρ2,W2.H=H2/\Lf K W W2/\Good K W0 W2 ρ2 σ2/\whl eA s m ρ2 W2.h=some (o,h'),fun σ2 H2 z=>⟨m,Nat.lt_succ_self _,z⟩,?_⟩
   refine a W0 W1 ρ' σ _ o1 h2 (g'.step l1) k2 ?_
   have l':=l.trans l1.lf
   cases o1 with
   | nx ρ2=>exact fun W2 σ3 w2 l2 g3=>⟨W2,ρ2,rfl,l'.trans l2,g3,by rw [w2];exact f3⟩
   | ct ρ2=>exact fun W2 σ3 w2 l2 g3=>⟨W2,ρ2,rfl,l'.trans l2,g3,by rw [w2];exact f3⟩
   | bk ρ2=>cases f3;exact fun W2 σ3 w2 l2 g3=>q W2 σ3 w2 (l'.trans l2) g3
   | rt x=>cases f3;exact q
theorem yzE {e:XE}{inn:PV->PSt}:∀ {xs:List PV}{h:AH}{ys:List PV}{h':AH},yuW e inn xs h=some (ys,h')->ys.length=xs.length
 | [],_,_,_,e=>by cases e;rfl
 | x::xs,_,_,_,e=>by
  obtain ⟨y,h1,e1,f1⟩:=yq e
  obtain ⟨ys,h2,e2,f2⟩:=yq f1
  cases f2
  rw [List.length_cons,List.length_cons,yzE e2]
theorem yCb {W0 W W':Wd}{ρ:PSt}{σ:St}(g:Good K W0 W ρ σ) (l:Le K W W') (ix:List Nat) {x:PV}{v:V}(r:ygI K W' x v):Good K W' W' (ysf ix ρ x) (inner ix σ v) where
 le:=.refl l.ok
 len:=by simp [ysf,inner]
 val:=fun j y e=>by
  cases j with
  | zero=>simp [ysf] at e;subst e;exact ⟨v,rfl,r⟩
  | succ j =>
   have e:(ix.map (yBi ρ))[j]?=some (.val y):=e
   rw [List.getElem?_map] at e
   cases ei:ix[j]? with
   | none=>rw [ei] at e;cases e
   | some i =>
    rw [ei] at e
    have e:yBi ρ i=.val y:=Option.some.inj e
    unfold yBi at e
    split at e
    .rename_i z hz
     cases e
     obtain ⟨w,h1,h2⟩:=g.val i _ hz
     exact ⟨w,by show (ix.map fun i=>(σ[i]?).getD none)[j]?=_;rw [List.getElem?_map,ei];simp [h1],l.rep h2⟩
    .cases e
 own:=fun j d e=>by
  cases j with
  | zero=>simp [ysf] at e
  | succ j =>
   have e:(ix.map (yBi ρ))[j]?=some (.own d):=e
   rw [List.getElem?_map] at e
   cases ei:ix[j]? with
   | none=>rw [ei] at e;cases e
   | some i =>
    rw [ei] at e
    have e:yBi ρ i=.own d:=Option.some.inj e
    unfold yBi at e
    split at e<;>cases e
 ne:=fun j k d d' _ e _=>by
  cases j with
  | zero=>simp [ysf] at e
  | succ j =>
   have e:(ix.map (yBi ρ))[j]?=some (.own d):=e
   rw [List.getElem?_map] at e
   cases ei:ix[j]? with
   | none=>rw [ei] at e;cases e
   | some i =>
    rw [ei] at e
    have e:yBi ρ i=.own d:=Option.some.inj e
    unfold yBi at e
    split at e<;>cases e
theorem yCc {wi:TI}{it:XA}(ix:List Nat) (a:yDF K wi it) (b:yfM K ta ea):yyD K (yHj wi ix ta) (ysg it ix ea):=by
 intro W0 W ρ σ Q d h' gd e q
 obtain ⟨xs,h1,e1,f1⟩:=yq e
 split at f1
 .rename_i hlen
  obtain ⟨zs,h2,e2,f2⟩:=yq f1
  cases f2
  have hz:=yzE e2
  refine a W0 W ρ σ _ xs h1 gd e1 fun J W1 w1 l1 J1=>?_
  subst w1
  intro D hD
  have nm:=l1.ok.out hD
  have nf:=l1.ok.ff hD
  refine ⟨fun i m H=>m=xs.length-i/\i<=xs.length/\∃ W' acc done rest,W'.H=H/\Le K W1 W'/\D∉W'.m/\W'.F D=none/\H D=some (.lst acc)/\yhm K W' done acc/\done.length=i/\zs=done++rest/\yuW ea (ysf ix ρ) (xs.drop i) W'.h=some (rest,h'),⟨_,rfl,Nat.zero_le _,yta W1 D (.lst []),[],[],zs,rfl,ymx l1.ok hD,nm,nf,ybX,rfl,rfl,rfl,by rw [List.drop_zero];exact e2⟩,?_⟩
  rintro i m _ ⟨rfl,hi,W',acc,done,rest,rfl,l,n1,n2,hd,rd,ld,ez,f⟩
  by_cases hlt:i<xs.length
  .rw [List.drop_eq_getElem_cons hlt] at f
   obtain ⟨y,h3,k1,f3⟩:=yq f
   obtain ⟨ys,h4,k2,f4⟩:=yq f3
   cases f4
   refine .inr ⟨J1.go i W' l.lf l.ok hlt,fun v H2 hy=>?_⟩
   obtain ⟨rfl,x,hx,rx⟩:=J1.yld i W' v H2 l.lf l.ok hlt hy
   rw [List.getElem?_eq_getElem hlt] at hx
   cases hx
   refine b W' W' _ _ _ y h3 (yCb gd (l1.trans l) ix rx) k1 fun w W2 w2 l2 r2=>?_
   obtain ⟨o2,n2'⟩:∃ o,W'.H D=some o:=⟨_,hd⟩
   have nm2:D∉W2.m:=fun z=>by rw [l2.mn D z n1] at hd;cases hd
   have nf2:W2.F D=none:=l2.new D _ hd n1 n2
   refine ⟨acc,l2.keep _ _ hd n1,?_,xs.length-(i+1),by omega,rfl,hlt,yFb W2 D (.lst (acc++[w])),acc++[w],done++[y],ys,rfl,yzz (l.trans l2) nm2 nf2 hD,nm2,nf2,ybX,(l2.repL rd).snoc r2,by simp [ld],by simp [ez],?_⟩
   .rw [rd.len,ld];exact big (by omega)
   .show yuW ea (ysf ix ρ) (xs.drop (i+1)) W2.h=some (ys,h')
    rw [w2];exact k2
  .have ei:i=xs.length:=by omega
   subst ei
   rw [List.drop_length] at f
   cases f
   refine .inl ⟨J1.stop W' l.lf l.ok,?_⟩
   rw [List.append_nil] at ez
   subst ez
   exact q D W' rfl (l1.trans l) n1 (l1.fresh hD) (fun z=>by cases z) ⟨n2,acc,hd,rd⟩
 .cases f1
theorem yru {W:Wd}(w:WOk K W) {N:List Str}{xs:List PV}{vs:List V}(r:yhm K W xs vs):Good K W W (xs.map .val++List.replicate (N.length-xs.length) .no) (L2.start N vs) where
 le:=.refl w
 len:=by simp [L2.start,r.len]
 val:=fun j y e=>by
  by_cases hj:j<xs.length
  .rw [List.getElem?_append_left (by simpa using hj),List.getElem?_map,List.getElem?_eq_getElem hj] at e
   cases e
   obtain ⟨v,h1,h2⟩:=r.get (List.getElem?_eq_getElem hj)
   refine ⟨v,?_,h2⟩
   unfold L2.start
   rw [List.getElem?_append_left (by simp [r.len,hj]),List.getElem?_map,h1];rfl
  .rw [List.getElem?_append_right (by simp;omega),List.getElem?_replicate] at e
   split at e<;>cases e
 own:=fun j d e=>by
  by_cases hj:j<xs.length
  .rw [List.getElem?_append_left (by simpa using hj),List.getElem?_map,List.getElem?_eq_getElem hj] at e
   cases e
  .rw [List.getElem?_append_right (by simp;omega),List.getElem?_replicate] at e
   split at e<;>cases e
 ne:=fun j k d d' _ e _=>by
  by_cases hj:j<xs.length
  .rw [List.getElem?_append_left (by simpa using hj),List.getElem?_map,List.getElem?_eq_getElem hj] at e
   cases e
  .rw [List.getElem?_append_right (by simp;omega),List.getElem?_replicate] at e
   split at e<;>cases e
theorem yCd {N:List Str}{n:Nat}{vs:List V}{H:Hp}{Q:VK}{E:XK}{bk ct:St->Hp->Prop}(a:yne K t s) (h:spE K n (ygJ N.length s) vs H Q E):t ⟨fun _ H'=>Q .non H',Q,bk,ct⟩ (L2.start N vs) H:=by
 obtain ⟨W,xs,x,h',rfl,w,r,_,e,q⟩:=h
 obtain ⟨o,h1,e1,f1⟩:=yq e
 refine a W W _ _ _ o h1 (yru w r) e1 ?_
 cases o with
 | rt y=>cases f1;exact fun W' v ew l rv=>q v W' ew l rv
 | nx ρ=>cases f1;exact fun W' σ' ew _ g=>q .non W' ew g.le rfl
 | bk ρ=>cases f1
 | ct ρ=>cases f1
theorem yFe {n:Nat}{f:Fn}{vs:List V}{H:Hp}{Q:VK}{E:XK}(h:spE K n f vs H Q E):vs.length=n:=by
 obtain ⟨W,xs,x,h',rfl,w,r,hn,_⟩:=h
 rw [r.len,hn]
end
end PX
namespace PX
open PySem L2
variable {K:Ck}
def oI (g:Int->Int->PV):P2:=fun x y h=>match x,y with|.int i,.int j=>some (g i j,h)|_,_=>none
noncomputable def oIc (C:Int->Int->Prop) [∀ i j,Decidable (C i j)] (g:Int->Int->PV):P2:=fun x y h=>match x,y with|.int i,.int j=>if C i j then some (g i j,h) else none|_,_=>none
abbrev ynj:P2:=oI fun i j=>.int (i+j)
abbrev yHB:P2:=oI fun i j=>.int (i-j)
noncomputable def MulOk (i j:Int):Prop:=(-18446744073709551616<i/\i<18446744073709551616)\/(-18446744073709551616<j/\j<18446744073709551616)
instance (i j:Int):Decidable (MulOk i j):=by unfold MulOk;infer_instance
def yzF (i j:Int):Prop:=(0<=i/\i<18446744073709551616)/\0<=j/\j<=1000000
instance (i j:Int):Decidable (yzF i j):=by unfold yzF;infer_instance
abbrev yJF:P2:=oIc MulOk fun i j=>.int (i*j)
abbrev oDiv:P2:=oIc (fun _ j=>0<j/\j<1073741824) fun i j=>.int (i/j)
abbrev oMod:P2:=oIc (fun _ j=>0<j) fun i j=>.int (i%j)
abbrev yJG:P2:=oIc yzF fun i j=>.int (i ^ j.toNat)
abbrev oLt:P2:=oI fun i j=>.bl (decide (i<j))
abbrev oLe:P2:=oI fun i j=>.bl (decide (i<=j))
abbrev oGt:P2:=oI fun i j=>.bl (decide (j<i))
abbrev yKq:PV->AH->Option (PV×AH):=fun x h=>match x with|.int i=>some (.int (-i),h)|_=>none
theorem yHC {g:Int->Int->PV}{gV:Int->Int->V}(h:∀ (W:Wd) i j,ygI K W (g i j) (gV i j)):yfq K (rI0 gV) (oI g):=by
 intro W x y v u Q z h' w rx ry e q
 unfold oI at e
 split at e
 .rename_i i j
  cases e
  exact ⟨i,j,rx,ry,q _ W rfl (.refl w) (h W i j)⟩
 .cases e
theorem yCe {C:Int->Int->Prop} [∀ i j,Decidable (C i j)] {C':Int->Int->Prop}{g:Int->Int->PV}{gV:Int->Int->V}(hc:∀ i j,C i j->C' i j) (h:∀ (W:Wd) i j,ygI K W (g i j) (gV i j)):yfq K (rI C' gV) (oIc C g):=by
 intro W x y v u Q z h' w rx ry e q
 unfold oIc at e
 split at e
 .rename_i i j
  split at e
  .rename_i c
   cases e
   exact ⟨i,j,rx,ry,hc i j c,q _ W rfl (.refl w) (h W i j)⟩
  .cases e
 .cases e
theorem yir:yfq K yKa ynj:=yHC fun _ _ _=>rfl
theorem yCf:yfq K yKb yHB:=yHC fun _ _ _=>rfl
theorem yFf:yfq K yKc yJF:=yCe (fun i j h=>by unfold CMul;rw [show (2:Int) ^ 64=18446744073709551616 by decide];exact h) fun _ _ _=>rfl
theorem yjx:yfq K yKd oDiv:=yCe (fun i j h=>h) fun _ _ _=>rfl
theorem yjy:yfq K yKe oMod:=yCe (fun i j h=>h) fun _ _ _=>rfl
theorem yFg:yfq K yKf yJG:=yCe (fun i j h=>by unfold yJV;rw [show 2 ^ 64=18446744073709551616 by decide];unfold yzF at h;omega) fun _ _ _=>rfl
theorem yGu:yfq K yME oLt:=yHC fun _ _ _=>rfl
theorem yJH:yfq K yMF oLe:=yHC fun _ _ _=>rfl
theorem yFh:yfq K yMG oGt:=yHC fun _ _ _=>rfl
theorem yKr:yEJ K yKg yKq:=by
 intro W x v Q z h' w rx e q
 unfold yKq at e
 split at e
 .rename_i i
  cases e
  exact ⟨i,rx,q _ W rfl (.refl w) rfl⟩
 .cases e
def sv:PV->Option V
 | .non=>some .non
 | .bl b=>some (.bl b)
 | .int i=>some (.int i)
 | .str s=>some (.str s)
 | _=>none
theorem ymq {W:Wd}{x:PV}{v u:V}(e:sv x=some u) (r:ygI K W x v):v=u:=by
 cases x<;>cases e<;>exact r
noncomputable def oEq:P2:=fun x y h=>match sv x,sv y with|some v,some u=>if yDo v u=true then some (.bl (decide (v=u)),h) else none|_,_=>none
noncomputable def oNe:P2:=fun x y h=>match sv x,sv y with|some v,some u=>if yDo v u=true then some (.bl (!decide (v=u)),h) else none|_,_=>none
theorem yjG:yfq K rEq oEq:=by
 intro W x y v u Q z h' w rx ry e q
 unfold oEq at e
 split at e
 .rename_i v' u' e1 e2
  obtain rfl:=ymq e1 rx
  obtain rfl:=ymq e2 ry
  split at e
  .rename_i c
   cases e
   exact ⟨c,q _ W rfl (.refl w) rfl⟩
  .cases e
 .cases e
theorem yGv:yfq K rNe oNe:=by
 intro W x y v u Q z h' w rx ry e q
 unfold oNe at e
 split at e
 .rename_i v' u' e1 e2
  obtain rfl:=ymq e1 rx
  obtain rfl:=ymq e2 ry
  split at e
  .rename_i c
   cases e
   exact ⟨c,q _ W rfl (.refl w) rfl⟩
  .cases e
 .cases e
def isN:PV->Bool
 | .non=>true
 | _=>false
def yFi:P2:=fun x y h=>match y with|.non=>some (.bl (isN x),h)|_=>none
def yzG:P2:=fun x y h=>match y with|.non=>some (.bl (!isN x),h)|_=>none
theorem yzH {W:Wd}{x:PV}{v:V}(r:ygI K W x v):decide (v=.non)=isN x:=by
 cases x with
 | non=>rw [show v=.non from r];rfl
 | bl b=>rw [show v=.bl b from r];rfl
 | int b=>rw [show v=.int b from r];rfl
 | str b=>rw [show v=.str b from r];rfl
 | ty b=>rw [show v=.ty b from r];rfl
 | cls b=>rw [show v=.ref _ from r];rfl
 | scr b=>obtain ⟨a,e,_⟩:=r;rw [e];rfl
 | lst b=>obtain ⟨a,_,e,_⟩:=r;rw [e];rfl
 | tup b=>obtain ⟨a,_,e,_⟩:=r;rw [e];rfl
 | ins k n b=>obtain ⟨a,_,_,e,_⟩:=r;rw [e];rfl
 | loc n=>obtain ⟨a,e,_⟩:=r;rw [e];rfl
theorem yCg:yfq K yMH yFi:=by
 intro W x y v u Q z h' w rx ry e q
 unfold yFi at e
 split at e
 .cases e
  exact ⟨ry,by rw [yzH rx];exact q _ W rfl (.refl w) rfl⟩
 .cases e
theorem yDG:yfq K yKi yzG:=by
 intro W x y v u Q z h' w rx ry e q
 unfold yzG at e
 split at e
 .cases e
  exact ⟨ry,by rw [yzH rx];exact q _ W rfl (.refl w) rfl⟩
 .cases e
noncomputable def yis:P2:=fun x y h=>match x,y with|.str i,.str j=>if i.length+j.length<=100000 then some (.str (i++j),h) else none|_,_=>none
theorem ykZ:yfq K yKh yis:=by
 intro W x y v u Q z h' w rx ry e q
 unfold yis at e
 split at e
 .rename_i i j
  split at e
  .rename_i c
   cases e
   exact ⟨i,j,rx,ry,yHy c,q _ W rfl (.refl w) rfl⟩
  .cases e
 .cases e
noncomputable def yHD:P2:=fun x y h=>match x,y with|.str s,.str j=>(match s.cps.toList with|[c]=>some (.bl (decide (c∈j.cps.toList)),h)|_=>none)|_,_=>none
theorem one_sign {s:Str}{c:Nat}(h:s.cps.toList=[c]):s=⟨#[c]⟩:=by
 obtain ⟨⟨l⟩⟩:=s
 have:l=[c]:=h
 rw [this]
theorem yHE:yfq K yMq yHD:=by
 intro W x y v u Q z h' w rx ry e q
 unfold yHD at e
 split at e
 .rename_i s j
  split at e
  .rename_i c hc
   cases e
   exact ⟨c,j,by rw [<- one_sign hc];exact rx,ry,q _ W rfl (.refl w) rfl⟩
  .cases e
 .cases e
noncomputable def yzI:P2:=fun x y h=>match y with
 | .int i=>(match x with
  | .lst xs=>(match atI xs i with|some v=>some (v,h)|none=>none)
  | .scr ns=>(match atI ns i with|some v=>some (.int v,h)|none=>none)
  | .loc n=>(match h[n]? with|some (.lst xs)=>(match atI xs i with|some v=>some (v,h)|none=>none)|_=>none)
  | _=>none)
 | _=>none
def yfp:P2:=fun x y h=>match x,y with|.tup xs,.int i=>(match atI xs i with|some v=>some (v,h)|none=>none)|_,_=>none
noncomputable def yFj:P2:=fun x y h=>match x,y with|.str s,.int i=>(match atI s.cps.toList i with|some c=>if s.length<=100000 then some (sgn c,h) else none|none=>none)|_,_=>none
theorem RepL.at {F:Hp}{m:List Addr}{xs:List PV}{vs:List V}(r:RepL K F m xs vs) {i:Int}{x:PV}(e:atI xs i=some x):∃ v,atI vs i=some v/\Rep K F m x v:=by
 unfold atI at e ⊢
 rw [r.len]
 obtain ⟨j,e1,e2⟩:=Option.bind_eq_some_iff.mp e
 rw [e1]
 exact r.get e2
theorem WOk.loc {W:Wd}(w:WOk K W) {n:Nat}{d:Nd}{v:V}(e:W.h[n]?=Option.some d) (r:ygI K W (.loc n) v):∃ a,v=.ref a/\W.m[n]?=Option.some a/\NdAt K W.F W.H W.m d a:=by
 obtain ⟨a,ea,h⟩:=r
 exact ⟨a,ea,h,w.at_ n d a e h⟩
theorem yzJ:yfq K (yMj K.K) yzI:=by
 intro W x y v u Q z h' w rx ry e q
 unfold yzI at e
 split at e
 .rename_i i
  split at e
  .rename_i xs
   split at e
   .rename_i y hy
    cases e
    obtain ⟨a,vs,ev,hs,rs⟩:=rx
    obtain ⟨v',h1,h2⟩:=rs.at hy
    exact ⟨a,vs,i,v',ev,ry,SqL.of (w.le _ _ hs),h1,q _ W rfl (.refl w) h2⟩
   .cases e
  .rename_i ns
   split at e
   .rename_i y hy
    cases e
    obtain ⟨a,ev,hs⟩:=rx
    refine ⟨a,_,i,.int y,ev,ry,yjw w hs,?_,q _ W rfl (.refl w) rfl⟩
    unfold atI at hy ⊢
    rw [List.length_map]
    obtain ⟨j,e1,e2⟩:=Option.bind_eq_some_iff.mp hy
    rw [e1]
    show (ns.map V.int)[j]?=_
    rw [List.getElem?_map,e2];rfl
   .cases e
  .rename_i n
   split at e
   .rename_i xs hn
    split at e
    .rename_i y hy
     cases e
     obtain ⟨a,ev,hm,hf,vs,hp,rs⟩:=w.loc hn rx
     obtain ⟨v',h1,h2⟩:=rs.at hy
     exact ⟨a,vs,i,v',ev,ry,SqL.of hp,h1,q _ W rfl (.refl w) h2⟩
    .cases e
   .cases e
  .cases e
 .cases e
theorem ydD:yfq K (yMk K.K) yfp:=by
 intro W x y v u Q z h' w rx ry e q
 unfold yfp at e
 split at e
 .rename_i xs i
  split at e
  .rename_i y hy
   cases e
   obtain ⟨a,vs,ev,hs,rs⟩:=rx
   obtain ⟨v',h1,h2⟩:=rs.at hy
   exact ⟨a,vs,i,v',ev,ry,yfr w hs,h1,q _ W rfl (.refl w) h2⟩
  .cases e
 .cases e
theorem yFk:yfq K yMl yFj:=by
 intro W x y v u Q z h' w rx ry e q
 unfold yFj at e
 split at e
 .rename_i s i
  split at e
  .rename_i c hc
   split at e
   .rename_i hl
    cases e
    exact ⟨s,i,c,rx,ry,yHy hl,hc,q _ W rfl (.refl w) rfl⟩
   .cases e
  .cases e
 .cases e
noncomputable def yBk {α:Type}(xs:List α) (lo hi:Option Int):List α:=(xs.drop (HT.sIx xs.length 0 lo)).take (HT.sIx xs.length xs.length hi-HT.sIx xs.length 0 lo)
noncomputable def listOf (x:PV) (h:AH):Option (List PV):=match x with|.lst xs=>some xs|.scr ns=>some (ns.map .int)|.loc n=>(match h[n]? with|some (.lst xs)=>some xs|_=>none)|_=>none
theorem yob {W:Wd}(w:WOk K W) {x:PV}{v:V}{xs:List PV}(e:listOf x W.h=some xs) (r:ygI K W x v):∃ a vs,v=.ref a/\SqL K.K W.H a vs/\yhm K W xs vs:=by
 unfold listOf at e
 split at e
 .cases e
  obtain ⟨a,vs,ev,hs,rs⟩:=r
  exact ⟨a,vs,ev,SqL.of (w.le _ _ hs),rs⟩
 .rename_i ns
  cases e
  obtain ⟨a,ev,hs⟩:=r
  exact ⟨a,_,ev,yjw w hs,RepL.of_ints ns⟩
 .rename_i n
  split at e
  .rename_i ys hn
   cases e
   obtain ⟨a,ev,hm,hf,vs,hp,rs⟩:=w.loc hn r
   exact ⟨a,vs,ev,SqL.of hp,rs⟩
  .cases e
 .cases e
noncomputable def yeM (x:PV) (h:AH):Option (List PV):=match x with|.lst xs=>some xs|.loc n=>(match h[n]? with|some (.lst xs)=>some xs|_=>none)|_=>none
theorem ycg {W:Wd}(w:WOk K W) {x:PV}{v:V}{xs:List PV}(e:yeM x W.h=some xs) (r:ygI K W x v):∃ a vs,v=.ref a/\W.H a=some (.lst vs)/\yhm K W xs vs:=by
 unfold yeM at e
 split at e
 .cases e
  obtain ⟨a,vs,ev,hs,rs⟩:=r
  exact ⟨a,vs,ev,w.le _ _ hs,rs⟩
 .rename_i n
  split at e
  .rename_i ys hn
   cases e
   obtain ⟨a,ev,hm,hf,vs,hp,rs⟩:=w.loc hn r
   exact ⟨a,vs,ev,hp,rs⟩
  .cases e
 .cases e
theorem yJI {W:Wd}(w:WOk K W) {p:Addr}(hp:W.H p=none) {xs:List PV}{vs:List V}(r:yhm K W xs vs) {Q:VK}(q:yxE K W (.lst xs) W.h Q):Q (.ref p) (upd W.H p (.lst vs)) :=
 q p (yta W p (.lst vs)) rfl (ymx w hp) (w.out hp) hp (fun z=>by cases z) ⟨w.ff hp,vs,ybX,r⟩
noncomputable def yDH:PV->Option Int->Option Int->AH->Option (Nd×AH):=fun x lo hi h=>match listOf x h with|some xs=>some (.lst (yBk xs lo hi),h)|none=>none
theorem yCh:yzw K (yMm K.K) yDH:=by
 intro W x v lo hi Q d h' w rx e q
 unfold yDH at e
 split at e
 .rename_i xs hx
  cases e
  obtain ⟨a,vs,ev,hs,rs⟩:=yob w hx rx
  refine ⟨a,vs,ev,hs,fun p hp=>yJI w hp ?_ q⟩
  have:=(rs.drop (HT.sIx xs.length 0 lo)).take (HT.sIx xs.length xs.length hi-HT.sIx xs.length 0 lo)
  unfold yBk yHf
  rw [rs.len]
  exact this
 .cases e
noncomputable def yHF:P2O:=fun x y h=>match yeM x h,yeM y h with|some xs,some ys=>if xs.length+ys.length<=100000 then some (.lst (xs++ys),h) else none|_,_=>none
theorem yHG:yzq K yMo yHF:=by
 intro W x y v u Q d h' w rx ry e q
 unfold yHF at e
 split at e
 .rename_i xs ys hx hy
  split at e
  .rename_i hl
   cases e
   obtain ⟨a,vs,ev,hs,rs⟩:=ycg w hx rx
   obtain ⟨b,us,eu,ht,ru⟩:=ycg w hy ry
   refine ⟨a,b,vs,us,ev,eu,hs,ht,by rw [rs.len,ru.len];exact yHy hl,fun p hp=>yJI w hp (rs.app ru) q⟩
  .cases e
 .cases e
noncomputable def yDI (x:PV) (h:AH):Option Nat:=match x with|.tup xs=>some xs.length|.lst xs=>some xs.length|.scr ns=>some ns.length|.loc n=>(match h[n]? with|some (.lst xs)=>some xs.length|_=>none)|_=>none
noncomputable def yvx:List PV->AH->Option (PV×AH):=fun xs h=>match xs with|[x]=>(match yDI x h with|some n=>some (.int n,h)|none=>none)|_=>none
noncomputable def yxI:List PV->AH->Option (PV×AH):=fun xs h=>match xs with|[.str z]=>if z.length<=100000 then some (.int z.length,h) else none|_=>none
theorem yvy {W:Wd}{x:PV}{vs:List V}(r:yhm K W [x] vs):∃ v,vs=[v]/\ygI K W x v:=by
 obtain ⟨v,r',e,h,l⟩:=r
 exact ⟨v,by rw [e,show r'=[] from l],h⟩
theorem yMu {W:Wd}{x y:PV}{vs:List V}(r:yhm K W [x,y] vs):∃ v u,vs=[v,u]/\ygI K W x v/\ygI K W y u:=by
 obtain ⟨v,r',e,h,l⟩:=r
 obtain ⟨u,e2,h2⟩:=yvy l
 exact ⟨v,u,by rw [e,e2],h,h2⟩
theorem ywH:ypa K (yKl K.K) yvx:=by
 intro W xs vs Q z h' w r e q
 unfold yvx at e
 split at e
 .rename_i x
  split at e
  .rename_i n hn
   cases e
   obtain ⟨v,rfl,rx⟩:=yvy r
   have fin:∀ (ys:List V),ys.length=n->Q (.int ys.length) W.H:=fun ys hl=>by rw [hl];exact q _ W rfl (.refl w) rfl
   unfold yDI at hn
   split at hn
   .cases hn
    obtain ⟨a,us,rfl,hs,rs⟩:=rx
    exact ⟨a,us,rfl,.inr (yfr w hs),fin _ rs.len⟩
   .rename_i ys
    cases hn
    obtain ⟨a,us,rfl,hs,rs⟩:=rx
    exact ⟨a,us,rfl,.inl (SqL.of (w.le _ _ hs)),fin _ rs.len⟩
   .rename_i ns
    cases hn
    obtain ⟨a,rfl,hs⟩:=rx
    exact ⟨a,_,rfl,.inl (yjw w hs),fin _ (by simp)⟩
   .split at hn
    .rename_i ys hy
     cases hn
     obtain ⟨a,rfl,hm,hf,us,hp,rs⟩:=w.loc hy rx
     exact ⟨a,us,rfl,.inl (SqL.of hp),fin _ rs.len⟩
    .cases hn
   .cases hn
  .cases e
 .cases e
theorem yzK:ypa K yKk yxI:=by
 intro W xs vs Q z h' w r e q
 unfold yxI at e
 split at e
 .rename_i s
  split at e
  .rename_i hl
   cases e
   obtain ⟨v,rfl,rx⟩:=yvy r
   exact ⟨s,by rw [show v=_ from rx],yHy hl,q _ W rfl (.refl w) rfl⟩
  .cases e
 .cases e
noncomputable def yvz:List PV->AH->Option (PV×AH):=fun xs h=>match xs with|[.int i]=>some (.int i,h)|[.bl k]=>some (.int (if k then 1 else 0),h)|_=>none
theorem yDJ:ypa K yKj yvz:=by
 intro W xs vs Q z h' w r e q
 unfold yvz at e
 split at e
 .rename_i i
  cases e
  obtain ⟨v,rfl,rx⟩:=yvy r
  exact .inl ⟨i,by rw [show v=_ from rx],q _ W rfl (.refl w) rfl⟩
 .rename_i k
  cases e
  obtain ⟨v,rfl,rx⟩:=yvy r
  exact .inr ⟨k,by rw [show v=_ from rx],q _ W rfl (.refl w) rfl⟩
 .cases e
noncomputable def yzL:List PV->AH->Option (PV×AH):=fun xs h=>match xs with|[.str z]=>if z.cps.toList≠[]/\(∀ c∈z.cps.toList,48<=c/\c<=57)/\z.length<=640 then some (.int (yEB z.cps.toList),h) else none|_=>none
theorem yHH:ypa K yHi yzL:=by
 intro W xs vs Q z h' w r e q
 unfold yzL at e
 split at e
 .rename_i i
  split at e
  .rename_i hl
   cases e
   obtain ⟨v,rfl,rx⟩:=yvy r
   exact ⟨i,by rw [show v=_ from rx],hl.1,hl.2.1,hl.2.2,q _ W rfl (.refl w) rfl⟩
  .cases e
 .cases e
noncomputable def yez:List PV->AH->Option (Nd×AH):=fun xs h=>match xs with|[.tup ys]=>some (.lst ys,h)|[x]=>(match listOf x h with|some ys=>some (.lst ys,h)|none=>none)|_=>none
theorem yeH:yzr K (yEC K.K) yez:=by
 intro W xs vs Q d h' w r e q
 unfold yez at e
 split at e
 .rename_i ys
  cases e
  obtain ⟨v,rfl,a,us,rfl,hs,rs⟩:=yvy r
  exact ⟨a,us,rfl,.inr (yfr w hs),fun p hp=>yJI w hp rs q⟩
 .rename_i x _
  split at e
  .rename_i ys hy
   cases e
   obtain ⟨v,rfl,rx⟩:=yvy r
   obtain ⟨a,us,rfl,hs,rs⟩:=yob w hy rx
   exact ⟨a,us,rfl,.inl hs,fun p hp=>yJI w hp rs q⟩
  .cases e
 .cases e
def strsOf:List PV->Option (List Str)
 | []=>some []
 | .str s::r=>(strsOf r).map (s::·)
 | _=>none
def intsOf:List PV->Option (List Int)
 | []=>some []
 | .int s::r=>(intsOf r).map (s::·)
 | _=>none
def yzM:List PV->Option (List Bool)
 | []=>some []
 | .bl s::r=>(yzM r).map (s::·)
 | _=>none
theorem yrv:∀ ss:List Str,strsOf (ss.map .str)=some ss
 | []=>rfl
 | s::ss=>by show (strsOf (ss.map .str)).map _=_;rw [yrv ss];rfl
theorem yoc:∀ ss:List Int,intsOf (ss.map .int)=some ss
 | []=>rfl
 | s::ss=>by show (intsOf (ss.map .int)).map _=_;rw [yoc ss];rfl
theorem ytL:∀ ss:List Bool,yzM (ss.map .bl)=some ss
 | []=>rfl
 | s::ss=>by show (yzM (ss.map .bl)).map _=_;rw [ytL ss];rfl
theorem yrw {F:Hp}{m:List Addr}:∀ {xs:List PV}{ss:List Str}{vs:List V},strsOf xs=some ss->RepL K F m xs vs->vs=ss.map V.str
 | [],_,_,e,r=>by cases e;exact r
 | x::xs,ss,_,e,⟨v,r',ev,h,l⟩=>by
  cases x<;>try cases e
  rename_i s
  obtain ⟨ts,e1,e2⟩:=Option.map_eq_some_iff.mp e
  subst e2
  rw [ev,show v=_ from h,yrw e1 l];rfl
theorem yrx {F:Hp}{m:List Addr}:∀ {xs:List PV}{ss:List Int}{vs:List V},intsOf xs=some ss->RepL K F m xs vs->vs=ss.map V.int
 | [],_,_,e,r=>by cases e;exact r
 | x::xs,ss,_,e,⟨v,r',ev,h,l⟩=>by
  cases x<;>try cases e
  rename_i s
  obtain ⟨ts,e1,e2⟩:=Option.map_eq_some_iff.mp e
  subst e2
  rw [ev,show v=_ from h,yrx e1 l];rfl
theorem ytM {F:Hp}{m:List Addr}:∀ {xs:List PV}{ss:List Bool}{vs:List V},yzM xs=some ss->RepL K F m xs vs->vs=ss.map V.bl
 | [],_,_,e,r=>by cases e;exact r
 | x::xs,ss,_,e,⟨v,r',ev,h,l⟩=>by
  cases x<;>try cases e
  rename_i s
  obtain ⟨ts,e1,e2⟩:=Option.map_eq_some_iff.mp e
  subst e2
  rw [ev,show v=_ from h,ytM e1 l];rfl
noncomputable def yCi:List PV->AH->Option (PV×AH):=fun xs h=>match xs with|[x]=>(match yeM x h with|some ys=>(match intsOf ys with|some ns=>some (.int ns.sum,h)|none=>none)|none=>none)|_=>none
theorem yHI:ypa K yMs yCi:=by
 intro W xs vs Q z h' w r e q
 unfold yCi at e
 split at e
 .split at e
  .rename_i ys hy
   split at e
   .rename_i ns hn
    cases e
    obtain ⟨v,rfl,rx⟩:=yvy r
    obtain ⟨a,us,rfl,hs,rs⟩:=ycg w hy rx
    have:=yrx hn rs
    subst this
    exact ⟨a,ns,rfl,hs,q _ W rfl (.refl w) rfl⟩
   .cases e
  .cases e
 .cases e
noncomputable def yHJ:List PV->AH->Option (PV×AH):=fun xs h=>match xs with|[x]=>(match yeM x h with|some ys=>(match yzM ys with|some ns=>some (.bl (ns.all id),h)|none=>none)|none=>none)|_=>none
theorem yKs:ypa K yMr yHJ:=by
 intro W xs vs Q z h' w r e q
 unfold yHJ at e
 split at e
 .split at e
  .rename_i ys hy
   split at e
   .rename_i ns hn
    cases e
    obtain ⟨v,rfl,rx⟩:=yvy r
    obtain ⟨a,us,rfl,hs,rs⟩:=ycg w hy rx
    have:=ytM hn rs
    subst this
    exact ⟨a,ns,rfl,hs,q _ W rfl (.refl w) rfl⟩
   .cases e
  .cases e
 .cases e
def isStr:PV->AH->Bool:=fun x _=>match x with|.str _=>true|_=>false
noncomputable def ysh:PM:=fun x xs h=>match x,xs with|.str sep,[y]=>(match yeM y h with|some ys=>(match strsOf ys with|some ts=>if sep.length<=16/\(ts.map (·.length)).sum+ts.length<=1048576 then some (.str (Str.join sep ts),h) else none|none=>none)|none=>none)|_,_=>none
theorem yzN:ytI K "str" isStr rJoin ysh:=by
 refine ⟨fun W x v w r c=>?_,fun W x v xs vs Q z h' w rx r e q=>?_⟩
 .unfold isStr at c
  split at c
  .rw [show v=_ from r];rfl
  .cases c
 .unfold ysh at e
  split at e
  .rename_i sep y
   split at e
   .rename_i ys hy
    split at e
    .rename_i ts ht
     split at e
     .rename_i c
      cases e
      obtain ⟨u,rfl,ru⟩:=yvy r
      obtain ⟨a,us,rfl,hs,rs⟩:=ycg w hy ru
      have:=yrw ht rs
      subst this
      exact ⟨sep,a,ts,rx,rfl,hs,c.1,c.2,q _ W rfl (.refl w) rfl⟩
     .cases e
    .cases e
   .cases e
  .cases e
end PX
namespace PX
open PySem L2
variable {K:Ck}
noncomputable def putN (f:Str) (x:PV) (ns:List Str) (xs:List PV):List Str×List PV:=if f∈ns then (ns,xs.set (ns.idxOf f) x) else (ns++[f],xs++[x])
theorem ywI (f:Str) (y:V):∀ (ns:List Str) (vs:List V),vs.length=ns.length->yrr f y (ns.zip vs)=if f∈ns then ns.zip (vs.set (ns.idxOf f) y) else (ns++[f]).zip (vs++[y])
 | [],[],_=>by simp [yrr]
 | n::ns,v::vs,hl=>by
  have ih:=ywI f y ns vs (by simpa using hl)
  show (if n=f then (n,y)::ns.zip vs else (n,v)::yrr f y (ns.zip vs))=_
  by_cases h:n=f
  .subst h
   simp [List.idxOf_cons_self]
  .have h':¬ f=n:=fun z=>h z.symm
   have hb:(n == f)=false:=by simpa using h
   rw [if_neg h,ih]
   by_cases hm:f∈ns
   .simp [hm,h',List.idxOf_cons,hb]
   .simp [hm,h']
theorem yry {f:Str}:∀ {ns:List Str}{vs:List V},vs.length=ns.length->f∈ns->(ns.zip vs).lookup f=vs[ns.idxOf f]?
 | [],_,_,h=>by simp at h
 | n::ns,v::vs,hl,h=>by
  show List.lookup f ((n,v)::ns.zip vs)=_
  by_cases hn:f=n
  .subst hn
   rw [yKo,List.idxOf_cons_self];rfl
  .rw [yHk hn,yry (by simpa using hl) (by simpa [hn] using h)]
   have hb:(n == f)=false:=by simpa using fun z:n=f=>hn z.symm
   simp [List.idxOf_cons,hb]
theorem yit {f:Str}:∀ {ns:List Str}{vs:List V},f∉ns->(ns.zip vs).lookup f=none
 | [],_,_=>by simp
 | n::ns,[],_=>by simp
 | n::ns,v::vs,h=>by
  show List.lookup f ((n,v)::ns.zip vs)=_
  rw [yHk (fun z:f=n=>h (by rw [z];exact List.mem_cons_self)),yit fun z=>h (List.mem_cons_of_mem _ z)]
noncomputable def yjH (x:PV) (h:AH):Option (Nat×List Str×List PV):=match x with|.ins k ns xs=>some (k,ns,xs)|.loc n=>(match h[n]? with|some (.ins k ns xs)=>some (k,ns,xs)|_=>none)|_=>none
theorem ynk {W:Wd}(w:WOk K W) {x:PV}{v:V}{k:Nat}{ns:List Str}{xs:List PV}(e:yjH x W.h=some (k,ns,xs)) (r:ygI K W x v):∃ a dx vs,v=.ref a/\W.H a=some (.ins (K.A k) dx (ns.zip vs))/\vs.length=ns.length/\yhm K W xs vs:=by
 unfold yjH at e
 split at e
 .cases e
  obtain ⟨a,dx,vs,ev,hs,hl,rs⟩:=r
  exact ⟨a,dx,vs,ev,w.le _ _ hs,hl,rs⟩
 .rename_i n
  split at e
  .rename_i hn
   cases e
   obtain ⟨a,ev,hm,hf,dx,vs,hp,hl,rs⟩:=w.loc hn r
   exact ⟨a,dx,vs,ev,hp,hl,rs⟩
  .cases e
 .cases e
noncomputable def yjI (cs:List Nat) (f:Str) (e:XE):XE:=fun ρ h=>ob (e ρ h) fun x h1=>match yjH x h1 with|some (k,ns,xs)=>if k∈cs/\f∈ns then (match xs[ns.idxOf f]? with|some y=>some (y,h1)|none=>none) else none|none=>none
theorem yFl {cs:List Nat}{f:Str}{ta:TE}{ea:XE}(hc:∀ k∈cs,Cls K.K (K.A k)/\NoAttr K.K (K.A k) f) (a:yfM K ta ea):yfM K (yMg K.K ta f) (yjI cs f ea):=by
 intro W0 W ρ σ Q z h' g e q
 obtain ⟨x,h1,e1,f1⟩:=yq e
 refine a W0 W ρ σ _ x h1 g e1 fun v W1 w1 l1 r1=>?_
 subst w1
 split at f1
 .rename_i k ns xs hi
  split at f1
  .rename_i c
   split at f1
   .rename_i y hy
    cases f1
    obtain ⟨a,dx,vs,ev,hp,hl,rs⟩:=ynk l1.ok hi r1
    obtain ⟨u,h2,h3⟩:=rs.get hy
    exact ⟨a,_,dx,_,u,ev,hp,(hc k c.1).1,(hc k c.1).2,by rw [yry hl c.2];exact h2,q _ W1 rfl l1 h3⟩
   .cases f1
  .cases f1
 .cases f1
noncomputable def yeN (cs:List Nat) (i:Nat) (f:Str) (e:XE):XS:=fun ρ h=>ob (e ρ h) fun x h1=>match ρ[i]? with
 | some (.own (.ins k ns xs))=>if k∈cs/\ns.length<1000 then some (.nx (ρ.set i (.own (.ins k (putN f x ns xs).1 (putN f x ns xs).2))),h1) else none
 | _=>none
theorem RepL.putN {F:Hp}{m:List Addr}{f:Str}{x:PV}{v:V}{ns:List Str}{xs:List PV}{vs:List V}(r:RepL K F m xs vs) (hl:vs.length=ns.length) (rx:Rep K F m x v) :
  ∃ us,yrr f v (ns.zip vs)=(PX.putN f x ns xs).1.zip us/\us.length=(PX.putN f x ns xs).1.length/\RepL K F m (PX.putN f x ns xs).2 us:=by
 rw [ywI f v ns vs hl]
 unfold PX.putN
 by_cases h:f∈ns
 .rw [if_pos h,if_pos h]
  exact ⟨_,rfl,by rw [List.length_set];exact hl,r.set _ rx⟩
 .rw [if_neg h,if_neg h]
  exact ⟨_,rfl,by rw [List.length_append,List.length_append,hl];rfl,r.snoc rx⟩
noncomputable def yDK (K:Ck) (t:TS) (s:XS):Prop:=∀ (W0 W:Wd) (ρ ρ':PSt) (σ:St) (D:Ends) (h':AH),Good K W0 W ρ σ->s ρ W.h=some (.nx ρ',h')->(∀ W',W'.h=h'->Lf K W W'->Good K W0 W' ρ' σ->D.nx σ W'.H)->t D σ W.H
theorem yCj {cs:List Nat}{i:Nat}{f:Str}{ta:TE}{ea:XE}(hc:∀ k∈cs,Cls K.K (K.A k)/\NoAttr K.K (K.A k) f) (a:yfM K ta ea):yDK K (yJW K.K (yGs i) ta f) (yeN cs i f ea):=by
 intro W0 W ρ ρ' σ D h' g e q
 obtain ⟨x,h1,e1,f1⟩:=yq e
 split at f1
 .rename_i k ns xs hi
  split at f1
  .rename_i c
   cases f1
   refine a W0 W ρ σ _ x _ g e1 fun v W1 w1 l1 r1=>?_
   have g1:=g.step l1
   obtain ⟨p,b1,b2,b3,b4,b5,dx,vs,b6,b7,b8⟩:=g1.own i _ hi
   obtain ⟨us,p1,p2,p3⟩:=b8.putN (f:=f) b7 r1
   refine ⟨_,b1,p,_,dx,_,rfl,b6,(hc k c.1).1,(hc k c.1).2,by rw [List.length_zip,b7];simpa using c.2,?_⟩
   rw [p1]
   exact q (yFb W1 p _) w1 (yDE l1 b2) (g1.mut hi b1 b2 b3 b5 (fun z=>by cases z) ⟨b5,dx,us,ybX,p2,p3⟩)
  .cases f1
 .cases f1
theorem yCk {t u:TS}{s s':XS}(a:yDK K t s) (b:yDK K u s'):yDK K (yJP t u) (yx s s'):=by
 intro W0 W ρ ρ' σ D h' g e q
 obtain ⟨o1,h1,e1,f1⟩:=yq e
 cases o1 with
 | nx ρ1=>exact a W0 W ρ ρ1 σ _ h1 g e1 fun W1 w1 l1 g1=>b W0 W1 ρ1 ρ' σ D h' g1 (by rw [w1];exact f1) fun W2 w2 l2 g2=>q W2 w2 (l1.trans l2) g2
 | rt y=>cases f1
 | bk y=>cases f1
 | ct y=>cases f1
noncomputable def yuX (N:Nat) (k:Nat) (s:XS):List PV->AH->Option (Nd×AH):=fun xs h=>ob (s (.own (.ins k [] [])::(xs.map .val++List.replicate (N-(xs.length+1)) .no)) h) fun o h1=>match o with|.nx ρ=>(match ρ[0]? with|some (PVar.own d)=>some (d,h1)|_=>none)|_=>none
noncomputable def spI (K:Ck) (n k:Nat) (f:List PV->AH->Option (Nd×AH)):Sp:=fun vs H Q _=>∃ (W:Wd) (x dx:Addr) (args:List V) (xs:List PV) (d:Nd) (h':AH),vs=.ref x::args/\W.H x=none/\W.H dx=none/\dx≠x/\H=upd (upd W.H dx (.own x)) x (.ins (K.A k) dx []) /\
 WOk K W/\yhm K W xs args/\xs.length=n/\f xs W.h=some (d,h')/\∀ W',W'.h=h'->Le K W W'->x∉W'.m->d≠.dead->NdAt K W'.F W'.H W'.m d x->Q .non W'.H
theorem yFm {n k:Nat}{f} {vs:List V}{H:Hp}{Q:VK}{E:XK}(h:spI K n k f vs H Q E):vs.length=n+1:=by
 obtain ⟨W,x,dx,args,xs,d,h',rfl,_,_,_,_,w,r,hn,_⟩:=h
 rw [List.length_cons,r.len,hn]
theorem yCl {N:List Str}{n k:Nat}{t:TS}{s:XS}{vs:List V}{H:Hp}{Q:VK}{E:XK}{bk ct:St->Hp->Prop}(hN:n+1<=N.length) (a:yDK K t s) (h:spI K n k (yuX N.length k s) vs H Q E):t ⟨fun _ H'=>Q .non H',Q,bk,ct⟩ (L2.start N vs) H:=by
 obtain ⟨W,x,dx,args,xs,d,h',rfl,hx,hd,hne,rfl,w,r,hn,e,q⟩:=h
 obtain ⟨o,h1,e1,f1⟩:=yq e
 have l1:Le K W (yta W dx (.own x)):=ymx w hd
 have hx1:(yta W dx (.own x)).H x=none:=(ybV hne.symm).trans hx
 have l2:Le K (yta W dx (.own x)) (yta (yta W dx (.own x)) x (.ins (K.A k) dx [])):=ymx l1.ok hx1
 have l:=l1.trans l2
 have gs:=yru (K:=K) (N:=N.drop 1) w r
 have g:Good K W (yta (yta W dx (.own x)) x (.ins (K.A k) dx [])) (.own (.ins k [] [])::(xs.map .val++List.replicate (N.length-(xs.length+1)) .no)) (L2.start N (.ref x::args)):=by
  have es:L2.start N (.ref x::args)=some (.ref x)::L2.start (N.drop 1) args:=by
   have e3:N.length-(args.length+1)=(N.drop 1).length-args.length:=by rw [List.length_drop];omega
   unfold L2.start
   rw [List.map_cons,List.cons_append,List.length_cons,e3]
  have eN:N.length-(xs.length+1)=(N.drop 1).length-xs.length:=by rw [List.length_drop];omega
  rw [es,eN]
  have gs':=gs.step l
  have noown:∀ (j:Nat) (d:Nd),(xs.map PVar.val++List.replicate ((N.drop 1).length-xs.length) .no)[j]?≠some (.own d):=fun j d z=>by
   by_cases hj:j<xs.length
   .rw [List.getElem?_append_left (by simpa using hj),List.getElem?_map,List.getElem?_eq_getElem hj] at z
    cases z
   .rw [List.getElem?_append_right (by simp;omega),List.getElem?_replicate] at z
    split at z<;>cases z
  refine ⟨l,by rw [List.length_cons,List.length_cons,gs.len],fun j y z=>?_,fun j d z=>?_,fun i j d d' hij z z'=>?_⟩
  .cases j with
   | zero=>cases z
   | succ j=>exact gs'.val j y z
  .cases j with
   | zero=>cases z;exact ⟨x,rfl,w.out hx,hx,(fun z=>by cases z),w.ff hx,dx,[],ybX,rfl,rfl⟩
   | succ j=>exact absurd z (noown j d)
  .cases i with
   | zero =>
    cases j with
    | zero=>exact absurd rfl hij
    | succ j=>exact absurd z' (noown j d')
   | succ i=>exact absurd z (noown i d)
 cases o with
 | rt y=>cases f1
 | bk ρ=>cases f1
 | ct ρ=>cases f1
 | nx ρ =>
  refine a W _ _ ρ _ _ h1 g e1 fun W' ew lf g'=>?_
  dsimp only at f1
  split at f1
  .rename_i d' hd'
   cases f1
   obtain ⟨p,b1,b2,b3,b4,b5⟩:=g'.own 0 _ hd'
   have b1:some (some (V.ref x))=some (some (V.ref p)):=b1
   cases b1
   exact q W' ew g'.le b2 b4 b5
  .cases f1
def ymd (f:List PV->AH->Option (Nd×AH)) (a:XA):XO:=fun ρ h=>ob (a ρ h) f
theorem yCm {n k:Nat}{f} {ex:XK}{t:TA}{e:XA}(a:ytF K t e) (hn:∀ ρ h xs h',e ρ h=some (xs,h')->xs.length=n):yyD K (yHd (K.A k) (spI K n k f) [] ex t) (ymd f e):=by
 intro W0 W ρ σ Q d h' g e' q
 obtain ⟨xs,h1,e1,e2⟩:=yq e'
 refine a W0 W ρ σ _ xs h1 g e1 fun vs W1 w1 l1 r1=>?_
 subst w1
 intro x dx hx hd hne
 rw [List.append_nil]
 exact ⟨W1,x,dx,vs,xs,d,h',rfl,hx,hd,hne,rfl,l1.ok,r1,hn _ _ _ _ e1,e2,fun W2 w2 l2 hm hdd at_=>⟨rfl,q x W2 w2 (l1.trans l2) hm (l1.fresh hx) hdd at_⟩⟩
def yrz (k:Nat):XO:=fun _ h=>some (.ins k [] [],h)
theorem yzO {k:Nat}:yyD K (yDy (K.A k)) (yrz k):=by
 intro W0 W ρ σ Q d h' g e q
 cases e
 intro x dx hx hd hne
 have w:=g.ok
 have l1:Le K W (yta W dx (.own x)):=ymx w hd
 have hx1:(yta W dx (.own x)).H x=none:=(ybV hne.symm).trans hx
 have l2:Le K (yta W dx (.own x)) (yta (yta W dx (.own x)) x (.ins (K.A k) dx [])):=ymx l1.ok hx1
 exact q x (yta (yta W dx (.own x)) x (.ins (K.A k) dx [])) rfl (l1.trans l2) (w.out hx) hx (fun z=>by cases z) ⟨w.ff hx,dx,[],ybX,rfl,rfl⟩
noncomputable def ysi (m:Str) (f:Nat->Fn) (e:XE):XE:=fun ρ h=>ob (e ρ h) fun x h1=>match yjH x h1 with|some (k,ns,_)=>if m∈ns then none else f k [x] h1|none=>none
theorem yCn {m:Str}{f:Nat->Fn}{ta:TE}{ea:XE}(a:yfM K ta ea):yfM K (yDz K.A m (fun k=>spE K 1 (f k)) ta) (ysi m f ea):=by
 intro W0 W ρ σ Q z h' g e q
 obtain ⟨x,h1,e1,f1⟩:=yq e
 refine a W0 W ρ σ _ x h1 g e1 fun v W1 w1 l1 r1=>?_
 subst w1
 split at f1
 .rename_i k ns xs hi
  split at f1
  .cases f1
  .rename_i hm
   obtain ⟨b,dx,vs,ev,hp,hl,rs⟩:=ynk l1.ok hi r1
   exact ⟨b,k,dx,_,ev,hp,yit hm,W1,[x],z,h',rfl,l1.ok,⟨v,[],rfl,r1,rfl⟩,rfl,f1,fun u W2 w2 l2 r2=>q u W2 w2 (l1.trans l2) r2⟩
 .cases f1
noncomputable def ytN (tb:List (Nat×Nat×Bool)) (x c:PV) (h:AH):Option Bool:=match c with
 | .ty n=>(match x with
  | .int _=>if n = "int" then some true else if n = "bool"\/n = "str"\/n = "list"\/n = "tuple"\/n = "dict" then some false else none
  | .bl _=>if n = "int"\/n = "bool" then some true else if n = "str"\/n = "list"\/n = "tuple"\/n = "dict" then some false else none
  | .str _=>if n = "str" then some true else if n = "int"\/n = "bool"\/n = "list"\/n = "tuple"\/n = "dict" then some false else none
  | .non=>if n = "int"\/n = "bool"\/n = "str"\/n = "list"\/n = "tuple"\/n = "dict" then some false else none
  | .tup _=>if n = "tuple" then some true else if n = "int"\/n = "bool"\/n = "str"\/n = "list"\/n = "dict" then some false else none
  | _=>(match yeM x h with|some _=>if n = "list" then some true else if n = "int"\/n = "bool"\/n = "str"\/n = "tuple"\/n = "dict" then some false else none|none=>none))
 | .cls c'=>(match yjH x h with|some (k,_)=>(tb.find? fun r=>r.1 == k && r.2.1 == c').map (·.2.2)|none=>none)
 | _=>none
noncomputable def yhn (tb:List (Nat×Nat×Bool)):List PV->AH->Option (PV×AH):=fun xs h=>match xs with|[x,c]=>(match ytN tb x c h with|some b=>some (.bl b,h)|none=>none)|_=>none
theorem yme {tb:List (Nat×Nat×Bool)}(ht:∀ r∈tb,∀ (H:Hp) (a dx:Addr) (fs:List (Str×V)),H a=some (.ins (K.A r.1) dx fs)->IsI K.K H (.ref a) (.ref (K.A r.2.1)) r.2.2):ypa K (yMp K.K) (yhn tb):=by
 intro W xs vs Q z h' w r e q
 unfold yhn at e
 split at e
 .rename_i x c
  split at e
  .rename_i b hb
   cases e
   obtain ⟨v,u,rfl,rx,ru⟩:=yMu r
   refine ⟨v,u,b,rfl,?_,q _ W rfl (.refl w) rfl⟩
   unfold ytN at hb
   split at hb
   .rename_i n
    obtain rfl:u=.ty n:=ru
    split at hb
    .rw [show v=_ from rx]
     repeat' split at hb
     all_goals cases hb
     .rename_i hn;subst hn;exact yve
     .rename_i hn;rcases hn with rfl|rfl|rfl|rfl|rfl
      .exact ytn
      .exact yvk
      .exact ytr
      .exact yrX
      .exact yts
    .rw [show v=_ from rx]
     repeat' split at hb
     all_goals cases hb
     .rename_i hn;rcases hn with rfl|rfl
      .exact yxC
      .exact yvg
     .rename_i hn;rcases hn with rfl|rfl|rfl|rfl
      .exact yxD
      .exact yvl
      .exact ytt
      .exact yvm
    .rw [show v=_ from rx]
     repeat' split at hb
     all_goals cases hb
     .rename_i hn;subst hn;exact yvh
     .rename_i hn;rcases hn with rfl|rfl|rfl|rfl|rfl
      .exact yvn
      .exact ytu
      .exact ytv
      .exact yrY
      .exact ytw
    .rw [show v=_ from rx]
     repeat' split at hb
     all_goals cases hb
     .rename_i hn;rcases hn with rfl|rfl|rfl|rfl|rfl|rfl
      .exact yvf
      .exact ytx
      .exact yvo
      .exact yty
      .exact yrZ
      .exact ytz
    .obtain ⟨a,us,rfl,hs,_⟩:=rx
     have hp:(∃ xs,W.H a=some (.tup xs))\/∃ o,K.K.lookup a=some o/\o.cls=.type "tuple":=hs.elim (fun h=>.inl ⟨_,w.le _ _ h⟩) fun ⟨o,its,n,e1,e2,_⟩=>.inr ⟨o,e1,e2⟩
     repeat' split at hb
     all_goals cases hb
     .rename_i hn;subst hn;exact ysb hp
     .rename_i hn;rcases hn with rfl|rfl|rfl|rfl|rfl
      .exact yvr hp
      .exact ytC hp
      .exact yvs hp
      .exact ytD hp
      .exact ytE hp
    .split at hb
     .rename_i ys hy
      obtain ⟨a,us,rfl,hp,_⟩:=ycg w hy rx
      repeat' split at hb
      all_goals cases hb
      .rename_i hn;subst hn;exact yto hp
      .rename_i hn;rcases hn with rfl|rfl|rfl|rfl|rfl
       .exact yvp hp
       .exact ytA hp
       .exact yvq hp
       .exact ysa hp
       .exact ytB hp
     .cases hb
   .rename_i c'
    obtain rfl:u=.ref (K.A c'):=ru
    split at hb
    .rename_i k p hi
     obtain ⟨r',h1,h2⟩:=Option.map_eq_some_iff.mp hb
     have hm:=List.mem_of_find?_eq_some h1
     have hp:=List.find?_some h1
     simp only [Bool.and_eq_true,beq_iff_eq] at hp
     obtain ⟨a,dx,us,rfl,hs,_⟩:=ynk w hi rx
     obtain ⟨p1,p2⟩:=hp
     have:=ht r' hm W.H a dx (p.1.zip us) (by rw [p1];exact hs)
     rw [p2,h2] at this
     exact this
    .cases hb
   .cases hb
  .cases e
 .cases e
end PX
namespace PX
open PySem L2
section
variable {ρ:PSt}{h h1:AH}{x y z:PV}{a b c:XE}{ca cb:XT}{aa:XA}{eo:XO}{s u:XS}{i:Nat}{p:P2}
theorem yha {α β:Type}{x:α}{h:AH}{f:α->AH->Option β}:ob (some (x,h)) f=f x h:=id rfl
theorem yKt {α β:Type}{f:α->AH->Option β}:ob (none:Option (α×AH)) f=none:=id rfl
theorem yKu {α β γ:Type}{o:Option (α×AH)}{f:α->AH->Option (β×AH)}{g:β->AH->Option γ}:ob (ob o f) g=ob o fun x h=>ob (f x h) g:=by cases o<;>rfl
theorem yKv {α β:Type}{q:Prop} [Decidable q] {o o':Option (α×AH)}{f:α->AH->Option β}:ob (if q then o else o') f=if q then ob o f else ob o' f:=by split<;>rfl
theorem yDL:yk 0 (.val x::ρ) h=some (x,h):=id rfl
theorem yHK {v:PVar}{n:Nat}:yk (n+1) (v::ρ) h=yk n ρ h:=by simp [yk]
theorem x_c:xC x ρ h=some (x,h):=id rfl
theorem yMI:xOp p a b ρ h=ob (a ρ h) fun x h1=>ob (b ρ h1) fun y h2=>p x y h2:=id rfl
theorem yKw {p:P2O}:yHp p a b ρ h=ob (a ρ h) fun x h1=>ob (b ρ h1) fun y h2=>p x y h2:=id rfl
theorem yMJ {p}:xUn p a ρ h=ob (a ρ h) fun x h1=>p x h1:=id rfl
theorem yMK {k:Bool}:oB (.bl k) h=some (k,h):=id rfl
theorem yFn {p p':P2}:yrt p p' a b c ρ h=ob (a ρ h) fun x h1=>ob (b ρ h1) fun y h2=>ob (p x y h2) fun z h3=>ob (oB z h3) fun k h3=>if k=true then ob (c ρ h3) fun w h4=>p' y w h4 else some (.bl false,h3):=id rfl
theorem yHL:yF a ρ h=ob (a ρ h) oB:=id rfl
theorem yHM:ypD a b ρ h=ob (a ρ h) fun x h1=>ob (oB x h1) fun k h1=>if k=true then b ρ h1 else some (.bl false,h1):=id rfl
theorem yHN:yBK a ρ h=ob (a ρ h) fun x h1=>ob (oB x h1) fun k h1=>some (.bl (!k),h1):=id rfl
theorem yKx:yyE ca cb ρ h=ob (ca ρ h) fun k h1=>if k=true then cb ρ h1 else some (false,h1):=id rfl
theorem yML:xOr ca cb ρ h=ob (ca ρ h) fun k h1=>if k=true then some (true,h1) else cb ρ h1:=id rfl
theorem yKy:ypo ca ρ h=ob (ca ρ h) fun k h1=>some (!k,h1):=id rfl
theorem yMM:xIf ca a b ρ h=ob (ca ρ h) fun k h1=>if k=true then a ρ h1 else b ρ h1:=id rfl
theorem yKz:yu ρ h=some ([],h):=id rfl
theorem yHO:yd a aa ρ h=ob (a ρ h) fun x h1=>ob (aa ρ h1) fun xs h2=>some (x::xs,h2):=id rfl
theorem yKA:ysc aa ρ h=ob (aa ρ h) fun xs h1=>if xs.length<=1000 then some (.tup xs,h1) else none:=id rfl
theorem yKB:ymp aa ρ h=ob (aa ρ h) fun xs h1=>if xs.length<=1000 then some (.lst xs,h1) else none:=id rfl
def fzN:Nd->AH->Option (PV×AH)
 | .lst xs,h=>some (.lst xs,h)
 | .ins k ns xs,h=>some (.ins k ns xs,h)
 | _,_=>none
theorem yMN:xFz eo ρ h=ob (eo ρ h) fzN:=by
 unfold xFz;congr;funext d h1;cases d<;>rfl
theorem yKC {xs:List PV}:fzN (.lst xs) h=some (.lst xs,h):=id rfl
theorem yKD {k:Nat}{ns:List Str}{xs:List PV}:fzN (.ins k ns xs) h=some (.ins k ns xs,h):=id rfl
theorem yKE:yuV eo ρ h=ob (eo ρ h) fun d h1=>some (.loc h1.length,h1++[d]):=id rfl
theorem x_call {f:Fn}:ybJ f aa ρ h=ob (aa ρ h) f:=id rfl
theorem yMO {f}:xCB f aa ρ h=ob (aa ρ h) f:=id rfl
theorem yKF {f}:ytG f aa ρ h=ob (aa ρ h) f:=id rfl
theorem yMP {q} {p:PM}:xBM q p a aa ρ h=ob (a ρ h) fun x h1=>if q x h1=true then ob (aa ρ h1) fun xs h2=>p x xs h2 else none:=id rfl
theorem yFo {s:Str}:isStr (.str s) h=true:=id rfl
theorem yHP {f}:ymd f aa ρ h=ob (aa ρ h) f:=id rfl
theorem yFp {k:Nat}:yrz k ρ h=some (.ins k [] [],h):=id rfl
theorem yHQ:yby ρ h=some (.nx ρ,h):=id rfl
noncomputable def sqK (u:XS):Out->AH->Option (Out×AH)
 | .nx ρ,h=>u ρ h
 | .rt x,h=>some (.rt x,h)
 | .bk ρ,h=>some (.bk ρ,h)
 | .ct ρ,h=>some (.ct ρ,h)
theorem yKG:yx s u ρ h=ob (s ρ h) (sqK u):=by
 unfold yx;congr;funext o h1;cases o<;>rfl
theorem yKH:sqK u (.nx ρ) h=u ρ h:=id rfl
theorem yKI:sqK u (.rt x) h=some (.rt x,h):=id rfl
theorem yHR:yiW a ρ h=ob (a ρ h) fun _ h1=>some (.nx ρ,h1):=id rfl
theorem yKJ:ycc a ρ h=ob (a ρ h) fun x h1=>some (.rt x,h1):=id rfl
theorem yKK:ydg ca s u ρ h=ob (ca ρ h) fun k h1=>if k=true then s ρ h1 else u ρ h1:=id rfl
theorem yKL {g:XG}:ydI a g ρ h=ob (a ρ h) fun x h1=>(g x ρ).bind fun ρ'=>some (.nx ρ',h1):=id rfl
theorem yHS:yzx eo i ρ h=ob (eo ρ h) fun d h1=>some (.nx (ρ.set i (.own d)),h1):=id rfl
theorem yHT:yw i x ρ=some (ρ.set i (.val x)):=id rfl
theorem yHU:yBh [] ρ=some ρ:=id rfl
theorem yFq {g:XG}{r:XGs}{xs:List PV}:ykY g r (x::xs) ρ=(g x ρ).bind fun ρ'=>r xs ρ':=id rfl
theorem yHV {n:Nat}{g:XGs}{xs:List PV}:yyF n g (.tup xs) ρ=if xs.length=n then g xs ρ else none:=id rfl
theorem yKM:yHx i s ρ h=s (yvw i ρ) h:=id rfl
theorem yKN {v:PVar}:yvw 0 (v::ρ)=yBS v::ρ:=id rfl
theorem yKO {v:PVar}{n:Nat}:yvw (n+1) (v::ρ)=v::yvw n ρ:=id rfl
theorem yKP {xs:List PV}:yBS (.own (.lst xs))=.val (.lst xs):=id rfl
theorem yKQ {it:XA}{g:XG}:ytb it g s ρ h=ob (it ρ h) fun xs h1=>yjZ g s xs ρ h1:=id rfl
theorem yHW {g:XG}:yjZ g s [] ρ h=some (.nx ρ,h):=id rfl
noncomputable def frK (g:XG) (s:XS) (xs:List PV):Out->AH->Option (Out×AH)
 | .nx ρ,h=>yjZ g s xs ρ h
 | .ct ρ,h=>yjZ g s xs ρ h
 | .bk ρ,h=>some (.nx ρ,h)
 | .rt y,h=>some (.rt y,h)
theorem yoF {g:XG}{xs:List PV}:yjZ g s (x::xs) ρ h=(g x ρ).bind fun ρ1=>ob (s ρ1 h) (frK g s xs):=by
 unfold yjZ;congr;funext ρ1;congr;funext o h1;cases o<;>rfl
def fnK:Out->AH->Option (PV×AH)
 | .rt x,h=>some (x,h)
 | .nx _,h=>some (.non,h)
 | _,_=>none
theorem ybp {N:Nat}{xs:List PV}:ygJ N s xs h=ob (s (xs.map .val++List.replicate (N-xs.length) .no) h) fnK:=by
 unfold ygJ;congr;funext o h1;cases o<;>rfl
theorem yKR:fnK (.rt x) h=some (x,h):=id rfl
theorem yKS:fnK (.nx ρ) h=some (.non,h):=id rfl
def inK:Out->AH->Option (Nd×AH)
 | .nx (.own d::_),h=>some (d,h)
 | _,_=>none
theorem yvA {N k:Nat}{xs:List PV}:yuX N k s xs h=ob (s (.own (.ins k [] [])::(xs.map .val++List.replicate (N-(xs.length+1)) .no)) h) inK:=by
 unfold yuX;congr;funext o h1;cases o with
 | nx ρ=>cases ρ with
  | nil=>rfl
  | cons v ρ=>cases v<;>rfl
 | _=>rfl
theorem yKT {d:Nd}:inK (.nx (.own d::ρ)) h=some (d,h):=id rfl
noncomputable def ykU (cs:List Nat) (f:Str) (x:PV) (h:AH):Option (PV×AH):=match yjH x h with|some (k,ns,xs)=>if k∈cs/\f∈ns then (match xs[ns.idxOf f]? with|some y=>some (y,h)|none=>none) else none|none=>none
theorem yKU {cs:List Nat}{f:Str}:yjI cs f a ρ h=ob (a ρ h) (ykU cs f):=id rfl
theorem ycX {cs:List Nat}{f:Str}{k:Nat}{ns:List Str}{xs:List PV}{y:PV}(hk:k∈cs) (hf:f∈ns) (hy:xs[ns.idxOf f]?=some y):ykU cs f (.ins k ns xs) h=some (y,h):=by
 unfold ykU yjH
 simp [hk,hf,hy]
noncomputable def yxJ (cs:List Nat) (i:Nat) (f:Str) (ρ:PSt) (x:PV) (h:AH):Option (Out×AH):=match ρ[i]? with
 | some (.own (.ins k ns xs))=>if k∈cs/\ns.length<1000 then some (.nx (ρ.set i (.own (.ins k (putN f x ns xs).1 (putN f x ns xs).2))),h) else none
 | _=>none
theorem yHX {cs:List Nat}{f:Str}:yeN cs i f a ρ h=ob (a ρ h) (yxJ cs i f ρ):=id rfl
theorem ymr {cs:List Nat}{f:Str}{k:Nat}{ns:List Str}{xs:List PV}(hk:k∈cs) (hl:ns.length<1000) (hf:f∉ns):yxJ cs 0 f (.own (.ins k ns xs)::ρ) x h=some (.nx (.own (.ins k (ns++[f]) (xs++[x]))::ρ),h):=by
 unfold yxJ putN
 simp [hk,hl,hf]
noncomputable def yod (m:Str) (f:Nat->Fn) (x:PV) (h:AH):Option (PV×AH):=match yjH x h with|some (k,ns,_)=>if m∈ns then none else f k [x] h|none=>none
theorem yDM {m:Str}{f:Nat->Fn}:ysi m f a ρ h=ob (a ρ h) (yod m f):=id rfl
theorem ygk {m:Str}{f:Nat->Fn}{k:Nat}{ns:List Str}{xs:List PV}(hm:m∉ns):yod m f (.ins k ns xs) h=f k [.ins k ns xs] h:=by
 unfold yod yjH
 simp [hm]
theorem x_i {g:Int->Int->PV}{i j:Int}:oI g (.int i) (.int j) h=some (g i j,h):=id rfl
theorem yMQ {C:Int->Int->Prop} [∀ i j,Decidable (C i j)] {g:Int->Int->PV}{i j:Int}:oIc C g (.int i) (.int j) h=if C i j then some (g i j,h) else none:=id rfl
theorem yHY {i j:Int}(h1:-18446744073709551616<j) (h2:j<18446744073709551616):MulOk i j=True:=eq_true (.inr ⟨h1,h2⟩)
theorem yKV {i j:Int}(h1:0<=i) (h2:i<18446744073709551616) (h3:0<=j) (h4:j<=1000000):yzF i j=True:=eq_true ⟨⟨h1,h2⟩,h3,h4⟩
theorem yKW {i j:Int}:oEq (.int i) (.int j) h=some (.bl (decide (i=j)),h):=by simp [oEq,sv,yDo]
theorem yKX {i j:Str}:oEq (.str i) (.str j) h=some (.bl (decide (i=j)),h):=by simp [oEq,sv,yDo]
theorem yKY {i j:Int}:oNe (.int i) (.int j) h=some (.bl (!decide (i=j)),h):=by simp [oNe,sv,yDo]
theorem yKZ {i j:Str}:oNe (.str i) (.str j) h=some (.bl (!decide (i=j)),h):=by simp [oNe,sv,yDo]
theorem yLa:yFi x .non h=some (.bl (isN x),h):=id rfl
theorem yHZ:yzG x .non h=some (.bl (!isN x),h):=id rfl
theorem ywJ {i j:Str}:yis (.str i) (.str j) h=if i.length+j.length<=100000 then some (.str (i++j),h) else none:=id rfl
theorem yLb {c:Nat}{j:Str}:yHD (.str ⟨#[c]⟩) (.str j) h=some (.bl (decide (c∈j.cps.toList)),h):=id rfl
theorem yLc {xs:List PV}{i:Int}:yzI (.lst xs) (.int i) h=(atI xs i).bind fun v=>some (v,h):=by
 simp only [yzI];cases atI xs i<;>rfl
theorem yLd {xs:List PV}{i:Int}:yfp (.tup xs) (.int i) h=(atI xs i).bind fun v=>some (v,h):=by
 simp only [yfp];cases atI xs i<;>rfl
theorem yLe {s:Str}{i:Int}:yFj (.str s) (.int i) h=(atI s.cps.toList i).bind fun c=>if s.length<=100000 then some (sgn c,h) else none:=by
 simp only [yFj];cases atI s.cps.toList i<;>rfl
theorem yLf {xs:List PV}{lo hi:Option Int}:yDH (.lst xs) lo hi h=some (.lst (yBk xs lo hi),h):=id rfl
theorem yLg {xs:List Int}{lo hi:Option Int}:yDH (.scr xs) lo hi h=some (.lst (yBk (xs.map .int) lo hi),h):=id rfl
theorem yLh {xs ys:List PV}:yHF (.lst xs) (.lst ys) h=if xs.length+ys.length<=100000 then some (.lst (xs++ys),h) else none:=id rfl
theorem yLi {p} {lo hi}:yEI p a lo hi ρ h=ob (a ρ h) fun x h1=>ob (lo ρ h1) fun l h2=>ob (hi ρ h2) fun u h3=>p x l u h3:=id rfl
theorem yIa:ytH a ρ h=ob (a ρ h) fun x h1=>match x with|.int i=>some (some i,h1)|_=>none:=id rfl
theorem yCo:ynZ ρ h=some (none,h):=id rfl
theorem yIb {xs:List PV}:yvx [.lst xs] h=some (.int xs.length,h):=id rfl
theorem yIc {z:Str}:yxI [.str z] h=if z.length<=100000 then some (.int z.length,h) else none:=id rfl
theorem yFr {k:Bool}:yvz [.bl k] h=some (.int (if k then 1 else 0),h):=id rfl
theorem yFs {xs:List PV}:yez [.lst xs] h=some (.lst xs,h):=id rfl
theorem yFt {xs:List PV}:yez [.tup xs] h=some (.lst xs,h):=id rfl
theorem yJJ {xs:List PV}(e:a ρ h=some (.lst xs,h1)):xIL a ρ h=some (xs,h1):=by unfold xIL;rw [e];rfl
theorem yId {it:XA}{ix:List Nat}:ysg it ix a ρ h=ob (it ρ h) fun xs h1=>if xs.length<=100000 then ob (yuW a (ysf ix ρ) xs h1) fun ys h2=>some (.lst ys,h2) else none:=id rfl
end
end PX
namespace L2
open PySem PySem.Spec PyProof.Rows
end L2
namespace L2
open PySem PySem.Spec PyProof.Rows
section
variable (P:Program) (w:World)
end
section
variable {P:Program}{w:World}{H H':Hp}{h h':Heap}{a:Addr}{o:HO}
end
section
variable {P:Program}{w:World}{H:Hp}{h h':Heap}{x e:Addr}{o':HO}
end
section
variable {fs fs' ex ex':List Addr}{H H1 H2:Hp}{h h1 h2 h':Heap}{a x e:Addr}{o:HO}
end
end L2
namespace L2
open PySem PySem.Spec PyProof.Rows
section
variable {X:Cx}{pins:List (Addr×Obj)}{σ:List (Option V)}{H H':Hp}{s:Shared}{h':Heap}
end
end L2
namespace L2
open PySem PySem.Spec PyProof.Rows
section
variable {X:Cx}
variable {a b:Expr}{ta tb:TE}{pos:Pos}
variable {tA tB':TT}{rest:List Expr}
end
end L2
namespace L2
open PySem PySem.Spec PyProof.Rows
section
variable {X:Cx}{pins:List (Addr×Obj)}{σ:St}{H:Hp}{s:Shared}{a:Addr}{xs ys:List V}
end
section
variable {X:Cx}{pins:List (Addr×Obj)}{σ:St}{H:Hp}{s:Shared}{E:Value->Shared->Prop}
end
section
variable {X:Cx}{st:Stmt}{rest:List Stmt}{t u:TS}{e:Expr}{te:TE}{pos:Pos}
end
section
variable {X:Cx}{pos:Pos}
end
section
variable {X:Cx}{pos:Pos}
end
end L2
namespace L2
open PySem PySem.Spec PyProof.Rows
section
variable {X:Cx}{tg:Expr}
end
end L2
namespace L2
open PySem PySem.Spec PyProof.Rows
section
variable {X:Cx}{a b c:Expr}{ta tb tc:TE}{pos:Pos}
end
section
variable {X:Cx}{a b c:Expr}{ta tb tc:TE}{pos:Pos}
end
end L2
namespace L2
open PySem PySem.Spec PyProof.Rows
section
variable {prog:Program}{w:World}{A:Around}{E:Value->Shared->Prop}{s:Shared}{K:PySem.W.Frag}{x dx C f:Addr}{mA:Str->Option Value}{name:Str}{v:Value}
end
section
variable {P:Program}{w:World}{H H':Hp}{h h':Heap}{a C dx:Addr}{fs fs':List (Str×V)}
end
section
variable {X:Cx}{pins:List (Addr×Obj)}{σ:St}{H:Hp}{s:Shared}{a C dx:Addr}{fs:List (Str×V)}{f:Str}{v:V}{A:Around}{E:Value->Shared->Prop}
end
section
variable {X:Cx}{o e value:Expr}{f:Str}{pos pos' tpos:Pos}{ta tv:TE}
end
section
variable {X:Cx}{pins:List (Addr×Obj)}{σ:St}{H:Hp}{s:Shared}{A:Around}{E:Value->Shared->Prop}{Q:Value->Shared->Prop}{c:Value}{b:Bool}
end
end L2
namespace L2
open PySem PySem.Spec PyProof.Rows
section
variable {X:Cx}{e:Expr}{es:List Expr}{te:TE}{t:TA}{pos:Pos}
end
section
variable {X:Cx}{pins:List (Addr×Obj)}{σ:St}{H:Hp}{s s':Shared}
end
section
variable {X:Cx}{CX:CXT}{k:Nat}{f C:Addr}{fd:FuncData}{ps:List Str}{sp:Sp}{dvs:List V}{ds:List Value}{E:XK}{x m:Str}{p pos apos:Pos}{e o:Expr}{es:List Expr}{ta:TE}{t:TA}
end
section
variable {X:Cx}{CX:CXT}{k:Nat}{f C:Addr}{fd:FuncData}{ps ks:List Str}{sp:Sp}{E:XK}{x m:Str}{p pos apos kpos:Pos}{e o:Expr}{es:List Expr}{kws:List Keyword}{te ta:TE}{t tk:TA}{nm:Option Str}
variable {g:List Value->List Value->List Value}{gV:List V->List V->List V}
end
end L2
namespace L2
open PySem PySem.Spec PyProof.Rows
section
variable {X:Cx}{x:Str}{p pos:Pos}{e:Expr}{es:List Expr}{t:TA}{id T:String}{r:List V->Hp->VK->Prop}
end
end L2
namespace L2
open PySem PySem.Spec PyProof.Rows
section
variable {κ:Type} [DecidableEq κ]
end
section
variable {P:Program}{w:World}{H:Hp}{h:Heap}{a:Addr}
end
section
variable {X:Cx}{pins:List (Addr×Obj)}{σ:St}{H:Hp}{s:Shared}{a:Addr}{y v:V}{u r:Value}{o:Option V}{A:Around}{E:Value->Shared->Prop}
end
section
variable {X:Cx}{pins:List (Addr×Obj)}{σ:St}{H:Hp}{s:Shared}{a:Addr}{kvs:List (Key×V)}{k:Key}{u:Value}{A:Around}{E:Value->Shared->Prop}
end
section
variable {X:Cx}{o i e value:Expr}{pos pos' tpos:Pos}{td ty tv:TE}
end
section
variable {X:Cx}{pos:Pos}
end
section
variable {X:Cx}{pins:List (Addr×Obj)}{σ:St}{H:Hp}{s:Shared}{a:Addr}{y d:V}{u r:Value}{o:Option V}{A:Around}{E:Value->Shared->Prop}
end
section
variable {X:Cx}{o e f:Expr}{apos cpos:Pos}{td ty tx:TE}
end
section
variable {X:Cx}{pins:List (Addr×Obj)}{σ:St}{H:Hp}{s:Shared}{a:Addr}{kvs:List (Key×V)}{A:Around}{E:Value->Shared->Prop}
end
section
variable {X:Cx}{pins:List (Addr×Obj)}{σ:St}{H:Hp}{s:Shared}{a:Addr}{y:V}{u:Value}{A:Around}{E:Value->Shared->Prop}
end
end L2
namespace Att
open PySem PySem.W PySem.Calls PyProof.Rows
section
variable {prog:Program}{w:World}{A:Around}{E:Value->Shared->Prop}{s:Shared}{K:Frag}
end
end Att
namespace L2
open PySem PySem.Spec PyProof.Rows
end L2
namespace L2
open PySem PySem.Spec PyProof.Rows
end L2
namespace L2
open PySem PySem.Spec PyProof.Rows
section
variable {P:Program}{w:World}{K:PySem.W.Frag}{mg:Str->Option Value}{base:Heap}
end
section
variable {X:Cx}
end
section
variable {κ:Type} [DecidableEq κ]
end
end L2
namespace PX
open PySem L2
variable {K:Ck}
theorem yDN {α:Type}{l:List α}(h:l.Nodup) {i j:Nat}(hi:i<l.length) (hj:j<l.length) (e:l[i]=l[j]):i=j:=by
 have p:=List.pairwise_iff_getElem.mp h
 rcases Nat.lt_trichotomy i j with z|z|z
 .exact absurd e (p i j hi hj z)
 .exact z
 .exact absurd e.symm (p j i hj hi z)
def yJK (W:Wd) (n:Nat) (a:Addr) (o:HO) (d:Nd):Wd:=⟨W.F,upd W.H a o,W.m,W.h.set n d⟩
theorem yvB {W:Wd}(w:WOk K W) {n:Nat}{d d':Nd}{a:Addr}{o:HO}(e:W.h[n]?=some d) (hm:W.m[n]?=some a) (hF:W.F a=none) (at':NdAt K W.F (upd W.H a o) W.m d' a) (nf:∀ ks xs,d≠.fz ks xs:=by intro _ _ z;cases z):Le K W (yJK W n a o d'):=by
 have hn:n<W.h.length:=(List.getElem?_eq_some_iff.mp e).1
 have ham:a∈W.m:=List.mem_of_getElem? hm
 refine ⟨⟨fun b u q=>?_,by show W.m.length=(W.h.set n d').length;rw [List.length_set];exact w.len,w.nd,fun j dj b e1 e2=>?_⟩,Same.refl _,List.prefix_refl _,fun b u q hb=>?_,fun b u _ _ f=>f,fun b z z'=>absurd z z',fun j ks xs e1=>?_⟩
 .have:b≠a:=ydM q hF
  exact (ybV this).trans (w.le _ _ q)
 .have e1:(W.h.set n d')[j]?=some dj:=e1
  by_cases hj:n=j
  .subst hj
   rw [List.getElem?_set_self hn] at e1
   cases e1
   have e2:W.m[n]?=some b:=e2
   rw [hm] at e2
   cases e2
   exact at'
  .rw [List.getElem?_set_ne hj] at e1
   have e2:W.m[j]?=some b:=e2
   have hb:b≠a:=fun z=>by
    subst z
    have h1:=(List.getElem?_eq_some_iff.mp hm)
    have h2:=(List.getElem?_eq_some_iff.mp e2)
    obtain ⟨l1,q1⟩:=h1
    obtain ⟨l2,q2⟩:=h2
    exact hj (yDN w.nd l1 l2 (q1.trans q2.symm))
   exact (w.at_ j dj b e1 e2).mono (Same.refl _) (List.prefix_refl _) (fun u q=>(ybV hb).trans q) id
 .have:b≠a:=fun z=>hb (z ▸ ham)
  exact (ybV this).trans q
 .have hj:n≠j:=fun z=>by
   subst z
   rw [e] at e1
   cases e1
   exact nf _ _ rfl
  refine ⟨(List.getElem?_set_ne hj).trans e1,fun b e2=>ybV fun z=>?_⟩
  subst z
  obtain ⟨l1,q1⟩:=List.getElem?_eq_some_iff.mp hm
  obtain ⟨l2,q2⟩:=List.getElem?_eq_some_iff.mp e2
  exact hj (yDN w.nd l1 l2 (q1.trans q2.symm))
def ymz:PV->AH->Bool:=fun x h=>match yeM x h with|some _=>true|none=>false
theorem ywK {W:Wd}{x:PV}{v:V}(w:WOk K W) (r:ygI K W x v) (c:ymz x W.h=true):tyV K.K "list" v W.H:=by
 unfold ymz at c
 split at c
 .rename_i xs hx
  obtain ⟨a,vs,rfl,hs,_⟩:=ycg w hx r
  exact .inl ⟨rfl,vs,SqL.of hs⟩
 .cases c
noncomputable def ysj:PM:=fun x ys h=>match x,ys with|.loc n,[y]=>(match h[n]? with|some (.lst xs)=>if xs.length<100000 then some (.non,h.set n (.lst (xs++[y]))) else none|_=>none)|_,_=>none
theorem yDO:ytI K "list" ymz yvd ysj:=by
 refine ⟨fun W x v w r c=>ywK w r c,fun W x v xs vs Q z h' w rx r e q=>?_⟩
 unfold ysj at e
 split at e
 .rename_i n y
  split at e
  .rename_i ys hn
   split at e
   .rename_i hl
    cases e
    obtain ⟨u,rfl,ru⟩:=yvy r
    obtain ⟨a,ev,hm,hf,us,hp,rs⟩:=w.loc hn rx
    refine ⟨a,us,u,ev,rfl,hp,by rw [rs.len];exact big hl,?_⟩
    exact q .non (yJK W n a (.lst (us++[u])) (.lst (ys++[y]))) rfl (yvB w hn hm hf ⟨hf,_,ybX,rs.snoc ru⟩) rfl
   .cases e
  .cases e
 .cases e
noncomputable def yla:PM:=fun x ys h=>match x,ys with|.loc n,[]=>(match h[n]? with|some (.lst _)=>some (.non,h.set n (.lst []))|_=>none)|_,_=>none
theorem ywL:ytI K "list" ymz yDw yla:=by
 refine ⟨fun W x v w r c=>ywK w r c,fun W x v xs vs Q z h' w rx r e q=>?_⟩
 unfold yla at e
 split at e
 .rename_i n
  split at e
  .rename_i ys hn
   cases e
   obtain rfl:vs=[]:=r
   obtain ⟨a,ev,hm,hf,us,hp,rs⟩:=w.loc hn rx
   refine ⟨a,us,ev,rfl,hp,?_⟩
   exact q .non (yJK W n a (.lst []) (.lst [])) rfl (yvB w hn hm hf ⟨hf,_,ybX,rfl⟩) rfl
  .cases e
 .cases e
end PX
namespace PX
open PySem L2
variable {K:Ck}
def itemsOf (x:PV) (h:AH):Option (List PV):=match x with|.tup xs=>some xs|_=>listOf x h
theorem yvC {W:Wd}(w:WOk K W) {x:PV}{v:V}{xs:List PV}(e:itemsOf x W.h=some xs) (r:ygI K W x v):∃ a vs,v=.ref a/\(SqL K.K W.H a vs\/SqT K.K W.H a vs)/\yhm K W xs vs:=by
 unfold itemsOf at e
 split at e
 .cases e
  obtain ⟨a,vs,ev,hs,rs⟩:=r
  exact ⟨a,vs,ev,.inr (yfr w hs),rs⟩
 .obtain ⟨a,vs,ev,hs,rs⟩:=yob w e r
  exact ⟨a,vs,ev,.inl hs,rs⟩
def svs:List PV->Option (List V)
 | []=>some []
 | x::xs=>match sv x,svs xs with|some v,some vs=>some (v::vs)|_,_=>none
theorem yzP {F:Hp}{m:List Addr}:∀ {xs:List PV}{us vs:List V},svs xs=some us->RepL K F m xs vs->vs=us/\us.all ynh=true
 | [],_,_,e,r=>by cases e;exact ⟨r,rfl⟩
 | x::xs,us,_,e,⟨v,r,ev,h,l⟩=>by
  unfold svs at e
  split at e
  .rename_i u us' e1 e2
   cases e
   obtain ⟨h1,h2⟩:=yzP e2 l
   have hv:v=u:=by cases x<;>cases e1<;>exact h
   have hf:ynh u=true:=by cases x<;>cases e1<;>rfl
   exact ⟨by rw [ev,hv,h1],by rw [List.all_cons,hf,h2];rfl⟩
  .cases e
theorem ypE {x:PV}{u:V}(e:sv x=some u):ynh u=true:=by cases x<;>cases e<;>rfl
noncomputable def yzQ (neg:Bool):P2:=fun x y h=>match sv x,itemsOf y h with|some v,some ys=>(match svs ys with|some us=>some (.bl (if neg then !inV v us else inV v us),h)|none=>none)|_,_=>none
theorem yFu {neg:Bool}:yfq K (rIn K.K neg) (yzQ neg):=by
 intro W x y v u Q z h' w rx ry e q
 unfold yzQ at e
 split at e
 .rename_i v' ys ev ey
  split at e
  .rename_i us hu
   cases e
   obtain rfl:=ymq ev rx
   obtain ⟨a,vs,rfl,hs,rs⟩:=yvC w ey ry
   obtain ⟨rfl,hf⟩:=yzP hu rs
   exact ⟨a,vs,rfl,hs,ypE ev,hf,q _ W rfl (.refl w) rfl⟩
  .cases e
 .cases e
def yLj:List V->Hp->VK->Prop:=fun xs H Q=>∃ i j,xs=[.int i,.int j]/\Q (.int (if j>i then j else i)) H
noncomputable def ypF:List PV->AH->Option (PV×AH):=fun xs h=>match xs with|[.int i,.int j]=>some (.int (if j>i then j else i),h)|_=>none
theorem ywM:ypa K yLj ypF:=by
 intro W xs vs Q z h' w r e q
 unfold ypF at e
 split at e
 .rename_i i j
  cases e
  obtain ⟨v,u,rfl,rv,ru⟩:=yMu r
  exact ⟨i,j,by rw [show v=_ from rv,show u=_ from ru],q _ W rfl (.refl w) rfl⟩
 .cases e
end PX
namespace PX
open PySem L2
theorem yLk [i:Decidable True]:decide True=true:=by simp
theorem yLl [i:Decidable False]:decide False=false:=by simp
theorem yLm:(false=true)=False:=by simp
theorem yLn:(true=false)=False:=by simp
theorem yCp {g:XG}{s:XS}{xs:List PV}(I:Nat->PSt->AH->Prop) (R:PV->AH->Prop) {ρ:PSt}{h:AH}(h0:I 0 ρ h)
  (step:∀ (i:Nat) (x:PV) (ρ:PSt) (h:AH),xs[i]?=some x->I i ρ h->∃ ρ1 o h',g x ρ=some ρ1/\s ρ1 h=some (o,h')/\(match o with|.nx ρ'=>I (i+1) ρ' h'|.ct ρ'=>I (i+1) ρ' h'|.bk _=>False|.rt y=>R y h')) :
  (∃ ρ' h',yjZ g s xs ρ h=some (.nx ρ',h')/\I xs.length ρ' h')\/∃ y h',yjZ g s xs ρ h=some (.rt y,h')/\R y h':=by
 have key:∀ (n i:Nat) (ρ:PSt) (h:AH),i+n=xs.length->I i ρ h->(∃ ρ' h',yjZ g s (xs.drop i) ρ h=some (.nx ρ',h')/\I xs.length ρ' h')\/∃ y h',yjZ g s (xs.drop i) ρ h=some (.rt y,h')/\R y h':=by
  intro n
  induction n with
  | zero =>
   intro i ρ h hi hI
   have:i=xs.length:=by omega
   subst this
   rw [List.drop_length]
   exact .inl ⟨ρ,h,rfl,hI⟩
  | succ n ih =>
   intro i ρ h hi hI
   have hlt:i<xs.length:=by omega
   obtain ⟨ρ1,o,h',e1,e2,e3⟩:=step i xs[i] ρ h (List.getElem?_eq_getElem hlt) hI
   rw [List.drop_eq_getElem_cons hlt,yoF,e1,Option.bind_some,e2,yha]
   cases o with
   | nx ρ'=>exact ih (i+1) ρ' h' (by omega) e3
   | ct ρ'=>exact ih (i+1) ρ' h' (by omega) e3
   | bk ρ'=>exact e3.elim
   | rt y=>exact .inr ⟨y,h',rfl,e3⟩
 simpa using key xs.length 0 ρ h (by omega) h0
theorem yFv {g:XG}{s:XS}{xs:List PV}(I:Nat->PSt->AH->Prop) {ρ:PSt}{h:AH}(h0:I 0 ρ h)
  (step:∀ (i:Nat) (x:PV) (ρ:PSt) (h:AH),xs[i]?=some x->I i ρ h->∃ ρ1 ρ' h',g x ρ=some ρ1/\(s ρ1 h=some (.nx ρ',h')\/s ρ1 h=some (.ct ρ',h'))/\I (i+1) ρ' h') :
  ∃ ρ' h',yjZ g s xs ρ h=some (.nx ρ',h')/\I xs.length ρ' h':=by
 rcases yCp I (fun _ _=>False) h0 (fun i x ρ h hx hI=>by
  obtain ⟨ρ1,ρ',h',e1,e2,e3⟩:=step i x ρ h hx hI
  rcases e2 with e2|e2
  .exact ⟨ρ1,.nx ρ',h',e1,e2,e3⟩
  .exact ⟨ρ1,.ct ρ',h',e1,e2,e3⟩) with q|⟨_,_,_,q⟩
 .exact q
 .exact q.elim
theorem yzR {β:Type}{g:XG}{s:XS}{xs:List PV}(I:Nat->PSt->AH->Prop) {ρ:PSt}{h:AH}{f:Out->AH->Option β}{r:Option β}(h0:I 0 ρ h)
  (step:∀ (i:Nat) (x:PV) (ρ:PSt) (h:AH),xs[i]?=some x->I i ρ h->∃ ρ1 ρ' h',g x ρ=some ρ1/\(s ρ1 h=some (.nx ρ',h')\/s ρ1 h=some (.ct ρ',h'))/\I (i+1) ρ' h')
  (fin:∀ ρ' h',I xs.length ρ' h'->f (.nx ρ') h'=r):ob (yjZ g s xs ρ h) f=r:=by
 obtain ⟨ρ',h',e,hI⟩:=yFv I h0 step
 rw [e]
 exact fin ρ' h' hI
theorem ypp {c:XT}{s:XS}{n:Nat}{ρ:PSt}{h:AH}:whl c s (n+1) ρ h=ob (c ρ h) fun k h1=>if k=true then ob (s ρ h1) fun o h2=>(match o with|.nx ρ'=>whl c s n ρ' h2|.ct ρ'=>whl c s n ρ' h2|.bk ρ'=>some (.nx ρ',h2)|.rt y=>some (.rt y,h2)) else some (.nx ρ,h1):=rfl
theorem yzS (lo:Int) (n:Nat):(yzA lo n).length=n:=by simp [yzA]
theorem yFw {lo:Int}{n i:Nat}{x:PV}(h:(yzA lo n)[i]?=some x):i<n/\x=.int (lo+i):=by
 have hl:=(List.getElem?_eq_some_iff.mp h).1
 rw [yzS] at hl
 refine ⟨hl,?_⟩
 simp [yzA,hl] at h
 exact h.symm
theorem yIe {a:XA}{ρ:PSt}{h h1:AH}{j:Int}(e:a ρ h=some ([.int j],h1)) (h0:-1000000000<=j) (h2:j<=1000000000):yHz a ρ h=some (yzA 0 j.toNat,h1):=by
 unfold yHz
 rw [e,yha]
 show (if _ then _ else _)=_
 rw [if_pos ⟨h0,h2⟩]
theorem yvD {α:Type}{e:XE}{inn:PV->PSt}(f g:α->PV):∀ {ts:List α}{h:AH},(∀ t∈ts,e (inn (f t)) h=some (g t,h))->yuW e inn (ts.map f) h=some (ts.map g,h)
 | [],_,_=>rfl
 | t::ts,h,k=>by
  show ob (e (inn (f t)) h) (fun y h1=>ob (yuW e inn (ts.map f) h1) fun ys h2=>some (y::ys,h2))=_
  rw [k t List.mem_cons_self,yha,yvD f g fun y hy=>k y (List.mem_cons_of_mem _ hy),yha]
  rfl
theorem yms {i:Nat}{e:XE}{ρ:PSt}{h:AH}{xs:List PV}(hx:ρ[i]?=some (.own (.lst xs))):ymy i e ρ h=ob (e ρ h) fun x h1=>if xs.length<100000 then some (.nx (ρ.set i (.own (.lst (xs++[x])))),h1) else none:=by
 unfold ymy
 rw [hx]
theorem yxK {α:Type}{a0:α}{xs:List α}:atI (a0::xs) 0=some a0:=ymw (j:=0) rfl
theorem yCq {α:Type}{a0 a1:α}{xs:List α}:atI (a0::a1::xs) 1=some a1:=ymw (j:=1) rfl
theorem yFx {α:Type}{a0 a1 a2:α}{xs:List α}:atI (a0::a1::a2::xs) 2=some a2:=ymw (j:=2) rfl
theorem yFy {α:Type}{a0 a1 a2 a3:α}{xs:List α}:atI (a0::a1::a2::a3::xs) 3=some a3:=ymw (j:=3) rfl
theorem yJL {α:Type}{a0 a1 a2 a3 a4:α}{xs:List α}:atI (a0::a1::a2::a3::a4::xs) 4=some a4:=ymw (j:=4) rfl
theorem ytO {h:AH}{n:Nat}{xs:List PV}(e:h[n]?=some (.lst xs)):yla (.loc n) [] h=some (.non,h.set n (.lst [])):=by
 unfold yla
 simp only [e]
theorem yzT {h:AH}{n:Nat}{xs:List PV}{y:PV}(e:h[n]?=some (.lst xs)) (hl:xs.length<100000):ysj (.loc n) [y] h=some (.non,h.set n (.lst (xs++[y]))):=by
 unfold ysj
 simp only [e]
 rw [if_pos hl]
theorem ynl {h:AH}{n:Nat}{xs:List PV}(e:h[n]?=some (.lst xs)):ymz (.loc n) h=true:=by
 unfold ymz yeM
 simp only [e]
end PX
namespace PX
open PySem L2
variable {K:Ck}
section
variable {ta:TE}{ea:XE}
end
end PX
namespace PX
open PySem L2
variable {K:Ck}
end PX
namespace PX
open PySem L2
variable {K:Ck}
def Odd (K:PySem.W.Frag) (H:Hp):Prop:=∃ a o ob,H a=some o/\K.lookup a=some ob
inductive EqR (K:PySem.W.Frag) (H:Hp):Nat->V->V->Bool->Prop where
 | flat {n:Nat}{x y:V}(fx:ynh x=true) (fy:ynh y=true):EqR K H n x y (eqV x y)
 | same {n:Nat}{a:Addr}:EqR K H n (.ref a) (.ref a) true
 | odd {n:Nat}{x y:V}{b:Bool}(h:Odd K H):EqR K H n x y b
 | nt {n:Nat}{b:Addr}{ys:List V}(hb:SqT K H b ys):EqR K H (n+1) .non (.ref b) false
 | tn {n:Nat}{b:Addr}{ys:List V}(hb:SqT K H b ys):EqR K H (n+1) (.ref b) .non false
 | lst {n:Nat}{a b:Addr}{xs ys:List V}{e:Nat->Bool}(ha:H a=some (.lst xs)) (hb:H b=some (.lst ys)) (hl:xs.length=ys.length) (hne:a≠b) (he:∀ j x y,xs[j]?=some x->ys[j]?=some y->EqR K H n x y (e j)):EqR K H (n+1) (.ref a) (.ref b) ((List.range xs.length).all e)
 | lstN {n:Nat}{a b:Addr}{xs ys:List V}(ha:H a=some (.lst xs)) (hb:H b=some (.lst ys)) (hl:xs.length≠ys.length):EqR K H (n+1) (.ref a) (.ref b) false
 | tup {n:Nat}{a b:Addr}{xs ys:List V}{e:Nat->Bool}(ha:SqT K H a xs) (hb:SqT K H b ys) (hne:a≠b) (he:∀ j x y,xs[j]?=some x->ys[j]?=some y->EqR K H n x y (e j)):EqR K H (n+1) (.ref a) (.ref b) ((List.range (min xs.length ys.length)).all e && xs.length == ys.length)
inductive RcR (K:PySem.W.Frag) (H:Hp):V->V->Bool->Prop where
 | nt {b:Addr}{ys:List V}(hb:SqT K H b ys):RcR K H .non (.ref b) false
 | tn {b:Addr}{ys:List V}(hb:SqT K H b ys):RcR K H (.ref b) .non false
 | lst {a b:Addr}{xs ys:List V}{e:Nat->Bool}(ha:H a=some (.lst xs)) (hb:H b=some (.lst ys)) (hl:xs.length=ys.length) (he:∀ j x y,xs[j]?=some x->ys[j]?=some y->EqR K H 40 x y (e j)):RcR K H (.ref a) (.ref b) ((List.range xs.length).all e)
 | lstN {a b:Addr}{xs ys:List V}(ha:H a=some (.lst xs)) (hb:H b=some (.lst ys)) (hl:xs.length≠ys.length):RcR K H (.ref a) (.ref b) false
 | tup {a b:Addr}{xs ys:List V}{e:Nat->Bool}(ha:SqT K H a xs) (hb:SqT K H b ys) (he:∀ j x y,xs[j]?=some x->ys[j]?=some y->EqR K H 40 x y (e j)):RcR K H (.ref a) (.ref b) ((List.range (min xs.length ys.length)).all e && xs.length == ys.length)
def yMv (K:PySem.W.Frag):R2:=fun x y H Q=>∃ b,RcR K H x y b/\Q (.bl b) H
noncomputable def ytc (f:PV->PV->Option Bool):List PV->List PV->Option Bool
 | x::xs,y::ys=>(match f x y,ytc f xs ys with|some b,some c=>some (b && c)|_,_=>none)
 | _,_=>some true
noncomputable def pairE (f:PV->PV->Option Bool) (h:AH) (x y:PV):Option Bool:=match x,y with
 | .tup xs,.tup ys=>(match ytc f xs ys with|some b=>some (b && xs.length == ys.length)|none=>none)
 | .non,.tup _=>some false
 | .tup _,.non=>some false
 | x,y=>(match yeM x h,yeM y h with|some xs,some ys=>if xs.length=ys.length then ytc f xs ys else some false|_,_=>none)
noncomputable def eqP:Nat->AH->PV->PV->Option Bool
 | 0,_,_,_=>none
 | n+1,h,x,y=>match sv x,sv y with
  | some u,some v=>some (eqV u v)
  | _,_=>pairE (eqP n h) h x y
theorem ywN:∀ {v:V},ynh v=true->eqV v v=true
 | .non,_=>rfl
 | .bl b,_=>by cases b<;>rfl
 | .int i,_=>by simp [eqV]
 | .str s,_=>by simp [eqV]
noncomputable def unV:Value->Option V
 | .none=>some .non
 | .bool b=>some (.bl b)
 | .int i _=>some (.int i)
 | .str x _=>some (.str x)
 | .bytes b _=>some (.byt b)
 | .float b _=>some (.flt b)
 | .ref a=>some (.ref a)
 | .type n=>some (.ty n)
 | _=>none
theorem yDP:∀ {v:V}{u:Value},RelV v u->unV u=some v
 | .non,_,h=>by rw [show _=Value.none from h];rfl
 | .bl _,_,h=>by rw [show _=Value.bool _ from h];rfl
 | .int _,_,⟨_,h⟩=>by rw [h];rfl
 | .str _,_,⟨_,h⟩=>by rw [h];rfl
 | .byt _,_,⟨_,h⟩=>by rw [h];rfl
 | .flt _,_,⟨_,h⟩=>by rw [h];rfl
 | .ref _,_,h=>by rw [show _=Value.ref _ from h];rfl
 | .ty _,_,h=>by rw [show _=Value.type _ from h];rfl
theorem yFz {v w:V}{u:Value}(h1:RelV v u) (h2:RelV w u):v=w:=Option.some.inj ((yDP h1).symm.trans (yDP h2))
theorem yCr {vs ws:List V}{us:List Value}(h1:Vals vs us):Vals ws us->vs=ws:=by
 induction h1 generalizing ws with
 | nil=>intro h2;cases h2;rfl
 | cons r _ ih=>intro h2;cases h2 with|cons r2 t2=>rw [yFz r r2,ih t2]
theorem yIf {F H:Hp}{a:Addr}{vs ws:List V}(s:Same F H) (h1:TpAt K.K F a vs) (h2:TpAt K.K F a ws):vs=ws\/Odd K.K H:=by
 rcases h1 with h1|⟨o,its,n,e1,e2,e3,e4,e5⟩
 .rcases h2 with h2|⟨o,its,n,e1,e2,e3,e4,e5⟩
  .rw [h1] at h2;cases h2;exact .inl rfl
  .exact .inr ⟨a,_,o,s _ _ h1,e1⟩
 .rcases h2 with h2|⟨o',its',n',e1',e2',e3',e4',e5'⟩
  .exact .inr ⟨a,_,o,s _ _ h2,e1⟩
  .rw [e1] at e1';cases e1'
   rw [e3] at e3';cases e3'
   exact .inl (yCr e5 e5')
theorem ypG {f:PV->PV->Option Bool}{W:Wd}(hf:∀ x y v b,f x y=some b->ygI K W x v->ygI K W y v->b=true\/Odd K.K W.H):∀ {xs ys:List PV}{vs:List V}{c:Bool},yhm K W xs vs->yhm K W ys vs->ytc f xs ys=some c->c=true\/Odd K.K W.H
 | [],_,_,_,_,_,e=>by simp [ytc] at e;exact .inl e
 | _::_,[],_,_,_,_,e=>by simp [ytc] at e;exact .inl e
 | x::xs,y::ys,_,c,⟨v,r,e1,h1,l1⟩,⟨u,q,e2,h2,l2⟩,e=>by
  rw [e1] at e2
  cases e2
  unfold ytc at e
  cases eb:f x y with
  | none=>rw [eb] at e;cases e
  | some b =>
   cases ec:ytc f xs ys with
   | none=>rw [eb,ec] at e;cases e
   | some c' =>
    rw [eb,ec] at e
    cases e
    rcases hf x y _ b eb h1 h2 with z|z
    .rcases ypG hf l1 l2 ec with z'|z'
     .exact .inl (by rw [z,z'];rfl)
     .exact .inr z'
    .exact .inr z
theorem yxL {f:PV->PV->Option Bool}{W:Wd}(w:WOk K W) (hf:∀ x y v b,f x y=some b->ygI K W x v->ygI K W y v->b=true\/Odd K.K W.H) {x y:PV}{v:V}{b:Bool}(e:pairE f W.h x y=some b) (rx:ygI K W x v) (ry:ygI K W y v):b=true\/Odd K.K W.H:=by
 unfold pairE at e
 split at e
 .rename_i xs ys
  obtain ⟨a,vs,ev,ha,ra⟩:=rx
  obtain ⟨a',vs',ev',ha',ra'⟩:=ry
  rw [ev] at ev'
  cases ev'
  rcases yIf w.le ha ha' with z|z
  .subst z
   cases ec:ytc f xs ys with
   | none=>rw [ec] at e;cases e
   | some c =>
    rw [ec] at e
    cases e
    rcases ypG hf ra ra' ec with z|z
    .left
     rw [z,<- ra.len,<- ra'.len]
     simp
    .exact .inr z
  .exact .inr z
 .obtain ⟨a',vs',ev',ha',ra'⟩:=ry
  have rx:v=.non:=rx
  rw [rx] at ev';cases ev'
 .obtain ⟨a',vs',ev',ha',ra'⟩:=rx
  have ry:v=.non:=ry
  rw [ry] at ev';cases ev'
 .split at e
  .rename_i xs ys hx hy
   obtain ⟨a,vs,ev,ha,ra⟩:=ycg w hx rx
   obtain ⟨a',vs',ev',ha',ra'⟩:=ycg w hy ry
   rw [ev] at ev'
   cases ev'
   rw [ha] at ha'
   cases ha'
   rw [if_pos (by rw [<- ra.len,<- ra'.len])] at e
   exact ypG hf ra ra' e
  .cases e
theorem ysk {W:Wd}(w:WOk K W):∀ (n:Nat) (x y:PV) (v:V) (b:Bool),eqP n W.h x y=some b->ygI K W x v->ygI K W y v->b=true\/Odd K.K W.H
 | 0,_,_,_,_,e,_,_=>by cases e
 | n+1,x,y,v,b,e,rx,ry=>by
  unfold eqP at e
  split at e
  .rename_i u u' hu hu'
   cases e
   rw [<- ymq hu rx,<- ymq hu' ry]
   exact .inl (ywN (by rw [ymq hu rx];exact ypE hu))
  .exact yxL w (ysk w n) e rx ry
theorem ypH {f:PV->PV->Option Bool}{W:Wd}{n:Nat}(hf:∀ x y v u b,f x y=some b->ygI K W x v->ygI K W y u->EqR K.K W.H n v u b):∀ {xs ys:List PV}{vs us:List V}{c:Bool},yhm K W xs vs->yhm K W ys us->ytc f xs ys=some c ->
  ∃ e:Nat->Bool,(∀ j v u,vs[j]?=some v->us[j]?=some u->EqR K.K W.H n v u (e j))/\c=(List.range (min vs.length us.length)).all e
 | [],_,_,_,c,h1,_,e=>by
  rw [show _=[] from h1]
  simp [ytc] at e
  exact ⟨fun _=>true,fun j v u hv=>by simp at hv,by simp [e]⟩
 | _::_,[],_,_,c,_,h2,e=>by
  rw [show _=[] from h2]
  simp [ytc] at e
  exact ⟨fun _=>true,fun j v u _ hu=>by simp at hu,by simp [e]⟩
 | x::xs,y::ys,_,_,c,⟨v,r,e1,h1,l1⟩,⟨u,q,e2,h2,l2⟩,e=>by
  subst e1 e2
  unfold ytc at e
  cases eb:f x y with
  | none=>rw [eb] at e;cases e
  | some b =>
   cases ec:ytc f xs ys with
   | none=>rw [eb,ec] at e;cases e
   | some c' =>
    rw [eb,ec] at e
    cases e
    obtain ⟨e',k1,k2⟩:=ypH hf l1 l2 ec
    refine ⟨fun j=>match j with|0=>b|j+1=>e' j,fun j v' u' hv hu=>?_,?_⟩
    .cases j with
     | zero =>
      simp at hv hu
      subst hv hu
      exact hf x y _ _ b eb h1 h2
     | succ j=>exact k1 j v' u' (by simpa using hv) (by simpa using hu)
    .rw [k2,List.length_cons,List.length_cons,show min (r.length+1) (q.length+1)=min r.length q.length+1 by omega,List.range_succ_eq_map,List.all_cons,List.all_map]
     rfl
theorem ywO {W:Wd}(w:WOk K W):∀ (n:Nat) (x y:PV) (v u:V) (b:Bool),eqP n W.h x y=some b->ygI K W x v->ygI K W y u->EqR K.K W.H n v u b
 | 0,_,_,_,_,_,e,_,_=>by cases e
 | n+1,x,y,v,u,b,e,rx,ry=>by
  have e0:=e
  unfold eqP at e
  split at e
  .rename_i v' u' hv hu
   cases e
   rw [ymq hv rx,ymq hu ry]
   exact .flat (ypE hv) (ypE hu)
  .unfold pairE at e
   split at e
   .rename_i xs ys _
    obtain ⟨a,vs,ev,ha,ra⟩:=rx
    obtain ⟨a',us,eu,ha',ra'⟩:=ry
    by_cases hab:a=a'
    .subst hab
     rcases ysk w (n+1) _ _ v b e0 ⟨a,vs,ev,ha,ra⟩ (by rw [ev,<- eu];exact ⟨a,us,eu,ha',ra'⟩) with this|z
     .rw [this,ev,eu]
      exact .same
     .exact .odd z
    .cases ec:ytc (eqP n W.h) xs ys with
     | none=>rw [ec] at e;cases e
     | some c =>
      rw [ec] at e
      cases e
      obtain ⟨e',k1,k2⟩:=ypH (ywO w n) ra ra' ec
      rw [ev,eu,k2,<- ra.len,<- ra'.len]
      exact .tup (yfr w ha) (yfr w ha') hab k1
   .obtain ⟨a',us,eu,ha',ra'⟩:=ry
    cases e
    rw [show v=.non from rx,eu]
    exact .nt (yfr w ha')
   .obtain ⟨a',us,eu,ha',ra'⟩:=rx
    cases e
    rw [show u=.non from ry,eu]
    exact .tn (yfr w ha')
   .split at e
    .rename_i xs ys hx hy
     obtain ⟨a,vs,ev,ha,ra⟩:=ycg w hx rx
     obtain ⟨a',us,eu,ha',ra'⟩:=ycg w hy ry
     by_cases hab:a=a'
     .subst hab
      rcases ysk w (n+1) _ _ v b e0 rx (by rw [ev,<- eu];exact ry) with this|z
      .rw [this,ev,eu]
       exact .same
      .exact .odd z
     .split at e
      .rename_i hl
       obtain ⟨e',k1,k2⟩:=ypH (ywO w n) ra ra' e
       have hl':vs.length=us.length:=by rw [ra.len,ra'.len,hl]
       rw [ev,eu,k2,<- hl',Nat.min_self]
       exact .lst ha ha' hl' hab k1
      .rename_i hl
       cases e
       rw [ev,eu]
       exact .lstN ha ha' (by rw [ra.len,ra'.len];exact hl)
    .cases e
def yxM:P2:=fun x y h=>match pairE (eqP 40 h) h x y with|some b=>some (.bl b,h)|none=>none
theorem yCs {W:Wd}(w:WOk K W) {x y:PV}{v u:V}{b:Bool}(e:pairE (eqP 40 W.h) W.h x y=some b) (rx:ygI K W x v) (ry:ygI K W y u):RcR K.K W.H v u b:=by
 unfold pairE at e
 split at e
 .rename_i xs ys
  obtain ⟨a,vs,ev,ha,ra⟩:=rx
  obtain ⟨a',us,eu,ha',ra'⟩:=ry
  cases ec:ytc (eqP 40 W.h) xs ys with
  | none=>rw [ec] at e;cases e
  | some c =>
   rw [ec] at e
   cases e
   obtain ⟨e',k1,k2⟩:=ypH (ywO w 40) ra ra' ec
   rw [ev,eu,k2,<- ra.len,<- ra'.len]
   exact .tup (yfr w ha) (yfr w ha') k1
 .obtain ⟨a',us,eu,ha',ra'⟩:=ry
  cases e
  rw [show v=.non from rx,eu]
  exact .nt (yfr w ha')
 .obtain ⟨a',us,eu,ha',ra'⟩:=rx
  cases e
  rw [show u=.non from ry,eu]
  exact .tn (yfr w ha')
 .split at e
  .rename_i xs ys hx hy
   obtain ⟨a,vs,ev,ha,ra⟩:=ycg w hx rx
   obtain ⟨a',us,eu,ha',ra'⟩:=ycg w hy ry
   split at e
   .rename_i hl
    obtain ⟨e',k1,k2⟩:=ypH (ywO w 40) ra ra' e
    have hl':vs.length=us.length:=by rw [ra.len,ra'.len,hl]
    rw [ev,eu,k2,<- hl',Nat.min_self]
    exact .lst ha ha' hl' k1
   .rename_i hl
    cases e
    rw [ev,eu]
    exact .lstN ha ha' (by rw [ra.len,ra'.len];exact hl)
  .cases e
theorem yvE:yfq K (yMv K.K) yxM:=by
 intro W x y v u Q z h' w rx ry e q
 unfold yxM at e
 split at e
 .rename_i b hb
  cases e
  exact ⟨b,yCs w hb rx ry,q _ W rfl (.refl w) rfl⟩
 .cases e
end PX
namespace PX
open PySem L2
variable {K:Ck}
def ynm:XS:=fun _ _=>none
theorem yCt:yne K yDl ynm:=fun _ _ _ _ _ _ _ _ e _=>by cases e
noncomputable def yA (k:Nat) (m:Str) (f:Fn) (e:XE) (as:XA):XE:=fun ρ h=>ob (e ρ h) fun x h1=>match yjH x h1 with
 | some (k',ns,_)=>if k'=k/\m∉ns then ob (as ρ h1) fun ys h2=>f (x::ys) h2 else none
 | none=>none
theorem ytP {k n:Nat}{m:Str}{f:Fn}{ex:XK}{ta:TE}{t:TA}{ea:XE}{as:XA}(a:yfM K ta ea) (b:ytF K t as) (hn:∀ ρ h xs h',as ρ h=some (xs,h')->xs.length=n) :
  yfM K (yEv (K.A k) m (spE K (n+1) f) [] ex ta t) (yA k m f ea as):=by
 intro W0 W ρ σ Q z h' g e q
 obtain ⟨x,h1,e1,f1⟩:=yq e
 refine a W0 W ρ σ _ x h1 g e1 fun v W1 w1 l1 r1=>?_
 subst w1
 split at f1
 .rename_i k' ns xs hi
  split at f1
  .rename_i hc
   obtain ⟨ys,h2,e2,f2⟩:=yq f1
   obtain ⟨p,dx,vs,ev,hp,hl,rs⟩:=ynk l1.ok hi r1
   rw [hc.1] at hp
   refine ⟨p,dx,_,ev,hp,yit hc.2,?_⟩
   refine b W0 W1 ρ σ _ ys h2 (g.step l1) e2 fun us W2 w2 l2 r2=>?_
   subst w2
   rw [List.append_nil]
   exact ⟨W2,x::ys,z,h',rfl,l2.ok,⟨v,us,rfl,l2.rep r1,r2⟩,by rw [List.length_cons,hn _ _ _ _ e2],f2,fun u W3 w3 l3 r3=>q u W3 w3 ((l1.trans l2).trans l3) r3⟩
  .cases f1
 .cases f1
noncomputable def yzU (cs:List Nat) (f:Str) (eo ev:XE):XS:=fun ρ h=>ob (ev ρ h) fun y h1=>ob (eo ρ h1) fun x h2=>match x with
 | .loc n=>(match h2[n]? with|some (.ins k ns xs)=>if k∈cs/\ns.length<1000 then some (.nx ρ,h2.set n (.ins k (putN f y ns xs).1 (putN f y ns xs).2)) else none|_=>none)
 | _=>none
theorem yCu {cs:List Nat}{f:Str}{ta tv:TE}{ea ev:XE}(hc:∀ k∈cs,Cls K.K (K.A k)/\NoAttr K.K (K.A k) f) (a:yfM K ta ea) (c:yfM K tv ev):yne K (yJW K.K ta tv f) (yzU cs f ea ev):=by
 intro W0 W ρ σ D o h' g e q
 obtain ⟨y,h1,e1,f1⟩:=yq e
 obtain ⟨x,h2,e2,f2⟩:=yq f1
 refine c W0 W ρ σ _ y h1 g e1 fun vy W1 w1 l1 r1=>?_
 subst w1
 refine a W0 W1 ρ σ _ x h2 (g.step l1) e2 fun vx W2 w2 l2 r2=>?_
 subst w2
 have w:=l2.ok
 split at f2
 .rename_i n
  split at f2
  .rename_i k ns xs hn
   split at f2
   .rename_i hk
    cases f2
    obtain ⟨p,ep,hm,hf,dx,us,hp,hl,rs⟩:=w.loc hn r2
    obtain ⟨us',p1,p2,p3⟩:=rs.putN (f:=f) hl (l2.rep r1)
    refine ⟨p,_,dx,_,ep,hp,(hc k hk.1).1,(hc k hk.1).2,by rw [List.length_zip,hl];simpa using hk.2,?_⟩
    rw [p1]
    have l4:Le K W2 (yJK W2 n p (.ins (K.A k) dx ((putN f y ns xs).1.zip us')) (.ins k (putN f y ns xs).1 (putN f y ns xs).2)):=yvB w hn hm hf ⟨hf,dx,us',ybX,p2,p3⟩
    have l:=l1.trans (l2.trans l4)
    exact q _ σ rfl l.lf (g.step l)
   .cases f2
  .cases f2
 .cases f2
end PX
namespace PX
open PySem L2
variable {K:Ck}
end PX
namespace PX
open PySem L2
variable {K:Ck}
noncomputable def yzV (n:Nat) (rev:Bool) (g:XG) (s:XS):Nat->Nat->PSt->AH->Option (Out×AH)
 | 0,i,ρ,h=>match h[n]? with|some (.lst xs)=>if xs.length=i then some (.nx ρ,h) else none|_=>none
 | k+1,i,ρ,h=>match h[n]? with
  | some (.lst xs)=>(match xs[if rev then k else i]? with
   | some x=>(g x ρ).bind fun ρ1=>ob (s ρ1 h) fun o h1=>match o with|.nx ρ'=>yzV n rev g s k (i+1) ρ' h1|.ct ρ'=>yzV n rev g s k (i+1) ρ' h1|.bk ρ'=>some (.nx ρ',h1)|.rt y=>some (.rt y,h1)
   | none=>none)
  | _=>none
noncomputable def yxN (rev:Bool) (e:XE) (g:XG) (s:XS):XS:=fun ρ h=>ob (e ρ h) fun x h1=>match x with
 | .loc n=>(match h1[n]? with|some (.lst xs)=>yzV n rev g s xs.length 0 ρ h1|_=>none)
 | _=>none
structure ItX (K:Ck) (n:Nat) (rev:Bool) (m:Nat) (a:Addr) (J:It):Prop where
 go:∀ (i:Nat) (H:Hp) (vs:List V) (v:V),H a=some (.lst vs)->i<m->vs[if rev then m-1-i else i]?=some v->J.go i H
 yld:∀ (i:Nat) (H:Hp) (vs:List V) (v:V) (H2:Hp),H a=some (.lst vs)->i<m->J.yld i H v H2->H2=H/\vs[if rev then m-1-i else i]?=some v
 stop:∀ (H:Hp) (vs:List V),H a=some (.lst vs)->vs.length=m->J.stop m H
section
variable {ta:TE}{ea:XE}{t:TS}{s:XS}
theorem yzW {n:Nat}{xs:List PV}{p:Addr}{us:List V}{J:It}{rev:Bool}{g:TG}{y:XG}(b:yBj K g y) (c:yne K t s) {W0 W W1:Wd}{ρ:PSt}{σ:St}{D:Ends}{o:Out}{h':AH}(gd:Good K W0 W ρ σ) (l1:Le K W W1) (q:Ends.Ok K W0 W D h' o)
  (f1:yzV n rev y s xs.length 0 ρ W1.h=some (o,h')) (hn:W1.h[n]?=some (.lst xs)) (hm:W1.m[n]?=some p) (rs:yhm K W1 xs us) (J1:ItX K n rev us.length p J) :
  ∃ Z:Nat->Nat->St->Hp->Prop,(∃ m,Z 0 m σ W1.H)/\∀ i m σ H,Z i m σ H ->
   (J.stop i H/\D.nx σ H)\/(J.go i H/\∃ N:St->Hp->Prop,(∀ σ' H',N σ' H'->∃ m',m'<m/\Z (i+1) m' σ' H')/\∀ x H',J.yld i H x H'->g x σ H' fun σ2 H2=>t { D with nx:=N,ct:=N,bk:=D.nx } σ2 H2):=by
   have q1:=q.from_ l1.lf
   have hul:us.length=xs.length:=rs.len
   rw [hul] at J1
   refine ⟨fun i m σ H=>m=xs.length-i/\i<=xs.length/\∃ W' ρ',W'.H=H/\Lf K W1 W'/\Good K W0 W' ρ' σ/\yzV n rev y s (xs.length-i) i ρ' W'.h=some (o,h'),⟨_,rfl,Nat.zero_le _,W1,ρ,rfl,.refl,gd.step l1,f1⟩,?_⟩
   rintro i m σ _ ⟨rfl,hi,W',ρ',rfl,l,g',f⟩
   have hm':W'.m[n]?=some p:=ynY l.pre hm
   by_cases hlt:i<xs.length
   .obtain ⟨k,hk⟩:∃ k,xs.length-i=k+1:=⟨xs.length-i-1,by omega⟩
    rw [hk] at f
    unfold yzV at f
    split at f
    .rename_i ys hy
     split at f
     .rename_i z hz
      obtain ⟨p',ev',hm2,hf',vs,hp',rs'⟩:=g'.ok.loc hy (v:=.ref p) ⟨p,rfl,hm'⟩
      cases ev'
      have hix:(if rev=true then xs.length-1-i else i)=(if rev=true then k else i):=by rw [show xs.length-1-i=k by omega]
      obtain ⟨vz,hv1,hv2⟩:=rs'.get hz
      obtain ⟨ρ1,k1,f⟩:=Option.bind_eq_some_iff.mp f
      obtain ⟨o1,h2,k2,f3⟩:=yq f
      refine .inr ⟨J1.go i W'.H vs vz hp' hlt (by rw [hix];exact hv1),fun σ2 H2=>i+1<=xs.length/\∃ W2 ρ2,W2.H=H2/\Lf K W1 W2/\Good K W0 W2 ρ2 σ2/\yzV n rev y s (xs.length-(i+1)) (i+1) ρ2 W2.h=some (o,h'),fun σ2 H2 ⟨n1,n2⟩=>⟨xs.length-(i+1),by omega,rfl,n1,n2⟩,fun v H2 hy=>?_⟩
      obtain ⟨rfl,hx⟩:=J1.yld i W'.H vs v H2 hp' hlt hy
      rw [hix,hv1] at hx
      cases hx
      have ek:xs.length-(i+1)=k:=by omega
      refine b W0 W' ρ' ρ1 σ _ vz _ g' hv2 k1 fun σ2 g2=>?_
      refine c W0 W' ρ1 σ2 _ o1 h2 g2 k2 ?_
      cases o1 with
      | nx ρ2=>exact fun W2 σ3 w2 l2 g3=>⟨hlt,W2,ρ2,rfl,l.trans l2,g3,by rw [w2,ek];exact f3⟩
      | ct ρ2=>exact fun W2 σ3 w2 l2 g3=>⟨hlt,W2,ρ2,rfl,l.trans l2,g3,by rw [w2,ek];exact f3⟩
      | bk ρ2=>cases f3;exact fun W2 σ3 w2 l2 g3=>q1 W2 σ3 w2 (l.trans l2) g3
      | rt x=>cases f3;exact q1
     .cases f
    .cases f
   .have ei:i=xs.length:=by omega
    subst ei
    rw [Nat.sub_self] at f
    unfold yzV at f
    split at f
    .rename_i ys hy
     obtain ⟨p',ev',hm2,hf',vs,hp',rs'⟩:=g'.ok.loc hy (v:=.ref p) ⟨p,rfl,hm'⟩
     cases ev'
     split at f
     .rename_i hyl
      cases f
      exact .inl ⟨J1.stop W'.H vs hp' (by rw [rs'.len,hyl]),q1 W' σ rfl l g'⟩
     .cases f
    .cases f
theorem yLo {n m:Nat}{a:Addr}:ItX K n false m a (Itl K.K a) where
 go:=fun i H vs v h _ e=>⟨vs,v,SqL.of h,e⟩
 yld:=fun i H vs v H2 h _ e=>⟨e.1,e.2 vs (SqL.of h)⟩
 stop:=fun H vs h e=>⟨vs,SqL.of h,Nat.le_of_eq e⟩
theorem yCv {g:TG}{y:XG}(a:yfM K ta ea) (b:yBj K g y) (c:yne K t s):yne K (yJE (yEm K.K ta) g t) (yxN false ea y s):=by
 intro W0 W ρ σ D o h' gd e q
 obtain ⟨x,h1,e1,f1⟩:=yq e
 refine a W0 W ρ σ _ x h1 gd e1 fun v W1 w1 l1 r1=>?_
 subst w1
 split at f1
 .rename_i n
  split at f1
  .rename_i xs hn
   obtain ⟨p,ev,hm,hf,us,hp,rs⟩:=l1.ok.loc hn r1
   exact ⟨p,ev,⟨us,SqL.of hp⟩,yzW b c gd l1 q f1 hn hm rs yLo⟩
  .cases f1
 .cases f1
end
end PX
namespace PX
open PySem L2
variable {K:Ck}
end PX
namespace PX
open PySem L2
variable {K:Ck}
end PX
namespace PX
open PySem L2
variable {K:Ck}
end PX
namespace PX
open PySem L2
variable {K:Ck}
section
variable {ta:TE}{ea:XE}{t:TS}{s:XS}
end
end PX
namespace PX
open PySem L2
variable {K:Ck}
theorem yCw {a:Addr}{ss:List Str}(h:KTp K.K a (ss.map V.str)):yfM K (tC (.ref a)) (xC (.tup (ss.map PV.str))):=by
 intro W0 W ρ σ Q x h' g e q
 cases e
 refine q _ W rfl (.refl g.ok) ⟨a,_,rfl,.inr h,?_⟩
 clear h q
 induction ss with
 | nil=>exact rfl
 | cons s ss ih=>exact ⟨_,_,rfl,rfl,ih⟩
end PX
namespace PX
open PySem L2
variable {K:Ck}
end PX
namespace PX
open PySem L2
variable {K:Ck}
end PX
namespace PX
open PySem L2
variable {K:Ck}
noncomputable def yzX (c:Nat):List Nat->List (List Nat)
 | []=>[[]]
 | k::r=>if k=c then []::yzX c r else match yzX c r with|[]=>[[k]]|w::ws=>(k::w)::ws
theorem ytQ {c:Nat}:∀ {w:List Nat},c∉w->yzX c w=[w]
 | [],_=>rfl
 | k::r,h=>by
  have h1:k≠c:=fun z=>h (z ▸ List.mem_cons_self ..)
  unfold yzX
  rw [if_neg h1,ytQ fun z=>h (List.mem_cons_of_mem _ z)]
theorem ywP {c:Nat}:∀ {w r:List Nat},c∉w->yzX c (w++c::r)=w::yzX c r
 | [],r,_=>by
  rw [List.nil_append]
  show (if c=c then []::yzX c r else _)=_
  rw [if_pos rfl]
 | k::w,r,h=>by
  have h1:k≠c:=fun z=>h (z ▸ List.mem_cons_self ..)
  rw [List.cons_append]
  show (if k=c then []::yzX c (w++c::r) else match yzX c (w++c::r) with|[]=>[[k]]|w::ws=>(k::w)::ws)=_
  rw [if_neg h1,ywP fun z=>h (List.mem_cons_of_mem _ z)]
def yzY (z:Str):List Str:=(yzX 32 z.cps.toList).map fun w=>⟨w.toArray⟩
theorem ypI:∀ (ws:List Str),ws≠[]->(∀ w∈ws,32∉w.cps.toList)->yzY (Str.join " " ws)=ws
 | [],h,_=>absurd rfl h
 | [w],_,h=>by
  have h1:=ytQ (h w (List.mem_singleton.mpr rfl))
  show (yzX 32 w.cps.toList).map _=_
  rw [h1];rfl
 | w::v::r,_,h=>by
  have ih:=ypI (v::r) (fun z=>by cases z) fun u hu=>h u (List.mem_cons_of_mem _ hu)
  show yzY (w++" "++Str.join " " (v::r))=_
  have e:(w++(" ":Str)++Str.join " " (v::r)).cps.toList=w.cps.toList++32::(Str.join " " (v::r)).cps.toList:=by
   show (w.cps++(" ":Str).cps++(Str.join " " (v::r)).cps).toList=_
   rw [show (" ":Str).cps = #[32] by rfl']
   simp
  unfold yzY at ih ⊢
  rw [e,ywP (h w (List.mem_cons_self ..)),List.map_cons,ih]
noncomputable def yDQ:V->List V->Hp->VK->Prop:=fun x vs H Q=>∃ z:Str,x=.str z/\vs=[.str " "]/\z.length<=100000/\∀ p,H p=none->Q (.ref p) (upd H p (.lst ((yzY z).map V.str)))
noncomputable def ytR:PM:=fun x xs h=>match x,xs with|.str z,[.str y]=>if y = " "/\z.length<=100000 then some (.lst ((yzY z).map .str),h) else none|_,_=>none
theorem RepL.of_strs {F:Hp}{m:List Addr}:∀ (ts:List Str),RepL K F m (ts.map PV.str) (ts.map V.str)
 | []=>rfl
 | _::ts=>⟨_,_,rfl,rfl,RepL.of_strs ts⟩
theorem m_split:ytI K "str" isStr yDQ ytR:=by
 refine ⟨fun W x v w r c=>?_,fun W x v xs vs Q z h' w rx r e q=>?_⟩
 .unfold isStr at c
  split at c
  .rw [show v=_ from r];rfl
  .cases c
 .unfold ytR at e
  split at e
  .rename_i z y
   split at e
   .rename_i c
    cases e
    obtain ⟨u,rfl,ru⟩:=yvy r
    have ru:u=.str y:=ru
    refine ⟨z,rx,by rw [ru,c.1],c.2,fun p hp=>?_⟩
    have l2:=yvu (o:=.lst ((yzY z).map V.str)) w hp
    exact q (.ref p) (yDB W p (.lst ((yzY z).map V.str))) rfl l2 ⟨p,_,rfl,ybX,RepL.of_strs _⟩
   .cases e
  .cases e
theorem yFA {z:Str}{h:AH}(e:z.length<=100000):ytR (.str z) [.str " "] h=some (.lst ((yzY z).map .str),h):=by
 unfold ytR;exact if_pos ⟨rfl,e⟩
def yIg:List V->Hp->VK->Prop:=fun xs H Q=>yKm xs H Q\/∃ z,xs=[.str z]/\Q (.str z) H
noncomputable def yvF:List PV->AH->Option (PV×AH):=fun xs h=>match xs with|[.int i]=>if i.natAbs.log2<1920 then some (.str (toString i:String),h) else none|[.str z]=>some (.str z,h)|_=>none
theorem yIh:ypa K yIg yvF:=by
 intro W xs vs Q z h' w r e q
 unfold yvF at e
 split at e
 .rename_i i
  split at e
  .rename_i hl
   cases e
   obtain ⟨v,rfl,rx⟩:=yvy r
   exact .inl ⟨i,by rw [show v=_ from rx],hl,q _ W rfl (.refl w) rfl⟩
  .cases e
 .rename_i z
  cases e
  obtain ⟨v,rfl,rx⟩:=yvy r
  exact .inr ⟨z,by rw [show v=_ from rx],q _ W rfl (.refl w) rfl⟩
 .cases e
theorem yFB {k:Int}{h:AH}:yvF [.int k] h=if k.natAbs.log2<1920 then some (.str (toString k:String),h) else none:=id rfl
def yBl:List PV->List PV->List PV
 | x::xs,y::ys=>.tup [x,y]::yBl xs ys
 | _,_=>[]
noncomputable def xIZ (a:XA):XA:=fun ρ h=>ob (a ρ h) fun vs h1=>match vs with|[.lst xs,.lst ys]=>if xs.length=ys.length then some (yBl xs ys,h1) else none|_=>none
noncomputable def Itz (K:PySem.W.Frag) (a b:Addr):It :=
  ⟨fun i H=>∃ xs ys x y,SqL K H a xs/\SqL K H b ys/\xs[i]?=some x/\ys[i]?=some y,
   fun i H v H'=>∃ p x y,H p=none/\v=.ref p/\H'=upd H p (.tup [x,y])/\(∀ xs,SqL K H a xs->xs[i]?=some x)/\∀ ys,SqL K H b ys->ys[i]?=some y,
   fun i H=>∃ xs ys,SqL K H a xs/\SqL K H b ys/\xs.length<=i⟩
noncomputable def yMw (K:PySem.W.Frag) (t:TA):TI:=fun σ H R=>t σ H fun vs H1=>∃ a b,vs=[.ref a,.ref b]/\(∃ xs,SqL K H1 a xs)/\(∃ ys,SqL K H1 b ys)/\R (Itz K a b) H1
theorem ywQ:∀ {xs ys:List PV}{i:Nat}{x y:PV},xs[i]?=some x->ys[i]?=some y->(yBl xs ys)[i]?=some (.tup [x,y])
 | x::xs,y::ys,0,_,_,e,f=>by simp at e f;subst e;subst f;rfl
 | x::xs,y::ys,i+1,_,_,e,f=>by
  show (yBl xs ys)[i]?=_
  exact ywQ (by simpa using e) (by simpa using f)
theorem ysl:∀ {xs ys:List PV},xs.length=ys.length->(yBl xs ys).length=xs.length
 | [],[],_=>rfl
 | x::xs,y::ys,e=>by
  show (yBl xs ys).length+1=_
  rw [ysl (by simpa using e)];rfl
structure yLp (K:Ck) (W:Wd) (J:It) (xs:List PV):Prop where
 go:∀ (i:Nat) (W':Wd),Lf K W W'->WOk K W'->i<xs.length->J.go i W'.H
 yld:∀ (i:Nat) (W':Wd) (v:V) (H2:Hp),Lf K W W'->WOk K W'->i<xs.length->J.yld i W'.H v H2->∃ W2,W2.H=H2/\W2.h=W'.h/\Le K W' W2/\∃ x,xs[i]?=some x/\ygI K W2 x v
 stop:∀ (W':Wd),Lf K W W'->WOk K W'->J.stop xs.length W'.H
noncomputable def yIi (K:Ck) (wi:TI) (e:XA):Prop:=∀ (W0 W:Wd) (ρ:PSt) (σ:St) (R:It->Hp->Prop) (xs:List PV) (h':AH),Good K W0 W ρ σ->e ρ W.h=some (xs,h')->(∀ J W',W'.h=h'->Le K W W'->yLp K W' J xs->R J W'.H)->wi σ W.H R
theorem yCx {t:TA}{e:XA}(a:ytF K t e):yIi K (yMw K.K t) (xIZ e):=by
 intro W0 W ρ σ R xs h' g e q
 obtain ⟨ys,h1,e1,f1⟩:=yq e
 split at f1
 .rename_i us ws
  split at f1
  .rename_i hl
   cases f1
   refine a W0 W ρ σ _ _ _ g e1 fun vs W1 w1 l1 r1=>?_
   obtain ⟨v,r,rfl,⟨p,ps,rfl,hp,rp⟩,v2,r2,rfl,⟨p',ps',rfl,hp',rp'⟩,rr⟩:=r1
   obtain rfl:r2=[]:=rr
   have up:∀ {W':Wd}{b:Addr}{zs:List V},Lf K W1 W'->WOk K W'->W1.F b=some (.lst zs)->SqL K.K W'.H b zs:=fun l w hb=>yjw w (Same.seq l.fs (SqL.of hb))
   refine ⟨p,p',rfl,⟨ps,yjw l1.ok (SqL.of hp)⟩,⟨ps',yjw l1.ok (SqL.of hp')⟩,q _ W1 w1 l1 ⟨fun i W' l w hi=>?_,fun i W' v' H2 l w hi hy=>?_,fun W' l w=>?_⟩⟩
   .rw [ysl hl] at hi
    obtain ⟨x,hx,_⟩:=rp.get (List.getElem?_eq_getElem hi)
    obtain ⟨y,hy,_⟩:=rp'.get (List.getElem?_eq_getElem (hl ▸ hi))
    exact ⟨ps,ps',x,y,up l w hp,up l w hp',hx,hy⟩
   .obtain ⟨b,x,y,hb,rfl,rfl,k1,k2⟩:=hy
    obtain ⟨x',hx,rx⟩:=rp.get' (k1 ps (up l w hp))
    obtain ⟨y',hy,ry⟩:=rp'.get' (k2 ps' (up l w hp'))
    have l2:=yvu (o:=.tup [x,y]) w hb
    exact ⟨yDB W' b (.tup [x,y]),rfl,rfl,l2,.tup [x',y'],ywQ hx hy,b,[x,y],rfl,.inl ybX,x,[y],rfl,l2.rep (l.rep rx),y,[],rfl,l2.rep (l.rep ry),rfl⟩
   .exact ⟨ps,ps',up l w hp,up l w hp',by rw [rp.len,ysl hl];exact Nat.le_refl _⟩
  .cases f1
 .cases f1
variable {t:TS}{s:XS}
theorem yCy {wi:TI}{it:XA}{g:TG}{y:XG}(a:yIi K wi it) (b:yBj K g y) (c:yne K t s):yne K (yJE wi g t) (ytb it y s):=by
 intro W0 W ρ σ D o h' gd e q
 obtain ⟨xs,h1,e1,f1⟩:=yq e
 refine a W0 W ρ σ _ xs h1 gd e1 fun J W1 w1 l1 J1=>?_
 subst w1
 have q1:=q.from_ l1.lf
 refine ⟨fun i m σ H=>m=xs.length-i/\i<=xs.length/\∃ W' ρ',W'.H=H/\Lf K W1 W'/\Good K W0 W' ρ' σ/\yjZ y s (xs.drop i) ρ' W'.h=some (o,h'),⟨_,rfl,Nat.zero_le _,W1,ρ,rfl,.refl,gd.step l1,by simpa using f1⟩,?_⟩
 rintro i m σ _ ⟨rfl,hi,W',ρ',rfl,l,g',f⟩
 by_cases hlt:i<xs.length
 .rw [List.drop_eq_getElem_cons hlt] at f
  obtain ⟨ρ1,k1,f⟩:=Option.bind_eq_some_iff.mp f
  obtain ⟨o1,h2,k2,f3⟩:=yq f
  refine .inr ⟨J1.go i W' l g'.ok hlt,fun σ2 H2=>i+1<=xs.length/\∃ W2 ρ2,W2.H=H2/\Lf K W1 W2/\Good K W0 W2 ρ2 σ2/\yjZ y s (xs.drop (i+1)) ρ2 W2.h=some (o,h'),fun σ2 H2 ⟨n1,n2⟩=>⟨xs.length-(i+1),by omega,rfl,n1,n2⟩,fun v H2 hy=>?_⟩
  obtain ⟨Wz,rfl,eh,lz,x,hx,rx⟩:=J1.yld i W' v H2 l g'.ok hlt hy
  rw [List.getElem?_eq_getElem hlt] at hx
  cases hx
  rw [<- eh] at k2
  refine b W0 Wz ρ' ρ1 σ _ v _ (g'.step lz) rx k1 fun σ2 g2=>?_
  refine c W0 Wz ρ1 σ2 _ o1 h2 g2 k2 ?_
  have l:=l.trans lz.lf
  cases o1 with
  | nx ρ2=>exact fun W2 σ3 w2 l2 g3=>⟨hlt,W2,ρ2,rfl,l.trans l2,g3,by rw [w2];exact f3⟩
  | ct ρ2=>exact fun W2 σ3 w2 l2 g3=>⟨hlt,W2,ρ2,rfl,l.trans l2,g3,by rw [w2];exact f3⟩
  | bk ρ2=>cases f3;exact fun W2 σ3 w2 l2 g3=>q1 W2 σ3 w2 (l.trans l2) g3
  | rt x=>cases f3;exact q1
 .have ei:i=xs.length:=by omega
  subst ei
  refine .inl ⟨J1.stop W' l g'.ok,?_⟩
  rw [List.drop_length] at f
  cases f
  exact q1 W' σ rfl l g'
theorem yFC {i j:Nat}{ta:TA}{ea:XA}(a:ytF K ta ea):yne K (yMc i j ta) (ydI (ysc ea) (yyF 2 (ykY (yw i) (ykY (yw j) yBh)))):=by
 intro W0 W ρ σ D o h' gd e q
 obtain ⟨x,h1,e1,f1⟩:=yq e
 obtain ⟨ρ',e2,f2⟩:=Option.bind_eq_some_iff.mp f1
 cases f2
 obtain ⟨xs,h2,e3,f3⟩:=yq e1
 split at f3
 .cases f3
  refine a W0 W ρ σ _ xs _ gd e3 fun vs W1 w1 l1 r1=>?_
  unfold yyF at e2
  simp only at e2
  split at e2
  .match xs,e2,r1 with
   | [x,y],e2,r1 =>
    cases e2
    obtain ⟨v,_,rfl,rv,w,_,rfl,rw,rr⟩:=r1
    obtain rfl:_=[]:=rr
    exact ⟨v,w,rfl,q W1 _ w1 l1.lf (((gd.step l1).set i rv).set j rw)⟩
   | [],e2,_=>cases e2
   | [_],e2,_=>cases e2
   | _::_::_::_,e2,_=>cases e2
  .cases e2
 .cases f3
end PX
namespace PX
open PySem L2
variable {K:Ck}
mutual
noncomputable def clean:PV->Bool
 | .loc _=>false
 | .lst xs=>yeI xs
 | .tup xs=>yeI xs
 | .ins _ _ xs=>yeI xs
 | _=>true
noncomputable def yeI:List PV->Bool
 | []=>true
 | x::xs=>clean x && yeI xs
end
noncomputable def ydi (f:PV->Option PV):List PV->Option (List PV)
 | []=>some []
 | x::xs=>match f x,ydi f xs with|some y,some ys=>some (y::ys)|_,_=>none
noncomputable def see:Nat->AH->PV->Option PV
 | 0,_,x=>if clean x=true then some x else none
 | n+1,h,x=>match x with
  | .loc m=>(match h[m]? with|some (.lst xs)=>(ydi (see n h) xs).map .lst|some (.ins k ns xs)=>(ydi (see n h) xs).map (.ins k ns)|_=>none)
  | x=>if clean x=true then some x else none
def yIj:PV->Bool
 | .bl _=>true
 | .int _=>true
 | .str _=>true
 | .non=>true
 | _=>false
noncomputable def yrA (f:Fn) (a:XA):XE:=fun ρ h=>ob (a ρ h) fun xs h1=>match ydi (see 3 h1) xs with|some ys=>(match f ys [] with|some (r,_)=>if yIj r=true then some (r,h1) else none|none=>none)|none=>none
section
variable {F H:Hp}{m:List Addr}
mutual
theorem ypJ (s:Same F H):∀ (x:PV) (v:V),clean x=true->Rep K F m x v->Rep K H [] x v
 | .non,_,_,h=>h
 | .bl _,_,_,h=>h
 | .int _,_,_,h=>h
 | .str _,_,_,h=>h
 | .ty _,_,_,h=>h
 | .cls _,_,_,h=>h
 | .scr _,_,_,⟨a,e,h⟩=>⟨a,e,s.seq h⟩
 | .lst xs,_,c,⟨a,vs,e,h,r⟩=>⟨a,vs,e,s _ _ h,ylP s xs vs c r⟩
 | .tup xs,_,c,⟨a,vs,e,h,r⟩=>⟨a,vs,e,h.mono s,ylP s xs vs c r⟩
 | .ins _ _ xs,_,c,⟨a,dx,vs,e,h,l,r⟩=>⟨a,dx,vs,e,s _ _ h,l,ylP s xs vs c r⟩
 | .loc _,_,c,_=>by cases c
theorem ylP (s:Same F H):∀ (xs:List PV) (vs:List V),yeI xs=true->RepL K F m xs vs->RepL K H [] xs vs
 | [],_,_,h=>h
 | x::xs,_,c,⟨v,r,e,h,l⟩=>by
  have c:(clean x && yeI xs)=true:=c
  rw [Bool.and_eq_true] at c
  exact ⟨v,r,e,ypJ s x v c.1 h,ylP s xs r c.2 l⟩
end
end
theorem ylQ {W:Wd}{f:PV->Option PV}(hf:∀ x y v,f x=some y->ygI K W x v->Rep K W.H [] y v):∀ {xs ys:List PV}{vs:List V},ydi f xs=some ys->yhm K W xs vs->RepL K W.H [] ys vs/\ys.length=xs.length
 | [],_,_,e,h=>by cases e;exact ⟨h,rfl⟩
 | x::xs,ys,_,e,⟨v,r,ev,h,l⟩=>by
  unfold ydi at e
  split at e
  .rename_i y zs e1 e2
   cases e
   obtain ⟨h1,h2⟩:=ylQ hf e2 l
   exact ⟨⟨v,r,ev,hf x y v e1 h,h1⟩,by rw [List.length_cons,List.length_cons,h2]⟩
  .cases e
theorem yFD {W:Wd}(w:WOk K W):∀ (n:Nat) (x y:PV) (v:V),see n W.h x=some y->ygI K W x v->Rep K W.H [] y v:=by
 intro n
 induction n with
 | zero =>
  intro x y v e r
  unfold see at e
  split at e
  .rename_i c
   cases e
   exact ypJ w.le _ v c r
  .cases e
 | succ n ih =>
  intro x y v e r
  unfold see at e
  split at e
  .rename_i q
   obtain ⟨a,ev,em⟩:=r
   split at e
   .rename_i xs hn
    obtain ⟨ys,e1,rfl⟩:=Option.map_eq_some_iff.mp e
    obtain ⟨hf,vs,hv,rs⟩:=w.at_ _ _ _ hn em
    exact ⟨a,vs,ev,hv,(ylQ ih e1 rs).1⟩
   .rename_i k ns xs hn
    obtain ⟨ys,e1,rfl⟩:=Option.map_eq_some_iff.mp e
    obtain ⟨hf,dx,vs,hv,hl,rs⟩:=w.at_ _ _ _ hn em
    exact ⟨a,dx,vs,ev,hv,hl,(ylQ ih e1 rs).1⟩
   .cases e
  .split at e
   .rename_i c
    cases e
    exact ypJ w.le _ v c r
   .cases e
variable {t:TA}{e:XA}
theorem yzZ {n:Nat}{f:Fn}{ex:XK}(a:ytF K t e) (hn:∀ ρ h xs h',e ρ h=some (xs,h')->xs.length=n):yfM K (yEu (spE K n f) [] ex t) (yrA f e):=by
 intro W0 W ρ σ Q z h' g e' q
 obtain ⟨xs,h1,e1,e2⟩:=yq e'
 refine a W0 W ρ σ _ xs h1 g e1 fun vs W1 w1 l1 r1=>?_
 subst w1
 rw [List.append_nil]
 split at e2
 .rename_i ys hy
  split at e2
  .rename_i r h2 hf
   split at e2
   .rename_i hs
    cases e2
    obtain ⟨p1,p2⟩:=ylQ (yFD l1.ok 3) hy r1
    refine ⟨⟨W1.H,W1.H,[],[]⟩,ys,z,h2,rfl,⟨Same.refl _,rfl,List.nodup_nil,fun n d a e=>by simp at e⟩,p1,by rw [p2];exact hn _ _ _ _ e1,hf,fun v W2 w2 l2 r2=>?_⟩
    have kp:∀ b o,W1.H b=some o->W2.H b=some o:=fun b o e=>l2.keep b o e (by simp)
    have lz:Le K W1 ⟨W1.F,W2.H,W1.m,W1.h⟩:=by
     refine ⟨⟨fun b o e=>kp b o (l1.ok.le _ _ e),l1.ok.len,l1.ok.nd,fun n d a e1 e2=>(l1.ok.at_ n d a e1 e2).mono (Same.refl _) (List.prefix_refl _) (fun o e=>kp _ o e) id⟩,Same.refl _,List.prefix_refl _,fun b o e _=>kp b o e,fun b o _ _ f=>f,fun b z n=>absurd z n,fun n ks xs e=>⟨e,fun a ea=>?_⟩⟩
     obtain ⟨o,ho⟩:=l1.ok.some (List.mem_of_getElem? ea)
     show W2.H a=W1.H a
     rw [ho,kp a o ho]
    refine q v ⟨W1.F,W2.H,W1.m,W1.h⟩ rfl (l1.trans lz) ?_
    cases z with
    | bl b=>exact r2
    | int i=>exact r2
    | str s=>exact r2
    | non=>exact r2
    | ty n=>cases hs
    | cls k=>cases hs
    | scr ns=>cases hs
    | lst xs=>cases hs
    | tup xs=>cases hs
    | ins k ns xs=>cases hs
    | loc n=>cases hs
   .cases e2
  .cases e2
 .cases e2
theorem ywR {f:Fn}{a:XA}{ρ:PSt}{h h1:AH}{xs ys:List PV}{r:PV}{h2:AH}(e1:a ρ h=some (xs,h1)) (e2:ydi (see 3 h1) xs=some ys) (e3:f ys []=some (r,h2)) (hs:yIj r=true):yrA f a ρ h=some (r,h1):=by
 unfold yrA
 rw [e1,yha]
 simp only [e2,e3,hs,if_true]
end PX
namespace PX
open PySem L2 PySem.Spec PyProof.Rows
section
variable (K:Ck)
noncomputable def cE (x:XE):TE:=fun σ H Q=>∃ (W0 W:Wd) (ρ:PSt) (y:PV) (h':AH),W.H=H/\Good K W0 W ρ σ/\x ρ W.h=some (y,h')/\∀ v W',W'.h=h'->Le K W W'->ygI K W' y v->Q v W'.H
noncomputable def cO (x:XO):TE:=fun σ H Q=>∃ (W0 W:Wd) (ρ:PSt) (d:Nd) (h':AH),W.H=H/\Good K W0 W ρ σ/\x ρ W.h=some (d,h')/\∀ p W',W'.h=h'->Le K W W'->p∉W'.m->W.H p=none->d≠.dead->NdAt K W'.F W'.H W'.m d p->Q (.ref p) W'.H
noncomputable def cT (x:XT):TT:=fun σ H Q=>∃ (W0 W:Wd) (ρ:PSt) (y:Bool) (h':AH),W.H=H/\Good K W0 W ρ σ/\x ρ W.h=some (y,h')/\∀ W',W'.h=h'->Le K W W'->Q y W'.H
noncomputable def cA (x:XA):TA:=fun σ H Q=>∃ (W0 W:Wd) (ρ:PSt) (y:List PV) (h':AH),W.H=H/\Good K W0 W ρ σ/\x ρ W.h=some (y,h')/\∀ v W',W'.h=h'->Le K W W'->yhm K W' y v->Q v W'.H
noncomputable def cP (x:PSt->AH->Option (Option Int×AH)):TO:=fun σ H Q=>∃ (W0 W:Wd) (ρ:PSt) (y:Option Int) (h':AH),W.H=H/\Good K W0 W ρ σ/\x ρ W.h=some (y,h')/\∀ W',W'.h=h'->Le K W W'->Q y W'.H
noncomputable def cI (x:XA):TI:=fun σ H R=>∃ (W0 W:Wd) (ρ:PSt) (y:List PV) (h':AH),W.H=H/\Good K W0 W ρ σ/\x ρ W.h=some (y,h')/\∀ J W',W'.h=h'->Le K W W'->yKp K W' J y->R J W'.H
noncomputable def cG (y:XG):TG:=fun v σ H Q=>∃ (W0 W:Wd) (ρ ρ':PSt) (x:PV),W.H=H/\Good K W0 W ρ σ/\ygI K W x v/\y x ρ=some ρ'/\∀ σ',Good K W0 W ρ' σ'->Q σ' W.H
noncomputable def cGs (y:XGs):TGs:=fun v σ H Q=>∃ (W0 W:Wd) (ρ ρ':PSt) (x:List PV),W.H=H/\Good K W0 W ρ σ/\yhm K W x v/\y x ρ=some ρ'/\∀ σ',Good K W0 W ρ' σ'->Q σ' W.H
noncomputable def cS (s:XS):TS:=fun D σ H=>∃ (W0 W:Wd) (ρ:PSt) (o:Out) (h':AH),W.H=H/\Good K W0 W ρ σ/\s ρ W.h=some (o,h')/\Ends.Ok K W0 W D h' o
noncomputable def cF (s:XS):TS:=fun D σ H=>∃ (W0 W:Wd) (ρ ρ':PSt) (h':AH),W.H=H/\Good K W0 W ρ σ/\s ρ W.h=some (.nx ρ',h')/\∀ W',W'.h=h'->Lf K W W'->Good K W0 W' ρ' σ->D.nx σ W'.H
end
section
variable {K:Ck}
theorem sE {x:XE}:yfM K (cE K x) x:=fun W0 W ρ σ Q y h' g e q=>⟨W0,W,ρ,y,h',rfl,g,e,q⟩
theorem sO {x:XO}:yyD K (cO K x) x:=fun W0 W ρ σ Q y h' g e q=>⟨W0,W,ρ,y,h',rfl,g,e,q⟩
theorem sT {x:XT}:yuU K (cT K x) x:=fun W0 W ρ σ Q y h' g e q=>⟨W0,W,ρ,y,h',rfl,g,e,q⟩
theorem sA {x:XA}:ytF K (cA K x) x:=fun W0 W ρ σ Q y h' g e q=>⟨W0,W,ρ,y,h',rfl,g,e,q⟩
theorem sP {x}:yGt K (cP K x) x:=fun W0 W ρ σ Q y h' g e q=>⟨W0,W,ρ,y,h',rfl,g,e,q⟩
theorem sI {x:XA}:yDF K (cI K x) x:=fun W0 W ρ σ Q y h' g e q=>⟨W0,W,ρ,y,h',rfl,g,e,q⟩
theorem sG {y:XG}:yBj K (cG K y) y:=fun W0 W ρ ρ' σ x v Q g r e q=>⟨W0,W,ρ,ρ',x,rfl,g,r,e,q⟩
theorem sGs {y:XGs}:yxH K (cGs K y) y:=fun W0 W ρ ρ' σ x v Q g r e q=>⟨W0,W,ρ,ρ',x,rfl,g,r,e,q⟩
theorem sS {s:XS}:yne K (cS K s) s:=fun W0 W ρ σ D o h' g e q=>⟨W0,W,ρ,o,h',rfl,g,e,q⟩
theorem sF {s:XS}:yDK K (cF K s) s:=fun W0 W ρ ρ' σ D h' g e q=>⟨W0,W,ρ,ρ',h',rfl,g,e,q⟩
end
abbrev ckX (X:Cx) (A:Nat->Addr):Ck:=⟨X.K,A⟩
structure ZE (X:Cx) (A:Nat->Addr) (e:Expr) (x:XE):Prop where of:PE X e (cE (ckX X A) x)
structure ZO (X:Cx) (A:Nat->Addr) (e:Expr) (x:XO):Prop where of:PE X e (cO (ckX X A) x)
structure ZT (X:Cx) (A:Nat->Addr) (e:Expr) (x:XT):Prop where of:PT X e (cT (ckX X A) x)
structure ZW (X:Cx) (A:Nat->Addr) (e:Expr) (x:XT):Prop where of:PW X e (cT (ckX X A) x)
structure ZA (X:Cx) (A:Nat->Addr) (e:List Expr) (n:Nat) (x:XA):Prop where
 of:PA X e (cA (ckX X A) x)
 len:∀ ρ h xs h',x ρ h=some (xs,h')->xs.length=n
structure ZP (X:Cx) (A:Nat->Addr) (e:Option Expr) (x:PSt->AH->Option (Option Int×AH)):Prop where of:PO X e (cP (ckX X A) x)
structure ZI (X:Cx) (A:Nat->Addr) (tg e:Expr) (x:XA):Prop where of:PI X tg e (cI (ckX X A) x)
structure ZG (X:Cx) (A:Nat->Addr) (e:Expr) (y:XG):Prop where of:PG X e (cG (ckX X A) y)
structure ZGs (X:Cx) (A:Nat->Addr) (e:List Expr) (y:XGs):Prop where of:PGs X e (cGs (ckX X A) y)
structure ZS (X:Cx) (A:Nat->Addr) (e:Stmt) (s:XS):Prop where of:PS X e (cS (ckX X A) s)
structure ZSs (X:Cx) (A:Nat->Addr) (e:List Stmt) (s:XS):Prop where of:PSs X e (cS (ckX X A) s)
structure ZF (X:Cx) (A:Nat->Addr) (e:Stmt) (s:XS):Prop where of:PS X e (cF (ckX X A) s)
structure ZFs (X:Cx) (A:Nat->Addr) (e:List Stmt) (s:XS):Prop where of:PSs X e (cF (ckX X A) s)
section
variable {X:Cx}{A:Nat->Addr}{e:Expr}{es:List Expr}
theorem wE {t:TE}{x:XE}(p:PE X e t) (s:yfM (ckX X A) t x):ZE X A e x:=⟨fun pins st σ H Q I ⟨W0,W,ρ,y,h',eh,g,ex,q⟩=>by subst eh;exact p pins st σ _ Q I (s W0 W ρ σ Q y h' g ex q)⟩
theorem wO {t:TE}{x:XO}(p:PE X e t) (s:yyD (ckX X A) t x):ZO X A e x:=⟨fun pins st σ H Q I ⟨W0,W,ρ,y,h',eh,g,ex,q⟩=>by subst eh;exact p pins st σ _ Q I (s W0 W ρ σ Q y h' g ex q)⟩
theorem wT {t:TT}{x:XT}(p:PT X e t) (s:yuU (ckX X A) t x):ZT X A e x:=⟨fun pins st σ H Q I ⟨W0,W,ρ,y,h',eh,g,ex,q⟩=>by subst eh;exact p pins st σ _ Q I (s W0 W ρ σ Q y h' g ex q)⟩
theorem wW {t:TT}{x:XT}(p:PW X e t) (s:yuU (ckX X A) t x):ZW X A e x:=⟨fun wh pins st σ H Q I ⟨W0,W,ρ,y,h',eh,g,ex,q⟩=>by subst eh;exact p wh pins st σ _ Q I (s W0 W ρ σ Q y h' g ex q)⟩
theorem wA {t:TA}{x:XA}{n:Nat}(p:PA X es t) (s:ytF (ckX X A) t x) (l:∀ ρ h xs h',x ρ h=some (xs,h')->xs.length=n):ZA X A es n x:=⟨fun pos pins st σ H Q I ⟨W0,W,ρ,y,h',eh,g,ex,q⟩=>by subst eh;exact p pos pins st σ _ Q I (s W0 W ρ σ Q y h' g ex q),l⟩
theorem wP {o:Option Expr}{t:TO}{x} (p:PO X o t) (s:yGt (ckX X A) t x):ZP X A o x:=⟨fun pins st σ H Q I ⟨W0,W,ρ,y,h',eh,g,ex,q⟩=>by subst eh;exact p pins st σ _ Q I (s W0 W ρ σ Q y h' g ex q)⟩
theorem wI {tg:Expr}{t:TI}{x:XA}(p:PI X tg e t) (s:yDF (ckX X A) t x):ZI X A tg e x:=⟨fun pins st σ H Q I ⟨W0,W,ρ,y,h',eh,g,ex,q⟩=>by subst eh;exact p pins st σ _ Q I (s W0 W ρ σ Q y h' g ex q)⟩
theorem wG {t:TG}{y:XG}(p:PG X e t) (s:yBj (ckX X A) t y):ZG X A e y:=⟨fun pins st σ H v u Q I rv ⟨W0,W,ρ,ρ',x,eh,g,r,ex,q⟩=>by subst eh;exact p pins st σ _ v u Q I rv (s W0 W ρ ρ' σ x v Q g r ex q)⟩
theorem wGs {t:TGs}{y:XGs}(p:PGs X es t) (s:yxH (ckX X A) t y):ZGs X A es y:=⟨fun pins st σ H v u Q I rv ⟨W0,W,ρ,ρ',x,eh,g,r,ex,q⟩=>by subst eh;exact p pins st σ _ v u Q I rv (s W0 W ρ ρ' σ x v Q g r ex q)⟩
theorem wS {st:Stmt}{t:TS}{x:XS}(p:PS X st t) (s:yne (ckX X A) t x):ZS X A st x:=⟨fun pins st σ H D I ⟨W0,W,ρ,o,h',eh,g,ex,q⟩=>by subst eh;exact p pins st σ _ D I (s W0 W ρ σ D o h' g ex q)⟩
theorem wSs {st:List Stmt}{t:TS}{x:XS}(p:PSs X st t) (s:yne (ckX X A) t x):ZSs X A st x:=⟨fun pins st σ H D I ⟨W0,W,ρ,o,h',eh,g,ex,q⟩=>by subst eh;exact p pins st σ _ D I (s W0 W ρ σ D o h' g ex q)⟩
theorem wF {st:Stmt}{t:TS}{x:XS}(p:PS X st t) (s:yDK (ckX X A) t x):ZF X A st x:=⟨fun pins st σ H D I ⟨W0,W,ρ,ρ',h',eh,g,ex,q⟩=>by subst eh;exact p pins st σ _ D I (s W0 W ρ ρ' σ D h' g ex q)⟩
theorem wFs {st:List Stmt}{t:TS}{x:XS}(p:PSs X st t) (s:yDK (ckX X A) t x):ZFs X A st x:=⟨fun pins st σ H D I ⟨W0,W,ρ,ρ',h',eh,g,ex,q⟩=>by subst eh;exact p pins st σ _ D I (s W0 W ρ ρ' σ D h' g ex q)⟩
end
structure Nm (x:Str):Prop where
 d:(x == ("__debug__":Str))=false
 c:(x == ("__classdict__":Str))=false
 n:x≠"__name__"
section
variable {X:Cx}{A:Nat->Addr}{a b c o:Expr}{es:List Expr}{xa xb xc:XE}{xo:XO}{aa:XA}{pos p apos:Pos}{x:Str}{n k:Nat}
theorem yqS {j}:ZE X A (.Constant .none j pos) (xC .non):=wE yGF yEL
theorem yAa {b j}:ZE X A (.Constant (.bool b) j pos) (xC (.bl b)):=wE yJM yHq
theorem z_int {i j}:ZE X A (.Constant (.int i) j pos) (xC (.int i)):=wE yGE yzs
theorem z_str {x j}:ZE X A (.Constant (.str x) j pos) (xC (.str x)):=wE yGG yzt
theorem yIk {i:Nat}(m:Nm x) (hN:X.N[i]?=some x) (hv:Vis X.env.scope x):ZE X A (.Name x pos) (yk i):=wE (yce hN hv m.d m.c) (yEK i)
theorem z_v (i:Nat) (m:Nm x) (hN:X.N[i]?=some x:=by rfl) (hv:Vis X.env.scope x:=by exact Or.inl rfl):ZE X A (.Name x pos) (yk i):=yIk m hN hv
theorem ytS {n:Int}{t:Tok}(m:Nm x) (hg:Gl X x) (hm:X.mg x=some (.int n t)):ZE X A (.Name x pos) (xC (.int n)):=wE (yEG hg hm m.d) yzs
theorem yAb {n:Str}{t:Tok}(m:Nm x) (hg:Gl X x) (hm:X.mg x=some (.str n t)):ZE X A (.Name x pos) (xC (.str n)):=wE (yEH hg hm m.d) yzt
theorem yjJ {k:Nat}(m:Nm x) (hg:Gl X x) (hm:X.mg x=some (.ref (A k))):ZE X A (.Name x pos) (xC (.cls k)):=wE (yzp hg hm m.d) (yEM (K:=ckX X A))
theorem yFE {n:String}(m:Nm x) (hg:Gl X x) (hm:X.mg x=none) (hv:bootBuiltins x=some (.type n)):ZE X A (.Name x pos) (xC (.ty n)):=wE (yHo hg hm hv m.n m.d) yHr
theorem yhE (h:ZO X A a xo):ZE X A a (xFz xo):=wE h.of (yHw sO)
theorem yoe (h:ZO X A a xo):ZE X A a (yuV xo):=wE h.of (yES sO)
theorem ydH {op:Operator}{r:R2}{q:P2}(ho:OpR X (binaryOp op) r) (hq:yfq (ckX X A) r q) (ha:ZE X A a xa) (hb:ZE X A b xb):ZE X A (.BinOp a op b pos) (xOp q xa xb):=wE (yGX ho ha.of hb.of) (ywG hq sE sE)
theorem yIl {op:Operator}{r:R2}{q:P2O}(ho:OpR X (binaryOp op) r) (hq:yzq (ckX X A) r q) (ha:ZE X A a xa) (hb:ZE X A b xb):ZO X A (.BinOp a op b pos) (yHp q xa xb):=wO (yGX ho ha.of hb.of) (yEN hq sE sE)
theorem yMR {op:UnaryOp}{r} {q} (ho:UnR X (unaryOp op) r) (hq:yEJ (ckX X A) r q) (ha:ZE X A a xa):ZE X A (.UnaryOp op a pos) (xUn q xa):=wE (yJT ho ha.of) (yHs hq sE)
theorem yLq (ha:ZE X A a xa):ZE X A (.UnaryOp .Not a pos) (yBK xa):=wE (yGP ha.of) (yBM sE)
theorem ypK {op:CmpOp}{r:R2}{q:P2}(ho:OpR X (compareOp op) r) (hq:yfq (ckX X A) r q) (ha:ZE X A a xa) (hb:ZE X A b xb) (hm:behindInMarks op b=false):ZE X A (.Compare a [op] [b] pos) (xOp q xa xb):=wE (yEn ho ha.of hb.of hm) (ywG hq sE sE)
theorem yFF {op op':CmpOp}{r r':R2}{q q':P2}(ho:OpR X (compareOp op) r) (ho':OpR X (compareOp op') r') (hq:yfq (ckX X A) r q) (hq':yfq (ckX X A) r' q') (ha:ZE X A a xa) (hb:ZE X A b xb) (hc:ZE X A c xc) (hm:lastMarks [op,op'] [b,c]=false):ZE X A (.Compare a [op,op'] [b,c] pos) (yrt q q' xa xb xc):=wE (yBy ho ho' ha.of hb.of hc.of hm) (ytJ hq hq' sE sE sE)
theorem yvG {op} (h:ZE X A a xa):ZE X A (.BoolOp op [a] pos) xa:=⟨yGN h.of⟩
theorem ytT (ha:ZE X A a xa) (hb:ZE X A (.BoolOp .And (b::es) pos) xb):ZE X A (.BoolOp .And (a::b::es) pos) (ypD xa xb):=wE (yGO ha.of hb.of) (yBL sE sE)
section
variable {ca cb:XT}
theorem yLr (hc:ZT X A c ca) (ha:ZE X A a xa) (hb:ZE X A b xb):ZE X A (.IfExp c a b pos) (xIf ca xa xb):=wE (yBq hc.of ha.of hb.of) (yHv sT sE sE)
theorem yN {op:CmpOp}{r:R2}{q:P2}(ho:OpR X (compareOp op) r) (hq:yfq (ckX X A) r q) (ha:ZE X A a xa) (hb:ZE X A b xb) (hm:behindInMarks op b=false):ZT X A (.Compare a [op] [b] pos) (yF (xOp q xa xb)):=wT (yEp ho ha.of hb.of hm) (yse (ywG hq sE sE))
theorem yCz {op op':CmpOp}{r r':R2}{q q':P2}(ho:OpR X (compareOp op) r) (ho':OpR X (compareOp op') r') (hq:yfq (ckX X A) r q) (hq':yfq (ckX X A) r' q') (ha:ZE X A a xa) (hb:ZE X A b xb) (hc:ZE X A c xc) (hm:lastMarks [op,op'] [b,c]=false):ZT X A (.Compare a [op,op'] [b,c] pos) (yF (yrt q q' xa xb xc)):=wT (yBz ho ho' ha.of hb.of hc.of hm) (yse (ytJ hq hq' sE sE sE))
theorem yja (ha:ZT X A a ca):ZT X A (.UnaryOp .Not a pos) (ypo ca):=wT (yGK ha.of) (yEP sT)
theorem yho (h:ZE X A a xa) (he:∀ whole,isTrue a X.env whole=(do let v <- whole;standAt a.pos;holding [v] (truthy v))):ZT X A a (yF xa):=wT (yGH h.of he) (yHt sE)
theorem ywS (h:ZW X A a ca):ZT X A a ca:=⟨PW.pt h.of⟩
theorem ytU (ha:ZT X A a ca) (hb:ZW X A (.BoolOp .And (b::es) pos) cb):ZW X A (.BoolOp .And (a::b::es) pos) (yyE ca cb):=wW (yGJ ha.of hb.of) (yEO sT sT)
theorem yqT (ha:ZT X A a ca) (hb:ZW X A (.BoolOp .Or (b::es) pos) cb):ZW X A (.BoolOp .Or (a::b::es) pos) (xOr ca cb):=wW (yJO ha.of hb.of) (yHu sT sT)
theorem ypL (ha:ZT X A a ca):ZW X A (.BoolOp .And [a] pos) ca:=⟨yEi ha.of⟩
theorem ynn (ha:ZT X A a ca):ZW X A (.BoolOp .Or [a] pos) ca:=⟨yGI ha.of⟩
end
theorem ye:ZA X A [] 0 yu:=wA yDr yvt yzv
theorem ya (ha:ZE X A a xa) (hr:ZA X A es n aa) (hs:starEach (a::es) X.env=(false,eval a X.env)::starEach es X.env):ZA X A (a::es) (n+1) (yd xa aa):=wA (yzf ha.of hr.of hs) (yBN sE sA) (yBQ hr.len)
theorem ygP (h:ZA X A es n aa):ZO X A (.List es pos) (ymp aa):=wO (yHc h.of) (yER sA)
theorem ypM {q} (h:ZA X A es n aa):ZE X A (.Tuple es q pos) (ysc aa):=wE (yHb h.of) (yEQ sA)
theorem yFG:ZP X A none ynZ:=wP yEy yxG
theorem ypN (h:ZE X A a xa):ZP X A (some a) (ytH xa):=wP (yEz h.of) (yBR sE)
section
variable {lo hi:Option Expr}{xl xh:PSt->AH->Option (Option Int×AH)}{p2:Pos}
theorem yCA {r} {q} (hr:SlR X r) (hq:yzw (ckX X A) r q) (ha:ZE X A a xa) (hl:ZP X A lo xl) (hh:ZP X A hi xh):ZO X A (.Subscript a (.Slice lo hi none p2) pos) (yEI q xa xl xh):=wO (yBF hr ha.of hl.of hh.of) (yEV hq sE sP sP)
end
theorem yhF {r:R2}{q:P2}(hr:IxR X r) (hq:yfq (ckX X A) r q) (ha:ZE X A a xa) (hb:ZE X A b xb) (hs:yzj b):ZE X A (.Subscript a b pos) (xOp q xa xb):=wE (yJY hr ha.of hb.of hs) (ywG hq sE sE)
theorem yfN {cs:List Nat}{f:Str}(hc:∀ k∈cs,Cls X.K (A k)/\NoAttr X.K (A k) f) (ha:ZE X A a xa) (hb:attributeBase a f X.env (eval a X.env)=eval a X.env):ZE X A (.Attribute a f pos) (yjI cs f xa):=wE (yGZ ha.of hb) (yFl (K:=ckX X A) hc sE)
section
variable {f C:Addr}{fd:FuncData}{ps:List Str}{lv:Nat}{fn:Fn}
theorem ybz (F:FnOk X.prog X.w X.K X.mg X.base CX0 lv f fd ps (spE (ckX X A) (n+1) fn)) (hr:Room lv X.A) (m:Nm x) (hg:Gl X x) (hm:X.mg x=some (.ref f)) (hk:keepIn X.K (.ref f)=true) (hb:Binds X.K fd ps [])
  (ha:ZA X A (a::es) (n+1) aa) (he:starEach (a::es) X.env=(false,eval a X.env)::starEach es X.env) (hpl:(backTo pos (starEach es X.env)).any (·.1)=false):ZE X A (.Call (.Name x p) (a::es) [] pos) (ybJ fn aa) :=
 wE (yzg F hr hg hm hk hb .nil yxB ha.of m.d he hpl) (yBP sA ha.len)
theorem yjK {k:Nat}{fi} (M:Mk X.K (A k) f) (F:FnOk X.prog X.w X.K X.mg X.base CX0 lv f fd ps (spI (ckX X A) (n+1) k fi)) (hr:Room (lv+1) X.A) (m:Nm x) (hg:Gl X x) (hm:X.mg x=some (.ref (A k))) (hb:Binds X.K fd ps [])
  (ha:ZA X A (a::es) (n+1) aa) (he:starEach (a::es) X.env=(false,eval a X.env)::starEach es X.env) (hpl:(backTo pos (starEach es X.env)).any (·.1)=false):ZO X A (.Call (.Name x p) (a::es) [] pos) (ymd fi aa) :=
 wO (yEx M F hr hg hm hb .nil yxB ha.of m.d he hpl) (yCm (K:=ckX X A) (k:=k) sA ha.len)
theorem yAc {k:Nat}(hm:makesIn X.K (A k)=true) (hi:findIn X.K (.ref (A k)) "__init__" = some (some (.builtin "object.__init__"))) (hk:keepIn X.K (.ref (A k))=true) (m:Nm x) (hg:Gl X x) (hmg:X.mg x=some (.ref (A k))):ZO X A (.Call (.Name x p) [] [] pos) (yrz k) :=
 wO (yBJ hm hi hk hg hmg m.d) (yzO (K:=ckX X A))
theorem yFH {m:Str}{fm:Nat->Fn}{pl:Sem Bool}(he:ZE X A o xa) (G:yvj X.prog X.w X.K X.mg X.base lv A m (fun k=>spE (ckX X A) 1 (fm k))) (hr:Room lv X.A)
  (ht:eval (.Call (.Attribute o m apos) [] [] pos) X.env=(do
   let ov <- eval o X.env
   standAt apos.atName
   let (f,first) <- holding [ov] (getMethod ov m pl)
   callWith pos f first (backTo pos (starEach [] X.env)) (backToKw pos (keywordEach [] X.env)))):ZE X A (.Call (.Attribute o m apos) [] [] pos) (ysi m fm xa) :=
 wE (yzo he.of G hr ht) (yCn (K:=ckX X A) sE)
end
theorem ynf {id:String}{r} {q} (hc:CallR X (.builtin id) r) (hq:ypa (ckX X A) r q) (m:Nm x) (hg:Gl X x) (hm:X.mg x=none) (hv:bootBuiltins x=some (.builtin id)) (ha:ZA X A (a::es) n aa) (he:starEach (a::es) X.env=(false,eval a X.env)::starEach es X.env) (hpl:(backTo pos (starEach es X.env)).any (·.1)=false):ZE X A (.Call (.Name x p) (a::es) [] pos) (xCB q aa) :=
 wE (yBE hc hg hm hv ha.of m.n m.d he hpl) (yDC hq sA)
theorem yCB {T:String}{r} {q} (hc:CallR X (.type T) r) (hq:ypa (ckX X A) r q) (m:Nm x) (hg:Gl X x) (hm:X.mg x=none) (hv:bootBuiltins x=some (.type T)) (ha:ZA X A (a::es) n aa) (he:starEach (a::es) X.env=(false,eval a X.env)::starEach es X.env) (hpl:(backTo pos (starEach es X.env)).any (·.1)=false):ZE X A (.Call (.Name x p) (a::es) [] pos) (xCB q aa) :=
 wE (ytk hc hg hm hv ha.of m.n m.d he hpl) (yDC hq sA)
theorem yjb {T:String}{r} {q} (hc:CallR X (.type T) r) (hq:yzr (ckX X A) r q) (m:Nm x) (hg:Gl X x) (hm:X.mg x=none) (hv:bootBuiltins x=some (.type T)) (ha:ZA X A (a::es) n aa) (he:starEach (a::es) X.env=(false,eval a X.env)::starEach es X.env) (hpl:(backTo pos (starEach es X.env)).any (·.1)=false):ZO X A (.Call (.Name x p) (a::es) [] pos) (ytG q aa) :=
 wO (ytk hc hg hm hv ha.of m.n m.d he hpl) (yET hq sA)
section
variable {name:Str}{cpos:Pos}{T id:String}{r:V->List V->Hp->VK->Prop}{cc:PV->AH->Bool}{q:PM}
theorem yGw (pa:PlainAttrs T) (slot:Slot T name id) (hty:typeOf (.builtin id)=pure (.type "method_descriptor")) (hm:MtR X id r) (hq:ytI (ckX X A) T cc r q) (ho:ZE X A o xa) (ha:ZA X A (a::es) n aa)
  (hbase:attributeBase o name X.env (eval o X.env)=eval o X.env)
  (hfew:((backTo cpos (starEach (a::es) X.env)).all (fun x=>!x.1) && (backToKw cpos (keywordEach [] X.env)).all (fun x=>x.1.isSome)
   && decide ((a::es).length+([]:List Keyword).length+(if ([]:List Keyword).isEmpty then 0 else 1)<30))=true)
  (hline:(apos.endLine == cpos.line)=true) (hs:starEach (a::es) X.env=(false,eval a X.env)::starEach es X.env) (hplain:(backTo cpos (starEach es X.env)).any (·.1)=false) :
  ZE X A (.Call (.Attribute o name apos) (a::es) [] cpos) (xBM cc q xa aa):=wE (yHh pa slot hty hm ho.of ha.of hbase hfew hline hs hplain) (yDD (K:=ckX X A) hq sE sA)
theorem yIm (pa:PlainAttrs T) (slot:Slot T name id) (hty:typeOf (.builtin id)=pure (.type "method_descriptor")) (hm:MtR X id r) (hq:ytI (ckX X A) T cc r q) (ho:ZE X A o xa)
  (hbase:attributeBase o name X.env (eval o X.env)=eval o X.env) (hline:(apos.endLine == cpos.line)=true) :
  ZE X A (.Call (.Attribute o name apos) [] [] cpos) (xBM cc q xa yu):=wE (yHg pa slot hty hm ho.of hbase hline) (yEU (K:=ckX X A) hq sE)
theorem ytV {i:Nat}(ho:PE X o (yGs i)) (ha:ZE X A a xa)
  (hbase:attributeBase o "append" X.env (eval o X.env)=eval o X.env)
  (hfew:((backTo cpos (starEach [a] X.env)).all (fun x=>!x.1) && (backToKw cpos (keywordEach [] X.env)).all (fun x=>x.1.isSome)
   && decide ([a].length+([]:List Keyword).length+(if ([]:List Keyword).isEmpty then 0 else 1)<30))=true)
  (hline:(apos.endLine == cpos.line)=true) (hs:starEach [a] X.env=(false,eval a X.env)::starEach [] X.env) (hplain:(backTo cpos (starEach [] X.env)).any (·.1)=false)
  (hsw:swapsWith (.Call (.Attribute o "append" apos) [a] [] cpos) none pos.line X.env=pure false) :
  ZS X A (.Expr (.Call (.Attribute o "append" apos) [a] [] cpos) pos) (ymy i xa) :=
 wS (yyN (yHh PySem.F.plainAttrs_list PySem.F.slot_list_append PySem.F.type_list_append yni ho (yzf ha.of yDr hs) hbase hfew hline hs hplain) hsw) (yBY (K:=ckX X A) i sE)
end
section
variable {tg:Expr}
theorem ymA (h:ZE X A a xa):ZI X A tg a (xIL xa):=wI (yyQ h.of) (yzB (K:=ckX X A) sE)
theorem yIn (h:ZE X A a xa):ZI X A tg a (xIT xa):=wI (yGV h.of) (yBZ (K:=ckX X A) sE)
theorem yIo (h:ZE X A a xa):ZI X A tg a (xIS xa):=wI (yHl h.of) (yCa sE)
theorem yFI (hg:Gl X "range") (hm:X.mg "range" = none) (ha:ZA X A [a] n aa) (hs:starEach [a] X.env=[(false,eval a X.env)]):ZI X A tg (.Call (.Name "range" p) [a] [] pos) (yHz aa):=wI (yyR hg hm ha.of hs) (yzC sA)
end
theorem ykb {i:Nat}(hN:X.N.Nodup) (hi:X.N[i]?=some x) (hx:Loc X.env.scope x) (hf:X.fn x=true\/X.env.scope.names.lookup x=some .local):ZG X A (.Name x pos) (yw i):=wG (yyO hN hi hx hf) (ytK i)
theorem yFJ:ZGs X A [] yBh:=wGs yEl yBV
theorem ywT {y:XG}{ys:XGs}(h1:ZG X A a y) (h2:ZGs X A es ys) (hs:(assignEach (a::es) X.env).map (·.2)=assign a X.env::(assignEach es X.env).map (·.2)):ZGs X A (a::es) (ykY y ys):=wGs (yBt h1.of h2.of hs) (yzy sG sGs)
theorem yIp {ys:XGs}{q:Nat}(hc:X.calm=true) (h:ZGs X A es ys) (hn:(assignEach es X.env).length=n) (hst:(assignEach es X.env).findIdx? (·.1)=none):ZG X A (.Tuple es q pos) (yyF n ys):=wG (yGT hc h.of hn hst) (yBW (K:=ckX X A) sGs)
theorem ywU {elt iter:Expr}{px:Pos}{scope:Scope}{cpos:Pos}{it:XA}{xe:XE}(ix:List Nat) (fr:List Str) (hc:X.calm=true) (hi:ZI X A (.Name x px) iter it) (hfr:FrOk X scope ix fr)
  (he:∀ (cl:List (Str×Addr)) (C:Addr) (s₃:Shared) (H₃:Hp) (fp:List Addr) (pins:List (Addr×Obj)),ZE (cxC X scope cl C (x::fr) s₃ H₃ fp pins) A elt xe)
  (hnd:(x::fr).Nodup) (hkind:scope.kind=.function) (hcell:∀ y∈scope.names,y.2≠.cell)
  (hnames:∀ y∈scope.names,y.2=.local->scope.names.lookup y.1=some .local) (hfree0:∀ y∈scope.names,y.2=.free->y.1∈fr) (hx:scope.names.lookup x=some .local)
  (hs:∀ v,foldedSetIterable iter X.env v=pure v):ZO X A (.ListComp elt [⟨.Name x px,iter,[],0⟩] scope cpos) (ysg it ix xe) :=
 wO (yEE ix fr hc hi.of hfr (te:=cE (ckX X A) xe) (fun cl C s₃ H₃ fp pins=>(he cl C s₃ H₃ fp pins).of) hnd hkind hcell hnames hfree0 hx hs) (yCc (K:=ckX X A) ix sI sE)
section
variable {st:Stmt}{rest:List Stmt}{s u:XS}
theorem yt (h:ZE X A a xa):ZS X A (.Return (some a) pos) (ycc xa):=wS (yGR h.of) (yEX sE)
theorem ygl (h:ZE X A a xa) (hs:swapsWith a none pos.line X.env=pure false):ZS X A (.Expr a pos) (yiW xa):=wS (yyN h.of hs) (yBU sE)
theorem yL {i:Nat}{pos':Pos}(hN:X.N.Nodup) (hi:X.N[i]?=some x) (hx:Loc X.env.scope x) (h:ZE X A a xa) (hs:swapsWith a (some (.Name x pos')) pos.line X.env=pure false) (hf:X.fn x=true\/X.env.scope.names.lookup x=some .local):ZS X A (.Assign [.Name x pos'] a pos) (ydI xa (yw i)) :=
 wS (yDm hN hi hx h.of hs hf) (yEZ sE (ytK i))
theorem yAd {i:Nat}{pos':Pos}(hN:X.N.Nodup) (hi:X.N[i]?=some x) (hx:Loc X.env.scope x) (h:ZO X A a xo) (hs:swapsWith a (some (.Name x pos')) pos.line X.env=pure false) (hf:X.fn x=true\/X.env.scope.names.lookup x=some .local):ZS X A (.Assign [.Name x pos'] a pos) (yzx xo i) :=
 wS (yDm hN hi hx h.of hs hf) (yBX i sO)
theorem ycT {cs:List Nat}{f:Str}{pos':Pos}{i:Nat}(hc:∀ k∈cs,Cls X.K (A k)/\NoAttr X.K (A k) f) (ho:PE X o (yGs i)) (h:ZE X A a xa) (hs:swapsWith a (some (.Attribute o f pos')) pos.line X.env=pure false):ZF X A (.Assign [.Attribute o f pos'] a pos) (yeN cs i f xa):=wF (yDq ho h.of hs) (yCj (K:=ckX X A) hc sE)
theorem ybK {ca:XT}{l m:List Stmt}(hc:ZT X A c ca) (ha:ZSs X A l s) (hb:ZSs X A m u):ZS X A (.If c l m pos) (ydg ca s u):=wS (yJQ hc.of ha.of hb.of) (yEY sT sS sS)
theorem yrB {tg iter:Expr}{it:XA}{y:XG}(hp:PassesOwn (model X.prog X.w) X.A X.env X.xe) (hc:X.calm=true) (hi:ZI X A tg iter it) (hg:ZG X A tg y) (hb:ZSs X A rest s) (hs:∀ x,foldedSetIterable iter X.env x=pure x):ZS X A (.For tg iter rest [] pos) (ytb it y s):=wS (yyT hp hc hi.of hg.of hb.of hs) (yFd sI sG sS)
theorem ywV {ca:XT}(fu:Nat) (hp:PassesOwn (model X.prog X.w) X.A X.env X.xe) (hc:ZT X A c ca) (hb:ZSs X A rest s):ZS X A (.While c rest [] pos) (yoE fu ca s):=wS (yBu hp hc.of hb.of) (yzD fu sT sS)
theorem yy:ZSs X A [] yby:=wSs yEj yBT
theorem yj (h:ZS X A st s):ZSs X A [st] s:=⟨yyM h.of⟩
theorem yc (h:ZS X A st s) (hr:ZSs X A rest u):ZSs X A (st::rest) (yx s u):=wSs (ywv h.of hr.of) (yEW sS sS)
theorem yAe (i:Nat) (h:ZSs X A rest s):ZSs X A rest (yHx i s):=wSs h.of (yFa i sS)
theorem yhG (h:ZF X A st s):ZFs X A [st] s:=⟨yyM h.of⟩
theorem ycE (h:ZF X A st s) (hr:ZFs X A rest u):ZFs X A (st::rest) (yx s u):=wFs (ywv h.of hr.of) (yCk sF sF)
end
end
section
variable {P:Program}{w:World}{K:PySem.W.Frag}{mg:Str->Option Value}{base:Heap}{A:Nat->Addr}
theorem zfn {x qual:Str}{st:Stmt}{f:Addr}{fd:FuncData}{N ps:List Str}{k:Nat}{s:XS}(F:Fun K x qual st f fd) (S:yv N ps (yb st))
  (h:∀ (cdv:Value) (Ar:Around) (outer:List Env) (sh:Shared) (H:Hp) (E:XK),Room k (Ar.deeper (envOfC qual (yb st) sh.heap.objs.size f cdv))->ZSs (yDs CX0 P w K mg base N qual (yb st) f cdv Ar outer sh H E).nox A (yg st) s) :
  FnOk P w K mg base CX0 (k+1) f fd ps (spE ⟨K,A⟩ ps.length (ygJ N.length s)) :=
 F.ok S (fun _ _ _ _ h=>yFe h) fun cdv Ar outer sh H vs Q E hr hq=>⟨_,(h cdv Ar outer sh H E hr).of,yCd (K:=⟨K,A⟩) sS hq⟩
theorem zin {x qual:Str}{st:Stmt}{f:Addr}{fd:FuncData}{N ps:List Str}{k kc n:Nat}{s:XS}(F:Fun K x qual st f fd) (S:yv N ps (yb st)) (hn:ps.length=n+1) (hN:n+1<=N.length)
  (h:∀ (cdv:Value) (Ar:Around) (outer:List Env) (sh:Shared) (H:Hp) (E:XK),Room k (Ar.deeper (envOfC qual (yb st) sh.heap.objs.size f cdv))->ZFs (yDs CX0 P w K mg base N qual (yb st) f cdv Ar outer sh H E).nox A (yg st) s) :
  FnOk P w K mg base CX0 (k+1) f fd ps (spI ⟨K,A⟩ n kc (yuX N.length kc s)) :=
 F.ok S (fun _ _ _ _ h=>(yFm h).trans hn.symm) fun cdv Ar outer sh H vs Q E hr hq=>⟨_,(h cdv Ar outer sh H E hr).of,yCl (K:=⟨K,A⟩) hN sF hq⟩
end
end PX
namespace PX
open PySem L2 PySem.Spec PyProof.Rows
section
variable {X:Cx}{A:Nat->Addr}{a b c o i:Expr}{es:List Expr}{xa xb xc xd xk xv:XE}{xo:XO}{aa:XA}{pos p apos cpos pos':Pos}{x:Str}{n k:Nat}
end
end PX
namespace PX
open PySem L2 PySem.Spec PyProof.Rows
theorem ywW:bootBuiltins "max" = some (.builtin "max"):=by rfl'
section
variable {X:Cx}{A:Nat->Addr}{a b c o:Expr}{es:List Expr}{xa xb xc:XE}{pos p apos cpos:Pos}{x:Str}{n k:Nat}
end
section
variable {X:Cx}{A:Nat->Addr}{tg a b c:Expr}{p pos:Pos}{aa:XA}{n:Nat}
end
section
theorem ylb {xs:List V}{its:List Value}(r:Vals xs its) {j:Nat}(hj:j<its.toArray.size):∃ x,xs[j]?=some x/\RelV x its.toArray[j]:=by
 have hl:=r.length
 have j1:j<its.length:=by simpa using hj
 have x1:xs[j]?=some xs[j]:=List.getElem?_eq_getElem (by omega)
 obtain ⟨u1,q1,w1⟩:=r.get x1
 have g1:its.toArray[j]=u1:=by
  have:=List.getElem?_eq_getElem j1
  rw [q1] at this
  simpa using (Option.some.inj this).symm
 exact ⟨_,x1,by rw [g1];exact w1⟩
variable {X:Cx}
theorem yDR {pins:List (Addr×Obj)}{σ:L2.St}{H:Hp}{s:Shared}(I:Inv X pins σ H s) {n:Nat}{x y:V}{b:Bool}(r:EqR X.K H n x y b):∀ {A:Around}{u v:Value},RelV x u->RelV y v->A.units+n<cLine->SeqAt.EqAt A s u v b:=by
 induction r with
 | flat fx fy=>exact fun rx ry _=>yDt rx ry fx fy
 | same =>
  intro A u v rx ry _
  cases rx
  cases ry
  exact SeqAt.EqAt.same _
 | odd h =>
  obtain ⟨a,o,ob,h1,h2⟩:=h
  have:=(I.bs a ob (I.ok.mod.kin a ob h2)).2
  rw [h1] at this
  cases this
 | nt hb =>
  intro A u v rx ry hu
  cases rx
  cases ry
  obtain ⟨i2,r2,p2,z2⟩:=I.tuple hb
  exact SeqAt.EqAt.none_tuple p2 (by omega)
 | tn hb =>
  intro A u v rx ry hu
  cases rx
  cases ry
  obtain ⟨i2,r2,p2,z2⟩:=I.tuple hb
  exact SeqAt.EqAt.tuple_none p2 (by omega)
 | @lst n a b xs ys e ha hb hl hne he ih =>
  intro A u v rx ry hu
  cases rx
  cases ry
  obtain ⟨i1,n1,r1,e1,z1⟩:=I.lst ha
  obtain ⟨i2,n2,r2,e2,z2⟩:=I.lst hb
  have l1:=r1.length
  have l2:=r2.length
  rw [show xs.length=i1.toArray.size by simp only [List.size_toArray];omega]
  refine SeqAt.EqAt.of_refs hne (SeqAt.RcAt.lists ⟨_,e1,rfl,n1,rfl⟩ ⟨_,e2,rfl,n2,rfl⟩ (by simp only [List.size_toArray];omega) (by omega) fun j j1 j2=>?_)
  obtain ⟨x1,q1,w1⟩:=ylb r1 j1
  obtain ⟨y1,q2,w2⟩:=ylb r2 j2
  exact ih j x1 y1 q1 q2 w1 w2 (by show A.units+1+n<cLine;omega)
 | @lstN n a b xs ys ha hb hl =>
  intro A u v rx ry hu
  cases rx
  cases ry
  obtain ⟨i1,n1,r1,e1,z1⟩:=I.lst ha
  obtain ⟨i2,n2,r2,e2,z2⟩:=I.lst hb
  have l1:=r1.length
  have l2:=r2.length
  have hne:a≠b:=fun z=>by subst z;rw [ha] at hb;cases hb;exact hl rfl
  exact SeqAt.EqAt.of_refs hne (SeqAt.RcAt.lists_lengths ⟨_,e1,rfl,n1,rfl⟩ ⟨_,e2,rfl,n2,rfl⟩ (by simp only [List.size_toArray,bne_iff_ne];omega) (by omega))
 | @tup n a b xs ys e ha hb hne he ih =>
  intro A u v rx ry hu
  cases rx
  cases ry
  obtain ⟨i1,r1,p1,z1⟩:=I.tuple ha
  obtain ⟨i2,r2,p2,z2⟩:=I.tuple hb
  have l1:=r1.length
  have l2:=r2.length
  rw [show xs.length=i1.toArray.size by simp only [List.size_toArray];omega,show ys.length=i2.toArray.size by simp only [List.size_toArray];omega]
  refine SeqAt.EqAt.of_refs hne (SeqAt.RcAt.tuples p1 p2 (by omega) fun j j1 j2=>?_)
  obtain ⟨x1,q1,w1⟩:=ylb r1 j1
  obtain ⟨y1,q2,w2⟩:=ylb r2 j2
  exact ih j x1 y1 q1 q2 w1 w2 (by show A.units+1+n<cLine;omega)
theorem ypO (hu:X.A.units+60<cLine):OpR X (compareOp .Eq) (yMv X.K):=by
 intro pins s σ H x y v u Q I rx ry h
 obtain ⟨b,hb,q⟩:=h
 cases hb with
 | nt hb =>
  cases rx
  cases ry
  obtain ⟨i2,r2,p2,z2⟩:=I.tuple hb
  exact SeqAt.RcAt.none_tuple p2 (by omega) _ _ _ _ ⟨.bl _,H,I,rfl,q⟩
 | tn hb =>
  cases rx
  cases ry
  obtain ⟨i2,r2,p2,z2⟩:=I.tuple hb
  exact SeqAt.RcAt.tuple_none p2 (by omega) _ _ _ _ ⟨.bl _,H,I,rfl,q⟩
 | @lst a b xs ys e ha hb hl he =>
  cases rx
  cases ry
  obtain ⟨i1,n1,r1,e1,z1⟩:=I.lst ha
  obtain ⟨i2,n2,r2,e2,z2⟩:=I.lst hb
  have l1:=r1.length
  have l2:=r2.length
  rw [show xs.length=i1.toArray.size by simp only [List.size_toArray];omega] at q
  refine SeqAt.RcAt.lists ⟨_,e1,rfl,n1,rfl⟩ ⟨_,e2,rfl,n2,rfl⟩ (by simp only [List.size_toArray];omega) (by omega) (fun j j1 j2=>?_) _ _ _ _ ⟨.bl _,H,I,rfl,q⟩
  obtain ⟨x1,q1,w1⟩:=ylb r1 j1
  obtain ⟨y1,q2,w2⟩:=ylb r2 j2
  exact yDR I (he j x1 y1 q1 q2) w1 w2 (by show X.A.units+1+40<cLine;omega)
 | @lstN a b xs ys ha hb hl =>
  cases rx
  cases ry
  obtain ⟨i1,n1,r1,e1,z1⟩:=I.lst ha
  obtain ⟨i2,n2,r2,e2,z2⟩:=I.lst hb
  have l1:=r1.length
  have l2:=r2.length
  exact SeqAt.RcAt.lists_lengths ⟨_,e1,rfl,n1,rfl⟩ ⟨_,e2,rfl,n2,rfl⟩ (by simp only [List.size_toArray,bne_iff_ne];omega) (by omega) _ _ _ _ ⟨.bl _,H,I,rfl,q⟩
 | @tup a b xs ys e ha hb he =>
  cases rx
  cases ry
  obtain ⟨i1,r1,p1,z1⟩:=I.tuple ha
  obtain ⟨i2,r2,p2,z2⟩:=I.tuple hb
  have l1:=r1.length
  have l2:=r2.length
  rw [show xs.length=i1.toArray.size by simp only [List.size_toArray];omega,show ys.length=i2.toArray.size by simp only [List.size_toArray];omega] at q
  refine SeqAt.RcAt.tuples p1 p2 (by omega) (fun j j1 j2=>?_) _ _ _ _ ⟨.bl _,H,I,rfl,q⟩
  obtain ⟨x1,q1,w1⟩:=ylb r1 j1
  obtain ⟨y1,q2,w2⟩:=ylb r2 j2
  exact yDR I (he j x1 y1 q1 q2) w1 w2 (by show X.A.units+1+40<cLine;omega)
theorem ypP {k:Nat}{A:Around}(r:Room k A):A.units+60<cLine:=by have:=r.un;omega
end
end PX
namespace PX
open PySem L2 PySem.Spec PyProof.Rows
section
variable {X:Cx}{A:Nat->Addr}{o e:Expr}{es:List Expr}{xa xb:XE}{aa:XA}{pos apos pos':Pos}{m f:Str}{n k kc:Nat}{pl:Sem Bool}{p:Fn}{fa:Addr}{fd:FuncData}{ps:List Str}
theorem yfD {st:Stmt}:ZS X A st ynm:=wS yBr (yCt (K:=ckX X A))
theorem ybq (ho:ZE X A o xa) (c:Cls X.K (A kc)) (hm:ykV X.K (A kc) m fa) (F:FnOk X.prog X.w X.K X.mg X.base CX0 k fa fd ps (spE (ckX X A) (n+1) p)) (hr:Room k X.A) (hb:Binds X.K fd ps []) (ha:ZA X A (e::es) n aa)
  (hst:starEach (e::es) X.env=(false,eval e X.env)::starEach es X.env) (hpl:(backTo pos (starEach es X.env)).any (·.1)=false)
  (ht:eval (.Call (.Attribute o m apos) (e::es) [] pos) X.env=(do
   let ov <- eval o X.env
   standAt apos.atName
   let (f,first) <- holding [ov] (getMethod ov m pl)
   callWith pos f first (backTo pos (starEach (e::es) X.env)) (backToKw pos (keywordEach [] X.env)))) :
  ZE X A (.Call (.Attribute o m apos) (e::es) [] pos) (yA kc m p xa aa):=wE (yEw ho.of c hm F hr hb .nil yxB ha.of hst hpl ht) (ytP (K:=ckX X A) sE sA ha.len)
theorem ybf (ho:ZE X A o xa) (c:Cls X.K (A kc)) (hm:ykV X.K (A kc) m fa) (F:FnOk X.prog X.w X.K X.mg X.base CX0 k fa fd ps (spE (ckX X A) 1 p)) (hr:Room k X.A) (hb:Binds X.K fd ps [])
  (ht:eval (.Call (.Attribute o m apos) [] [] pos) X.env=(do
   let ov <- eval o X.env
   standAt apos.atName
   let (f,first) <- holding [ov] (getMethod ov m pl)
   callWith pos f first (backTo pos (starEach [] X.env)) (backToKw pos (keywordEach [] X.env)))) :
  ZE X A (.Call (.Attribute o m apos) [] [] pos) (yA kc m p xa yu):=wE (yBC ho.of c hm F hr hb .nil yxB ht) (ytP (K:=ckX X A) (n:=0) sE yvt yzv)
theorem yFK {cs:List Nat}{value:Expr}(hc:∀ k∈cs,Cls X.K (A k)/\NoAttr X.K (A k) f) (ho:ZE X A o xa) (hv:ZE X A value xb) (hs:swapsWith value (some (.Attribute o f pos')) pos.line X.env=pure false) :
  ZS X A (.Assign [.Attribute o f pos'] value pos) (yzU cs f xa xb):=wS (yDq ho.of hv.of hs) (yCu (K:=ckX X A) hc sE sE)
end
end PX
namespace KasS
open PySem PySem.W PyProof.Rows
def run {α:Type}(lt:Nat->Nat->Bool):KasT α->α
 | .ret a=>a
 | .ask i j k=>run lt (k (lt i j))
section
variable (key:Nat->Int)
variable {key}
section
variable {P:Nat->Prop}{lt:Nat->Nat->Bool}
end
end
end KasS
namespace KasS
open PySem PySem.W PyProof.Rows PySem.Calls
section
variable {prog:Program}{w:World}{A:Around}{E:Value->Shared->Prop}{s:Shared}
end
end KasS
namespace PXS
open PySem L2 PySem.Spec PyProof.Rows KasS PX
section
variable {X:Cx}
variable {A:Nat->Addr}{o:Expr}{xa:XE}{pos p apos cpos:Pos}{x:Str}
end
end PXS
namespace PX
open PySem L2 PySem.Spec PyProof.Rows
section
variable {X:Cx}{A:Nat->Addr}{tg a:Expr}{p pos:Pos}{xa:XE}
theorem yFL {rest:List Stmt}{s:XS}{y:XG}(hp:PassesOwn (model X.prog X.w) X.A X.env X.xe) (hc:X.calm=true) (hi:ZE X A a xa) (hg:ZG X A tg y) (hb:ZSs X A rest s) (hs:∀ x,foldedSetIterable a X.env x=pure x):ZS X A (.For tg a rest [] pos) (yxN false xa y s) :=
 wS (yyT hp hc (yyQ hi.of) hg.of hb.of hs) (yCv (K:=ckX X A) sE sG sS)
end
end PX
namespace PX
open PySem L2 PySem.Spec PyProof.Rows
section
variable {X:Cx}{A:Nat->Addr}{a o:Expr}{xa xb:XE}{pos apos cpos:Pos}
end
end PX
namespace L2
open PySem PySem.Spec PyProof.Rows PX
end L2
namespace PX
open PySem L2 PySem.Spec PyProof.Rows
variable {X:Cx}{A:Nat->Addr}{x:Str}
end PX
namespace L2
open PySem PySem.Spec PyProof.Rows PX
end L2
namespace PX
open PySem L2 PySem.Spec PyProof.Rows
variable {X:Cx}{A:Nat->Addr}{x y:Str}{py spos:Pos}{iy:Nat}
end PX
namespace PX
open PySem L2 PySem.Spec PyProof.Rows KasS PXS
section
variable {X:Cx}{A:Nat->Addr}
theorem ypB {vs:List Value}{ns:List Int}(h:IntsAre vs ns):Vals (ns.map V.int) vs:=by
 induction h with
 | nil=>exact .nil
 | cons n t _ ih=>exact .cons ⟨t,rfl⟩ ih
variable {a:Expr}{xa:XE}{aa:XA}{pos p:Pos}{x:Str}{n:Nat}
end
end PX
namespace PX
open PySem L2 PySem.Spec PyProof.Rows KasS PXS
section
variable {X:Cx}{A:Nat->Addr}{tg a:Expr}{p pos:Pos}{xa:XE}
end
end PX
namespace PX
open PySem L2 PySem.Spec PyProof.Rows
section
variable {X:Cx}{A:Nat->Addr}
variable {pos p apos:Pos}{x m:Str}{e:Expr}{es:List Expr}{aa:XA}{n:Nat}
theorem yIq {a:Addr}{ss:List Str}(nm:Nm x) (hg:Gl X x) (hm:X.mg x=some (.ref a)) (hk:KTp X.K a (ss.map V.str)):ZE X A (.Name x pos) (xC (.tup (ss.map PV.str))):=wE (yzp hg hm nm.d) (yCw (K:=ckX X A) hk)
end
section
variable {P:Program}{w:World}{K:PySem.W.Frag}{mg:Str->Option Value}{base:Heap}{A:Nat->Addr}
end
end PX
namespace PX
open PySem L2 PySem.Spec PyProof.Rows
section
variable {X:Cx}{A:Nat->Addr}
end
end PX
namespace PX
open PySem L2 PySem.Spec PyProof.Rows
section
variable {prog:Program}{w:World}{A:Around}{E:Value->Shared->Prop}{s:Shared}
end
section
variable {X:Cx}{A:Nat->Addr}
end
end PX
namespace PX
open PySem L2 PySem.Spec PyProof.Rows
open Builtin Builtin.Str in
section
variable {prog:Program}{w:World}{A:Around}{E:Value->Shared->Prop}{s:Shared}
theorem yxO {x y:Str}{t u:Tok}{Q:Value->Shared->Prop}(hy:(y.length == 0)=false) (hz:x.length+2<=sizeLine)
  (h:∀ (l:List (Str×Tok)) (k:Nat),l.map (·.1)=Txt.split x y->Q (.ref s.heap.objs.size) { s with heap:=s.heap.push { cls:=.type "list",data:=.seq (strValues l).toArray },toks:=k }) :
  wpAny (model prog w) A (call (.builtin "str.split") [.str x t,.str y u]) Q E s:=by
 have h2:(partsBetween x (occurrences x y 0 x.length (x.length+1)) y.length).length<=sizeLine:=by
  have:=StrLaws.occ_length_le x y 0 x.length (x.length+1)
  rw [length_partsBetween]
  omega
 by_cases c1:(decide (x.length<y.length) || decide (strKind x<strKind y))=true
 .exact call_meets F.slot_str_split (typeIs_str _ _ _) F.entry_str_split (F.args_str_split_2 _ _) (meets_str_split_cannot_occur x y t u c1) (h [(x,t)] s.toks (if_pos c1).symm)
 .have c1':(decide (x.length<y.length) || decide (strKind x<strKind y))=false:=by simpa using c1
  by_cases c2:(occurrences x y 0 x.length (x.length+1)).isEmpty=true
  .exact call_meets F.slot_str_split (typeIs_str _ _ _) F.entry_str_split (F.args_str_split_2 _ _) (meets_str_split_not_found x y t u c1' hy c2) (h [(x,t)] s.toks ((if_neg c1).trans (if_pos c2)).symm)
  .refine call_meets F.slot_str_split (typeIs_str _ _ _) F.entry_str_split (F.args_str_split_2 _ _) (meets_str_split_sep x y t u c1' hy (by simpa using c2) (by omega) h2) ?_
   show wants Q E _ { s with toks:=_,heap:=s.heap.push { cls:=.type "list",data:=.seq (strsFrom s.toks (partsBetween x (occurrences x y 0 x.length (x.length+1)) y.length)).toArray } }
   rw [strsFrom_eq]
   exact h _ _ ((numbered_texts _ _).trans ((if_neg c1).trans (if_neg c2)).symm)
end
theorem ywX (z:Str):Txt.split z " " = yzY z:=by
 have e:(" ":Str)=⟨#[32]⟩:=by rfl'
 have h:=ypI (Txt.split z " ") (fun q=>by have:=split_pos z " ";rw [q] at this;simp at this) (by rw [e];exact StrLaws.split_free z 32)
 rw [StrLaws.join_split] at h
 exact h.symm
theorem ytW:∀ (l:List (Str×Tok)),Vals ((l.map (·.1)).map V.str) (strValues l)
 | []=>.nil
 | (_,t)::l=>.cons ⟨t,rfl⟩ (ytW l)
section
variable {X:Cx}{A:Nat->Addr}
theorem yAf:CallR X (.type "str") yIg:=call_str_int.or fun pins s σ H xs us Q I r h=>by
 obtain ⟨x,rfl,q⟩:=h
 obtain ⟨u,rfl,t,rfl⟩:=vals1 r
 exact PySem.P.str_of_str ⟨.str x,H,I,⟨t,rfl⟩,q⟩
theorem yCC:MtR X "str.split" yDQ:=by
 intro pins s σ H x xs v us Q I rx rv h
 obtain ⟨z,rfl,rfl,hz,q⟩:=h
 obtain ⟨t,rfl⟩:=rx
 obtain ⟨u,rfl,ru⟩:=vals1 rv
 obtain ⟨t',rfl⟩:=ru
 have hs:z.length+2<=sizeLine:=by simp only [PySem.sizeLine_eq];omega
 refine yxO (by decide) hs fun l k e=>?_
 have e2:l.map (·.1)=yzY z:=e.trans (ywX z)
 have e3:=split_le z " "
 rw [ywX] at e3
 refine ⟨.ref s.heap.objs.size,_,I.laid (t':=k) (o:=.lst ((yzY z).map V.str)) (fun b o e=>Heap.get?_push_of_some _ e) (Nat.le_refl _) ?_,rfl,q _ (I.hok.fresh (Nat.le_refl _))⟩
 exact ⟨by rw [List.length_map];exact Nat.le_trans e3 hs,strValues l,0,e2 ▸ ytW l,Heap.get?_push_size _ rfl⟩
end
section
variable {X:Cx}{pins:List (Addr×Obj)}{σ:L2.St}{H:Hp}{s:Shared}{h':Heap}
theorem yAg {t':Nat}{fp:List Addr}(I:Inv X pins σ H s) (k:∀ b o,b∉fp->s.heap.get? b=some o->h'.get? b=some o) (hf:∀ b∈fp,yBg X pins H b):Inv X pins σ H { s with heap:=h',toks:=t' }:=by
 have nit:∀ b u,H b=some u->b∉fp:=fun b u e z=>by rw [(hf b z).1] at e;cases e
 refine I.step (g':=s.gens) (d':=s.drawn) (ch:=fp) (fun b hb=>?_) (fun b o _ _ hc e _=>k b o hc e) (fun b o _ _ hc e _=>⟨o.slots,k b o hc e⟩) (fun _ _ _ _ n=>n)
  (fun b o hc e=>⟨o,k b o hc e⟩) (fun _ _ e=>e) (fun _ _ _ e=>e) (fun b ps e=>⟨#[],by rw [e];simp⟩) (fun m hm=>?_) (fun b u e=>?_) I.bare
 .obtain ⟨f0,f1,f2,f3,f4,f5⟩:=hf b hb
  exact ⟨f3,f1,f4,f5⟩
 .obtain ⟨o,es,ep,ho,r⟩:=hm
  exact ⟨o,es,ep,k _ o (fun z=>(hf _ z).2.1 rfl) ho,r⟩
 .refine (I.hok b u e).stay (fun c v hc q=>k c v ?_ q) (fun _ q=>q) fun _ _ q=>q
  rcases hc with z|z
  .rw [z];exact nit b u e
  .exact nit c _ z
end
section
noncomputable def ZSt (n a b:Addr) (i:Nat) (h:Heap):Prop:=IsZip h (n+4) (n+2) (n+3) .none/\IsPair h (n+2) (.ref n) (.ref (n+1))/\(∃ c d,IsPair h (n+3) c d)/\h.IsListIter n a i/\h.IsListIter (n+1) b i
abbrev zfp (n:Addr):List Addr:=[n+4,n+2,n+3,n,n+1]
theorem apN (n:Nat):n+2≠n+4/\n+3≠n+4/\n≠n+4/\n+1≠n+4/\n+2≠n+3/\n+2≠n/\n+2≠n+1/\n+3≠n/\n+3≠n+1/\n≠n+1:=by omega
theorem ZSt.ap {n a b:Addr}{i:Nat}{h:Heap}{xs ys:Array Value}(st:ZSt n a b i h) (ha:h.IsList a xs) (hb:h.IsList b ys):ZipApart (n+4) (n+2) (n+3) n (n+1) a b:=by
 obtain ⟨z0,z1,⟨c,d,z2⟩,⟨o3,e3,c3,d3⟩,⟨o4,e4,c4,d4⟩⟩:=st
 obtain ⟨oa,ea,ca,_⟩:=ha
 obtain ⟨ob,eb,cb,_⟩:=hb
 have ne:∀ {p q:Addr}{o o':Obj},h.get? p=some o->h.get? q=some o'->o.cls≠o'.cls->p≠q:=fun e e' c z=>by subst z;rw [e] at e';cases e';exact c rfl
 obtain ⟨p0,p1,p2,p3,p4,p5,p6,p7,p8,p9⟩:=apN n
 exact ⟨p0,p1,p2,p3,p4,p5,p6,p7,p8,p9,
  ne ea z0 (by rw [ca];show Value.type "list"≠Value.type "zip";decide),ne ea z2 (by rw [ca];show Value.type "list"≠Value.type "tuple";decide),ne ea e3 (by rw [ca,c3];decide),ne ea e4 (by rw [ca,c4];decide),
  ne eb z0 (by rw [cb];show Value.type "list"≠Value.type "zip";decide),ne eb z2 (by rw [cb];show Value.type "list"≠Value.type "tuple";decide),ne eb e3 (by rw [cb,c3];decide),ne eb e4 (by rw [cb,c4];decide)⟩
theorem ZSt.keep {n a b:Addr}{i:Nat}{h h':Heap}(st:ZSt n a b i h) (k:∀ c∈zfp n,∀ o,h.get? c=some o->h'.get? c=some o):ZSt n a b i h':=by
 obtain ⟨z0,z1,⟨c,d,z2⟩,z3,z4⟩:=st
 exact ⟨k _ (by simp) _ z0,k _ (by simp) _ z1,⟨c,d,k _ (by simp) _ z2⟩,z3.at fun o e=>k _ (by simp) o e,z4.at fun o e=>k _ (by simp) o e⟩
theorem yCD {P:Program}{w:World}{K:PySem.W.Frag}{elts:List Expr}{x1} {tp:Pos}(a b n:Addr):Turn P w K (.Tuple elts x1 tp) (Itz K a b) (zfp n) (n+4) (ZSt n a b) where
 mem:=by simp
 obj:=fun i h st c hc=>by
  obtain ⟨z0,z1,⟨c,d,z2⟩,⟨o3,e3,c3,d3⟩,⟨o4,e4,c4,d4⟩⟩:=st
  simp only [zfp,List.mem_cons,List.not_mem_nil,or_false] at hc
  rcases hc with rfl|rfl|rfl|rfl|rfl
  .exact ⟨_,z0,fun v z=>by have z':Data.fields _=Data.cell v:=z;cases z'⟩
  .exact ⟨_,z1,fun v z=>by have z':Data.seq _ _=Data.cell v:=z;cases z'⟩
  .exact ⟨_,z2,fun v z=>by have z':Data.seq _ _=Data.cell v:=z;cases z'⟩
  .exact ⟨_,e3,fun v z=>by rw [d3] at z;cases z⟩
  .exact ⟨_,e4,fun v z=>by rw [d4] at z;cases z⟩
 keep:=fun i h h' st k=>st.keep k
 item:=by
  intro X hP hw hK hc i pins s σ H E I hf st hg
  subst hP hw hK
  obtain ⟨xs,ys,x,y,hx,hy,ex,ey⟩:=hg
  obtain ⟨its,rv,p,hz⟩:=I.list hx
  obtain ⟨its',rv',p',hz'⟩:=I.list hy
  obtain ⟨u,hu,ru⟩:=rv.get ex
  obtain ⟨u',hu',ru'⟩:=rv'.get ey
  have D:=st.ap p.isList p'.isList
  obtain ⟨z0,z1,⟨c0,d0,z2⟩,z3,z4⟩:=st
  refine wpAny_pyNext_zip_item D z0 z1 z2 z3 z4 p.isList p'.isList (x:=u) (y:=u') (by simpa using hu) (by simpa using hu') fun h' a1 a2 a3 a4 a5 a6 kk=>⟨_,rfl,?_⟩
  refine wpAny_letOwnedTupleGo_zip (s:={ s with heap:=h' }) a1 fun h'' d1 sb=>?_
  have fr:H s.heap.objs.size=none:=I.hok.fresh (Nat.le_refl _)
  have lts:∀ c∈zfp n,c≠s.heap.objs.size:=by
   intro c hc
   simp only [zfp,List.mem_cons,List.not_mem_nil,or_false] at hc
   rcases hc with rfl|rfl|rfl|rfl|rfl
   .exact Nat.ne_of_lt (Heap.lt_size z0)
   .exact Nat.ne_of_lt (Heap.lt_size z1)
   .exact Nat.ne_of_lt (Heap.lt_size z2)
   .obtain ⟨_,e,_⟩:=z3;exact Nat.ne_of_lt (Heap.lt_size e)
   .obtain ⟨_,e,_⟩:=z4;exact Nat.ne_of_lt (Heap.lt_size e)
  have I1:Inv X pins σ (upd H s.heap.objs.size (.tup [x,y])) { s with heap:=s.heap.push { cls:=.type "tuple",data:=.seq #[u,u'] } } :=
   I.laid (t':=s.toks) (fun b o e=>Heap.get?_push_of_some _ e) (Nat.le_refl _) ⟨Nat.le_of_lt (ytm (show [x,y].length<=1000 by simp)),[u,u'],.cons ru (.cons ru' .nil),⟨_,Heap.get?_push_size _ rfl,rfl,_,rfl⟩⟩
  have hf':∀ c∈zfp n,yBg X pins (upd H s.heap.objs.size (.tup [x,y])) c:=fun c hc=>⟨by rw [ybV (lts c hc)];exact (hf c hc).1,(hf c hc).2⟩
  have n4:s.heap.objs.size≠n+4:=fun z=>lts (n+4) (by simp) z.symm
  have I2:Inv X pins σ (upd H s.heap.objs.size (.tup [x,y])) { s with heap:=h'' }:=yAg (s:={ s with heap:=s.heap.push { cls:=.type "tuple",data:=.seq #[u,u'] } }) (t':=s.toks) I1 (fun c o hc e=>by
   have hc':c≠n+4/\c≠n+2/\c≠n+3/\c≠n/\c≠n+1:=by simpa [zfp] using hc
   rw [sb.2 c hc'.1]
   by_cases q:c=s.heap.objs.size
   .subst q
    rw [show (s.heap.push { cls:=.type "tuple",data:=.seq #[u,u'] }).get? s.heap.objs.size=_ from Heap.get?_push_size _ rfl] at e
    cases e
    exact a5
   .have hlt:=Heap.lt_size e
    have hlt:c<s.heap.objs.size:=by
     have:c<(s.heap.push { cls:=.type "tuple",data:=.seq #[u,u'] }).objs.size:=hlt
     rw [Heap.size_push] at this
     exact Nat.lt_of_le_of_ne (Nat.le_of_lt_succ this) q
    refine kk c o hc'.1 hc'.2.2.1 hc'.2.2.2.1 hc'.2.2.2.2 ?_
    obtain ⟨e1,e2⟩:=Heap.get?_some_iff.mp e
    refine Heap.get?_some_iff.mpr ⟨?_,e2⟩
    have hne:=Nat.ne_of_lt hlt
    revert e1
    cases hs:s.heap
    rw [hs] at hne
    simp [Heap.push,Array.getElem?_push,hne]) hf'
  have z1':IsPair h'' (n+2) (.ref n) (.ref (n+1)):=sb.extBut _ _ D.TIz (kk _ _ D.TIz D.TITO D.TIi1 D.TIi2 z1)
  exact ⟨.ref s.heap.objs.size,_,I2,rfl,⟨_,x,y,fr,rfl,rfl,fun zs hs=>by rw [I.list_inj hs hx];exact ex,fun zs hs=>by rw [I.list_inj hs hy];exact ey⟩,
   ⟨d1,z1',⟨_,_,sb.extBut _ _ D.TOz a2⟩,a3.extBut sb.extBut D.i1z,a4.extBut sb.extBut D.i2z⟩,fun c hc=>(hf' c hc).1⟩
 done:=by
  intro X hP hw hK hc i pins s σ H E I hf st hg
  subst hP hw hK
  obtain ⟨xs,ys,hx,hy,hl⟩:=hg
  obtain ⟨its,rv,p,hz⟩:=I.list hx
  obtain ⟨its',rv',p',hz'⟩:=I.list hy
  have D:=st.ap p.isList p'.isList
  obtain ⟨z0,z1,⟨c0,d0,z2⟩,z3,z4⟩:=st
  have hl':=rv.length
  exact wpAny_pyNext_zip_end (I.ok.hd hc) D z0 z1 z2 z3 z4 p.isList p'.isList (.inl (by simp;omega)) fun h' kk=>⟨rfl,yAg (t':=s.toks) I (fun c o hc e=>by
   have hc':c≠n+4/\c≠n+2/\c≠n+3/\c≠n/\c≠n+1:=by simpa [zfp] using hc
   exact kk c o hc'.1 hc'.2.2.1 hc'.2.2.2.1 hc'.2.2.2.2 e) hf⟩
 self:=fun _ _ _ _ _ st h=>wpAny_pyIter_zip st.1 h
theorem yIr:bootBuiltins "zip" = some (.type "zip"):=by rfl'
variable {X:Cx}{A:Nat->Addr}{elts:List Expr}{x1:Nat}{tp p pos:Pos}{a b:Expr}{aa:XA}{n:Nat}
theorem yIs {ta:TA}(hg:Gl X "zip") (hm:X.mg "zip" = none) (ha:PA X [a,b] ta) (hs:starEach [a,b] X.env=[(false,eval a X.env),(false,eval b X.env)]) (hs2:starEach [b] X.env=[(false,eval b X.env)]) :
  PI X (.Tuple elts x1 tp) (.Call (.Name "zip" p) [a,b] [] pos) (yMw X.K ta):=by
 intro pins s σ H R I h
 refine Call_ (ytd I hg hm yIr (PyProof.Rows.callWith_type1 (thn (ha pos pins s σ H _ I h) fun us s1 ⟨vs,H1,I1,r1,q1⟩=>?_) (by rw [hs,hs2]) (by rw [hs2];rfl)))
 obtain ⟨l1,l2,e,⟨xs,hx⟩,⟨ys,hy⟩,q⟩:=q1
 subst e
 cases r1 with
 | cons r rr =>
  cases rr with
  | cons r' rr =>
   cases rr
   cases r
   cases r'
   obtain ⟨its,rv,p,hz⟩:=I1.list hx
   obtain ⟨its',rv',p',hz'⟩:=I1.list hy
   refine call_zip_2 p.isList p'.isList fun h' c1 c2 c3 c4 c5 c6 kk=>?_
   have I2:Inv X pins σ H1 { s1 with heap:=h' }:=I1.kept (t':=s1.toks) kk
   refine wpAny_pyIter_zip (s:={ s1 with heap:=h' }) c1 ⟨_,zfp s1.heap.objs.size,_,_,H1,rfl,I2,yCD l1 l2 _,⟨c1,c2,⟨_,_,c3⟩,c4,c5⟩,fun c hc=>?_,q⟩
   have:s1.heap.objs.size<=c:=by
    simp only [zfp,List.mem_cons,List.not_mem_nil,or_false] at hc
    rcases hc with rfl|rfl|rfl|rfl|rfl
    .exact Nat.le_add_right _ _
    .exact Nat.le_add_right _ _
    .exact Nat.le_add_right _ _
    .exact Nat.le_refl _
    .exact Nat.le_add_right _ _
   obtain ⟨f0,f1,f2,f3,f4,f5⟩:=I1.fpOk this (I1.hok.fresh this)
   exact ⟨f0,f1,f2,f3,f4,f5⟩
theorem yFM {rest:List Stmt}{s:XS}{y:XG}{q:Pos}(hp:PassesOwn (model X.prog X.w) X.A X.env X.xe) (hc:X.calm=true) (hgl:Gl X "zip") (hm:X.mg "zip" = none) (ha:ZA X A [a,b] n aa) (hs1:starEach [a,b] X.env=[(false,eval a X.env),(false,eval b X.env)]) (hs2:starEach [b] X.env=[(false,eval b X.env)])
  (hg:ZG X A (.Tuple elts x1 tp) y) (hb:ZSs X A rest s) (hs:∀ x,foldedSetIterable (.Call (.Name "zip" p) [a,b] [] pos) X.env x=pure x):ZS X A (.For (.Tuple elts x1 tp) (.Call (.Name "zip" p) [a,b] [] pos) rest [] q) (ytb (xIZ aa) y s) :=
 wS (yyT hp hc (yIs hgl hm ha.of hs1 hs2) hg.of hb.of hs) (yCy (K:=ckX X A) (yCx sA) sG sS)
end
section
variable {X:Cx}{A:Nat->Addr}{pos:Pos}
theorem yIt {i j n:Nat}{x y:Str}{a b:Expr}{aa:XA}{px py pt:Pos}{kt k2 pt2} (hc:X.calm=true) (hN:X.N.Nodup) (hi:X.N[i]?=some x) (hj:X.N[j]?=some y) (hij:i≠j) (hx:X.env.scope.names.lookup x=some .local) (hy:X.env.scope.names.lookup y=some .local) (ha:ZA X A [a,b] n aa)
  (hw:swappedStores [.Tuple [.Name x px,.Name y py] kt pt] (.Tuple [a,b] k2 pt2) X.env=pure (some [x,y])) (hs:swapsWithSole [.Tuple [.Name x px,.Name y py] kt pt] (.Tuple [a,b] k2 pt2) pos.line X.env=pure false) :
  ZS X A (.Assign [.Tuple [.Name x px,.Name y py] kt pt] (.Tuple [a,b] k2 pt2) pos) (ydI (ysc aa) (yyF 2 (ykY (yw i) (ykY (yw j) yBh)))):=wS (yGU hc hN hi hj hij hx hy ha.of hw hs) (yFC (K:=ckX X A) sA)
end
end PX
namespace PX
open PySem L2 PySem.Spec PyProof.Rows
section
variable {X:Cx}{A:Nat->Addr}{a:Expr}{es:List Expr}{p pos:Pos}{x:Str}{aa:XA}{n lv:Nat}{f:Addr}{fd:FuncData}{ps:List Str}{fn:Fn}
theorem yAh (F:FnOk X.prog X.w X.K X.mg X.base CX0 lv f fd ps (spE (ckX X A) (n+1) fn)) (hr:Room lv X.A) (m:Nm x) (hg:Gl X x) (hm:X.mg x=some (.ref f)) (hk:keepIn X.K (.ref f)=true) (hb:Binds X.K fd ps [])
  (ha:ZA X A (a::es) (n+1) aa) (he:starEach (a::es) X.env=(false,eval a X.env)::starEach es X.env) (hpl:(backTo pos (starEach es X.env)).any (·.1)=false):ZE X A (.Call (.Name x p) (a::es) [] pos) (yrA fn aa) :=
 wE (yzg F hr hg hm hk hb .nil yxB ha.of m.d he hpl) (yzZ sA ha.len)
end
end PX
namespace My
open PySem L2 PX
theorem yMx:("":Str).length=0:=by rfl'
theorem yIu:(" ":Str).length=1:=by rfl'
theorem yIv:(" )":Str).length=2:=by rfl'
theorem yMy:(" ; ":Str).length=3:=by rfl'
theorem yIw:(" else ":Str).length=6:=by rfl'
theorem yIx:(" or ":Str).length=4:=by rfl'
theorem yMz:("(":Str).length=1:=by rfl'
theorem yIy:("( ":Str).length=2:=by rfl'
theorem yMA:(")":Str).length=1:=by rfl'
theorem yFN:("abcdefgh":Str).length=8:=by rfl'
theorem yFO:("abcdefghijklmnopqrstuvwxyz":Str).length=26:=by rfl'
theorem yLs:("either":Str).length=6:=by rfl'
theorem yFP:("either ":Str).length=7:=by rfl'
theorem yLt:("else":Str).length=4:=by rfl'
theorem yLu:("if":Str).length=2:=by rfl'
theorem yFQ:("if ":Str).length=3:=by rfl'
theorem yLv:("let":Str).length=3:=by rfl'
theorem yLw:("on":Str).length=2:=by rfl'
theorem yLx:("or":Str).length=2:=by rfl'
theorem yLy:("put":Str).length=3:=by rfl'
theorem yLz:("take":Str).length=4:=by rfl'
theorem yLA:("throw":Str).length=5:=by rfl'
theorem yLB:("try":Str).length=3:=by rfl'
theorem yLC:("wait":Str).length=4:=by rfl'
theorem yDS {f:Nat->Fn}{h:AH}:yod "long" f (.ins 0 [] []) h=f 0 [.ins 0 [] []] h:=ygk (by rfl')
theorem yvH {v0 v1:PV}{h:AH}:ykU [1,2,3,4,5,7,8] "slot" (.ins 1 ["slot","number"] [v0,v1]) h=some (v0,h):=ycX (by decide) (by rfl') (by rw [show List.idxOf ("slot":Str) ["slot","number"]=0 by rfl'];rfl)
theorem ysm {v0 v1:PV}{h:AH}:ykU [1] "number" (.ins 1 ["slot","number"] [v0,v1]) h=some (v1,h):=ycX (by decide) (by rfl') (by rw [show List.idxOf ("number":Str) ["slot","number"]=1 by rfl'];rfl)
theorem yFR {v0 v1:PV}{f:Nat->Fn}{h:AH}:yod "long" f (.ins 1 ["slot","number"] [v0,v1]) h=f 1 [.ins 1 ["slot","number"] [v0,v1]] h:=ygk (by rfl')
theorem yFS {x:PV}{ρ:PSt}{h:AH}:yxJ [1,2,3,4,5,7,8] 0 "slot" (.own (.ins 1 [] [])::ρ) x h=some (.nx (.own (.ins 1 ["slot"] [x])::ρ),h):=ymr (by decide) (by decide) (by rfl')
theorem yqU {v0 v1 v2 v3:PV}{h:AH}:ykU [2] "word" (.ins 2 ["word","slot","one","other"] [v0,v1,v2,v3]) h=some (v0,h):=ycX (by decide) (by rfl') (by rw [show List.idxOf ("word":Str) ["word","slot","one","other"]=0 by rfl'];rfl)
theorem yqV {v0 v1 v2 v3:PV}{h:AH}:ykU [1,2,3,4,5,7,8] "slot" (.ins 2 ["word","slot","one","other"] [v0,v1,v2,v3]) h=some (v1,h):=ycX (by decide) (by rfl') (by rw [show List.idxOf ("slot":Str) ["word","slot","one","other"]=1 by rfl'];rfl)
theorem ysn {v0 v1 v2 v3:PV}{h:AH}:ykU [2] "one" (.ins 2 ["word","slot","one","other"] [v0,v1,v2,v3]) h=some (v2,h):=ycX (by decide) (by rfl') (by rw [show List.idxOf ("one":Str) ["word","slot","one","other"]=2 by rfl'];rfl)
theorem ypQ {v0 v1 v2 v3:PV}{h:AH}:ykU [2] "other" (.ins 2 ["word","slot","one","other"] [v0,v1,v2,v3]) h=some (v3,h):=ycX (by decide) (by rfl') (by rw [show List.idxOf ("other":Str) ["word","slot","one","other"]=3 by rfl'];rfl)
theorem yBm {v0 v1 v2 v3:PV}{f:Nat->Fn}{h:AH}:yod "long" f (.ins 2 ["word","slot","one","other"] [v0,v1,v2,v3]) h=f 2 [.ins 2 ["word","slot","one","other"] [v0,v1,v2,v3]] h:=ygk (by rfl')
theorem ytX {v0 v1:PV}{h:AH}:ykU [1,2,3,4,5,7,8] "slot" (.ins 3 ["slot","place"] [v0,v1]) h=some (v0,h):=ycX (by decide) (by rfl') (by rw [show List.idxOf ("slot":Str) ["slot","place"]=0 by rfl'];rfl)
theorem yso {v0 v1:PV}{h:AH}:ykU [3,4] "place" (.ins 3 ["slot","place"] [v0,v1]) h=some (v1,h):=ycX (by decide) (by rfl') (by rw [show List.idxOf ("place":Str) ["slot","place"]=1 by rfl'];rfl)
theorem yDT {v0 v1:PV}{f:Nat->Fn}{h:AH}:yod "long" f (.ins 3 ["slot","place"] [v0,v1]) h=f 3 [.ins 3 ["slot","place"] [v0,v1]] h:=ygk (by rfl')
theorem ytY {v0 v1:PV}{h:AH}:ykU [3,4] "place" (.ins 4 ["place","slot"] [v0,v1]) h=some (v0,h):=ycX (by decide) (by rfl') (by rw [show List.idxOf ("place":Str) ["place","slot"]=0 by rfl'];rfl)
theorem yvI {v0 v1:PV}{h:AH}:ykU [1,2,3,4,5,7,8] "slot" (.ins 4 ["place","slot"] [v0,v1]) h=some (v1,h):=ycX (by decide) (by rfl') (by rw [show List.idxOf ("slot":Str) ["place","slot"]=1 by rfl'];rfl)
theorem yFT {v0 v1:PV}{f:Nat->Fn}{h:AH}:yod "long" f (.ins 4 ["place","slot"] [v0,v1]) h=f 4 [.ins 4 ["place","slot"] [v0,v1]] h:=ygk (by rfl')
theorem yxP {v0 v1 v2:PV}{h:AH}:ykU [1,2,3,4,5,7,8] "slot" (.ins 5 ["slot","parts","others"] [v0,v1,v2]) h=some (v0,h):=ycX (by decide) (by rfl') (by rw [show List.idxOf ("slot":Str) ["slot","parts","others"]=0 by rfl'];rfl)
theorem yvJ {v0 v1 v2:PV}{h:AH}:ykU [5,6,7] "parts" (.ins 5 ["slot","parts","others"] [v0,v1,v2]) h=some (v1,h):=ycX (by decide) (by rfl') (by rw [show List.idxOf ("parts":Str) ["slot","parts","others"]=1 by rfl'];rfl)
theorem ytZ {v0 v1 v2:PV}{h:AH}:ykU [5,6,7] "others" (.ins 5 ["slot","parts","others"] [v0,v1,v2]) h=some (v2,h):=ycX (by decide) (by rfl') (by rw [show List.idxOf ("others":Str) ["slot","parts","others"]=2 by rfl'];rfl)
theorem yGx {v0 v1 v2:PV}{f:Nat->Fn}{h:AH}:yod "long" f (.ins 5 ["slot","parts","others"] [v0,v1,v2]) h=f 5 [.ins 5 ["slot","parts","others"] [v0,v1,v2]] h:=ygk (by rfl')
theorem yxQ {x:PV}{ρ:PSt}{h:AH}:yxJ [1,2,3,4,5,7,8] 0 "slot" (.own (.ins 5 [] [])::ρ) x h=some (.nx (.own (.ins 5 ["slot"] [x])::ρ),h):=ymr (by decide) (by decide) (by rfl')
theorem yvK {v0:PV}{x:PV}{ρ:PSt}{h:AH}:yxJ [5,6,7] 0 "parts" (.own (.ins 5 ["slot"] [v0])::ρ) x h=some (.nx (.own (.ins 5 ["slot","parts"] [v0,x])::ρ),h):=ymr (by decide) (by decide) (by rfl')
theorem yua {v0 v1:PV}{x:PV}{ρ:PSt}{h:AH}:yxJ [5,6,7] 0 "others" (.own (.ins 5 ["slot","parts"] [v0,v1])::ρ) x h=some (.nx (.own (.ins 5 ["slot","parts","others"] [v0,v1,x])::ρ),h):=ymr (by decide) (by decide) (by rfl')
theorem ypR {v0 v1:PV}{h:AH}:ykU [5,6,7] "parts" (.ins 6 ["parts","others"] [v0,v1]) h=some (v0,h):=ycX (by decide) (by rfl') (by rw [show List.idxOf ("parts":Str) ["parts","others"]=0 by rfl'];rfl)
theorem ypb {v0 v1:PV}{h:AH}:ykU [5,6,7] "others" (.ins 6 ["parts","others"] [v0,v1]) h=some (v1,h):=ycX (by decide) (by rfl') (by rw [show List.idxOf ("others":Str) ["parts","others"]=1 by rfl'];rfl)
theorem yBn {v0 v1:PV}{f:Nat->Fn}{h:AH}:yod "long" f (.ins 6 ["parts","others"] [v0,v1]) h=f 6 [.ins 6 ["parts","others"] [v0,v1]] h:=ygk (by rfl')
theorem ypS {x:PV}{ρ:PSt}{h:AH}:yxJ [5,6,7] 0 "parts" (.own (.ins 6 [] [])::ρ) x h=some (.nx (.own (.ins 6 ["parts"] [x])::ρ),h):=ymr (by decide) (by decide) (by rfl')
theorem ypc {v0:PV}{x:PV}{ρ:PSt}{h:AH}:yxJ [5,6,7] 0 "others" (.own (.ins 6 ["parts"] [v0])::ρ) x h=some (.nx (.own (.ins 6 ["parts","others"] [v0,x])::ρ),h):=ymr (by decide) (by decide) (by rfl')
theorem yub {v0 v1 v2 v3:PV}{h:AH}:ykU [5,6,7] "parts" (.ins 7 ["parts","name","slot","others"] [v0,v1,v2,v3]) h=some (v0,h):=ycX (by decide) (by rfl') (by rw [show List.idxOf ("parts":Str) ["parts","name","slot","others"]=0 by rfl'];rfl)
theorem yvL {v0 v1 v2 v3:PV}{h:AH}:ykU [7,8] "name" (.ins 7 ["parts","name","slot","others"] [v0,v1,v2,v3]) h=some (v1,h):=ycX (by decide) (by rfl') (by rw [show List.idxOf ("name":Str) ["parts","name","slot","others"]=1 by rfl'];rfl)
theorem yvM {v0 v1 v2 v3:PV}{h:AH}:ykU [1,2,3,4,5,7,8] "slot" (.ins 7 ["parts","name","slot","others"] [v0,v1,v2,v3]) h=some (v2,h):=ycX (by decide) (by rfl') (by rw [show List.idxOf ("slot":Str) ["parts","name","slot","others"]=2 by rfl'];rfl)
theorem ysp {v0 v1 v2 v3:PV}{h:AH}:ykU [5,6,7] "others" (.ins 7 ["parts","name","slot","others"] [v0,v1,v2,v3]) h=some (v3,h):=ycX (by decide) (by rfl') (by rw [show List.idxOf ("others":Str) ["parts","name","slot","others"]=3 by rfl'];rfl)
theorem yFU {v0 v1 v2 v3:PV}{f:Nat->Fn}{h:AH}:yod "long" f (.ins 7 ["parts","name","slot","others"] [v0,v1,v2,v3]) h=f 7 [.ins 7 ["parts","name","slot","others"] [v0,v1,v2,v3]] h:=ygk (by rfl')
theorem yuc {x:PV}{ρ:PSt}{h:AH}:yxJ [5,6,7] 0 "parts" (.own (.ins 7 [] [])::ρ) x h=some (.nx (.own (.ins 7 ["parts"] [x])::ρ),h):=ymr (by decide) (by decide) (by rfl')
theorem yvN {v0:PV}{x:PV}{ρ:PSt}{h:AH}:yxJ [7,8] 0 "name" (.own (.ins 7 ["parts"] [v0])::ρ) x h=some (.nx (.own (.ins 7 ["parts","name"] [v0,x])::ρ),h):=ymr (by decide) (by decide) (by rfl')
theorem yvO {v0 v1:PV}{x:PV}{ρ:PSt}{h:AH}:yxJ [1,2,3,4,5,7,8] 0 "slot" (.own (.ins 7 ["parts","name"] [v0,v1])::ρ) x h=some (.nx (.own (.ins 7 ["parts","name","slot"] [v0,v1,x])::ρ),h):=ymr (by decide) (by decide) (by rfl')
theorem ysq {v0 v1 v2:PV}{x:PV}{ρ:PSt}{h:AH}:yxJ [5,6,7] 0 "others" (.own (.ins 7 ["parts","name","slot"] [v0,v1,v2])::ρ) x h=some (.nx (.own (.ins 7 ["parts","name","slot","others"] [v0,v1,v2,x])::ρ),h):=ymr (by decide) (by decide) (by rfl')
theorem ysr {v0 v1:PV}{h:AH}:ykU [7,8] "name" (.ins 8 ["name","slot"] [v0,v1]) h=some (v0,h):=ycX (by decide) (by rfl') (by rw [show List.idxOf ("name":Str) ["name","slot"]=0 by rfl'];rfl)
theorem yss {v0 v1:PV}{h:AH}:ykU [1,2,3,4,5,7,8] "slot" (.ins 8 ["name","slot"] [v0,v1]) h=some (v1,h):=ycX (by decide) (by rfl') (by rw [show List.idxOf ("slot":Str) ["name","slot"]=1 by rfl'];rfl)
theorem yCE {v0 v1:PV}{f:Nat->Fn}{h:AH}:yod "long" f (.ins 8 ["name","slot"] [v0,v1]) h=f 8 [.ins 8 ["name","slot"] [v0,v1]] h:=ygk (by rfl')
theorem yAi {v0 v1:PV}{h:AH}:ykU [10] "words" (.ins 10 ["words","at"] [v0,v1]) h=some (v0,h):=ycX (by decide) (by rfl') (by rw [show List.idxOf ("words":Str) ["words","at"]=0 by rfl'];rfl)
theorem yDU {v0 v1:PV}{h:AH}:ykU [10] "at" (.ins 10 ["words","at"] [v0,v1]) h=some (v1,h):=ycX (by decide) (by rfl') (by rw [show List.idxOf ("at":Str) ["words","at"]=1 by rfl'];rfl)
section
local macro_rules | `(tactic| simp_all? only [$ls,*])=>`(tactic| simp only [yha,yKt,yKu,yDL,yHK,x_c,yMI,yKw,yMJ,yMK,yFn,yHL,yHM,yHN,yKx,yML,yKy,yMM,yKz,yHO,yKA,yKB,yMN,yKC,yKD,yKE,x_call,yMO,yKF,yMP,yFo,yHP,yFp,yHQ,yKG,yKH,yKI,yHR,yKJ,yKK,yKL,yHS,yHT,yHU,yFq,yHV,yKM,yKN,yKO,yKP,yKQ,yKR,yKS,yKT,x_i,yMQ,yKU,yHX,yDM,yHY,yKV,yKW,yKX,yKY,yKZ,yLa,yHZ,ywJ,yLb,yLc,yLd,yLe,yLf,yLg,yLh,yLi,yIa,yCo,yIb,yIc,yFr,yFs,yFt,yId,yKv,Option.bind_some,Option.bind_none,List.set_cons_zero,List.set_cons_succ,List.length_cons,List.length_nil,decide_eq_true_eq,Bool.not_eq_true',decide_eq_false_iff_not,if_true,if_false,ite_true,ite_false,and_self,Int.reducePow,Int.reduceToNat,Int.reduceLT,Int.reduceLE,Int.reduceNeg,Int.reduceAdd,Int.reduceSub,Nat.reduceLT,Nat.reduceLeDiff,Nat.reduceAdd,true_and,and_true,reduceIte,Nat.reduceEqDiff,eq_self,yxK,yCq,yFx,yFy,yJL,yLk,yLl,yLm,yLn,Int.reduceEq,Bool.not_true,Bool.not_false,yIu,yIv,yIw,yIx,yIy,yFN,yFO,yFP,yFQ,yvH,ysm,yqU,yqV,ysn,ypQ,ytX,yso,ytY,yvI,yxP,yvJ,ytZ,yxQ,yvK,yua,ypR,ypb,ypS,ypc,yub,yvL,yvM,ysp,yuc,yvN,yvO,ysq,ysr,yss,$ls,*])
local macro_rules | `(tactic| walk_at "px")=>`(tactic| simp_all? only [yha])
noncomputable def ycY:List (Nat×Nat×Bool):=[(1,1,true),(2,2,true),(3,3,true),(4,4,true),(5,5,true),(6,6,true),(7,7,true),(8,8,true),(9,9,true),(1,0,true),(2,0,true),(3,0,true),(4,0,true),(5,0,true),(6,0,true),(7,0,true),(8,0,true),(9,0,true),(1,5,false),(1,6,false),(1,7,false),(2,5,false),(2,6,false),(2,7,false),(3,5,false),(3,6,false),(3,7,false),(4,5,false),(4,6,false),(4,7,false),(8,5,false),(8,6,false),(8,7,false),(9,5,false),(9,6,false),(9,7,false),(6,5,false),(7,5,false),(7,6,false)]
structure Fa (ck:Ck):Prop where
 fl_slot:∀ k∈([1,2,3,4,5,7,8]:List Nat),Cls ck.K (ck.A k)/\NoAttr ck.K (ck.A k) "slot"
 fl_number:∀ k∈([1]:List Nat),Cls ck.K (ck.A k)/\NoAttr ck.K (ck.A k) "number"
 fl_word:∀ k∈([2]:List Nat),Cls ck.K (ck.A k)/\NoAttr ck.K (ck.A k) "word"
 fl_one:∀ k∈([2]:List Nat),Cls ck.K (ck.A k)/\NoAttr ck.K (ck.A k) "one"
 fl_other:∀ k∈([2]:List Nat),Cls ck.K (ck.A k)/\NoAttr ck.K (ck.A k) "other"
 fl_place:∀ k∈([3,4]:List Nat),Cls ck.K (ck.A k)/\NoAttr ck.K (ck.A k) "place"
 fl_name:∀ k∈([7,8]:List Nat),Cls ck.K (ck.A k)/\NoAttr ck.K (ck.A k) "name"
 fl_parts:∀ k∈([5,6,7]:List Nat),Cls ck.K (ck.A k)/\NoAttr ck.K (ck.A k) "parts"
 fl_others:∀ k∈([5,6,7]:List Nat),Cls ck.K (ck.A k)/\NoAttr ck.K (ck.A k) "others"
 fl_words:∀ k∈([10]:List Nat),Cls ck.K (ck.A k)/\NoAttr ck.K (ck.A k) "words"
 fl_at:∀ k∈([10]:List Nat),Cls ck.K (ck.A k)/\NoAttr ck.K (ck.A k) "at"
 isa:∀ r∈ycY,∀ (H:Hp) (a dx:Addr) (fs:List (Str×V)),H a=some (.ins (ck.A r.1) dx fs)->IsI ck.K H (.ref a) (.ref (ck.A r.2.1)) r.2.2
def yhb:List PV->AH->Option (Nd×AH):=yuX 3 1 (yx (yeN [1,2,3,4,5,7,8] 0 "slot" (yk 1)) (yeN [1] 0 "number" (yk 2)))
noncomputable def yfa:List PV->AH->Option (Nd×AH):=yuX 5 2 (yx (yeN [2] 0 "word" (yk 1)) (yx (yeN [1,2,3,4,5,7,8] 0 "slot" (yk 2)) (yx (yeN [2] 0 "one" (yk 3)) (yeN [2] 0 "other" (yk 4)))))
def ygm:List PV->AH->Option (Nd×AH):=yuX 3 3 (yx (yeN [1,2,3,4,5,7,8] 0 "slot" (yk 1)) (yeN [3,4] 0 "place" (yk 2)))
def yhc:List PV->AH->Option (Nd×AH):=yuX 3 4 (yx (yeN [3,4] 0 "place" (yk 1)) (yeN [1,2,3,4,5,7,8] 0 "slot" (yk 2)))
noncomputable def yhV:List PV->AH->Option (Nd×AH):=yuX 4 5 (yx (yeN [1,2,3,4,5,7,8] 0 "slot" (yk 1)) (yx (yeN [5,6,7] 0 "parts" (xFz (ytG (yez) (yd (yk 2) (yu))))) (yeN [5,6,7] 0 "others" (xFz (ytG (yez) (yd (yk 3) (yu)))))))
noncomputable def yfb:List PV->AH->Option (Nd×AH):=yuX 3 6 (yx (yeN [5,6,7] 0 "parts" (xFz (ytG (yez) (yd (yk 1) (yu))))) (yeN [5,6,7] 0 "others" (xFz (ytG (yez) (yd (yk 2) (yu))))))
noncomputable def yhd:List PV->AH->Option (Nd×AH):=yuX 5 7 (yx (yeN [5,6,7] 0 "parts" (xFz (ytG (yez) (yd (yk 1) (yu))))) (yx (yeN [7,8] 0 "name" (yk 2)) (yx (yeN [1,2,3,4,5,7,8] 0 "slot" (yk 3)) (yeN [5,6,7] 0 "others" (xFz (ytG (yez) (yd (yk 4) (yu))))))))
def yfE:List PV->AH->Option (Nd×AH):=yuX 3 8 (yx (yeN [7,8] 0 "name" (yk 1)) (yeN [1,2,3,4,5,7,8] 0 "slot" (yk 2)))
def ymB:Fn:=ygJ 1 (ycc (xC (.int 0)))
def yof:Fn:=ygJ 1 (ycc (xC (.int 1)))
def ykc:Fn:=ygJ 1 (ycc (xC (.int 1)))
def ymC:Fn:=ygJ 1 (ycc (xC (.int 1)))
def yog:Fn:=ygJ 1 (ycc (xC (.int 1)))
def ylc:Fn:=ygJ 1 (ycc (xC (.int 1)))
def ymD:Fn:=ygJ 1 (ycc (xC (.int 1)))
noncomputable def yeO:List PV->AH->Option (Nd×AH):=yuX 4 5 (yx (yeN [1,2,3,4,5,7,8] 0 "slot" (yk 1)) (yx (yeN [5,6,7] 0 "parts" (yuV (ytG (yez) (yd (yk 2) (yu))))) (yeN [5,6,7] 0 "others" (yuV (ytG (yez) (yd (yk 3) (yu)))))))
noncomputable def ycZ:List PV->AH->Option (Nd×AH):=yuX 3 6 (yx (yeN [5,6,7] 0 "parts" (yuV (ytG (yez) (yd (yk 1) (yu))))) (yeN [5,6,7] 0 "others" (yuV (ytG (yez) (yd (yk 2) (yu))))))
noncomputable def yew:List PV->AH->Option (Nd×AH):=yuX 5 7 (yx (yeN [5,6,7] 0 "parts" (yuV (ytG (yez) (yd (yk 1) (yu))))) (yx (yeN [7,8] 0 "name" (yk 2)) (yx (yeN [1,2,3,4,5,7,8] 0 "slot" (yk 3)) (yeN [5,6,7] 0 "others" (yuV (ytG (yez) (yd (yk 4) (yu))))))))
mutual
noncomputable def yoG:Nat->Nat->Fn
 | 0,_=>fun _ _=>none
 | n+1,k=>match k with|0=>ymB|1=>yof|2=>ykc|3=>ymC|4=>yog|5=>yno n|6=>yhW n|7=>ylR n|8=>ylc|9=>ymD|_=>fun _ _=>none
noncomputable def ych:Nat->Fn
 | 0=>fun _ _=>none
 | n+1=>ygJ 1 (ycc (xCB (yCi) (yd (xFz (ysg (xIL (yk 0)) [] (ysi "long" (yoG n) (yk 0)))) (yu))))
noncomputable def yno:Nat->Fn
 | 0=>fun _ _=>none
 | n+1=>ygJ 1 (ycc (xOp ynj (xOp ynj (xC (.int 2)) (ybJ (ych n) (yd (yjI [5,6,7] "parts" (yk 0)) (yu)))) (ybJ (ych n) (yd (yjI [5,6,7] "others" (yk 0)) (yu)))))
noncomputable def yhW:Nat->Fn
 | 0=>fun _ _=>none
 | n+1=>ygJ 1 (ycc (xOp ynj (xOp ynj (xC (.int 3)) (ybJ (ych n) (yd (yjI [5,6,7] "parts" (yk 0)) (yu)))) (ybJ (ych n) (yd (yjI [5,6,7] "others" (yk 0)) (yu)))))
noncomputable def ylR:Nat->Fn
 | 0=>fun _ _=>none
 | n+1=>ygJ 1 (ycc (xOp ynj (xOp ynj (xC (.int 3)) (ybJ (ych n) (yd (yjI [5,6,7] "parts" (yk 0)) (yu)))) (ybJ (ych n) (yd (yjI [5,6,7] "others" (yk 0)) (yu)))))
end
def yeP:Fn:=ygJ 2 (ycc (xCB (yHJ) (yd (xFz (ysg (xIS (yk 0)) [1] (xOp (yHD) (yk 0) (yk 1)))) (yu))))
noncomputable def yiu:Fn:=ygJ 2 (yx (ydg (xOr (ypo (yF (yrt (oLe) (oLe) (xC (.int 1)) (xCB (yxI) (yd (yk 0) (yu))) (xC (.int 20))))) (ypo (yF (ybJ yeP (yd (yk 0) (yd (xC (.str "0123456789")) (yu))))))) (ycc (xC .non)) (yby)) (yx (ydg (yyE (yF (xOp (oEq) (xOp (yFj) (yk 0) (xC (.int 0))) (xC (.str "0")))) (yF (xOp (oNe) (yk 0) (xC (.str "0"))))) (ycc (xC .non)) (yby)) (yx (ydI (xCB (yzL) (yd (yk 0) (yu))) (yw 1)) (ycc (xIf (yF (xOp (oLt) (yk 1) (xC (.int 18446744073709551616)))) (yk 1) (xC .non))))))
noncomputable def ynp:Fn:=ygJ 1 (ycc (xOp (yzQ false) (yk 0) (xC (.tup [.str "plus",.str "minus",.str "times",.str "less",.str "same"]))))
noncomputable def yle:Fn:=ygJ 1 (ycc (ypD (xOp (oEq) (xCB (yxI) (yd (yk 0) (yu))) (xC (.int 1))) (xOp (yHD) (yk 0) (xC (.str "abcdefgh")))))
noncomputable def ylf:Fn:=ygJ 1 (ycc (ypD (yrt (oLe) (oLe) (xC (.int 1)) (xCB (yxI) (yd (yk 0) (yu))) (xC (.int 8))) (ybJ yeP (yd (yk 0) (yd (xC (.str "abcdefghijklmnopqrstuvwxyz")) (yu))))))
noncomputable def yci:List PV->AH->Option (Nd×AH):=yuX 2 10 (yx (yeN [10] 0 "words" (xFz (ytG (yez) (yd (yk 1) (yu))))) (yeN [10] 0 "at" (xC (.int 0))))
noncomputable def ygQ:Fn:=ygJ 1 (yx (ydg (yF (xOp (oEq) (yk 0) (xC (.str "")))) (ycc (xFz (ymp (yu)))) (yby)) (ycc (xBM isStr (ytR) (yk 0) (yd (xC (.str " ")) (yu)))))
noncomputable def yD:Fn:=ygJ 1 (yx (ydg (yF (xOp (oLt) (yjI [10] "at" (yk 0)) (xCB (yvx) (yd (yjI [10] "words" (yk 0)) (yu))))) (ycc (xOp (yzI) (yjI [10] "words" (yk 0)) (yjI [10] "at" (yk 0)))) (yby)) (ycc (xC .non)))
noncomputable def yX:Fn:=ygJ 2 (yx (ydI (yA 10 "ahead" yD (yk 0) (yu)) (yw 1)) (yx (ydg (yF (xOp (yFi) (yk 1) (xC .non))) (ynm) (yby)) (yx (yzU [10] "at" (yk 0) (xOp ynj (yjI [10] "at" (yk 0)) (xC (.int 1)))) (ycc (yk 1)))))
def yp:Fn:=ygJ 3 (yx (ydI (yA 10 "taken" yX (yk 0) (yu)) (yw 2)) (ydg (yF (xOp (oNe) (yk 2) (yk 1))) (ynm) (yby)))
noncomputable def ym:Fn:=ygJ 2 (yx (ydI (yA 10 "taken" yX (yk 0) (yu)) (yw 1)) (yx (ydg (ypo (yF (ybJ yle (yd (yk 1) (yu))))) (ynm) (yby)) (ycc (yk 1))))
noncomputable def ybh:Fn:=ygJ 2 (yx (ydI (yA 10 "taken" yX (yk 0) (yu)) (yw 1)) (yx (ydg (ypo (yF (ybJ ylf (yd (yk 1) (yu))))) (ynm) (yby)) (ycc (yk 1))))
noncomputable def ycz:Fn:=ygJ 3 (yx (ydI (yA 10 "taken" yX (yk 0) (yu)) (yw 1)) (yx (ydI (ybJ yiu (yd (yk 1) (yu))) (yw 2)) (yx (ydg (yF (xOp (yFi) (yk 2) (xC .non))) (ynm) (yby)) (ycc (yk 2)))))
noncomputable def ycA:Fn:=ygJ 5 (yx (ydI (yA 10 "slot_taken" ym (yk 0) (yu)) (yw 2)) (yx (ydI (yA 10 "slot_taken" ym (yk 0) (yu)) (yw 3)) (yx (ydI (yA 10 "slot_taken" ym (yk 0) (yu)) (yw 4)) (ycc (xFz (ymd yfa (yd (yk 1) (yd (yk 2) (yd (yk 3) (yd (yk 4) (yu)))))))))))
noncomputable def ybL:Fn:=ygJ 5 (yx (ydg (yF (xOp (oEq) (yk 1) (xC (.str "let")))) (yx (ydI (yA 10 "slot_taken" ym (yk 0) (yu)) (yw 2)) (ycc (xFz (ymd yhb (yd (yk 2) (yd (yA 10 "number_taken" ycz (yk 0) (yu)) (yu))))))) (yby)) (yx (ydg (yF (xOp (oEq) (yk 1) (xC (.str "take")))) (yx (ydI (yA 10 "slot_taken" ym (yk 0) (yu)) (yw 2)) (ycc (xFz (ymd ygm (yd (yk 2) (yd (yA 10 "slot_taken" ym (yk 0) (yu)) (yu))))))) (yby)) (yx (ydg (yF (xOp (oEq) (yk 1) (xC (.str "put")))) (yx (ydI (yA 10 "slot_taken" ym (yk 0) (yu)) (yw 3)) (ycc (xFz (ymd yhc (yd (yk 3) (yd (yA 10 "slot_taken" ym (yk 0) (yu)) (yu))))))) (yby)) (yx (ydg (yF (xOp (oEq) (yk 1) (xC (.str "throw")))) (yx (ydI (yA 10 "name_taken" ybh (yk 0) (yu)) (yw 4)) (ycc (xFz (ymd yfE (yd (yk 4) (yd (yA 10 "slot_taken" ym (yk 0) (yu)) (yu))))))) (yby)) (yx (ydg (yF (xOp (oEq) (yk 1) (xC (.str "wait")))) (ycc (xFz (yrz 9))) (yby)) (yx (ydg (yF (ybJ ynp (yd (yk 1) (yu)))) (ycc (yA 10 "reckon_taken" ycA (yk 0) (yd (yk 1) (yu)))) (yby)) (ynm)))))))
mutual
noncomputable def ycj:Nat->Fn
 | 0=>fun _ _=>none
 | n+1=>ygJ 3 (yx (ydg (xOr (yF (xOp (yFi) (yA 10 "ahead" yD (yk 0) (yu)) (xC .non))) (yF (xOp (oEq) (yA 10 "ahead" yD (yk 0) (yu)) (xC (.str ")"))))) (ycc (xFz (ymp (yu)))) (yby)) (yx (yzx (ymp (yd (yA 10 "part_taken" (yY n) (yk 0) (yd (yk 1) (yu))) (yu))) 2) (yx (yoE 100 (yF (xOp (oEq) (yA 10 "ahead" yD (yk 0) (yu)) (xC (.str ";")))) (yx (yiW (yA 10 "pass_over" yp (yk 0) (yd (xC (.str ";")) (yu)))) (ymy 2 (yA 10 "part_taken" (yY n) (yk 0) (yd (yk 1) (yu)))))) (yHx 2 (ycc (yk 2))))))
noncomputable def yr:Nat->Fn
 | 0=>fun _ _=>none
 | n+1=>ygJ 3 (yx (yiW (yA 10 "pass_over" yp (yk 0) (yd (xC (.str "(")) (yu)))) (yx (ydI (yA 10 "list_taken" (ycj n) (yk 0) (yd (yk 1) (yu))) (yw 2)) (yx (yiW (yA 10 "pass_over" yp (yk 0) (yd (xC (.str ")")) (yu)))) (ycc (yk 2)))))
noncomputable def yY:Nat->Fn
 | 0=>fun _ _=>none
 | n+1=>ygJ 3 (yx (ydg (yF (xOp (oGt) (yk 1) (xC (.int 8)))) (ynm) (yby)) (yx (ydI (yA 10 "taken" yX (yk 0) (yu)) (yw 2)) (yx (ydg (yF (xOp (oEq) (yk 2) (xC (.str "if")))) (ycc (yA 10 "if_taken" (yfc n) (yk 0) (yd (xOp ynj (yk 1) (xC (.int 1))) (yu)))) (yby)) (yx (ydg (yF (xOp (oEq) (yk 2) (xC (.str "either")))) (ycc (yA 10 "either_taken" (ydj n) (yk 0) (yd (xOp ynj (yk 1) (xC (.int 1))) (yu)))) (yby)) (yx (ydg (yF (xOp (oEq) (yk 2) (xC (.str "try")))) (ycc (yA 10 "try_taken" (yeJ n) (yk 0) (yd (xOp ynj (yk 1) (xC (.int 1))) (yu)))) (yby)) (ycc (yA 10 "plain_taken" ybL (yk 0) (yd (yk 2) (yu)))))))))
noncomputable def yfc:Nat->Fn
 | 0=>fun _ _=>none
 | n+1=>ygJ 5 (yx (ydI (yA 10 "slot_taken" ym (yk 0) (yu)) (yw 2)) (yx (ydI (yA 10 "side_taken" (yr n) (yk 0) (yd (yk 1) (yu))) (yw 3)) (yx (yiW (yA 10 "pass_over" yp (yk 0) (yd (xC (.str "else")) (yu)))) (yx (ydI (yA 10 "side_taken" (yr n) (yk 0) (yd (yk 1) (yu))) (yw 4)) (ycc (xFz (ymd yhV (yd (yk 2) (yd (yk 3) (yd (yk 4) (yu)))))))))))
noncomputable def ydj:Nat->Fn
 | 0=>fun _ _=>none
 | n+1=>ygJ 4 (yx (ydI (yA 10 "side_taken" (yr n) (yk 0) (yd (yk 1) (yu))) (yw 2)) (yx (yiW (yA 10 "pass_over" yp (yk 0) (yd (xC (.str "or")) (yu)))) (yx (ydI (yA 10 "side_taken" (yr n) (yk 0) (yd (yk 1) (yu))) (yw 3)) (ycc (xFz (ymd yfb (yd (yk 2) (yd (yk 3) (yu)))))))))
noncomputable def yeJ:Nat->Fn
 | 0=>fun _ _=>none
 | n+1=>ygJ 6 (yx (ydI (yA 10 "side_taken" (yr n) (yk 0) (yd (yk 1) (yu))) (yw 2)) (yx (yiW (yA 10 "pass_over" yp (yk 0) (yd (xC (.str "on")) (yu)))) (yx (ydI (yA 10 "name_taken" ybh (yk 0) (yu)) (yw 3)) (yx (ydI (yA 10 "slot_taken" ym (yk 0) (yu)) (yw 4)) (yx (ydI (yA 10 "side_taken" (yr n) (yk 0) (yd (yk 1) (yu))) (yw 5)) (ycc (xFz (ymd yhd (yd (yk 2) (yd (yk 3) (yd (yk 4) (yd (yk 5) (yu)))))))))))))
end
noncomputable def yud:Fn:=ygJ 3 (yx (ydI (yuV (ymd yci (yd (ybJ ygQ (yd (yk 0) (yu))) (yu)))) (yw 1)) (yx (ydI (yA 10 "list_taken" (ycj 45) (yk 1) (yd (xC (.int 0)) (yu))) (yw 2)) (yx (ydg (yF (xOp (yzG) (yA 10 "ahead" yD (yk 1) (yu)) (xC .non))) (ynm) (yby)) (yx (ydg (yF (xOp (oGt) (xOp ynj (ybJ (ych 45) (yd (yk 2) (yu))) (xC (.int 1))) (xC (.int 80)))) (ynm) (yby)) (ycc (yk 2))))))
noncomputable def yda:Fn:=ygJ 5 (yx (ydI (yA 10 "slot_taken" ym (yk 0) (yu)) (yw 2)) (yx (ydI (yA 10 "side_taken" (yr 45) (yk 0) (yd (yk 1) (yu))) (yw 3)) (yx (yiW (yA 10 "pass_over" yp (yk 0) (yd (xC (.str "else")) (yu)))) (yx (ydI (yA 10 "side_taken" (yr 45) (yk 0) (yd (yk 1) (yu))) (yw 4)) (ycc (yuV (ymd yeO (yd (yk 2) (yd (yk 3) (yd (yk 4) (yu)))))))))))
noncomputable def ybY:Fn:=ygJ 4 (yx (ydI (yA 10 "side_taken" (yr 45) (yk 0) (yd (yk 1) (yu))) (yw 2)) (yx (yiW (yA 10 "pass_over" yp (yk 0) (yd (xC (.str "or")) (yu)))) (yx (ydI (yA 10 "side_taken" (yr 45) (yk 0) (yd (yk 1) (yu))) (yw 3)) (ycc (yuV (ymd ycZ (yd (yk 2) (yd (yk 3) (yu)))))))))
noncomputable def ycI:Fn:=ygJ 6 (yx (ydI (yA 10 "side_taken" (yr 45) (yk 0) (yd (yk 1) (yu))) (yw 2)) (yx (yiW (yA 10 "pass_over" yp (yk 0) (yd (xC (.str "on")) (yu)))) (yx (ydI (yA 10 "name_taken" ybh (yk 0) (yu)) (yw 3)) (yx (ydI (yA 10 "slot_taken" ym (yk 0) (yu)) (yw 4)) (yx (ydI (yA 10 "side_taken" (yr 45) (yk 0) (yd (yk 1) (yu))) (yw 5)) (ycc (yuV (ymd yew (yd (yk 2) (yd (yk 3) (yd (yk 4) (yd (yk 5) (yu)))))))))))))
noncomputable def yC:Fn:=ygJ 3 (yx (ydg (yF (xOp (oGt) (yk 1) (xC (.int 8)))) (ynm) (yby)) (yx (ydI (yA 10 "taken" yX (yk 0) (yu)) (yw 2)) (yx (ydg (yF (xOp (oEq) (yk 2) (xC (.str "if")))) (ycc (yA 10 "if_taken" yda (yk 0) (yd (xOp ynj (yk 1) (xC (.int 1))) (yu)))) (yby)) (yx (ydg (yF (xOp (oEq) (yk 2) (xC (.str "either")))) (ycc (yA 10 "either_taken" ybY (yk 0) (yd (xOp ynj (yk 1) (xC (.int 1))) (yu)))) (yby)) (yx (ydg (yF (xOp (oEq) (yk 2) (xC (.str "try")))) (ycc (yA 10 "try_taken" ycI (yk 0) (yd (xOp ynj (yk 1) (xC (.int 1))) (yu)))) (yby)) (ycc (yA 10 "plain_taken" ybL (yk 0) (yd (yk 2) (yu)))))))))
noncomputable def ycB:Fn:=ygJ 3 (yx (ydg (xOr (yF (xOp (yFi) (yA 10 "ahead" yD (yk 0) (yu)) (xC .non))) (yF (xOp (oEq) (yA 10 "ahead" yD (yk 0) (yu)) (xC (.str ")"))))) (ycc (yuV (ymp (yu)))) (yby)) (yx (ydI (yuV (ymp (yd (yA 10 "part_taken" yC (yk 0) (yd (yk 1) (yu))) (yu)))) (yw 2)) (yx (yoE 100 (yF (xOp (oEq) (yA 10 "ahead" yD (yk 0) (yu)) (xC (.str ";")))) (yx (yiW (yA 10 "pass_over" yp (yk 0) (yd (xC (.str ";")) (yu)))) (yiW (xBM ymz (ysj) (yk 2) (yd (yA 10 "part_taken" yC (yk 0) (yd (yk 1) (yu))) (yu)))))) (ycc (yk 2)))))
noncomputable def ynq:Fn:=ygJ 3 (yx (ydI (yuV (ymd yci (yd (ybJ ygQ (yd (yk 0) (yu))) (yu)))) (yw 1)) (yx (ydI (yA 10 "list_taken" ycB (yk 1) (yd (xC (.int 0)) (yu))) (yw 2)) (yx (ydg (yF (xOp (yzG) (yA 10 "ahead" yD (yk 1) (yu)) (xC .non))) (ynm) (yby)) (yx (ydg (yF (xOp (oGt) (xOp ynj (yrA (ych 45) (yd (yk 2) (yu))) (xC (.int 1))) (xC (.int 80)))) (ynm) (yby)) (ycc (yk 2))))))
noncomputable def yhp:Fn:=ygJ 1 (ycc (ypD (xCB (yhn ycY) (yd (yk 0) (yd (xC (.ty "int")) (yu)))) (yBK (xCB (yhn ycY) (yd (yk 0) (yd (xC (.ty "bool")) (yu)))))))
noncomputable def yfO:Fn:=ygJ 7 (yx (ydg (yF (xOp (oEq) (xOp oMod (yk 0) (xC (.int 4))) (xC (.int 1)))) (ycc (xOp (yzI) (xFz (ymp (yd (xC (.str "on")) (yd (xC (.str "else")) (yd (xC (.str "a")) (yd (xC (.str "wait")) (yd (xC (.str "or")) (yd (xC (.str "let")) (yd (xC (.str "throw")) (yd (xC (.str "if")) (yu))))))))))) (xOp oMod (xOp oDiv (yk 0) (xC (.int 4))) (xC (.int 8))))) (yby)) (yx (ydI (xC (.str "abcdefghijklmnopqrstuvwxyz")) (yw 1)) (yx (ydI (xOp ynj (xC (.int 1)) (xOp oMod (xOp oDiv (yk 0) (xC (.int 4))) (xC (.int 8)))) (yw 2)) (yx (ydI (xOp oMod (xOp oDiv (yk 0) (xC (.int 32))) (yk 2)) (yw 3)) (yx (ydI (xC (.str "")) (yw 4)) (yx (ytb (yHz (yd (yk 2) (yu))) (yw 5) (yx (ydI (xOp ynj (xOp oDiv (yk 0) (xC (.int 256))) (xOp yJF (yk 5) (yk 5))) (yw 6)) (yx (ydg (yF (xOp (oEq) (yk 5) (yk 3))) (ydI (xOp ynj (yk 6) (xOp oDiv (yk 0) (xC (.int 6656)))) (yw 6)) (yby)) (ydI (xOp yis (yk 4) (xOp (yFj) (yk 1) (xOp oMod (yk 6) (xC (.int 26))))) (yw 4))))) (ycc (yk 4))))))))
def ydE:Fn:=ygJ 1 (ycc (xOp (yFj) (xC (.str "abcdefgh")) (xOp oMod (yk 0) (xC (.int 8)))))
noncomputable def ygn:Fn:=ygJ 1 (yx (ydg (yF (xOp (oEq) (xOp oMod (yk 0) (xC (.int 3))) (xC (.int 0)))) (ycc (xOp oMod (xOp oDiv (yk 0) (xC (.int 3))) (xC (.int 12)))) (yby)) (yx (ydg (yF (xOp (oEq) (xOp oMod (yk 0) (xC (.int 3))) (xC (.int 1)))) (ycc (xOp yHB (xOp yHB (xOp yJG (xC (.int 2)) (xC (.int 64))) (xC (.int 1))) (xOp oMod (xOp oDiv (yk 0) (xC (.int 3))) (xC (.int 5))))) (yby)) (ycc (xOp oMod (xOp oDiv (yk 0) (xC (.int 3))) (xOp yJG (xC (.int 2)) (xC (.int 64)))))))
noncomputable def yhq:Fn:=ygJ 5 (yx (ydI (xOp oMod (yk 0) (xC (.int 10))) (yw 1)) (yx (ydI (xOp oMod (xOp yJF (xOp oDiv (yk 0) (xC (.int 10))) (xC (.int 48271))) (xC (.int 2147483647))) (yw 2)) (yx (ydI (ybJ ydE (yd (yk 2) (yu))) (yw 3)) (yx (ydI (ybJ ydE (yd (xOp oDiv (yk 2) (xC (.int 8))) (yu))) (yw 4)) (yx (ydg (yF (xOp (oLt) (yk 1) (xC (.int 2)))) (ycc (ysc (yd (xC (.str "let")) (yd (yk 3) (yd (ybJ ygn (yd (xOp oDiv (yk 0) (xC (.int 10))) (yu))) (yu)))))) (yby)) (yx (ydg (yF (xOp (oLt) (yk 1) (xC (.int 4)))) (ycc (ysc (yd (xOp (yzI) (xFz (ymp (yd (xC (.str "plus")) (yd (xC (.str "minus")) (yd (xC (.str "times")) (yd (xC (.str "less")) (yd (xC (.str "same")) (yu)))))))) (xOp oMod (xOp oDiv (yk 2) (xC (.int 512))) (xC (.int 5)))) (yd (yk 3) (yd (yk 4) (yd (ybJ ydE (yd (xOp oDiv (yk 2) (xC (.int 64))) (yu))) (yu))))))) (yby)) (yx (ydg (yF (xOp (oLt) (yk 1) (xC (.int 6)))) (ycc (ysc (yd (xC (.str "take")) (yd (yk 3) (yd (yk 4) (yu)))))) (yby)) (yx (ydg (yF (xOp (oLt) (yk 1) (xC (.int 8)))) (ycc (ysc (yd (xC (.str "put")) (yd (yk 3) (yd (yk 4) (yu)))))) (yby)) (yx (ydg (yF (xOp (oEq) (yk 1) (xC (.int 8)))) (ycc (ysc (yd (xC (.str "throw")) (yd (ybJ yfO (yd (xOp oDiv (yk 0) (xC (.int 10))) (yu))) (yd (yk 3) (yu)))))) (yby)) (ycc (ysc (yd (xC (.str "wait")) (yu)))))))))))))
noncomputable def yhr:Fn:=ygJ 5 (yx (ydI (xOp oMod (xOp yJF (yk 0) (xC (.int 69621))) (xC (.int 2147483629))) (yw 3)) (yx (ydg (yF (xOp (oEq) (xOp oMod (yk 3) (xC (.int 2))) (xC (.int 1)))) (ydI (ysc (yd (yk 2) (yd (yk 1) (yu)))) (yyF 2 (ykY (yw 1) (ykY (yw 2) (yBh))))) (yby)) (yx (ydI (xOp oMod (xOp oDiv (yk 3) (xC (.int 2))) (xC (.int 3))) (yw 4)) (yx (ydg (yF (xOp (oEq) (yk 4) (xC (.int 0)))) (ycc (ysc (yd (xC (.str "if")) (yd (ybJ ydE (yd (xOp oDiv (yk 3) (xC (.int 6))) (yu))) (yd (yk 1) (yd (yk 2) (yu))))))) (yby)) (yx (ydg (yF (xOp (oEq) (yk 4) (xC (.int 1)))) (ycc (ysc (yd (xC (.str "either")) (yd (yk 1) (yd (yk 2) (yu)))))) (yby)) (ycc (ysc (yd (xC (.str "try")) (yd (yk 1) (yd (ybJ yfO (yd (yk 0) (yu))) (yd (ybJ ydE (yd (xOp oDiv (yk 3) (xC (.int 6))) (yu))) (yd (yk 2) (yu)))))))))))))
noncomputable def ybt:Fn:=ygJ 1 (yx (ydg (yF (xOp (oEq) (xOp (yfp) (yk 0) (xC (.int 0))) (xC (.str "if")))) (ycc (xFz (ymp (yd (xOp (yfp) (yk 0) (xC (.int 2))) (yd (xOp (yfp) (yk 0) (xC (.int 3))) (yu)))))) (yby)) (yx (ydg (yF (xOp (oEq) (xOp (yfp) (yk 0) (xC (.int 0))) (xC (.str "either")))) (ycc (xFz (ymp (yd (xOp (yfp) (yk 0) (xC (.int 1))) (yd (xOp (yfp) (yk 0) (xC (.int 2))) (yu)))))) (yby)) (yx (ydg (yF (xOp (oEq) (xOp (yfp) (yk 0) (xC (.int 0))) (xC (.str "try")))) (ycc (xFz (ymp (yd (xOp (yfp) (yk 0) (xC (.int 1))) (yd (xOp (yfp) (yk 0) (xC (.int 4))) (yu)))))) (yby)) (ycc (xFz (ymp (yu)))))))
noncomputable def ydU:Nat->Fn
 | 0=>fun _ _=>none
 | n+1=>ygJ 4 (yx (ydI (xUn yKq (xC (.int 1))) (yw 1)) (yx (ytb (xIL (yk 0)) (yw 2) (yx (ytb (xIL (ybJ ybt (yd (yk 2) (yu)))) (yw 3) (ydI (xCB (ypF) (yd (yk 1) (yd (xOp ynj (xC (.int 1)) (ybJ (ydU n) (yd (yk 3) (yu)))) (yu)))) (yw 1))) (ydI (xCB (ypF) (yd (yk 1) (yd (xC (.int 0)) (yu)))) (yw 1)))) (ycc (yk 1))))
noncomputable def ydY:Nat->Fn
 | 0=>fun _ _=>none
 | n+1=>ygJ 3 (yx (ydI (xC (.int 0)) (yw 1)) (yx (ytb (xIL (yk 0)) (yw 2) (yx (ydI (xOp ynj (xOp ynj (yk 1) (xC (.int 1))) (xCB (yCi) (yd (xFz (ysg (xIL (ybJ ybt (yd (yk 2) (yu)))) [] (ybJ (ydY n) (yd (yk 0) (yu))))) (yu)))) (yw 1)) (ydI (xOp ynj (xOp ynj (yk 1) (xCB (yvz) (yd (xOp (yzQ false) (xOp (yfp) (yk 2) (xC (.int 0))) (ysc (yd (xC (.str "if")) (yd (xC (.str "either")) (yd (xC (.str "try")) (yu)))))) (yu)))) (xCB (yvz) (yd (xOp (yzQ false) (xOp (yfp) (yk 2) (xC (.int 0))) (ysc (yd (xC (.str "either")) (yd (xC (.str "try")) (yu))))) (yu)))) (yw 1)))) (ycc (yk 1))))
noncomputable def ygR:Fn:=ygJ 5 (yx (ydI (xOp oMod (yk 1) (xOp yJG (xC (.int 10)) (xC (.int 60)))) (yw 1)) (yx (ydg (yF (xOp (oGt) (xOp oMod (yk 1) (xC (.int 3))) (xC (.int 0)))) (ydI (xFz (yHp yHF (yk 0) (xFz (ymp (yd (ybJ yhq (yd (xOp oDiv (yk 1) (xC (.int 3))) (yu))) (yu)))))) (yw 2)) (yx (ydI (xCB (ypF) (yd (xC (.int 0)) (yd (xOp yHB (xCB (yvx) (yd (yk 0) (yu))) (xOp oMod (xOp oDiv (yk 1) (xC (.int 3))) (xC (.int 4)))) (yu)))) (yw 3)) (yx (ydI (xCB (ypF) (yd (xC (.int 0)) (yd (xOp yHB (yk 3) (xOp oMod (xOp oDiv (yk 1) (xC (.int 12))) (xC (.int 3)))) (yu)))) (yw 4)) (ydI (xFz (yHp yHF (xFz (yEI yDH (yk 0) (ynZ) (ytH (yk 4)))) (xFz (ymp (yd (ybJ yhr (yd (xOp oDiv (yk 1) (xC (.int 36))) (yd (xFz (yEI yDH (yk 0) (ytH (yk 3)) (ynZ))) (yd (xFz (yEI yDH (yk 0) (ytH (yk 4)) (ytH (yk 3)))) (yu))))) (yu)))))) (yw 2))))) (yx (ydg (xOr (yF (xOp (oGt) (ybJ (ydU 15) (yd (yk 2) (yu))) (xC (.int 8)))) (yF (xOp (oGt) (ybJ (ydY 15) (yd (yk 2) (yu))) (xC (.int 79))))) (ycc (yk 0)) (yby)) (ycc (yk 2)))))
mutual
noncomputable def ydb:Nat->Fn
 | 0=>fun _ _=>none
 | n+1=>ygJ 1 (yx (ydg (yF (xOp (yxM) (yk 0) (xFz (ymp (yu))))) (ycc (xC (.str "( )"))) (yby)) (ycc (xOp yis (xOp yis (xC (.str "( ")) (ybJ (ygS n) (yd (yk 0) (yu)))) (xC (.str " )")))))
noncomputable def ygS:Nat->Fn
 | 0=>fun _ _=>none
 | n+1=>ygJ 4 (yx (yzx (ymp (yu)) 1) (yx (ytb (xIL (yk 0)) (yw 2) (ydg (yF (xOp (oEq) (xOp (yfp) (yk 2) (xC (.int 0))) (xC (.str "if")))) (ymy 1 (xOp yis (xOp yis (xOp yis (xOp yis (xOp yis (xC (.str "if ")) (xOp (yfp) (yk 2) (xC (.int 1)))) (xC (.str " "))) (ybJ (ydb n) (yd (xOp (yfp) (yk 2) (xC (.int 2))) (yu)))) (xC (.str " else "))) (ybJ (ydb n) (yd (xOp (yfp) (yk 2) (xC (.int 3))) (yu))))) (ydg (yF (xOp (oEq) (xOp (yfp) (yk 2) (xC (.int 0))) (xC (.str "either")))) (ymy 1 (xOp yis (xOp yis (xOp yis (xC (.str "either ")) (ybJ (ydb n) (yd (xOp (yfp) (yk 2) (xC (.int 1))) (yu)))) (xC (.str " or "))) (ybJ (ydb n) (yd (xOp (yfp) (yk 2) (xC (.int 2))) (yu))))) (ydg (yF (xOp (oEq) (xOp (yfp) (yk 2) (xC (.int 0))) (xC (.str "try")))) (yx (ydI (xFz (ymp (yd (xC (.str "try")) (yd (ybJ (ydb n) (yd (xOp (yfp) (yk 2) (xC (.int 1))) (yu))) (yd (xC (.str "on")) (yd (xOp (yfp) (yk 2) (xC (.int 2))) (yd (xOp (yfp) (yk 2) (xC (.int 3))) (yd (ybJ (ydb n) (yd (xOp (yfp) (yk 2) (xC (.int 4))) (yu))) (yu))))))))) (yw 3)) (ymy 1 (xBM isStr (ysh) (xC (.str " ")) (yd (yk 3) (yu))))) (ymy 1 (xBM isStr (ysh) (xC (.str " ")) (yd (xFz (ysg (xIT (yk 2)) [] (xCB (yvF) (yd (yk 0) (yu))))) (yu)))))))) (yHx 1 (ycc (xBM isStr (ysh) (xC (.str " ; ")) (yd (yk 1) (yu)))))))
end
noncomputable def yfd:Fn:=ygJ 2 (yx (ydg (yF (xOp (oEq) (xOp (yfp) (yk 1) (xC (.int 0))) (xC (.str "let")))) (ycc (ypD (xCB (yhn ycY) (yd (yk 0) (yd (xC (.cls 1)) (yu)))) (ypD (xOp (yxM) (xFz (ymp (yd (yjI [1,2,3,4,5,7,8] "slot" (yk 0)) (yd (yjI [1] "number" (yk 0)) (yu))))) (xFz (ymp (yd (xOp (yfp) (yk 1) (xC (.int 1))) (yd (xOp (yfp) (yk 1) (xC (.int 2))) (yu)))))) (ybJ yhp (yd (yjI [1] "number" (yk 0)) (yu)))))) (yby)) (yx (ydg (yF (xOp (oEq) (xOp (yfp) (yk 1) (xC (.int 0))) (xC (.str "take")))) (ycc (ypD (xCB (yhn ycY) (yd (yk 0) (yd (xC (.cls 3)) (yu)))) (xOp (yxM) (xFz (ymp (yd (yjI [1,2,3,4,5,7,8] "slot" (yk 0)) (yd (yjI [3,4] "place" (yk 0)) (yu))))) (xFz (ymp (yd (xOp (yfp) (yk 1) (xC (.int 1))) (yd (xOp (yfp) (yk 1) (xC (.int 2))) (yu)))))))) (yby)) (yx (ydg (yF (xOp (oEq) (xOp (yfp) (yk 1) (xC (.int 0))) (xC (.str "put")))) (ycc (ypD (xCB (yhn ycY) (yd (yk 0) (yd (xC (.cls 4)) (yu)))) (xOp (yxM) (xFz (ymp (yd (yjI [3,4] "place" (yk 0)) (yd (yjI [1,2,3,4,5,7,8] "slot" (yk 0)) (yu))))) (xFz (ymp (yd (xOp (yfp) (yk 1) (xC (.int 1))) (yd (xOp (yfp) (yk 1) (xC (.int 2))) (yu)))))))) (yby)) (yx (ydg (yF (xOp (oEq) (xOp (yfp) (yk 1) (xC (.int 0))) (xC (.str "throw")))) (ycc (ypD (xCB (yhn ycY) (yd (yk 0) (yd (xC (.cls 8)) (yu)))) (xOp (yxM) (xFz (ymp (yd (yjI [7,8] "name" (yk 0)) (yd (yjI [1,2,3,4,5,7,8] "slot" (yk 0)) (yu))))) (xFz (ymp (yd (xOp (yfp) (yk 1) (xC (.int 1))) (yd (xOp (yfp) (yk 1) (xC (.int 2))) (yu)))))))) (yby)) (yx (ydg (yF (xOp (oEq) (xOp (yfp) (yk 1) (xC (.int 0))) (xC (.str "wait")))) (ycc (xCB (yhn ycY) (yd (yk 0) (yd (xC (.cls 9)) (yu))))) (yby)) (yx (ydg (ypo (yF (xCB (yhn ycY) (yd (yk 0) (yd (xC (.cls 2)) (yu)))))) (ycc (xC (.bl false))) (yby)) (ycc (xOp (yxM) (xFz (ymp (yd (yjI [2] "word" (yk 0)) (yd (yjI [1,2,3,4,5,7,8] "slot" (yk 0)) (yd (yjI [2] "one" (yk 0)) (yd (yjI [2] "other" (yk 0)) (yu))))))) (xFz (ytG (yez) (yd (yk 1) (yu))))))))))))
noncomputable def ydF:Nat->Fn
 | 0=>fun _ _=>none
 | n+1=>ygJ 5 (yx (ydg (xOr (ypo (yF (xCB (yhn ycY) (yd (yk 0) (yd (xC (.ty "list")) (yu)))))) (yF (xOp (oNe) (xCB (yvx) (yd (yk 0) (yu))) (xCB (yvx) (yd (yk 1) (yu)))))) (ycc (xC (.bl false))) (yby)) (yx (ytb (xIZ (yd (yk 0) (yd (yk 1) (yu)))) (yyF 2 (ykY (yw 2) (ykY (yw 3) (yBh)))) (yx (ydg (ypo (yF (xCB (yhn ycY) (yd (yk 2) (yd (xC (.cls 0)) (yu)))))) (ycc (xC (.bl false))) (yby)) (yx (ydI (ybJ ybt (yd (yk 3) (yu))) (yw 4)) (ydg (yF (xOp (yxM) (yk 4) (xFz (ymp (yu))))) (ydg (ypo (yF (ybJ yfd (yd (yk 2) (yd (yk 3) (yu)))))) (ycc (xC (.bl false))) (yby)) (yx (ydg (yyE (yF (xOp (oEq) (xOp (yfp) (yk 3) (xC (.int 0))) (xC (.str "if")))) (xOr (ypo (yF (xCB (yhn ycY) (yd (yk 2) (yd (xC (.cls 5)) (yu)))))) (yF (xOp (oNe) (yjI [1,2,3,4,5,7,8] "slot" (yk 2)) (xOp (yfp) (yk 3) (xC (.int 1))))))) (ycc (xC (.bl false))) (yby)) (yx (ydg (yyE (yF (xOp (oEq) (xOp (yfp) (yk 3) (xC (.int 0))) (xC (.str "either")))) (ypo (yF (xCB (yhn ycY) (yd (yk 2) (yd (xC (.cls 6)) (yu))))))) (ycc (xC (.bl false))) (yby)) (yx (ydg (yyE (yF (xOp (oEq) (xOp (yfp) (yk 3) (xC (.int 0))) (xC (.str "try")))) (ypo (yF (xCB (yhn ycY) (yd (yk 2) (yd (xC (.cls 7)) (yu))))))) (ycc (xC (.bl false))) (yby)) (yx (ydg (yyE (yF (xOp (oEq) (xOp (yfp) (yk 3) (xC (.int 0))) (xC (.str "try")))) (xOr (yF (xOp (oNe) (yjI [7,8] "name" (yk 2)) (xOp (yfp) (yk 3) (xC (.int 2))))) (yF (xOp (oNe) (yjI [1,2,3,4,5,7,8] "slot" (yk 2)) (xOp (yfp) (yk 3) (xC (.int 3))))))) (ycc (xC (.bl false))) (yby)) (ydg (xOr (ypo (yF (ybJ (ydF n) (yd (yjI [5,6,7] "parts" (yk 2)) (yd (xOp (yzI) (yk 4) (xC (.int 0))) (yu)))))) (ypo (yF (ybJ (ydF n) (yd (yjI [5,6,7] "others" (yk 2)) (yd (xOp (yzI) (yk 4) (xC (.int 1))) (yu))))))) (ycc (xC (.bl false))) (yby)))))))))) (ycc (xC (.bl true)))))
noncomputable def yCF:Fn:=ygJ 6 (yx (ydI (xFz (ymp (yu))) (yw 1)) (yx (ytb (xIL (xFz (yEI yDH (yk 0) (ynZ) (ytH (xC (.int 63)))))) (yw 2) (ydI (ybJ ygR (yd (yk 1) (yd (yk 2) (yu)))) (yw 1))) (yx (ydI (ybJ (ygS 30) (yd (yk 1) (yu))) (yw 3)) (yx (ydI (ybJ ynq (yd (yk 3) (yu))) (yw 4)) (yx (ydg (ypo (yF (yrA (ydF 15) (yd (yk 4) (yd (yk 1) (yu)))))) (ycc (xC (.bl false))) (yby)) (yx (yxN false (yk 4) (yw 5) (ydg (xOr (yF (xCB (yhn ycY) (yd (yk 5) (yd (xC (.cls 5)) (yu))))) (xOr (yF (xCB (yhn ycY) (yd (yk 5) (yd (xC (.cls 6)) (yu))))) (yF (xCB (yhn ycY) (yd (yk 5) (yd (xC (.cls 7)) (yu))))))) (yx (yiW (xBM ymz (ysj) (yjI [5,6,7] "parts" (yk 5)) (yd (xFz (yrz 9)) (yu)))) (yiW (xBM ymz (yla) (yjI [5,6,7] "others" (yk 5)) (yu)))) (yby))) (yx (yiW (xBM ymz (yla) (yk 4) (yu))) (ycc (ybJ (ydF 15) (yd (ybJ yud (yd (yk 3) (yu))) (yd (yk 1) (yu))))))))))))
abbrev B64:Int:=18446744073709551616
inductive T where
 | base
 | let_ (r:Str) (n:Int)
 | reckon (w r s t:Str)
 | take (r s:Str)
 | put (s t:Str)
 | if_ (r:Str) (a b:List T)
 | either (a b:List T)
 | try_ (a:List T) (nm r:Str) (b:List T)
 | throw (nm r:Str)
 | wait
noncomputable def kd:T->Nat
 | .base=>0|.let_ ..=>1|.reckon ..=>2|.take ..=>3|.put ..=>4|.if_ ..=>5|.either ..=>6|.try_ ..=>7|.throw ..=>8|.wait=>9
def ydG (inner:Str):Str:=if inner = "" then "( )" else Str.join " " ["(",inner,")"]
mutual
noncomputable def ygK:T->Str
 | .base=>""
 | .let_ r n=>Str.join " " ["let",r,(toString n:String)]
 | .reckon w r s t=>Str.join " " [w,r,s,t]
 | .take r s=>Str.join " " ["take",r,s]
 | .put s t=>Str.join " " ["put",s,t]
 | .if_ r a b=>Str.join " " ["if",r,ydG (Str.join " ; " (ybH a)),"else",ydG (Str.join " ; " (ybH b))]
 | .either a b=>Str.join " " ["either",ydG (Str.join " ; " (ybH a)),"or",ydG (Str.join " ; " (ybH b))]
 | .try_ a nm r b=>Str.join " " ["try",ydG (Str.join " ; " (ybH a)),"on",nm,r,ydG (Str.join " ; " (ybH b))]
 | .throw nm r=>Str.join " " ["throw",nm,r]
 | .wait=>"wait"
noncomputable def ybH:List T->List Str
 | []=>[]
 | t::r=>ygK t::ybH r
end
mutual
noncomputable def ymf:T->Int
 | .base=>0
 | .if_ _ a b=>2+(ycd a).sum+(ycd b).sum
 | .either a b=>3+(ycd a).sum+(ycd b).sum
 | .try_ a _ _ b=>3+(ycd a).sum+(ycd b).sum
 | _=>1
noncomputable def ycd:List T->List Int
 | []=>[]
 | t::r=>ymf t::ycd r
end
mutual
noncomputable def ymt:T->Nat
 | .if_ _ a b=>1+max (ybR a) (ybR b)
 | .either a b=>1+max (ybR a) (ybR b)
 | .try_ a _ _ b=>1+max (ybR a) (ybR b)
 | _=>0
noncomputable def ybR:List T->Nat
 | []=>0
 | t::r=>max (ymt t) (ybR r)
end
mutual
noncomputable def wT:T->Nat
 | .base=>0
 | .let_ r n=>10+r.length+(Str.ofString (toString n)).length
 | .reckon w r s t=>10+w.length+r.length+s.length+t.length
 | .take r s=>10+r.length+s.length
 | .put s t=>10+s.length+t.length
 | .if_ r a b=>40+r.length+wL a+wL b
 | .either a b=>40+wL a+wL b
 | .try_ a nm r b=>40+nm.length+r.length+wL a+wL b
 | .throw nm r=>10+nm.length+r.length
 | .wait=>10
noncomputable def wL:List T->Nat
 | []=>0
 | t::r=>5+wT t+wL r
end
def yGy (c:Int):Int:=if c%3=0 then c/3%12 else if c%3=1 then B64-1-c/3%5 else c/3%B64
def slotsV:Str:="abcdefgh"
def lettersV:Str:="abcdefghijklmnopqrstuvwxyz"
def yue (z:Str) (i:Int):Str:=⟨#[(z.cps.toList[i.toNat]?).getD 0]⟩
def ynr (n:Int):Str:=yue slotsV (n%8)
def wordsL:List Str:=["on","else","a","wait","or","let","throw","if"]
noncomputable def nameStep (c at':Int) (k:Nat):Str:=yue lettersV ((if (k:Int)=at' then c/256+(k:Int)*(k:Int)+c/6656 else c/256+(k:Int)*(k:Int))%26)
def ykL (c at':Int):Nat->Str
 | 0=>""
 | k+1=>ykL c at' k++nameStep c at' k
def yxR (c:Int):Str:=if c%4=1 then (wordsL[(c/4%8).toNat]?).getD "" else ykL c (c/32%(1+c/4%8)) (1+c/4%8).toNat
def yAj (m:Int):Str:=((["plus","minus","times","less","same"]:List Str)[(m/512%5).toNat]?).getD ""
def yyG (c:Int):Int:=c*48271%2147483647
noncomputable def yuf (w c:Int):T :=
 if w=0 then .let_ (ynr (yyG c)) (yGy c)
 else if w=1 then .reckon (yAj (yyG c)) (ynr (yyG c)) (ynr (yyG c/8)) (ynr (yyG c/64))
 else if w=2 then .take (ynr (yyG c)) (ynr (yyG c/8))
 else if w=3 then .put (ynr (yyG c)) (ynr (yyG c/8))
 else if w=4 then .throw (yxR c) (ynr (yyG c))
 else .wait
theorem ylg (a b:Str):(a++b).length=a.length+b.length:=by
 show (a.cps++b.cps).size=_
 simp [Str.length]
theorem ygo (sep:Str):∀ l:List Str,(Str.join sep l).length<=(l.map (·.length)).sum+sep.length*l.length
 | []=>Nat.zero_le _
 | [x]=>by simp [Str.join]
 | x::y::r=>by
  have ih:=ygo sep (y::r)
  show (x++sep++Str.join sep (y::r)).length<=_
  rw [ylg,ylg]
  simp only [List.map_cons,List.sum_cons,List.length_cons] at *
  have e:sep.length*(r.length+1+1)=sep.length*(r.length+1)+sep.length:=by rw [Nat.mul_succ]
  omega
theorem yfF (x:Str):(ydG x).length<=x.length+10:=by
 unfold ydG
 split
 .exact Nat.le_trans (show ("( )":Str).length<=10 by rfl') (Nat.le_add_left _ _)
 .have:=ygo " " ["(",x,")"]
  have e1:(" ":Str).length=1:=by rfl'
  have e2:("(":Str).length=1:=by rfl'
  have e3:(")":Str).length=1:=by rfl'
  simp only [List.map_cons,List.map_nil,List.sum_cons,List.sum_nil,List.length_cons,List.length_nil,e1,e2,e3] at this
  omega
theorem l1:(" ":Str).length=1:=by rfl'
theorem l3:(" ; ":Str).length=3:=by rfl'
theorem lk (s:Str) (h:s.length<=6):s.length<=6:=h
theorem yLD:("let":Str).length=3:=by rfl'
theorem yIz:("take":Str).length=4:=by rfl'
theorem yLE:("put":Str).length=3:=by rfl'
theorem yLF:("if":Str).length=2:=by rfl'
theorem yIA:("else":Str).length=4:=by rfl'
theorem yCG:("either":Str).length=6:=by rfl'
theorem yLG:("or":Str).length=2:=by rfl'
theorem yIB:("try":Str).length=3:=by rfl'
theorem yIC:("on":Str).length=2:=by rfl'
theorem yFV:("throw":Str).length=5:=by rfl'
theorem yID:("wait":Str).length=4:=by rfl'
theorem yDV:("":Str).length=0:=by rfl'
mutual
theorem yAk:∀ t:T,(ygK t).length<=wT t
 | .base=>by show ("":Str).length<=0;rw [yDV];omega
 | .let_ r n=>by
  have:=ygo " " ["let",r,(toString n:String)]
  simp only [List.map_cons,List.map_nil,List.sum_cons,List.sum_nil,List.length_cons,List.length_nil,l1,yLD] at this
  show (Str.join " " ["let",r,(toString n:String)]).length<=10+r.length+(Str.ofString (toString n)).length
  omega
 | .reckon w r s t=>by
  have:=ygo " " [w,r,s,t]
  simp only [List.map_cons,List.map_nil,List.sum_cons,List.sum_nil,List.length_cons,List.length_nil,l1] at this
  show (Str.join " " [w,r,s,t]).length<=10+w.length+r.length+s.length+t.length
  omega
 | .take r s=>by
  have:=ygo " " ["take",r,s]
  simp only [List.map_cons,List.map_nil,List.sum_cons,List.sum_nil,List.length_cons,List.length_nil,l1,yIz] at this
  show (Str.join " " ["take",r,s]).length<=10+r.length+s.length
  omega
 | .put s t=>by
  have:=ygo " " ["put",s,t]
  simp only [List.map_cons,List.map_nil,List.sum_cons,List.sum_nil,List.length_cons,List.length_nil,l1,yLE] at this
  show (Str.join " " ["put",s,t]).length<=10+s.length+t.length
  omega
 | .if_ r a b=>by
  have ha:=ycF a
  have hb:=ycF b
  have h1:=yfF (Str.join " ; " (ybH a))
  have h2:=yfF (Str.join " ; " (ybH b))
  have:=ygo " " ["if",r,ydG (Str.join " ; " (ybH a)),"else",ydG (Str.join " ; " (ybH b))]
  simp only [List.map_cons,List.map_nil,List.sum_cons,List.sum_nil,List.length_cons,List.length_nil,l1,yLF,yIA] at this
  show (Str.join " " ["if",r,ydG (Str.join " ; " (ybH a)),"else",ydG (Str.join " ; " (ybH b))]).length<=40+r.length+wL a+wL b
  omega
 | .either a b=>by
  have ha:=ycF a
  have hb:=ycF b
  have h1:=yfF (Str.join " ; " (ybH a))
  have h2:=yfF (Str.join " ; " (ybH b))
  have:=ygo " " ["either",ydG (Str.join " ; " (ybH a)),"or",ydG (Str.join " ; " (ybH b))]
  simp only [List.map_cons,List.map_nil,List.sum_cons,List.sum_nil,List.length_cons,List.length_nil,l1,yCG,yLG] at this
  show (Str.join " " ["either",ydG (Str.join " ; " (ybH a)),"or",ydG (Str.join " ; " (ybH b))]).length<=40+wL a+wL b
  omega
 | .try_ a nm r b=>by
  have ha:=ycF a
  have hb:=ycF b
  have h1:=yfF (Str.join " ; " (ybH a))
  have h2:=yfF (Str.join " ; " (ybH b))
  have:=ygo " " ["try",ydG (Str.join " ; " (ybH a)),"on",nm,r,ydG (Str.join " ; " (ybH b))]
  simp only [List.map_cons,List.map_nil,List.sum_cons,List.sum_nil,List.length_cons,List.length_nil,l1,yIB,yIC] at this
  show (Str.join " " ["try",ydG (Str.join " ; " (ybH a)),"on",nm,r,ydG (Str.join " ; " (ybH b))]).length<=40+nm.length+r.length+wL a+wL b
  omega
 | .throw nm r=>by
  have:=ygo " " ["throw",nm,r]
  simp only [List.map_cons,List.map_nil,List.sum_cons,List.sum_nil,List.length_cons,List.length_nil,l1,yFV] at this
  show (Str.join " " ["throw",nm,r]).length<=10+nm.length+r.length
  omega
 | .wait=>by show ("wait":Str).length<=10;rw [yID];omega
theorem yoh:∀ ts:List T,((ybH ts).map (·.length)).sum+5*ts.length<=wL ts/\(ybH ts).length=ts.length
 | []=>⟨Nat.le_refl _,rfl⟩
 | t::r=>by
  have h1:=yAk t
  have h2:=yoh r
  refine ⟨?_,?_⟩
  .show ((ygK t).length::(ybH r).map (·.length)).sum+5*(t::r).length<=5+wT t+wL r
   simp only [List.sum_cons,List.length_cons]
   omega
  .show (ygK t::ybH r).length=_
   simp only [List.length_cons]
   omega
theorem ycF:∀ ts:List T,(Str.join " ; " (ybH ts)).length<=wL ts:=fun ts=>by
 have h:=yoh ts
 have j:=ygo " ; " (ybH ts)
 rw [l3,h.2] at j
 omega
end
theorem yst:∀ {ts:List T}{t:T},t∈ts->ymt t<=ybR ts
 | u::r,t,h=>by
  show ymt t<=max (ymt u) (ybR r)
  rcases List.mem_cons.mp h with rfl|h
  .omega
  .have:=yst h
   omega
theorem yIE:∀ {ts:List T}{t:T},t∈ts->wT t<=wL ts
 | u::r,t,h=>by
  show wT t<=5+wT u+wL r
  rcases List.mem_cons.mp h with rfl|h
  .omega
  .have:=yIE h
   omega
theorem w_count:∀ ts:List T,5*ts.length<=wL ts
 | []=>Nat.le_refl _
 | t::r=>by
  have:=w_count r
  show 5*(r.length+1)<=5+wT t+wL r
  omega
theorem yhs (a b c:Str):a++b++c=a++(b++c):=by
 show (⟨(a.cps++b.cps)++c.cps⟩:Str)=⟨a.cps++(b.cps++c.cps)⟩
 rw [Array.append_assoc]
theorem ylh (a:Int) {b:Int}(h:0<b):0<=a%b/\a%b<b:=⟨Int.emod_nonneg a (by omega),Int.emod_lt_of_pos a h⟩
theorem yug (c at':Int):∀ k:Nat,(ykL c at' k).length=k
 | 0=>by show ("":Str).length=0;rfl'
 | k+1=>by
  show (ykL c at' k++nameStep c at' k).length=_
  rw [ylg,yug c at' k]
  rfl
theorem yIF (i:Int):∃ s,atI (wordsL.map PV.str) (i%8)=some (.str s)/\s=(wordsL[(i%8).toNat]?).getD ""/\s.length<=8:=by
 have h:=ylh i (show (0:Int)<8 by decide)
 generalize i%8=k at *
 have:k=0\/k=1\/k=2\/k=3\/k=4\/k=5\/k=6\/k=7:=by omega
 rcases this with rfl|rfl|rfl|rfl|rfl|rfl|rfl|rfl
 all_goals exact ⟨_,rfl,rfl,by rfl'⟩
theorem yIG (m:Int):∃ s,atI [PV.str "plus",PV.str "minus",PV.str "times",PV.str "less",PV.str "same"] (m/512%5)=some (.str s)/\s=yAj m/\s.length<=8:=by
 unfold yAj
 have h:=ylh (m/512) (show (0:Int)<5 by decide)
 generalize m/512%5=k at *
 have:k=0\/k=1\/k=2\/k=3\/k=4:=by omega
 rcases this with rfl|rfl|rfl|rfl|rfl
 all_goals exact ⟨_,rfl,rfl,by rfl'⟩
theorem yIH (c:Int):0<=yGy c/\yGy c<B64:=by
 unfold yGy B64
 repeat' split
 all_goals omega
theorem yDW:B64<10 ^ 20:=by decide
theorem yAl (w c:Int):ymt (yuf w c)=0:=by
 unfold yuf
 repeat' split
 all_goals rfl
theorem yAm {z:Str}{i:Int}(h0:0<=i) (h:i<z.cps.toList.length):atI z.cps.toList i=some ((z.cps.toList[i.toNat]?).getD 0):=by
 obtain ⟨j,rfl⟩:∃ j:Nat,i=(j:Int):=⟨i.toNat,by omega⟩
 have hl:j<z.cps.toList.length:=by omega
 rw [ymw (List.getElem?_eq_getElem hl),Int.toNat_natCast,List.getElem?_eq_getElem hl];rfl
def plain:T->Prop
 | .if_ ..=>False
 | .either ..=>False
 | .try_ ..=>False
 | _=>True
theorem yCH (sep x:Str) (r:List Str) (h:1<=x.length):1<=(Str.join sep (x::r)).length:=by
 cases r with
 | nil=>exact h
 | cons y r =>
  show 1<=(x++sep++Str.join sep (y::r)).length
  rw [ylg,ylg];omega
mutual
noncomputable def ybW:T->PV
 | .base=>.ins 0 [] []
 | .let_ r n=>.ins 1 ["slot","number"] [.str r,.int n]
 | .reckon w r s t=>.ins 2 ["word","slot","one","other"] [.str w,.str r,.str s,.str t]
 | .take r s=>.ins 3 ["slot","place"] [.str r,.str s]
 | .put s t=>.ins 4 ["place","slot"] [.str s,.str t]
 | .if_ r a b=>.ins 5 ["slot","parts","others"] [.str r,.lst (yO a),.lst (yO b)]
 | .either a b=>.ins 6 ["parts","others"] [.lst (yO a),.lst (yO b)]
 | .try_ a nm r b=>.ins 7 ["parts","name","slot","others"] [.lst (yO a),.str nm,.str r,.lst (yO b)]
 | .throw nm r=>.ins 8 ["name","slot"] [.str nm,.str r]
 | .wait=>.ins 9 [] []
noncomputable def yO:List T->List PV
 | []=>[]
 | t::r=>ybW t::yO r
end
theorem yoi:∀ ts:List T,yO ts=ts.map ybW
 | []=>rfl
 | t::r=>by show ybW t::yO r=_;rw [yoi r];rfl
section
variable {h:AH}
theorem yAn (c:Int):ydE [.int c] h=some (.str (ynr c),h):=by
 unfold ydE
 rw [ybp]
 show ob (ycc _ [.val (.int c)] h) fnK=_
 have b:=ylh c (show (0:Int)<8 by decide)
 walk_at "px"
 rw [yAm (z:="abcdefgh") b.1 (by rw [show ("abcdefgh":Str).cps.toList.length=8 by rfl'];exact b.2)]
 rfl
theorem yAo (c:Int):ygn [.int c] h=some (.int (yGy c),h):=by
 unfold ygn
 rw [ybp]
 show ob (yx _ _ [.val (.int c)] h) fnK=_
 walk_at "px"
 unfold yGy
 split
 .rfl
 .split<;>rfl
theorem yCI (c:Int):yhp [.int c] h=some (.bl true,h):=by
 unfold yhp
 rw [ybp]
 show ob (ycc _ [.val (.int c)] h) fnK=_
 walk_at "px"
 rfl
theorem yAp (c:Int):yfO [.int c] h=some (.str (yxR c),h):=by
 unfold yfO
 rw [ybp]
 show ob (yx _ _ [.val (.int c),.no,.no,.no,.no,.no,.no] h) fnK=_
 have b:=ylh (c/4) (show (0:Int)<8 by decide)
 walk_at "px"
 unfold yxR
 split
 .obtain ⟨s,h1,h2,_⟩:=yIF (c/4)
  rw [show [PV.str "on",PV.str "else",PV.str "a",PV.str "wait",PV.str "or",PV.str "let",PV.str "throw",PV.str "if"]=wordsL.map PV.str from rfl,h1,<- h2]
  rfl
 rw [if_pos (by omega)]
 rw [yIe (j:=1+c/4%8) (h1:=h) (by walk_at "px") (by omega) (by omega),yha]
 generalize hz:1+c/4%8=sz at *
 refine yzR (fun i ρ h1=>∃ c1 c2:PVar,ρ=[.val (.int c),.val (.str "abcdefghijklmnopqrstuvwxyz"),.val (.int sz),.val (.int (c/32%sz)),.val (.str (ykL c (c/32%sz) i)),c1,c2]/\h1=h) ⟨.no,.no,rfl,rfl⟩ ?_ ?_
 .rintro i x ρ h1 hx ⟨c1,c2,rfl,rfl⟩
  obtain ⟨hi,rfl⟩:=yFw hx
  rw [Int.zero_add]
  have hat:∀ k:Int,atI ("abcdefghijklmnopqrstuvwxyz":Str).cps.toList (k%26)=some ((("abcdefghijklmnopqrstuvwxyz":Str).cps.toList[(k%26).toNat]?).getD 0):=fun k=>yAm (ylh k (by decide)).1 (by rw [show ("abcdefghijklmnopqrstuvwxyz":Str).cps.toList.length=26 by rfl'];exact (ylh k (by decide)).2)
  have hm:MulOk (i:Int) (i:Int):=.inl ⟨by omega,by omega⟩
  refine ⟨_,[.val (.int c),.val (.str "abcdefghijklmnopqrstuvwxyz"),.val (.int sz),.val (.int (c/32%sz)),.val (.str (ykL c (c/32%sz) (i+1))),.val (.int i),.val (.int (if (i:Int)=c/32%sz then c/256+(i:Int)*i+c/6656 else c/256+(i:Int)*i))],h1,rfl,.inl ?_,_,_,rfl,rfl⟩
  walk_at "px"
  rw [if_pos hm]
  split
  .rename_i hk
   rw [hat,Option.bind_some]
   simp only [yha,ywJ,sgn]
   rw [if_pos (by rw [yug];show i+1<=100000;omega)]
   simp only [yha,Option.bind_some,ykL,nameStep,if_pos hk]
   rfl
  .rename_i hk
   rw [hat,Option.bind_some]
   simp only [yha,ywJ,sgn]
   rw [if_pos (by rw [yug];show i+1<=100000;omega)]
   simp only [yha,Option.bind_some,ykL,nameStep,if_neg hk]
   rfl
 .rintro ρ' h' ⟨c1,c2,rfl,rfl⟩
  walk_at "px"
  rw [yzS]
theorem yoH {sep:Str}{xs:List PV}{ts:List Str}(e:strsOf xs=some ts) (hs:sep.length<=16) (hl:(ts.map (·.length)).sum+ts.length<=1048576):ysh (.str sep) [.lst xs] h=some (.str (Str.join sep ts),h):=by
 unfold ysh yeM
 simp only [e]
 exact if_pos ⟨hs,hl⟩
theorem j1:(" ":Str).length<=16:=by rfl'
theorem yCJ {i:Nat}{ρ:PSt}{xs:List PV}(e:yk i ρ h=some (.lst xs,h)):xIL (yk i) ρ h=some (xs,h):=yJJ e
theorem yxS (t:T):∃ ns xs,ybW t=.ins (kd t) ns xs/\("shown":Str)∉ns/\("long":Str)∉ns:=by
 cases t
 all_goals exact ⟨_,_,rfl,by rfl',by rfl'⟩
theorem yAq {m:Str}{f:Nat->Fn}(t:T) (hm:m = "shown"\/m = "long"):yod m f (ybW t) h=f (kd t) [ybW t] h:=by
 obtain ⟨ns,xs,e,h1,h2⟩:=yxS t
 rw [e]
 rcases hm with rfl|rfl
 .exact ygk h1
 .exact ygk h2
theorem yxT:∀ ts:List T,strsOf ((ybH ts).map PV.str)=some (ybH ts):=fun ts=>yrv _
def yuh (n:Nat):Prop:=∀ (h:AH) (t:T),3*ymt t+1<=n->wT t<=100000->yoG n (kd t) [ybW t] h=some (.int (ymf t),h)
theorem ydV {n:Nat}(G:yuh n) {ts:List T}(hd:3*ybR ts+1<=n) (hw:wL ts<=100000):ych (n+1) [.lst (yO ts)] h=some (.int (ycd ts).sum,h):=by
 unfold ych
 rw [ybp]
 show ob (ycc _ [.val (.lst (yO ts))] h) fnK=_
 have wc:=w_count ts
 walk_at "px"
 rw [yCJ rfl,yha,yoi]
 rw [if_pos (by rw [List.length_map];omega)]
 have e:yuW (ysi "long" (yoG n) (yk 0)) (ysf [] [PVar.val (PV.lst (ts.map ybW))]) (ts.map ybW) h=some ((ycd ts).map PV.int,h):=by
  have:∀ us:List T,(∀ t∈us,t∈ts)->yuW (ysi "long" (yoG n) (yk 0)) (ysf [] [PVar.val (PV.lst (ts.map ybW))]) (us.map ybW) h=some ((ycd us).map PV.int,h):=by
   intro us
   induction us with
   | nil=>intro _;rfl
   | cons t r ih =>
    intro hm
    have ht:=hm t List.mem_cons_self
    have e1:ysi "long" (yoG n) (yk 0) (ysf [] [PVar.val (PV.lst (ts.map ybW))] (ybW t)) h=some (.int (ymf t),h):=by
     show ysi "long" (yoG n) (yk 0) [.val (ybW t)] h=_
     rw [yDM,yDL,yha,yAq t (.inr rfl)]
     have:=yst ht
     have:=yIE ht
     exact G h t (by omega) (by omega)
    show ob (ysi "long" (yoG n) (yk 0) (ysf [] [PVar.val (PV.lst (ts.map ybW))] (ybW t)) h) _=_
    rw [e1,yha,ih fun u hu=>hm u (List.mem_cons_of_mem _ hu)]
    rfl
  exact this ts fun _ h=>h
 rw [e]
 walk_at "px"
 show ob (yCi [.lst ((ycd ts).map PV.int)] h) _=_
 unfold yCi yeM
 simp only [yoc]
 rfl
theorem yFW {n:Nat}(G:yuh n) {r:Str}{x y:List T}(hd:3*ymt (.if_ r x y)+1<=n+3) (hw:wT (.if_ r x y)<=100000):yno (n+2) [ybW (.if_ r x y)] h=some (.int (ymf (.if_ r x y)),h):=by
 have hd:3*(1+max (ybR x) (ybR y))+1<=n+3:=hd
 have hw:40+r.length+wL x+wL y<=100000:=hw
 unfold yno
 rw [ybp]
 show ob (ycc _ [.val (.ins 5 ["slot","parts","others"] [.str r,.lst (yO x),.lst (yO y)])] h) fnK=_
 walk_at "px"
 rw [ydV G (ts:=x) (by omega) (by omega)]
 walk_at "px"
 rw [ydV G (ts:=y) (by omega) (by omega)]
 walk_at "px"
 rfl
theorem yvP {n:Nat}(G:yuh n) {x y:List T}(hd:3*ymt (.either x y)+1<=n+3) (hw:wT (.either x y)<=100000):yhW (n+2) [ybW (.either x y)] h=some (.int (ymf (.either x y)),h):=by
 have hd:3*(1+max (ybR x) (ybR y))+1<=n+3:=hd
 have hw:40+wL x+wL y<=100000:=hw
 unfold yhW
 rw [ybp]
 show ob (ycc _ [.val (.ins 6 ["parts","others"] [.lst (yO x),.lst (yO y)])] h) fnK=_
 walk_at "px"
 rw [ydV G (ts:=x) (by omega) (by omega)]
 walk_at "px"
 rw [ydV G (ts:=y) (by omega) (by omega)]
 walk_at "px"
 rfl
theorem yCK {n:Nat}(G:yuh n) {nm r:Str}{x y:List T}(hd:3*ymt (.try_ x nm r y)+1<=n+3) (hw:wT (.try_ x nm r y)<=100000):ylR (n+2) [ybW (.try_ x nm r y)] h=some (.int (ymf (.try_ x nm r y)),h):=by
 have hd:3*(1+max (ybR x) (ybR y))+1<=n+3:=hd
 have hw:40+nm.length+r.length+wL x+wL y<=100000:=hw
 unfold ylR
 rw [ybp]
 show ob (ycc _ [.val (.ins 7 ["parts","name","slot","others"] [.lst (yO x),.str nm,.str r,.lst (yO y)])] h) fnK=_
 walk_at "px"
 rw [ydV G (ts:=x) (by omega) (by omega)]
 walk_at "px"
 rw [ydV G (ts:=y) (by omega) (by omega)]
 walk_at "px"
 rfl
theorem ypT:∀ n:Nat,yuh n
 | 0=>fun h t hd=>by omega
 | n+1=>fun h t hd hw=>by
  cases t with
  | base=>rfl
  | let_ r m=>rfl
  | reckon w r s u=>rfl
  | take r s=>rfl
  | put r s=>rfl
  | throw nm r=>rfl
  | wait=>rfl
  | if_ r x y =>
   have h1:3*(1+max (ybR x) (ybR y))+1<=n+1:=hd
   obtain ⟨m,rfl⟩:∃ m,n=m+2:=⟨n-2,by omega⟩
   exact yFW (ypT m) hd hw
  | either x y =>
   have h1:3*(1+max (ybR x) (ybR y))+1<=n+1:=hd
   obtain ⟨m,rfl⟩:∃ m,n=m+2:=⟨n-2,by omega⟩
   exact yvP (ypT m) hd hw
  | try_ x nm r y =>
   have h1:3*(1+max (ybR x) (ybR y))+1<=n+1:=hd
   obtain ⟨m,rfl⟩:∃ m,n=m+2:=⟨n-2,by omega⟩
   exact yCK (ypT m) hd hw
end
def yyH (m:Nat):List Nat:=(Nat.toDigits 10 m).map Char.toNat
theorem yII:∀ d:Nat,d<10->(Nat.digitChar d).toNat=48+d:=by
 intro d h
 have:d=0\/d=1\/d=2\/d=3\/d=4\/d=5\/d=6\/d=7\/d=8\/d=9:=by omega
 rcases this with rfl|rfl|rfl|rfl|rfl|rfl|rfl|rfl|rfl|rfl
 all_goals decide
theorem yCL (cs:List Nat) (c:Nat):yEB (cs++[c])=yEB cs*10+((c:Int)-48):=by
 unfold yEB
 rw [List.foldl_append];rfl
theorem yAr:∀ m:Nat,yyH m≠[]/\(∀ c∈yyH m,48<=c/\c<=57)/\yEB (yyH m)=m/\(m≠0->(yyH m)[0]?≠some 48)/\(m=0->yyH m=[48]):=by
 intro m
 induction m using Nat.strongRecOn with
 | ind m ih =>
  unfold yyH at *
  by_cases h:m<10
  .rw [Nat.toDigits_of_lt_base h,List.map_singleton,yII m h]
   refine ⟨by simp,fun c hc=>?_,?_,fun hm e=>?_,fun e=>by subst e;rfl⟩
   .rw [List.mem_singleton.mp hc];omega
   .show (0:Int)*10+(((48+m:Nat):Int)-48)=m
    omega
   .have:48+m=48:=by simpa using e
    omega
  .rw [Nat.toDigits_of_base_le (by decide) (by omega),List.map_append,List.map_singleton,yII (m%10) (by omega)]
   obtain ⟨h1,h2,h3,h4,h5⟩:=ih (m/10) (by omega)
   refine ⟨by simp,fun c hc=>?_,?_,fun _ e=>?_,fun e=>by omega⟩
   .rcases List.mem_append.mp hc with hc|hc
    .exact h2 c hc
    .rw [List.mem_singleton.mp hc];omega
   .rw [yCL,h3];omega
   .refine h4 (by omega) ?_
    generalize (Nat.toDigits 10 (m/10)).map Char.toNat=l at *
    cases l with
    | nil=>exact absurd rfl h1
    | cons a l=>simpa using e
theorem yAs {n:Int}(h:0<=n):(Str.ofString (toString n)).cps.toList=yyH n.toNat:=by
 obtain ⟨m,rfl⟩:∃ m:Nat,n=m:=⟨n.toNat,by omega⟩
 rw [Str.ofString_eq_toList]
 show (toString m).toList.map Char.toNat=_
 rw [Int.toNat_natCast,show (toString m)=m.repr from rfl,Nat.toList_repr];rfl
def ygL (r:Str):Prop:=∃ c:Nat,97<=c/\c<=104/\r=⟨#[c]⟩
def yrC (z:Str):Prop:=1<=z.length/\z.length<=8/\∀ c∈z.cps.toList,97<=c/\c<=122
def yui (w:Str):Prop:=w = "plus"\/w = "minus"\/w = "times"\/w = "less"\/w = "same"
mutual
noncomputable def gdT:T->Prop
 | .base=>False
 | .let_ r n=>ygL r/\0<=n/\n<B64
 | .reckon w r s t=>yui w/\ygL r/\ygL s/\ygL t
 | .take r s=>ygL r/\ygL s
 | .put r s=>ygL r/\ygL s
 | .if_ r a b=>ygL r/\gdL a/\gdL b
 | .either a b=>gdL a/\gdL b
 | .try_ a nm r b=>yrC nm/\ygL r/\gdL a/\gdL b
 | .throw nm r=>yrC nm/\ygL r
 | .wait=>True
noncomputable def gdL:List T->Prop
 | []=>True
 | t::r=>gdT t/\gdL r
end
def wsd (l:List Str):List Str:=("(":Str)::(l++[(")":Str)])
mutual
noncomputable def wdT:T->List Str
 | .base=>[]
 | .let_ r n=>["let",r,(toString n:String)]
 | .reckon w r s t=>[w,r,s,t]
 | .take r s=>["take",r,s]
 | .put s t=>["put",s,t]
 | .if_ r a b=>("if":Str)::r::(wsd (wdL a)++("else":Str)::wsd (wdL b))
 | .either a b=>("either":Str)::(wsd (wdL a)++("or":Str)::wsd (wdL b))
 | .try_ a nm r b=>("try":Str)::(wsd (wdL a)++("on":Str)::nm::r::wsd (wdL b))
 | .throw nm r=>["throw",nm,r]
 | .wait=>["wait"]
noncomputable def wdL:List T->List Str
 | []=>[]
 | t::r=>wdT t++wdR r
noncomputable def wdR:List T->List Str
 | []=>[]
 | t::r=>";"::(wdT t++wdR r)
end
theorem yCM:∀ {t:T},gdT t->wdT t≠[]
 | .base,g=>g.elim
 | .let_ ..,_=>fun z=>by cases z
 | .reckon ..,_=>fun z=>by cases z
 | .take ..,_=>fun z=>by cases z
 | .put ..,_=>fun z=>by cases z
 | .if_ ..,_=>fun z=>by cases z
 | .either ..,_=>fun z=>by cases z
 | .try_ ..,_=>fun z=>by cases z
 | .throw ..,_=>fun z=>by cases z
 | .wait,_=>fun z=>by cases z
theorem yfe {sep:Str}:∀ {a b:List Str},a≠[]->b≠[]->Str.join sep (a++b)=Str.join sep a++sep++Str.join sep b
 | [],_,h,_=>absurd rfl h
 | [x],[],_,h=>absurd rfl h
 | [x],y::b,_,_=>rfl
 | x::y::a,b,_,hb=>by
  have ih:=yfe (sep:=sep) (a:=y::a) (b:=b) (fun z=>by cases z) hb
  show x++sep++Str.join sep ((y::a)++b)=x++sep++Str.join sep (y::a)++sep++Str.join sep b
  rw [ih];simp only [yhs]
theorem yuj {sep x:Str}{b:List Str}(h:b≠[]):Str.join sep (x::b)=x++sep++Str.join sep b:=yfe (a:=[x]) (fun z=>by cases z) h
theorem yIJ:(" ; ":Str) = " "++";"++" ":=by rfl'
theorem yIK:("( )":Str) = "("++" "++")":=by rfl'
def fr (w:Str):Prop:=32∉w.cps.toList/\w.length≠0/\w.length<=20
theorem ydh {r:Str}(h:ygL r):fr r:=by
 obtain ⟨c,h1,h2,rfl⟩:=h
 refine ⟨fun z=>?_,(fun z:1=0=>by cases z),(show 1<=20 by decide)⟩
 have:32=c:=by simpa using z
 omega
theorem ysu {r:Str}(h:yrC r):fr r:=⟨fun z=>by have:=h.2.2 _ z;omega,by have:=h.1;omega,by have:=h.2.1;omega⟩
theorem yAt {n:Int}(h:0<=n) (h2:n<B64):fr (toString n:String):=by
 have e:=yAs h
 obtain ⟨h3,h4,_⟩:=yAr n.toNat
 refine ⟨fun z=>?_,fun z=>h3 ?_,str_len h (by decide) (Int.lt_trans h2 yDW)⟩
 .rw [e] at z
  have:=h4 _ z
  omega
 .rw [<- e]
  have:(Str.ofString (toString n)).cps.size=0:=z
  exact List.eq_nil_of_length_eq_zero (by simpa using this)
theorem yAu {r:Str}(h:yui r):fr r:=by
 rcases h with rfl|rfl|rfl|rfl|rfl
 all_goals exact ⟨by rfl',by rfl',by rfl'⟩
theorem ywY (s:Str) (h:decide (32∉s.cps.toList/\s.length≠0/\s.length<=20)=true):fr s:=(show 32∉s.cps.toList/\s.length≠0/\s.length<=20 from of_decide_eq_true h)
def frs (l:List Str):Prop:=∀ w∈l,fr w
theorem ykd:frs []:=fun _ h=>by cases h
theorem ybu {w:Str}{l:List Str}(h:fr w) (k:frs l):frs (w::l):=fun x hx=>(List.mem_cons.mp hx).elim (fun e=>e ▸ h) (k x)
theorem yoj {a b:List Str}(h:frs a) (k:frs b):frs (a++b):=fun x hx=>(List.mem_append.mp hx).elim (h x) (k x)
theorem yLH:fr "let":=ywY _ (by rfl')
theorem yIL:fr "take":=ywY _ (by rfl')
theorem yLI:fr "put":=ywY _ (by rfl')
theorem yMS:fr "if":=ywY _ (by rfl')
theorem yIM:fr "else":=ywY _ (by rfl')
theorem yCN:fr "either":=ywY _ (by rfl')
theorem yMT:fr "or":=ywY _ (by rfl')
theorem yLJ:fr "try":=ywY _ (by rfl')
theorem yMU:fr "on":=ywY _ (by rfl')
theorem yFX:fr "throw":=ywY _ (by rfl')
theorem yIN:fr "wait":=ywY _ (by rfl')
theorem yMV:fr "(":=ywY _ (by rfl')
theorem yMW:fr ")":=ywY _ (by rfl')
theorem yMX:fr ";":=ywY _ (by rfl')
theorem yrD {l:List Str}(h:frs l):frs (wsd l):=ybu yMV (yoj h (ybu yMW ykd))
mutual
theorem yFY:∀ {t:T},gdT t->frs (wdT t)
 | .base,g=>g.elim
 | .let_ r n,g=>ybu yLH (ybu (ydh g.1) (ybu (yAt g.2.1 g.2.2) ykd))
 | .reckon w r s t,g=>ybu (yAu g.1) (ybu (ydh g.2.1) (ybu (ydh g.2.2.1) (ybu (ydh g.2.2.2) ykd)))
 | .take r s,g=>ybu yIL (ybu (ydh g.1) (ybu (ydh g.2) ykd))
 | .put r s,g=>ybu yLI (ybu (ydh g.1) (ybu (ydh g.2) ykd))
 | .if_ r a b,g=>ybu yMS (ybu (ydh g.1) (yoj (yrD (ymE g.2.1)) (ybu yIM (yrD (ymE g.2.2)))))
 | .either a b,g=>ybu yCN (yoj (yrD (ymE g.1)) (ybu yMT (yrD (ymE g.2))))
 | .try_ a nm r b,g=>ybu yLJ (yoj (yrD (ymE g.2.2.1)) (ybu yMU (ybu (ysu g.1) (ybu (ydh g.2.1) (yrD (ymE g.2.2.2))))))
 | .throw nm r,g=>ybu yFX (ybu (ysu g.1) (ybu (ydh g.2) ykd))
 | .wait,_=>ybu yIN ykd
theorem ymE:∀ {ts:List T},gdL ts->frs (wdL ts)
 | [],_=>ykd
 | _::_,g=>yoj (yFY g.1) (yIO g.2)
theorem yIO:∀ {ts:List T},gdL ts->frs (wdR ts)
 | [],_=>ykd
 | _::_,g=>ybu yMX (yoj (yFY g.1) (yIO g.2))
end
theorem yvQ {sep:Str}{l:List Str}(h:frs l) (hl:l≠[]):Str.join sep l≠"":=by
 cases l with
 | nil=>exact absurd rfl hl
 | cons x r =>
  intro e
  have h1:=(h x List.mem_cons_self).2.1
  have:=yCH sep x r (by omega)
  rw [e,yDV] at this
  omega
theorem yxU (l:List Str):wsd l≠[]:=fun z=>by cases z
theorem yjL {l:List Str}(h:frs l):ydG (Str.join " " l)=Str.join " " (wsd l):=by
 unfold ydG
 by_cases e:l=[]
 .subst e
  rw [if_pos (by rfl')]
  exact yIK
 .rw [if_neg (yvQ h e)]
  show "("++" "++(Str.join " " l++" "++")")=Str.join " " (("(":Str)::(l++[(")":Str)]))
  rw [yuj (by simp),yfe e (fun z=>by cases z)]
  rfl
theorem ywZ:∀ (t:T) (r:List T),(∀ u∈t::r,ygK u=Str.join " " (wdT u))->gdL (t::r)->Str.join " ; " (ybH (t::r))=Str.join " " (wdT t++wdR r)
 | t,[],h,_=>by
  show ygK t=Str.join " " (wdT t++[])
  rw [List.append_nil];exact h t List.mem_cons_self
 | t,u::r,h,g=>by
  have ih:=ywZ u r (fun v hv=>h v (List.mem_cons_of_mem _ hv)) g.2
  show ygK t++" ; "++Str.join " ; " (ybH (u::r))=Str.join " " (wdT t++(";":Str)::(wdT u++wdR r))
  have ne:wdT u++wdR r≠[]:=fun z=>yCM g.2.1 (List.append_eq_nil_iff.mp z).1
  rw [ih,h t List.mem_cons_self,yfe (yCM g.1) (fun z=>by cases z),yuj ne,yIJ]
  simp only [yhs]
mutual
theorem yxa:∀ (t:T),gdT t->ygK t=Str.join " " (wdT t)
 | .base,g=>g.elim
 | .let_ ..,_=>rfl
 | .reckon ..,_=>rfl
 | .take ..,_=>rfl
 | .put ..,_=>rfl
 | .throw ..,_=>rfl
 | .wait,_=>rfl
 | .if_ r a b,g=>by
  show Str.join " " ["if",r,ydG (Str.join " ; " (ybH a)),"else",ydG (Str.join " ; " (ybH b))]=Str.join " " ((["if",r]:List Str)++(wsd (wdL a)++((["else"]:List Str)++wsd (wdL b))))
  rw [yht a g.2.1,yht b g.2.2,yjL (ymE g.2.1),yjL (ymE g.2.2),yfe (a:=["if",r]) (fun z=>by cases z) (fun z=>by cases z),yfe (yxU _) (fun z=>by cases z),yfe (a:=["else"]) (fun z=>by cases z) (yxU _)]
  simp only [Str.join,yhs]
 | .either a b,g=>by
  show Str.join " " ["either",ydG (Str.join " ; " (ybH a)),"or",ydG (Str.join " ; " (ybH b))]=Str.join " " ((["either"]:List Str)++(wsd (wdL a)++((["or"]:List Str)++wsd (wdL b))))
  rw [yht a g.1,yht b g.2,yjL (ymE g.1),yjL (ymE g.2),yfe (a:=["either"]) (fun z=>by cases z) (fun z=>by cases z),yfe (yxU _) (fun z=>by cases z),yfe (a:=["or"]) (fun z=>by cases z) (yxU _)]
  simp only [Str.join,yhs]
 | .try_ a nm r b,g=>by
  show Str.join " " ["try",ydG (Str.join " ; " (ybH a)),"on",nm,r,ydG (Str.join " ; " (ybH b))]=Str.join " " ((["try"]:List Str)++(wsd (wdL a)++((["on",nm,r]:List Str)++wsd (wdL b))))
  rw [yht a g.2.2.1,yht b g.2.2.2,yjL (ymE g.2.2.1),yjL (ymE g.2.2.2),yfe (a:=["try"]) (fun z=>by cases z) (fun z=>by cases z),yfe (yxU _) (fun z=>by cases z),yfe (a:=["on",nm,r]) (fun z=>by cases z) (yxU _)]
  simp only [Str.join,yhs]
theorem yht:∀ (ts:List T),gdL ts->Str.join " ; " (ybH ts)=Str.join " " (wdL ts)
 | [],_=>rfl
 | t::r,g=>ywZ t r (yuk (t::r) g) g
theorem yuk:∀ (ts:List T),gdL ts->∀ u∈ts,ygK u=Str.join " " (wdT u)
 | [],_,u,h=>by cases h
 | t::r,g,u,h=>by
  rcases List.mem_cons.mp h with e|h
  .rw [e];exact yxa t g.1
  .exact yuk r g.2 u h
end
section
variable {h:AH}
theorem yLK {z:Str}{i:Nat}{ρ:PSt}(e:yk i ρ h=some (.str z,h)) (hl:z.length<=100000):xIS (yk i) ρ h=some (z.cps.toList.map sgn,h):=by
 unfold xIS
 rw [e,yha]
 exact if_pos hl
theorem yrE {x y:Str}(hl:x.length<=1000):yeP [.str x,.str y] h=some (.bl (x.cps.toList.all fun c=>decide (c∈y.cps.toList)),h):=by
 unfold yeP
 rw [ybp]
 show ob (ycc _ [.val (.str x),.val (.str y)] h) fnK=_
 have hz:x.cps.toList.length=x.length:=by simp [Str.length]
 walk_at "px"
 rw [yLK rfl (by omega),yha]
 rw [if_pos (by rw [List.length_map];omega)]
 rw [yvD (f:=sgn) (g:=fun c=>.bl (decide (c∈y.cps.toList))) fun c _=>rfl]
 walk_at "px"
 show ob (yHJ [.lst (x.cps.toList.map fun c=>PV.bl (decide (c∈y.cps.toList)))] h) _=_
 unfold yHJ yeM
 rw [show (x.cps.toList.map fun c=>PV.bl (decide (c∈y.cps.toList)))=(x.cps.toList.map fun c=>decide (c∈y.cps.toList)).map PV.bl by rw [List.map_map];rfl]
 simp only [ytL,List.all_map]
 rfl
theorem yAv {c:Nat}(h1:97<=c) (h2:c<=104):c∈("abcdefgh":Str).cps.toList:=by
 rw [show ("abcdefgh":Str).cps.toList=[97,98,99,100,101,102,103,104] by rfl']
 have:c=97\/c=98\/c=99\/c=100\/c=101\/c=102\/c=103\/c=104:=by omega
 rcases this with rfl|rfl|rfl|rfl|rfl|rfl|rfl|rfl
 all_goals decide
theorem yvR {c:Nat}(h1:97<=c) (h2:c<=122):c∈("abcdefghijklmnopqrstuvwxyz":Str).cps.toList:=by
 rw [show ("abcdefghijklmnopqrstuvwxyz":Str).cps.toList=(List.range 26).map (· + 97) by rfl']
 exact List.mem_map.mpr ⟨c-97,List.mem_range.mpr (by omega),by omega⟩
theorem yCO {c:Nat}(h1:48<=c) (h2:c<=57):c∈("0123456789":Str).cps.toList:=by
 rw [show ("0123456789":Str).cps.toList=(List.range 10).map (· + 48) by rfl']
 exact List.mem_map.mpr ⟨c-48,List.mem_range.mpr (by omega),by omega⟩
theorem yxV {r:Str}(g:ygL r):yle [.str r] h=some (.bl true,h):=by
 obtain ⟨c,h1,h2,rfl⟩:=g
 unfold yle
 rw [ybp]
 show ob (ycc _ [.val (.str ⟨#[c]⟩)] h) fnK=_
 walk_at "px"
 rw [show (⟨#[c]⟩:Str).length=1 from rfl]
 walk_at "px"
 simp only [yAv h1 h2]
 rfl
theorem yxW {r:Str}(g:yrC r):ylf [.str r] h=some (.bl true,h):=by
 obtain ⟨h1,h2,h3⟩:=g
 unfold ylf
 rw [ybp]
 show ob (ycc _ [.val (.str r)] h) fnK=_
 walk_at "px"
 rw [yrE (by omega)]
 rw [List.all_eq_true.mpr fun c hc=>decide_eq_true (yvR (h3 c hc).1 (h3 c hc).2)]
 simp only [show (1:Int)<=r.length by omega,show (r.length:Int)<=8 by omega]
 walk_at "px"
 rw [if_pos (by omega)]
theorem yxX {r:Str}(g:yui r):ynp [.str r] h=some (.bl true,h):=by
 rcases g with rfl|rfl|rfl|rfl|rfl
 all_goals rfl
theorem yul {n:Int}(h0:0<=n) (h1:n<B64):yiu [.str (toString n:String)] h=some (.int n,h):=by
 obtain ⟨d1,d2,d3,d4,d5⟩:=yAr n.toNat
 have hl:=str_len h0 (k:=20) (by decide) (Int.lt_trans h1 yDW)
 have hn:(Str.ofString (toString n)).length≠0:=(yAt h0 h1).2.1
 have e:=yAs h0
 have hz:n=0->Str.ofString (toString n) = "0":=fun z=>by subst z;rfl'
 have hat:atI (Str.ofString (toString n)).cps.toList 0=some ((yyH n.toNat).headD 0):=by
  rw [e]
  cases q:yyH n.toNat with
  | nil=>exact absurd q d1
  | cons a l=>exact yxK
 have hh:(yyH n.toNat).headD 0=48->n=0:=fun q=>Classical.byContradiction fun z=>d4 (by omega) (by
  cases q2:yyH n.toNat with
  | nil=>exact absurd q2 d1
  | cons a l=>rw [q2] at q;simpa using q)
 generalize hs:Str.ofString (toString n)=z at *
 unfold yiu
 rw [ybp]
 show ob (yx _ _ [.val (.str z),.no] h) fnK=_
 have ml:z.cps.toList.all (fun c=>decide (c∈("0123456789":Str).cps.toList))=true:=List.all_eq_true.mpr fun c hc=>decide_eq_true (yCO (d2 c (e ▸ hc)).1 (d2 c (e ▸ hc)).2)
 walk_at "px"
 rw [if_pos (by omega:z.length<=100000)]
 simp only [show (1:Int)<=z.length by omega,show (z.length:Int)<=20 by omega]
 walk_at "px"
 rw [yrE (by omega),ml]
 walk_at "px"
 rw [hat]
 walk_at "px"
 have hb:∀ h:AH,yzL [.str z] h=some (.int n,h):=fun h=>by
  unfold yzL
  show (if _ then _ else _)=_
  rw [if_pos ⟨by rw [e];exact d1,by rw [e];exact d2,by omega⟩,e,d3,Int.toNat_of_nonneg h0]
 rw [if_neg (not_not_intro trivial),if_pos (by omega)]
 simp only [sgn,hb]
 walk_at "px"
 rw [if_pos h1]
 split
 .rename_i q
  have q:(yyH n.toNat).headD 0=48:=by
   have q2:=congrArg (fun s:Str=>s.cps.toList) q
   rw [show ("0":Str).cps.toList=[48] by rfl'] at q2
   simpa using q2
  rw [if_neg (not_not_intro (hz (hh q)))]
 .rfl
end
theorem ypq:(("let":Str) = "if")=False:=eq_false (by rfl')
theorem yjc:(("let":Str) = "either")=False:=eq_false (by rfl')
theorem yns:(("let":Str) = "try")=False:=eq_false (by rfl')
theorem yrF:(("take":Str) = "let")=False:=eq_false (by rfl')
theorem ynt:(("take":Str) = "if")=False:=eq_false (by rfl')
theorem yhX:(("take":Str) = "either")=False:=eq_false (by rfl')
theorem ylS:(("take":Str) = "try")=False:=eq_false (by rfl')
theorem yum:(("put":Str) = "let")=False:=eq_false (by rfl')
theorem yrG:(("put":Str) = "take")=False:=eq_false (by rfl')
theorem ypr:(("put":Str) = "if")=False:=eq_false (by rfl')
theorem yjd:(("put":Str) = "either")=False:=eq_false (by rfl')
theorem ynu:(("put":Str) = "try")=False:=eq_false (by rfl')
theorem ypU:(("throw":Str) = "let")=False:=eq_false (by rfl')
theorem yoI:(("throw":Str) = "take")=False:=eq_false (by rfl')
theorem ypV:(("throw":Str) = "put")=False:=eq_false (by rfl')
theorem ylT:(("throw":Str) = "if")=False:=eq_false (by rfl')
theorem yhe:(("throw":Str) = "either")=False:=eq_false (by rfl')
theorem yke:(("throw":Str) = "try")=False:=eq_false (by rfl')
theorem yrH:(("wait":Str) = "let")=False:=eq_false (by rfl')
theorem ypW:(("wait":Str) = "take")=False:=eq_false (by rfl')
theorem yrI:(("wait":Str) = "put")=False:=eq_false (by rfl')
theorem yoJ:(("wait":Str) = "throw")=False:=eq_false (by rfl')
theorem ynv:(("wait":Str) = "if")=False:=eq_false (by rfl')
theorem yhY:(("wait":Str) = "either")=False:=eq_false (by rfl')
theorem ylU:(("wait":Str) = "try")=False:=eq_false (by rfl')
theorem ymF:(("if":Str) = "either")=False:=eq_false (by rfl')
theorem ysv:(("if":Str) = "try")=False:=eq_false (by rfl')
theorem yfP:(("either":Str) = "if")=False:=eq_false (by rfl')
theorem yli:(("either":Str) = "try")=False:=eq_false (by rfl')
theorem ykf:(("try":Str) = "if")=False:=eq_false (by rfl')
theorem yhu:(("try":Str) = "either")=False:=eq_false (by rfl')
theorem yok {w:Str}(g:yui w):(w = "let")=False/\(w = "take")=False/\(w = "put")=False/\(w = "throw")=False/\(w = "wait")=False/\(w = "if")=False/\(w = "either")=False/\(w = "try")=False:=by
 rcases g with rfl|rfl|rfl|rfl|rfl
 all_goals exact ⟨eq_false (by rfl'),eq_false (by rfl'),eq_false (by rfl'),eq_false (by rfl'),eq_false (by rfl'),eq_false (by rfl'),eq_false (by rfl'),eq_false (by rfl')⟩
local macro_rules | `(tactic| walk_at "qq")=>`(tactic| simp_all? only [ypq,yjc,yns,yrF,ynt,yhX,ylS,yum,yrG,ypr,yjd,ynu,ypU,yoI,ypV,ylT,yhe,yke,yrH,ypW,yrI,yoJ,ynv,yhY,ylU,ymF,ysv,yfP,yli,ykf,yhu,↓reduceIte])
local macro_rules | `(tactic| walk_at "qt")=>`(tactic| simp_all? only [yxK,yCq,yFx,yFy,yJL,ypq,yjc,yns,yrF,ynt,yhX,ylS,yum,yrG,ypr,yjd,ynu,ypU,yoI,ypV,ylT,yhe,yke,yrH,ypW,yrI,yoJ,ynv,yhY,ylU,ymF,ysv,yfP,yli,ykf,yhu,↓reduceIte])
section
def rdr (ws:List Str) (k:Nat):Nd:=.ins 10 ["words","at"] [.lst (ws.map .str),.int k]
def hR (h:AH) (o:Nat) (ws:List Str) (k:Nat):AH:=h.set o (rdr ws k)
variable {h:AH}{o:Nat}{ws:List Str}{k:Nat}
theorem yCP (ho:o<h.length):(hR h o ws k)[o]?=some (.ins 10 ["words","at"] [.lst (ws.map .str),.int k]):=List.getElem?_set_self ho
theorem yIP {j:Nat}:(hR h o ws k).set o (.ins 10 ["words","at"] [.lst (ws.map .str),.int j])=hR h o ws j:=by unfold hR rdr;rw [List.set_set]
theorem yxb (ho:o<h.length):ykU [10] "words" (.loc o) (hR h o ws k)=some (.lst (ws.map .str),hR h o ws k):=by
 unfold ykU yjH
 simp only [yCP ho]
 rw [if_pos (by rfl'),show List.idxOf ("words":Str) ["words","at"]=0 by rfl']
 rfl
theorem yFZ (ho:o<h.length):ykU [10] "at" (.loc o) (hR h o ws k)=some (.int k,hR h o ws k):=by
 unfold ykU yjH
 simp only [yCP ho]
 rw [if_pos (by rfl'),show List.idxOf ("at":Str) ["words","at"]=1 by rfl']
 rfl
theorem mR {m:Str}{f:Fn}{ys:List PV}{a:XE}{aa:XA}{ρ:PSt}{h0 h2:AH}(ho:o<h.length) (hm:m∉(["words","at"]:List Str)) (ea:a ρ h0=some (.loc o,hR h o ws k)) (eb:aa ρ (hR h o ws k)=some (ys,h2)):yA 10 m f a aa ρ h0=f (.loc o::ys) h2:=by
 unfold yA yjH
 rw [ea,yha]
 simp only [yCP ho]
 rw [if_pos ⟨trivial,hm⟩,eb];rfl
theorem pR (ho:o<h.length) {j:Nat}{eo ev:XE}{ρ:PSt}(e1:ev ρ (hR h o ws k)=some (.int (j:Int),hR h o ws k)) (e2:eo ρ (hR h o ws k)=some (.loc o,hR h o ws k)):yzU [10] "at" eo ev ρ (hR h o ws k)=some (.nx ρ,hR h o ws j):=by
 unfold yzU
 rw [e1,yha,e2,yha]
 simp only [yCP ho]
 rw [if_pos ⟨by decide,by decide⟩]
 show some (Out.nx ρ,(hR h o ws k).set o (.ins 10 (putN "at" (.int j) ["words","at"] [.lst (ws.map .str),.int k]).1 (putN "at" (.int j) ["words","at"] [.lst (ws.map .str),.int k]).2))=_
 rw [show putN "at" (.int j) ["words","at"] [.lst (ws.map .str),.int k]=(([("words":Str),"at"]:List Str),[PV.lst (ws.map .str),.int j]) from rfl,yIP]
theorem ymG {w:Str}{r:List Str}(e:ws.drop k=w::r):ws[k]?=some w/\k<ws.length/\ws.drop (k+1)=r:=by
 have hk:k<ws.length:=Classical.byContradiction fun z=>by rw [List.drop_of_length_le (by omega)] at e;cases e
 rw [List.drop_eq_getElem_cons hk] at e
 cases e
 exact ⟨List.getElem?_eq_getElem hk,hk,rfl⟩
theorem yLL (e:ws.drop k=[]):ws.length<=k:=List.drop_eq_nil_iff.mp e
theorem ygp {w:Str}{r:List Str}(ho:o<h.length) (hl:ws.length<=100000) (e:ws.drop k=w::r):yD [.loc o] (hR h o ws k)=some (.str w,hR h o ws k):=by
 obtain ⟨e1,e2,_⟩:=ymG e
 unfold yD
 rw [ybp]
 show ob (yx _ _ [.val (.loc o)] (hR h o ws k)) fnK=_
 have e3:atI (ws.map PV.str) (k:Int)=some (.str w):=ymw (by rw [List.getElem?_map,e1];rfl)
 simp_all? only [yxb ho,yFZ ho,List.length_map,Int.ofNat_lt,e2,e3,↓reduceIte]
theorem ylV (ho:o<h.length) (hl:ws.length<=100000) (e:ws.drop k=[]):yD [.loc o] (hR h o ws k)=some (.non,hR h o ws k):=by
 have e2:=yLL e
 unfold yD
 rw [ybp]
 show ob (yx _ _ [.val (.loc o)] (hR h o ws k)) fnK=_
 simp_all? only [yxb ho,yFZ ho,List.length_map,Int.ofNat_lt,show ¬ k<ws.length by omega,↓reduceIte]
theorem yfG {w:Str}{r:List Str}(ho:o<h.length) (hl:ws.length<=100000) (e:ws.drop k=w::r):yX [.loc o] (hR h o ws k)=some (.str w,hR h o ws (k+1)):=by
 unfold yX
 rw [ybp]
 show ob (yx _ _ [.val (.loc o),.no] (hR h o ws k)) fnK=_
 walk_at "px"
 rw [mR ho (by rfl') rfl rfl,ygp ho hl e]
 walk_at "px"
 rw [if_neg (by intro z;cases z),pR (j:=k+1) ho (by walk_at "px";simp only [yFZ ho];walk_at "px";rfl) rfl]
 walk_at "px"
theorem yjz {w:Str}{r:List Str}(ho:o<h.length) (hl:ws.length<=100000) (e:ws.drop k=w::r):yp [.loc o,.str w] (hR h o ws k)=some (.non,hR h o ws (k+1)):=by
 unfold yp
 rw [ybp]
 show ob (yx _ _ [.val (.loc o),.val (.str w),.no] (hR h o ws k)) fnK=_
 walk_at "px"
 rw [mR ho (by rfl') rfl rfl,yfG ho hl e]
 walk_at "px"
theorem ybC {w:Str}{r:List Str}(g:ygL w) (ho:o<h.length) (hl:ws.length<=100000) (e:ws.drop k=w::r):ym [.loc o] (hR h o ws k)=some (.str w,hR h o ws (k+1)):=by
 unfold ym
 rw [ybp]
 show ob (yx _ _ [.val (.loc o),.no] (hR h o ws k)) fnK=_
 walk_at "px"
 rw [mR ho (by rfl') rfl rfl,yfG ho hl e]
 simp_all? only [yxV g]
theorem ykg {w:Str}{r:List Str}(g:yrC w) (ho:o<h.length) (hl:ws.length<=100000) (e:ws.drop k=w::r):ybh [.loc o] (hR h o ws k)=some (.str w,hR h o ws (k+1)):=by
 unfold ybh
 rw [ybp]
 show ob (yx _ _ [.val (.loc o),.no] (hR h o ws k)) fnK=_
 walk_at "px"
 rw [mR ho (by rfl') rfl rfl,yfG ho hl e]
 simp_all? only [yxW g]
theorem ypX {n:Int}{r:List Str}(h0:0<=n) (h1:n<B64) (ho:o<h.length) (hl:ws.length<=100000) (e:ws.drop k=Str.ofString (toString n)::r):ycz [.loc o] (hR h o ws k)=some (.int n,hR h o ws (k+1)):=by
 unfold ycz
 rw [ybp]
 show ob (yx _ _ [.val (.loc o),.no,.no] (hR h o ws k)) fnK=_
 walk_at "px"
 rw [mR ho (by rfl') rfl rfl,yfG ho hl e]
 simp_all? only [yul h0 h1]
 rw [if_neg (by intro z;cases z)]
theorem yLM {r:Str}{n:Int}{h:AH}:yhb [.str r,.int n] h=some (.ins 1 ["slot","number"] [.str r,.int n],h):=rfl
theorem yCQ {w r s t:Str}{h:AH}:yfa [.str w,.str r,.str s,.str t] h=some (.ins 2 ["word","slot","one","other"] [.str w,.str r,.str s,.str t],h):=rfl
theorem yIQ {r s:Str}{h:AH}:ygm [.str r,.str s] h=some (.ins 3 ["slot","place"] [.str r,.str s],h):=rfl
theorem yLN {r s:Str}{h:AH}:yhc [.str r,.str s] h=some (.ins 4 ["place","slot"] [.str r,.str s],h):=rfl
theorem yGa {r s:Str}{h:AH}:yfE [.str r,.str s] h=some (.ins 8 ["name","slot"] [.str r,.str s],h):=rfl
theorem yMY {r:Str}{a b:List PV}{h:AH}:yhV [.str r,.lst a,.lst b] h=some (.ins 5 ["slot","parts","others"] [.str r,.lst a,.lst b],h):=rfl
theorem yCR {a b:List PV}{h:AH}:yfb [.lst a,.lst b] h=some (.ins 6 ["parts","others"] [.lst a,.lst b],h):=rfl
theorem yLO {r s:Str}{a b:List PV}{h:AH}:yhd [.lst a,.str r,.str s,.lst b] h=some (.ins 7 ["parts","name","slot","others"] [.lst a,.str r,.str s,.lst b],h):=rfl
theorem ypY {w a b c:Str}{r:List Str}(ga:ygL a) (gb:ygL b) (gc:ygL c) (ho:o<h.length) (hl:ws.length<=100000) (e:ws.drop k=a::b::c::r):ycA [.loc o,.str w] (hR h o ws k)=some (ybW (.reckon w a b c),hR h o ws (k+3)):=by
 have e1:=(ymG e).2.2
 have e2:=(ymG e1).2.2
 unfold ycA
 rw [ybp]
 show ob (yx _ _ [.val (.loc o),.val (.str w),.no,.no,.no] (hR h o ws k)) fnK=_
 walk_at "px"
 rw [mR ho (by rfl') rfl rfl,ybC ga ho hl e]
 walk_at "px"
 rw [mR ho (by rfl') rfl rfl,ybC gb ho hl e1]
 walk_at "px"
 rw [mR ho (by rfl') rfl rfl,ybC gc ho hl e2]
 simp_all? only [yCQ]
 rfl
theorem ymu {t:T}{w:Str}{tl rest:List Str}(g:gdT t) (hp:plain t) (ew:wdT t=w::tl) (ho:o<h.length) (hl:ws.length<=100000) (e:ws.drop k=tl++rest):ybL [.loc o,.str w] (hR h o ws k)=some (ybW t,hR h o ws (k+tl.length)):=by
 unfold ybL
 rw [ybp]
 show ob (yx _ _ [.val (.loc o),.val (.str w),.no,.no,.no] (hR h o ws k)) fnK=_
 cases t with
 | base=>exact g.elim
 | if_ r a b=>exact hp.elim
 | either a b=>exact hp.elim
 | try_ a nm r b=>exact hp.elim
 | let_ r n =>
  cases ew
  have e1:=(ymG e).2.2
  walk_at "qq"
  rw [mR ho (by rfl') rfl rfl,ybC g.1 ho hl e]
  walk_at "px"
  rw [mR ho (by rfl') rfl rfl,ypX g.2.1 g.2.2 ho hl e1]
  simp_all? only [yLM]
  rfl
 | take r s =>
  cases ew
  have e1:=(ymG e).2.2
  walk_at "qq"
  rw [mR ho (by rfl') rfl rfl,ybC g.1 ho hl e]
  walk_at "px"
  rw [mR ho (by rfl') rfl rfl,ybC g.2 ho hl e1]
  simp_all? only [yIQ]
  rfl
 | put r s =>
  cases ew
  have e1:=(ymG e).2.2
  walk_at "qq"
  rw [mR ho (by rfl') rfl rfl,ybC g.1 ho hl e]
  walk_at "px"
  rw [mR ho (by rfl') rfl rfl,ybC g.2 ho hl e1]
  simp_all? only [yLN]
  rfl
 | throw nm r =>
  cases ew
  have e1:=(ymG e).2.2
  walk_at "qq"
  rw [mR ho (by rfl') rfl rfl,ykg g.1 ho hl e]
  walk_at "px"
  rw [mR ho (by rfl') rfl rfl,ybC g.2 ho hl e1]
  simp_all? only [yGa]
  rfl
 | wait =>
  cases ew
  walk_at "qq"
  rfl
 | reckon w a b c =>
  cases ew
  obtain ⟨n1,n2,n3,n4,n5,_,_,_⟩:=yok g.1
  simp_all? only [n1,n2,n3,n4,n5,yxX g.1,↓reduceIte]
  rw [mR ho (by rfl') rfl rfl,ypY g.2.1 g.2.2.1 g.2.2.2 ho hl e]
  walk_at "px"
end
mutual
noncomputable def rdT:T->Int
 | .if_ _ a b=>max 0 (max (1+rdL a) (1+rdL b))
 | .either a b=>max 0 (max (1+rdL a) (1+rdL b))
 | .try_ a _ _ b=>max 0 (max (1+rdL a) (1+rdL b))
 | _=>0
noncomputable def rdL:List T->Int
 | []=>-1
 | t::r=>max (rdT t) (rdL r)
end
mutual
noncomputable def yyI:T->Prop
 | .if_ _ a b=>yxc a/\yxc b/\a.length<=90/\b.length<=90
 | .either a b=>yxc a/\yxc b/\a.length<=90/\b.length<=90
 | .try_ a _ _ b=>yxc a/\yxc b/\a.length<=90/\b.length<=90
 | _=>True
noncomputable def yxc:List T->Prop
 | []=>True
 | t::r=>yyI t/\yxc r
end
theorem yIR:∀ t:T,0<=rdT t
 | .base=>by show (0:Int)<=0;omega
 | .let_ ..=>by show (0:Int)<=0;omega
 | .reckon ..=>by show (0:Int)<=0;omega
 | .take ..=>by show (0:Int)<=0;omega
 | .put ..=>by show (0:Int)<=0;omega
 | .throw ..=>by show (0:Int)<=0;omega
 | .wait=>by show (0:Int)<=0;omega
 | .if_ _ a b=>by show 0<=max 0 (max (1+rdL a) (1+rdL b));omega
 | .either a b=>by show 0<=max 0 (max (1+rdL a) (1+rdL b));omega
 | .try_ a _ _ b=>by show 0<=max 0 (max (1+rdL a) (1+rdL b));omega
theorem fw:∀ {t:T},gdT t->∃ w tl,wdT t=w::tl/\w≠")"
 | .base,g=>g.elim
 | .let_ ..,_=>⟨_,_,rfl,by rfl'⟩
 | .reckon ..,g=>⟨_,_,rfl,by rcases g.1 with rfl|rfl|rfl|rfl|rfl;all_goals rfl'⟩
 | .take ..,_=>⟨_,_,rfl,by rfl'⟩
 | .put ..,_=>⟨_,_,rfl,by rfl'⟩
 | .if_ ..,_=>⟨_,_,rfl,by rfl'⟩
 | .either ..,_=>⟨_,_,rfl,by rfl'⟩
 | .try_ ..,_=>⟨_,_,rfl,by rfl'⟩
 | .throw ..,_=>⟨_,_,rfl,by rfl'⟩
 | .wait,_=>⟨_,_,rfl,by rfl'⟩
theorem yAw:((")":Str) = ";")=False:=eq_false (by rfl')
theorem ygq {ws a b:List Str}{k:Nat}(e:ws.drop k=a++b):ws.drop (k+a.length)=b:=by
 rw [<- List.drop_drop,e,List.drop_left]
def ends (rest:List Str):Prop:=rest=[]\/∃ r,rest=(")":Str)::r
section
variable {h:AH}{o:Nat}{ws:List Str}{k:Nat}
noncomputable def ypZ (h:AH) (o:Nat) (ws:List Str) (n:Nat):Prop:=∀ (t:T) (k:Nat) (rest:List Str) (ar:Int),gdT t->yyI t->rdT t+ar<=8->4*ymt t+1<=n->ws.drop k=wdT t++rest->yY n [.loc o,.int ar] (hR h o ws k)=some (ybW t,hR h o ws (k+(wdT t).length))
def ylj:XT:=yF (xOp (oEq) (yA 10 "ahead" yD (yk 0) (yu)) (xC (.str ";")))
noncomputable def yvS (n:Nat):XS:=yx (yiW (yA 10 "pass_over" yp (yk 0) (yd (xC (.str ";")) (yu)))) (ymy 2 (yA 10 "part_taken" (yY n) (yk 0) (yd (yk 1) (yu))))
theorem yAx {n:Nat}(G:ypZ h o ws n) (ho:o<h.length) (hl:ws.length<=100000) {rest:List Str}(hr:ends rest) {ar:Int}:∀ (r:List T) (acc:List PV) (k fu:Nat),gdL r->yxc r->rdL r+ar<=8->4*ybR r+1<=n->r.length<fu->acc.length+r.length<=1000->ws.drop k=wdR r++rest ->
  whl ylj (yvS n) fu [.val (.loc o),.val (.int ar),.own (.lst acc)] (hR h o ws k)=some (.nx [.val (.loc o),.val (.int ar),.own (.lst (acc++yO r))],hR h o ws (k+(wdR r).length))
 | [],acc,k,fu+1,_,_,_,_,_,_,e=>by
  rw [ypp]
  have e:ws.drop k=rest:=e
  have c:ylj [.val (.loc o),.val (.int ar),.own (.lst acc)] (hR h o ws k)=some (false,hR h o ws k):=by
   unfold ylj
   walk_at "px"
   rw [mR ho (by rfl') rfl rfl]
   rcases hr with rfl|⟨r,rfl⟩
   .rw [ylV ho hl e]
    walk_at "px"
    rfl
   .rw [ygp ho hl e]
    simp_all? only [yAw]
  rw [c,yha,if_neg (by intro z;cases z)]
  show _=some (Out.nx [.val (.loc o),.val (.int ar),.own (.lst (acc++[]))],hR h o ws (k+0))
  rw [List.append_nil];rfl
 | t::r,acc,k,fu+1,g,f,hd,hf,hu,ha,e=>by
  rw [ypp]
  have e:ws.drop k=(";":Str)::(wdT t++wdR r++rest):=e
  have hd:max (rdT t) (rdL r)+ar<=8:=hd
  have hf:4*max (ymt t) (ybR r)+1<=n:=hf
  have e1:=(ymG e).2.2
  rw [List.append_assoc] at e1
  have hu:r.length+1<fu+1:=hu
  have ha:acc.length+(r.length+1)<=1000:=ha
  have c:ylj [.val (.loc o),.val (.int ar),.own (.lst acc)] (hR h o ws k)=some (true,hR h o ws k):=by
   unfold ylj
   walk_at "px"
   rw [mR ho (by rfl') rfl rfl,ygp ho hl e]
   walk_at "px"
  have b:yvS n [.val (.loc o),.val (.int ar),.own (.lst acc)] (hR h o ws k)=some (.nx [.val (.loc o),.val (.int ar),.own (.lst (acc++[ybW t]))],hR h o ws (k+1+(wdT t).length)):=by
   unfold yvS
   walk_at "px"
   rw [mR ho (by rfl') rfl rfl,yjz ho hl e]
   walk_at "px"
   rw [yms rfl,mR ho (by rfl') rfl rfl,G t (k+1) _ ar g.1 f.1 (by omega) (by omega) e1]
   walk_at "px"
   rw [if_pos (by omega)]
  rw [c,yha,if_pos rfl,b,yha]
  show whl ylj (yvS n) fu _ _=_
  rw [yAx G ho hl hr r (acc++[ybW t]) (k+1+(wdT t).length) fu g.2 f.2 (by omega) (by omega) (by omega) (by rw [List.length_append,List.length_singleton];omega) (ygq e1)]
  show _=some (Out.nx [.val (.loc o),.val (.int ar),.own (.lst (acc++(ybW t::yO r)))],hR h o ws (k+((wdT t++wdR r).length+1)))
  rw [List.append_assoc,List.length_append,List.singleton_append,show k+1+(wdT t).length+(wdR r).length=k+((wdT t).length+(wdR r).length+1) by omega]
theorem list_eq {n:Nat}(G:ypZ h o ws n) (ho:o<h.length) (hl:ws.length<=100000) {rest:List Str}(hr:ends rest) {ar:Int}{ts:List T}{k:Nat}(g:gdL ts) (f:yxc ts) (hc:ts.length<=90) (hd:rdL ts+ar<=8) (hf:4*ybR ts+1<=n) (e:ws.drop k=wdL ts++rest) :
  ycj (n+1) [.loc o,.int ar] (hR h o ws k)=some (.lst (yO ts),hR h o ws (k+(wdL ts).length)):=by
 unfold ycj
 rw [ybp]
 show ob (yx _ (yx _ (yx (yoE 100 ylj (yvS n)) _)) [.val (.loc o),.val (.int ar),.no] (hR h o ws k)) fnK=_
 cases ts with
 | nil =>
  have e:ws.drop k=rest:=e
  walk_at "px"
  rw [mR ho (by rfl') rfl rfl]
  rcases hr with rfl|⟨r,rfl⟩
  .rw [ylV ho hl e]
   walk_at "px"
   rw [if_pos (show isN PV.non=true from rfl)];rfl
  .rw [ygp ho hl e]
   walk_at "px"
   rw [if_neg (by intro z;cases z),mR ho (by rfl') rfl rfl,ygp ho hl e]
   walk_at "px"
   rfl
 | cons t r =>
  have e:ws.drop k=wdT t++wdR r++rest:=e
  have hd:max (rdT t) (rdL r)+ar<=8:=hd
  have hf:4*max (ymt t) (ybR r)+1<=n:=hf
  have hc:r.length+1<=90:=hc
  obtain ⟨w,tl,ew,nw⟩:=fw g.1
  have e0:ws.drop k=w::(tl++wdR r++rest):=by rw [e,ew];rfl
  rw [List.append_assoc] at e
  walk_at "px"
  rw [mR ho (by rfl') rfl rfl,ygp ho hl e0]
  walk_at "px"
  rw [if_neg (by intro z;cases z),mR ho (by rfl') rfl rfl,ygp ho hl e0]
  simp_all? only [nw,↓reduceIte]
  rw [mR ho (by rfl') rfl rfl,G t k _ ar g.1 f.1 (by omega) (by omega) e]
  walk_at "px"
  rw [show yoE 100 ylj (yvS n) [PVar.val (PV.loc o),PVar.val (PV.int ar),PVar.own (Nd.lst [ybW t])] (hR h o ws (k+(wdT t).length))=whl ylj (yvS n) 100 [PVar.val (PV.loc o),PVar.val (PV.int ar),PVar.own (Nd.lst [ybW t])] (hR h o ws (k+(wdT t).length)) from rfl,
   yAx G ho hl hr r [ybW t] (k+(wdT t).length) 100 g.2 f.2 (by omega) (by omega) (by omega) (by rw [List.length_singleton];omega) (ygq e)]
  walk_at "px"
  show some (PV.lst ([ybW t]++yO r),_)=some (PV.lst (ybW t::yO r),hR h o ws (k+(wdT t++wdR r).length))
  rw [List.length_append,<- Nat.add_assoc];rfl
theorem yhH {n:Nat}(G:ypZ h o ws n) (ho:o<h.length) (hl:ws.length<=100000) {rest:List Str}{ar:Int}{ts:List T}{k:Nat}(g:gdL ts) (f:yxc ts) (hc:ts.length<=90) (hd:rdL ts+ar<=8) (hf:4*ybR ts+1<=n) (e:ws.drop k=wsd (wdL ts)++rest) :
  yr (n+2) [.loc o,.int ar] (hR h o ws k)=some (.lst (yO ts),hR h o ws (k+(wsd (wdL ts)).length)):=by
 have e:ws.drop k=("(":Str)::(wdL ts++(")":Str)::rest):=by
  rw [e];unfold wsd;simp
 have e1:=(ymG e).2.2
 have e2:=ygq e1
 unfold yr
 rw [ybp]
 show ob (yx _ _ [.val (.loc o),.val (.int ar),.no] (hR h o ws k)) fnK=_
 walk_at "px"
 rw [mR ho (by rfl') rfl rfl,yjz ho hl e]
 walk_at "px"
 rw [mR ho (by rfl') rfl rfl,list_eq G ho hl (.inr ⟨_,rfl⟩) g f hc hd hf e1]
 walk_at "px"
 rw [mR ho (by rfl') rfl rfl,yjz ho hl e2]
 walk_at "px"
 rw [show (wsd (wdL ts)).length=(wdL ts).length+2 by unfold wsd;simp,show k+1+(wdL ts).length+1=k+((wdL ts).length+2) by omega]
theorem yLP {n:Nat}(G:ypZ h o ws n) (ho:o<h.length) (hl:ws.length<=100000) {rest:List Str}{ar:Int}{r:Str}{a b:List T}{k:Nat}(g:gdT (.if_ r a b)) (f:yyI (.if_ r a b)) (hd:max (rdL a) (rdL b)+ar<=8) (hf:4*max (ybR a) (ybR b)+1<=n) (e:ws.drop k=r::(wsd (wdL a)++("else":Str)::(wsd (wdL b)++rest))) :
  yfc (n+3) [.loc o,.int ar] (hR h o ws k)=some (ybW (.if_ r a b),hR h o ws (k+1+(wsd (wdL a)).length+1+(wsd (wdL b)).length)):=by
 have e1:=(ymG e).2.2
 have e2:=ygq e1
 have e3:=(ymG e2).2.2
 unfold yfc
 rw [ybp]
 show ob (yx _ _ [.val (.loc o),.val (.int ar),.no,.no,.no] (hR h o ws k)) fnK=_
 walk_at "px"
 rw [mR ho (by rfl') rfl rfl,ybC g.1 ho hl e]
 walk_at "px"
 rw [mR ho (by rfl') rfl rfl,yhH G ho hl g.2.1 f.1 f.2.2.1 (by omega) (by omega) e1]
 walk_at "px"
 rw [mR ho (by rfl') rfl rfl,yjz ho hl e2]
 walk_at "px"
 rw [mR ho (by rfl') rfl rfl,yhH G ho hl g.2.2 f.2.1 f.2.2.2 (by omega) (by omega) e3]
 simp_all? only [yMY]
 rfl
theorem yAy {n:Nat}(G:ypZ h o ws n) (ho:o<h.length) (hl:ws.length<=100000) {rest:List Str}{ar:Int}{a b:List T}{k:Nat}(g:gdT (.either a b)) (f:yyI (.either a b)) (hd:max (rdL a) (rdL b)+ar<=8) (hf:4*max (ybR a) (ybR b)+1<=n) (e1:ws.drop k=wsd (wdL a)++("or":Str)::(wsd (wdL b)++rest)) :
  ydj (n+3) [.loc o,.int ar] (hR h o ws k)=some (ybW (.either a b),hR h o ws (k+(wsd (wdL a)).length+1+(wsd (wdL b)).length)):=by
 have e2:=ygq e1
 have e3:=(ymG e2).2.2
 unfold ydj
 rw [ybp]
 show ob (yx _ _ [.val (.loc o),.val (.int ar),.no,.no] (hR h o ws k)) fnK=_
 walk_at "px"
 rw [mR ho (by rfl') rfl rfl,yhH G ho hl g.1 f.1 f.2.2.1 (by omega) (by omega) e1]
 walk_at "px"
 rw [mR ho (by rfl') rfl rfl,yjz ho hl e2]
 walk_at "px"
 rw [mR ho (by rfl') rfl rfl,yhH G ho hl g.2 f.2.1 f.2.2.2 (by omega) (by omega) e3]
 simp_all? only [yCR]
 rfl
theorem yIS {n:Nat}(G:ypZ h o ws n) (ho:o<h.length) (hl:ws.length<=100000) {rest:List Str}{ar:Int}{nm r:Str}{a b:List T}{k:Nat}(g:gdT (.try_ a nm r b)) (f:yyI (.try_ a nm r b)) (hd:max (rdL a) (rdL b)+ar<=8) (hf:4*max (ybR a) (ybR b)+1<=n) (e1:ws.drop k=wsd (wdL a)++("on":Str)::nm::r::(wsd (wdL b)++rest)) :
  yeJ (n+3) [.loc o,.int ar] (hR h o ws k)=some (ybW (.try_ a nm r b),hR h o ws (k+(wsd (wdL a)).length+1+1+1+(wsd (wdL b)).length)):=by
 have e2:=ygq e1
 have e3:=(ymG e2).2.2
 have e4:=(ymG e3).2.2
 have e5:=(ymG e4).2.2
 unfold yeJ
 rw [ybp]
 show ob (yx _ _ [.val (.loc o),.val (.int ar),.no,.no,.no,.no] (hR h o ws k)) fnK=_
 walk_at "px"
 rw [mR ho (by rfl') rfl rfl,yhH G ho hl g.2.2.1 f.1 f.2.2.1 (by omega) (by omega) e1]
 walk_at "px"
 rw [mR ho (by rfl') rfl rfl,yjz ho hl e2]
 walk_at "px"
 rw [mR ho (by rfl') rfl rfl,ykg g.1 ho hl e3]
 walk_at "px"
 rw [mR ho (by rfl') rfl rfl,ybC g.2.1 ho hl e4]
 walk_at "px"
 rw [mR ho (by rfl') rfl rfl,yhH G ho hl g.2.2.2 f.2.1 f.2.2.2 (by omega) (by omega) e5]
 simp_all? only [yLO]
 rfl
theorem yim {n:Nat}(ho:o<h.length) (hl:ws.length<=100000) {t:T}{rest:List Str}{ar:Int}(g:gdT t) (hp:plain t) (hd:ar<=8) (e:ws.drop k=wdT t++rest):yY (n+1) [.loc o,.int ar] (hR h o ws k)=some (ybW t,hR h o ws (k+(wdT t).length)):=by
 obtain ⟨w,tl,ew,_⟩:=fw g
 have e0:ws.drop k=w::(tl++rest):=by rw [e,ew];rfl
 have nw:(w = "if")=False/\(w = "either")=False/\(w = "try")=False:=by
  cases t with
  | base=>exact g.elim
  | if_ r a b=>exact hp.elim
  | either a b=>exact hp.elim
  | try_ a nm r b=>exact hp.elim
  | reckon w a b c=>cases ew;exact (yok g.1).2.2.2.2.2
  | let_ r n=>cases ew;exact ⟨ypq,yjc,yns⟩
  | take r s=>cases ew;exact ⟨ynt,yhX,ylS⟩
  | put r s=>cases ew;exact ⟨ypr,yjd,ynu⟩
  | throw r s=>cases ew;exact ⟨ylT,yhe,yke⟩
  | wait=>cases ew;exact ⟨ynv,yhY,ylU⟩
 unfold yY
 rw [ybp]
 show ob (yx _ _ [.val (.loc o),.val (.int ar),.no] (hR h o ws k)) fnK=_
 simp_all? only [show (ar>8)=False from eq_false (by omega),↓reduceIte]
 rw [mR ho (by rfl') rfl rfl,yfG ho hl e0]
 simp_all? only [nw.1,nw.2.1,nw.2.2,↓reduceIte]
 rw [mR ho (by rfl') rfl rfl,ymu g hp ew ho hl (ymG e0).2.2]
 walk_at "px"
 rw [ew,List.length_cons,show k+(tl.length+1)=k+1+tl.length by omega]
theorem ymH (ho:o<h.length) (hl:ws.length<=100000):∀ n:Nat,ypZ h o ws n
 | 0=>fun t k rest ar g f hd hf=>by omega
 | n+1=>fun t k rest ar g f hd hf e=>by
  have nn:=yIR t
  cases t with
  | if_ r a b =>
   have h1:4*(1+max (ybR a) (ybR b))+1<=n+1:=hf
   have h2:max 0 (max (1+rdL a) (1+rdL b))+ar<=8:=hd
   obtain ⟨m,rfl⟩:∃ m,n=m+3:=⟨n-3,by omega⟩
   have e:ws.drop k=("if":Str)::(r::(wsd (wdL a)++("else":Str)::(wsd (wdL b)++rest))):=by rw [e];simp [wdT]
   unfold yY
   rw [ybp]
   show ob (yx _ _ [.val (.loc o),.val (.int ar),.no] (hR h o ws k)) fnK=_
   simp_all? only [show (ar>8)=False from eq_false (by omega),↓reduceIte]
   rw [mR ho (by rfl') rfl rfl,yfG ho hl e]
   walk_at "px"
   rw [mR ho (by rfl') rfl rfl,yLP (ymH ho hl m) ho hl g f (by omega) (by omega) (ymG e).2.2]
   walk_at "px"
   rw [show (wdT (.if_ r a b)).length=(wsd (wdL a)).length+(wsd (wdL b)).length+3 by simp [wdT];omega]
   rw [show k+1+1+(wsd (wdL a)).length+1+(wsd (wdL b)).length=k+((wsd (wdL a)).length+(wsd (wdL b)).length+3) by omega]
  | either a b =>
   have h1:4*(1+max (ybR a) (ybR b))+1<=n+1:=hf
   have h2:max 0 (max (1+rdL a) (1+rdL b))+ar<=8:=hd
   obtain ⟨m,rfl⟩:∃ m,n=m+3:=⟨n-3,by omega⟩
   have e:ws.drop k=("either":Str)::(wsd (wdL a)++("or":Str)::(wsd (wdL b)++rest)):=by rw [e];simp [wdT]
   unfold yY
   rw [ybp]
   show ob (yx _ _ [.val (.loc o),.val (.int ar),.no] (hR h o ws k)) fnK=_
   simp_all? only [show (ar>8)=False from eq_false (by omega),↓reduceIte]
   rw [mR ho (by rfl') rfl rfl,yfG ho hl e]
   simp_all? only [yfP,↓reduceIte]
   rw [mR ho (by rfl') rfl rfl,yAy (ymH ho hl m) ho hl g f (by omega) (by omega) (ymG e).2.2]
   walk_at "px"
   rw [show (wdT (.either a b)).length=(wsd (wdL a)).length+(wsd (wdL b)).length+2 by simp [wdT];omega]
   rw [show k+1+(wsd (wdL a)).length+1+(wsd (wdL b)).length=k+((wsd (wdL a)).length+(wsd (wdL b)).length+2) by omega]
  | try_ a nm r b =>
   have h1:4*(1+max (ybR a) (ybR b))+1<=n+1:=hf
   have h2:max 0 (max (1+rdL a) (1+rdL b))+ar<=8:=hd
   obtain ⟨m,rfl⟩:∃ m,n=m+3:=⟨n-3,by omega⟩
   have e:ws.drop k=("try":Str)::(wsd (wdL a)++("on":Str)::nm::r::(wsd (wdL b)++rest)):=by rw [e];simp [wdT]
   unfold yY
   rw [ybp]
   show ob (yx _ _ [.val (.loc o),.val (.int ar),.no] (hR h o ws k)) fnK=_
   simp_all? only [show (ar>8)=False from eq_false (by omega),↓reduceIte]
   rw [mR ho (by rfl') rfl rfl,yfG ho hl e]
   simp_all? only [ykf,yhu,↓reduceIte]
   rw [mR ho (by rfl') rfl rfl,yIS (ymH ho hl m) ho hl g f (by omega) (by omega) (ymG e).2.2]
   walk_at "px"
   rw [show (wdT (.try_ a nm r b)).length=(wsd (wdL a)).length+(wsd (wdL b)).length+4 by simp [wdT];omega]
   rw [show k+1+(wsd (wdL a)).length+1+1+1+(wsd (wdL b)).length=k+((wsd (wdL a)).length+(wsd (wdL b)).length+4) by omega]
  | base=>exact g.elim
  | let_ r n=>exact yim ho hl g trivial (by omega) e
  | reckon w r s t=>exact yim ho hl g trivial (by omega) e
  | take r s=>exact yim ho hl g trivial (by omega) e
  | put r s=>exact yim ho hl g trivial (by omega) e
  | throw r s=>exact yim ho hl g trivial (by omega) e
  | wait=>exact yim ho hl g trivial (by omega) e
end
mutual
theorem yxd:∀ {t:T},gdT t->1<=ymf t
 | .base,g=>g.elim
 | .let_ ..,_=>by show (1:Int)<=1;omega
 | .reckon ..,_=>by show (1:Int)<=1;omega
 | .take ..,_=>by show (1:Int)<=1;omega
 | .put ..,_=>by show (1:Int)<=1;omega
 | .throw ..,_=>by show (1:Int)<=1;omega
 | .wait,_=>by show (1:Int)<=1;omega
 | .if_ r a b,g=>by
  have h1:=ydc g.2.1
  have h2:=ydc g.2.2
  show 1<=2+(ycd a).sum+(ycd b).sum
  omega
 | .either a b,g=>by
  have h1:=ydc g.1
  have h2:=ydc g.2
  show 1<=3+(ycd a).sum+(ycd b).sum
  omega
 | .try_ a nm r b,g=>by
  have h1:=ydc g.2.2.1
  have h2:=ydc g.2.2.2
  show 1<=3+(ycd a).sum+(ycd b).sum
  omega
theorem ydc:∀ {ts:List T},gdL ts->(ts.length:Int)<=(ycd ts).sum
 | [],_=>Int.le_refl _
 | t::r,g=>by
  have h1:=yxd g.1
  have h2:=ydc g.2
  show ((r.length+1:Nat):Int)<=(ymf t::ycd r).sum
  rw [List.sum_cons]
  omega
end
mutual
theorem yIT:∀ {t:T},gdT t->(wT t:Int)+5<=100*ymf t
 | .base,g=>g.elim
 | .let_ r n,g=>by
  have h1:=(ydh g.1).2.2
  have h2:=(yAt g.2.1 g.2.2).2.2
  show ((10+r.length+(Str.ofString (toString n)).length:Nat):Int)+5<=100*1
  omega
 | .reckon w r s t,g=>by
  have h1:=(yAu g.1).2.2
  have h2:=(ydh g.2.1).2.2
  have h3:=(ydh g.2.2.1).2.2
  have h4:=(ydh g.2.2.2).2.2
  show ((10+w.length+r.length+s.length+t.length:Nat):Int)+5<=100*1
  omega
 | .take r s,g=>by
  have h1:=(ydh g.1).2.2
  have h2:=(ydh g.2).2.2
  show ((10+r.length+s.length:Nat):Int)+5<=100*1
  omega
 | .put r s,g=>by
  have h1:=(ydh g.1).2.2
  have h2:=(ydh g.2).2.2
  show ((10+r.length+s.length:Nat):Int)+5<=100*1
  omega
 | .throw r s,g=>by
  have h1:=(ysu g.1).2.2
  have h2:=(ydh g.2).2.2
  show ((10+r.length+s.length:Nat):Int)+5<=100*1
  omega
 | .wait,_=>by show ((10:Nat):Int)+5<=100*1;omega
 | .if_ r a b,g=>by
  have h0:=(ydh g.1).2.2
  have h1:=ylk g.2.1
  have h2:=ylk g.2.2
  show ((40+r.length+wL a+wL b:Nat):Int)+5<=100*(2+(ycd a).sum+(ycd b).sum)
  omega
 | .either a b,g=>by
  have h1:=ylk g.1
  have h2:=ylk g.2
  show ((40+wL a+wL b:Nat):Int)+5<=100*(3+(ycd a).sum+(ycd b).sum)
  omega
 | .try_ a nm r b,g=>by
  have h0:=(ydh g.2.1).2.2
  have h3:=(ysu g.1).2.2
  have h1:=ylk g.2.2.1
  have h2:=ylk g.2.2.2
  show ((40+nm.length+r.length+wL a+wL b:Nat):Int)+5<=100*(3+(ycd a).sum+(ycd b).sum)
  omega
theorem ylk:∀ {ts:List T},gdL ts->(wL ts:Int)<=100*(ycd ts).sum
 | [],_=>Int.le_refl _
 | t::r,g=>by
  have h1:=yIT g.1
  have h2:=ylk g.2
  show ((5+wT t+wL r:Nat):Int)<=100*(ymf t::ycd r).sum
  rw [List.sum_cons]
  omega
end
mutual
theorem yIU:∀ {t:T},gdT t->ymf t<=90->yyI t
 | .base,g,_=>g.elim
 | .let_ ..,_,_=>trivial
 | .reckon ..,_,_=>trivial
 | .take ..,_,_=>trivial
 | .put ..,_,_=>trivial
 | .throw ..,_,_=>trivial
 | .wait,_,_=>trivial
 | .if_ r a b,g,l=>by
  have h1:=ydc g.2.1
  have h2:=ydc g.2.2
  have l:2+(ycd a).sum+(ycd b).sum<=90:=l
  exact ⟨yjA g.2.1 (by omega),yjA g.2.2 (by omega),by omega,by omega⟩
 | .either a b,g,l=>by
  have h1:=ydc g.1
  have h2:=ydc g.2
  have l:3+(ycd a).sum+(ycd b).sum<=90:=l
  exact ⟨yjA g.1 (by omega),yjA g.2 (by omega),by omega,by omega⟩
 | .try_ a nm r b,g,l=>by
  have h1:=ydc g.2.2.1
  have h2:=ydc g.2.2.2
  have l:3+(ycd a).sum+(ycd b).sum<=90:=l
  exact ⟨yjA g.2.2.1 (by omega),yjA g.2.2.2 (by omega),by omega,by omega⟩
theorem yjA:∀ {ts:List T},gdL ts->(ycd ts).sum<=90->yxc ts
 | [],_,_=>trivial
 | t::r,g,l=>by
  have h1:=yxd g.1
  have h2:=ydc g.2
  have l:(ymf t::ycd r).sum<=90:=l
  rw [List.sum_cons] at l
  exact ⟨yIU g.1 (by omega),yjA g.2 (by omega)⟩
end
mutual
theorem yIV:∀ t:T,(ymt t:Int)<=rdT t+1
 | .base=>by show (0:Int)<=0+1;omega
 | .let_ ..=>by show (0:Int)<=0+1;omega
 | .reckon ..=>by show (0:Int)<=0+1;omega
 | .take ..=>by show (0:Int)<=0+1;omega
 | .put ..=>by show (0:Int)<=0+1;omega
 | .throw ..=>by show (0:Int)<=0+1;omega
 | .wait=>by show (0:Int)<=0+1;omega
 | .if_ r a b=>by
  have h1:=yll a
  have h2:=yll b
  show ((1+max (ybR a) (ybR b):Nat):Int)<=max 0 (max (1+rdL a) (1+rdL b))+1
  omega
 | .either a b=>by
  have h1:=yll a
  have h2:=yll b
  show ((1+max (ybR a) (ybR b):Nat):Int)<=max 0 (max (1+rdL a) (1+rdL b))+1
  omega
 | .try_ a nm r b=>by
  have h1:=yll a
  have h2:=yll b
  show ((1+max (ybR a) (ybR b):Nat):Int)<=max 0 (max (1+rdL a) (1+rdL b))+1
  omega
theorem yll:∀ ts:List T,(ybR ts:Int)<=rdL ts+1
 | []=>by show (0:Int) <= -1+1;omega
 | t::r=>by
  have h1:=yIV t
  have h2:=yll r
  show ((max (ymt t) (ybR r):Nat):Int)<=max (rdT t) (rdL r)+1
  omega
end
theorem yAz (l:List Str):(wsd l).length=l.length+2:=by unfold wsd;simp
mutual
theorem yDX:∀ t:T,(wdT t).length<=wT t
 | .base=>by show 0<=0;omega
 | .let_ r n=>by show 3<=10+r.length+(Str.ofString (toString n)).length;omega
 | .reckon w r s t=>by show 4<=10+w.length+r.length+s.length+t.length;omega
 | .take r s=>by show 3<=10+r.length+s.length;omega
 | .put r s=>by show 3<=10+r.length+s.length;omega
 | .throw r s=>by show 3<=10+r.length+s.length;omega
 | .wait=>by show 1<=10;omega
 | .if_ r a b=>by
  have h1:=ylm a
  have h2:=ylm b
  show (("if":Str)::r::(wsd (wdL a)++("else":Str)::wsd (wdL b))).length<=40+r.length+wL a+wL b
  simp only [List.length_cons,List.length_append,yAz]
  omega
 | .either a b=>by
  have h1:=ylm a
  have h2:=ylm b
  show (("either":Str)::(wsd (wdL a)++("or":Str)::wsd (wdL b))).length<=40+wL a+wL b
  simp only [List.length_cons,List.length_append,yAz]
  omega
 | .try_ a nm r b=>by
  have h1:=ylm a
  have h2:=ylm b
  show (("try":Str)::(wsd (wdL a)++("on":Str)::nm::r::wsd (wdL b))).length<=40+nm.length+r.length+wL a+wL b
  simp only [List.length_cons,List.length_append,yAz]
  omega
theorem ylm:∀ ts:List T,(wdL ts).length<=wL ts
 | []=>Nat.le_refl _
 | t::r=>by
  have h1:=yDX t
  have h2:=yAA r
  show (wdT t++wdR r).length<=5+wT t+wL r
  rw [List.length_append]
  omega
theorem yAA:∀ ts:List T,(wdR ts).length<=wL ts
 | []=>Nat.le_refl _
 | t::r=>by
  have h1:=yDX t
  have h2:=yAA r
  show (wdT t++wdR r).length+1<=5+wT t+wL r
  rw [List.length_append]
  omega
end
structure OkL (ts:List T):Prop where
 gd:gdL ts
 rd:rdL ts<=8
 lg:(ycd ts).sum<=79
theorem OkL.len {ts:List T}(g:OkL ts):ts.length<=79:=by have:=ydc g.gd;have:=g.lg;omega
theorem OkL.w {ts:List T}(g:OkL ts):wL ts<=7900:=by have:=ylk g.gd;have:=g.lg;omega
theorem OkL.dep {ts:List T}(g:OkL ts):ybR ts<=9:=by have:=yll ts;have:=g.rd;omega
def yiX (ts:List T):Str:=Str.join " ; " (ybH ts)
section
variable {h:AH}
theorem yqa {ts:List T}(g:OkL ts):ygQ [.str (yiX ts)] h=some (.lst ((wdL ts).map .str),h):=by
 have hl:=ycF ts
 have hw:=g.w
 have et:yiX ts=Str.join " " (wdL ts):=yht ts g.gd
 unfold ygQ
 rw [ybp]
 show ob (yx _ _ [.val (.str (yiX ts))] h) fnK=_
 walk_at "px"
 cases ts with
 | nil =>
  rw [if_pos (show yiX [] = "" by rfl')]
  rfl
 | cons t r =>
  have ne:wdL (t::r)≠[]:=fun z=>yCM g.gd.1 (List.append_eq_nil_iff.mp z).1
  rw [if_neg (by rw [et];exact yvQ (ymE g.gd) ne),yFA (by unfold yiX;omega)]
  walk_at "px"
  rw [et,ypI _ ne fun w hw=>(ymE g.gd w hw).1]
theorem yGb {ts:List T}(g:OkL ts):∃ h',yud [.str (yiX ts)] h=some (.lst (yO ts),h'):=by
 have hw:=g.w
 have hwl:=ylm ts
 have hd:=g.dep
 have hl:=g.lg
 refine ⟨hR (h++[rdr (wdL ts) 0]) h.length (wdL ts) (0+(wdL ts).length),?_⟩
 unfold yud
 rw [ybp]
 show ob (yx _ _ [.val (.str (yiX ts)),.no,.no] h) fnK=_
 walk_at "px"
 rw [yqa g]
 walk_at "px"
 rw [show yci [PV.lst (List.map PV.str (wdL ts))] h=some (rdr (wdL ts) 0,h) from rfl]
 walk_at "px"
 have ho:h.length<(h++[rdr (wdL ts) 0]).length:=by simp
 have e0:h++[rdr (wdL ts) 0]=hR (h++[rdr (wdL ts) 0]) h.length (wdL ts) 0:=by unfold hR;simp
 generalize hG:h++[rdr (wdL ts) 0]=G at *
 have e1:(wdL ts).drop 0=wdL ts++[]:=by simp
 have hdr:(wdL ts).drop (0+(wdL ts).length)=[]:=by simp
 have rd:=g.rd
 rw [mR (ws:=wdL ts) (k:=0) ho (by rfl') (by rw [<- e0];rfl) rfl,list_eq (n:=44) (ymH ho (by omega) 44) ho (by omega) (.inl rfl) g.gd (yjA g.gd (by omega)) (by have:=g.len;omega) (by omega) (by omega) e1]
 walk_at "px"
 rw [mR ho (by rfl') rfl rfl,ylV ho (by omega) hdr]
 walk_at "px"
 rw [if_neg (by intro z;cases z),ydV (n:=44) (ypT 44) (by omega) (by omega)]
 walk_at "px"
 rw [if_neg (by omega)]
end
mutual
noncomputable def ygj:T->PV
 | .base=>.tup []
 | .let_ r n=>.tup [.str "let",.str r,.int n]
 | .reckon w r s t=>.tup [.str w,.str r,.str s,.str t]
 | .take r s=>.tup [.str "take",.str r,.str s]
 | .put r s=>.tup [.str "put",.str r,.str s]
 | .if_ r a b=>.tup [.str "if",.str r,.lst (yz a),.lst (yz b)]
 | .either a b=>.tup [.str "either",.lst (yz a),.lst (yz b)]
 | .try_ a nm r b=>.tup [.str "try",.lst (yz a),.str nm,.str r,.lst (yz b)]
 | .throw nm r=>.tup [.str "throw",.str nm,.str r]
 | .wait=>.tup [.str "wait"]
noncomputable def yz:List T->List PV
 | []=>[]
 | t::r=>ygj t::yz r
end
theorem yjM:∀ ts:List T,yz ts=ts.map ygj
 | []=>rfl
 | t::r=>by show ygj t::yz r=_;rw [yjM r];rfl
theorem ynw (ts:List T):(yz ts).length=ts.length:=by rw [yjM,List.length_map]
def yqR:T->List (List T)
 | .if_ _ a b=>[a,b]
 | .either a b=>[a,b]
 | .try_ a _ _ b=>[a,b]
 | _=>[]
section
variable {h:AH}
theorem ylW {t:T}(g:gdT t):ybt [ygj t] h=some (.lst ((yqR t).map fun a=>.lst (yz a)),h):=by
 unfold ybt
 rw [ybp]
 cases t with
 | base=>exact g.elim
 | reckon w r s t =>
  obtain ⟨n1,n2,n3,n4,n5,n6,n7,n8⟩:=yok g.1
  show ob (yx _ _ [.val (.tup [.str w,.str r,.str s,.str t])] h) fnK=_
  simp_all? only [yxK,yCq,yFx,yFy,yJL,n6,n7,n8,↓reduceIte]
  rfl
 | let_ r n =>
  show ob (yx _ _ [.val (.tup [.str "let",.str r,.int n])] h) fnK=_
  walk_at "qt"
  rfl
 | take r s =>
  show ob (yx _ _ [.val (.tup [.str "take",.str r,.str s])] h) fnK=_
  walk_at "qt"
  rfl
 | put r s =>
  show ob (yx _ _ [.val (.tup [.str "put",.str r,.str s])] h) fnK=_
  walk_at "qt"
  rfl
 | throw r s =>
  show ob (yx _ _ [.val (.tup [.str "throw",.str r,.str s])] h) fnK=_
  walk_at "qt"
  rfl
 | wait =>
  show ob (yx _ _ [.val (.tup [.str "wait"])] h) fnK=_
  walk_at "qt"
  rfl
 | if_ r a b =>
  show ob (yx _ _ [.val (.tup [.str "if",.str r,.lst (yz a),.lst (yz b)])] h) fnK=_
  walk_at "qt"
  rfl
 | either a b =>
  show ob (yx _ _ [.val (.tup [.str "either",.lst (yz a),.lst (yz b)])] h) fnK=_
  walk_at "qt"
  rfl
 | try_ a nm r b =>
  show ob (yx _ _ [.val (.tup [.str "try",.lst (yz a),.str nm,.str r,.lst (yz b)])] h) fnK=_
  walk_at "qt"
  rfl
end
section
def yvT (n:Nat):XS:=ydI (xCB (ypF) (yd (yk 1) (yd (xOp ynj (xC (.int 1)) (ybJ (ydU n) (yd (yk 3) (yu)))) (yu)))) (yw 1)
noncomputable def yxY (n:Nat):XS:=yx (ytb (xIL (ybJ ybt (yd (yk 2) (yu)))) (yw 3) (yvT n)) (ydI (xCB (ypF) (yd (yk 1) (yd (xC (.int 0)) (yu)))) (yw 1))
def ysw (n:Nat):Prop:=∀ (ts:List T) (h:AH),gdL ts->ybR ts+1<=n->ydU n [.lst (yz ts)] h=some (.int (rdL ts),h)
theorem yIW (a b:Int):(if b>a then b else a)=max a b:=by
 rw [Int.max_def]
 by_cases h:b>a
 .rw [if_pos h,if_pos (by omega)]
 .rw [if_neg h]
  by_cases h2:a<=b
  .rw [if_pos h2];omega
  .rw [if_neg h2]
theorem ysx {a b:Int}{h:AH}:ypF [.int a,.int b] h=some (.int (max a b),h):=by
 show some (PV.int (if b>a then b else a),h)=_
 rw [yIW]
theorem yxe {n:Nat}(G:ysw n) {a:List T}(g:gdL a) (hd:ybR a+1<=n) (x0 v:PVar) (acc:Int) (h:AH):yvT n [x0,.val (.int acc),v,.val (.lst (yz a))] h=some (.nx [x0,.val (.int (max acc (1+rdL a))),v,.val (.lst (yz a))],h):=by
 unfold yvT
 walk_at "px"
 rw [G a h g hd]
 simp_all? only [ysx]
theorem yAB {s:XS}{x0 v c3 c3':PVar}{x y:PV}{a1 a2 a3:Int}{h:AH}(e1:s [x0,.val (.int a1),v,.val x] h=some (.nx [x0,.val (.int a2),v,.val x],h)) (e2:s [x0,.val (.int a2),v,.val y] h=some (.nx [x0,.val (.int a3),v,.val y],h)) :
  yjZ (yw 3) s [x,y] [x0,.val (.int a1),v,c3] h=some (.nx [x0,.val (.int a3),v,.val y],h):=by
 rw [yoF,show yw 3 x [x0,.val (.int a1),v,c3]=some [x0,.val (.int a1),v,.val x] from rfl,Option.bind_some,e1,yha]
 show yjZ (yw 3) s [y] [x0,.val (.int a2),v,.val x] h=_
 rw [yoF,show yw 3 y [x0,.val (.int a2),v,.val x]=some [x0,.val (.int a2),v,.val y] from rfl,Option.bind_some,e2,yha]
 rfl
theorem yxZ {n:Nat}(G:ysw n) {t:T}(g:gdT t) (hd:ymt t<=n) (x0 c3:PVar) (acc:Int) (h:AH):∃ c3',yxY n [x0,.val (.int acc),.val (ygj t),c3] h=some (.nx [x0,.val (.int (max acc (rdT t))),.val (ygj t),c3'],h):=by
 unfold yxY
 walk_at "px"
 rw [yJJ (xs:=(yqR t).map fun a=>PV.lst (yz a)) (h1:=h) (by walk_at "px";rw [ylW g]),yha]
 have two:∀ (a b:List T),yqR t=[a,b]->gdL a->gdL b->ybR a+1<=n->ybR b+1<=n->rdT t=max 0 (max (1+rdL a) (1+rdL b))->∃ c3',ob (yjZ (yw 3) (yvT n) ((yqR t).map fun a=>PV.lst (yz a)) [x0,.val (.int acc),.val (ygj t),c3] h) (sqK (ydI (xCB ypF (yd (yk 1) (yd (xC (.int 0)) yu))) (yw 1)))=some (Out.nx [x0,.val (.int (max acc (rdT t))),.val (ygj t),c3'],h):=by
  intro a b es ga gb da db er
  refine ⟨.val (.lst (yz b)),?_⟩
  rw [es]
  show ob (yjZ (yw 3) (yvT n) [PV.lst (yz a),PV.lst (yz b)] _ h) _=_
  rw [yAB (c3':=c3) (yxe G ga da x0 _ acc h) (yxe G gb db x0 _ _ h)]
  simp_all? only [ysx]
  rw [er,show max (max (max acc (1+rdL a)) (1+rdL b)) 0=max acc (max 0 (max (1+rdL a) (1+rdL b))) by omega]
 have nil_:yqR t=[]->rdT t=0->∃ c3',ob (yjZ (yw 3) (yvT n) ((yqR t).map fun a=>PV.lst (yz a)) [x0,.val (.int acc),.val (ygj t),c3] h) (sqK (ydI (xCB ypF (yd (yk 1) (yd (xC (.int 0)) yu))) (yw 1)))=some (Out.nx [x0,.val (.int (max acc (rdT t))),.val (ygj t),c3'],h):=by
  intro es er
  refine ⟨c3,?_⟩
  rw [es,er]
  show ob (yjZ (yw 3) (yvT n) [] _ h) _=_
  rw [yHW]
  simp_all? only [ysx]
 cases t with
 | base=>exact g.elim
 | let_ r m=>exact nil_ rfl rfl
 | reckon w r s t=>exact nil_ rfl rfl
 | take r s=>exact nil_ rfl rfl
 | put r s=>exact nil_ rfl rfl
 | throw r s=>exact nil_ rfl rfl
 | wait=>exact nil_ rfl rfl
 | if_ r a b =>
  have hd:1+max (ybR a) (ybR b)<=n:=hd
  exact two a b rfl g.2.1 g.2.2 (by omega) (by omega) rfl
 | either a b =>
  have hd:1+max (ybR a) (ybR b)<=n:=hd
  exact two a b rfl g.1 g.2 (by omega) (by omega) rfl
 | try_ a nm r b =>
  have hd:1+max (ybR a) (ybR b)<=n:=hd
  exact two a b rfl g.2.2.1 g.2.2.2 (by omega) (by omega) rfl
theorem yrJ {n:Nat}(G:ysw n) (x0:PVar) (h:AH):∀ (us:List T) (acc:Int) (c2 c3:PVar),gdL us->ybR us<=n->-1<=acc->∃ c2' c3',yjZ (yw 2) (yxY n) (yz us) [x0,.val (.int acc),c2,c3] h=some (.nx [x0,.val (.int (max acc (rdL us))),c2',c3'],h)
 | [],acc,c2,c3,_,_,ha=>⟨c2,c3,by
  show some (Out.nx [x0,.val (.int acc),c2,c3],h)=some (Out.nx [x0,.val (.int (max acc (-1))),c2,c3],h)
  rw [show max acc (-1)=acc by omega]⟩
 | t::r,acc,c2,c3,g,hd,ha=>by
  have hd:max (ymt t) (ybR r)<=n:=hd
  obtain ⟨d3,e⟩:=yxZ G g.1 (by omega) x0 c3 acc h
  obtain ⟨d2,d3',e2⟩:=yrJ G x0 h r (max acc (rdT t)) (.val (ygj t)) d3 g.2 (by omega) (by omega)
  refine ⟨d2,d3',?_⟩
  show yjZ (yw 2) (yxY n) (ygj t::yz r) _ h=some (Out.nx [x0,.val (.int (max acc (max (rdT t) (rdL r)))),d2,d3'],h)
  rw [yoF,show yw 2 (ygj t) [x0,.val (.int acc),c2,c3]=some [x0,.val (.int acc),.val (ygj t),c3] from rfl,Option.bind_some,e,yha]
  show yjZ (yw 2) (yxY n) (yz r) _ h=_
  rw [e2,show max (max acc (rdT t)) (rdL r)=max acc (max (rdT t) (rdL r)) by omega]
theorem yxf:∀ n:Nat,ysw n
 | 0=>fun ts h g hd=>by omega
 | n+1=>fun ts h g hd=>by
  unfold ydU
  rw [ybp]
  show ob (yx _ (yx (ytb (xIL (yk 0)) (yw 2) (yxY n)) _) [.val (.lst (yz ts)),.no,.no,.no] h) fnK=_
  walk_at "px"
  rw [yCJ rfl,yha]
  obtain ⟨c2,c3,e⟩:=yrJ (yxf n) (.val (.lst (yz ts))) h ts (-1) .no .no g (by omega) (by omega)
  rw [e]
  walk_at "px"
  rw [show max (-1) (rdL ts)=rdL ts by cases ts with
   | nil=>rfl
   | cons t r =>
    have:=yIR t
    show max (-1) (max (rdT t) (rdL r))=max (rdT t) (rdL r)
    omega]
end
section
theorem yxg:∀ l:List Str,svs (l.map PV.str)=some (l.map V.str)
 | []=>rfl
 | a::l=>by
  show svs (PV.str a::l.map PV.str)=_
  unfold svs
  rw [yxg l];rfl
theorem yMB {w:Str}{l:List Str}{neg:Bool}{h:AH}:yzQ neg (.str w) (.tup (l.map .str)) h=some (.bl (if neg then !(l.any fun a=>a == w) else l.any fun a=>a == w),h):=by
 unfold yzQ
 show (match svs (l.map PV.str) with|some us=>some (PV.bl (if neg=true then !inV (.str w) us else inV (.str w) us),h)|none=>none)=_
 rw [yxg]
 show some (PV.bl (if neg=true then !inV (.str w) (l.map V.str) else inV (.str w) (l.map V.str)),h)=_
 have:inV (.str w) (l.map V.str)=l.any fun a=>a == w:=by
  unfold inV
  rw [List.any_map];rfl
 rw [this]
theorem yMZ {w a b c:Str}{neg:Bool}{h:AH}:yzQ neg (.str w) (.tup [.str a,.str b,.str c]) h=some (.bl (if neg then !(a == w || (b == w || (c == w || false))) else (a == w || (b == w || (c == w || false)))),h):=yMB (l:=[a,b,c])
theorem yNa {w a b:Str}{neg:Bool}{h:AH}:yzQ neg (.str w) (.tup [.str a,.str b]) h=some (.bl (if neg then !(a == w || (b == w || false)) else (a == w || (b == w || false))),h):=yMB (l:=[a,b])
def yvU (n:Nat):Prop:=∀ (ts:List T) (h:AH),gdL ts->ybR ts+1<=n->ydY n [.lst (yz ts)] h=some (.int (ycd ts).sum,h)
noncomputable def yrK (n:Nat):XS:=yx (ydI (xOp ynj (xOp ynj (yk 1) (xC (.int 1))) (xCB (yCi) (yd (xFz (ysg (xIL (ybJ ybt (yd (yk 2) (yu)))) [] (ybJ (ydY n) (yd (yk 0) (yu))))) (yu)))) (yw 1)) (ydI (xOp ynj (xOp ynj (yk 1) (xCB (yvz) (yd (xOp (yzQ false) (xOp (yfp) (yk 2) (xC (.int 0))) (ysc (yd (xC (.str "if")) (yd (xC (.str "either")) (yd (xC (.str "try")) (yu)))))) (yu)))) (xCB (yvz) (yd (xOp (yzQ false) (xOp (yfp) (yk 2) (xC (.int 0))) (ysc (yd (xC (.str "either")) (yd (xC (.str "try")) (yu))))) (yu)))) (yw 1))
noncomputable def yDY:T->Str
 | .let_ ..=>"let" | .reckon w ..=>w|.take ..=>"take" | .put ..=>"put" | .if_ ..=>"if" | .either ..=>"either" | .try_ ..=>"try" | .throw ..=>"throw" | _=>"wait"
theorem yGc {t:T}(g:gdT t):∃ xs,ygj t=.tup (.str (yDY t)::xs):=by
 cases t with
 | base=>exact g.elim
 | _=>exact ⟨_,rfl⟩
theorem nos {w:Str}(h:("if" == w || ("either" == w || ("try" == w || false)))=false):("if" == w || ("either" == w || ("try" == w || false)))=decide (([]:List (List T))≠[])/\("either" == w || ("try" == w || false))=decide (([]:List (List T))≠[]/\¬ w = "if"):=by
 rw [h,decide_eq_false (by simp),decide_eq_false (by simp)]
 exact ⟨rfl,(Bool.or_eq_false_iff.mp h).2⟩
theorem yIX {t:T}(g:gdT t):("if" == yDY t || ("either" == yDY t || ("try" == yDY t || false)))=decide (yqR t≠[])/\("either" == yDY t || ("try" == yDY t || false))=decide (yqR t≠[]/\¬ yDY t = "if"):=by
 cases t with
 | base=>exact g.elim
 | reckon w r s t =>
  refine nos (w:=w) ?_
  rcases g.1 with rfl|rfl|rfl|rfl|rfl
  all_goals rfl'
 | if_ r a b =>
  show (("if":Str) == "if" || (("either":Str) == "if" || (("try":Str) == "if" || false)))=decide ([a,b]≠[])/\(("either":Str) == "if" || (("try":Str) == "if" || false))=decide ([a,b]≠[]/\¬ ("if":Str) = "if")
  refine ⟨by rw [decide_eq_true (by simp)];rfl',by rw [decide_eq_false (by simp)];rfl'⟩
 | either a b =>
  show (("if":Str) == "either" || (("either":Str) == "either" || (("try":Str) == "either" || false)))=decide ([a,b]≠[])/\(("either":Str) == "either" || (("try":Str) == "either" || false))=decide ([a,b]≠[]/\¬ ("either":Str) = "if")
  refine ⟨by rw [decide_eq_true (by simp)];rfl',by rw [decide_eq_true (by simp only [yfP];simp)];rfl'⟩
 | try_ a nm r b =>
  show (("if":Str) == "try" || (("either":Str) == "try" || (("try":Str) == "try" || false)))=decide ([a,b]≠[])/\(("either":Str) == "try" || (("try":Str) == "try" || false))=decide ([a,b]≠[]/\¬ ("try":Str) = "if")
  refine ⟨by rw [decide_eq_true (by simp)];rfl',by rw [decide_eq_true (by simp only [ykf];simp)];rfl'⟩
 | let_ r n=>exact nos (w:="let") (by rfl')
 | take r n=>exact nos (w:="take") (by rfl')
 | put r n=>exact nos (w:="put") (by rfl')
 | throw r n=>exact nos (w:="throw") (by rfl')
 | wait=>exact nos (w:="wait") (by rfl')
theorem yCS {t:T}(g:gdT t):ymf t=1+((yqR t).map fun a=>(ycd a).sum).sum+(if yqR t≠[] then 1 else 0)+(if yqR t≠[]/\¬ yDY t = "if" then 1 else 0):=by
 cases t with
 | base=>exact g.elim
 | if_ r a b =>
  show 2+(ycd a).sum+(ycd b).sum=1+([(ycd a).sum,(ycd b).sum]).sum+(if [a,b]≠[] then 1 else 0)+(if [a,b]≠[]/\¬ ("if":Str) = "if" then 1 else 0)
  rw [if_pos (by simp),if_neg (by simp)]
  simp only [List.sum_cons,List.sum_nil];omega
 | either a b =>
  show 3+(ycd a).sum+(ycd b).sum=1+([(ycd a).sum,(ycd b).sum]).sum+(if [a,b]≠[] then 1 else 0)+(if [a,b]≠[]/\¬ ("either":Str) = "if" then 1 else 0)
  rw [if_pos (by simp),if_pos (by simp only [yfP];simp)]
  simp only [List.sum_cons,List.sum_nil];omega
 | try_ a nm r b =>
  show 3+(ycd a).sum+(ycd b).sum=1+([(ycd a).sum,(ycd b).sum]).sum+(if [a,b]≠[] then 1 else 0)+(if [a,b]≠[]/\¬ ("try":Str) = "if" then 1 else 0)
  rw [if_pos (by simp),if_pos (by simp only [ykf];simp)]
  simp only [List.sum_cons,List.sum_nil];omega
 | _=>rfl
theorem yIY {t:T}(g:gdT t) {n:Nat}(hd:ymt t<=n):∀ a∈yqR t,gdL a/\ybR a+1<=n:=by
 intro a ha
 cases t with
 | base=>exact g.elim
 | if_ r x y =>
  have hd:1+max (ybR x) (ybR y)<=n:=hd
  simp only [yqR,List.mem_cons,List.not_mem_nil,or_false] at ha
  rcases ha with rfl|rfl
  .exact ⟨g.2.1,by omega⟩
  .exact ⟨g.2.2,by omega⟩
 | either x y =>
  have hd:1+max (ybR x) (ybR y)<=n:=hd
  simp only [yqR,List.mem_cons,List.not_mem_nil,or_false] at ha
  rcases ha with rfl|rfl
  .exact ⟨g.1,by omega⟩
  .exact ⟨g.2,by omega⟩
 | try_ x nm r y =>
  have hd:1+max (ybR x) (ybR y)<=n:=hd
  simp only [yqR,List.mem_cons,List.not_mem_nil,or_false] at ha
  rcases ha with rfl|rfl
  .exact ⟨g.2.2.1,by omega⟩
  .exact ⟨g.2.2.2,by omega⟩
 | _=>cases ha
theorem yGd (t:T):(yqR t).length<=2:=by cases t<;>exact Nat.le_of_ble_eq_true rfl
theorem yya {n:Nat}(G:yvU n) {t:T}(g:gdT t) (hd:ymt t<=n) (x0:PVar) (acc:Int) (h:AH):yrK n [x0,.val (.int acc),.val (ygj t)] h=some (.nx [x0,.val (.int (acc+ymf t)),.val (ygj t)],h):=by
 have hs:=yGd t
 have ho:=yIY g hd
 obtain ⟨xs,et⟩:=yGc g
 obtain ⟨f1,f2⟩:=yIX g
 unfold yrK
 walk_at "px"
 rw [yJJ (xs:=(yqR t).map fun a=>PV.lst (yz a)) (h1:=h) (by walk_at "px";rw [ylW g]),yha]
 rw [if_pos (by rw [List.length_map];omega),yvD (f:=fun a=>PV.lst (yz a)) (g:=fun a=>PV.int (ycd a).sum) fun a ha=>by
  show ybJ (ydY n) (yd (yk 0) yu) [.val (.lst (yz a))] h=_
  walk_at "px"
  rw [G a h (ho a ha).1 (ho a ha).2]]
 walk_at "px"
 rw [show yCi [.lst ((yqR t).map fun a=>PV.int (ycd a).sum)] h=some (.int ((yqR t).map fun a=>(ycd a).sum).sum,h) by
  rw [show ((yqR t).map fun a=>PV.int (ycd a).sum)=((yqR t).map fun a=>(ycd a).sum).map PV.int by rw [List.map_map];rfl]
  unfold yCi yeM
  simp only [yoc]]
 rw [et]
 simp_all? only [yxK,yMZ,yNa]
 rw [f1,f2]
 simp only [decide_eq_true_eq]
 rw [yCS g]
 simp only [Int.add_assoc]
theorem yrL {n:Nat}(G:yvU n) (x0:PVar) (h:AH):∀ (us:List T) (acc:Int) (c2:PVar),gdL us->ybR us<=n->∃ c2',yjZ (yw 2) (yrK n) (yz us) [x0,.val (.int acc),c2] h=some (.nx [x0,.val (.int (acc+(ycd us).sum)),c2'],h)
 | [],acc,c2,_,_=>⟨c2,by
  show some (Out.nx [x0,.val (.int acc),c2],h)=some (Out.nx [x0,.val (.int (acc+0)),c2],h)
  rw [Int.add_zero]⟩
 | t::r,acc,c2,g,hd=>by
  have hd:max (ymt t) (ybR r)<=n:=hd
  have e:=yya G g.1 (by omega) x0 acc h
  obtain ⟨d2,e2⟩:=yrL G x0 h r (acc+ymf t) (.val (ygj t)) g.2 (by omega)
  refine ⟨d2,?_⟩
  show yjZ (yw 2) (yrK n) (ygj t::yz r) _ h=some (Out.nx [x0,.val (.int (acc+(ymf t::ycd r).sum)),d2],h)
  rw [yoF,show yw 2 (ygj t) [x0,.val (.int acc),c2]=some [x0,.val (.int acc),.val (ygj t)] from rfl,Option.bind_some,e,yha]
  show yjZ (yw 2) (yrK n) (yz r) _ h=_
  rw [e2,List.sum_cons,Int.add_assoc]
theorem yxh:∀ n:Nat,yvU n
 | 0=>fun ts h g hd=>by omega
 | n+1=>fun ts h g hd=>by
  unfold ydY
  rw [ybp]
  show ob (yx _ (yx (ytb (xIL (yk 0)) (yw 2) (yrK n)) _) [.val (.lst (yz ts)),.no,.no] h) fnK=_
  walk_at "px"
  rw [yCJ rfl,yha]
  obtain ⟨c2,e⟩:=yrL (yxh n) (.val (.lst (yz ts))) h ts 0 .no g (by omega)
  rw [e]
  walk_at "px"
  rw [Int.zero_add]
end
section
variable {h:AH}
theorem yqb {xs:List PV}:yxM (.lst xs) (.lst []) h=some (.bl (decide (xs=[])),h):=by
 cases xs with
 | nil=>rfl
 | cons x xs=>rfl
theorem yDZ {a b:Str}(hl:a.length+b.length<=100000):yis (.str a) (.str b) h=some (.str (a++b),h):=by rw [ywJ,if_pos hl]
theorem yNb:("if ":Str) = "if"++" ":=by rfl'
theorem yIZ:(" else ":Str) = " "++"else"++" ":=by rfl'
theorem yCT:("either ":Str) = "either"++" ":=by rfl'
theorem yNc:(" or ":Str) = " "++"or"++" ":=by rfl'
theorem yLQ:("( ":Str) = "("++" ":=by rfl'
theorem yLR:(" )":Str) = " "++")":=by rfl'
theorem yLS:("( ":Str).length=2:=by rfl'
noncomputable def yqc (n:Nat):Prop:=∀ (ts:List T) (h:AH),gdL ts->wL ts<=50000->2*ybR ts+1<=n->ygS n [.lst (yz ts)] h=some (.str (yiX ts),h)
theorem yyb {n:Nat}(G:yqc n) {ts:List T}(g:gdL ts) (hw:wL ts<=50000) (hd:2*ybR ts+1<=n):ydb (n+1) [.lst (yz ts)] h=some (.str (ydG (yiX ts)),h):=by
 have hl:(yiX ts).length<=wL ts:=ycF ts
 unfold ydb
 rw [ybp]
 show ob (yx _ _ [.val (.lst (yz ts))] h) fnK=_
 simp_all? only [yqb]
 cases ts with
 | nil =>
  rw [if_pos (show yz []=[] from rfl),show ydG (yiX []) = "( )" by rfl']
 | cons t r =>
  rw [if_neg (by intro z;cases z),G _ h g hw hd]
  have ne:yiX (t::r)≠"":=by
   rw [show yiX (t::r)=Str.join " " (wdL (t::r)) from yht _ g]
   exact yvQ (ymE g) fun z=>yCM g.1 (List.append_eq_nil_iff.mp z).1
  simp_all? only []
  rw [if_pos (by omega),if_pos (by rw [ylg,yLS];omega)]
  unfold ydG
  rw [if_neg ne,yLQ,yLR]
  show some (PV.str ("("++" "++yiX (t::r)++(" "++")")),h)=some (PV.str ("("++" "++(yiX (t::r)++" "++")")),h)
  simp only [yhs]
noncomputable def yol (n:Nat):XS:=ydg (yF (xOp (oEq) (xOp (yfp) (yk 2) (xC (.int 0))) (xC (.str "if")))) (ymy 1 (xOp yis (xOp yis (xOp yis (xOp yis (xOp yis (xC (.str "if ")) (xOp (yfp) (yk 2) (xC (.int 1)))) (xC (.str " "))) (ybJ (ydb n) (yd (xOp (yfp) (yk 2) (xC (.int 2))) (yu)))) (xC (.str " else "))) (ybJ (ydb n) (yd (xOp (yfp) (yk 2) (xC (.int 3))) (yu))))) (ydg (yF (xOp (oEq) (xOp (yfp) (yk 2) (xC (.int 0))) (xC (.str "either")))) (ymy 1 (xOp yis (xOp yis (xOp yis (xC (.str "either ")) (ybJ (ydb n) (yd (xOp (yfp) (yk 2) (xC (.int 1))) (yu)))) (xC (.str " or "))) (ybJ (ydb n) (yd (xOp (yfp) (yk 2) (xC (.int 2))) (yu))))) (ydg (yF (xOp (oEq) (xOp (yfp) (yk 2) (xC (.int 0))) (xC (.str "try")))) (yx (ydI (xFz (ymp (yd (xC (.str "try")) (yd (ybJ (ydb n) (yd (xOp (yfp) (yk 2) (xC (.int 1))) (yu))) (yd (xC (.str "on")) (yd (xOp (yfp) (yk 2) (xC (.int 2))) (yd (xOp (yfp) (yk 2) (xC (.int 3))) (yd (ybJ (ydb n) (yd (xOp (yfp) (yk 2) (xC (.int 4))) (yu))) (yu))))))))) (yw 3)) (ymy 1 (xBM isStr (ysh) (xC (.str " ")) (yd (yk 3) (yu))))) (ymy 1 (xBM isStr (ysh) (xC (.str " ")) (yd (xFz (ysg (xIT (yk 2)) [] (xCB (yvF) (yd (yk 0) (yu))))) (yu))))))
theorem yJa {n:Int}(h0:0<=n) (h1:n<B64):n.natAbs.log2<1920:=by
 by_cases hz:n.natAbs=0
 .rw [hz];decide
 .rw [Nat.log2_lt hz]
  have e1:n.natAbs<2 ^ 64:=by
   have:(2:Nat) ^ 64=18446744073709551616:=by decide
   rw [this]
   unfold B64 at h1
   omega
  exact Nat.lt_of_lt_of_le e1 (Nat.pow_le_pow_right (by decide) (by decide))
abbrev sE_:XE:=xCB yvF (yd (yk 0) yu)
theorem yyc {z:Str}{xs:List PV}{ρ:PSt}:yuW sE_ (ysf [] ρ) (.str z::xs) h=ob (yuW sE_ (ysf [] ρ) xs h) fun ys h2=>some (.str z::ys,h2):=rfl
theorem yLT {m:Int}{xs:List PV}{ρ:PSt}(hz:m.natAbs.log2<1920):yuW sE_ (ysf [] ρ) (.int m::xs) h=ob (yuW sE_ (ysf [] ρ) xs h) fun ys h2=>some (.str (toString m:String)::ys,h2):=by
 show ob (sE_ [.val (.int m)] h) (fun y h1=>ob (yuW sE_ (ysf [] ρ) xs h1) fun ys h2=>some (y::ys,h2))=_
 rw [show sE_ [.val (.int m)] h=some (.str (toString m:String),h) by
  show yvF [.int m] h=_
  rw [yFB,if_pos hz]]
 rfl
theorem yyd {ρ:PSt}:yuW sE_ (ysf [] ρ) [] h=some ([],h):=rfl
theorem yye {xs:List PV}{x0 x1 x3:PVar}:xIT (yk 2) [x0,x1,.val (.tup xs),x3] h=some (xs,h):=rfl
theorem yin {n:Nat}{t:T}(g:gdT t) (hp:plain t) (x0 c3:PVar) (acc:List PV) (ha:acc.length<90000):yol n [x0,.own (.lst acc),.val (ygj t),c3] h=some (.nx [x0,.own (.lst (acc++[.str (ygK t)])),.val (ygj t),c3],h):=by
 have hf:=yFY g
 have hb:(∀ l:List Str,frs l->l.length<=10->(l.map (·.length)).sum+l.length<=1048576):=by
  have:∀ l:List Str,frs l->(l.map (·.length)).sum<=20*l.length:=by
   intro l
   induction l with
   | nil=>intro _;exact Nat.le_refl _
   | cons a l ih =>
    intro h
    have h1:=(h a List.mem_cons_self).2.2
    have h2:=ih fun x hx=>h x (List.mem_cons_of_mem _ hx)
    simp only [List.map_cons,List.sum_cons,List.length_cons]
    omega
  intro l h1 h2
  have:=this l h1
  omega
 rw [yxa t g]
 unfold yol
 cases t with
 | base=>exact g.elim
 | if_ r a b=>exact hp.elim
 | either a b=>exact hp.elim
 | try_ a nm r b=>exact hp.elim
 | let_ r m =>
  show ydg _ _ _ [x0,.own (.lst acc),.val (.tup [PV.str "let",.str r,.int m]),c3] h=_
  walk_at "qt"
  rw [yms rfl]
  walk_at "px"
  rw [yye,yha,if_pos (show [PV.str "let",.str r,.int m].length<=100000 from Nat.le_of_ble_eq_true rfl)]
  simp only [yyc,yyd,yLT (yJa g.2.1 g.2.2),yha]
  rw [yoH (ts:=wdT (.let_ r m)) rfl j1 (hb _ hf (Nat.le_of_ble_eq_true rfl))]
  walk_at "px"
  rw [if_pos (by omega)]
  rfl
 | take r s =>
  show ydg _ _ _ [x0,.own (.lst acc),.val (.tup [PV.str "take",.str r,.str s]),c3] h=_
  walk_at "qt"
  rw [yms rfl]
  walk_at "px"
  rw [yye,yha,if_pos (show [PV.str "take",.str r,.str s].length<=100000 from Nat.le_of_ble_eq_true rfl)]
  simp only [yyc,yyd,yha]
  rw [yoH (ts:=wdT (.take r s)) rfl j1 (hb _ hf (Nat.le_of_ble_eq_true rfl))]
  walk_at "px"
  rw [if_pos (by omega)]
  rfl
 | put r s =>
  show ydg _ _ _ [x0,.own (.lst acc),.val (.tup [PV.str "put",.str r,.str s]),c3] h=_
  walk_at "qt"
  rw [yms rfl]
  walk_at "px"
  rw [yye,yha,if_pos (show [PV.str "put",.str r,.str s].length<=100000 from Nat.le_of_ble_eq_true rfl)]
  simp only [yyc,yyd,yha]
  rw [yoH (ts:=wdT (.put r s)) rfl j1 (hb _ hf (Nat.le_of_ble_eq_true rfl))]
  walk_at "px"
  rw [if_pos (by omega)]
  rfl
 | throw r s =>
  show ydg _ _ _ [x0,.own (.lst acc),.val (.tup [PV.str "throw",.str r,.str s]),c3] h=_
  walk_at "qt"
  rw [yms rfl]
  walk_at "px"
  rw [yye,yha,if_pos (show [PV.str "throw",.str r,.str s].length<=100000 from Nat.le_of_ble_eq_true rfl)]
  simp only [yyc,yyd,yha]
  rw [yoH (ts:=wdT (.throw r s)) rfl j1 (hb _ hf (Nat.le_of_ble_eq_true rfl))]
  walk_at "px"
  rw [if_pos (by omega)]
  rfl
 | wait =>
  show ydg _ _ _ [x0,.own (.lst acc),.val (.tup [PV.str "wait"]),c3] h=_
  walk_at "qt"
  rw [yms rfl]
  walk_at "px"
  rw [yye,yha,if_pos (show [PV.str "wait"].length<=100000 from Nat.le_of_ble_eq_true rfl)]
  simp only [yyc,yyd,yha]
  rw [yoH (ts:=wdT (.wait)) rfl j1 (hb _ hf (Nat.le_of_ble_eq_true rfl))]
  walk_at "px"
  rw [if_pos (by omega)]
  rfl
 | reckon w r s u =>
  show ydg _ _ _ [x0,.own (.lst acc),.val (.tup [PV.str w,.str r,.str s,.str u]),c3] h=_
  obtain ⟨n1,n2,n3,n4,n5,n6,n7,n8⟩:=yok g.1
  simp_all? only [yxK,n6,n7,n8,↓reduceIte]
  rw [yms rfl]
  walk_at "px"
  rw [yye,yha,if_pos (show [PV.str w,.str r,.str s,.str u].length<=100000 from Nat.le_of_ble_eq_true rfl)]
  simp only [yyc,yyd,yha]
  rw [yoH (ts:=wdT (.reckon w r s u)) rfl j1 (hb _ hf (Nat.le_of_ble_eq_true rfl))]
  walk_at "px"
  rw [if_pos (by omega)]
  rfl
theorem yGe {n:Nat}(G:yqc n) {r:Str}{a b:List T}(g:gdT (.if_ r a b)) (hw:wT (.if_ r a b)<=50000) (hd:2*max (ybR a) (ybR b)+1<=n) (x0 c3:PVar) (acc:List PV) (ha:acc.length<90000):yol (n+1) [x0,.own (.lst acc),.val (ygj (.if_ r a b)),c3] h=some (.nx [x0,.own (.lst (acc++[.str (ygK (.if_ r a b))])),.val (ygj (.if_ r a b)),c3],h):=by
 have hw:40+r.length+wL a+wL b<=50000:=hw
 have b1:=yfF (yiX a)
 have b2:=yfF (yiX b)
 have c1:(yiX a).length<=wL a:=ycF a
 have c2:(yiX b).length<=wL b:=ycF b
 unfold yol
 show ydg _ _ _ [x0,.own (.lst acc),.val (.tup [.str "if",.str r,.lst (yz a),.lst (yz b)]),c3] h=_
 walk_at "qt"
 rw [yms rfl]
 simp_all? only [yxK,yCq,yFx,yFy,yyb G g.2.1 (by omega:wL a<=50000) (by omega),yyb G g.2.2 (by omega:wL b<=50000) (by omega),yDZ,ylg]
 rw [if_pos (by omega),if_pos (by omega),if_pos (by omega),if_pos (by omega),if_pos (by omega),if_pos (by omega)]
 have e:"if "++r++" "++ydG (yiX a)++" else "++ydG (yiX b)=ygK (.if_ r a b):=by
  show _ = "if"++" "++(r++" "++(ydG (yiX a)++" "++("else"++" "++ydG (yiX b))))
  rw [yNb,yIZ]
  simp only [yhs]
 rw [e];rfl
theorem yvV {n:Nat}(G:yqc n) {a b:List T}(g:gdT (.either a b)) (hw:wT (.either a b)<=50000) (hd:2*max (ybR a) (ybR b)+1<=n) (x0 c3:PVar) (acc:List PV) (ha:acc.length<90000):yol (n+1) [x0,.own (.lst acc),.val (ygj (.either a b)),c3] h=some (.nx [x0,.own (.lst (acc++[.str (ygK (.either a b))])),.val (ygj (.either a b)),c3],h):=by
 have hw:40+wL a+wL b<=50000:=hw
 have b1:=yfF (yiX a)
 have b2:=yfF (yiX b)
 have c1:(yiX a).length<=wL a:=ycF a
 have c2:(yiX b).length<=wL b:=ycF b
 unfold yol
 show ydg _ _ _ [x0,.own (.lst acc),.val (.tup [.str "either",.lst (yz a),.lst (yz b)]),c3] h=_
 walk_at "qt"
 rw [yms rfl]
 simp_all? only [yxK,yCq,yFx,yFy,yyb G g.1 (by omega:wL a<=50000) (by omega),yyb G g.2 (by omega:wL b<=50000) (by omega),yDZ,ylg]
 rw [if_pos (by omega),if_pos (by omega),if_pos (by omega),if_pos (by omega)]
 have e:"either "++ydG (yiX a)++" or "++ydG (yiX b)=ygK (.either a b):=by
  show _ = "either"++" "++(ydG (yiX a)++" "++("or"++" "++ydG (yiX b)))
  rw [yCT,yNc]
  simp only [yhs]
 rw [e];rfl
theorem yCU {n:Nat}(G:yqc n) {nm r:Str}{a b:List T}(g:gdT (.try_ a nm r b)) (hw:wT (.try_ a nm r b)<=50000) (hd:2*max (ybR a) (ybR b)+1<=n) (x0 c3:PVar) (acc:List PV) (ha:acc.length<90000):∃ c3',yol (n+1) [x0,.own (.lst acc),.val (ygj (.try_ a nm r b)),c3] h=some (.nx [x0,.own (.lst (acc++[.str (ygK (.try_ a nm r b))])),.val (ygj (.try_ a nm r b)),c3'],h):=by
 have hw:40+nm.length+r.length+wL a+wL b<=50000:=hw
 have b1:=yfF (yiX a)
 have b2:=yfF (yiX b)
 have c1:(yiX a).length<=wL a:=ycF a
 have c2:(yiX b).length<=wL b:=ycF b
 refine ⟨.val (.lst [.str "try",.str (ydG (yiX a)),.str "on",.str nm,.str r,.str (ydG (yiX b))]),?_⟩
 unfold yol
 show ydg _ _ _ [x0,.own (.lst acc),.val (.tup [.str "try",.lst (yz a),.str nm,.str r,.lst (yz b)]),c3] h=_
 walk_at "qt"
 simp_all? only [yxK,yCq,yFx,yFy,yJL,yyb G g.2.2.1 (by omega:wL a<=50000) (by omega),yyb G g.2.2.2 (by omega:wL b<=50000) (by omega)]
 rw [yms rfl]
 walk_at "px"
 rw [yoH (ts:=["try",ydG (yiX a),"on",nm,r,ydG (yiX b)]) rfl j1 (by simp only [List.map_cons,List.map_nil,List.sum_cons,List.sum_nil,List.length_cons,List.length_nil,yIB,yIC];omega)]
 walk_at "px"
 rw [if_pos (by omega)]
 rfl
theorem yAC {n:Nat}(G:∀ m,m<n->yqc m) {t:T}(g:gdT t) (hw:wT t<=50000) (hd:2*ymt t<=n) (x0 c3:PVar) (acc:List PV) (ha:acc.length<90000):∃ c3',yol n [x0,.own (.lst acc),.val (ygj t),c3] h=some (.nx [x0,.own (.lst (acc++[.str (ygK t)])),.val (ygj t),c3'],h):=by
 cases t with
 | if_ r a b =>
  have h1:2*(1+max (ybR a) (ybR b))<=n:=hd
  obtain ⟨m,rfl⟩:∃ m,n=m+1:=⟨n-1,by omega⟩
  exact ⟨_,yGe (G m (by omega)) g hw (by omega) x0 c3 acc ha⟩
 | either a b =>
  have h1:2*(1+max (ybR a) (ybR b))<=n:=hd
  obtain ⟨m,rfl⟩:∃ m,n=m+1:=⟨n-1,by omega⟩
  exact ⟨_,yvV (G m (by omega)) g hw (by omega) x0 c3 acc ha⟩
 | try_ a nm r b =>
  have h1:2*(1+max (ybR a) (ybR b))<=n:=hd
  obtain ⟨m,rfl⟩:∃ m,n=m+1:=⟨n-1,by omega⟩
  exact yCU (G m (by omega)) g hw (by omega) x0 c3 acc ha
 | base=>exact g.elim
 | let_ r m=>exact ⟨_,yin g trivial x0 c3 acc ha⟩
 | reckon w r s u=>exact ⟨_,yin g trivial x0 c3 acc ha⟩
 | take r s=>exact ⟨_,yin g trivial x0 c3 acc ha⟩
 | put r s=>exact ⟨_,yin g trivial x0 c3 acc ha⟩
 | throw r s=>exact ⟨_,yin g trivial x0 c3 acc ha⟩
 | wait=>exact ⟨_,yin g trivial x0 c3 acc ha⟩
theorem yun {n:Nat}(G:∀ m,m<n->yqc m) (x0:PVar):∀ (us:List T) (acc:List PV) (c2 c3:PVar),gdL us->wL us<=50000->2*ybR us<=n->acc.length+us.length<=90000->∃ c2' c3',yjZ (yw 2) (yol n) (yz us) [x0,.own (.lst acc),c2,c3] h=some (.nx [x0,.own (.lst (acc++(ybH us).map .str)),c2',c3'],h)
 | [],acc,c2,c3,_,_,_,_=>⟨c2,c3,by
  show some (Out.nx [x0,.own (.lst acc),c2,c3],h)=some (Out.nx [x0,.own (.lst (acc++[])),c2,c3],h)
  rw [List.append_nil]⟩
 | t::r,acc,c2,c3,g,hw,hd,hl=>by
  have hd:2*max (ymt t) (ybR r)<=n:=hd
  have hw:5+wT t+wL r<=50000:=hw
  have hl:acc.length+(r.length+1)<=90000:=hl
  obtain ⟨d3,e⟩:=yAC (h:=h) G g.1 (by omega) (by omega) x0 c3 acc (by omega)
  obtain ⟨d2,d3',e2⟩:=yun G x0 r (acc++[.str (ygK t)]) (.val (ygj t)) d3 g.2 (by omega) (by omega) (by rw [List.length_append,List.length_singleton];omega)
  refine ⟨d2,d3',?_⟩
  show yjZ (yw 2) (yol n) (ygj t::yz r) _ h=some (Out.nx [x0,.own (.lst (acc++(.str (ygK t)::(ybH r).map .str))),d2,d3'],h)
  rw [yoF,show yw 2 (ygj t) [x0,.own (.lst acc),c2,c3]=some [x0,.own (.lst acc),.val (ygj t),c3] from rfl,Option.bind_some,e,yha]
  show yjZ (yw 2) (yol n) (yz r) _ h=_
  rw [e2,List.append_assoc];rfl
theorem yGf:∀ n:Nat,yqc n:=by
 intro n
 induction n using Nat.strongRecOn with
 | ind n ih =>
  intro ts h g hw hd
  obtain ⟨m,rfl⟩:∃ m,n=m+1:=⟨n-1,by omega⟩
  have hc:=w_count ts
  have sl:=yoh ts
  unfold ygS
  rw [ybp]
  show ob (yx _ (yx (ytb (xIL (yk 0)) (yw 2) (yol m)) _) [.val (.lst (yz ts)),.no,.no,.no] h) fnK=_
  walk_at "px"
  rw [yCJ rfl,yha]
  obtain ⟨c2,c3,e⟩:=yun (h:=h) (n:=m) (fun k hk=>ih k (by omega)) (.val (.lst (yz ts))) ts [] .no .no g hw (by omega) (by show 0+ts.length<=90000;omega)
  rw [e]
  walk_at "px"
  rw [List.nil_append,yoH (yxT ts) (by rw [l3];decide) (by omega)]
  walk_at "px"
  rfl
end
section
variable {h:AH}
theorem yiv (n:Int):ygL (ynr n):=by
 unfold ynr yue
 have hm:=ylh n (show (0:Int)<8 by decide)
 rw [show slotsV.cps.toList=[97,98,99,100,101,102,103,104] by rfl']
 generalize n%8=k at *
 have:k=0\/k=1\/k=2\/k=3\/k=4\/k=5\/k=6\/k=7:=by omega
 rcases this with rfl|rfl|rfl|rfl|rfl|rfl|rfl|rfl
 all_goals exact ⟨_,by decide,by decide,rfl⟩
theorem yGg (k:Int):∀ c∈(yue lettersV (k%26)).cps.toList,97<=c/\c<=122:=by
 intro c hc
 have hm:=ylh k (show (0:Int)<26 by decide)
 unfold yue at hc
 have e:lettersV.cps.toList=(List.range 26).map (· + 97):=by rfl'
 rw [e] at hc
 have hj:(k%26).toNat<26:=by omega
 have:c=(k%26).toNat+97:=by
  simp [hj] at hc
  exact hc
 omega
theorem yGh (a b:Str):(a++b).cps.toList=a.cps.toList++b.cps.toList:=by
 show (a.cps++b.cps).toList=_
 simp
theorem yJb (c at':Int):∀ k:Nat,∀ x∈(ykL c at' k).cps.toList,97<=x/\x<=122
 | 0,x,hx=>by
  rw [show (ykL c at' 0).cps.toList=[] from by show ("":Str).cps.toList=[];rfl'] at hx
  cases hx
 | k+1,x,hx=>by
  rw [show ykL c at' (k+1)=ykL c at' k++nameStep c at' k from rfl,yGh] at hx
  rcases List.mem_append.mp hx with hx|hx
  .exact yJb c at' k x hx
  .exact yGg _ x hx
theorem yAD (c:Int):yrC (yxR c):=by
 unfold yxR
 split
 .have hm:=ylh (c/4) (show (0:Int)<8 by decide)
  generalize c/4%8=k at *
  have:k=0\/k=1\/k=2\/k=3\/k=4\/k=5\/k=6\/k=7:=by omega
  rcases this with rfl|rfl|rfl|rfl|rfl|rfl|rfl|rfl
  all_goals exact ⟨by rfl',by rfl',by rfl'⟩
 .have hm:=ylh (c/4) (show (0:Int)<8 by decide)
  refine ⟨by rw [yug];omega,by rw [yug];omega,yJb _ _ _⟩
theorem yGi (m:Int):yui (yAj m):=by
 unfold yAj
 have hm:=ylh (m/512) (show (0:Int)<5 by decide)
 generalize m/512%5=k at *
 have:k=0\/k=1\/k=2\/k=3\/k=4:=by omega
 rcases this with rfl|rfl|rfl|rfl|rfl
 .exact .inl rfl
 .exact .inr (.inl rfl)
 .exact .inr (.inr (.inl rfl))
 .exact .inr (.inr (.inr (.inl rfl)))
 .exact .inr (.inr (.inr (.inr rfl)))
theorem yCV (w c:Int):gdT (yuf w c):=by
 unfold yuf
 repeat' split
 .exact ⟨yiv _,yIH c⟩
 .exact ⟨yGi _,yiv _,yiv _,yiv _⟩
 .exact ⟨yiv _,yiv _⟩
 .exact ⟨yiv _,yiv _⟩
 .exact ⟨yAD _,yiv _⟩
 .trivial
noncomputable def yyf (c:Int):Int:=if c%10<2 then 0 else if c%10<4 then 1 else if c%10<6 then 2 else if c%10<8 then 3 else if c%10=8 then 4 else 5
theorem yCW (c:Int):yhq [.int c] h=some (ygj (yuf (yyf c) (c/10)),h):=by
 unfold yhq
 rw [ybp]
 show ob (yx _ _ [.val (.int c),.no,.no,.no,.no] h) fnK=_
 obtain ⟨w,hw,ew,_⟩:=yIG (yyG (c/10))
 unfold yyG at hw
 simp_all? only [yAn,yAo,yAp,hw,Option.bind_some]
 rw [ew]
 by_cases q0:c%10<2
 .rw [if_pos q0,show yyf c=0 by unfold yyf;rw [if_pos q0]];rfl
 .rw [if_neg q0]
  by_cases q1:c%10<4
  .rw [if_pos q1,show yyf c=1 by unfold yyf;rw [if_neg q0,if_pos q1]];rfl
  .rw [if_neg q1]
   by_cases q2:c%10<6
   .rw [if_pos q2,show yyf c=2 by unfold yyf;rw [if_neg q0,if_neg q1,if_pos q2]];rfl
   .rw [if_neg q2]
    by_cases q3:c%10<8
    .rw [if_pos q3,show yyf c=3 by unfold yyf;rw [if_neg q0,if_neg q1,if_neg q2,if_pos q3]];rfl
    .rw [if_neg q3]
     by_cases q4:c%10=8
     .rw [if_pos q4,show yyf c=4 by unfold yyf;rw [if_neg q0,if_neg q1,if_neg q2,if_neg q3,if_pos q4]];rfl
     .rw [if_neg q4,show yyf c=5 by unfold yyf;rw [if_neg q0,if_neg q1,if_neg q2,if_neg q3,if_neg q4]];rfl
theorem yCX (c:Int) {a b:List T}(ga:gdL a) (gb:gdL b):∃ t,yhr [.int c,.lst (yz a),.lst (yz b)] h=some (ygj t,h)/\gdT t/\ymt t=1+max (ybR a) (ybR b):=by
 have key:∀ (x y:List T),gdL x->gdL y->max (ybR x) (ybR y)=max (ybR a) (ybR b)->∃ t,(if c*69621%2147483629/2%3=0 then some (ygj (.if_ (ynr (c*69621%2147483629/6)) x y),h) else if c*69621%2147483629/2%3=1 then some (ygj (.either x y),h) else some (ygj (.try_ x (yxR c) (ynr (c*69621%2147483629/6)) y),h))=some (ygj t,h)/\gdT t/\ymt t=1+max (ybR a) (ybR b):=by
  intro x y gx gy e
  split
  .exact ⟨_,rfl,⟨yiv _,gx,gy⟩,by rw [<- e];rfl⟩
  .split
   .exact ⟨_,rfl,⟨gx,gy⟩,by rw [<- e];rfl⟩
   .exact ⟨_,rfl,⟨yAD _,yiv _,gx,gy⟩,by rw [<- e];rfl⟩
 unfold yhr
 rw [ybp]
 show ∃ t,ob (yx _ _ [.val (.int c),.val (.lst (yz a)),.val (.lst (yz b)),.no,.no] h) fnK=_/\_
 simp_all? only [yAn,yAp]
 split
 .exact key b a gb ga (Nat.max_comm _ _)
 .exact key a b ga gb rfl
end
section
variable {h:AH}
theorem gdL_iff:∀ {ts:List T},gdL ts ↔ ∀ t∈ts,gdT t
 | []=>⟨(fun _ t h=>by cases h),fun _=>trivial⟩
 | t::r=>⟨fun g u hu=>(List.mem_cons.mp hu).elim (fun e=>e ▸ g.1) (gdL_iff.mp g.2 u),fun g=>⟨g t List.mem_cons_self,gdL_iff.mpr fun u hu=>g u (List.mem_cons_of_mem _ hu)⟩⟩
theorem yvW:∀ {ts:List T}{n:Nat},(∀ t∈ts,ymt t<=n)->ybR ts<=n
 | [],n,_=>Nat.zero_le _
 | t::r,n,g=>by
  have h1:=g t List.mem_cons_self
  have h2:=yvW (ts:=r) fun u hu=>g u (List.mem_cons_of_mem _ hu)
  show max (ymt t) (ybR r)<=n
  omega
theorem yAE {ts us:List T}(g:gdL ts) (h:∀ t∈us,t∈ts):gdL us/\ybR us<=ybR ts:=⟨gdL_iff.mpr fun t ht=>gdL_iff.mp g t (h t ht),yvW fun t ht=>yst (h t ht)⟩
theorem yxi {ts us:List T}(g:OkL ts) (gu:gdL us) (hd:ybR us<=11):∃ ts',OkL ts'/\(ob (ydU 15 [.lst (yz us)] h) fun x h1=>ob (oGt x (.int 8) h1) fun y h2=>ob (oB y h2) fun z h3=>if z=true then some (PV.lst (yz ts),h3) else ob (ydY 15 [.lst (yz us)] h3) fun x h4=>ob (oGt x (.int 79) h4) fun y h5=>ob (oB y h5) fun z h6=>if z=true then some (PV.lst (yz ts),h6) else some (PV.lst (yz us),h6))=some (.lst (yz ts'),h):=by
 rw [yxf 15 us h gu (by omega)]
 simp_all? only []
 by_cases q:rdL us>8
 .rw [if_pos q]
  exact ⟨ts,g,rfl⟩
 .rw [if_neg q,yxh 15 us h gu (by omega)]
  simp_all? only []
  by_cases q2:(ycd us).sum>79
  .rw [if_pos q2]
   exact ⟨ts,g,rfl⟩
  .rw [if_neg q2]
   exact ⟨us,⟨gu,by omega,by omega⟩,rfl⟩
theorem yvX (ts:List T) (lo hi:Option Int):∃ us,yBk (yz ts) lo hi=yz us/\(∀ t∈us,t∈ts)/\us.length<=ts.length:=by
 unfold yBk
 rw [yjM,<- List.map_drop,<- List.map_take]
 refine ⟨_,(yjM _).symm,fun t ht=>List.mem_of_mem_drop (List.mem_of_mem_take ht),?_⟩
 rw [List.length_take,List.length_drop]
 omega
theorem yxj (ts:List T) (t:T):yz ts++[ygj t]=yz (ts++[t]):=by rw [yjM,yjM,List.map_append];rfl
theorem yAF {ts:List T}{t:T}(g:gdL ts) (gt:gdT t):gdL (ts++[t]):=gdL_iff.mpr fun u hu=>(List.mem_append.mp hu).elim (gdL_iff.mp g u) fun e=>by rw [List.mem_singleton.mp e];exact gt
theorem yxk {ts:List T}{t:T}{n:Nat}(h1:ybR ts<=n) (h2:ymt t<=n):ybR (ts++[t])<=n:=yvW fun u hu=>(List.mem_append.mp hu).elim (fun z=>Nat.le_trans (yst z) h1) fun e=>by rw [List.mem_singleton.mp e];exact h2
theorem yGj {ts:List T}(g:OkL ts) (c:Int):∃ ts',OkL ts'/\ygR [.lst (yz ts),.int c] h=some (.lst (yz ts'),h):=by
 have hl:=g.len
 have hdp:=g.dep
 unfold ygR
 rw [ybp]
 show ∃ ts',OkL ts'/\ob (yx _ _ [.val (.lst (yz ts)),.val (.int c),.no,.no,.no] h) fnK=_
 simp_all? only [yCW,ysx,ynw]
 generalize c%1000000000000000000000000000000000000000000000000000000000000=d
 by_cases q:0<d%3
 .rw [if_pos q,if_pos (by omega),yxj]
  exact yxi g (yAF g.gd (yCV _ _)) (yxk (by omega) (by rw [yAl];omega))
 .rw [if_neg q]
  generalize max 0 ((ts.length:Int)-d/3%4)=cu
  generalize max 0 (cu-d/12%3)=lo
  obtain ⟨x,ex,mx,_⟩:=yvX ts (some cu) none
  obtain ⟨y,ey,my,_⟩:=yvX ts (some lo) (some cu)
  obtain ⟨z,ez,mz,lz⟩:=yvX ts none (some lo)
  rw [ex,ey,ez]
  obtain ⟨gx,dx⟩:=yAE g.gd mx
  obtain ⟨gy,dy⟩:=yAE g.gd my
  obtain ⟨gz,dz⟩:=yAE g.gd mz
  obtain ⟨t,et,gt,dt⟩:=yCX (h:=h) (d/36) gx gy
  rw [et]
  simp_all? only [ynw]
  rw [if_pos (by omega),yxj]
  exact yxi g (yAF gz gt) (yxk (by omega) (by omega))
end
section
variable {h:AH}
theorem yuo {n:Nat}:∀ {xs:List PV}{us:List V},svs xs=some us->ytc (eqP (n+1) h) xs xs=some true
 | [],_,_=>rfl
 | x::xs,us,e=>by
  unfold svs at e
  split at e
  .rename_i u us' e1 e2
   cases e
   show (match eqP (n+1) h x x,ytc (eqP (n+1) h) xs xs with|some b,some c=>some (b && c)|_,_=>none)=_
   rw [yuo e2]
   have:eqP (n+1) h x x=some (eqV u u):=by
    show (match sv x,sv x with|some u,some v=>some (eqV u v)|_,_=>pairE (eqP n h) h x x)=_
    rw [e1]
   rw [this,ywN (ypE e1)]
   rfl
  .cases e
theorem ynx {xs:List PV}{us:List V}(e:svs xs=some us):yxM (.lst xs) (.lst xs) h=some (.bl true,h):=by
 unfold yxM pairE yeM
 simp only [yuo (n:=39) e,if_true]
theorem yJc {ns:List Str}{xs:List PV}:yhn ycY [.ins 1 ns xs,.cls 1] h=some (.bl true,h):=rfl
theorem yJd {ns:List Str}{xs:List PV}:yhn ycY [.ins 2 ns xs,.cls 2] h=some (.bl true,h):=rfl
theorem yJe {ns:List Str}{xs:List PV}:yhn ycY [.ins 3 ns xs,.cls 3] h=some (.bl true,h):=rfl
theorem yJf {ns:List Str}{xs:List PV}:yhn ycY [.ins 4 ns xs,.cls 4] h=some (.bl true,h):=rfl
theorem yJg {ns:List Str}{xs:List PV}:yhn ycY [.ins 5 ns xs,.cls 5] h=some (.bl true,h):=rfl
theorem yJh {ns:List Str}{xs:List PV}:yhn ycY [.ins 5 ns xs,.cls 0] h=some (.bl true,h):=rfl
theorem yJi {ns:List Str}{xs:List PV}:yhn ycY [.ins 6 ns xs,.cls 6] h=some (.bl true,h):=rfl
theorem yJj {ns:List Str}{xs:List PV}:yhn ycY [.ins 6 ns xs,.cls 0] h=some (.bl true,h):=rfl
theorem yJk {ns:List Str}{xs:List PV}:yhn ycY [.ins 7 ns xs,.cls 7] h=some (.bl true,h):=rfl
theorem yJl {ns:List Str}{xs:List PV}:yhn ycY [.ins 7 ns xs,.cls 0] h=some (.bl true,h):=rfl
theorem yJm {ns:List Str}{xs:List PV}:yhn ycY [.ins 8 ns xs,.cls 8] h=some (.bl true,h):=rfl
theorem yJn {ns:List Str}{xs:List PV}:yhn ycY [.ins 9 ns xs,.cls 9] h=some (.bl true,h):=rfl
theorem yAG {t:T}(g:gdT t) (hp:plain t):yfd [ybW t,ygj t] h=some (.bl true,h):=by
 unfold yfd
 rw [ybp]
 cases t with
 | base=>exact g.elim
 | if_ r a b=>exact hp.elim
 | either a b=>exact hp.elim
 | try_ a nm r b=>exact hp.elim
 | let_ r m =>
  show ob (yx _ _ [.val (.ins 1 ["slot","number"] [.str r,.int m]),.val (.tup [.str "let",.str r,.int m])] h) fnK=_
  walk_at "qt"
  simp_all? only [yJc,ynx (xs:=[.str r,.int m]) rfl,yCI]
 | take r s =>
  show ob (yx _ _ [.val (.ins 3 ["slot","place"] [.str r,.str s]),.val (.tup [.str "take",.str r,.str s])] h) fnK=_
  walk_at "qt"
  simp_all? only [yJe,ynx (xs:=[.str r,.str s]) rfl]
 | put r s =>
  show ob (yx _ _ [.val (.ins 4 ["place","slot"] [.str r,.str s]),.val (.tup [.str "put",.str r,.str s])] h) fnK=_
  walk_at "qt"
  simp_all? only [yJf,ynx (xs:=[.str r,.str s]) rfl]
 | throw r s =>
  show ob (yx _ _ [.val (.ins 8 ["name","slot"] [.str r,.str s]),.val (.tup [.str "throw",.str r,.str s])] h) fnK=_
  walk_at "qt"
  simp_all? only [yJm,ynx (xs:=[.str r,.str s]) rfl]
 | wait =>
  show ob (yx _ _ [.val (.ins 9 [] []),.val (.tup [.str "wait"])] h) fnK=_
  walk_at "qt"
  simp_all? only [yJn]
 | reckon w r s u =>
  show ob (yx _ _ [.val (.ins 2 ["word","slot","one","other"] [.str w,.str r,.str s,.str u]),.val (.tup [.str w,.str r,.str s,.str u])] h) fnK=_
  obtain ⟨n1,n2,n3,n4,n5,n6,n7,n8⟩:=yok g.1
  simp_all? only [yxK,n1,n2,n3,n4,n5,↓reduceIte]
  simp_all? only [yJd,ynx (xs:=[.str w,.str r,.str s,.str u]) rfl]
end
section
variable {h:AH}
noncomputable def yom (n:Nat):XS:=yx (ydg (ypo (yF (xCB (yhn ycY) (yd (yk 2) (yd (xC (.cls 0)) (yu)))))) (ycc (xC (.bl false))) (yby)) (yx (ydI (ybJ ybt (yd (yk 3) (yu))) (yw 4)) (ydg (yF (xOp (yxM) (yk 4) (xFz (ymp (yu))))) (ydg (ypo (yF (ybJ yfd (yd (yk 2) (yd (yk 3) (yu)))))) (ycc (xC (.bl false))) (yby)) (yx (ydg (yyE (yF (xOp (oEq) (xOp (yfp) (yk 3) (xC (.int 0))) (xC (.str "if")))) (xOr (ypo (yF (xCB (yhn ycY) (yd (yk 2) (yd (xC (.cls 5)) (yu)))))) (yF (xOp (oNe) (yjI [1,2,3,4,5,7,8] "slot" (yk 2)) (xOp (yfp) (yk 3) (xC (.int 1))))))) (ycc (xC (.bl false))) (yby)) (yx (ydg (yyE (yF (xOp (oEq) (xOp (yfp) (yk 3) (xC (.int 0))) (xC (.str "either")))) (ypo (yF (xCB (yhn ycY) (yd (yk 2) (yd (xC (.cls 6)) (yu))))))) (ycc (xC (.bl false))) (yby)) (yx (ydg (yyE (yF (xOp (oEq) (xOp (yfp) (yk 3) (xC (.int 0))) (xC (.str "try")))) (ypo (yF (xCB (yhn ycY) (yd (yk 2) (yd (xC (.cls 7)) (yu))))))) (ycc (xC (.bl false))) (yby)) (yx (ydg (yyE (yF (xOp (oEq) (xOp (yfp) (yk 3) (xC (.int 0))) (xC (.str "try")))) (xOr (yF (xOp (oNe) (yjI [7,8] "name" (yk 2)) (xOp (yfp) (yk 3) (xC (.int 2))))) (yF (xOp (oNe) (yjI [1,2,3,4,5,7,8] "slot" (yk 2)) (xOp (yfp) (yk 3) (xC (.int 3))))))) (ycc (xC (.bl false))) (yby)) (ydg (xOr (ypo (yF (ybJ (ydF n) (yd (yjI [5,6,7] "parts" (yk 2)) (yd (xOp (yzI) (yk 4) (xC (.int 0))) (yu)))))) (ypo (yF (ybJ (ydF n) (yd (yjI [5,6,7] "others" (yk 2)) (yd (xOp (yzI) (yk 4) (xC (.int 1))) (yu))))))) (ycc (xC (.bl false))) (yby))))))))
def yrM (n:Nat):Prop:=∀ (ts:List T) (h:AH),gdL ts->ybR ts+1<=n->ydF n [.lst (yO ts),.lst (yz ts)] h=some (.bl true,h)
theorem yio {n:Nat}{t:T}(g:gdT t) (hp:plain t) (x0 x1 c4:PVar):yom n [x0,x1,.val (ybW t),.val (ygj t),c4] h=some (.nx [x0,x1,.val (ybW t),.val (ygj t),.val (.lst [])],h):=by
 have es:yqR t=[]:=by cases t<;>first|rfl|exact hp.elim
 have ei:yhn ycY [ybW t,.cls 0] h=some (.bl true,h):=by cases t<;>first|rfl|exact g.elim
 have e4:=ylW (h:=h) g
 rw [es] at e4
 have e4:ybt [ygj t] h=some (.lst [],h):=e4
 unfold yom
 simp_all? only [ei,e4,yqb,yAG g hp,↓reduceIte]
theorem yGk {n:Nat}(G:yrM n) {r:Str}{a b:List T}(g:gdT (.if_ r a b)) (hd:max (ybR a) (ybR b)+1<=n) (x0 x1 c4:PVar):yom n [x0,x1,.val (ybW (.if_ r a b)),.val (ygj (.if_ r a b)),c4] h=some (.nx [x0,x1,.val (ybW (.if_ r a b)),.val (ygj (.if_ r a b)),.val (.lst [.lst (yz a),.lst (yz b)])],h):=by
 have e4:ybt [.tup [.str "if",.str r,.lst (yz a),.lst (yz b)]] h=some (.lst [.lst (yz a),.lst (yz b)],h):=ylW g
 have q1:=G a h g.2.1 (by omega)
 have q2:=G b h g.2.2 (by omega)
 unfold yom
 show yx _ _ [x0,x1,.val (.ins 5 ["slot","parts","others"] [.str r,.lst (yO a),.lst (yO b)]),.val (.tup [.str "if",.str r,.lst (yz a),.lst (yz b)]),c4] h=_
 simp_all? only [yJh,yJg,e4,yqb,yxK,yCq,q1,q2,ymF,ysv,↓reduceIte]
 rw [if_neg (by intro z;cases z)];rfl
theorem yvY {n:Nat}(G:yrM n) {a b:List T}(g:gdT (.either a b)) (hd:max (ybR a) (ybR b)+1<=n) (x0 x1 c4:PVar):yom n [x0,x1,.val (ybW (.either a b)),.val (ygj (.either a b)),c4] h=some (.nx [x0,x1,.val (ybW (.either a b)),.val (ygj (.either a b)),.val (.lst [.lst (yz a),.lst (yz b)])],h):=by
 have e4:ybt [.tup [.str "either",.lst (yz a),.lst (yz b)]] h=some (.lst [.lst (yz a),.lst (yz b)],h):=ylW g
 have q1:=G a h g.1 (by omega)
 have q2:=G b h g.2 (by omega)
 unfold yom
 show yx _ _ [x0,x1,.val (.ins 6 ["parts","others"] [.lst (yO a),.lst (yO b)]),.val (.tup [.str "either",.lst (yz a),.lst (yz b)]),c4] h=_
 simp_all? only [yJj,yJi,e4,yqb,yxK,yCq,q1,q2,yfP,yli,↓reduceIte]
 rw [if_neg (by intro z;cases z)];rfl
theorem yCY {n:Nat}(G:yrM n) {nm r:Str}{a b:List T}(g:gdT (.try_ a nm r b)) (hd:max (ybR a) (ybR b)+1<=n) (x0 x1 c4:PVar):yom n [x0,x1,.val (ybW (.try_ a nm r b)),.val (ygj (.try_ a nm r b)),c4] h=some (.nx [x0,x1,.val (ybW (.try_ a nm r b)),.val (ygj (.try_ a nm r b)),.val (.lst [.lst (yz a),.lst (yz b)])],h):=by
 have e4:ybt [.tup [.str "try",.lst (yz a),.str nm,.str r,.lst (yz b)]] h=some (.lst [.lst (yz a),.lst (yz b)],h):=ylW g
 have q1:=G a h g.2.2.1 (by omega)
 have q2:=G b h g.2.2.2 (by omega)
 unfold yom
 show yx _ _ [x0,x1,.val (.ins 7 ["parts","name","slot","others"] [.lst (yO a),.str nm,.str r,.lst (yO b)]),.val (.tup [.str "try",.lst (yz a),.str nm,.str r,.lst (yz b)]),c4] h=_
 simp_all? only [yJl,yJk,e4,yqb,yxK,yCq,yFx,yFy,q1,q2,ykf,yhu,↓reduceIte]
 rw [if_neg (by intro z;cases z)];rfl
theorem yAH {n:Nat}(G:yrM n) {t:T}(g:gdT t) (hd:ymt t<=n) (x0 x1 c4:PVar):∃ c4',yom n [x0,x1,.val (ybW t),.val (ygj t),c4] h=some (.nx [x0,x1,.val (ybW t),.val (ygj t),c4'],h):=by
 cases t with
 | if_ r a b =>
  have h1:1+max (ybR a) (ybR b)<=n:=hd
  exact ⟨_,yGk G g (by omega) x0 x1 c4⟩
 | either a b =>
  have h1:1+max (ybR a) (ybR b)<=n:=hd
  exact ⟨_,yvY G g (by omega) x0 x1 c4⟩
 | try_ a nm r b =>
  have h1:1+max (ybR a) (ybR b)<=n:=hd
  exact ⟨_,yCY G g (by omega) x0 x1 c4⟩
 | base=>exact g.elim
 | let_ r m=>exact ⟨_,yio g trivial x0 x1 c4⟩
 | reckon w r s u=>exact ⟨_,yio g trivial x0 x1 c4⟩
 | take r s=>exact ⟨_,yio g trivial x0 x1 c4⟩
 | put r s=>exact ⟨_,yio g trivial x0 x1 c4⟩
 | throw r s=>exact ⟨_,yio g trivial x0 x1 c4⟩
 | wait=>exact ⟨_,yio g trivial x0 x1 c4⟩
theorem yup {n:Nat}(G:yrM n) (x0 x1:PVar):∀ (us:List T) (c2 c3 c4:PVar),gdL us->ybR us<=n->∃ c2' c3' c4',yjZ (yyF 2 (ykY (yw 2) (ykY (yw 3) (yBh)))) (yom n) (yBl (yO us) (yz us)) [x0,x1,c2,c3,c4] h=some (.nx [x0,x1,c2',c3',c4'],h)
 | [],c2,c3,c4,_,_=>⟨c2,c3,c4,rfl⟩
 | t::r,c2,c3,c4,g,hd=>by
  have hd:max (ymt t) (ybR r)<=n:=hd
  obtain ⟨d4,e⟩:=yAH (h:=h) G g.1 (by omega) x0 x1 c4
  obtain ⟨d2,d3,d4',e2⟩:=yup G x0 x1 r (.val (ybW t)) (.val (ygj t)) d4 g.2 (by omega)
  refine ⟨d2,d3,d4',?_⟩
  show yjZ _ (yom n) (.tup [ybW t,ygj t]::yBl (yO r) (yz r)) _ h=_
  rw [yoF,show yyF 2 (ykY (yw 2) (ykY (yw 3) (yBh))) (.tup [ybW t,ygj t]) [x0,x1,c2,c3,c4]=some [x0,x1,.val (ybW t),.val (ygj t),c4] from rfl,Option.bind_some,e,yha]
  show yjZ _ (yom n) (yBl (yO r) (yz r)) _ h=_
  rw [e2]
theorem ygd (ts:List T):(yO ts).length=ts.length:=by rw [yoi,List.length_map]
theorem yLU {xs ys:List PV}{r:PSt}(hl:xs.length=ys.length):xIZ (yd (yk 0) (yd (yk 1) yu)) (.val (.lst xs)::.val (.lst ys)::r) h=some (yBl xs ys,h):=by
 show (if xs.length=ys.length then _ else _)=_
 rw [if_pos hl]
theorem yCZ {xs:List PV}:yhn ycY [.lst xs,.ty "list"] h=some (.bl true,h):=rfl
theorem yvZ:∀ n:Nat,yrM n
 | 0=>fun ts h g hd=>by omega
 | n+1=>fun ts h g hd=>by
  unfold ydF
  rw [ybp]
  show ob (yx _ (yx (ytb (xIZ (yd (yk 0) (yd (yk 1) yu))) (yyF 2 (ykY (yw 2) (ykY (yw 3) (yBh)))) (yom n)) _) [.val (.lst (yO ts)),.val (.lst (yz ts)),.no,.no,.no] h) fnK=_
  simp_all? only [yCZ,ygd,ynw,↓reduceIte]
  rw [yLU (by rw [ygd,ynw]),yha]
  obtain ⟨c2,c3,c4,e⟩:=yup (h:=h) (yvZ n) (.val (.lst (yO ts))) (.val (.lst (yz ts))) ts .no .no .no g (by omega)
  rw [e]
  walk_at "px"
end
section
variable {h:AH}{o:Nat}{ws:List Str}{k:Nat}
theorem yny (ho:o<h.length) (e:AH):hR h o ws k++e=hR (h++e) o ws k:=by
 unfold hR
 rw [List.set_append_left _ _ ho]
theorem ynz:(hR h o ws k).length=h.length:=by unfold hR;exact List.length_set ..
theorem yLV {r:Str}{a b:List PV}:yeO [.str r,.lst a,.lst b] h=some (.ins 5 ["slot","parts","others"] [.str r,.loc h.length,.loc (h.length+1)],h++[.lst a]++[.lst b]):=by
 unfold yeO
 rw [yvA]
 show ob (yx _ _ [.own (.ins 5 [] []),.val (.str r),.val (.lst a),.val (.lst b)] h) inK=_
 walk_at "px"
 rw [show (h++[Nd.lst a]).length=h.length+1 by simp]
theorem yAI {a b:List PV}:ycZ [.lst a,.lst b] h=some (.ins 6 ["parts","others"] [.loc h.length,.loc (h.length+1)],h++[.lst a]++[.lst b]):=by
 unfold ycZ
 rw [yvA]
 show ob (yx _ _ [.own (.ins 6 [] []),.val (.lst a),.val (.lst b)] h) inK=_
 walk_at "px"
 rw [show (h++[Nd.lst a]).length=h.length+1 by simp]
theorem yJo {nm r:Str}{a b:List PV}:yew [.lst a,.str nm,.str r,.lst b] h=some (.ins 7 ["parts","name","slot","others"] [.loc h.length,.str nm,.str r,.loc (h.length+1)],h++[.lst a]++[.lst b]):=by
 unfold yew
 rw [yvA]
 show ob (yx _ _ [.own (.ins 7 [] []),.val (.lst a),.val (.str nm),.val (.str r),.val (.lst b)] h) inK=_
 walk_at "px"
 rw [show (h++[Nd.lst a]).length=h.length+1 by simp]
noncomputable def LV (h:AH) (q:Nat->Prop) (v:PV):T->Prop
 | .if_ r a b=>∃ n m k,v=.loc n/\h[n]?=some (.ins 5 ["slot","parts","others"] [.str r,.loc m,.loc k])/\h[m]?=some (.lst (yO a))/\h[k]?=some (.lst (yO b))/\q n/\q m/\q k
 | .either a b=>∃ n m k,v=.loc n/\h[n]?=some (.ins 6 ["parts","others"] [.loc m,.loc k])/\h[m]?=some (.lst (yO a))/\h[k]?=some (.lst (yO b))/\q n/\q m/\q k
 | .try_ a nm r b=>∃ n m k,v=.loc n/\h[n]?=some (.ins 7 ["parts","name","slot","others"] [.loc m,.str nm,.str r,.loc k])/\h[m]?=some (.lst (yO a))/\h[k]?=some (.lst (yO b))/\q n/\q m/\q k
 | t=>v=ybW t
theorem LV.mono {h h':AH}{q q':Nat->Prop}{v:PV}{t:T}(l:LV h q v t) (e:∀ i x,q i->h[i]?=some x->h'[i]?=some x) (f:∀ i x,q i->h[i]?=some x->q' i):LV h' q' v t:=by
 cases t with
 | if_ r a b=>obtain ⟨n,m,k,e0,e1,e2,e3,q1,q2,q3⟩:=l;exact ⟨n,m,k,e0,e n _ q1 e1,e m _ q2 e2,e k _ q3 e3,f n _ q1 e1,f m _ q2 e2,f k _ q3 e3⟩
 | either a b=>obtain ⟨n,m,k,e0,e1,e2,e3,q1,q2,q3⟩:=l;exact ⟨n,m,k,e0,e n _ q1 e1,e m _ q2 e2,e k _ q3 e3,f n _ q1 e1,f m _ q2 e2,f k _ q3 e3⟩
 | try_ a nm r b=>obtain ⟨n,m,k,e0,e1,e2,e3,q1,q2,q3⟩:=l;exact ⟨n,m,k,e0,e n _ q1 e1,e m _ q2 e2,e k _ q3 e3,f n _ q1 e1,f m _ q2 e2,f k _ q3 e3⟩
 | base=>exact l
 | let_ r m=>exact l
 | reckon w r s u=>exact l
 | take r s=>exact l
 | put r s=>exact l
 | throw r s=>exact l
 | wait=>exact l
theorem three {g:AH}{x y z:Nd}:(g++[x]++[y]++[z])[g.length]?=some x/\(g++[x]++[y]++[z])[g.length+1]?=some y/\(g++[x]++[y]++[z])[g.length+2]?=some z:=by
 refine ⟨?_,?_,?_⟩
 .simp
 .simp
 .simp
theorem yJp (ho:o<h.length) (hl:ws.length<=100000) {rest:List Str}{r:Str}{a b:List T}(g:gdT (.if_ r a b)) (f:yyI (.if_ r a b)) (hd:max (rdL a) (rdL b)+1<=8) (hf:max (ybR a) (ybR b)<=10) (e:ws.drop k=r::(wsd (wdL a)++("else":Str)::(wsd (wdL b)++rest))) :
  ∃ v ext,yda [.loc o,.int 1] (hR h o ws k)=some (v,hR (h++ext) o ws (k+1+(wsd (wdL a)).length+1+(wsd (wdL b)).length))/\LV (hR (h++ext) o ws (k+1+(wsd (wdL a)).length+1+(wsd (wdL b)).length)) (fun i=>h.length<=i) v (.if_ r a b):=by
 have e1:=(ymG e).2.2
 have e2:=ygq e1
 have e3:=(ymG e2).2.2
 have G:=ymH ho hl 43
 refine ⟨.loc (h.length+2),[.lst (yO a)]++[.lst (yO b)]++[.ins 5 ["slot","parts","others"] [.str r,.loc h.length,.loc (h.length+1)]],?_,?_⟩
 .unfold yda
  rw [ybp]
  show ob (yx _ _ [.val (.loc o),.val (.int 1),.no,.no,.no] (hR h o ws k)) fnK=_
  walk_at "px"
  rw [mR ho (by rfl') rfl rfl,ybC g.1 ho hl e]
  walk_at "px"
  rw [mR ho (by rfl') rfl rfl,yhH (n:=43) G ho hl g.2.1 f.1 f.2.2.1 (by omega) (by omega) e1]
  walk_at "px"
  rw [mR ho (by rfl') rfl rfl,yjz ho hl e2]
  walk_at "px"
  rw [mR ho (by rfl') rfl rfl,yhH (n:=43) G ho hl g.2.2 f.2.1 f.2.2.2 (by omega) (by omega) e3]
  simp_all? only [yLV]
  rw [<- yny ho]
  simp only [ynz,List.length_append,List.length_singleton,List.append_assoc]
 .rw [<- yny ho,<- List.append_assoc,<- List.append_assoc]
  obtain ⟨q1,q2,q3⟩:=three (g:=hR h o ws (k+1+(wsd (wdL a)).length+1+(wsd (wdL b)).length)) (x:=.lst (yO a)) (y:=.lst (yO b)) (z:=.ins 5 ["slot","parts","others"] [.str r,.loc h.length,.loc (h.length+1)])
  rw [ynz] at q1 q2 q3
  exact ⟨_,_,_,rfl,q3,q1,q2,by omega,by omega,by omega⟩
theorem yyg (ho:o<h.length) (hl:ws.length<=100000) {rest:List Str}{a b:List T}(g:gdT (.either a b)) (f:yyI (.either a b)) (hd:max (rdL a) (rdL b)+1<=8) (hf:max (ybR a) (ybR b)<=10) (e:ws.drop k=wsd (wdL a)++("or":Str)::(wsd (wdL b)++rest)) :
  ∃ v ext,ybY [.loc o,.int 1] (hR h o ws k)=some (v,hR (h++ext) o ws (k+(wsd (wdL a)).length+1+(wsd (wdL b)).length))/\LV (hR (h++ext) o ws (k+(wsd (wdL a)).length+1+(wsd (wdL b)).length)) (fun i=>h.length<=i) v (.either a b):=by
 have e2:=ygq e
 have e3:=(ymG e2).2.2
 have G:=ymH ho hl 43
 refine ⟨.loc (h.length+2),[.lst (yO a)]++[.lst (yO b)]++[.ins 6 ["parts","others"] [.loc h.length,.loc (h.length+1)]],?_,?_⟩
 .unfold ybY
  rw [ybp]
  show ob (yx _ _ [.val (.loc o),.val (.int 1),.no,.no] (hR h o ws k)) fnK=_
  walk_at "px"
  rw [mR ho (by rfl') rfl rfl,yhH (n:=43) G ho hl g.1 f.1 f.2.2.1 (by omega) (by omega) e]
  walk_at "px"
  rw [mR ho (by rfl') rfl rfl,yjz ho hl e2]
  walk_at "px"
  rw [mR ho (by rfl') rfl rfl,yhH (n:=43) G ho hl g.2 f.2.1 f.2.2.2 (by omega) (by omega) e3]
  simp_all? only [yAI]
  rw [<- yny ho]
  simp only [ynz,List.length_append,List.length_singleton,List.append_assoc]
 .rw [<- yny ho,<- List.append_assoc,<- List.append_assoc]
  obtain ⟨q1,q2,q3⟩:=three (g:=hR h o ws (k+(wsd (wdL a)).length+1+(wsd (wdL b)).length)) (x:=.lst (yO a)) (y:=.lst (yO b)) (z:=.ins 6 ["parts","others"] [.loc h.length,.loc (h.length+1)])
  rw [ynz] at q1 q2 q3
  exact ⟨_,_,_,rfl,q3,q1,q2,by omega,by omega,by omega⟩
theorem yGl (ho:o<h.length) (hl:ws.length<=100000) {rest:List Str}{nm r:Str}{a b:List T}(g:gdT (.try_ a nm r b)) (f:yyI (.try_ a nm r b)) (hd:max (rdL a) (rdL b)+1<=8) (hf:max (ybR a) (ybR b)<=10) (e:ws.drop k=wsd (wdL a)++("on":Str)::nm::r::(wsd (wdL b)++rest)) :
  ∃ v ext,ycI [.loc o,.int 1] (hR h o ws k)=some (v,hR (h++ext) o ws (k+(wsd (wdL a)).length+1+1+1+(wsd (wdL b)).length))/\LV (hR (h++ext) o ws (k+(wsd (wdL a)).length+1+1+1+(wsd (wdL b)).length)) (fun i=>h.length<=i) v (.try_ a nm r b):=by
 have e2:=ygq e
 have e3:=(ymG e2).2.2
 have e4:=(ymG e3).2.2
 have e5:=(ymG e4).2.2
 have G:=ymH ho hl 43
 refine ⟨.loc (h.length+2),[.lst (yO a)]++[.lst (yO b)]++[.ins 7 ["parts","name","slot","others"] [.loc h.length,.str nm,.str r,.loc (h.length+1)]],?_,?_⟩
 .unfold ycI
  rw [ybp]
  show ob (yx _ _ [.val (.loc o),.val (.int 1),.no,.no,.no,.no] (hR h o ws k)) fnK=_
  walk_at "px"
  rw [mR ho (by rfl') rfl rfl,yhH (n:=43) G ho hl g.2.2.1 f.1 f.2.2.1 (by omega) (by omega) e]
  walk_at "px"
  rw [mR ho (by rfl') rfl rfl,yjz ho hl e2]
  walk_at "px"
  rw [mR ho (by rfl') rfl rfl,ykg g.1 ho hl e3]
  walk_at "px"
  rw [mR ho (by rfl') rfl rfl,ybC g.2.1 ho hl e4]
  walk_at "px"
  rw [mR ho (by rfl') rfl rfl,yhH (n:=43) G ho hl g.2.2.2 f.2.1 f.2.2.2 (by omega) (by omega) e5]
  simp_all? only [yJo]
  rw [<- yny ho]
  simp only [ynz,List.length_append,List.length_singleton,List.append_assoc]
 .rw [<- yny ho,<- List.append_assoc,<- List.append_assoc]
  obtain ⟨q1,q2,q3⟩:=three (g:=hR h o ws (k+(wsd (wdL a)).length+1+1+1+(wsd (wdL b)).length)) (x:=.lst (yO a)) (y:=.lst (yO b)) (z:=.ins 7 ["parts","name","slot","others"] [.loc h.length,.str nm,.str r,.loc (h.length+1)])
  rw [ynz] at q1 q2 q3
  exact ⟨_,_,_,rfl,q3,q1,q2,by omega,by omega,by omega⟩
end
section
variable {o:Nat}{ws:List Str}
theorem ywa {h:AH}{k:Nat}(ho:o<h.length) (hl:ws.length<=100000) {t:T}{rest:List Str}(g:gdT t) (hp:plain t) (e:ws.drop k=wdT t++rest):yC [.loc o,.int 0] (hR h o ws k)=some (ybW t,hR h o ws (k+(wdT t).length)):=by
 obtain ⟨w,tl,ew,_⟩:=fw g
 have e0:ws.drop k=w::(tl++rest):=by rw [e,ew];rfl
 have nw:(w = "if")=False/\(w = "either")=False/\(w = "try")=False:=by
  cases t with
  | base=>exact g.elim
  | if_ r a b=>exact hp.elim
  | either a b=>exact hp.elim
  | try_ a nm r b=>exact hp.elim
  | reckon w a b c=>cases ew;exact (yok g.1).2.2.2.2.2
  | let_ r n=>cases ew;exact ⟨ypq,yjc,yns⟩
  | take r s=>cases ew;exact ⟨ynt,yhX,ylS⟩
  | put r s=>cases ew;exact ⟨ypr,yjd,ynu⟩
  | throw r s=>cases ew;exact ⟨ylT,yhe,yke⟩
  | wait=>cases ew;exact ⟨ynv,yhY,ylU⟩
 unfold yC
 rw [ybp]
 show ob (yx _ _ [.val (.loc o),.val (.int 0),.no] (hR h o ws k)) fnK=_
 walk_at "px"
 rw [mR ho (by rfl') rfl rfl,yfG ho hl e0]
 simp_all? only [nw.1,nw.2.1,nw.2.2,↓reduceIte]
 rw [mR ho (by rfl') rfl rfl,ymu g hp ew ho hl (ymG e0).2.2]
 walk_at "px"
 rw [ew,List.length_cons,show k+(tl.length+1)=k+1+tl.length by omega]
theorem yxl {h:AH}{k:Nat}(ho:o<h.length) (hl:ws.length<=100000) {t:T}{rest:List Str}(g:gdT t) (f:yyI t) (hd:rdT t<=8) (hf:ymt t<=11) (e:ws.drop k=wdT t++rest) :
  ∃ v ext,yC [.loc o,.int 0] (hR h o ws k)=some (v,hR (h++ext) o ws (k+(wdT t).length))/\LV (hR (h++ext) o ws (k+(wdT t).length)) (fun i=>h.length<=i) v t:=by
 have plain_:plain t->LV (hR h o ws (k+(wdT t).length)) (fun i=>h.length<=i) (ybW t) t->∃ v ext,yC [.loc o,.int 0] (hR h o ws k)=some (v,hR (h++ext) o ws (k+(wdT t).length))/\LV (hR (h++ext) o ws (k+(wdT t).length)) (fun i=>h.length<=i) v t:=fun hp lv=>⟨ybW t,[],by rw [List.append_nil];exact ywa ho hl g hp e,by rw [List.append_nil];exact lv⟩
 cases t with
 | if_ r a b =>
  have h1:1+max (ybR a) (ybR b)<=11:=hf
  have h2:max 0 (max (1+rdL a) (1+rdL b))<=8:=hd
  have e:ws.drop k=("if":Str)::(r::(wsd (wdL a)++("else":Str)::(wsd (wdL b)++rest))):=by rw [e];simp [wdT]
  obtain ⟨v,ext,e1,lv⟩:=yJp ho hl g f (by omega) (by omega) (ymG e).2.2
  have el:k+1+1+(wsd (wdL a)).length+1+(wsd (wdL b)).length=k+(wdT (.if_ r a b)).length:=by simp [wdT];omega
  rw [el] at e1 lv
  refine ⟨v,ext,?_,lv⟩
  unfold yC
  rw [ybp]
  show ob (yx _ _ [.val (.loc o),.val (.int 0),.no] (hR h o ws k)) fnK=_
  walk_at "px"
  rw [mR ho (by rfl') rfl rfl,yfG ho hl e]
  walk_at "px"
  rw [mR ho (by rfl') rfl rfl]
  simp_all? only [e1]
 | either a b =>
  have h1:1+max (ybR a) (ybR b)<=11:=hf
  have h2:max 0 (max (1+rdL a) (1+rdL b))<=8:=hd
  have e:ws.drop k=("either":Str)::(wsd (wdL a)++("or":Str)::(wsd (wdL b)++rest)):=by rw [e];simp [wdT]
  obtain ⟨v,ext,e1,lv⟩:=yyg ho hl g f (by omega) (by omega) (ymG e).2.2
  have el:k+1+(wsd (wdL a)).length+1+(wsd (wdL b)).length=k+(wdT (.either a b)).length:=by simp [wdT];omega
  rw [el] at e1 lv
  refine ⟨v,ext,?_,lv⟩
  unfold yC
  rw [ybp]
  show ob (yx _ _ [.val (.loc o),.val (.int 0),.no] (hR h o ws k)) fnK=_
  walk_at "px"
  rw [mR ho (by rfl') rfl rfl,yfG ho hl e]
  simp_all? only [yfP,↓reduceIte]
  rw [mR ho (by rfl') rfl rfl]
  simp_all? only [e1]
 | try_ a nm r b =>
  have h1:1+max (ybR a) (ybR b)<=11:=hf
  have h2:max 0 (max (1+rdL a) (1+rdL b))<=8:=hd
  have e:ws.drop k=("try":Str)::(wsd (wdL a)++("on":Str)::nm::r::(wsd (wdL b)++rest)):=by rw [e];simp [wdT]
  obtain ⟨v,ext,e1,lv⟩:=yGl ho hl g f (by omega) (by omega) (ymG e).2.2
  have el:k+1+(wsd (wdL a)).length+1+1+1+(wsd (wdL b)).length=k+(wdT (.try_ a nm r b)).length:=by simp [wdT];omega
  rw [el] at e1 lv
  refine ⟨v,ext,?_,lv⟩
  unfold yC
  rw [ybp]
  show ob (yx _ _ [.val (.loc o),.val (.int 0),.no] (hR h o ws k)) fnK=_
  walk_at "px"
  rw [mR ho (by rfl') rfl rfl,yfG ho hl e]
  simp_all? only [ykf,yhu,↓reduceIte]
  rw [mR ho (by rfl') rfl rfl]
  simp_all? only [e1]
 | base=>exact g.elim
 | let_ r m=>exact plain_ trivial rfl
 | reckon w r s u=>exact plain_ trivial rfl
 | take r s=>exact plain_ trivial rfl
 | put r s=>exact plain_ trivial rfl
 | throw r s=>exact plain_ trivial rfl
 | wait=>exact plain_ trivial rfl
end
theorem yAJ {h:AH}{m:Nat}{x:Nd}(e:h[m]?=some x):m<h.length:=(List.getElem?_eq_some_iff.mp e).1
section
variable {o p:Nat}{ws:List Str}
def LVs (h:AH) (q:Nat->Prop):List PV->List T->Prop
 | [],[]=>True
 | v::vs,t::ts=>LV h q v t/\LVs h q vs ts
 | _,_=>False
theorem LVs.mono {h h':AH}{q q':Nat->Prop}:∀ {vs:List PV}{ts:List T},LVs h q vs ts->(∀ i x,q i->h[i]?=some x->h'[i]?=some x)->(∀ i x,q i->h[i]?=some x->q' i)->LVs h' q' vs ts
 | [],[],_,_,_=>trivial
 | _::_,_::_,l,e,f=>⟨l.1.mono e f,LVs.mono l.2 e f⟩
 | [],_::_,l,_,_=>l.elim
 | _::_,[],l,_,_=>l.elim
theorem LVs.snoc {h:AH}{q:Nat->Prop}{v:PV}{t:T}:∀ {vs:List PV}{ts:List T},LVs h q vs ts->LV h q v t->LVs h q (vs++[v]) (ts++[t])
 | [],[],_,l=>⟨l,trivial⟩
 | _::_,_::_,l,l'=>⟨l.1,LVs.snoc l.2 l'⟩
 | [],_::_,l,_=>l.elim
 | _::_,[],l,_=>l.elim
theorem LVs.len {h:AH}{q:Nat->Prop}:∀ {vs:List PV}{ts:List T},LVs h q vs ts->vs.length=ts.length
 | [],[],_=>rfl
 | _::_,_::_,l=>by rw [List.length_cons,List.length_cons,LVs.len l.2]
 | [],_::_,l=>l.elim
 | _::_,[],l=>l.elim
theorem yAK {h:AH}{k i:Nat}(hi:i≠o):(hR h o ws k)[i]?=h[i]?:=by unfold hR;exact List.getElem?_set_ne (Ne.symm hi)
noncomputable def yrN:XS:=yx (yiW (yA 10 "pass_over" yp (yk 0) (yd (xC (.str ";")) (yu)))) (yiW (xBM ymz (ysj) (yk 2) (yd (yA 10 "part_taken" yC (yk 0) (yd (yk 1) (yu))) (yu))))
structure LS (h:AH) (o p:Nat) (ws:List Str) (k:Nat) (vs:List PV) (us:List T):Prop where
 ho:o<h.length
 hp:p<h.length
 ne:p≠o
 at_:h[p]?=some (.lst vs)
 lv:LVs (hR h o ws k) (fun i=>i≠o/\i≠p) vs us
theorem yLW {h:AH}{k:Nat}{vs:List PV}{us:List T}{t:T}{rest:List Str}(s:LS h o p ws k vs us) (hl:ws.length<=100000) (g:gdT t) (f:yyI t) (hd:rdT t<=8) (hf:ymt t<=11) (hv:vs.length<=1000) (e:ws.drop k=(";":Str)::(wdT t++rest)) :
  ∃ h' v,yrN [.val (.loc o),.val (.int 0),.val (.loc p)] (hR h o ws k)=some (.nx [.val (.loc o),.val (.int 0),.val (.loc p)],hR h' o ws (k+1+(wdT t).length))/\LS h' o p ws (k+1+(wdT t).length) (vs++[v]) (us++[t]):=by
 have ho:=s.ho
 have e1:=(ymG e).2.2
 obtain ⟨v,ext,ep,lv⟩:=yxl ho hl g f hd hf e1
 have a0:∀ j,(hR h o ws j)[p]?=some (.lst vs):=fun j=>by rw [yAK s.ne];exact s.at_
 have a1:(h++ext)[p]?=some (.lst vs):=by rw [List.getElem?_append_left s.hp];exact s.at_
 have a2:∀ j,(hR (h++ext) o ws j)[p]?=some (.lst vs):=fun j=>by rw [yAK s.ne];exact a1
 have lt:p<(h++ext).length:=yAJ a1
 refine ⟨(h++ext).set p (.lst (vs++[v])),v,?_,⟨by rw [List.length_set,List.length_append];omega,by rw [List.length_set];exact lt,s.ne,List.getElem?_set_self lt,?_⟩⟩
 .unfold yrN
  walk_at "px"
  rw [mR ho (by rfl') rfl rfl,yjz ho hl e]
  walk_at "px"
  rw [ynl (a0 _),if_pos rfl,mR ho (by rfl') rfl rfl,ep]
  simp_all? only [yzT (a2 _) (show vs.length<100000 by omega)]
  unfold hR
  rw [List.set_comm _ _ (Ne.symm s.ne)]
 .have st:∀ i x,i≠o->i≠p->(hR (h++ext) o ws (k+1+(wdT t).length))[i]?=some x->(hR ((h++ext).set p (.lst (vs++[v]))) o ws (k+1+(wdT t).length))[i]?=some x:=fun i x h1 h2 q=>by
   rw [yAK h1] at q ⊢
   rw [List.getElem?_set_ne (Ne.symm h2)];exact q
  refine (s.lv.mono (fun i x q ei=>st i x q.1 q.2 ?_) fun i x q _=>q).snoc (lv.mono (fun i x q ei=>st i x (by omega) (by have:=s.hp;omega) ei) fun i x q _=>⟨by omega,by have:=s.hp;omega⟩)
  rw [yAK q.1] at ei ⊢
  rw [List.getElem?_append_left (yAJ ei)];exact ei
theorem yJq {rest:List Str}(hr:ends rest) (hl:ws.length<=100000):∀ (r:List T) (h:AH) (vs:List PV) (us:List T) (k fu:Nat),LS h o p ws k vs us->gdL r->yxc r->rdL r<=8->ybR r<=11->r.length<fu->vs.length+r.length<=1000->ws.drop k=wdR r++rest ->
  ∃ h' vs',whl ylj yrN fu [.val (.loc o),.val (.int 0),.val (.loc p)] (hR h o ws k)=some (.nx [.val (.loc o),.val (.int 0),.val (.loc p)],hR h' o ws (k+(wdR r).length))/\LS h' o p ws (k+(wdR r).length) vs' (us++r)
 | [],h,vs,us,k,fu+1,s,_,_,_,_,_,_,e=>by
  have ho:=s.ho
  have e:ws.drop k=rest:=e
  have c:ylj [.val (.loc o),.val (.int 0),.val (.loc p)] (hR h o ws k)=some (false,hR h o ws k):=by
   unfold ylj
   walk_at "px"
   rw [mR ho (by rfl') rfl rfl]
   rcases hr with rfl|⟨r,rfl⟩
   .rw [ylV ho hl e]
    walk_at "px"
    rfl
   .rw [ygp ho hl e]
    simp_all? only [yAw]
  refine ⟨h,vs,?_,by rw [List.append_nil];exact s⟩
  rw [ypp,c,yha,if_neg (by intro z;cases z)]
  rfl
 | t::r,h,vs,us,k,fu+1,s,g,f,hd,hf,hu,ha,e=>by
  have ho:=s.ho
  have e:ws.drop k=(";":Str)::(wdT t++wdR r++rest):=e
  have hd:max (rdT t) (rdL r)<=8:=hd
  have hf:max (ymt t) (ybR r)<=11:=hf
  have hu:r.length+1<fu+1:=hu
  have ha:vs.length+(r.length+1)<=1000:=ha
  rw [List.append_assoc] at e
  have e1:=(ymG e).2.2
  have c:ylj [.val (.loc o),.val (.int 0),.val (.loc p)] (hR h o ws k)=some (true,hR h o ws k):=by
   unfold ylj
   walk_at "px"
   rw [mR ho (by rfl') rfl rfl,ygp ho hl e]
   walk_at "px"
  obtain ⟨h1,v,e2,s1⟩:=yLW s hl g.1 f.1 (by omega) (by omega) (by omega) e
  obtain ⟨h2,vs',e3,s2⟩:=yJq hr hl r h1 (vs++[v]) (us++[t]) (k+1+(wdT t).length) fu s1 g.2 f.2 (by omega) (by omega) (by omega) (by rw [List.length_append,List.length_singleton];omega) (ygq e1)
  have el:k+1+(wdT t).length+(wdR r).length=k+(wdR (t::r)).length:=by
   show _=k+((wdT t++wdR r).length+1)
   rw [List.length_append];omega
  rw [el] at e3 s2
  refine ⟨h2,vs',?_,by rw [show us++t::r=us++[t]++r by simp];exact s2⟩
  rw [ypp,c,yha,if_pos rfl,e2,yha]
  exact e3
theorem yDa {h:AH}{ts:List T}(ho:o<h.length) (hl:ws.length<=100000) (g:gdL ts) (f:yxc ts) (hc:ts.length<=90) (hd:rdL ts<=8) (hf:ybR ts<=11) (e:ws.drop 0=wdL ts++[]) :
  ∃ h' p vs,ycB [.loc o,.int 0] (hR h o ws 0)=some (.loc p,hR h' o ws (wdL ts).length)/\LS h' o p ws (wdL ts).length vs ts:=by
 unfold ycB
 rw [ybp]
 show ∃ h' p vs,ob (yx _ (yx _ (yx (yoE 100 ylj yrN) _)) [.val (.loc o),.val (.int 0),.no] (hR h o ws 0)) fnK=_/\_
 cases ts with
 | nil =>
  have e:ws.drop 0=[]:=e
  refine ⟨h++[.lst []],h.length,[],?_,⟨by simp;omega,by simp,by omega,by simp,trivial⟩⟩
  walk_at "px"
  rw [mR ho (by rfl') rfl rfl,ylV ho hl e]
  walk_at "px"
  rw [if_pos (show isN PV.non=true from rfl),yny ho,ynz];rfl
 | cons t r =>
  have e:ws.drop 0=wdT t++wdR r++[]:=e
  have hd:max (rdT t) (rdL r)<=8:=hd
  have hf:max (ymt t) (ybR r)<=11:=hf
  have hc:r.length+1<=90:=hc
  obtain ⟨w,tl,ew,nw⟩:=fw g.1
  have e0:ws.drop 0=w::(tl++wdR r++[]):=by rw [e,ew];rfl
  rw [List.append_assoc] at e
  obtain ⟨v,ext,ep,lv⟩:=yxl ho hl g.1 f.1 (by omega) (by omega) e
  have s0:LS (h++ext++[.lst [v]]) o (h++ext).length ws (0+(wdT t).length) [v] [t]:=by
   have ho':o<(h++ext).length:=by rw [List.length_append];omega
   refine ⟨by simp;omega,by simp,by omega,by simp,⟨lv.mono (fun i x q ei=>?_) fun i x q ei=>⟨by omega,?_⟩,trivial⟩⟩
   .rw [<- yny ho',List.getElem?_append_left (yAJ ei)];exact ei
   .have:=yAJ ei
    rw [ynz] at this;omega
  obtain ⟨h2,vs',e3,s2⟩:=yJq (.inl rfl) hl r _ [v] [t] (0+(wdT t).length) 100 s0 g.2 f.2 (by omega) (by omega) (by omega) (by rw [List.length_singleton];omega) (ygq e)
  have el:0+(wdT t).length+(wdR r).length=(wdL (t::r)).length:=by
   show _=(wdT t++wdR r).length
   rw [List.length_append];omega
  rw [el] at e3 s2
  refine ⟨h2,(h++ext).length,vs',?_,s2⟩
  walk_at "px"
  rw [mR ho (by rfl') rfl rfl,ygp ho hl e0]
  walk_at "px"
  rw [if_neg (by intro z;cases z),mR ho (by rfl') rfl rfl,ygp ho hl e0]
  simp_all? only [nw,↓reduceIte]
  rw [mR ho (by rfl') rfl rfl,ep]
  walk_at "px"
  have ho':o<(h++ext).length:=by rw [List.length_append];omega
  rw [yny ho',ynz,show ∀ ρ g,yoE 100 ylj yrN ρ g=whl ylj yrN 100 ρ g from fun _ _=>rfl,e3]
  walk_at "px"
end
mutual
theorem yrO:∀ t:T,clean (ybW t)=true
 | .base=>rfl
 | .let_ ..=>rfl
 | .reckon ..=>rfl
 | .take ..=>rfl
 | .put ..=>rfl
 | .throw ..=>rfl
 | .wait=>rfl
 | .if_ r a b=>by
  show (true && (yeI (yO a) && (yeI (yO b) && true)))=true
  rw [yck a,yck b];rfl
 | .either a b=>by
  show (yeI (yO a) && (yeI (yO b) && true))=true
  rw [yck a,yck b];rfl
 | .try_ a nm r b=>by
  show (yeI (yO a) && (true && (true && (yeI (yO b) && true))))=true
  rw [yck a,yck b];rfl
theorem yck:∀ ts:List T,yeI (yO ts)=true
 | []=>rfl
 | t::r=>by
  show (clean (ybW t) && yeI (yO r))=true
  rw [yrO t,yck r];rfl
end
mutual
theorem yAL:∀ t:T,clean (ygj t)=true
 | .base=>rfl
 | .let_ ..=>rfl
 | .reckon ..=>rfl
 | .take ..=>rfl
 | .put ..=>rfl
 | .throw ..=>rfl
 | .wait=>rfl
 | .if_ r a b=>by
  show (true && (true && (yeI (yz a) && (yeI (yz b) && true))))=true
  rw [yge a,yge b];rfl
 | .either a b=>by
  show (true && (yeI (yz a) && (yeI (yz b) && true)))=true
  rw [yge a,yge b];rfl
 | .try_ a nm r b=>by
  show (true && (yeI (yz a) && (true && (true && (yeI (yz b) && true)))))=true
  rw [yge a,yge b];rfl
theorem yge:∀ ts:List T,yeI (yz ts)=true
 | []=>rfl
 | t::r=>by
  show (clean (ygj t) && yeI (yz r))=true
  rw [yAL t,yge r];rfl
end
section
variable {h:AH}{p:Nat}
theorem yjN {x:PV}(n:Nat) (c:clean x=true):see n h x=some x:=by
 cases n with
 | zero=>show (if clean x=true then some x else none)=_;rw [if_pos c]
 | succ n =>
  unfold see
  split
  .cases c
  .rw [if_pos c]
theorem yeQ {n:Nat}:∀ {xs:List PV},yeI xs=true->ydi (see n h) xs=some xs
 | [],_=>rfl
 | x::xs,c=>by
  have c:(clean x && yeI xs)=true:=c
  rw [Bool.and_eq_true] at c
  unfold ydi
  rw [yjN n c.1,yeQ c.2]
theorem yln {n m:Nat}{xs ys:List PV}(e:h[m]?=some (.lst xs)) (s:ydi (see n h) xs=some ys):see (n+1) h (.loc m)=some (.lst ys):=by
 unfold see
 simp only [e,s,Option.map_some]
theorem yJr {q:Nat->Prop}{v:PV}{t:T}(g:gdT t) (l:LV h q v t):see 2 h v=some (ybW t):=by
 have pl:v=ybW t->see 2 h v=some (ybW t):=fun e=>by rw [e];exact yjN 2 (yrO t)
 cases t with
 | base=>exact g.elim
 | let_ r m=>exact pl l
 | reckon w r s u=>exact pl l
 | take r s=>exact pl l
 | put r s=>exact pl l
 | throw r s=>exact pl l
 | wait=>exact pl l
 | if_ r a b =>
  obtain ⟨n,m,k,rfl,e1,e2,e3,_⟩:=l
  have s1:=yln (n:=0) e2 (yeQ (yck a))
  have s2:=yln (n:=0) e3 (yeQ (yck b))
  unfold see
  simp only [e1]
  unfold ydi ydi ydi ydi
  rw [yjN 1 (x:=.str r) rfl,s1,s2];rfl
 | either a b =>
  obtain ⟨n,m,k,rfl,e1,e2,e3,_⟩:=l
  have s1:=yln (n:=0) e2 (yeQ (yck a))
  have s2:=yln (n:=0) e3 (yeQ (yck b))
  unfold see
  simp only [e1]
  unfold ydi ydi ydi
  rw [s1,s2];rfl
 | try_ a nm r b =>
  obtain ⟨n,m,k,rfl,e1,e2,e3,_⟩:=l
  have s1:=yln (n:=0) e2 (yeQ (yck a))
  have s2:=yln (n:=0) e3 (yeQ (yck b))
  unfold see
  simp only [e1]
  unfold ydi ydi ydi ydi ydi
  rw [yjN 1 (x:=.str nm) rfl,yjN 1 (x:=.str r) rfl,s1,s2];rfl
theorem ywb {q:Nat->Prop}:∀ {vs:List PV}{ts:List T},gdL ts->LVs h q vs ts->ydi (see 2 h) vs=some (yO ts)
 | [],[],_,_=>rfl
 | v::vs,t::ts,g,l=>by
  unfold ydi
  rw [yJr g.1 l.1,ywb g.2 l.2];rfl
 | [],_::_,_,l=>l.elim
 | _::_,[],_,l=>l.elim
theorem yDb {ts:List T}(g:OkL ts):∃ h' p vs,ynq [.str (yiX ts)] h=some (.loc p,h')/\h'[p]?=some (.lst vs)/\LVs h' (fun i=>i≠p) vs ts:=by
 have hw:=g.w
 have hwl:=ylm ts
 have hd:=g.dep
 have hl:=g.lg
 have rd:=g.rd
 have ho:h.length<(h++[rdr (wdL ts) 0]).length:=by simp
 have e0:h++[rdr (wdL ts) 0]=hR (h++[rdr (wdL ts) 0]) h.length (wdL ts) 0:=by unfold hR;simp
 have e1:(wdL ts).drop 0=wdL ts++[]:=by simp
 have hdr:(wdL ts).drop (wdL ts).length=[]:=by simp
 obtain ⟨h2,p,vs,e2,s⟩:=yDa ho (show (wdL ts).length<=100000 by omega) g.gd (yjA g.gd (by omega)) (by have:=g.len;omega) rd (by omega) e1
 have ap:(hR h2 h.length (wdL ts) (wdL ts).length)[p]?=some (.lst vs):=by rw [yAK s.ne];exact s.at_
 refine ⟨hR h2 h.length (wdL ts) (wdL ts).length,p,vs,?_,ap,s.lv.mono (fun _ _ _ e=>e) fun _ _ q _=>q.2⟩
 unfold ynq
 rw [ybp]
 show ob (yx _ _ [.val (.str (yiX ts)),.no,.no] h) fnK=_
 walk_at "px"
 rw [yqa g]
 walk_at "px"
 rw [show yci [PV.lst (List.map PV.str (wdL ts))] h=some (rdr (wdL ts) 0,h) from rfl]
 walk_at "px"
 rw [mR (ws:=wdL ts) (k:=0) ho (by rfl') (by rw [<- e0];rfl) rfl,e2]
 walk_at "px"
 rw [mR s.ho (by rfl') rfl rfl,ylV s.ho (by omega) hdr]
 walk_at "px"
 rw [if_neg (by intro z;cases z),ywR (xs:=[.loc p]) (ys:=[.lst (yO ts)]) rfl (by unfold ydi ydi;rw [yln ap (ywb g.gd s.lv)]) (ydV (n:=44) (h:=[]) (ypT 44) (by omega) (by omega)) rfl]
 walk_at "px"
 rw [if_neg (by omega)]
end
section
noncomputable def SH (h:AH) (p B:Nat) (v:PV):T->Prop
 | .if_ r _ _=>∃ n m k,v=.loc n/\h[n]?=some (.ins 5 ["slot","parts","others"] [.str r,.loc m,.loc k])/\(∃ x,h[m]?=some (.lst x)/\x.length<=B)/\(∃ y,h[k]?=some (.lst y)/\y.length<=B)/\m≠p/\k≠p
 | .either _ _=>∃ n m k,v=.loc n/\h[n]?=some (.ins 6 ["parts","others"] [.loc m,.loc k])/\(∃ x,h[m]?=some (.lst x)/\x.length<=B)/\(∃ y,h[k]?=some (.lst y)/\y.length<=B)/\m≠p/\k≠p
 | .try_ _ nm r _=>∃ n m k,v=.loc n/\h[n]?=some (.ins 7 ["parts","name","slot","others"] [.loc m,.str nm,.str r,.loc k])/\(∃ x,h[m]?=some (.lst x)/\x.length<=B)/\(∃ y,h[k]?=some (.lst y)/\y.length<=B)/\m≠p/\k≠p
 | t=>v=ybW t
theorem ymI {h:AH}{j m B B':Nat}{x y:List PV}(hj:h[j]?=some (.lst x)) (hy:y.length<=B') (hb:B<=B') (l:∃ z,h[m]?=some (.lst z)/\z.length<=B):∃ z,(h.set j (.lst y))[m]?=some (.lst z)/\z.length<=B':=by
 by_cases e:j=m
 .subst e
  exact ⟨y,List.getElem?_set_self (yAJ hj),hy⟩
 .obtain ⟨z,h1,h2⟩:=l
  exact ⟨z,by rw [List.getElem?_set_ne e];exact h1,by omega⟩
theorem ysy {h:AH}{j n k:Nat}{x y:List PV}{ns:List Str}{xs:List PV}(hj:h[j]?=some (.lst x)) (hn:h[n]?=some (.ins k ns xs)):(h.set j (.lst y))[n]?=some (.ins k ns xs):=by
 have:j≠n:=fun e=>by subst e;rw [hj] at hn;cases hn
 rw [List.getElem?_set_ne this];exact hn
theorem SH.set {h:AH}{p j B B':Nat}{x y:List PV}{v:PV}{t:T}(hj:h[j]?=some (.lst x)) (hy:y.length<=B') (hb:B<=B') (s:SH h p B v t):SH (h.set j (.lst y)) p B' v t:=by
 cases t with
 | if_ r a b=>obtain ⟨n,m,k,e0,e1,e2,e3,e4⟩:=s;exact ⟨n,m,k,e0,ysy hj e1,ymI hj hy hb e2,ymI hj hy hb e3,e4⟩
 | either a b=>obtain ⟨n,m,k,e0,e1,e2,e3,e4⟩:=s;exact ⟨n,m,k,e0,ysy hj e1,ymI hj hy hb e2,ymI hj hy hb e3,e4⟩
 | try_ a nm r b=>obtain ⟨n,m,k,e0,e1,e2,e3,e4⟩:=s;exact ⟨n,m,k,e0,ysy hj e1,ymI hj hy hb e2,ymI hj hy hb e3,e4⟩
 | base=>exact s
 | let_ r m=>exact s
 | reckon w r s' u=>exact s
 | take r s'=>exact s
 | put r s'=>exact s
 | throw r s'=>exact s
 | wait=>exact s
noncomputable def yqW:XS:=ydg (xOr (yF (xCB (yhn ycY) (yd (yk 5) (yd (xC (.cls 5)) (yu))))) (xOr (yF (xCB (yhn ycY) (yd (yk 5) (yd (xC (.cls 6)) (yu))))) (yF (xCB (yhn ycY) (yd (yk 5) (yd (xC (.cls 7)) (yu))))))) (yx (yiW (xBM ymz (ysj) (yjI [5,6,7] "parts" (yk 5)) (yd (xFz (yrz 9)) (yu)))) (yiW (xBM ymz (yla) (yjI [5,6,7] "others" (yk 5)) (yu)))) (yby)
theorem yJs {h:AH}{n:Nat}{ns:List Str}{xs:List PV}(e:h[n]?=some (.ins 5 ns xs)):yhn ycY [.loc n,.cls 5] h=some (.bl true,h):=by
 unfold yhn ytN yjH
 simp only [e]
 rfl
theorem yJt {h:AH}{n:Nat}{ns:List Str}{xs:List PV}(e:h[n]?=some (.ins 6 ns xs)):yhn ycY [.loc n,.cls 5] h=some (.bl false,h):=by
 unfold yhn ytN yjH
 simp only [e]
 rfl
theorem yJu {h:AH}{n:Nat}{ns:List Str}{xs:List PV}(e:h[n]?=some (.ins 6 ns xs)):yhn ycY [.loc n,.cls 6] h=some (.bl true,h):=by
 unfold yhn ytN yjH
 simp only [e]
 rfl
theorem yJv {h:AH}{n:Nat}{ns:List Str}{xs:List PV}(e:h[n]?=some (.ins 7 ns xs)):yhn ycY [.loc n,.cls 5] h=some (.bl false,h):=by
 unfold yhn ytN yjH
 simp only [e]
 rfl
theorem yJw {h:AH}{n:Nat}{ns:List Str}{xs:List PV}(e:h[n]?=some (.ins 7 ns xs)):yhn ycY [.loc n,.cls 6] h=some (.bl false,h):=by
 unfold yhn ytN yjH
 simp only [e]
 rfl
theorem yJx {h:AH}{n:Nat}{ns:List Str}{xs:List PV}(e:h[n]?=some (.ins 7 ns xs)):yhn ycY [.loc n,.cls 7] h=some (.bl true,h):=by
 unfold yhn ytN yjH
 simp only [e]
 rfl
theorem yrP {h:AH}{n c i:Nat}{f:Str}{ns:List Str}{xs:List PV}{x:PV}(e:h[n]?=some (.ins c ns xs)) (hc:c∈[5,6,7]) (hm:f∈ns) (hi:ns.idxOf f=i) (hx:xs[i]?=some x):ykU [5,6,7] f (.loc n) h=some (x,h):=by
 unfold ykU yjH
 simp only [e]
 rw [if_pos ⟨hc,hm⟩,hi,hx]
theorem yAM {h:AH}{p B m k n c:Nat}{ns:List Str}{xs:List PV}{x0 x1 x2 x3 x4:PVar}(en:h[n]?=some (.ins c ns xs)) (hB:B<=90000) (em:∃ x,h[m]?=some (.lst x)/\x.length<=B) (ek:∃ y,h[k]?=some (.lst y)/\y.length<=B) (hm:m≠p) (hk:k≠p)
  (fm:∀ h':AH,h'[n]?=some (.ins c ns xs)->ykU [5,6,7] "parts" (.loc n) h'=some (.loc m,h')) (fk:∀ h':AH,h'[n]?=some (.ins c ns xs)->ykU [5,6,7] "others" (.loc n) h'=some (.loc k,h')) :
  ∃ h',(ob (ykU [5,6,7] "parts" (.loc n) h) fun x h=>if ymz x h=true then ob (ysj x [.ins 9 [] []] h) fun _ h=>ob (ykU [5,6,7] "others" (.loc n) h) fun x h=>if ymz x h=true then ob (yla x [] h) fun _ h1=>some (Out.nx [x0,x1,x2,x3,x4,.val (.loc n)],h1) else none else none)=some (.nx [x0,x1,x2,x3,x4,.val (.loc n)],h')/\h'[p]?=h[p]?/\∀ v t,SH h p B v t->SH h' p (B+1) v t:=by
 obtain ⟨x,em,hx⟩:=em
 have ek':=ymI (j:=m) (y:=x++[.ins 9 [] []]) (B':=B+1) em (by rw [List.length_append,List.length_singleton];omega) (by omega) ek
 obtain ⟨y,ek',_⟩:=ek'
 have en':=ysy (y:=x++[.ins 9 [] []]) em en
 refine ⟨(h.set m (.lst (x++[.ins 9 [] []]))).set k (.lst []),?_,?_,fun v t s=>?_⟩
 .simp_all? only [fm h en,fk _ en',ynl em,yzT em (show x.length<100000 by omega),ynl ek',ytO ek',↓reduceIte]
 .rw [List.getElem?_set_ne hk,List.getElem?_set_ne hm]
 .exact SH.set ek' (B:=B+1) (by show 0<=B+1;omega) (Nat.le_refl _) (SH.set em (B:=B) (by rw [List.length_append,List.length_singleton];omega) (by omega) s)
theorem yDc {h:AH}{p B:Nat}{v:PV}{t:T}{x0 x1 x2 x3 x4:PVar}(g:gdT t) (s:SH h p B v t) (hB:B<=90000):∃ h',yqW [x0,x1,x2,x3,x4,.val v] h=some (.nx [x0,x1,x2,x3,x4,.val v],h')/\h'[p]?=h[p]?/\∀ v t,SH h p B v t->SH h' p (B+1) v t:=by
 have up:∀ v t,SH h p B v t->SH h p (B+1) v t:=fun v t s=>by
  cases t with
  | if_ r a b=>obtain ⟨n,m,k,e0,e1,⟨x,e2,l2⟩,⟨y,e3,l3⟩,e4⟩:=s;exact ⟨n,m,k,e0,e1,⟨x,e2,by omega⟩,⟨y,e3,by omega⟩,e4⟩
  | either a b=>obtain ⟨n,m,k,e0,e1,⟨x,e2,l2⟩,⟨y,e3,l3⟩,e4⟩:=s;exact ⟨n,m,k,e0,e1,⟨x,e2,by omega⟩,⟨y,e3,by omega⟩,e4⟩
  | try_ a nm r b=>obtain ⟨n,m,k,e0,e1,⟨x,e2,l2⟩,⟨y,e3,l3⟩,e4⟩:=s;exact ⟨n,m,k,e0,e1,⟨x,e2,by omega⟩,⟨y,e3,by omega⟩,e4⟩
  | base=>exact s
  | let_ r m=>exact s
  | reckon w r s' u=>exact s
  | take r s'=>exact s
  | put r s'=>exact s
  | throw r s'=>exact s
  | wait=>exact s
 have pl:v=ybW t->(∀ j∈([5,6,7]:List Nat),yhn ycY [ybW t,.cls j] h=some (.bl false,h))->∃ h',yqW [x0,x1,x2,x3,x4,.val v] h=some (.nx [x0,x1,x2,x3,x4,.val v],h')/\h'[p]?=h[p]?/\∀ v t,SH h p B v t->SH h' p (B+1) v t:=fun e q=>by
  refine ⟨h,?_,rfl,up⟩
  have q5:=q 5 (by simp)
  have q6:=q 6 (by simp)
  have q7:=q 7 (by simp)
  rw [<- e] at q5 q6 q7
  unfold yqW
  simp_all? only [q5,q6,q7,↓reduceIte]
 have fal:∀ (c:Nat) (ns:List Str) (xs:List PV),c=1\/c=2\/c=3\/c=4\/c=8\/c=9->∀ j∈([5,6,7]:List Nat),yhn ycY [.ins c ns xs,.cls j] h=some (.bl false,h):=fun c ns xs hc j hj=>by
  simp only [List.mem_cons,List.not_mem_nil,or_false] at hj
  rcases hc with rfl|rfl|rfl|rfl|rfl|rfl<;>rcases hj with rfl|rfl|rfl<;>rfl
 cases t with
 | base=>exact g.elim
 | let_ r m=>exact pl s (fal 1 _ _ (by omega))
 | reckon w r s' u=>exact pl s (fal 2 _ _ (by omega))
 | take r s'=>exact pl s (fal 3 _ _ (by omega))
 | put r s'=>exact pl s (fal 4 _ _ (by omega))
 | throw r s'=>exact pl s (fal 8 _ _ (by omega))
 | wait=>exact pl s (fal 9 _ _ (by omega))
 | if_ r a b =>
  obtain ⟨n,m,k,rfl,en,em,ek,hm,hk⟩:=s
  unfold yqW
  simp_all? only [yJs en,↓reduceIte]
  exact yAM en hB em ek hm hk (fun h' e=>yrP e (by decide) (by rfl') (i:=1) (by rfl') rfl) (fun h' e=>yrP e (by decide) (by rfl') (i:=2) (by rfl') rfl)
 | either a b =>
  obtain ⟨n,m,k,rfl,en,em,ek,hm,hk⟩:=s
  unfold yqW
  simp_all? only [yJt en,yJu en,↓reduceIte]
  exact yAM en hB em ek hm hk (fun h' e=>yrP e (by decide) (by rfl') (i:=0) (by rfl') rfl) (fun h' e=>yrP e (by decide) (by rfl') (i:=1) (by rfl') rfl)
 | try_ a nm r b =>
  obtain ⟨n,m,k,rfl,en,em,ek,hm,hk⟩:=s
  unfold yqW
  simp_all? only [yJv en,yJw en,yJx en,↓reduceIte]
  exact yAM en hB em ek hm hk (fun h' e=>yrP e (by decide) (by rfl') (i:=0) (by rfl') rfl) (fun h' e=>yrP e (by decide) (by rfl') (i:=3) (by rfl') rfl)
def SHs (h:AH) (p B:Nat):List PV->List T->Prop
 | [],[]=>True
 | v::vs,t::ts=>SH h p B v t/\SHs h p B vs ts
 | _,_=>False
theorem SHs.up {h h':AH}{p B B':Nat}(f:∀ v t,SH h p B v t->SH h' p B' v t):∀ {vs:List PV}{ts:List T},SHs h p B vs ts->SHs h' p B' vs ts
 | [],[],_=>trivial
 | _::_,_::_,s=>⟨f _ _ s.1,SHs.up f s.2⟩
 | [],_::_,s=>s.elim
 | _::_,[],s=>s.elim
theorem SH.of {h:AH}{p:Nat}{v:PV}{t:T}(g:gdT t) (f:yyI t) (l:LV h (fun i=>i≠p) v t):SH h p 90 v t:=by
 cases t with
 | if_ r a b=>obtain ⟨n,m,k,e0,e1,e2,e3,q1,q2,q3⟩:=l;exact ⟨n,m,k,e0,e1,⟨_,e2,by rw [ygd];exact f.2.2.1⟩,⟨_,e3,by rw [ygd];exact f.2.2.2⟩,q2,q3⟩
 | either a b=>obtain ⟨n,m,k,e0,e1,e2,e3,q1,q2,q3⟩:=l;exact ⟨n,m,k,e0,e1,⟨_,e2,by rw [ygd];exact f.2.2.1⟩,⟨_,e3,by rw [ygd];exact f.2.2.2⟩,q2,q3⟩
 | try_ a nm r b=>obtain ⟨n,m,k,e0,e1,e2,e3,q1,q2,q3⟩:=l;exact ⟨n,m,k,e0,e1,⟨_,e2,by rw [ygd];exact f.2.2.1⟩,⟨_,e3,by rw [ygd];exact f.2.2.2⟩,q2,q3⟩
 | base=>exact g.elim
 | let_ r m=>exact l
 | reckon w r s' u=>exact l
 | take r s'=>exact l
 | put r s'=>exact l
 | throw r s'=>exact l
 | wait=>exact l
theorem SHs.of {h:AH}{p:Nat}:∀ {vs:List PV}{ts:List T},gdL ts->yxc ts->LVs h (fun i=>i≠p) vs ts->SHs h p 90 vs ts
 | [],[],_,_,_=>trivial
 | _::_,_::_,g,f,s=>⟨SH.of g.1 f.1 s.1,SHs.of g.2 f.2 s.2⟩
 | [],_::_,_,_,s=>s.elim
 | _::_,[],_,_,s=>s.elim
theorem yEa {p:Nat}{vs:List PV}{x0 x1 x2 x3 x4:PVar}:∀ (us:List PV) (ts:List T) (h:AH) (i B:Nat) (c:PVar),h[p]?=some (.lst vs)->vs.drop i=us->SHs h p B us ts->gdL ts->B+us.length<=90000->i<=vs.length->∃ h' c',yzV p false (yw 5) yqW us.length i [x0,x1,x2,x3,x4,c] h=some (.nx [x0,x1,x2,x3,x4,c'],h')/\h'[p]?=some (.lst vs)
 | [],ts,h,i,B,c,e,ed,_,_,_,hi=>by
  refine ⟨h,c,?_,e⟩
  show (match h[p]? with|some (.lst xs)=>if xs.length=i then some (Out.nx [x0,x1,x2,x3,x4,c],h) else none|_=>none)=_
  rw [e]
  have:vs.length<=i:=List.drop_eq_nil_iff.mp ed
  simp only
  rw [if_pos (by omega)]
 | u::us,[],h,i,B,c,_,_,s,_,_,_=>s.elim
 | u::us,t::ts,h,i,B,c,e,ed,s,g,hb,hi=>by
  have hb:B+(us.length+1)<=90000:=hb
  obtain ⟨h1,e1,k1,f1⟩:=yDc (x0:=x0) (x1:=x1) (x2:=x2) (x3:=x3) (x4:=x4) g.1 s.1 (by omega)
  have hl:i<vs.length:=Classical.byContradiction fun z=>by rw [List.drop_of_length_le (by omega)] at ed;cases ed
  rw [List.drop_eq_getElem_cons hl] at ed
  have eu:vs[i]?=some u:=by
   rw [List.getElem?_eq_getElem hl]
   exact congrArg some (List.cons.inj ed).1
  have ed:=(List.cons.inj ed).2
  obtain ⟨h2,c2,e2,k2⟩:=yEa us ts h1 (i+1) (B+1) (.val u) (by rw [k1];exact e) ed (s.2.up f1) g.2 (by omega) (by omega)
  refine ⟨h2,c2,?_,k2⟩
  show yzV p false (yw 5) yqW (us.length+1) i [x0,x1,x2,x3,x4,c] h=_
  unfold yzV
  simp only [e,eu,if_neg (show ¬ (false=true) from fun z=>by cases z)]
  rw [show yw 5 u [x0,x1,x2,x3,x4,c]=some [x0,x1,x2,x3,x4,.val u] from rfl,Option.bind_some,e1,yha]
  exact e2
end
section
variable {h:AH}
def yyh:XS:=ydI (ybJ ygR (yd (yk 1) (yd (yk 2) (yu)))) (yw 1)
theorem yxm (x0 x3 x4 x5:PVar):∀ (ns:List Int) (us:List T) (c2:PVar),OkL us->∃ vs d2,OkL vs/\yjZ (yw 2) yyh (ns.map PV.int) [x0,.val (.lst (yz us)),c2,x3,x4,x5] h=some (.nx [x0,.val (.lst (yz vs)),d2,x3,x4,x5],h)
 | [],us,c2,g=>⟨us,c2,g,rfl⟩
 | n::ns,us,c2,g=>by
  obtain ⟨vs,gv,e⟩:=yGj (h:=h) g n
  obtain ⟨ws,d2,gw,f⟩:=yxm x0 x3 x4 x5 ns vs (.val (.int n)) gv
  refine ⟨ws,d2,gw,?_⟩
  have b:yyh [x0,.val (.lst (yz us)),.val (.int n),x3,x4,x5] h=some (.nx [x0,.val (.lst (yz vs)),.val (.int n),x3,x4,x5],h):=by
   unfold yyh
   simp_all? only [e]
  show yjZ (yw 2) yyh (.int n::ns.map PV.int) _ h=_
  rw [yoF,show yw 2 (.int n) [x0,.val (.lst (yz us)),c2,x3,x4,x5]=some [x0,.val (.lst (yz us)),.val (.int n),x3,x4,x5] from rfl,Option.bind_some,b,yha]
  exact f
theorem yJy:OkL []:=⟨trivial,by show (-1:Int)<=8;omega,by show (0:Int)<=79;omega⟩
theorem yJz (ns:List Int) (hl:ns.length<=63):∃ h',yCF [.scr ns] h=some (.bl true,h'):=by
 unfold yCF
 rw [ybp]
 show ∃ h',ob (yx _ (yx (ytb _ (yw 2) yyh) (yx _ (yx _ (yx _ (yx (yxN false _ _ yqW) _))))) [.val (.scr ns),.no,.no,.no,.no,.no] h) fnK=_
 walk_at "px"
 rw [yJJ (xs:=(yBk ns none (some 63)).map PV.int) (h1:=h) (by
  walk_at "px"
  unfold yBk
  rw [List.length_map,List.map_take,List.map_drop]),yha]
 obtain ⟨ts,d2,g,e⟩:=yxm (h:=h) (.val (.scr ns)) .no .no .no (yBk ns none (some 63)) [] .no yJy
 have e:yjZ (yw 2) yyh ((yBk ns none (some 63)).map PV.int) [.val (.scr ns),.val (.lst []),.no,.no,.no,.no] h=_:=e
 rw [e]
 have hd:=g.dep
 have hw:=g.w
 have hln:=g.len
 have lg:=g.lg
 have t1:=yGf 30 ts h g.gd (by omega) (by omega)
 obtain ⟨h1,p,vs,e1,ap,lv⟩:=yDb (h:=h) g
 have few:=yjA g.gd (by omega)
 have ll:=lv.len
 obtain ⟨h2,c2,e2,ap2⟩:=yEa (p:=p) (x0:=.val (.scr ns)) (x1:=.val (.lst (yz ts))) (x2:=d2) (x3:=.val (.str (yiX ts))) (x4:=.val (.loc p)) vs ts h1 0 90 .no ap (by simp) (SHs.of g.gd few lv) g.gd (by omega) (by omega)
 obtain ⟨h3,e3⟩:=yGb (h:=h2.set p (.lst [])) g
 have s3:=yvZ 15 ts h3 g.gd (by omega)
 refine ⟨h3,?_⟩
 simp_all? only [t1,e1]
 rw [ywR (xs:=[.loc p,.lst (yz ts)]) (ys:=[.lst (yO ts),.lst (yz ts)]) (r:=.bl true) rfl (by
  unfold ydi ydi ydi
  rw [yln ap (ywb g.gd lv),yjN 3 (x:=.lst (yz ts)) (yge ts)]) (yvZ 15 ts [] g.gd (by omega)) rfl]
 walk_at "px"
 rw [show yxN false (yk 4) (yw 5) yqW [.val (.scr ns),.val (.lst (yz ts)),d2,.val (.str (yiX ts)),.val (.loc p),.no] h1=some (.nx [.val (.scr ns),.val (.lst (yz ts)),d2,.val (.str (yiX ts)),.val (.loc p),c2],h2) by
  unfold yxN
  rw [show yk 4 [.val (.scr ns),.val (.lst (yz ts)),d2,.val (.str (yiX ts)),.val (.loc p),.no] h1=some (.loc p,h1) from rfl,yha]
  simp only [ap]
  exact e2]
 simp_all? only [ynl ap2,ytO ap2,e3,s3,↓reduceIte]
end
end
def top (i:Nat):Stmt:=PySem.Challenge.pw_retryhall_k05_deeds_read.main.body.getD i (.Pass ⟨0,0,0,0⟩)
abbrev ycr:Stmt:=inClass (top 7) 0
abbrev ybD:Stmt:=inClass (top 8) 0
abbrev ybZ:Stmt:=inClass (top 9) 0
abbrev ycs:Stmt:=inClass (top 10) 0
abbrev ycL:Stmt:=inClass (top 11) 0
abbrev ybE:Stmt:=inClass (top 12) 0
abbrev yct:Stmt:=inClass (top 13) 0
abbrev ybT:Stmt:=inClass (top 14) 0
abbrev ydZ:Stmt:=inClass (top 6) 1
abbrev yff:Stmt:=inClass (top 7) 2
abbrev ycM:Stmt:=inClass (top 8) 2
abbrev yea:Stmt:=inClass (top 9) 2
abbrev yfg:Stmt:=inClass (top 10) 2
abbrev ydk:Stmt:=inClass (top 14) 2
abbrev yeb:Stmt:=inClass (top 15) 1
abbrev yca:Stmt:=inClass (top 11) 0
abbrev ybi:Stmt:=inClass (top 12) 0
abbrev ybU:Stmt:=inClass (top 13) 0
abbrev yec:Stmt:=top 5
abbrev ygr:Stmt:=inClass (top 11) 2
abbrev ycN:Stmt:=inClass (top 12) 2
abbrev yfh:Stmt:=inClass (top 13) 2
abbrev ydl:Stmt:=top 26
abbrev yed:Stmt:=top 22
abbrev ygs:Stmt:=top 23
abbrev ygt:Stmt:=top 24
abbrev ygu:Stmt:=top 25
abbrev ybF:Stmt:=inClass (top 32) 0
abbrev yfi:Stmt:=top 31
abbrev ycu:Stmt:=inClass (top 32) 1
abbrev ycv:Stmt:=inClass (top 32) 2
abbrev ybv:Stmt:=inClass (top 32) 3
abbrev ybj:Stmt:=inClass (top 32) 4
abbrev ybk:Stmt:=inClass (top 32) 5
abbrev yS:Stmt:=inClass (top 32) 6
abbrev yT:Stmt:=inClass (top 32) 14
abbrev ybc:Stmt:=inClass (top 32) 13
abbrev ybl:Stmt:=inClass (top 32) 7
abbrev ybm:Stmt:=inClass (top 32) 8
abbrev ybn:Stmt:=inClass (top 32) 9
abbrev ybG:Stmt:=inClass (top 32) 10
abbrev yU:Stmt:=inClass (top 32) 11
abbrev ybw:Stmt:=inClass (top 32) 12
abbrev ynA:Stmt:=top 30
abbrev ybo:Stmt:=inClass (top 32) 10
abbrev yP:Stmt:=inClass (top 32) 11
abbrev ybd:Stmt:=inClass (top 32) 12
abbrev yV:Stmt:=inClass (top 32) 9
abbrev yW:Stmt:=inClass (top 32) 7
abbrev yhZ:Stmt:=top 30
abbrev ydm:Stmt:=top 34
abbrev yee:Stmt:=top 35
abbrev yef:Stmt:=top 36
abbrev ycO:Stmt:=top 37
abbrev ydn:Stmt:=top 38
abbrev ydo:Stmt:=top 39
abbrev ydp:Stmt:=top 40
abbrev ydq:Stmt:=top 41
abbrev yeg:Stmt:=top 42
abbrev yeh:Stmt:=top 43
abbrev ygv:Stmt:=top 44
abbrev yei:Stmt:=top 45
abbrev ycP:Stmt:=top 46
abbrev yej:Stmt:=top 47
abbrev ypd:Stmt:=top 48
theorem yqd:yv ["self","slot","number"] ["self","slot","number"] (yb ycr):=⟨rfl,rfl,rfl,by rfl',rfl,by rfl',by rfl'⟩
theorem ynB:yv ["self","word","slot","one","other"] ["self","word","slot","one","other"] (yb ybD):=⟨rfl,rfl,rfl,by rfl',rfl,by rfl',by rfl'⟩
theorem ype:yv ["self","slot","place"] ["self","slot","place"] (yb ybZ):=⟨rfl,rfl,rfl,by rfl',rfl,by rfl',by rfl'⟩
theorem yqe:yv ["self","place","slot"] ["self","place","slot"] (yb ycs):=⟨rfl,rfl,rfl,by rfl',rfl,by rfl',by rfl'⟩
theorem yqX:yv ["self","slot","parts","others"] ["self","slot","parts","others"] (yb ycL):=⟨rfl,rfl,rfl,by rfl',rfl,by rfl',by rfl'⟩
theorem ynC:yv ["self","parts","others"] ["self","parts","others"] (yb ybE):=⟨rfl,rfl,rfl,by rfl',rfl,by rfl',by rfl'⟩
theorem yqf:yv ["self","parts","name","slot","others"] ["self","parts","name","slot","others"] (yb yct):=⟨rfl,rfl,rfl,by rfl',rfl,by rfl',by rfl'⟩
theorem yon:yv ["self","name","slot"] ["self","name","slot"] (yb ybT):=⟨rfl,rfl,rfl,by rfl',rfl,by rfl',by rfl'⟩
theorem yuq:yv ["self"] ["self"] (yb ydZ):=⟨rfl,rfl,rfl,by rfl',rfl,by rfl',by rfl'⟩
theorem ywc:yv ["self"] ["self"] (yb yff):=⟨rfl,rfl,rfl,by rfl',rfl,by rfl',by rfl'⟩
theorem yqY:yv ["self"] ["self"] (yb ycM):=⟨rfl,rfl,rfl,by rfl',rfl,by rfl',by rfl'⟩
theorem yur:yv ["self"] ["self"] (yb yea):=⟨rfl,rfl,rfl,by rfl',rfl,by rfl',by rfl'⟩
theorem ywd:yv ["self"] ["self"] (yb yfg):=⟨rfl,rfl,rfl,by rfl',rfl,by rfl',by rfl'⟩
theorem ysz:yv ["self"] ["self"] (yb ydk):=⟨rfl,rfl,rfl,by rfl',rfl,by rfl',by rfl'⟩
theorem yus:yv ["self"] ["self"] (yb yeb):=⟨rfl,rfl,rfl,by rfl',rfl,by rfl',by rfl'⟩
theorem ypf:yv ["self","slot","parts","others"] ["self","slot","parts","others"] (yb yca):=⟨rfl,rfl,rfl,by rfl',rfl,by rfl',by rfl'⟩
theorem ymg:yv ["self","parts","others"] ["self","parts","others"] (yb ybi):=⟨rfl,rfl,rfl,by rfl',rfl,by rfl',by rfl'⟩
theorem yoo:yv ["self","parts","name","slot","others"] ["self","parts","name","slot","others"] (yb ybU):=⟨rfl,rfl,rfl,by rfl',rfl,by rfl',by rfl'⟩
theorem yut:yv ["parts"] ["parts"] (yb yec):=⟨rfl,rfl,rfl,by rfl',rfl,by rfl',by rfl'⟩
theorem yyi:yv ["self"] ["self"] (yb ygr):=⟨rfl,rfl,rfl,by rfl',rfl,by rfl',by rfl'⟩
theorem yqZ:yv ["self"] ["self"] (yb ycN):=⟨rfl,rfl,rfl,by rfl',rfl,by rfl',by rfl'⟩
theorem ywe:yv ["self"] ["self"] (yb yfh):=⟨rfl,rfl,rfl,by rfl',rfl,by rfl',by rfl'⟩
theorem ysA:yv ["text","signs"] ["text","signs"] (yb ydl):=⟨rfl,rfl,rfl,by rfl',rfl,by rfl',by rfl'⟩
theorem yoK:yv ["text","number"] ["text"] (yb yed):=⟨rfl,rfl,rfl,by rfl',rfl,by rfl',by rfl'⟩
theorem yyj:yv ["text"] ["text"] (yb ygs):=⟨rfl,rfl,rfl,by rfl',rfl,by rfl',by rfl'⟩
theorem yyk:yv ["text"] ["text"] (yb ygt):=⟨rfl,rfl,rfl,by rfl',rfl,by rfl',by rfl'⟩
theorem yyl:yv ["text"] ["text"] (yb ygu):=⟨rfl,rfl,rfl,by rfl',rfl,by rfl',by rfl'⟩
theorem ynD:yv ["self","words"] ["self","words"] (yb ybF):=⟨rfl,rfl,rfl,by rfl',rfl,by rfl',by rfl'⟩
theorem ywf:yv ["text"] ["text"] (yb yfi):=⟨rfl,rfl,rfl,by rfl',rfl,by rfl',by rfl'⟩
theorem yqg:yv ["self"] ["self"] (yb ycu):=⟨rfl,rfl,rfl,by rfl',rfl,by rfl',by rfl'⟩
theorem ylo:yv ["self","word"] ["self"] (yb ycv):=⟨rfl,rfl,rfl,by rfl',rfl,by rfl',by rfl'⟩
theorem yiw:yv ["self","wanted","word"] ["self","wanted"] (yb ybv):=⟨rfl,rfl,rfl,by rfl',rfl,by rfl',by rfl'⟩
theorem yhM:yv ["self","word"] ["self"] (yb ybj):=⟨rfl,rfl,rfl,by rfl',rfl,by rfl',by rfl'⟩
theorem yhN:yv ["self","word"] ["self"] (yb ybk):=⟨rfl,rfl,rfl,by rfl',rfl,by rfl',by rfl'⟩
theorem yeA:yv ["self","word","number"] ["self"] (yb yS):=⟨rfl,rfl,rfl,by rfl',rfl,by rfl',by rfl'⟩
theorem ydf:yv ["self","word","slot","one","other"] ["self","word"] (yb yT):=⟨rfl,rfl,rfl,by rfl',rfl,by rfl',by rfl'⟩
theorem ycC:yv ["self","word","slot","place","name"] ["self","word"] (yb ybc):=⟨rfl,rfl,rfl,by rfl',rfl,by rfl',by rfl'⟩
theorem yhO:yv ["self","around","parts"] ["self","around"] (yb ybl):=⟨rfl,rfl,rfl,by rfl',rfl,by rfl',by rfl'⟩
theorem yhP:yv ["self","around","parts"] ["self","around"] (yb ybm):=⟨rfl,rfl,rfl,by rfl',rfl,by rfl',by rfl'⟩
theorem yhQ:yv ["self","around","word"] ["self","around"] (yb ybn):=⟨rfl,rfl,rfl,by rfl',rfl,by rfl',by rfl'⟩
theorem yeK:yv ["self","around","slot","parts","others"] ["self","around"] (yb ybG):=⟨rfl,rfl,rfl,by rfl',rfl,by rfl',by rfl'⟩
theorem yeB:yv ["self","around","parts","others"] ["self","around"] (yb yU):=⟨rfl,rfl,rfl,by rfl',rfl,by rfl',by rfl'⟩
theorem ydd:yv ["self","around","parts","name","slot","others"] ["self","around"] (yb ybw):=⟨rfl,rfl,rfl,by rfl',rfl,by rfl',by rfl'⟩
theorem sc_read:yv ["text","reader","deed"] ["text"] (yb ynA):=⟨rfl,rfl,rfl,by rfl',rfl,by rfl',by rfl'⟩
theorem ydJ:yv ["self","around","slot","parts","others"] ["self","around"] (yb ybo):=⟨rfl,rfl,rfl,by rfl',rfl,by rfl',by rfl'⟩
theorem ydP:yv ["self","around","parts","others"] ["self","around"] (yb yP):=⟨rfl,rfl,rfl,by rfl',rfl,by rfl',by rfl'⟩
theorem ycD:yv ["self","around","parts","name","slot","others"] ["self","around"] (yb ybd):=⟨rfl,rfl,rfl,by rfl',rfl,by rfl',by rfl'⟩
theorem ygM:yv ["self","around","word"] ["self","around"] (yb yV):=⟨rfl,rfl,rfl,by rfl',rfl,by rfl',by rfl'⟩
theorem ygN:yv ["self","around","parts"] ["self","around"] (yb yW):=⟨rfl,rfl,rfl,by rfl',rfl,by rfl',by rfl'⟩
theorem yqh:yv ["text","reader","deed"] ["text"] (yb yhZ):=⟨rfl,rfl,rfl,by rfl',rfl,by rfl',by rfl'⟩
theorem ysB:yv ["_law_found"] ["_law_found"] (yb ydm):=⟨rfl,rfl,rfl,by rfl',rfl,by rfl',by rfl'⟩
theorem ydr:yv ["_law_cell","_law_letters","_law_size","_law_at","_law_name_here","_law_k","_law_sign"] ["_law_cell"] (yb yee):=⟨rfl,rfl,rfl,by rfl',rfl,by rfl',by rfl'⟩
theorem yuu:yv ["_law_number_here"] ["_law_number_here"] (yb yef):=⟨rfl,rfl,rfl,by rfl',rfl,by rfl',by rfl'⟩
theorem yra:yv ["_law_cell"] ["_law_cell"] (yb ycO):=⟨rfl,rfl,rfl,by rfl',rfl,by rfl',by rfl'⟩
theorem ygw:yv ["_law_cell","_law_way","_law_mixed","_law_one","_law_other"] ["_law_cell"] (yb ydn):=⟨rfl,rfl,rfl,by rfl',rfl,by rfl',by rfl'⟩
theorem yia:yv ["_law_cell","_law_one","_law_other","_law_mixed","_law_way"] ["_law_cell","_law_one","_law_other"] (yb ydo):=⟨rfl,rfl,rfl,by rfl',rfl,by rfl',by rfl'⟩
theorem ysC:yv ["_law_part"] ["_law_part"] (yb ydp):=⟨rfl,rfl,rfl,by rfl',rfl,by rfl',by rfl'⟩
theorem yfj:yv ["_law_parts","_law_found","_law_part","_law_side"] ["_law_parts"] (yb ydq):=⟨rfl,rfl,rfl,by rfl',rfl,by rfl',by rfl'⟩
theorem yhv:yv ["_law_parts","_law_many","_law_part"] ["_law_parts"] (yb yeg):=⟨rfl,rfl,rfl,by rfl',rfl,by rfl',by rfl'⟩
theorem ygf:yv ["_law_parts","_law_cell","_law_made","_law_cut","_law_low"] ["_law_parts","_law_cell"] (yb yeh):=⟨rfl,rfl,rfl,by rfl',rfl,by rfl',by rfl'⟩
theorem yym:yv ["_law_parts"] ["_law_parts"] (yb ygv):=⟨rfl,rfl,rfl,by rfl',rfl,by rfl',by rfl'⟩
theorem yje:yv ["_law_parts","_law_found","_law_part","_law_some"] ["_law_parts"] (yb yei):=⟨rfl,rfl,rfl,by rfl',rfl,by rfl',by rfl'⟩
theorem yrb:yv ["_law_part","_law_due"] ["_law_part","_law_due"] (yb ycP):=⟨rfl,rfl,rfl,by rfl',rfl,by rfl',by rfl'⟩
theorem yjf:yv ["_law_parts","_law_due","_law_part","_law_row","_law_sides_here"] ["_law_parts","_law_due"] (yb yej):=⟨rfl,rfl,rfl,by rfl',rfl,by rfl',by rfl'⟩
theorem sc_law:yv ["_law_script","_law_parts","_law_cell","_law_text_here","_law_first","_law_part"] ["_law_script"] (yb ypd):=⟨rfl,rfl,rfl,by rfl',rfl,by rfl',by rfl'⟩
theorem ml1 {α:Type}{P:List α->Prop}(h:∀ a,P [a]):∀ us:List α,us.length=1->P us
 | [_],_=>h _
theorem ml2 {α:Type}{P:List α->Prop}(h:∀ a b,P [a,b]):∀ us:List α,us.length=2->P us
 | [_,_],_=>h _ _
theorem ml3 {α:Type}{P:List α->Prop}(h:∀ a b c,P [a,b,c]):∀ us:List α,us.length=3->P us
 | [_,_,_],_=>h _ _ _
theorem ml4 {α:Type}{P:List α->Prop}(h:∀ a b c d,P [a,b,c,d]):∀ us:List α,us.length=4->P us
 | [_,_,_,_],_=>h _ _ _ _
theorem ml5 {α:Type}{P:List α->Prop}(h:∀ a b c d e,P [a,b,c,d,e]):∀ us:List α,us.length=5->P us
 | [_,_,_,_,_],_=>h _ _ _ _ _
set_option genInjectivity false in
set_option genSizeOf false in
structure Ads where
 A:Nat->Addr
 yhf:Addr
 yhg:FuncData
 yfk:Addr
 yfl:FuncData
 ygx:Addr
 ygy:FuncData
 yhh:Addr
 yhi:FuncData
 yib:Addr
 yic:FuncData
 yfm:Addr
 yfn:FuncData
 yhj:Addr
 yhk:FuncData
 yfH:Addr
 yfI:FuncData
 ykh:Addr
 yki:FuncData
 ylX:Addr
 ylY:FuncData
 yid:Addr
 yie:FuncData
 ykj:Addr
 ykk:FuncData
 ylZ:Addr
 yma:FuncData
 yjg:Addr
 yjh:FuncData
 ykl:Addr
 ykm:FuncData
 ygz:Addr
 ygA:FuncData
 yek:Addr
 yel:FuncData
 yfJ:Addr
 yfK:FuncData
 yix:Addr
 yiy:FuncData
 yqi:Addr
 yqj:FuncData
 ykn:Addr
 yko:FuncData
 yop:Addr
 yoq:FuncData
 yhw:Addr
 yhx:FuncData
 ykp:Addr
 ykq:FuncData
 ynE:Addr
 ynF:FuncData
 ynG:Addr
 ynH:FuncData
 ynI:Addr
 ynJ:FuncData
 ydQ:Addr
 ydR:FuncData
 yjO:Addr
 yjP:FuncData
 ycU:Addr
 ycV:FuncData
 ycw:Addr
 ycx:FuncData
 ybP:Addr
 ybQ:FuncData
 ybA:Addr
 ybB:FuncData
 ycl:Addr
 ycm:FuncData
 yds:Addr
 ydt:FuncData
 ydu:Addr
 ydv:FuncData
 ycJ:Addr
 ycK:FuncData
 yem:Addr
 yen:FuncData
 ycn:Addr
 yco:FuncData
 yfQ:Addr
 yfR:FuncData
 ygT:Addr
 ygU:FuncData
 yeR:Addr
 yeS:FuncData
 ygB:Addr
 ygC:FuncData
 a_read:Addr
 d_read:FuncData
 yeo:Addr
 yep:FuncData
 ycQ:Addr
 ycR:FuncData
 ydK:Addr
 ydL:FuncData
 ydw:Addr
 ydx:FuncData
 ydy:Addr
 ydz:FuncData
 yps:Addr
 ypt:FuncData
 yji:Addr
 yjj:FuncData
 yiz:Addr
 yiA:FuncData
 yiB:Addr
 yiC:FuncData
 yif:Addr
 yig:FuncData
 yjk:Addr
 yjl:FuncData
 yjm:Addr
 yjn:FuncData
 ygg:Addr
 ygh:FuncData
 yjo:Addr
 yjp:FuncData
 ykr:Addr
 yks:FuncData
 ykt:Addr
 yku:FuncData
 yqk:Addr
 yql:FuncData
 ykv:Addr
 ykw:FuncData
 yih:Addr
 yii:FuncData
 ykx:Addr
 yky:FuncData
 a_law:Addr
 d_law:FuncData
 k_FIGURES:Tok
 k_LETTERS:Tok
 k_MOST_AROUND:Tok
 k_MOST_ROWS:Tok
 k_SLOTS:Tok
 k_WIDE:Tok
 k_WORDS:Addr
abbrev ybs (K:PySem.W.Frag) (t:Ads):Ck:=⟨K,t.A⟩
structure Txt (K:PySem.W.Frag) (mg:Str->Option Value) (t:Ads):Prop where
 yrc:Fun K "__init__" "Let.__init__" ycr t.yhf t.yhg
 yrd:Binds K t.yhg ["self","slot","number"] []
 yor:Fun K "__init__" "Reckon.__init__" ybD t.yfk t.yfl
 yos:Binds K t.yfl ["self","word","slot","one","other"] []
 yqm:Fun K "__init__" "Take.__init__" ybZ t.ygx t.ygy
 yqn:Binds K t.ygy ["self","slot","place"] []
 yre:Fun K "__init__" "Put.__init__" ycs t.yhh t.yhi
 yrf:Binds K t.yhi ["self","place","slot"] []
 ysD:Fun K "__init__" "If.__init__" ycL t.yib t.yic
 ysE:Binds K t.yic ["self","slot","parts","others"] []
 yot:Fun K "__init__" "Either.__init__" ybE t.yfm t.yfn
 you:Binds K t.yfn ["self","parts","others"] []
 yrg:Fun K "__init__" "Try.__init__" yct t.yhj t.yhk
 yrh:Binds K t.yhk ["self","parts","name","slot","others"] []
 ypg:Fun K "__init__" "Throw.__init__" ybT t.yfH t.yfI
 yph:Binds K t.yfI ["self","name","slot"] []
 ywg:Fun K "long" "Part.long" ydZ t.ykh t.yki
 ywh:Binds K t.yki ["self"] []
 yyn:Fun K "long" "Let.long" yff t.ylX t.ylY
 yyo:Binds K t.ylY ["self"] []
 ysF:Fun K "long" "Reckon.long" ycM t.yid t.yie
 ysG:Binds K t.yie ["self"] []
 ywi:Fun K "long" "Take.long" yea t.ykj t.ykk
 ywj:Binds K t.ykk ["self"] []
 yyp:Fun K "long" "Put.long" yfg t.ylZ t.yma
 yyq:Binds K t.yma ["self"] []
 yuv:Fun K "long" "Throw.long" ydk t.yjg t.yjh
 yuw:Binds K t.yjh ["self"] []
 ywk:Fun K "long" "Wait.long" yeb t.ykl t.ykm
 ywl:Binds K t.ykm ["self"] []
 yqo:Fun K "__init__" "If.__init__" yca t.ygz t.ygA
 yqp:Binds K t.ygA ["self","slot","parts","others"] []
 ymJ:Fun K "__init__" "Either.__init__" ybi t.yek t.yel
 ymK:Binds K t.yel ["self","parts","others"] []
 ypi:Fun K "__init__" "Try.__init__" ybU t.yfJ t.yfK
 ypj:Binds K t.yfK ["self","parts","name","slot","others"] []
 yeq:Fun K "list_long" "list_long" yec t.yix t.yiy
 yeT:Binds K t.yiy ["parts"] []
 yeU:mg "list_long" = some (.ref t.yix)
 yAN:Fun K "long" "If.long" ygr t.yqi t.yqj
 yAO:Binds K t.yqj ["self"] []
 ysH:Fun K "long" "Either.long" ycN t.ykn t.yko
 ysI:Binds K t.yko ["self"] []
 yyr:Fun K "long" "Try.long" yfh t.yop t.yoq
 yys:Binds K t.yoq ["self"] []
 ylp:Fun K "is_made_of" "is_made_of" ydl t.yhw t.yhx
 yoL:Binds K t.yhx ["text","signs"] []
 yoM:mg "is_made_of" = some (.ref t.yhw)
 yqq:Fun K "number_of" "number_of" yed t.ykp t.ykq
 ywm:Binds K t.ykq ["text"] []
 ywn:mg "number_of" = some (.ref t.ykp)
 yux:Fun K "is_word" "is_word" ygs t.ynE t.ynF
 yAP:Binds K t.ynF ["text"] []
 yAQ:mg "is_word" = some (.ref t.ynE)
 yuy:Fun K "is_slot" "is_slot" ygt t.ynG t.ynH
 yAR:Binds K t.ynH ["text"] []
 yAS:mg "is_slot" = some (.ref t.ynG)
 yuz:Fun K "is_name" "is_name" ygu t.ynI t.ynJ
 yAT:Binds K t.ynJ ["text"] []
 yAU:mg "is_name" = some (.ref t.ynI)
 yov:Fun K "__init__" "Reader.__init__" ybF t.ydQ t.ydR
 yjQ:Binds K t.ydR ["self","words"] []
 yow:Fun K "words_of" "words_of" yfi t.yjO t.yjP
 yrQ:Binds K t.yjP ["text"] []
 yrR:mg "words_of" = some (.ref t.yjO)
 yri:Fun K "ahead" "Reader.ahead" ycu t.ycU t.ycV
 ycy:Binds K t.ycV ["self"] []
 yrj:Fun K "taken" "Reader.taken" ycv t.ycw t.ycx
 yey:Binds K t.ycx ["self"] []
 ynK:Fun K "pass_over" "Reader.pass_over" ybv t.ybP t.ybQ
 ybg:Binds K t.ybQ ["self","wanted"] []
 ymL:Fun K "slot_taken" "Reader.slot_taken" ybj t.ybA t.ybB
 yH:Binds K t.ybB ["self"] []
 ymM:Fun K "name_taken" "Reader.name_taken" ybk t.ycl t.ycm
 yfS:Binds K t.ycm ["self"] []
 ylq:Fun K "number_taken" "Reader.number_taken" yS t.yds t.ydt
 ylr:Binds K t.ydt ["self"] []
 yls:Fun K "reckon_taken" "Reader.reckon_taken" yT t.ydu t.ydv
 ylt:Binds K t.ydv ["self","word"] []
 ymh:Fun K "plain_taken" "Reader.plain_taken" ybc t.ycJ t.ycK
 yhR:Binds K t.ycK ["self","word"] []
 ymN:Fun K "list_taken" "Reader.list_taken" ybl t.yem t.yen
 yiD:Binds K t.yen ["self","around"] []
 ymO:Fun K "side_taken" "Reader.side_taken" ybm t.ycn t.yco
 yM:Binds K t.yco ["self","around"] []
 ymP:Fun K "part_taken" "Reader.part_taken" ybn t.yfQ t.yfR
 yiE:Binds K t.yfR ["self","around"] []
 yox:Fun K "if_taken" "Reader.if_taken" ybG t.ygT t.ygU
 yoy:Binds K t.ygU ["self","around"] []
 ylu:Fun K "either_taken" "Reader.either_taken" yU t.yeR t.yeS
 ylv:Binds K t.yeS ["self","around"] []
 ynL:Fun K "try_taken" "Reader.try_taken" ybw t.ygB t.ygC
 ynM:Binds K t.ygC ["self","around"] []
 F_read:Fun K "read" "read" ynA t.a_read t.d_read
 b_read:Binds K t.d_read ["text"] []
 m_read:mg "read" = some (.ref t.a_read)
 ymQ:Fun K "if_taken" "Reader.if_taken" ybo t.yeo t.yep
 ymR:Binds K t.yep ["self","around"] []
 ykz:Fun K "either_taken" "Reader.either_taken" yP t.ycQ t.ycR
 ykA:Binds K t.ycR ["self","around"] []
 ymi:Fun K "try_taken" "Reader.try_taken" ybd t.ydK t.ydL
 ymj:Binds K t.ydL ["self","around"] []
 ylw:Fun K "part_taken" "Reader.part_taken" yV t.ydw t.ydx
 yhy:Binds K t.ydx ["self","around"] []
 ylx:Fun K "list_taken" "Reader.list_taken" yW t.ydy t.ydz
 yly:Binds K t.ydz ["self","around"] []
 yxn:Fun K "read" "read" yhZ t.yps t.ypt
 yDd:Binds K t.ypt ["text"] []
 yDe:mg "read" = some (.ref t.yps)
 yoN:Fun K "_law_whole" "_law_whole" ydm t.yji t.yjj
 yuA:Binds K t.yjj ["_law_found"] []
 yuB:mg "_law_whole" = some (.ref t.yji)
 ymS:Fun K "_law_name" "_law_name" yee t.yiz t.yiA
 yqr:Binds K t.yiA ["_law_cell"] []
 yqs:mg "_law_name" = some (.ref t.yiz)
 ygV:Fun K "_law_slot" "_law_slot" yef t.yiB t.yiC
 yiF:Binds K t.yiC ["_law_number_here"] []
 yiG:mg "_law_slot" = some (.ref t.yiB)
 ynN:Fun K "_law_number" "_law_number" ycO t.yif t.yig
 ysJ:Binds K t.yig ["_law_cell"] []
 ysK:mg "_law_number" = some (.ref t.yif)
 yoO:Fun K "_law_plain" "_law_plain" ydn t.yjk t.yjl
 yuC:Binds K t.yjl ["_law_cell"] []
 yuD:mg "_law_plain" = some (.ref t.yjk)
 yoP:Fun K "_law_sided" "_law_sided" ydo t.yjm t.yjn
 yuE:Binds K t.yjn ["_law_cell","_law_one","_law_other"] []
 yuF:mg "_law_sided" = some (.ref t.yjm)
 yjq:Fun K "_law_sides" "_law_sides" ydp t.ygg t.ygh
 ylz:Binds K t.ygh ["_law_part"] []
 ylA:mg "_law_sides" = some (.ref t.ygg)
 ylB:Fun K "_law_round" "_law_round" ydq t.yjo t.yjp
 yoQ:Binds K t.yjp ["_law_parts"] []
 yoR:mg "_law_round" = some (.ref t.yjo)
 ymT:Fun K "_law_long" "_law_long" yeg t.ykr t.yks
 yqt:Binds K t.yks ["_law_parts"] []
 yqu:mg "_law_long" = some (.ref t.ykr)
 yqv:Fun K "_law_more" "_law_more" yeh t.ykt t.yku
 ywo:Binds K t.yku ["_law_parts","_law_cell"] []
 ywp:mg "_law_more" = some (.ref t.ykt)
 yiH:Fun K "_law_in" "_law_in" ygv t.yqk t.yql
 yjR:Binds K t.yql ["_law_parts"] []
 yjS:mg "_law_in" = some (.ref t.yqk)
 ymU:Fun K "_law_text" "_law_text" yei t.ykv t.ykw
 yqw:Binds K t.ykw ["_law_parts"] []
 yqx:mg "_law_text" = some (.ref t.ykv)
 ynO:Fun K "_law_values" "_law_values" ycP t.yih t.yii
 ysL:Binds K t.yii ["_law_part","_law_due"] []
 ysM:mg "_law_values" = some (.ref t.yih)
 yiI:Fun K "_law_same" "_law_same" yej t.ykx t.yky
 ykB:Binds K t.yky ["_law_parts","_law_due"] []
 ykC:mg "_law_same" = some (.ref t.ykx)
 F_law:Fun K "law" "law" ypd t.a_law t.d_law
 b_law:Binds K t.d_law ["_law_script"] []
 m_law:mg "law" = some (.ref t.a_law)
 m_Part:mg "Part" = some (.ref (t.A 0))
 mk_Part:makesIn K (t.A 0)=true
 io_Part:findIn K (.ref (t.A 0)) "__init__" = some (some (.builtin "object.__init__"))
 kp_Part:keepIn K (.ref (t.A 0))=true
 m_Let:mg "Let" = some (.ref (t.A 1))
 mk_Let:Mk K (t.A 1) t.yhf
 m_Reckon:mg "Reckon" = some (.ref (t.A 2))
 mk_Reckon:Mk K (t.A 2) t.yfk
 m_Take:mg "Take" = some (.ref (t.A 3))
 mk_Take:Mk K (t.A 3) t.ygx
 m_Put:mg "Put" = some (.ref (t.A 4))
 mk_Put:Mk K (t.A 4) t.yhh
 m_If:mg "If" = some (.ref (t.A 5))
 mk_If:Mk K (t.A 5) t.yib
 mk_If_L:Mk K (t.A 5) t.ygz
 m_Either:mg "Either" = some (.ref (t.A 6))
 mk_Either:Mk K (t.A 6) t.yfm
 mk_Either_L:Mk K (t.A 6) t.yek
 m_Try:mg "Try" = some (.ref (t.A 7))
 mk_Try:Mk K (t.A 7) t.yhj
 mk_Try_L:Mk K (t.A 7) t.yfJ
 m_Throw:mg "Throw" = some (.ref (t.A 8))
 mk_Throw:Mk K (t.A 8) t.yfH
 m_Wait:mg "Wait" = some (.ref (t.A 9))
 mk_Wait:makesIn K (t.A 9)=true
 io_Wait:findIn K (.ref (t.A 9)) "__init__" = some (some (.builtin "object.__init__"))
 kp_Wait:keepIn K (.ref (t.A 9))=true
 m_Reader:mg "Reader" = some (.ref (t.A 10))
 mk_Reader:Mk K (t.A 10) t.ydQ
 me_Part_long:ykV K (t.A 0) "long" t.ykh
 me_Let_long:ykV K (t.A 1) "long" t.ylX
 me_Reckon_long:ykV K (t.A 2) "long" t.yid
 me_Take_long:ykV K (t.A 3) "long" t.ykj
 me_Put_long:ykV K (t.A 4) "long" t.ylZ
 me_If_long:ykV K (t.A 5) "long" t.yqi
 me_Either_long:ykV K (t.A 6) "long" t.ykn
 me_Try_long:ykV K (t.A 7) "long" t.yop
 me_Throw_long:ykV K (t.A 8) "long" t.yjg
 me_Wait_long:ykV K (t.A 9) "long" t.ykl
 ycb:ykV K (t.A 10) "ahead" t.ycU
 ydS:ykV K (t.A 10) "taken" t.ycw
 yZ:ykV K (t.A 10) "pass_over" t.ybP
 yB:ykV K (t.A 10) "slot_taken" t.ybA
 yfs:ykV K (t.A 10) "name_taken" t.ycl
 ykM:ykV K (t.A 10) "number_taken" t.yds
 yhS:ykV K (t.A 10) "list_taken" t.yem
 yJ:ykV K (t.A 10) "side_taken" t.ycn
 yhT:ykV K (t.A 10) "part_taken" t.yfQ
 ynP:ykV K (t.A 10) "if_taken" t.ygT
 ykN:ykV K (t.A 10) "either_taken" t.yeR
 ymV:ykV K (t.A 10) "try_taken" t.ygB
 yhz:ykV K (t.A 10) "plain_taken" t.ycJ
 ykO:ykV K (t.A 10) "reckon_taken" t.ydu
 ymk:ykV K (t.A 10) "if_taken" t.yeo
 yjT:ykV K (t.A 10) "either_taken" t.ycQ
 ylC:ykV K (t.A 10) "try_taken" t.ydK
 ygO:ykV K (t.A 10) "part_taken" t.ydw
 ykP:ykV K (t.A 10) "list_taken" t.ydy
 cl:∀ k,Cls K (t.A k)
 fa:Fa (ybs K t)
 z_all:mg "all" = none
 z_bool:mg "bool" = none
 z_int:mg "int" = none
 z_isinstance:mg "isinstance" = none
 z_len:mg "len" = none
 z_list:mg "list" = none
 z_max:mg "max" = none
 z_range:mg "range" = none
 z_str:mg "str" = none
 z_sum:mg "sum" = none
 z_zip:mg "zip" = none
 m_FIGURES:mg "FIGURES" = some (.str "0123456789" t.k_FIGURES)
 m_LETTERS:mg "LETTERS" = some (.str "abcdefghijklmnopqrstuvwxyz" t.k_LETTERS)
 m_MOST_AROUND:mg "MOST_AROUND" = some (.int 8 t.k_MOST_AROUND)
 m_MOST_ROWS:mg "MOST_ROWS" = some (.int 80 t.k_MOST_ROWS)
 m_SLOTS:mg "SLOTS" = some (.str "abcdefgh" t.k_SLOTS)
 m_WIDE:mg "WIDE" = some (.int 18446744073709551616 t.k_WIDE)
 m_WORDS:mg "WORDS" = some (.ref t.k_WORDS)
 kt_WORDS:KTp K t.k_WORDS ((["plus","minus","times","less","same"]:List Str).map V.str)
theorem ynQ:Nm "Either":=⟨by rfl',by rfl',by rfl'⟩
theorem yyt:Nm "FIGURES":=⟨by rfl',by rfl',by rfl'⟩
theorem yDf:Nm "If":=⟨by rfl',by rfl',by rfl'⟩
theorem yyu:Nm "LETTERS":=⟨by rfl',by rfl',by rfl'⟩
theorem yEb:Nm "Let":=⟨by rfl',by rfl',by rfl'⟩
theorem ymv:Nm "MOST_AROUND":=⟨by rfl',by rfl',by rfl'⟩
theorem yoS:Nm "MOST_ROWS":=⟨by rfl',by rfl',by rfl'⟩
theorem yGm:Nm "Part":=⟨by rfl',by rfl',by rfl'⟩
theorem yEc:Nm "Put":=⟨by rfl',by rfl',by rfl'⟩
theorem yuG:Nm "Reader":=⟨by rfl',by rfl',by rfl'⟩
theorem yuH:Nm "Reckon":=⟨by rfl',by rfl',by rfl'⟩
theorem yDg:Nm "SLOTS":=⟨by rfl',by rfl',by rfl'⟩
theorem yAV:Nm "Take":=⟨by rfl',by rfl',by rfl'⟩
theorem yxo:Nm "Throw":=⟨by rfl',by rfl',by rfl'⟩
theorem yxp:Nm "Try":=⟨by rfl',by rfl',by rfl'⟩
theorem yGn:Nm "WIDE":=⟨by rfl',by rfl',by rfl'⟩
theorem yDh:Nm "WORDS":=⟨by rfl',by rfl',by rfl'⟩
theorem ywq:Nm "Wait":=⟨by rfl',by rfl',by rfl'⟩
theorem yyv:Nm "_law_at":=⟨by rfl',by rfl',by rfl'⟩
theorem yG:Nm "_law_cell":=⟨by rfl',by rfl',by rfl'⟩
theorem ymW:Nm "_law_cut":=⟨by rfl',by rfl',by rfl'⟩
theorem ybM:Nm "_law_due":=⟨by rfl',by rfl',by rfl'⟩
theorem ykD:Nm "_law_first":=⟨by rfl',by rfl',by rfl'⟩
theorem ybx:Nm "_law_found":=⟨by rfl',by rfl',by rfl'⟩
theorem yip:Nm "_law_in":=⟨by rfl',by rfl',by rfl'⟩
theorem yqy:Nm "_law_k":=⟨by rfl',by rfl',by rfl'⟩
theorem yqz:Nm "_law_letters":=⟨by rfl',by rfl',by rfl'⟩
theorem yoT:Nm "_law_long":=⟨by rfl',by rfl',by rfl'⟩
theorem yqA:Nm "_law_low":=⟨by rfl',by rfl',by rfl'⟩
theorem ylD:Nm "_law_made":=⟨by rfl',by rfl',by rfl'⟩
theorem ylE:Nm "_law_many":=⟨by rfl',by rfl',by rfl'⟩
theorem ydA:Nm "_law_mixed":=⟨by rfl',by rfl',by rfl'⟩
theorem yuI:Nm "_law_more":=⟨by rfl',by rfl',by rfl'⟩
theorem yoU:Nm "_law_name":=⟨by rfl',by rfl',by rfl'⟩
theorem yjU:Nm "_law_name_here":=⟨by rfl',by rfl',by rfl'⟩
theorem yrk:Nm "_law_number":=⟨by rfl',by rfl',by rfl'⟩
theorem ymX:Nm "_law_number_here":=⟨by rfl',by rfl',by rfl'⟩
theorem yer:Nm "_law_one":=⟨by rfl',by rfl',by rfl'⟩
theorem yes:Nm "_law_other":=⟨by rfl',by rfl',by rfl'⟩
theorem yh:Nm "_law_part":=⟨by rfl',by rfl',by rfl'⟩
theorem yR:Nm "_law_parts":=⟨by rfl',by rfl',by rfl'⟩
theorem ysN:Nm "_law_plain":=⟨by rfl',by rfl',by rfl'⟩
theorem ynR:Nm "_law_round":=⟨by rfl',by rfl',by rfl'⟩
theorem yet:Nm "_law_row":=⟨by rfl',by rfl',by rfl'⟩
theorem yjr:Nm "_law_same":=⟨by rfl',by rfl',by rfl'⟩
theorem yrl:Nm "_law_script":=⟨by rfl',by rfl',by rfl'⟩
theorem yoV:Nm "_law_side":=⟨by rfl',by rfl',by rfl'⟩
theorem ysO:Nm "_law_sided":=⟨by rfl',by rfl',by rfl'⟩
theorem ykE:Nm "_law_sides":=⟨by rfl',by rfl',by rfl'⟩
theorem ygD:Nm "_law_sides_here":=⟨by rfl',by rfl',by rfl'⟩
theorem yoW:Nm "_law_sign":=⟨by rfl',by rfl',by rfl'⟩
theorem yoX:Nm "_law_size":=⟨by rfl',by rfl',by rfl'⟩
theorem yhA:Nm "_law_slot":=⟨by rfl',by rfl',by rfl'⟩
theorem yuJ:Nm "_law_some":=⟨by rfl',by rfl',by rfl'⟩
theorem yoY:Nm "_law_text":=⟨by rfl',by rfl',by rfl'⟩
theorem yjV:Nm "_law_text_here":=⟨by rfl',by rfl',by rfl'⟩
theorem yrm:Nm "_law_values":=⟨by rfl',by rfl',by rfl'⟩
theorem yfT:Nm "_law_way":=⟨by rfl',by rfl',by rfl'⟩
theorem ysP:Nm "_law_whole":=⟨by rfl',by rfl',by rfl'⟩
theorem yuK:Nm "_law_word":=⟨by rfl',by rfl',by rfl'⟩
theorem yJA:Nm "all":=⟨by rfl',by rfl',by rfl'⟩
theorem ybr:Nm "around":=⟨by rfl',by rfl',by rfl'⟩
theorem yGo:Nm "bool":=⟨by rfl',by rfl',by rfl'⟩
theorem ysQ:Nm "deed":=⟨by rfl',by rfl',by rfl'⟩
theorem yxq:Nm "int":=⟨by rfl',by rfl',by rfl'⟩
theorem ynS:Nm "is_made_of":=⟨by rfl',by rfl',by rfl'⟩
theorem yyw:Nm "is_name":=⟨by rfl',by rfl',by rfl'⟩
theorem yyx:Nm "is_slot":=⟨by rfl',by rfl',by rfl'⟩
theorem yyy:Nm "is_word":=⟨by rfl',by rfl',by rfl'⟩
theorem ybe:Nm "isinstance":=⟨by rfl',by rfl',by rfl'⟩
theorem yqB:Nm "len":=⟨by rfl',by rfl',by rfl'⟩
theorem yfU:Nm "list":=⟨by rfl',by rfl',by rfl'⟩
theorem ydW:Nm "list_long":=⟨by rfl',by rfl',by rfl'⟩
theorem yxr:Nm "max":=⟨by rfl',by rfl',by rfl'⟩
theorem yoz:Nm "name":=⟨by rfl',by rfl',by rfl'⟩
theorem ylF:Nm "number":=⟨by rfl',by rfl',by rfl'⟩
theorem yuL:Nm "number_of":=⟨by rfl',by rfl',by rfl'⟩
theorem yEd:Nm "one":=⟨by rfl',by rfl',by rfl'⟩
theorem yxs:Nm "other":=⟨by rfl',by rfl',by rfl'⟩
theorem yex:Nm "others":=⟨by rfl',by rfl',by rfl'⟩
theorem yGp:Nm "part":=⟨by rfl',by rfl',by rfl'⟩
theorem ycS:Nm "parts":=⟨by rfl',by rfl',by rfl'⟩
theorem ysR:Nm "place":=⟨by rfl',by rfl',by rfl'⟩
theorem yAW:Nm "read":=⟨by rfl',by rfl',by rfl'⟩
theorem ynT:Nm "reader":=⟨by rfl',by rfl',by rfl'⟩
theorem yf:Nm "self":=⟨by rfl',by rfl',by rfl'⟩
theorem yGq:Nm "sign":=⟨by rfl',by rfl',by rfl'⟩
theorem yDi:Nm "signs":=⟨by rfl',by rfl',by rfl'⟩
theorem yft:Nm "slot":=⟨by rfl',by rfl',by rfl'⟩
theorem yJB:Nm "str":=⟨by rfl',by rfl',by rfl'⟩
theorem yEe:Nm "sum":=⟨by rfl',by rfl',by rfl'⟩
theorem yfV:Nm "text":=⟨by rfl',by rfl',by rfl'⟩
theorem yAX:Nm "wanted":=⟨by rfl',by rfl',by rfl'⟩
theorem ycG:Nm "word":=⟨by rfl',by rfl',by rfl'⟩
theorem yDj:Nm "words":=⟨by rfl',by rfl',by rfl'⟩
theorem yqC:Nm "words_of":=⟨by rfl',by rfl',by rfl'⟩
section
variable {P:Program}{w:World}{K:PySem.W.Frag}{mg:Str->Option Value}{base:Heap}{t:Ads}
theorem yqD {n:Nat}{ck:Ck}{vs:List V}{H:Hp}{Q:VK}{E:XK}(h:spE ck n (fun _ _=>none) vs H Q E):False:=by
 obtain ⟨_,_,_,_,_,_,_,_,q,_⟩:=h
 cases q
theorem yfW {f:Addr}{fd:FuncData}{ps:List Str}{k n:Nat}{ck:Ck}:FnOk P w K mg base CX0 k f fd ps (spE ck n fun _ _=>none):=⟨fun vs H Q E h=>(yqD h).elim,fun A outer s H args us vs Q E _ _ _ _ h=>(yqD h).elim⟩
theorem yqE (T:Txt K mg t) :FnOk P w K mg base CX0 (0+1) t.yhf t.yhg ["self","slot","number"] (spI (ybs K t) 2 1 yhb):=by
 have fa:=T.fa
 exact zin T.yrc yqd rfl (by decide) fun cdv Ar outer sh H E hr=>(ycE (ycT fa.fl_slot (yce (i:=0) rfl (Or.inl rfl) yf.d yf.c) (z_v 1 yft) rfl) (yhG (ycT fa.fl_number (yce (i:=0) rfl (Or.inl rfl) yf.d yf.c) (z_v 2 ylF) rfl)))
theorem ynU (T:Txt K mg t) :FnOk P w K mg base CX0 (0+1) t.yfk t.yfl ["self","word","slot","one","other"] (spI (ybs K t) 4 2 yfa):=by
 have fa:=T.fa
 exact zin T.yor ynB rfl (by decide) fun cdv Ar outer sh H E hr=>(ycE (ycT fa.fl_word (yce (i:=0) rfl (Or.inl rfl) yf.d yf.c) (z_v 1 ycG) rfl) (ycE (ycT fa.fl_slot (yce (i:=0) rfl (Or.inl rfl) yf.d yf.c) (z_v 2 yft) rfl) (ycE (ycT fa.fl_one (yce (i:=0) rfl (Or.inl rfl) yf.d yf.c) (z_v 3 yEd) rfl) (yhG (ycT fa.fl_other (yce (i:=0) rfl (Or.inl rfl) yf.d yf.c) (z_v 4 yxs) rfl)))))
theorem ypk (T:Txt K mg t) :FnOk P w K mg base CX0 (0+1) t.ygx t.ygy ["self","slot","place"] (spI (ybs K t) 2 3 ygm):=by
 have fa:=T.fa
 exact zin T.yqm ype rfl (by decide) fun cdv Ar outer sh H E hr=>(ycE (ycT fa.fl_slot (yce (i:=0) rfl (Or.inl rfl) yf.d yf.c) (z_v 1 yft) rfl) (yhG (ycT fa.fl_place (yce (i:=0) rfl (Or.inl rfl) yf.d yf.c) (z_v 2 ysR) rfl)))
theorem yqF (T:Txt K mg t) :FnOk P w K mg base CX0 (0+1) t.yhh t.yhi ["self","place","slot"] (spI (ybs K t) 2 4 yhc):=by
 have fa:=T.fa
 exact zin T.yre yqe rfl (by decide) fun cdv Ar outer sh H E hr=>(ycE (ycT fa.fl_place (yce (i:=0) rfl (Or.inl rfl) yf.d yf.c) (z_v 1 ysR) rfl) (yhG (ycT fa.fl_slot (yce (i:=0) rfl (Or.inl rfl) yf.d yf.c) (z_v 2 yft) rfl)))
theorem yrn (T:Txt K mg t) :FnOk P w K mg base CX0 (0+1) t.yib t.yic ["self","slot","parts","others"] (spI (ybs K t) 3 5 yhV):=by
 have fa:=T.fa
 exact zin T.ysD yqX rfl (by decide) fun cdv Ar outer sh H E hr=>(ycE (ycT fa.fl_slot (yce (i:=0) rfl (Or.inl rfl) yf.d yf.c) (z_v 1 yft) rfl) (ycE (ycT fa.fl_parts (yce (i:=0) rfl (Or.inl rfl) yf.d yf.c) (yhE (yjb ybO yeH yfU rfl T.z_list yfL (ya (z_v 2 ycS) ye rfl) rfl rfl)) rfl) (yhG (ycT fa.fl_others (yce (i:=0) rfl (Or.inl rfl) yf.d yf.c) (yhE (yjb ybO yeH yfU rfl T.z_list yfL (ya (z_v 3 yex) ye rfl) rfl rfl)) rfl))))
theorem ynV (T:Txt K mg t) :FnOk P w K mg base CX0 (0+1) t.yfm t.yfn ["self","parts","others"] (spI (ybs K t) 2 6 yfb):=by
 have fa:=T.fa
 exact zin T.yot ynC rfl (by decide) fun cdv Ar outer sh H E hr=>(ycE (ycT fa.fl_parts (yce (i:=0) rfl (Or.inl rfl) yf.d yf.c) (yhE (yjb ybO yeH yfU rfl T.z_list yfL (ya (z_v 1 ycS) ye rfl) rfl rfl)) rfl) (yhG (ycT fa.fl_others (yce (i:=0) rfl (Or.inl rfl) yf.d yf.c) (yhE (yjb ybO yeH yfU rfl T.z_list yfL (ya (z_v 2 yex) ye rfl) rfl rfl)) rfl)))
theorem yqG (T:Txt K mg t) :FnOk P w K mg base CX0 (0+1) t.yhj t.yhk ["self","parts","name","slot","others"] (spI (ybs K t) 4 7 yhd):=by
 have fa:=T.fa
 exact zin T.yrg yqf rfl (by decide) fun cdv Ar outer sh H E hr=>(ycE (ycT fa.fl_parts (yce (i:=0) rfl (Or.inl rfl) yf.d yf.c) (yhE (yjb ybO yeH yfU rfl T.z_list yfL (ya (z_v 1 ycS) ye rfl) rfl rfl)) rfl) (ycE (ycT fa.fl_name (yce (i:=0) rfl (Or.inl rfl) yf.d yf.c) (z_v 2 yoz) rfl) (ycE (ycT fa.fl_slot (yce (i:=0) rfl (Or.inl rfl) yf.d yf.c) (z_v 3 yft) rfl) (yhG (ycT fa.fl_others (yce (i:=0) rfl (Or.inl rfl) yf.d yf.c) (yhE (yjb ybO yeH yfU rfl T.z_list yfL (ya (z_v 4 yex) ye rfl) rfl rfl)) rfl)))))
theorem yoA (T:Txt K mg t) :FnOk P w K mg base CX0 (0+1) t.yfH t.yfI ["self","name","slot"] (spI (ybs K t) 2 8 yfE):=by
 have fa:=T.fa
 exact zin T.ypg yon rfl (by decide) fun cdv Ar outer sh H E hr=>(ycE (ycT fa.fl_name (yce (i:=0) rfl (Or.inl rfl) yf.d yf.c) (z_v 1 yoz) rfl) (yhG (ycT fa.fl_slot (yce (i:=0) rfl (Or.inl rfl) yf.d yf.c) (z_v 2 yft) rfl)))
theorem ypl (T:Txt K mg t) :FnOk P w K mg base CX0 (0+1) t.ygz t.ygA ["self","slot","parts","others"] (spI (ybs K t) 3 5 yeO):=by
 have fa:=T.fa
 exact zin T.yqo ypf rfl (by decide) fun cdv Ar outer sh H E hr=>(ycE (ycT fa.fl_slot (yce (i:=0) rfl (Or.inl rfl) yf.d yf.c) (z_v 1 yft) rfl) (ycE (ycT fa.fl_parts (yce (i:=0) rfl (Or.inl rfl) yf.d yf.c) (yoe (yjb ybO yeH yfU rfl T.z_list yfL (ya (z_v 2 ycS) ye rfl) rfl rfl)) rfl) (yhG (ycT fa.fl_others (yce (i:=0) rfl (Or.inl rfl) yf.d yf.c) (yoe (yjb ybO yeH yfU rfl T.z_list yfL (ya (z_v 3 yex) ye rfl) rfl rfl)) rfl))))
theorem yml (T:Txt K mg t) :FnOk P w K mg base CX0 (0+1) t.yek t.yel ["self","parts","others"] (spI (ybs K t) 2 6 ycZ):=by
 have fa:=T.fa
 exact zin T.ymJ ymg rfl (by decide) fun cdv Ar outer sh H E hr=>(ycE (ycT fa.fl_parts (yce (i:=0) rfl (Or.inl rfl) yf.d yf.c) (yoe (yjb ybO yeH yfU rfl T.z_list yfL (ya (z_v 1 ycS) ye rfl) rfl rfl)) rfl) (yhG (ycT fa.fl_others (yce (i:=0) rfl (Or.inl rfl) yf.d yf.c) (yoe (yjb ybO yeH yfU rfl T.z_list yfL (ya (z_v 2 yex) ye rfl) rfl rfl)) rfl)))
theorem yoB (T:Txt K mg t) :FnOk P w K mg base CX0 (0+1) t.yfJ t.yfK ["self","parts","name","slot","others"] (spI (ybs K t) 4 7 yew):=by
 have fa:=T.fa
 exact zin T.ypi yoo rfl (by decide) fun cdv Ar outer sh H E hr=>(ycE (ycT fa.fl_parts (yce (i:=0) rfl (Or.inl rfl) yf.d yf.c) (yoe (yjb ybO yeH yfU rfl T.z_list yfL (ya (z_v 1 ycS) ye rfl) rfl rfl)) rfl) (ycE (ycT fa.fl_name (yce (i:=0) rfl (Or.inl rfl) yf.d yf.c) (z_v 2 yoz) rfl) (ycE (ycT fa.fl_slot (yce (i:=0) rfl (Or.inl rfl) yf.d yf.c) (z_v 3 yft) rfl) (yhG (ycT fa.fl_others (yce (i:=0) rfl (Or.inl rfl) yf.d yf.c) (yoe (yjb ybO yeH yfU rfl T.z_list yfL (ya (z_v 4 yex) ye rfl) rfl rfl)) rfl)))))
theorem yuM (T:Txt K mg t) :FnOk P w K mg base CX0 (0+1) t.ykh t.yki ["self"] (spE (ybs K t) 1 ymB):=by
 have fa:=T.fa
 exact zfn T.ywg yuq fun cdv Ar outer sh H E hr=>(yj (yt z_int))
theorem ywr (T:Txt K mg t) :FnOk P w K mg base CX0 (0+1) t.ylX t.ylY ["self"] (spE (ybs K t) 1 yof):=by
 have fa:=T.fa
 exact zfn T.yyn ywc fun cdv Ar outer sh H E hr=>(yj (yt z_int))
theorem yro (T:Txt K mg t) :FnOk P w K mg base CX0 (0+1) t.yid t.yie ["self"] (spE (ybs K t) 1 ykc):=by
 have fa:=T.fa
 exact zfn T.ysF yqY fun cdv Ar outer sh H E hr=>(yj (yt z_int))
theorem yuN (T:Txt K mg t) :FnOk P w K mg base CX0 (0+1) t.ykj t.ykk ["self"] (spE (ybs K t) 1 ymC):=by
 have fa:=T.fa
 exact zfn T.ywi yur fun cdv Ar outer sh H E hr=>(yj (yt z_int))
theorem yws (T:Txt K mg t) :FnOk P w K mg base CX0 (0+1) t.ylZ t.yma ["self"] (spE (ybs K t) 1 yog):=by
 have fa:=T.fa
 exact zfn T.yyp ywd fun cdv Ar outer sh H E hr=>(yj (yt z_int))
theorem ysS (T:Txt K mg t) :FnOk P w K mg base CX0 (0+1) t.yjg t.yjh ["self"] (spE (ybs K t) 1 ylc):=by
 have fa:=T.fa
 exact zfn T.yuv ysz fun cdv Ar outer sh H E hr=>(yj (yt z_int))
theorem yuO (T:Txt K mg t) :FnOk P w K mg base CX0 (0+1) t.ykl t.ykm ["self"] (spE (ybs K t) 1 ymD):=by
 have fa:=T.fa
 exact zfn T.ywk yus fun cdv Ar outer sh H E hr=>(yj (yt z_int))
structure yNd (P:Program) (w:World) (K:PySem.W.Frag) (mg:Str->Option Value) (base:Heap) (t:Ads) (n:Nat):Prop where
 yqH:FnOk P w K mg base CX0 (n+1) t.yix t.yiy ["parts"] (spE (ybs K t) 1 (ych n))
 yqI:FnOk P w K mg base CX0 (n+1) t.yqi t.yqj ["self"] (spE (ybs K t) 1 (yno n))
 ykF:FnOk P w K mg base CX0 (n+1) t.ykn t.yko ["self"] (spE (ybs K t) 1 (yhW n))
 yoC:FnOk P w K mg base CX0 (n+1) t.yop t.yoq ["self"] (spE (ybs K t) 1 (ylR n))
 m_long:yvj P w K mg base (n+1) t.A "long" (fun k=>spE (ybs K t) 1 (yoG n k))
theorem yAY (T:Txt K mg t)  (ymb:FnOk P w K mg base CX0 (1) t.ylX t.ylY ["self"] (spE (ybs K t) 1 yof)) (ykG:FnOk P w K mg base CX0 (1) t.ykh t.yki ["self"] (spE (ybs K t) 1 ymB)) (ymc:FnOk P w K mg base CX0 (1) t.ylZ t.yma ["self"] (spE (ybs K t) 1 yog)) (yij:FnOk P w K mg base CX0 (1) t.yid t.yie ["self"] (spE (ybs K t) 1 ykc)) (ykH:FnOk P w K mg base CX0 (1) t.ykj t.ykk ["self"] (spE (ybs K t) 1 ymC)) (yjs:FnOk P w K mg base CX0 (1) t.yjg t.yjh ["self"] (spE (ybs K t) 1 ylc)) (ykI:FnOk P w K mg base CX0 (1) t.ykl t.ykm ["self"] (spE (ybs K t) 1 ymD)):∀ n,yNd P w K mg base t n
 | 0=>⟨yfW,yfW,yfW,yfW,fun c=>⟨T.cl c,.inl fun _ _ _ _ h=>yqD h⟩⟩
 | n+1=>by
  have fa:=T.fa
  have I:=yAY T ymb ykG ymc yij ykH yjs ykI n
  have ycp:=I.yqH
  have yAZ:=I.yqI
  have ysT:=I.ykF
  have yyz:=I.yoC
  have G_long:=I.m_long
  exact ⟨zfn T.yeq yut fun cdv Ar outer sh H E hr=>(yj (yt (ynf (ywD rfl) yHI yEe rfl T.z_sum yDA (ya (yhE (ywU [] [] rfl (ymA (z_v 0 ycS)) True.intro (fun _ _ _ _ _ _=>(yFH (z_v 0 yGp) G_long (hr.mono (by omega)) rfl)) (by rfl') rfl (by rfl') (by rfl') (by rfl') rfl (fun _=>rfl))) ye rfl) rfl rfl))),
   zfn T.yAN yyi fun cdv Ar outer sh H E hr=>(yj (yt (ydH yeL yir (ydH yeL yir z_int (ybz ycp (hr.mono (by omega)) ydW rfl T.yeU T.yeq.kp T.yeT (ya (yfN fa.fl_parts (z_v 0 yf) rfl) ye rfl) rfl rfl)) (ybz ycp (hr.mono (by omega)) ydW rfl T.yeU T.yeq.kp T.yeT (ya (yfN fa.fl_others (z_v 0 yf) rfl) ye rfl) rfl rfl)))),
   zfn T.ysH yqZ fun cdv Ar outer sh H E hr=>(yj (yt (ydH yeL yir (ydH yeL yir z_int (ybz ycp (hr.mono (by omega)) ydW rfl T.yeU T.yeq.kp T.yeT (ya (yfN fa.fl_parts (z_v 0 yf) rfl) ye rfl) rfl rfl)) (ybz ycp (hr.mono (by omega)) ydW rfl T.yeU T.yeq.kp T.yeT (ya (yfN fa.fl_others (z_v 0 yf) rfl) ye rfl) rfl rfl)))),
   zfn T.yyr ywe fun cdv Ar outer sh H E hr=>(yj (yt (ydH yeL yir (ydH yeL yir z_int (ybz ycp (hr.mono (by omega)) ydW rfl T.yeU T.yeq.kp T.yeT (ya (yfN fa.fl_parts (z_v 0 yf) rfl) ye rfl) rfl rfl)) (ybz ycp (hr.mono (by omega)) ydW rfl T.yeU T.yeq.kp T.yeT (ya (yfN fa.fl_others (z_v 0 yf) rfl) ye rfl) rfl rfl)))),
   fun c=>⟨T.cl c,match c with|0=>.inr ⟨_,_,_,T.me_Part_long,ykG.mono (by omega),T.ywh⟩|1=>.inr ⟨_,_,_,T.me_Let_long,ymb.mono (by omega),T.yyo⟩|2=>.inr ⟨_,_,_,T.me_Reckon_long,yij.mono (by omega),T.ysG⟩|3=>.inr ⟨_,_,_,T.me_Take_long,ykH.mono (by omega),T.ywj⟩|4=>.inr ⟨_,_,_,T.me_Put_long,ymc.mono (by omega),T.yyq⟩|5=>.inr ⟨_,_,_,T.me_If_long,I.yqI.mono (by omega),T.yAO⟩|6=>.inr ⟨_,_,_,T.me_Either_long,I.ykF.mono (by omega),T.ysI⟩|7=>.inr ⟨_,_,_,T.me_Try_long,I.yoC.mono (by omega),T.yys⟩|8=>.inr ⟨_,_,_,T.me_Throw_long,yjs.mono (by omega),T.yuw⟩|9=>.inr ⟨_,_,_,T.me_Wait_long,ykI.mono (by omega),T.ywl⟩|10=>.inl fun _ _ _ _ h=>yqD h|c+11=>.inl fun _ _ _ _ h=>yqD h⟩⟩
theorem ysU (T:Txt K mg t) :FnOk P w K mg base CX0 (0+1) t.yhw t.yhx ["text","signs"] (spE (ybs K t) 2 yeP):=by
 have fa:=T.fa
 exact zfn T.ylp ysA fun cdv Ar outer sh H E hr=>(yj (yt (ynf (yBI rfl) yKs yJA rfl T.z_all yHm (ya (yhE (ywU [1] ["signs"] rfl (yIo (z_v 0 yfV)) ⟨rfl,rfl,rfl,True.intro⟩ (fun _ _ _ _ _ _=>(ypK ytp yHE (z_v 0 yGq) (yIk (i:=1) yDi rfl (Or.inr (Or.inl rfl))) (by with_unfolding_all rfl))) (by rfl') rfl (by rfl') (by rfl') (by rfl') rfl (fun _=>rfl))) ye rfl) rfl rfl)))
theorem yuP (T:Txt K mg t) (ygi:FnOk P w K mg base CX0 (1) t.yhw t.yhx ["text","signs"] (spE (ybs K t) 2 yeP)):FnOk P w K mg base CX0 (1+1) t.ykp t.ykq ["text"] (spE (ybs K t) 1 yiu):=by
 have fa:=T.fa
 exact zfn T.yqq yoK fun cdv Ar outer sh H E hr=>(yc (ybK (ywS (yqT (yja (yCz yBx yBx yJH yJH z_int (ynf ykW yzK yqB rfl T.z_len ypC (ya (z_v 0 yfV) ye rfl) rfl rfl) z_int (by with_unfolding_all rfl))) (ynn (yja (yho (ybz ygi (hr.mono (by omega)) ynS rfl T.yoM T.ylp.kp T.yoL (ya (z_v 0 yfV) (ya (yAb yyt rfl T.m_FIGURES) ye rfl) rfl) rfl rfl) (fun _=>rfl)))))) (yj (yt yqS)) yy) (yc (ybK (ywS (ytU (yN ydN yjG (yhF yzk yFk (z_v 0 yfV) z_int (fun _ _=>rfl)) z_str (yI _)) (ypL (yN yxv yGv (z_v 0 yfV) z_str (yI _))))) (yj (yt yqS)) yy) (yc (yL (i:=1) yoK.nd rfl (Or.inl rfl) (yCB ytq yHH yxq rfl T.z_int ywE (ya (z_v 0 yfV) ye rfl) rfl rfl) rfl (Or.inl rfl)) (yj (yt (yLr (yN yxw yGu (z_v 1 ylF) (ytS yGn rfl T.m_WIDE) (yI _)) (z_v 1 ylF) yqS))))))
theorem yyA (T:Txt K mg t) :FnOk P w K mg base CX0 (0+1) t.ynE t.ynF ["text"] (spE (ybs K t) 1 ynp):=by
 have fa:=T.fa
 exact zfn T.yux yyj fun cdv Ar outer sh H E hr=>(yj (yt (ypK ypz yFu (z_v 0 yfV) (yIq (ss:=["plus","minus","times","less","same"]) yDh rfl T.m_WORDS T.kt_WORDS) (by with_unfolding_all rfl))))
theorem yyB (T:Txt K mg t) :FnOk P w K mg base CX0 (0+1) t.ynG t.ynH ["text"] (spE (ybs K t) 1 yle):=by
 have fa:=T.fa
 exact zfn T.yuy yyk fun cdv Ar outer sh H E hr=>(yj (yt (ytT (ypK ydN yjG (ynf ykW yzK yqB rfl T.z_len ypC (ya (z_v 0 yfV) ye rfl) rfl rfl) z_int (yI _)) (yvG (ypK ytp yHE (z_v 0 yfV) (yAb yDg rfl T.m_SLOTS) (by with_unfolding_all rfl))))))
theorem yyC (T:Txt K mg t) (ygi:FnOk P w K mg base CX0 (1) t.yhw t.yhx ["text","signs"] (spE (ybs K t) 2 yeP)):FnOk P w K mg base CX0 (1+1) t.ynI t.ynJ ["text"] (spE (ybs K t) 1 ylf):=by
 have fa:=T.fa
 exact zfn T.yuz yyl fun cdv Ar outer sh H E hr=>(yj (yt (ytT (yFF yBx yBx yJH yJH z_int (ynf ykW yzK yqB rfl T.z_len ypC (ya (z_v 0 yfV) ye rfl) rfl rfl) z_int (by with_unfolding_all rfl)) (yvG (ybz ygi (hr.mono (by omega)) ynS rfl T.yoM T.ylp.kp T.yoL (ya (z_v 0 yfV) (ya (yAb yyu rfl T.m_LETTERS) ye rfl) rfl) rfl rfl)))))
theorem ynW (T:Txt K mg t) :FnOk P w K mg base CX0 (0+1) t.ydQ t.ydR ["self","words"] (spI (ybs K t) 1 10 yci):=by
 have fa:=T.fa
 exact zin T.yov ynD rfl (by decide) fun cdv Ar outer sh H E hr=>(ycE (ycT fa.fl_words (yce (i:=0) rfl (Or.inl rfl) yf.d yf.c) (yhE (yjb ybO yeH yfU rfl T.z_list yfL (ya (z_v 1 yDj) ye rfl) rfl rfl)) rfl) (yhG (ycT fa.fl_at (yce (i:=0) rfl (Or.inl rfl) yf.d yf.c) z_int rfl)))
theorem ywt (T:Txt K mg t) :FnOk P w K mg base CX0 (0+1) t.yjO t.yjP ["text"] (spE (ybs K t) 1 ygQ):=by
 have fa:=T.fa
 exact zfn T.yow ywf fun cdv Ar outer sh H E hr=>(yc (ybK (yN ydN yjG (z_v 0 yfV) z_str (yI _)) (yj (yt (yhE (ygP ye)))) yy) (yj (yt (yGw PySem.F.plainAttrs_str PySem.F.slot_str_split PySem.F.type_str_split yCC m_split (z_v 0 yfV) (ya z_str ye rfl) rfl rfl rfl rfl rfl))))
theorem yqJ (T:Txt K mg t) :FnOk P w K mg base CX0 (0+1) t.ycU t.ycV ["self"] (spE (ybs K t) 1 yD):=by
 have fa:=T.fa
 exact zfn T.yri yqg fun cdv Ar outer sh H E hr=>(yc (ybK (yN yxw yGu (yfN fa.fl_at (z_v 0 yf) rfl) (ynf yiY ywH yqB rfl T.z_len ypC (ya (yfN fa.fl_words (z_v 0 yf) rfl) ye rfl) rfl rfl) (yI _)) (yj (yt (yhF ypy yzJ (yfN fa.fl_words (z_v 0 yf) rfl) (yfN fa.fl_at (z_v 0 yf) rfl) (fun _ _=>rfl)))) yy) (yj (yt yqS)))
theorem yqK (T:Txt K mg t) (yE:FnOk P w K mg base CX0 (1) t.ycU t.ycV ["self"] (spE (ybs K t) 1 yD)):FnOk P w K mg base CX0 (1+1) t.ycw t.ycx ["self"] (spE (ybs K t) 1 yX):=by
 have fa:=T.fa
 exact zfn T.yrj ylo fun cdv Ar outer sh H E hr=>(yc (yL (i:=1) ylo.nd rfl (Or.inl rfl) (ybf (z_v 0 yf) (T.cl 10) T.ycb yE (hr.mono (by omega)) T.ycy rfl) rfl (Or.inl rfl)) (yc (ybK (yN ywy yCg (z_v 1 ycG) yqS (yI _)) (yj yfD) yy) (yc (yFK fa.fl_at (z_v 0 yf) (ydH yeL yir (yfN fa.fl_at (z_v 0 yf) rfl) z_int) rfl) (yj (yt (z_v 1 ycG))))))
theorem ymY (T:Txt K mg t) (yK:FnOk P w K mg base CX0 (2) t.ycw t.ycx ["self"] (spE (ybs K t) 1 yX)):FnOk P w K mg base CX0 (2+1) t.ybP t.ybQ ["self","wanted"] (spE (ybs K t) 2 yp):=by
 have fa:=T.fa
 exact zfn T.ynK yiw fun cdv Ar outer sh H E hr=>(yc (yL (i:=2) yiw.nd rfl (Or.inl rfl) (ybf (z_v 0 yf) (T.cl 10) T.ydS yK (hr.mono (by omega)) T.yey rfl) rfl (Or.inl rfl)) (yj (ybK (yN yxv yGv (z_v 2 ycG) (z_v 1 yAX) (yI _)) (yj yfD) yy)))
theorem ymm (T:Txt K mg t) (yK:FnOk P w K mg base CX0 (2) t.ycw t.ycx ["self"] (spE (ybs K t) 1 yX)) (yqL:FnOk P w K mg base CX0 (1) t.ynG t.ynH ["text"] (spE (ybs K t) 1 yle)):FnOk P w K mg base CX0 (2+1) t.ybA t.ybB ["self"] (spE (ybs K t) 1 ym):=by
 have fa:=T.fa
 exact zfn T.ymL yhM fun cdv Ar outer sh H E hr=>(yc (yL (i:=1) yhM.nd rfl (Or.inl rfl) (ybf (z_v 0 yf) (T.cl 10) T.ydS yK (hr.mono (by omega)) T.yey rfl) rfl (Or.inl rfl)) (yc (ybK (yja (yho (ybz yqL (hr.mono (by omega)) yyx rfl T.yAS T.yuy.kp T.yAR (ya (z_v 1 ycG) ye rfl) rfl rfl) (fun _=>rfl))) (yj yfD) yy) (yj (yt (z_v 1 ycG)))))
theorem ymn (T:Txt K mg t) (yK:FnOk P w K mg base CX0 (2) t.ycw t.ycx ["self"] (spE (ybs K t) 1 yX)) (yqM:FnOk P w K mg base CX0 (2) t.ynI t.ynJ ["text"] (spE (ybs K t) 1 ylf)):FnOk P w K mg base CX0 (2+1) t.ycl t.ycm ["self"] (spE (ybs K t) 1 ybh):=by
 have fa:=T.fa
 exact zfn T.ymM yhN fun cdv Ar outer sh H E hr=>(yc (yL (i:=1) yhN.nd rfl (Or.inl rfl) (ybf (z_v 0 yf) (T.cl 10) T.ydS yK (hr.mono (by omega)) T.yey rfl) rfl (Or.inl rfl)) (yc (ybK (yja (yho (ybz yqM (hr.mono (by omega)) yyw rfl T.yAU T.yuz.kp T.yAT (ya (z_v 1 ycG) ye rfl) rfl rfl) (fun _=>rfl))) (yj yfD) yy) (yj (yt (z_v 1 ycG)))))
theorem ykQ (T:Txt K mg t) (yK:FnOk P w K mg base CX0 (2) t.ycw t.ycx ["self"] (spE (ybs K t) 1 yX)) (ymZ:FnOk P w K mg base CX0 (2) t.ykp t.ykq ["text"] (spE (ybs K t) 1 yiu)):FnOk P w K mg base CX0 (2+1) t.yds t.ydt ["self"] (spE (ybs K t) 1 ycz):=by
 have fa:=T.fa
 exact zfn T.ylq yeA fun cdv Ar outer sh H E hr=>(yc (yL (i:=1) yeA.nd rfl (Or.inl rfl) (ybf (z_v 0 yf) (T.cl 10) T.ydS yK (hr.mono (by omega)) T.yey rfl) rfl (Or.inl rfl)) (yc (yL (i:=2) yeA.nd rfl (Or.inl rfl) (ybz ymZ (hr.mono (by omega)) yuL rfl T.ywn T.yqq.kp T.ywm (ya (z_v 1 ycG) ye rfl) rfl rfl) rfl (Or.inl rfl)) (yc (ybK (yN ywy yCg (z_v 2 ylF) yqS (yI _)) (yj yfD) yy) (yj (yt (z_v 2 ylF))))))
theorem ykR (T:Txt K mg t) (yl:FnOk P w K mg base CX0 (3) t.ybA t.ybB ["self"] (spE (ybs K t) 1 ym)) (ygW:FnOk P w K mg base CX0 (1) t.yfk t.yfl ["self","word","slot","one","other"] (spI (ybs K t) 4 2 yfa)):FnOk P w K mg base CX0 (3+1) t.ydu t.ydv ["self","word"] (spE (ybs K t) 2 ycA):=by
 have fa:=T.fa
 exact zfn T.yls ydf fun cdv Ar outer sh H E hr=>(yc (yL (i:=2) ydf.nd rfl (Or.inl rfl) (ybf (z_v 0 yf) (T.cl 10) T.yB yl (hr.mono (by omega)) T.yH rfl) rfl (Or.inl rfl)) (yc (yL (i:=3) ydf.nd rfl (Or.inl rfl) (ybf (z_v 0 yf) (T.cl 10) T.yB yl (hr.mono (by omega)) T.yH rfl) rfl (Or.inl rfl)) (yc (yL (i:=4) ydf.nd rfl (Or.inl rfl) (ybf (z_v 0 yf) (T.cl 10) T.yB yl (hr.mono (by omega)) T.yH rfl) rfl (Or.inl rfl)) (yj (yt (yhE (yjK T.mk_Reckon ygW (hr.mono (by omega)) yuH rfl T.m_Reckon T.yos (ya (z_v 1 ycG) (ya (z_v 2 yft) (ya (z_v 3 yEd) (ya (z_v 4 yxs) ye rfl) rfl) rfl) rfl) rfl rfl)))))))
theorem ylG (T:Txt K mg t) (yjB:FnOk P w K mg base CX0 (1) t.yhf t.yhg ["self","slot","number"] (spI (ybs K t) 2 1 yhb)) (yjC:FnOk P w K mg base CX0 (1) t.yhh t.yhi ["self","place","slot"] (spI (ybs K t) 2 4 yhc)) (yba:FnOk P w K mg base CX0 (3) t.ycl t.ycm ["self"] (spE (ybs K t) 1 ybh)) (yeV:FnOk P w K mg base CX0 (3) t.yds t.ydt ["self"] (spE (ybs K t) 1 ycz)) (yeW:FnOk P w K mg base CX0 (4) t.ydu t.ydv ["self","word"] (spE (ybs K t) 2 ycA)) (yl:FnOk P w K mg base CX0 (3) t.ybA t.ybB ["self"] (spE (ybs K t) 1 ym)) (yiJ:FnOk P w K mg base CX0 (1) t.ygx t.ygy ["self","slot","place"] (spI (ybs K t) 2 3 ygm)) (yhI:FnOk P w K mg base CX0 (1) t.yfH t.yfI ["self","name","slot"] (spI (ybs K t) 2 8 yfE)) (yqN:FnOk P w K mg base CX0 (1) t.ynE t.ynF ["text"] (spE (ybs K t) 1 ynp)):FnOk P w K mg base CX0 (4+1) t.ycJ t.ycK ["self","word"] (spE (ybs K t) 2 ybL):=by
 have fa:=T.fa
 exact zfn T.ymh ycC fun cdv Ar outer sh H E hr=>(yc (ybK (yN ydN yjG (z_v 1 ycG) z_str (yI _)) (yc (yL (i:=2) ycC.nd rfl (Or.inl rfl) (ybf (z_v 0 yf) (T.cl 10) T.yB yl (hr.mono (by omega)) T.yH rfl) rfl (Or.inl rfl)) (yj (yt (yhE (yjK T.mk_Let yjB (hr.mono (by omega)) yEb rfl T.m_Let T.yrd (ya (z_v 2 yft) (ya (ybf (z_v 0 yf) (T.cl 10) T.ykM yeV (hr.mono (by omega)) T.ylr rfl) ye rfl) rfl) rfl rfl))))) yy) (yc (ybK (yN ydN yjG (z_v 1 ycG) z_str (yI _)) (yc (yL (i:=2) ycC.nd rfl (Or.inl rfl) (ybf (z_v 0 yf) (T.cl 10) T.yB yl (hr.mono (by omega)) T.yH rfl) rfl (Or.inl rfl)) (yj (yt (yhE (yjK T.mk_Take yiJ (hr.mono (by omega)) yAV rfl T.m_Take T.yqn (ya (z_v 2 yft) (ya (ybf (z_v 0 yf) (T.cl 10) T.yB yl (hr.mono (by omega)) T.yH rfl) ye rfl) rfl) rfl rfl))))) yy) (yc (ybK (yN ydN yjG (z_v 1 ycG) z_str (yI _)) (yc (yL (i:=3) ycC.nd rfl (Or.inl rfl) (ybf (z_v 0 yf) (T.cl 10) T.yB yl (hr.mono (by omega)) T.yH rfl) rfl (Or.inl rfl)) (yj (yt (yhE (yjK T.mk_Put yjC (hr.mono (by omega)) yEc rfl T.m_Put T.yrf (ya (z_v 3 ysR) (ya (ybf (z_v 0 yf) (T.cl 10) T.yB yl (hr.mono (by omega)) T.yH rfl) ye rfl) rfl) rfl rfl))))) yy) (yc (ybK (yN ydN yjG (z_v 1 ycG) z_str (yI _)) (yc (yL (i:=4) ycC.nd rfl (Or.inl rfl) (ybf (z_v 0 yf) (T.cl 10) T.yfs yba (hr.mono (by omega)) T.yfS rfl) rfl (Or.inl rfl)) (yj (yt (yhE (yjK T.mk_Throw yhI (hr.mono (by omega)) yxo rfl T.m_Throw T.yph (ya (z_v 4 yoz) (ya (ybf (z_v 0 yf) (T.cl 10) T.yB yl (hr.mono (by omega)) T.yH rfl) ye rfl) rfl) rfl rfl))))) yy) (yc (ybK (yN ydN yjG (z_v 1 ycG) z_str (yI _)) (yj (yt (yhE (yAc T.mk_Wait T.io_Wait T.kp_Wait ywq rfl T.m_Wait)))) yy) (yc (ybK (yho (ybz yqN (hr.mono (by omega)) yyy rfl T.yAQ T.yux.kp T.yAP (ya (z_v 1 ycG) ye rfl) rfl rfl) (fun _=>rfl)) (yj (yt (ybq (z_v 0 yf) (T.cl 10) T.ykO yeW (hr.mono (by omega)) T.ylt (ya (z_v 1 ycG) ye rfl) rfl rfl rfl))) yy) (yj yfD)))))))
structure yNe (P:Program) (w:World) (K:PySem.W.Frag) (mg:Str->Option Value) (base:Heap) (t:Ads) (n:Nat):Prop where
 yiK:FnOk P w K mg base CX0 (n+6) t.yem t.yen ["self","around"] (spE (ybs K t) 2 (ycj n))
 yiL:FnOk P w K mg base CX0 (n+6) t.ycn t.yco ["self","around"] (spE (ybs K t) 2 (yr n))
 yiM:FnOk P w K mg base CX0 (n+6) t.yfQ t.yfR ["self","around"] (spE (ybs K t) 2 (yY n))
 yjW:FnOk P w K mg base CX0 (n+6) t.ygT t.ygU ["self","around"] (spE (ybs K t) 2 (yfc n))
 yhB:FnOk P w K mg base CX0 (n+6) t.yeR t.yeS ["self","around"] (spE (ybs K t) 2 (ydj n))
 yjt:FnOk P w K mg base CX0 (n+6) t.ygB t.ygC ["self","around"] (spE (ybs K t) 2 (yeJ n))
theorem yBa (T:Txt K mg t) (yfo:FnOk P w K mg base CX0 (1) t.yfm t.yfn ["self","parts","others"] (spI (ybs K t) 2 6 yfb)) (yik:FnOk P w K mg base CX0 (1) t.yib t.yic ["self","slot","parts","others"] (spI (ybs K t) 3 5 yhV)) (yE:FnOk P w K mg base CX0 (1) t.ycU t.ycV ["self"] (spE (ybs K t) 1 yD)) (yba:FnOk P w K mg base CX0 (3) t.ycl t.ycm ["self"] (spE (ybs K t) 1 ybh)) (yn:FnOk P w K mg base CX0 (3) t.ybP t.ybQ ["self","wanted"] (spE (ybs K t) 2 yp)) (ybN:FnOk P w K mg base CX0 (5) t.ycJ t.ycK ["self","word"] (spE (ybs K t) 2 ybL)) (yl:FnOk P w K mg base CX0 (3) t.ybA t.ybB ["self"] (spE (ybs K t) 1 ym)) (yK:FnOk P w K mg base CX0 (2) t.ycw t.ycx ["self"] (spE (ybs K t) 1 yX)) (yhl:FnOk P w K mg base CX0 (1) t.yhj t.yhk ["self","parts","name","slot","others"] (spI (ybs K t) 4 7 yhd)) :∀ n,yNe P w K mg base t n
 | 0=>⟨yfW,yfW,yfW,yfW,yfW,yfW⟩
 | n+1=>by
  have fa:=T.fa
  have I:=yBa T yfo yik yE yba yn ybN yl yK yhl n
  have yde:=I.yiK
  have yo:=I.yiL
  have yfX:=I.yiM
  have yjX:=I.yjW
  have yhC:=I.yhB
  have yju:=I.yjt
  exact ⟨zfn T.ymN yhO fun cdv Ar outer sh H E hr=>(yc (ybK (ywS (yqT (yN ywy yCg (ybf (z_v 0 yf) (T.cl 10) T.ycb yE (hr.mono (by omega)) T.ycy rfl) yqS (yI _)) (ynn (yN ydN yjG (ybf (z_v 0 yf) (T.cl 10) T.ycb yE (hr.mono (by omega)) T.ycy rfl) z_str (yI _))))) (yj (yt (yhE (ygP ye)))) yy) (yc (yAd (i:=2) yhO.nd rfl (Or.inl rfl) (ygP (ya (ybq (z_v 0 yf) (T.cl 10) T.yhT yfX (hr.mono (by omega)) T.yiE (ya (z_v 1 ybr) ye rfl) rfl rfl rfl) ye rfl)) rfl (Or.inl rfl)) (yc (ywV 100 PassesOwn.never (yN ydN yjG (ybf (z_v 0 yf) (T.cl 10) T.ycb yE (hr.mono (by omega)) T.ycy rfl) z_str (yI _)) (yc (ygl (ybq (z_v 0 yf) (T.cl 10) T.yZ yn (hr.mono (by omega)) T.ybg (ya z_str ye rfl) rfl rfl rfl) rfl) (yj (ytV (yce (i:=2) rfl (Or.inl rfl) ycS.d ycS.c) (ybq (z_v 0 yf) (T.cl 10) T.yhT yfX (hr.mono (by omega)) T.yiE (ya (z_v 1 ybr) ye rfl) rfl rfl rfl) rfl rfl rfl rfl rfl rfl)))) (yAe 2 (yj (yt (z_v 2 ycS))))))),
   zfn T.ymO yhP fun cdv Ar outer sh H E hr=>(yc (ygl (ybq (z_v 0 yf) (T.cl 10) T.yZ yn (hr.mono (by omega)) T.ybg (ya z_str ye rfl) rfl rfl rfl) rfl) (yc (yL (i:=2) yhP.nd rfl (Or.inl rfl) (ybq (z_v 0 yf) (T.cl 10) T.yhS yde (hr.mono (by omega)) T.yiD (ya (z_v 1 ybr) ye rfl) rfl rfl rfl) rfl (Or.inl rfl)) (yc (ygl (ybq (z_v 0 yf) (T.cl 10) T.yZ yn (hr.mono (by omega)) T.ybg (ya z_str ye rfl) rfl rfl rfl) rfl) (yj (yt (z_v 2 ycS)))))),
   zfn T.ymP yhQ fun cdv Ar outer sh H E hr=>(yc (ybK (yN yuZ yFh (z_v 1 ybr) (ytS ymv rfl T.m_MOST_AROUND) (yI _)) (yj yfD) yy) (yc (yL (i:=2) yhQ.nd rfl (Or.inl rfl) (ybf (z_v 0 yf) (T.cl 10) T.ydS yK (hr.mono (by omega)) T.yey rfl) rfl (Or.inl rfl)) (yc (ybK (yN ydN yjG (z_v 2 ycG) z_str (yI _)) (yj (yt (ybq (z_v 0 yf) (T.cl 10) T.ynP yjX (hr.mono (by omega)) T.yoy (ya (ydH yeL yir (z_v 1 ybr) z_int) ye rfl) rfl rfl rfl))) yy) (yc (ybK (yN ydN yjG (z_v 2 ycG) z_str (yI _)) (yj (yt (ybq (z_v 0 yf) (T.cl 10) T.ykN yhC (hr.mono (by omega)) T.ylv (ya (ydH yeL yir (z_v 1 ybr) z_int) ye rfl) rfl rfl rfl))) yy) (yc (ybK (yN ydN yjG (z_v 2 ycG) z_str (yI _)) (yj (yt (ybq (z_v 0 yf) (T.cl 10) T.ymV yju (hr.mono (by omega)) T.ynM (ya (ydH yeL yir (z_v 1 ybr) z_int) ye rfl) rfl rfl rfl))) yy) (yj (yt (ybq (z_v 0 yf) (T.cl 10) T.yhz ybN (hr.mono (by omega)) T.yhR (ya (z_v 2 ycG) ye rfl) rfl rfl rfl)))))))),
   zfn T.yox yeK fun cdv Ar outer sh H E hr=>(yc (yL (i:=2) yeK.nd rfl (Or.inl rfl) (ybf (z_v 0 yf) (T.cl 10) T.yB yl (hr.mono (by omega)) T.yH rfl) rfl (Or.inl rfl)) (yc (yL (i:=3) yeK.nd rfl (Or.inl rfl) (ybq (z_v 0 yf) (T.cl 10) T.yJ yo (hr.mono (by omega)) T.yM (ya (z_v 1 ybr) ye rfl) rfl rfl rfl) rfl (Or.inl rfl)) (yc (ygl (ybq (z_v 0 yf) (T.cl 10) T.yZ yn (hr.mono (by omega)) T.ybg (ya z_str ye rfl) rfl rfl rfl) rfl) (yc (yL (i:=4) yeK.nd rfl (Or.inl rfl) (ybq (z_v 0 yf) (T.cl 10) T.yJ yo (hr.mono (by omega)) T.yM (ya (z_v 1 ybr) ye rfl) rfl rfl rfl) rfl (Or.inl rfl)) (yj (yt (yhE (yjK T.mk_If yik (hr.mono (by omega)) yDf rfl T.m_If T.ysE (ya (z_v 2 yft) (ya (z_v 3 ycS) (ya (z_v 4 yex) ye rfl) rfl) rfl) rfl rfl)))))))),
   zfn T.ylu yeB fun cdv Ar outer sh H E hr=>(yc (yL (i:=2) yeB.nd rfl (Or.inl rfl) (ybq (z_v 0 yf) (T.cl 10) T.yJ yo (hr.mono (by omega)) T.yM (ya (z_v 1 ybr) ye rfl) rfl rfl rfl) rfl (Or.inl rfl)) (yc (ygl (ybq (z_v 0 yf) (T.cl 10) T.yZ yn (hr.mono (by omega)) T.ybg (ya z_str ye rfl) rfl rfl rfl) rfl) (yc (yL (i:=3) yeB.nd rfl (Or.inl rfl) (ybq (z_v 0 yf) (T.cl 10) T.yJ yo (hr.mono (by omega)) T.yM (ya (z_v 1 ybr) ye rfl) rfl rfl rfl) rfl (Or.inl rfl)) (yj (yt (yhE (yjK T.mk_Either yfo (hr.mono (by omega)) ynQ rfl T.m_Either T.you (ya (z_v 2 ycS) (ya (z_v 3 yex) ye rfl) rfl) rfl rfl))))))),
   zfn T.ynL ydd fun cdv Ar outer sh H E hr=>(yc (yL (i:=2) ydd.nd rfl (Or.inl rfl) (ybq (z_v 0 yf) (T.cl 10) T.yJ yo (hr.mono (by omega)) T.yM (ya (z_v 1 ybr) ye rfl) rfl rfl rfl) rfl (Or.inl rfl)) (yc (ygl (ybq (z_v 0 yf) (T.cl 10) T.yZ yn (hr.mono (by omega)) T.ybg (ya z_str ye rfl) rfl rfl rfl) rfl) (yc (yL (i:=3) ydd.nd rfl (Or.inl rfl) (ybf (z_v 0 yf) (T.cl 10) T.yfs yba (hr.mono (by omega)) T.yfS rfl) rfl (Or.inl rfl)) (yc (yL (i:=4) ydd.nd rfl (Or.inl rfl) (ybf (z_v 0 yf) (T.cl 10) T.yB yl (hr.mono (by omega)) T.yH rfl) rfl (Or.inl rfl)) (yc (yL (i:=5) ydd.nd rfl (Or.inl rfl) (ybq (z_v 0 yf) (T.cl 10) T.yJ yo (hr.mono (by omega)) T.yM (ya (z_v 1 ybr) ye rfl) rfl rfl rfl) rfl (Or.inl rfl)) (yj (yt (yhE (yjK T.mk_Try yhl (hr.mono (by omega)) yxp rfl T.m_Try T.yrh (ya (z_v 2 ycS) (ya (z_v 3 yoz) (ya (z_v 4 yft) (ya (z_v 5 yex) ye rfl) rfl) rfl) rfl) rfl rfl)))))))))⟩
theorem yGr (T:Txt K mg t) (ycW:FnOk P w K mg base CX0 (1) t.ydQ t.ydR ["self","words"] (spI (ybs K t) 1 10 yci)) (yE:FnOk P w K mg base CX0 (1) t.ycU t.ycV ["self"] (spE (ybs K t) 1 yD)) (yde:FnOk P w K mg base CX0 (51) t.yem t.yen ["self","around"] (spE (ybs K t) 2 (ycj 45))) (ycp:FnOk P w K mg base CX0 (46) t.yix t.yiy ["parts"] (spE (ybs K t) 1 (ych 45))) (yiq:FnOk P w K mg base CX0 (1) t.yjO t.yjP ["text"] (spE (ybs K t) 1 ygQ)):FnOk P w K mg base CX0 (51+1) t.a_read t.d_read ["text"] (spE (ybs K t) 1 yud):=by
 have fa:=T.fa
 exact zfn T.F_read sc_read fun cdv Ar outer sh H E hr=>(yc (yL (i:=1) sc_read.nd rfl (Or.inl rfl) (yoe (yjK T.mk_Reader ycW (hr.mono (by omega)) yuG rfl T.m_Reader T.yjQ (ya (ybz yiq (hr.mono (by omega)) yqC rfl T.yrR T.yow.kp T.yrQ (ya (z_v 0 yfV) ye rfl) rfl rfl) ye rfl) rfl rfl)) rfl (Or.inl rfl)) (yc (yL (i:=2) sc_read.nd rfl (Or.inl rfl) (ybq (z_v 1 ynT) (T.cl 10) T.yhS yde (hr.mono (by omega)) T.yiD (ya z_int ye rfl) rfl rfl rfl) rfl (Or.inl rfl)) (yc (ybK (yN yza yDG (ybf (z_v 1 ynT) (T.cl 10) T.ycb yE (hr.mono (by omega)) T.ycy rfl) yqS (yI _)) (yj yfD) yy) (yc (ybK (yN yuZ yFh (ydH yeL yir (ybz ycp (hr.mono (by omega)) ydW rfl T.yeU T.yeq.kp T.yeT (ya (z_v 2 ysQ) ye rfl) rfl rfl) z_int) (ytS yoS rfl T.m_MOST_ROWS) (yI _)) (yj yfD) yy) (yj (yt (z_v 2 ysQ)))))))
theorem ymo (T:Txt K mg t) (yiN:FnOk P w K mg base CX0 (1) t.ygz t.ygA ["self","slot","parts","others"] (spI (ybs K t) 3 5 yeO)) (yn:FnOk P w K mg base CX0 (3) t.ybP t.ybQ ["self","wanted"] (spE (ybs K t) 2 yp)) (yo:FnOk P w K mg base CX0 (51) t.ycn t.yco ["self","around"] (spE (ybs K t) 2 (yr 45))) (yl:FnOk P w K mg base CX0 (3) t.ybA t.ybB ["self"] (spE (ybs K t) 1 ym)):FnOk P w K mg base CX0 (51+1) t.yeo t.yep ["self","around"] (spE (ybs K t) 2 yda):=by
 have fa:=T.fa
 exact zfn T.ymQ ydJ fun cdv Ar outer sh H E hr=>(yc (yL (i:=2) ydJ.nd rfl (Or.inl rfl) (ybf (z_v 0 yf) (T.cl 10) T.yB yl (hr.mono (by omega)) T.yH rfl) rfl (Or.inl rfl)) (yc (yL (i:=3) ydJ.nd rfl (Or.inl rfl) (ybq (z_v 0 yf) (T.cl 10) T.yJ yo (hr.mono (by omega)) T.yM (ya (z_v 1 ybr) ye rfl) rfl rfl rfl) rfl (Or.inl rfl)) (yc (ygl (ybq (z_v 0 yf) (T.cl 10) T.yZ yn (hr.mono (by omega)) T.ybg (ya z_str ye rfl) rfl rfl rfl) rfl) (yc (yL (i:=4) ydJ.nd rfl (Or.inl rfl) (ybq (z_v 0 yf) (T.cl 10) T.yJ yo (hr.mono (by omega)) T.yM (ya (z_v 1 ybr) ye rfl) rfl rfl rfl) rfl (Or.inl rfl)) (yj (yt (yoe (yjK T.mk_If_L yiN (hr.mono (by omega)) yDf rfl T.m_If T.yqp (ya (z_v 2 yft) (ya (z_v 3 ycS) (ya (z_v 4 yex) ye rfl) rfl) rfl) rfl rfl))))))))
theorem yjY (T:Txt K mg t) (yfY:FnOk P w K mg base CX0 (1) t.yek t.yel ["self","parts","others"] (spI (ybs K t) 2 6 ycZ)) (yn:FnOk P w K mg base CX0 (3) t.ybP t.ybQ ["self","wanted"] (spE (ybs K t) 2 yp)) (yo:FnOk P w K mg base CX0 (51) t.ycn t.yco ["self","around"] (spE (ybs K t) 2 (yr 45))):FnOk P w K mg base CX0 (51+1) t.ycQ t.ycR ["self","around"] (spE (ybs K t) 2 ybY):=by
 have fa:=T.fa
 exact zfn T.ykz ydP fun cdv Ar outer sh H E hr=>(yc (yL (i:=2) ydP.nd rfl (Or.inl rfl) (ybq (z_v 0 yf) (T.cl 10) T.yJ yo (hr.mono (by omega)) T.yM (ya (z_v 1 ybr) ye rfl) rfl rfl rfl) rfl (Or.inl rfl)) (yc (ygl (ybq (z_v 0 yf) (T.cl 10) T.yZ yn (hr.mono (by omega)) T.ybg (ya z_str ye rfl) rfl rfl rfl) rfl) (yc (yL (i:=3) ydP.nd rfl (Or.inl rfl) (ybq (z_v 0 yf) (T.cl 10) T.yJ yo (hr.mono (by omega)) T.yM (ya (z_v 1 ybr) ye rfl) rfl rfl rfl) rfl (Or.inl rfl)) (yj (yt (yoe (yjK T.mk_Either_L yfY (hr.mono (by omega)) ynQ rfl T.m_Either T.ymK (ya (z_v 2 ycS) (ya (z_v 3 yex) ye rfl) rfl) rfl rfl)))))))
theorem ylH (T:Txt K mg t) (yba:FnOk P w K mg base CX0 (3) t.ycl t.ycm ["self"] (spE (ybs K t) 1 ybh)) (yn:FnOk P w K mg base CX0 (3) t.ybP t.ybQ ["self","wanted"] (spE (ybs K t) 2 yp)) (yo:FnOk P w K mg base CX0 (51) t.ycn t.yco ["self","around"] (spE (ybs K t) 2 (yr 45))) (yl:FnOk P w K mg base CX0 (3) t.ybA t.ybB ["self"] (spE (ybs K t) 1 ym)) (yhJ:FnOk P w K mg base CX0 (1) t.yfJ t.yfK ["self","parts","name","slot","others"] (spI (ybs K t) 4 7 yew)):FnOk P w K mg base CX0 (51+1) t.ydK t.ydL ["self","around"] (spE (ybs K t) 2 ycI):=by
 have fa:=T.fa
 exact zfn T.ymi ycD fun cdv Ar outer sh H E hr=>(yc (yL (i:=2) ycD.nd rfl (Or.inl rfl) (ybq (z_v 0 yf) (T.cl 10) T.yJ yo (hr.mono (by omega)) T.yM (ya (z_v 1 ybr) ye rfl) rfl rfl rfl) rfl (Or.inl rfl)) (yc (ygl (ybq (z_v 0 yf) (T.cl 10) T.yZ yn (hr.mono (by omega)) T.ybg (ya z_str ye rfl) rfl rfl rfl) rfl) (yc (yL (i:=3) ycD.nd rfl (Or.inl rfl) (ybf (z_v 0 yf) (T.cl 10) T.yfs yba (hr.mono (by omega)) T.yfS rfl) rfl (Or.inl rfl)) (yc (yL (i:=4) ycD.nd rfl (Or.inl rfl) (ybf (z_v 0 yf) (T.cl 10) T.yB yl (hr.mono (by omega)) T.yH rfl) rfl (Or.inl rfl)) (yc (yL (i:=5) ycD.nd rfl (Or.inl rfl) (ybq (z_v 0 yf) (T.cl 10) T.yJ yo (hr.mono (by omega)) T.yM (ya (z_v 1 ybr) ye rfl) rfl rfl rfl) rfl (Or.inl rfl)) (yj (yt (yoe (yjK T.mk_Try_L yhJ (hr.mono (by omega)) yxp rfl T.m_Try T.ypj (ya (z_v 2 ycS) (ya (z_v 3 yoz) (ya (z_v 4 yft) (ya (z_v 5 yex) ye rfl) rfl) rfl) rfl) rfl rfl)))))))))
theorem ykS (T:Txt K mg t) (yeu:FnOk P w K mg base CX0 (52) t.ycQ t.ycR ["self","around"] (spE (ybs K t) 2 ybY)) (yfZ:FnOk P w K mg base CX0 (52) t.yeo t.yep ["self","around"] (spE (ybs K t) 2 yda)) (ybN:FnOk P w K mg base CX0 (5) t.ycJ t.ycK ["self","word"] (spE (ybs K t) 2 ybL)) (yK:FnOk P w K mg base CX0 (2) t.ycw t.ycx ["self"] (spE (ybs K t) 1 yX)) (yfu:FnOk P w K mg base CX0 (52) t.ydK t.ydL ["self","around"] (spE (ybs K t) 2 ycI)):FnOk P w K mg base CX0 (52+1) t.ydw t.ydx ["self","around"] (spE (ybs K t) 2 yC):=by
 have fa:=T.fa
 exact zfn T.ylw ygM fun cdv Ar outer sh H E hr=>(yc (ybK (yN yuZ yFh (z_v 1 ybr) (ytS ymv rfl T.m_MOST_AROUND) (yI _)) (yj yfD) yy) (yc (yL (i:=2) ygM.nd rfl (Or.inl rfl) (ybf (z_v 0 yf) (T.cl 10) T.ydS yK (hr.mono (by omega)) T.yey rfl) rfl (Or.inl rfl)) (yc (ybK (yN ydN yjG (z_v 2 ycG) z_str (yI _)) (yj (yt (ybq (z_v 0 yf) (T.cl 10) T.ymk yfZ (hr.mono (by omega)) T.ymR (ya (ydH yeL yir (z_v 1 ybr) z_int) ye rfl) rfl rfl rfl))) yy) (yc (ybK (yN ydN yjG (z_v 2 ycG) z_str (yI _)) (yj (yt (ybq (z_v 0 yf) (T.cl 10) T.yjT yeu (hr.mono (by omega)) T.ykA (ya (ydH yeL yir (z_v 1 ybr) z_int) ye rfl) rfl rfl rfl))) yy) (yc (ybK (yN ydN yjG (z_v 2 ycG) z_str (yI _)) (yj (yt (ybq (z_v 0 yf) (T.cl 10) T.ylC yfu (hr.mono (by omega)) T.ymj (ya (ydH yeL yir (z_v 1 ybr) z_int) ye rfl) rfl rfl rfl))) yy) (yj (yt (ybq (z_v 0 yf) (T.cl 10) T.yhz ybN (hr.mono (by omega)) T.yhR (ya (z_v 2 ycG) ye rfl) rfl rfl rfl))))))))
theorem ykT (T:Txt K mg t) (yE:FnOk P w K mg base CX0 (1) t.ycU t.ycV ["self"] (spE (ybs K t) 1 yD)) (ydB:FnOk P w K mg base CX0 (53) t.ydw t.ydx ["self","around"] (spE (ybs K t) 2 yC)) (yn:FnOk P w K mg base CX0 (3) t.ybP t.ybQ ["self","wanted"] (spE (ybs K t) 2 yp)):FnOk P w K mg base CX0 (53+1) t.ydy t.ydz ["self","around"] (spE (ybs K t) 2 ycB):=by
 have fa:=T.fa
 exact zfn T.ylx ygN fun cdv Ar outer sh H E hr=>(yc (ybK (ywS (yqT (yN ywy yCg (ybf (z_v 0 yf) (T.cl 10) T.ycb yE (hr.mono (by omega)) T.ycy rfl) yqS (yI _)) (ynn (yN ydN yjG (ybf (z_v 0 yf) (T.cl 10) T.ycb yE (hr.mono (by omega)) T.ycy rfl) z_str (yI _))))) (yj (yt (yoe (ygP ye)))) yy) (yc (yL (i:=2) ygN.nd rfl (Or.inl rfl) (yoe (ygP (ya (ybq (z_v 0 yf) (T.cl 10) T.ygO ydB (hr.mono (by omega)) T.yhy (ya (z_v 1 ybr) ye rfl) rfl rfl rfl) ye rfl))) rfl (Or.inl rfl)) (yc (ywV 100 PassesOwn.never (yN ydN yjG (ybf (z_v 0 yf) (T.cl 10) T.ycb yE (hr.mono (by omega)) T.ycy rfl) z_str (yI _)) (yc (ygl (ybq (z_v 0 yf) (T.cl 10) T.yZ yn (hr.mono (by omega)) T.ybg (ya z_str ye rfl) rfl rfl rfl) rfl) (yj (ygl (yGw PySem.F.plainAttrs_list PySem.F.slot_list_append PySem.F.type_list_append yni yDO (z_v 2 ycS) (ya (ybq (z_v 0 yf) (T.cl 10) T.ygO ydB (hr.mono (by omega)) T.yhy (ya (z_v 1 ybr) ye rfl) rfl rfl rfl) ye rfl) rfl rfl rfl rfl rfl) rfl)))) (yj (yt (z_v 2 ycS))))))
theorem yBb (T:Txt K mg t) (ycW:FnOk P w K mg base CX0 (1) t.ydQ t.ydR ["self","words"] (spI (ybs K t) 1 10 yci)) (yE:FnOk P w K mg base CX0 (1) t.ycU t.ycV ["self"] (spE (ybs K t) 1 yD)) (yeX:FnOk P w K mg base CX0 (54) t.ydy t.ydz ["self","around"] (spE (ybs K t) 2 ycB)) (ycp:FnOk P w K mg base CX0 (46) t.yix t.yiy ["parts"] (spE (ybs K t) 1 (ych 45))) (yiq:FnOk P w K mg base CX0 (1) t.yjO t.yjP ["text"] (spE (ybs K t) 1 ygQ)):FnOk P w K mg base CX0 (54+1) t.yps t.ypt ["text"] (spE (ybs K t) 1 ynq):=by
 have fa:=T.fa
 exact zfn T.yxn yqh fun cdv Ar outer sh H E hr=>(yc (yL (i:=1) yqh.nd rfl (Or.inl rfl) (yoe (yjK T.mk_Reader ycW (hr.mono (by omega)) yuG rfl T.m_Reader T.yjQ (ya (ybz yiq (hr.mono (by omega)) yqC rfl T.yrR T.yow.kp T.yrQ (ya (z_v 0 yfV) ye rfl) rfl rfl) ye rfl) rfl rfl)) rfl (Or.inl rfl)) (yc (yL (i:=2) yqh.nd rfl (Or.inl rfl) (ybq (z_v 1 ynT) (T.cl 10) T.ykP yeX (hr.mono (by omega)) T.yly (ya z_int ye rfl) rfl rfl rfl) rfl (Or.inl rfl)) (yc (ybK (yN yza yDG (ybf (z_v 1 ynT) (T.cl 10) T.ycb yE (hr.mono (by omega)) T.ycy rfl) yqS (yI _)) (yj yfD) yy) (yc (ybK (yN yuZ yFh (ydH yeL yir (yAh ycp (hr.mono (by omega)) ydW rfl T.yeU T.yeq.kp T.yeT (ya (z_v 2 ysQ) ye rfl) rfl rfl) z_int) (ytS yoS rfl T.m_MOST_ROWS) (yI _)) (yj yfD) yy) (yj (yt (z_v 2 ysQ)))))))
theorem ysV (T:Txt K mg t) :FnOk P w K mg base CX0 (0+1) t.yji t.yjj ["_law_found"] (spE (ybs K t) 1 yhp):=by
 have fa:=T.fa
 exact zfn T.yoN ysB fun cdv Ar outer sh H E hr=>(yj (yt (ytT (ynf ybI (yme (K:=ckX _ _) fa.isa) ybe rfl T.z_isinstance ybb (ya (z_v 0 ybx) (ya (yFE yxq rfl T.z_int ywE) ye rfl) rfl) rfl rfl) (yvG (yLq (ynf ybI (yme (K:=ckX _ _) fa.isa) ybe rfl T.z_isinstance ybb (ya (z_v 0 ybx) (ya (yFE yGo rfl T.z_bool yEF) ye rfl) rfl) rfl rfl))))))
theorem yuQ (T:Txt K mg t) :FnOk P w K mg base CX0 (0+1) t.yiz t.yiA ["_law_cell"] (spE (ybs K t) 1 yfO):=by
 have fa:=T.fa
 exact zfn T.ymS ydr fun cdv Ar outer sh H E hr=>(yc (ybK (yN ydN yjG (ydH yfC yjy (z_v 0 yG) z_int) z_int (yI _)) (yj (yt (yhF ypy yzJ (yhE (ygP (ya z_str (ya z_str (ya z_str (ya z_str (ya z_str (ya z_str (ya z_str (ya z_str ye rfl) rfl) rfl) rfl) rfl) rfl) rfl) rfl))) (ydH yfC yjy (ydH ydC yjx (z_v 0 yG) z_int) z_int) (fun _ _=>rfl)))) yy) (yc (yL (i:=1) ydr.nd rfl (Or.inl rfl) z_str rfl (Or.inl rfl)) (yc (yL (i:=2) ydr.nd rfl (Or.inl rfl) (ydH yeL yir z_int (ydH yfC yjy (ydH ydC yjx (z_v 0 yG) z_int) z_int)) rfl (Or.inl rfl)) (yc (yL (i:=3) ydr.nd rfl (Or.inl rfl) (ydH yfC yjy (ydH ydC yjx (z_v 0 yG) z_int) (z_v 2 yoX)) rfl (Or.inl rfl)) (yc (yL (i:=4) ydr.nd rfl (Or.inl rfl) z_str rfl (Or.inl rfl)) (yc (yrB PassesOwn.never rfl (yFI rfl T.z_range (ya (z_v 2 yoX) ye rfl) rfl) (ykb (i:=5) ydr.nd rfl (Or.inl rfl) (Or.inl rfl)) (yc (yL (i:=6) ydr.nd rfl (Or.inl rfl) (ydH yeL yir (ydH ydC yjx (z_v 0 yG) z_int) (ydH yyU yFf (z_v 5 yqy) (z_v 5 yqy))) rfl (Or.inl rfl)) (yc (ybK (yN ydN yjG (z_v 5 yqy) (z_v 3 yyv) (yI _)) (yj (yL (i:=6) ydr.nd rfl (Or.inl rfl) (ydH yeL yir (z_v 6 yoW) (ydH ydC yjx (z_v 0 yG) z_int)) rfl (Or.inl rfl))) yy) (yj (yL (i:=4) ydr.nd rfl (Or.inl rfl) (ydH ydO ykZ (z_v 4 yjU) (yhF yzk yFk (z_v 1 yqz) (ydH yfC yjy (z_v 6 yoW) z_int) (fun _ _=>rfl))) rfl (Or.inl rfl))))) (fun _=>rfl)) (yj (yt (z_v 4 yjU)))))))))
theorem yuR (T:Txt K mg t) :FnOk P w K mg base CX0 (0+1) t.yiB t.yiC ["_law_number_here"] (spE (ybs K t) 1 ydE):=by
 have fa:=T.fa
 exact zfn T.ygV yuu fun cdv Ar outer sh H E hr=>(yj (yt (yhF yzk yFk z_str (ydH yfC yjy (z_v 0 ymX) z_int) (fun _ _=>rfl))))
theorem yrp (T:Txt K mg t) :FnOk P w K mg base CX0 (0+1) t.yif t.yig ["_law_cell"] (spE (ybs K t) 1 ygn):=by
 have fa:=T.fa
 exact zfn T.ynN yra fun cdv Ar outer sh H E hr=>(yc (ybK (yN ydN yjG (ydH yfC yjy (z_v 0 yG) z_int) z_int (yI _)) (yj (yt (ydH yfC yjy (ydH ydC yjx (z_v 0 yG) z_int) z_int))) yy) (yc (ybK (yN ydN yjG (ydH yfC yjy (z_v 0 yG) z_int) z_int (yI _)) (yj (yt (ydH ywx yCf (ydH ywx yCf (ydH yyV yFg z_int z_int) z_int) (ydH yfC yjy (ydH ydC yjx (z_v 0 yG) z_int) z_int)))) yy) (yj (yt (ydH yfC yjy (ydH ydC yjx (z_v 0 yG) z_int) (ydH yyV yFg z_int z_int))))))
theorem ysW (T:Txt K mg t) (ygX:FnOk P w K mg base CX0 (1) t.yiz t.yiA ["_law_cell"] (spE (ybs K t) 1 yfO)) (ykJ:FnOk P w K mg base CX0 (1) t.yif t.yig ["_law_cell"] (spE (ybs K t) 1 ygn)) (yev:FnOk P w K mg base CX0 (1) t.yiB t.yiC ["_law_number_here"] (spE (ybs K t) 1 ydE)):FnOk P w K mg base CX0 (1+1) t.yjk t.yjl ["_law_cell"] (spE (ybs K t) 1 yhq):=by
 have fa:=T.fa
 exact zfn T.yoO ygw fun cdv Ar outer sh H E hr=>(yc (yL (i:=1) ygw.nd rfl (Or.inl rfl) (ydH yfC yjy (z_v 0 yG) z_int) rfl (Or.inl rfl)) (yc (yL (i:=2) ygw.nd rfl (Or.inl rfl) (ydH yfC yjy (ydH yyU yFf (ydH ydC yjx (z_v 0 yG) z_int) z_int) z_int) rfl (Or.inl rfl)) (yc (yL (i:=3) ygw.nd rfl (Or.inl rfl) (ybz yev (hr.mono (by omega)) yhA rfl T.yiG T.ygV.kp T.yiF (ya (z_v 2 ydA) ye rfl) rfl rfl) rfl (Or.inl rfl)) (yc (yL (i:=4) ygw.nd rfl (Or.inl rfl) (ybz yev (hr.mono (by omega)) yhA rfl T.yiG T.ygV.kp T.yiF (ya (ydH ydC yjx (z_v 2 ydA) z_int) ye rfl) rfl rfl) rfl (Or.inl rfl)) (yc (ybK (yN yxw yGu (z_v 1 yfT) z_int (yI _)) (yj (yt (ypM (ya z_str (ya (z_v 3 yer) (ya (ybz ykJ (hr.mono (by omega)) yrk rfl T.ysK T.ynN.kp T.ysJ (ya (ydH ydC yjx (z_v 0 yG) z_int) ye rfl) rfl rfl) ye rfl) rfl) rfl)))) yy) (yc (ybK (yN yxw yGu (z_v 1 yfT) z_int (yI _)) (yj (yt (ypM (ya (yhF ypy yzJ (yhE (ygP (ya z_str (ya z_str (ya z_str (ya z_str (ya z_str ye rfl) rfl) rfl) rfl) rfl))) (ydH yfC yjy (ydH ydC yjx (z_v 2 ydA) z_int) z_int) (fun _ _=>rfl)) (ya (z_v 3 yer) (ya (z_v 4 yes) (ya (ybz yev (hr.mono (by omega)) yhA rfl T.yiG T.ygV.kp T.yiF (ya (ydH ydC yjx (z_v 2 ydA) z_int) ye rfl) rfl rfl) ye rfl) rfl) rfl) rfl)))) yy) (yc (ybK (yN yxw yGu (z_v 1 yfT) z_int (yI _)) (yj (yt (ypM (ya z_str (ya (z_v 3 yer) (ya (z_v 4 yes) ye rfl) rfl) rfl)))) yy) (yc (ybK (yN yxw yGu (z_v 1 yfT) z_int (yI _)) (yj (yt (ypM (ya z_str (ya (z_v 3 yer) (ya (z_v 4 yes) ye rfl) rfl) rfl)))) yy) (yc (ybK (yN ydN yjG (z_v 1 yfT) z_int (yI _)) (yj (yt (ypM (ya z_str (ya (ybz ygX (hr.mono (by omega)) yoU rfl T.yqs T.ymS.kp T.yqr (ya (ydH ydC yjx (z_v 0 yG) z_int) ye rfl) rfl rfl) (ya (z_v 3 yer) ye rfl) rfl) rfl)))) yy) (yj (yt (ypM (ya z_str ye rfl)))))))))))))
theorem ysX (T:Txt K mg t) (ygX:FnOk P w K mg base CX0 (1) t.yiz t.yiA ["_law_cell"] (spE (ybs K t) 1 yfO)) (yev:FnOk P w K mg base CX0 (1) t.yiB t.yiC ["_law_number_here"] (spE (ybs K t) 1 ydE)):FnOk P w K mg base CX0 (1+1) t.yjm t.yjn ["_law_cell","_law_one","_law_other"] (spE (ybs K t) 3 yhr):=by
 have fa:=T.fa
 exact zfn T.yoP yia fun cdv Ar outer sh H E hr=>(yc (yL (i:=3) yia.nd rfl (Or.inl rfl) (ydH yfC yjy (ydH yyU yFf (z_v 0 yG) z_int) z_int) rfl (Or.inl rfl)) (yc (ybK (yN ydN yjG (ydH yfC yjy (z_v 3 ydA) z_int) z_int (yI _)) (yj (yIt (i:=1) (j:=2) rfl yia.nd rfl rfl (by decide) rfl rfl (ya (z_v 2 yes) (ya (z_v 1 yer) ye rfl) rfl) rfl rfl)) yy) (yc (yL (i:=4) yia.nd rfl (Or.inl rfl) (ydH yfC yjy (ydH ydC yjx (z_v 3 ydA) z_int) z_int) rfl (Or.inl rfl)) (yc (ybK (yN ydN yjG (z_v 4 yfT) z_int (yI _)) (yj (yt (ypM (ya z_str (ya (ybz yev (hr.mono (by omega)) yhA rfl T.yiG T.ygV.kp T.yiF (ya (ydH ydC yjx (z_v 3 ydA) z_int) ye rfl) rfl rfl) (ya (z_v 1 yer) (ya (z_v 2 yes) ye rfl) rfl) rfl) rfl)))) yy) (yc (ybK (yN ydN yjG (z_v 4 yfT) z_int (yI _)) (yj (yt (ypM (ya z_str (ya (z_v 1 yer) (ya (z_v 2 yes) ye rfl) rfl) rfl)))) yy) (yj (yt (ypM (ya z_str (ya (z_v 1 yer) (ya (ybz ygX (hr.mono (by omega)) yoU rfl T.yqs T.ymS.kp T.yqr (ya (z_v 0 yG) ye rfl) rfl rfl) (ya (ybz yev (hr.mono (by omega)) yhA rfl T.yiG T.ygV.kp T.yiF (ya (ydH ydC yjx (z_v 3 ydA) z_int) ye rfl) rfl rfl) (ya (z_v 2 yes) ye rfl) rfl) rfl) rfl) rfl)))))))))
theorem ysY (T:Txt K mg t) :FnOk P w K mg base CX0 (0+1) t.ygg t.ygh ["_law_part"] (spE (ybs K t) 1 ybt):=by
 have fa:=T.fa
 exact zfn T.yjq ysC fun cdv Ar outer sh H E hr=>(yc (ybK (yN ydN yjG (yhF ybS ydD (z_v 0 yh) z_int (fun _ _=>rfl)) z_str (yI _)) (yj (yt (yhE (ygP (ya (yhF ybS ydD (z_v 0 yh) z_int (fun _ _=>rfl)) (ya (yhF ybS ydD (z_v 0 yh) z_int (fun _ _=>rfl)) ye rfl) rfl))))) yy) (yc (ybK (yN ydN yjG (yhF ybS ydD (z_v 0 yh) z_int (fun _ _=>rfl)) z_str (yI _)) (yj (yt (yhE (ygP (ya (yhF ybS ydD (z_v 0 yh) z_int (fun _ _=>rfl)) (ya (yhF ybS ydD (z_v 0 yh) z_int (fun _ _=>rfl)) ye rfl) rfl))))) yy) (yc (ybK (yN ydN yjG (yhF ybS ydD (z_v 0 yh) z_int (fun _ _=>rfl)) z_str (yI _)) (yj (yt (yhE (ygP (ya (yhF ybS ydD (z_v 0 yh) z_int (fun _ _=>rfl)) (ya (yhF ybS ydD (z_v 0 yh) z_int (fun _ _=>rfl)) ye rfl) rfl))))) yy) (yj (yt (yhE (ygP ye)))))))
structure yNf (P:Program) (w:World) (K:PySem.W.Frag) (mg:Str->Option Value) (base:Heap) (t:Ads) (n:Nat):Prop where
 yoZ:FnOk P w K mg base CX0 (n+2) t.yjo t.yjp ["_law_parts"] (spE (ybs K t) 1 (ydU n))
theorem yBc (T:Txt K mg t) (ycf:FnOk P w K mg base CX0 (1) t.ygg t.ygh ["_law_part"] (spE (ybs K t) 1 ybt)) :∀ n,yNf P w K mg base t n
 | 0=>⟨yfW⟩
 | n+1=>by
  have fa:=T.fa
  have I:=yBc T ycf n
  have yhD:=I.yoZ
  exact ⟨zfn T.ylB yfj fun cdv Ar outer sh H E hr=>(yc (yL (i:=1) yfj.nd rfl (Or.inl rfl) (yMR yGY yKr z_int) rfl (Or.inl rfl)) (yc (yrB PassesOwn.never rfl (ymA (z_v 0 yR)) (ykb (i:=2) yfj.nd rfl (Or.inl rfl) (Or.inl rfl)) (yc (yrB PassesOwn.never rfl (ymA (ybz ycf (hr.mono (by omega)) ykE rfl T.ylA T.yjq.kp T.ylz (ya (z_v 2 yh) ye rfl) rfl rfl)) (ykb (i:=3) yfj.nd rfl (Or.inl rfl) (Or.inl rfl)) (yj (yL (i:=1) yfj.nd rfl (Or.inl rfl) (ynf (yng rfl) ywM yxr rfl T.z_max ywW (ya (z_v 1 ybx) (ya (ydH yeL yir z_int (ybz yhD (hr.mono (by omega)) ynR rfl T.yoR T.ylB.kp T.yoQ (ya (z_v 3 yoV) ye rfl) rfl rfl)) ye rfl) rfl) rfl rfl) rfl (Or.inl rfl))) (fun _=>rfl)) (yj (yL (i:=1) yfj.nd rfl (Or.inl rfl) (ynf (yng rfl) ywM yxr rfl T.z_max ywW (ya (z_v 1 ybx) (ya z_int ye rfl) rfl) rfl rfl) rfl (Or.inl rfl)))) (fun _=>rfl)) (yj (yt (z_v 1 ybx)))))⟩
structure yNg (P:Program) (w:World) (K:PySem.W.Frag) (mg:Str->Option Value) (base:Heap) (t:Ads) (n:Nat):Prop where
 yqO:FnOk P w K mg base CX0 (n+2) t.ykr t.yks ["_law_parts"] (spE (ybs K t) 1 (ydY n))
theorem yBd (T:Txt K mg t) (ycf:FnOk P w K mg base CX0 (1) t.ygg t.ygh ["_law_part"] (spE (ybs K t) 1 ybt)) :∀ n,yNg P w K mg base t n
 | 0=>⟨yfW⟩
 | n+1=>by
  have fa:=T.fa
  have I:=yBd T ycf n
  have yiO:=I.yqO
  exact ⟨zfn T.ymT yhv fun cdv Ar outer sh H E hr=>(yc (yL (i:=1) yhv.nd rfl (Or.inl rfl) z_int rfl (Or.inl rfl)) (yc (yrB PassesOwn.never rfl (ymA (z_v 0 yR)) (ykb (i:=2) yhv.nd rfl (Or.inl rfl) (Or.inl rfl)) (yc (yL (i:=1) yhv.nd rfl (Or.inl rfl) (ydH yeL yir (ydH yeL yir (z_v 1 ylE) z_int) (ynf (ywD rfl) yHI yEe rfl T.z_sum yDA (ya (yhE (ywU [] [] rfl (ymA (ybz ycf (hr.mono (by omega)) ykE rfl T.ylA T.yjq.kp T.ylz (ya (z_v 2 yh) ye rfl) rfl rfl)) True.intro (fun _ _ _ _ _ _=>(ybz yiO (hr.mono (by omega)) yoT rfl T.yqu T.ymT.kp T.yqt (ya (z_v 0 yoV) ye rfl) rfl rfl)) (by rfl') rfl (by rfl') (by rfl') (by rfl') rfl (fun _=>rfl))) ye rfl) rfl rfl)) rfl (Or.inl rfl)) (yj (yL (i:=1) yhv.nd rfl (Or.inl rfl) (ydH yeL yir (ydH yeL yir (z_v 1 ylE) (yCB ytf yDJ yxq rfl T.z_int ywE (ya (ypK ypz yFu (yhF ybS ydD (z_v 2 yh) z_int (fun _ _=>rfl)) (ypM (ya z_str (ya z_str (ya z_str ye rfl) rfl) rfl)) (by with_unfolding_all rfl)) ye rfl) rfl rfl)) (yCB ytf yDJ yxq rfl T.z_int ywE (ya (ypK ypz yFu (yhF ybS ydD (z_v 2 yh) z_int (fun _ _=>rfl)) (ypM (ya z_str (ya z_str ye rfl) rfl)) (by with_unfolding_all rfl)) ye rfl) rfl rfl)) rfl (Or.inl rfl)))) (fun _=>rfl)) (yj (yt (z_v 1 ylE)))))⟩
theorem yuS (T:Txt K mg t) (yiO:FnOk P w K mg base CX0 (17) t.ykr t.yks ["_law_parts"] (spE (ybs K t) 1 (ydY 15))) (ylI:FnOk P w K mg base CX0 (2) t.yjk t.yjl ["_law_cell"] (spE (ybs K t) 1 yhq)) (yhD:FnOk P w K mg base CX0 (17) t.yjo t.yjp ["_law_parts"] (spE (ybs K t) 1 (ydU 15))) (ylJ:FnOk P w K mg base CX0 (2) t.yjm t.yjn ["_law_cell","_law_one","_law_other"] (spE (ybs K t) 3 yhr)):FnOk P w K mg base CX0 (17+1) t.ykt t.yku ["_law_parts","_law_cell"] (spE (ybs K t) 2 ygR):=by
 have fa:=T.fa
 exact zfn T.yqv ygf fun cdv Ar outer sh H E hr=>(yc (yL (i:=1) ygf.nd rfl (Or.inl rfl) (ydH yfC yjy (z_v 1 yG) (ydH yyV yFg z_int z_int)) rfl (Or.inl rfl)) (yc (ybK (yN yuZ yFh (ydH yfC yjy (z_v 1 yG) z_int) z_int (yI _)) (yj (yL (i:=2) ygf.nd rfl (Or.inl rfl) (yhE (yIl yDx yHG (z_v 0 yR) (yhE (ygP (ya (ybz ylI (hr.mono (by omega)) ysN rfl T.yuD T.yoO.kp T.yuC (ya (ydH ydC yjx (z_v 1 yG) z_int) ye rfl) rfl rfl) ye rfl))))) rfl (Or.inl rfl))) (yc (yL (i:=3) ygf.nd rfl (Or.inl rfl) (ynf (yng rfl) ywM yxr rfl T.z_max ywW (ya z_int (ya (ydH ywx yCf (ynf yiY ywH yqB rfl T.z_len ypC (ya (z_v 0 yR) ye rfl) rfl rfl) (ydH yfC yjy (ydH ydC yjx (z_v 1 yG) z_int) z_int)) ye rfl) rfl) rfl rfl) rfl (Or.inl rfl)) (yc (yL (i:=4) ygf.nd rfl (Or.inl rfl) (ynf (yng rfl) ywM yxr rfl T.z_max ywW (ya z_int (ya (ydH ywx yCf (z_v 3 ymW) (ydH yfC yjy (ydH ydC yjx (z_v 1 yG) z_int) z_int)) ye rfl) rfl) rfl rfl) rfl (Or.inl rfl)) (yj (yL (i:=2) ygf.nd rfl (Or.inl rfl) (yhE (yIl yDx yHG (yhE (yCA yrV yCh (z_v 0 yR) yFG (ypN (z_v 4 yqA)))) (yhE (ygP (ya (ybz ylJ (hr.mono (by omega)) ysO rfl T.yuF T.yoP.kp T.yuE (ya (ydH ydC yjx (z_v 1 yG) z_int) (ya (yhE (yCA yrV yCh (z_v 0 yR) (ypN (z_v 3 ymW)) yFG)) (ya (yhE (yCA yrV yCh (z_v 0 yR) (ypN (z_v 4 yqA)) (ypN (z_v 3 ymW)))) ye rfl) rfl) rfl) rfl rfl) ye rfl))))) rfl (Or.inl rfl)))))) (yc (ybK (ywS (yqT (yN yuZ yFh (ybz yhD (hr.mono (by omega)) ynR rfl T.yoR T.ylB.kp T.yoQ (ya (z_v 2 ylD) ye rfl) rfl rfl) z_int (yI _)) (ynn (yN yuZ yFh (ybz yiO (hr.mono (by omega)) yoT rfl T.yqu T.ymT.kp T.yqt (ya (z_v 2 ylD) ye rfl) rfl rfl) z_int (yI _))))) (yj (yt (z_v 0 yR))) yy) (yj (yt (z_v 2 ylD))))))
structure yNh (P:Program) (w:World) (K:PySem.W.Frag) (mg:Str->Option Value) (base:Heap) (t:Ads) (n:Nat):Prop where
 yuT:FnOk P w K mg base CX0 (n+1) t.yqk t.yql ["_law_parts"] (spE (ybs K t) 1 (ydb n))
 yqP:FnOk P w K mg base CX0 (n+1) t.ykv t.ykw ["_law_parts"] (spE (ybs K t) 1 (ygS n))
theorem yBe (T:Txt K mg t)  :∀ n,yNh P w K mg base t n
 | 0=>⟨yfW,yfW⟩
 | n+1=>by
  have fa:=T.fa
  have I:=yBe T  n
  have yiP:=I.yuT
  have yiQ:=I.yqP
  exact ⟨zfn T.yiH yym fun cdv Ar outer sh H E hr=>(yc (ybK (yN (ypO (ypP hr)) yvE (z_v 0 yR) (yhE (ygP ye)) (yI _)) (yj (yt z_str)) yy) (yj (yt (ydH ydO ykZ (ydH ydO ykZ z_str (ybz yiQ (hr.mono (by omega)) yoY rfl T.yqx T.ymU.kp T.yqw (ya (z_v 0 yR) ye rfl) rfl rfl)) z_str)))),
   zfn T.ymU yje fun cdv Ar outer sh H E hr=>(yc (yAd (i:=1) yje.nd rfl (Or.inl rfl) (ygP ye) rfl (Or.inl rfl)) (yc (yrB PassesOwn.never rfl (ymA (z_v 0 yR)) (ykb (i:=2) yje.nd rfl (Or.inl rfl) (Or.inl rfl)) (yj (ybK (yN ydN yjG (yhF ybS ydD (z_v 2 yh) z_int (fun _ _=>rfl)) z_str (yI _)) (yj (ytV (yce (i:=1) rfl (Or.inl rfl) ybx.d ybx.c) (ydH ydO ykZ (ydH ydO ykZ (ydH ydO ykZ (ydH ydO ykZ (ydH ydO ykZ z_str (yhF ybS ydD (z_v 2 yh) z_int (fun _ _=>rfl))) z_str) (ybz yiP (hr.mono (by omega)) yip rfl T.yjS T.yiH.kp T.yjR (ya (yhF ybS ydD (z_v 2 yh) z_int (fun _ _=>rfl)) ye rfl) rfl rfl)) z_str) (ybz yiP (hr.mono (by omega)) yip rfl T.yjS T.yiH.kp T.yjR (ya (yhF ybS ydD (z_v 2 yh) z_int (fun _ _=>rfl)) ye rfl) rfl rfl)) rfl rfl rfl rfl rfl rfl)) (yj (ybK (yN ydN yjG (yhF ybS ydD (z_v 2 yh) z_int (fun _ _=>rfl)) z_str (yI _)) (yj (ytV (yce (i:=1) rfl (Or.inl rfl) ybx.d ybx.c) (ydH ydO ykZ (ydH ydO ykZ (ydH ydO ykZ z_str (ybz yiP (hr.mono (by omega)) yip rfl T.yjS T.yiH.kp T.yjR (ya (yhF ybS ydD (z_v 2 yh) z_int (fun _ _=>rfl)) ye rfl) rfl rfl)) z_str) (ybz yiP (hr.mono (by omega)) yip rfl T.yjS T.yiH.kp T.yjR (ya (yhF ybS ydD (z_v 2 yh) z_int (fun _ _=>rfl)) ye rfl) rfl rfl)) rfl rfl rfl rfl rfl rfl)) (yj (ybK (yN ydN yjG (yhF ybS ydD (z_v 2 yh) z_int (fun _ _=>rfl)) z_str (yI _)) (yc (yL (i:=3) yje.nd rfl (Or.inl rfl) (yhE (ygP (ya z_str (ya (ybz yiP (hr.mono (by omega)) yip rfl T.yjS T.yiH.kp T.yjR (ya (yhF ybS ydD (z_v 2 yh) z_int (fun _ _=>rfl)) ye rfl) rfl rfl) (ya z_str (ya (yhF ybS ydD (z_v 2 yh) z_int (fun _ _=>rfl)) (ya (yhF ybS ydD (z_v 2 yh) z_int (fun _ _=>rfl)) (ya (ybz yiP (hr.mono (by omega)) yip rfl T.yjS T.yiH.kp T.yjR (ya (yhF ybS ydD (z_v 2 yh) z_int (fun _ _=>rfl)) ye rfl) rfl rfl) ye rfl) rfl) rfl) rfl) rfl) rfl))) rfl (Or.inl rfl)) (yj (ytV (yce (i:=1) rfl (Or.inl rfl) ybx.d ybx.c) (yGw PySem.F.plainAttrs_str PySem.F.slot_str_join PySem.F.type_str_join yvi yzN z_str (ya (z_v 3 yuJ) ye rfl) rfl rfl rfl rfl rfl) rfl rfl rfl rfl rfl rfl))) (yj (ytV (yce (i:=1) rfl (Or.inl rfl) ybx.d ybx.c) (yGw PySem.F.plainAttrs_str PySem.F.slot_str_join PySem.F.type_str_join yvi yzN z_str (ya (yhE (ywU [] [] rfl (yIn (z_v 2 yh)) True.intro (fun _ _ _ _ _ _=>(yCB yAf yIh yJB rfl T.z_str yHn (ya (z_v 0 yuK) ye rfl) rfl rfl)) (by rfl') rfl (by rfl') (by rfl') (by rfl') rfl (fun _=>rfl))) ye rfl) rfl rfl rfl rfl rfl) rfl rfl rfl rfl rfl rfl)))))))) (fun _=>rfl)) (yAe 1 (yj (yt (yGw PySem.F.plainAttrs_str PySem.F.slot_str_join PySem.F.type_str_join yvi yzN z_str (ya (z_v 1 ybx) ye rfl) rfl rfl rfl rfl rfl))))))⟩
theorem yrq (T:Txt K mg t) (ylK:FnOk P w K mg base CX0 (1) t.yji t.yjj ["_law_found"] (spE (ybs K t) 1 yhp)):FnOk P w K mg base CX0 (1+1) t.yih t.yii ["_law_part","_law_due"] (spE (ybs K t) 2 yfd):=by
 have fa:=T.fa
 exact zfn T.ynO yrb fun cdv Ar outer sh H E hr=>(yc (ybK (yN ydN yjG (yhF ybS ydD (z_v 1 ybM) z_int (fun _ _=>rfl)) z_str (yI _)) (yj (yt (ytT (ynf ybI (yme (K:=ckX _ _) fa.isa) ybe rfl T.z_isinstance ybb (ya (z_v 0 yh) (ya (yjJ yEb rfl T.m_Let) ye rfl) rfl) rfl rfl) (ytT (ypK (ypO (ypP hr)) yvE (yhE (ygP (ya (yfN fa.fl_slot (z_v 0 yh) rfl) (ya (yfN fa.fl_number (z_v 0 yh) rfl) ye rfl) rfl))) (yhE (ygP (ya (yhF ybS ydD (z_v 1 ybM) z_int (fun _ _=>rfl)) (ya (yhF ybS ydD (z_v 1 ybM) z_int (fun _ _=>rfl)) ye rfl) rfl))) (yI _)) (yvG (ybz ylK (hr.mono (by omega)) ysP rfl T.yuB T.yoN.kp T.yuA (ya (yfN fa.fl_number (z_v 0 yh) rfl) ye rfl) rfl rfl)))))) yy) (yc (ybK (yN ydN yjG (yhF ybS ydD (z_v 1 ybM) z_int (fun _ _=>rfl)) z_str (yI _)) (yj (yt (ytT (ynf ybI (yme (K:=ckX _ _) fa.isa) ybe rfl T.z_isinstance ybb (ya (z_v 0 yh) (ya (yjJ yAV rfl T.m_Take) ye rfl) rfl) rfl rfl) (yvG (ypK (ypO (ypP hr)) yvE (yhE (ygP (ya (yfN fa.fl_slot (z_v 0 yh) rfl) (ya (yfN fa.fl_place (z_v 0 yh) rfl) ye rfl) rfl))) (yhE (ygP (ya (yhF ybS ydD (z_v 1 ybM) z_int (fun _ _=>rfl)) (ya (yhF ybS ydD (z_v 1 ybM) z_int (fun _ _=>rfl)) ye rfl) rfl))) (yI _)))))) yy) (yc (ybK (yN ydN yjG (yhF ybS ydD (z_v 1 ybM) z_int (fun _ _=>rfl)) z_str (yI _)) (yj (yt (ytT (ynf ybI (yme (K:=ckX _ _) fa.isa) ybe rfl T.z_isinstance ybb (ya (z_v 0 yh) (ya (yjJ yEc rfl T.m_Put) ye rfl) rfl) rfl rfl) (yvG (ypK (ypO (ypP hr)) yvE (yhE (ygP (ya (yfN fa.fl_place (z_v 0 yh) rfl) (ya (yfN fa.fl_slot (z_v 0 yh) rfl) ye rfl) rfl))) (yhE (ygP (ya (yhF ybS ydD (z_v 1 ybM) z_int (fun _ _=>rfl)) (ya (yhF ybS ydD (z_v 1 ybM) z_int (fun _ _=>rfl)) ye rfl) rfl))) (yI _)))))) yy) (yc (ybK (yN ydN yjG (yhF ybS ydD (z_v 1 ybM) z_int (fun _ _=>rfl)) z_str (yI _)) (yj (yt (ytT (ynf ybI (yme (K:=ckX _ _) fa.isa) ybe rfl T.z_isinstance ybb (ya (z_v 0 yh) (ya (yjJ yxo rfl T.m_Throw) ye rfl) rfl) rfl rfl) (yvG (ypK (ypO (ypP hr)) yvE (yhE (ygP (ya (yfN fa.fl_name (z_v 0 yh) rfl) (ya (yfN fa.fl_slot (z_v 0 yh) rfl) ye rfl) rfl))) (yhE (ygP (ya (yhF ybS ydD (z_v 1 ybM) z_int (fun _ _=>rfl)) (ya (yhF ybS ydD (z_v 1 ybM) z_int (fun _ _=>rfl)) ye rfl) rfl))) (yI _)))))) yy) (yc (ybK (yN ydN yjG (yhF ybS ydD (z_v 1 ybM) z_int (fun _ _=>rfl)) z_str (yI _)) (yj (yt (ynf ybI (yme (K:=ckX _ _) fa.isa) ybe rfl T.z_isinstance ybb (ya (z_v 0 yh) (ya (yjJ ywq rfl T.m_Wait) ye rfl) rfl) rfl rfl))) yy) (yc (ybK (yja (yho (ynf ybI (yme (K:=ckX _ _) fa.isa) ybe rfl T.z_isinstance ybb (ya (z_v 0 yh) (ya (yjJ yuH rfl T.m_Reckon) ye rfl) rfl) rfl rfl) (fun _=>rfl))) (yj (yt yAa)) yy) (yj (yt (ypK (ypO (ypP hr)) yvE (yhE (ygP (ya (yfN fa.fl_word (z_v 0 yh) rfl) (ya (yfN fa.fl_slot (z_v 0 yh) rfl) (ya (yfN fa.fl_one (z_v 0 yh) rfl) (ya (yfN fa.fl_other (z_v 0 yh) rfl) ye rfl) rfl) rfl) rfl))) (yhE (yjb ybO yeH yfU rfl T.z_list yfL (ya (z_v 1 ybM) ye rfl) rfl rfl)) (yI _))))))))))
structure yNi (P:Program) (w:World) (K:PySem.W.Frag) (mg:Str->Option Value) (base:Heap) (t:Ads) (n:Nat):Prop where
 yqQ:FnOk P w K mg base CX0 (n+3) t.ykx t.yky ["_law_parts","_law_due"] (spE (ybs K t) 2 (ydF n))
theorem yBf (T:Txt K mg t) (ycf:FnOk P w K mg base CX0 (1) t.ygg t.ygh ["_law_part"] (spE (ybs K t) 1 ybt)) (yil:FnOk P w K mg base CX0 (2) t.yih t.yii ["_law_part","_law_due"] (spE (ybs K t) 2 yfd)) :∀ n,yNi P w K mg base t n
 | 0=>⟨yfW⟩
 | n+1=>by
  have fa:=T.fa
  have I:=yBf T ycf yil n
  have yga:=I.yqQ
  exact ⟨zfn T.yiI yjf fun cdv Ar outer sh H E hr=>(yc (ybK (ywS (yqT (yja (yho (ynf ybI (yme (K:=ckX _ _) fa.isa) ybe rfl T.z_isinstance ybb (ya (z_v 0 yR) (ya (yFE yfU rfl T.z_list yfL) ye rfl) rfl) rfl rfl) (fun _=>rfl))) (ynn (yN yxv yGv (ynf yiY ywH yqB rfl T.z_len ypC (ya (z_v 0 yR) ye rfl) rfl rfl) (ynf yiY ywH yqB rfl T.z_len ypC (ya (z_v 1 ybM) ye rfl) rfl rfl) (yI _))))) (yj (yt yAa)) yy) (yc (yFM PassesOwn.never rfl rfl T.z_zip (ya (z_v 0 yR) (ya (z_v 1 ybM) ye rfl) rfl) rfl rfl (yIp rfl (ywT (ykb (i:=2) yjf.nd rfl (Or.inl rfl) (Or.inl rfl)) (ywT (ykb (i:=3) yjf.nd rfl (Or.inl rfl) (Or.inl rfl)) yFJ rfl) rfl) rfl rfl) (yc (ybK (yja (yho (ynf ybI (yme (K:=ckX _ _) fa.isa) ybe rfl T.z_isinstance ybb (ya (z_v 2 yh) (ya (yjJ yGm rfl T.m_Part) ye rfl) rfl) rfl rfl) (fun _=>rfl))) (yj (yt yAa)) yy) (yc (yL (i:=4) yjf.nd rfl (Or.inl rfl) (ybz ycf (hr.mono (by omega)) ykE rfl T.ylA T.yjq.kp T.ylz (ya (z_v 3 yet) ye rfl) rfl rfl) rfl (Or.inl rfl)) (yj (ybK (yN (ypO (ypP hr)) yvE (z_v 4 ygD) (yhE (ygP ye)) (yI _)) (yj (ybK (yja (yho (ybz yil (hr.mono (by omega)) yrm rfl T.ysM T.ynO.kp T.ysL (ya (z_v 2 yh) (ya (z_v 3 yet) ye rfl) rfl) rfl rfl) (fun _=>rfl))) (yj (yt yAa)) yy)) (yc (ybK (ywS (ytU (yN ydN yjG (yhF ybS ydD (z_v 3 yet) z_int (fun _ _=>rfl)) z_str (yI _)) (ypL (ywS (yqT (yja (yho (ynf ybI (yme (K:=ckX _ _) fa.isa) ybe rfl T.z_isinstance ybb (ya (z_v 2 yh) (ya (yjJ yDf rfl T.m_If) ye rfl) rfl) rfl rfl) (fun _=>rfl))) (ynn (yN yxv yGv (yfN fa.fl_slot (z_v 2 yh) rfl) (yhF ybS ydD (z_v 3 yet) z_int (fun _ _=>rfl)) (yI _)))))))) (yj (yt yAa)) yy) (yc (ybK (ywS (ytU (yN ydN yjG (yhF ybS ydD (z_v 3 yet) z_int (fun _ _=>rfl)) z_str (yI _)) (ypL (yja (yho (ynf ybI (yme (K:=ckX _ _) fa.isa) ybe rfl T.z_isinstance ybb (ya (z_v 2 yh) (ya (yjJ ynQ rfl T.m_Either) ye rfl) rfl) rfl rfl) (fun _=>rfl)))))) (yj (yt yAa)) yy) (yc (ybK (ywS (ytU (yN ydN yjG (yhF ybS ydD (z_v 3 yet) z_int (fun _ _=>rfl)) z_str (yI _)) (ypL (yja (yho (ynf ybI (yme (K:=ckX _ _) fa.isa) ybe rfl T.z_isinstance ybb (ya (z_v 2 yh) (ya (yjJ yxp rfl T.m_Try) ye rfl) rfl) rfl rfl) (fun _=>rfl)))))) (yj (yt yAa)) yy) (yc (ybK (ywS (ytU (yN ydN yjG (yhF ybS ydD (z_v 3 yet) z_int (fun _ _=>rfl)) z_str (yI _)) (ypL (ywS (yqT (yN yxv yGv (yfN fa.fl_name (z_v 2 yh) rfl) (yhF ybS ydD (z_v 3 yet) z_int (fun _ _=>rfl)) (yI _)) (ynn (yN yxv yGv (yfN fa.fl_slot (z_v 2 yh) rfl) (yhF ybS ydD (z_v 3 yet) z_int (fun _ _=>rfl)) (yI _)))))))) (yj (yt yAa)) yy) (yj (ybK (ywS (yqT (yja (yho (ybz yga (hr.mono (by omega)) yjr rfl T.ykC T.yiI.kp T.ykB (ya (yfN fa.fl_parts (z_v 2 yh) rfl) (ya (yhF ypy yzJ (z_v 4 ygD) z_int (fun _ _=>rfl)) ye rfl) rfl) rfl rfl) (fun _=>rfl))) (ynn (yja (yho (ybz yga (hr.mono (by omega)) yjr rfl T.ykC T.yiI.kp T.ykB (ya (yfN fa.fl_others (z_v 2 yh) rfl) (ya (yhF ypy yzJ (z_v 4 ygD) z_int (fun _ _=>rfl)) ye rfl) rfl) rfl rfl) (fun _=>rfl)))))) (yj (yt yAa)) yy)))))))))) (fun _=>rfl)) (yj (yt yAa))))⟩
theorem yJC (T:Txt K mg t) (yna:FnOk P w K mg base CX0 (18) t.ykt t.yku ["_law_parts","_law_cell"] (spE (ybs K t) 2 ygR)) (yga:FnOk P w K mg base CX0 (18) t.ykx t.yky ["_law_parts","_law_due"] (spE (ybs K t) 2 (ydF 15))) (yiQ:FnOk P w K mg base CX0 (31) t.ykv t.ykw ["_law_parts"] (spE (ybs K t) 1 (ygS 30))) (G_read:FnOk P w K mg base CX0 (52) t.a_read t.d_read ["text"] (spE (ybs K t) 1 yud)) (ysZ:FnOk P w K mg base CX0 (55) t.yps t.ypt ["text"] (spE (ybs K t) 1 ynq)):FnOk P w K mg base CX0 (55+1) t.a_law t.d_law ["_law_script"] (spE (ybs K t) 1 yCF):=by
 have fa:=T.fa
 exact zfn T.F_law sc_law fun cdv Ar outer sh H E hr=>(yc (yL (i:=1) sc_law.nd rfl (Or.inl rfl) (yhE (ygP ye)) rfl (Or.inl rfl)) (yc (yrB PassesOwn.never rfl (ymA (yhE (yCA yrV yCh (z_v 0 yrl) yFG (ypN z_int)))) (ykb (i:=2) sc_law.nd rfl (Or.inl rfl) (Or.inl rfl)) (yj (yL (i:=1) sc_law.nd rfl (Or.inl rfl) (ybz yna (hr.mono (by omega)) yuI rfl T.ywp T.yqv.kp T.ywo (ya (z_v 1 yR) (ya (z_v 2 yG) ye rfl) rfl) rfl rfl) rfl (Or.inl rfl))) (fun _=>rfl)) (yc (yL (i:=3) sc_law.nd rfl (Or.inl rfl) (ybz yiQ (hr.mono (by omega)) yoY rfl T.yqx T.ymU.kp T.yqw (ya (z_v 1 yR) ye rfl) rfl rfl) rfl (Or.inl rfl)) (yc (yL (i:=4) sc_law.nd rfl (Or.inl rfl) (ybz ysZ (hr.mono (by omega)) yAW rfl T.yDe T.yxn.kp T.yDd (ya (z_v 3 yjV) ye rfl) rfl rfl) rfl (Or.inl rfl)) (yc (ybK (yja (yho (yAh yga (hr.mono (by omega)) yjr rfl T.ykC T.yiI.kp T.ykB (ya (z_v 4 ykD) (ya (z_v 1 yR) ye rfl) rfl) rfl rfl) (fun _=>rfl))) (yj (yt yAa)) yy) (yc (yFL PassesOwn.never rfl (z_v 4 ykD) (ykb (i:=5) sc_law.nd rfl (Or.inl rfl) (Or.inl rfl)) (yj (ybK (ywS (yqT (yho (ynf ybI (yme (K:=ckX _ _) fa.isa) ybe rfl T.z_isinstance ybb (ya (z_v 5 yh) (ya (yjJ yDf rfl T.m_If) ye rfl) rfl) rfl rfl) (fun _=>rfl)) (yqT (yho (ynf ybI (yme (K:=ckX _ _) fa.isa) ybe rfl T.z_isinstance ybb (ya (z_v 5 yh) (ya (yjJ ynQ rfl T.m_Either) ye rfl) rfl) rfl rfl) (fun _=>rfl)) (ynn (yho (ynf ybI (yme (K:=ckX _ _) fa.isa) ybe rfl T.z_isinstance ybb (ya (z_v 5 yh) (ya (yjJ yxp rfl T.m_Try) ye rfl) rfl) rfl rfl) (fun _=>rfl)))))) (yc (ygl (yGw PySem.F.plainAttrs_list PySem.F.slot_list_append PySem.F.type_list_append yni yDO (yfN fa.fl_parts (z_v 5 yh) rfl) (ya (yhE (yAc T.mk_Wait T.io_Wait T.kp_Wait ywq rfl T.m_Wait)) ye rfl) rfl rfl rfl rfl rfl) rfl) (yj (ygl (yIm PySem.F.plainAttrs_list PySem.F.slot_list_clear PySem.F.type_list_clear ywB ywL (yfN fa.fl_others (z_v 5 yh) rfl) rfl rfl) rfl))) yy)) (fun _=>rfl)) (yc (ygl (yIm PySem.F.plainAttrs_list PySem.F.slot_list_clear PySem.F.type_list_clear ywB ywL (z_v 4 ykD) rfl rfl) rfl) (yj (yt (ybz yga (hr.mono (by omega)) yjr rfl T.ykC T.yiI.kp T.ykB (ya (ybz G_read (hr.mono (by omega)) yAW rfl T.m_read T.F_read.kp T.b_read (ya (z_v 3 yjV) ye rfl) rfl rfl) (ya (z_v 1 yR) ye rfl) rfl) rfl rfl))))))))))
noncomputable def yDk (K:PySem.W.Frag):Sp:=fun vs H Q _=>∃ (a:Addr) (ns:List Int),vs=[.ref a]/\SqL K H a (ns.map V.int)/\ns.length<=63/\∀ H',Q (.bl true) H'
theorem yJD {A:Nat->Addr}:∀ vs H Q E,yDk K vs H Q E->spE ⟨K,A⟩ 1 yCF vs H Q E:=by
 rintro _ H Q E ⟨a,ns,rfl,hS,hl,q⟩
 obtain ⟨h',e⟩:=yJz (h:=[]) ns hl
 exact ⟨⟨H,H,[],[]⟩,[.scr ns],.bl true,h',rfl,⟨Same.refl _,rfl,List.nodup_nil,fun n d a e=>by simp at e⟩,⟨.ref a,[],rfl,⟨a,rfl,hS⟩,rfl⟩,rfl,e,fun v W' _ _ rv=>by rw [show v=_ from rv];exact q _⟩
end
theorem all_mk {l:PySem.W.OpenLaw}{w:World}{K:PySem.W.Frag}{h:Heap}{mg:Str->Option Value}{fa CPart CLet CReckon CTake CPut CIf CEither CTry CThrow CWait CReader f1 f2 f3 f4 f5 f6 f7 f8 f9 f10 f11 f12 f13 f14 f15 f16 f17 f18 f19 f20 f21 f22 f23 f24 f25 f26 f27 f28 f29 f30 f31 f32 f33 f34 f35 f36 f37 f38 f39 f40 f41 f42 f43 f44 f45 f46 f47 f48 f49 f50 f51 f52 f53 f54 f55 f56 f57 f58 f59 f60 f61 f62 f63 f64 f65 u7:Addr}{u1 u2 u3 u4 u5 u6:Tok}(X:K.In h) (G:h.Ns mainGlobals mg) (hfa:mg "law" = some (.ref fa))
  {od1 an1 od2 an2 od3 an3 od4 an4 od5 an5 od6 an6 od7 an7 od8 an8 od9 an9 od10 an10 od11 an11 od12 an12 od13 an13 od14 an14 od15 an15 od16 an16 od17 an17 od18 an18 od19 an19 od20 an20 od21 an21 od22 an22 od23 an23 od24 an24 od25 an25 od26 an26 od27 an27 od28 an28 od29 an29 od30 an30 od31 an31 od32 an32 od33 an33 od34 an34 od35 an35 od36 an36 od37 an37 od38 an38 od39 an39 od40 an40 od41 an41 od42 an42 od43 an43 od44 an44 od45 an45 od46 an46 od47 an47 od48 an48 od49 an49 od50 an50 od51 an51 od52 an52 od53 an53 od54 an54 od55 an55 od56 an56 od57 an57 od58 an58 od59 an59 od60 an60 od61 an61 od62 an62 od63 an63 od64 an64 od65 an65:Option Addr}{sl1 sl2 sl3 sl4 sl5 sl6 sl7 sl8 sl9 sl10 sl11 sl12 sl13 sl14 sl15 sl16 sl17 sl18 sl19 sl20 sl21 sl22 sl23 sl24 sl25 sl26 sl27 sl28 sl29 sl30 sl31 sl32 sl33 sl34 sl35 sl36 sl37 sl38 sl39 sl40 sl41 sl42 sl43 sl44 sl45 sl46 sl47 sl48 sl49 sl50 sl51 sl52 sl53 sl54 sl55 sl56 sl57 sl58 sl59 sl60 sl61 sl62 sl63 sl64 sl65:Array (Option Value)}{oc1 kV1 dc1 pm1 cd1 ct1 oc2 kV2 dc2 pm2 cd2 ct2 oc3 kV3 dc3 pm3 cd3 ct3 oc4 kV4 dc4 pm4 cd4 ct4 oc5 kV5 dc5 pm5 cd5 ct5 oc6 kV6 dc6 pm6 cd6 ct6 oc7 kV7 dc7 pm7 cd7 ct7 oc8 kV8 dc8 pm8 cd8 ct8 oc9 kV9 dc9 pm9 cd9 ct9 oc10 kV10 dc10 pm10 cd10 ct10 oc11 kV11 dc11 pm11 cd11 ct11 oc12 kV12 dc12 pm12 cd12 ct12 oc13 kV13 dc13 pm13 cd13 ct13 oc14 kV14 dc14 pm14 cd14 ct14 oc15 kV15 dc15 pm15 cd15 ct15 oc16 kV16 dc16 pm16 cd16 ct16 oc17 kV17 dc17 pm17 cd17 ct17 oc18 kV18 dc18 pm18 cd18 ct18 oc19 kV19 dc19 pm19 cd19 ct19 oc20 kV20 dc20 pm20 cd20 ct20 oc21 kV21 dc21 pm21 cd21 ct21 oc22 kV22 dc22 pm22 cd22 ct22 oc23 kV23 dc23 pm23 cd23 ct23 oc24 kV24 dc24 pm24 cd24 ct24 oc25 kV25 dc25 pm25 cd25 ct25 oc26 kV26 dc26 pm26 cd26 ct26 oc27 kV27 dc27 pm27 cd27 ct27 oc28 kV28 dc28 pm28 cd28 ct28 oc29 kV29 dc29 pm29 cd29 ct29 oc30 kV30 dc30 pm30 cd30 ct30 oc31 kV31 dc31 pm31 cd31 ct31 oc32 kV32 dc32 pm32 cd32 ct32 oc33 kV33 dc33 pm33 cd33 ct33 oc34 kV34 dc34 pm34 cd34 ct34 oc35 kV35 dc35 pm35 cd35 ct35 oc36 kV36 dc36 pm36 cd36 ct36 oc37 kV37 dc37 pm37 cd37 ct37 oc38 kV38 dc38 pm38 cd38 ct38 oc39 kV39 dc39 pm39 cd39 ct39 oc40 kV40 dc40 pm40 cd40 ct40 oc41 kV41 dc41 pm41 cd41 ct41 oc42 kV42 dc42 pm42 cd42 ct42 oc43 kV43 dc43 pm43 cd43 ct43 oc44 kV44 dc44 pm44 cd44 ct44 oc45 kV45 dc45 pm45 cd45 ct45 oc46 kV46 dc46 pm46 cd46 ct46 oc47 kV47 dc47 pm47 cd47 ct47 oc48 kV48 dc48 pm48 cd48 ct48 oc49 kV49 dc49 pm49 cd49 ct49 oc50 kV50 dc50 pm50 cd50 ct50 oc51 kV51 dc51 pm51 cd51 ct51 oc52 kV52 dc52 pm52 cd52 ct52 oc53 kV53 dc53 pm53 cd53 ct53 oc54 kV54 dc54 pm54 cd54 ct54 oc55 kV55 dc55 pm55 cd55 ct55 oc56 kV56 dc56 pm56 cd56 ct56 oc57 kV57 dc57 pm57 cd57 ct57 oc58 kV58 dc58 pm58 cd58 ct58 oc59 kV59 dc59 pm59 cd59 ct59 oc60 kV60 dc60 pm60 cd60 ct60 oc61 kV61 dc61 pm61 cd61 ct61 oc62 kV62 dc62 pm62 cd62 ct62 oc63 kV63 dc63 pm63 cd63 ct63 oc64 kV64 dc64 pm64 cd64 ct64 oc65 kV65 dc65 pm65 cd65 ct65:Value}{qd7:Option Addr}{qn7:Nat}{qs7:Array (Option Value)}{qt7_0 qt7_1 qt7_2 qt7_3 qt7_4:Tok}
  (nCPart:nsIn K mainGlobals "Part" = some (some (.ref CPart)))
  (nCLet:nsIn K mainGlobals "Let" = some (some (.ref CLet)))
  (nCReckon:nsIn K mainGlobals "Reckon" = some (some (.ref CReckon)))
  (nCTake:nsIn K mainGlobals "Take" = some (some (.ref CTake)))
  (nCPut:nsIn K mainGlobals "Put" = some (some (.ref CPut)))
  (nCIf:nsIn K mainGlobals "If" = some (some (.ref CIf)))
  (nCEither:nsIn K mainGlobals "Either" = some (some (.ref CEither)))
  (nCTry:nsIn K mainGlobals "Try" = some (some (.ref CTry)))
  (nCThrow:nsIn K mainGlobals "Throw" = some (some (.ref CThrow)))
  (nCWait:nsIn K mainGlobals "Wait" = some (some (.ref CWait)))
  (nCReader:nsIn K mainGlobals "Reader" = some (some (.ref CReader)))
  (yiR:findIn K (.ref CLet) "__init__" = some (some (.ref f1)))
  (ygE:findIn K (.ref CReckon) "__init__" = some (some (.ref f2)))
  (yhK:findIn K (.ref CTake) "__init__" = some (some (.ref f3)))
  (yiS:findIn K (.ref CPut) "__init__" = some (some (.ref f4)))
  (yjD:findIn K (.ref CIf) "__init__" = some (some (.ref f5)))
  (yhL:findIn K (.ref CIf) "__init__" = some (some (.ref f16)))
  (ygF:findIn K (.ref CEither) "__init__" = some (some (.ref f6)))
  (yfv:findIn K (.ref CEither) "__init__" = some (some (.ref f17)))
  (yiT:findIn K (.ref CTry) "__init__" = some (some (.ref f7)))
  (ygY:findIn K (.ref CTry) "__init__" = some (some (.ref f18)))
  (ygZ:findIn K (.ref CThrow) "__init__" = some (some (.ref f8)))
  (ygG:findIn K (.ref CReader) "__init__" = some (some (.ref f28)))
  (ylL:findIn K (.ref CPart) "long" = some (some (.ref f9)))
  (ynb:findIn K (.ref CLet) "long" = some (some (.ref f10)))
  (yjE:findIn K (.ref CReckon) "long" = some (some (.ref f11)))
  (ylM:findIn K (.ref CTake) "long" = some (some (.ref f12)))
  (ync:findIn K (.ref CPut) "long" = some (some (.ref f13)))
  (yoD:findIn K (.ref CIf) "long" = some (some (.ref f20)))
  (yjF:findIn K (.ref CEither) "long" = some (some (.ref f21)))
  (ynd:findIn K (.ref CTry) "long" = some (some (.ref f22)))
  (ykK:findIn K (.ref CThrow) "long" = some (some (.ref f14)))
  (ylN:findIn K (.ref CWait) "long" = some (some (.ref f15)))
  (yiU:findIn K (.ref CReader) "ahead" = some (some (.ref f30)))
  (yiV:findIn K (.ref CReader) "taken" = some (some (.ref f31)))
  (ygb:findIn K (.ref CReader) "pass_over" = some (some (.ref f32)))
  (yfw:findIn K (.ref CReader) "slot_taken" = some (some (.ref f33)))
  (yfx:findIn K (.ref CReader) "name_taken" = some (some (.ref f34)))
  (yeC:findIn K (.ref CReader) "number_taken" = some (some (.ref f35)))
  (yfy:findIn K (.ref CReader) "list_taken" = some (some (.ref f38)))
  (yfz:findIn K (.ref CReader) "side_taken" = some (some (.ref f39)))
  (yfA:findIn K (.ref CReader) "part_taken" = some (some (.ref f40)))
  (ygH:findIn K (.ref CReader) "if_taken" = some (some (.ref f41)))
  (yeD:findIn K (.ref CReader) "either_taken" = some (some (.ref f42)))
  (ygc:findIn K (.ref CReader) "try_taken" = some (some (.ref f43)))
  (yeY:findIn K (.ref CReader) "plain_taken" = some (some (.ref f37)))
  (yeE:findIn K (.ref CReader) "reckon_taken" = some (some (.ref f36)))
  (yfB:findIn K (.ref CReader) "if_taken" = some (some (.ref f45)))
  (ydT:findIn K (.ref CReader) "either_taken" = some (some (.ref f46)))
  (yeZ:findIn K (.ref CReader) "try_taken" = some (some (.ref f47)))
  (yeF:findIn K (.ref CReader) "part_taken" = some (some (.ref f48)))
  (yeG:findIn K (.ref CReader) "list_taken" = some (some (.ref f49)))
  (i1:isFn K (.ref f1)=true)
  (l1:K.lookup f1=some ⟨oc1,od1,.func (fnOf "__init__" "Let.__init__" (yi ycr) (yg ycr) (yb ycr) .none kV1 dc1 pm1 an1 cd1 ct1),sl1⟩)
  (c1:codeIn K cd1 "Let.__init__" = true)
  (k1:keepIn K (.ref f1)=true)
  (i2:isFn K (.ref f2)=true)
  (l2:K.lookup f2=some ⟨oc2,od2,.func (fnOf "__init__" "Reckon.__init__" (yi ybD) (yg ybD) (yb ybD) .none kV2 dc2 pm2 an2 cd2 ct2),sl2⟩)
  (c2:codeIn K cd2 "Reckon.__init__" = true)
  (k2:keepIn K (.ref f2)=true)
  (i3:isFn K (.ref f3)=true)
  (l3:K.lookup f3=some ⟨oc3,od3,.func (fnOf "__init__" "Take.__init__" (yi ybZ) (yg ybZ) (yb ybZ) .none kV3 dc3 pm3 an3 cd3 ct3),sl3⟩)
  (c3:codeIn K cd3 "Take.__init__" = true)
  (k3:keepIn K (.ref f3)=true)
  (i4:isFn K (.ref f4)=true)
  (l4:K.lookup f4=some ⟨oc4,od4,.func (fnOf "__init__" "Put.__init__" (yi ycs) (yg ycs) (yb ycs) .none kV4 dc4 pm4 an4 cd4 ct4),sl4⟩)
  (c4:codeIn K cd4 "Put.__init__" = true)
  (k4:keepIn K (.ref f4)=true)
  (i5:isFn K (.ref f5)=true)
  (l5:K.lookup f5=some ⟨oc5,od5,.func (fnOf "__init__" "If.__init__" (yi ycL) (yg ycL) (yb ycL) .none kV5 dc5 pm5 an5 cd5 ct5),sl5⟩)
  (c5:codeIn K cd5 "If.__init__" = true)
  (k5:keepIn K (.ref f5)=true)
  (i6:isFn K (.ref f6)=true)
  (l6:K.lookup f6=some ⟨oc6,od6,.func (fnOf "__init__" "Either.__init__" (yi ybE) (yg ybE) (yb ybE) .none kV6 dc6 pm6 an6 cd6 ct6),sl6⟩)
  (c6:codeIn K cd6 "Either.__init__" = true)
  (k6:keepIn K (.ref f6)=true)
  (i7:isFn K (.ref f7)=true)
  (l7:K.lookup f7=some ⟨oc7,od7,.func (fnOf "__init__" "Try.__init__" (yi yct) (yg yct) (yb yct) .none kV7 dc7 pm7 an7 cd7 ct7),sl7⟩)
  (c7:codeIn K cd7 "Try.__init__" = true)
  (k7:keepIn K (.ref f7)=true)
  (i8:isFn K (.ref f8)=true)
  (l8:K.lookup f8=some ⟨oc8,od8,.func (fnOf "__init__" "Throw.__init__" (yi ybT) (yg ybT) (yb ybT) .none kV8 dc8 pm8 an8 cd8 ct8),sl8⟩)
  (c8:codeIn K cd8 "Throw.__init__" = true)
  (k8:keepIn K (.ref f8)=true)
  (i9:isFn K (.ref f9)=true)
  (l9:K.lookup f9=some ⟨oc9,od9,.func (fnOf "long" "Part.long" (yi ydZ) (yg ydZ) (yb ydZ) .none kV9 dc9 pm9 an9 cd9 ct9),sl9⟩)
  (c9:codeIn K cd9 "Part.long" = true)
  (k9:keepIn K (.ref f9)=true)
  (i10:isFn K (.ref f10)=true)
  (l10:K.lookup f10=some ⟨oc10,od10,.func (fnOf "long" "Let.long" (yi yff) (yg yff) (yb yff) .none kV10 dc10 pm10 an10 cd10 ct10),sl10⟩)
  (c10:codeIn K cd10 "Let.long" = true)
  (k10:keepIn K (.ref f10)=true)
  (i11:isFn K (.ref f11)=true)
  (l11:K.lookup f11=some ⟨oc11,od11,.func (fnOf "long" "Reckon.long" (yi ycM) (yg ycM) (yb ycM) .none kV11 dc11 pm11 an11 cd11 ct11),sl11⟩)
  (c11:codeIn K cd11 "Reckon.long" = true)
  (k11:keepIn K (.ref f11)=true)
  (i12:isFn K (.ref f12)=true)
  (l12:K.lookup f12=some ⟨oc12,od12,.func (fnOf "long" "Take.long" (yi yea) (yg yea) (yb yea) .none kV12 dc12 pm12 an12 cd12 ct12),sl12⟩)
  (c12:codeIn K cd12 "Take.long" = true)
  (k12:keepIn K (.ref f12)=true)
  (i13:isFn K (.ref f13)=true)
  (l13:K.lookup f13=some ⟨oc13,od13,.func (fnOf "long" "Put.long" (yi yfg) (yg yfg) (yb yfg) .none kV13 dc13 pm13 an13 cd13 ct13),sl13⟩)
  (c13:codeIn K cd13 "Put.long" = true)
  (k13:keepIn K (.ref f13)=true)
  (i14:isFn K (.ref f14)=true)
  (l14:K.lookup f14=some ⟨oc14,od14,.func (fnOf "long" "Throw.long" (yi ydk) (yg ydk) (yb ydk) .none kV14 dc14 pm14 an14 cd14 ct14),sl14⟩)
  (c14:codeIn K cd14 "Throw.long" = true)
  (k14:keepIn K (.ref f14)=true)
  (i15:isFn K (.ref f15)=true)
  (l15:K.lookup f15=some ⟨oc15,od15,.func (fnOf "long" "Wait.long" (yi yeb) (yg yeb) (yb yeb) .none kV15 dc15 pm15 an15 cd15 ct15),sl15⟩)
  (c15:codeIn K cd15 "Wait.long" = true)
  (k15:keepIn K (.ref f15)=true)
  (i16:isFn K (.ref f16)=true)
  (l16:K.lookup f16=some ⟨oc16,od16,.func (fnOf "__init__" "If.__init__" (yi yca) (yg yca) (yb yca) .none kV16 dc16 pm16 an16 cd16 ct16),sl16⟩)
  (c16:codeIn K cd16 "If.__init__" = true)
  (k16:keepIn K (.ref f16)=true)
  (i17:isFn K (.ref f17)=true)
  (l17:K.lookup f17=some ⟨oc17,od17,.func (fnOf "__init__" "Either.__init__" (yi ybi) (yg ybi) (yb ybi) .none kV17 dc17 pm17 an17 cd17 ct17),sl17⟩)
  (c17:codeIn K cd17 "Either.__init__" = true)
  (k17:keepIn K (.ref f17)=true)
  (i18:isFn K (.ref f18)=true)
  (l18:K.lookup f18=some ⟨oc18,od18,.func (fnOf "__init__" "Try.__init__" (yi ybU) (yg ybU) (yb ybU) .none kV18 dc18 pm18 an18 cd18 ct18),sl18⟩)
  (c18:codeIn K cd18 "Try.__init__" = true)
  (k18:keepIn K (.ref f18)=true)
  (a19:nsIn K mainGlobals "list_long" = some (some (.ref f19)))
  (l19:K.lookup f19=some ⟨oc19,od19,.func (fnOf "list_long" "list_long" (yi yec) (yg yec) (yb yec) .none kV19 dc19 pm19 an19 cd19 ct19),sl19⟩)
  (c19:codeIn K cd19 "list_long" = true)
  (k19:keepIn K (.ref f19)=true)
  (i20:isFn K (.ref f20)=true)
  (l20:K.lookup f20=some ⟨oc20,od20,.func (fnOf "long" "If.long" (yi ygr) (yg ygr) (yb ygr) .none kV20 dc20 pm20 an20 cd20 ct20),sl20⟩)
  (c20:codeIn K cd20 "If.long" = true)
  (k20:keepIn K (.ref f20)=true)
  (i21:isFn K (.ref f21)=true)
  (l21:K.lookup f21=some ⟨oc21,od21,.func (fnOf "long" "Either.long" (yi ycN) (yg ycN) (yb ycN) .none kV21 dc21 pm21 an21 cd21 ct21),sl21⟩)
  (c21:codeIn K cd21 "Either.long" = true)
  (k21:keepIn K (.ref f21)=true)
  (i22:isFn K (.ref f22)=true)
  (l22:K.lookup f22=some ⟨oc22,od22,.func (fnOf "long" "Try.long" (yi yfh) (yg yfh) (yb yfh) .none kV22 dc22 pm22 an22 cd22 ct22),sl22⟩)
  (c22:codeIn K cd22 "Try.long" = true)
  (k22:keepIn K (.ref f22)=true)
  (a23:nsIn K mainGlobals "is_made_of" = some (some (.ref f23)))
  (l23:K.lookup f23=some ⟨oc23,od23,.func (fnOf "is_made_of" "is_made_of" (yi ydl) (yg ydl) (yb ydl) .none kV23 dc23 pm23 an23 cd23 ct23),sl23⟩)
  (c23:codeIn K cd23 "is_made_of" = true)
  (k23:keepIn K (.ref f23)=true)
  (a24:nsIn K mainGlobals "number_of" = some (some (.ref f24)))
  (l24:K.lookup f24=some ⟨oc24,od24,.func (fnOf "number_of" "number_of" (yi yed) (yg yed) (yb yed) .none kV24 dc24 pm24 an24 cd24 ct24),sl24⟩)
  (c24:codeIn K cd24 "number_of" = true)
  (k24:keepIn K (.ref f24)=true)
  (a25:nsIn K mainGlobals "is_word" = some (some (.ref f25)))
  (l25:K.lookup f25=some ⟨oc25,od25,.func (fnOf "is_word" "is_word" (yi ygs) (yg ygs) (yb ygs) .none kV25 dc25 pm25 an25 cd25 ct25),sl25⟩)
  (c25:codeIn K cd25 "is_word" = true)
  (k25:keepIn K (.ref f25)=true)
  (a26:nsIn K mainGlobals "is_slot" = some (some (.ref f26)))
  (l26:K.lookup f26=some ⟨oc26,od26,.func (fnOf "is_slot" "is_slot" (yi ygt) (yg ygt) (yb ygt) .none kV26 dc26 pm26 an26 cd26 ct26),sl26⟩)
  (c26:codeIn K cd26 "is_slot" = true)
  (k26:keepIn K (.ref f26)=true)
  (a27:nsIn K mainGlobals "is_name" = some (some (.ref f27)))
  (l27:K.lookup f27=some ⟨oc27,od27,.func (fnOf "is_name" "is_name" (yi ygu) (yg ygu) (yb ygu) .none kV27 dc27 pm27 an27 cd27 ct27),sl27⟩)
  (c27:codeIn K cd27 "is_name" = true)
  (k27:keepIn K (.ref f27)=true)
  (i28:isFn K (.ref f28)=true)
  (l28:K.lookup f28=some ⟨oc28,od28,.func (fnOf "__init__" "Reader.__init__" (yi ybF) (yg ybF) (yb ybF) .none kV28 dc28 pm28 an28 cd28 ct28),sl28⟩)
  (c28:codeIn K cd28 "Reader.__init__" = true)
  (k28:keepIn K (.ref f28)=true)
  (a29:nsIn K mainGlobals "words_of" = some (some (.ref f29)))
  (l29:K.lookup f29=some ⟨oc29,od29,.func (fnOf "words_of" "words_of" (yi yfi) (yg yfi) (yb yfi) .none kV29 dc29 pm29 an29 cd29 ct29),sl29⟩)
  (c29:codeIn K cd29 "words_of" = true)
  (k29:keepIn K (.ref f29)=true)
  (i30:isFn K (.ref f30)=true)
  (l30:K.lookup f30=some ⟨oc30,od30,.func (fnOf "ahead" "Reader.ahead" (yi ycu) (yg ycu) (yb ycu) .none kV30 dc30 pm30 an30 cd30 ct30),sl30⟩)
  (c30:codeIn K cd30 "Reader.ahead" = true)
  (k30:keepIn K (.ref f30)=true)
  (i31:isFn K (.ref f31)=true)
  (l31:K.lookup f31=some ⟨oc31,od31,.func (fnOf "taken" "Reader.taken" (yi ycv) (yg ycv) (yb ycv) .none kV31 dc31 pm31 an31 cd31 ct31),sl31⟩)
  (c31:codeIn K cd31 "Reader.taken" = true)
  (k31:keepIn K (.ref f31)=true)
  (i32:isFn K (.ref f32)=true)
  (l32:K.lookup f32=some ⟨oc32,od32,.func (fnOf "pass_over" "Reader.pass_over" (yi ybv) (yg ybv) (yb ybv) .none kV32 dc32 pm32 an32 cd32 ct32),sl32⟩)
  (c32:codeIn K cd32 "Reader.pass_over" = true)
  (k32:keepIn K (.ref f32)=true)
  (i33:isFn K (.ref f33)=true)
  (l33:K.lookup f33=some ⟨oc33,od33,.func (fnOf "slot_taken" "Reader.slot_taken" (yi ybj) (yg ybj) (yb ybj) .none kV33 dc33 pm33 an33 cd33 ct33),sl33⟩)
  (c33:codeIn K cd33 "Reader.slot_taken" = true)
  (k33:keepIn K (.ref f33)=true)
  (i34:isFn K (.ref f34)=true)
  (l34:K.lookup f34=some ⟨oc34,od34,.func (fnOf "name_taken" "Reader.name_taken" (yi ybk) (yg ybk) (yb ybk) .none kV34 dc34 pm34 an34 cd34 ct34),sl34⟩)
  (c34:codeIn K cd34 "Reader.name_taken" = true)
  (k34:keepIn K (.ref f34)=true)
  (i35:isFn K (.ref f35)=true)
  (l35:K.lookup f35=some ⟨oc35,od35,.func (fnOf "number_taken" "Reader.number_taken" (yi yS) (yg yS) (yb yS) .none kV35 dc35 pm35 an35 cd35 ct35),sl35⟩)
  (c35:codeIn K cd35 "Reader.number_taken" = true)
  (k35:keepIn K (.ref f35)=true)
  (i36:isFn K (.ref f36)=true)
  (l36:K.lookup f36=some ⟨oc36,od36,.func (fnOf "reckon_taken" "Reader.reckon_taken" (yi yT) (yg yT) (yb yT) .none kV36 dc36 pm36 an36 cd36 ct36),sl36⟩)
  (c36:codeIn K cd36 "Reader.reckon_taken" = true)
  (k36:keepIn K (.ref f36)=true)
  (i37:isFn K (.ref f37)=true)
  (l37:K.lookup f37=some ⟨oc37,od37,.func (fnOf "plain_taken" "Reader.plain_taken" (yi ybc) (yg ybc) (yb ybc) .none kV37 dc37 pm37 an37 cd37 ct37),sl37⟩)
  (c37:codeIn K cd37 "Reader.plain_taken" = true)
  (k37:keepIn K (.ref f37)=true)
  (i38:isFn K (.ref f38)=true)
  (l38:K.lookup f38=some ⟨oc38,od38,.func (fnOf "list_taken" "Reader.list_taken" (yi ybl) (yg ybl) (yb ybl) .none kV38 dc38 pm38 an38 cd38 ct38),sl38⟩)
  (c38:codeIn K cd38 "Reader.list_taken" = true)
  (k38:keepIn K (.ref f38)=true)
  (i39:isFn K (.ref f39)=true)
  (l39:K.lookup f39=some ⟨oc39,od39,.func (fnOf "side_taken" "Reader.side_taken" (yi ybm) (yg ybm) (yb ybm) .none kV39 dc39 pm39 an39 cd39 ct39),sl39⟩)
  (c39:codeIn K cd39 "Reader.side_taken" = true)
  (k39:keepIn K (.ref f39)=true)
  (i40:isFn K (.ref f40)=true)
  (l40:K.lookup f40=some ⟨oc40,od40,.func (fnOf "part_taken" "Reader.part_taken" (yi ybn) (yg ybn) (yb ybn) .none kV40 dc40 pm40 an40 cd40 ct40),sl40⟩)
  (c40:codeIn K cd40 "Reader.part_taken" = true)
  (k40:keepIn K (.ref f40)=true)
  (i41:isFn K (.ref f41)=true)
  (l41:K.lookup f41=some ⟨oc41,od41,.func (fnOf "if_taken" "Reader.if_taken" (yi ybG) (yg ybG) (yb ybG) .none kV41 dc41 pm41 an41 cd41 ct41),sl41⟩)
  (c41:codeIn K cd41 "Reader.if_taken" = true)
  (k41:keepIn K (.ref f41)=true)
  (i42:isFn K (.ref f42)=true)
  (l42:K.lookup f42=some ⟨oc42,od42,.func (fnOf "either_taken" "Reader.either_taken" (yi yU) (yg yU) (yb yU) .none kV42 dc42 pm42 an42 cd42 ct42),sl42⟩)
  (c42:codeIn K cd42 "Reader.either_taken" = true)
  (k42:keepIn K (.ref f42)=true)
  (i43:isFn K (.ref f43)=true)
  (l43:K.lookup f43=some ⟨oc43,od43,.func (fnOf "try_taken" "Reader.try_taken" (yi ybw) (yg ybw) (yb ybw) .none kV43 dc43 pm43 an43 cd43 ct43),sl43⟩)
  (c43:codeIn K cd43 "Reader.try_taken" = true)
  (k43:keepIn K (.ref f43)=true)
  (a44:nsIn K mainGlobals "read" = some (some (.ref f44)))
  (l44:K.lookup f44=some ⟨oc44,od44,.func (fnOf "read" "read" (yi ynA) (yg ynA) (yb ynA) .none kV44 dc44 pm44 an44 cd44 ct44),sl44⟩)
  (c44:codeIn K cd44 "read" = true)
  (k44:keepIn K (.ref f44)=true)
  (i45:isFn K (.ref f45)=true)
  (l45:K.lookup f45=some ⟨oc45,od45,.func (fnOf "if_taken" "Reader.if_taken" (yi ybo) (yg ybo) (yb ybo) .none kV45 dc45 pm45 an45 cd45 ct45),sl45⟩)
  (c45:codeIn K cd45 "Reader.if_taken" = true)
  (k45:keepIn K (.ref f45)=true)
  (i46:isFn K (.ref f46)=true)
  (l46:K.lookup f46=some ⟨oc46,od46,.func (fnOf "either_taken" "Reader.either_taken" (yi yP) (yg yP) (yb yP) .none kV46 dc46 pm46 an46 cd46 ct46),sl46⟩)
  (c46:codeIn K cd46 "Reader.either_taken" = true)
  (k46:keepIn K (.ref f46)=true)
  (i47:isFn K (.ref f47)=true)
  (l47:K.lookup f47=some ⟨oc47,od47,.func (fnOf "try_taken" "Reader.try_taken" (yi ybd) (yg ybd) (yb ybd) .none kV47 dc47 pm47 an47 cd47 ct47),sl47⟩)
  (c47:codeIn K cd47 "Reader.try_taken" = true)
  (k47:keepIn K (.ref f47)=true)
  (i48:isFn K (.ref f48)=true)
  (l48:K.lookup f48=some ⟨oc48,od48,.func (fnOf "part_taken" "Reader.part_taken" (yi yV) (yg yV) (yb yV) .none kV48 dc48 pm48 an48 cd48 ct48),sl48⟩)
  (c48:codeIn K cd48 "Reader.part_taken" = true)
  (k48:keepIn K (.ref f48)=true)
  (i49:isFn K (.ref f49)=true)
  (l49:K.lookup f49=some ⟨oc49,od49,.func (fnOf "list_taken" "Reader.list_taken" (yi yW) (yg yW) (yb yW) .none kV49 dc49 pm49 an49 cd49 ct49),sl49⟩)
  (c49:codeIn K cd49 "Reader.list_taken" = true)
  (k49:keepIn K (.ref f49)=true)
  (a50:nsIn K mainGlobals "read" = some (some (.ref f50)))
  (l50:K.lookup f50=some ⟨oc50,od50,.func (fnOf "read" "read" (yi yhZ) (yg yhZ) (yb yhZ) .none kV50 dc50 pm50 an50 cd50 ct50),sl50⟩)
  (c50:codeIn K cd50 "read" = true)
  (k50:keepIn K (.ref f50)=true)
  (a51:nsIn K mainGlobals "_law_whole" = some (some (.ref f51)))
  (l51:K.lookup f51=some ⟨oc51,od51,.func (fnOf "_law_whole" "_law_whole" (yi ydm) (yg ydm) (yb ydm) .none kV51 dc51 pm51 an51 cd51 ct51),sl51⟩)
  (c51:codeIn K cd51 "_law_whole" = true)
  (k51:keepIn K (.ref f51)=true)
  (a52:nsIn K mainGlobals "_law_name" = some (some (.ref f52)))
  (l52:K.lookup f52=some ⟨oc52,od52,.func (fnOf "_law_name" "_law_name" (yi yee) (yg yee) (yb yee) .none kV52 dc52 pm52 an52 cd52 ct52),sl52⟩)
  (c52:codeIn K cd52 "_law_name" = true)
  (k52:keepIn K (.ref f52)=true)
  (a53:nsIn K mainGlobals "_law_slot" = some (some (.ref f53)))
  (l53:K.lookup f53=some ⟨oc53,od53,.func (fnOf "_law_slot" "_law_slot" (yi yef) (yg yef) (yb yef) .none kV53 dc53 pm53 an53 cd53 ct53),sl53⟩)
  (c53:codeIn K cd53 "_law_slot" = true)
  (k53:keepIn K (.ref f53)=true)
  (a54:nsIn K mainGlobals "_law_number" = some (some (.ref f54)))
  (l54:K.lookup f54=some ⟨oc54,od54,.func (fnOf "_law_number" "_law_number" (yi ycO) (yg ycO) (yb ycO) .none kV54 dc54 pm54 an54 cd54 ct54),sl54⟩)
  (c54:codeIn K cd54 "_law_number" = true)
  (k54:keepIn K (.ref f54)=true)
  (a55:nsIn K mainGlobals "_law_plain" = some (some (.ref f55)))
  (l55:K.lookup f55=some ⟨oc55,od55,.func (fnOf "_law_plain" "_law_plain" (yi ydn) (yg ydn) (yb ydn) .none kV55 dc55 pm55 an55 cd55 ct55),sl55⟩)
  (c55:codeIn K cd55 "_law_plain" = true)
  (k55:keepIn K (.ref f55)=true)
  (a56:nsIn K mainGlobals "_law_sided" = some (some (.ref f56)))
  (l56:K.lookup f56=some ⟨oc56,od56,.func (fnOf "_law_sided" "_law_sided" (yi ydo) (yg ydo) (yb ydo) .none kV56 dc56 pm56 an56 cd56 ct56),sl56⟩)
  (c56:codeIn K cd56 "_law_sided" = true)
  (k56:keepIn K (.ref f56)=true)
  (a57:nsIn K mainGlobals "_law_sides" = some (some (.ref f57)))
  (l57:K.lookup f57=some ⟨oc57,od57,.func (fnOf "_law_sides" "_law_sides" (yi ydp) (yg ydp) (yb ydp) .none kV57 dc57 pm57 an57 cd57 ct57),sl57⟩)
  (c57:codeIn K cd57 "_law_sides" = true)
  (k57:keepIn K (.ref f57)=true)
  (a58:nsIn K mainGlobals "_law_round" = some (some (.ref f58)))
  (l58:K.lookup f58=some ⟨oc58,od58,.func (fnOf "_law_round" "_law_round" (yi ydq) (yg ydq) (yb ydq) .none kV58 dc58 pm58 an58 cd58 ct58),sl58⟩)
  (c58:codeIn K cd58 "_law_round" = true)
  (k58:keepIn K (.ref f58)=true)
  (a59:nsIn K mainGlobals "_law_long" = some (some (.ref f59)))
  (l59:K.lookup f59=some ⟨oc59,od59,.func (fnOf "_law_long" "_law_long" (yi yeg) (yg yeg) (yb yeg) .none kV59 dc59 pm59 an59 cd59 ct59),sl59⟩)
  (c59:codeIn K cd59 "_law_long" = true)
  (k59:keepIn K (.ref f59)=true)
  (a60:nsIn K mainGlobals "_law_more" = some (some (.ref f60)))
  (l60:K.lookup f60=some ⟨oc60,od60,.func (fnOf "_law_more" "_law_more" (yi yeh) (yg yeh) (yb yeh) .none kV60 dc60 pm60 an60 cd60 ct60),sl60⟩)
  (c60:codeIn K cd60 "_law_more" = true)
  (k60:keepIn K (.ref f60)=true)
  (a61:nsIn K mainGlobals "_law_in" = some (some (.ref f61)))
  (l61:K.lookup f61=some ⟨oc61,od61,.func (fnOf "_law_in" "_law_in" (yi ygv) (yg ygv) (yb ygv) .none kV61 dc61 pm61 an61 cd61 ct61),sl61⟩)
  (c61:codeIn K cd61 "_law_in" = true)
  (k61:keepIn K (.ref f61)=true)
  (a62:nsIn K mainGlobals "_law_text" = some (some (.ref f62)))
  (l62:K.lookup f62=some ⟨oc62,od62,.func (fnOf "_law_text" "_law_text" (yi yei) (yg yei) (yb yei) .none kV62 dc62 pm62 an62 cd62 ct62),sl62⟩)
  (c62:codeIn K cd62 "_law_text" = true)
  (k62:keepIn K (.ref f62)=true)
  (a63:nsIn K mainGlobals "_law_values" = some (some (.ref f63)))
  (l63:K.lookup f63=some ⟨oc63,od63,.func (fnOf "_law_values" "_law_values" (yi ycP) (yg ycP) (yb ycP) .none kV63 dc63 pm63 an63 cd63 ct63),sl63⟩)
  (c63:codeIn K cd63 "_law_values" = true)
  (k63:keepIn K (.ref f63)=true)
  (a64:nsIn K mainGlobals "_law_same" = some (some (.ref f64)))
  (l64:K.lookup f64=some ⟨oc64,od64,.func (fnOf "_law_same" "_law_same" (yi yej) (yg yej) (yb yej) .none kV64 dc64 pm64 an64 cd64 ct64),sl64⟩)
  (c64:codeIn K cd64 "_law_same" = true)
  (k64:keepIn K (.ref f64)=true)
  (a65:nsIn K mainGlobals "law" = some (some (.ref f65)))
  (l65:K.lookup f65=some ⟨oc65,od65,.func (fnOf "law" "law" (yi ypd) (yg ypd) (yb ypd) .none kV65 dc65 pm65 an65 cd65 ct65),sl65⟩)
  (c65:codeIn K cd65 "law" = true)
  (k65:keepIn K (.ref f65)=true)
  (pgPart:plainGet K CPart Str.empty=true)
  (hdPart:hasDictIn K CPart=true)
  (poPart:plainOver K CPart=true)
  (saPart:findIn K (.ref CPart) "__setattr__" = some (some (.builtin "object.__setattr__")))
  (mkPart:makesIn K CPart=true)
  (kcPart:keepIn K (.ref CPart)=true)
  (ioPart:findIn K (.ref CPart) "__init__" = some (some (.builtin "object.__init__")))
  (haPart:findIn K (.ref CPart) "__class__" = some (some (.builtin "object.__class__")))
  (hmPart:mroIn K CPart (.type "object")=some true)
  (pgLet:plainGet K CLet Str.empty=true)
  (hdLet:hasDictIn K CLet=true)
  (poLet:plainOver K CLet=true)
  (saLet:findIn K (.ref CLet) "__setattr__" = some (some (.builtin "object.__setattr__")))
  (mkLet:makesIn K CLet=true)
  (kcLet:keepIn K (.ref CLet)=true)
  (haLet:findIn K (.ref CLet) "__class__" = some (some (.builtin "object.__class__")))
  (hmLet:mroIn K CLet (.type "object")=some true)
  (pgReckon:plainGet K CReckon Str.empty=true)
  (hdReckon:hasDictIn K CReckon=true)
  (poReckon:plainOver K CReckon=true)
  (saReckon:findIn K (.ref CReckon) "__setattr__" = some (some (.builtin "object.__setattr__")))
  (mkReckon:makesIn K CReckon=true)
  (kcReckon:keepIn K (.ref CReckon)=true)
  (haReckon:findIn K (.ref CReckon) "__class__" = some (some (.builtin "object.__class__")))
  (hmReckon:mroIn K CReckon (.type "object")=some true)
  (pgTake:plainGet K CTake Str.empty=true)
  (hdTake:hasDictIn K CTake=true)
  (poTake:plainOver K CTake=true)
  (saTake:findIn K (.ref CTake) "__setattr__" = some (some (.builtin "object.__setattr__")))
  (mkTake:makesIn K CTake=true)
  (kcTake:keepIn K (.ref CTake)=true)
  (haTake:findIn K (.ref CTake) "__class__" = some (some (.builtin "object.__class__")))
  (hmTake:mroIn K CTake (.type "object")=some true)
  (pgPut:plainGet K CPut Str.empty=true)
  (hdPut:hasDictIn K CPut=true)
  (poPut:plainOver K CPut=true)
  (saPut:findIn K (.ref CPut) "__setattr__" = some (some (.builtin "object.__setattr__")))
  (mkPut:makesIn K CPut=true)
  (kcPut:keepIn K (.ref CPut)=true)
  (haPut:findIn K (.ref CPut) "__class__" = some (some (.builtin "object.__class__")))
  (hmPut:mroIn K CPut (.type "object")=some true)
  (pgIf:plainGet K CIf Str.empty=true)
  (hdIf:hasDictIn K CIf=true)
  (poIf:plainOver K CIf=true)
  (saIf:findIn K (.ref CIf) "__setattr__" = some (some (.builtin "object.__setattr__")))
  (mkIf:makesIn K CIf=true)
  (kcIf:keepIn K (.ref CIf)=true)
  (haIf:findIn K (.ref CIf) "__class__" = some (some (.builtin "object.__class__")))
  (hmIf:mroIn K CIf (.type "object")=some true)
  (pgEither:plainGet K CEither Str.empty=true)
  (hdEither:hasDictIn K CEither=true)
  (poEither:plainOver K CEither=true)
  (saEither:findIn K (.ref CEither) "__setattr__" = some (some (.builtin "object.__setattr__")))
  (mkEither:makesIn K CEither=true)
  (kcEither:keepIn K (.ref CEither)=true)
  (haEither:findIn K (.ref CEither) "__class__" = some (some (.builtin "object.__class__")))
  (hmEither:mroIn K CEither (.type "object")=some true)
  (pgTry:plainGet K CTry Str.empty=true)
  (hdTry:hasDictIn K CTry=true)
  (poTry:plainOver K CTry=true)
  (saTry:findIn K (.ref CTry) "__setattr__" = some (some (.builtin "object.__setattr__")))
  (mkTry:makesIn K CTry=true)
  (kcTry:keepIn K (.ref CTry)=true)
  (haTry:findIn K (.ref CTry) "__class__" = some (some (.builtin "object.__class__")))
  (hmTry:mroIn K CTry (.type "object")=some true)
  (pgThrow:plainGet K CThrow Str.empty=true)
  (hdThrow:hasDictIn K CThrow=true)
  (poThrow:plainOver K CThrow=true)
  (saThrow:findIn K (.ref CThrow) "__setattr__" = some (some (.builtin "object.__setattr__")))
  (mkThrow:makesIn K CThrow=true)
  (kcThrow:keepIn K (.ref CThrow)=true)
  (haThrow:findIn K (.ref CThrow) "__class__" = some (some (.builtin "object.__class__")))
  (hmThrow:mroIn K CThrow (.type "object")=some true)
  (pgWait:plainGet K CWait Str.empty=true)
  (hdWait:hasDictIn K CWait=true)
  (poWait:plainOver K CWait=true)
  (saWait:findIn K (.ref CWait) "__setattr__" = some (some (.builtin "object.__setattr__")))
  (mkWait:makesIn K CWait=true)
  (kcWait:keepIn K (.ref CWait)=true)
  (ioWait:findIn K (.ref CWait) "__init__" = some (some (.builtin "object.__init__")))
  (haWait:findIn K (.ref CWait) "__class__" = some (some (.builtin "object.__class__")))
  (hmWait:mroIn K CWait (.type "object")=some true)
  (pgReader:plainGet K CReader Str.empty=true)
  (hdReader:hasDictIn K CReader=true)
  (poReader:plainOver K CReader=true)
  (saReader:findIn K (.ref CReader) "__setattr__" = some (some (.builtin "object.__setattr__")))
  (mkReader:makesIn K CReader=true)
  (kcReader:keepIn K (.ref CReader)=true)
  (naLet_slot:findIn K (.ref CLet) "slot" = some none)
  (naReckon_slot:findIn K (.ref CReckon) "slot" = some none)
  (naTake_slot:findIn K (.ref CTake) "slot" = some none)
  (naPut_slot:findIn K (.ref CPut) "slot" = some none)
  (naIf_slot:findIn K (.ref CIf) "slot" = some none)
  (naTry_slot:findIn K (.ref CTry) "slot" = some none)
  (naThrow_slot:findIn K (.ref CThrow) "slot" = some none)
  (naLet_number:findIn K (.ref CLet) "number" = some none)
  (naReckon_word:findIn K (.ref CReckon) "word" = some none)
  (naReckon_one:findIn K (.ref CReckon) "one" = some none)
  (naReckon_other:findIn K (.ref CReckon) "other" = some none)
  (naTake_place:findIn K (.ref CTake) "place" = some none)
  (naPut_place:findIn K (.ref CPut) "place" = some none)
  (naTry_name:findIn K (.ref CTry) "name" = some none)
  (naThrow_name:findIn K (.ref CThrow) "name" = some none)
  (naIf_parts:findIn K (.ref CIf) "parts" = some none)
  (naEither_parts:findIn K (.ref CEither) "parts" = some none)
  (naTry_parts:findIn K (.ref CTry) "parts" = some none)
  (naIf_others:findIn K (.ref CIf) "others" = some none)
  (naEither_others:findIn K (.ref CEither) "others" = some none)
  (naTry_others:findIn K (.ref CTry) "others" = some none)
  (naReader_words:findIn K (.ref CReader) "words" = some none)
  (naReader_at:findIn K (.ref CReader) "at" = some none)
  (sb1_0:subIn K (.ref CLet) (.ref CPart)=some true)
  (sb2_0:subIn K (.ref CReckon) (.ref CPart)=some true)
  (sb3_0:subIn K (.ref CTake) (.ref CPart)=some true)
  (sb4_0:subIn K (.ref CPut) (.ref CPart)=some true)
  (sb5_0:subIn K (.ref CIf) (.ref CPart)=some true)
  (sb6_0:subIn K (.ref CEither) (.ref CPart)=some true)
  (sb7_0:subIn K (.ref CTry) (.ref CPart)=some true)
  (sb8_0:subIn K (.ref CThrow) (.ref CPart)=some true)
  (sb9_0:subIn K (.ref CWait) (.ref CPart)=some true)
  (sb1_5:subIn K (.ref CLet) (.ref CIf)=some false)
  (ne1_5:(CLet == CIf)=false)
  (sb1_6:subIn K (.ref CLet) (.ref CEither)=some false)
  (ne1_6:(CLet == CEither)=false)
  (sb1_7:subIn K (.ref CLet) (.ref CTry)=some false)
  (ne1_7:(CLet == CTry)=false)
  (sb2_5:subIn K (.ref CReckon) (.ref CIf)=some false)
  (ne2_5:(CReckon == CIf)=false)
  (sb2_6:subIn K (.ref CReckon) (.ref CEither)=some false)
  (ne2_6:(CReckon == CEither)=false)
  (sb2_7:subIn K (.ref CReckon) (.ref CTry)=some false)
  (ne2_7:(CReckon == CTry)=false)
  (sb3_5:subIn K (.ref CTake) (.ref CIf)=some false)
  (ne3_5:(CTake == CIf)=false)
  (sb3_6:subIn K (.ref CTake) (.ref CEither)=some false)
  (ne3_6:(CTake == CEither)=false)
  (sb3_7:subIn K (.ref CTake) (.ref CTry)=some false)
  (ne3_7:(CTake == CTry)=false)
  (sb4_5:subIn K (.ref CPut) (.ref CIf)=some false)
  (ne4_5:(CPut == CIf)=false)
  (sb4_6:subIn K (.ref CPut) (.ref CEither)=some false)
  (ne4_6:(CPut == CEither)=false)
  (sb4_7:subIn K (.ref CPut) (.ref CTry)=some false)
  (ne4_7:(CPut == CTry)=false)
  (sb8_5:subIn K (.ref CThrow) (.ref CIf)=some false)
  (ne8_5:(CThrow == CIf)=false)
  (sb8_6:subIn K (.ref CThrow) (.ref CEither)=some false)
  (ne8_6:(CThrow == CEither)=false)
  (sb8_7:subIn K (.ref CThrow) (.ref CTry)=some false)
  (ne8_7:(CThrow == CTry)=false)
  (sb9_5:subIn K (.ref CWait) (.ref CIf)=some false)
  (ne9_5:(CWait == CIf)=false)
  (sb9_6:subIn K (.ref CWait) (.ref CEither)=some false)
  (ne9_6:(CWait == CEither)=false)
  (sb9_7:subIn K (.ref CWait) (.ref CTry)=some false)
  (ne9_7:(CWait == CTry)=false)
  (sb6_5:subIn K (.ref CEither) (.ref CIf)=some false)
  (ne6_5:(CEither == CIf)=false)
  (sb7_5:subIn K (.ref CTry) (.ref CIf)=some false)
  (ne7_5:(CTry == CIf)=false)
  (sb7_6:subIn K (.ref CTry) (.ref CEither)=some false)
  (ne7_6:(CTry == CEither)=false)
  (ty0:typeIn K (.ref CPart)=some (.type "type"))
  (ty5:typeIn K (.ref CIf)=some (.type "type"))
  (ty6:typeIn K (.ref CEither)=some (.type "type"))
  (ty7:typeIn K (.ref CTry)=some (.type "type"))
  (hn:PySem.W.specialIn K (.builtin "object.__class__") "__get__" = some (some (.builtin "getset_descriptor.__get__")))
  (htk:PySem.W.takesIn K (.builtin "object.__class__")=some true)
  (z1:nsIn K mainGlobals "all" = some none)
  (z2:nsIn K mainGlobals "bool" = some none)
  (z3:nsIn K mainGlobals "int" = some none)
  (z4:nsIn K mainGlobals "isinstance" = some none)
  (z5:nsIn K mainGlobals "len" = some none)
  (z6:nsIn K mainGlobals "list" = some none)
  (z7:nsIn K mainGlobals "max" = some none)
  (z8:nsIn K mainGlobals "range" = some none)
  (z9:nsIn K mainGlobals "str" = some none)
  (z10:nsIn K mainGlobals "sum" = some none)
  (z11:nsIn K mainGlobals "zip" = some none)
  (q1:nsIn K mainGlobals "FIGURES" = some (some (.str "0123456789" u1)))
  (q2:nsIn K mainGlobals "LETTERS" = some (some (.str "abcdefghijklmnopqrstuvwxyz" u2)))
  (q3:nsIn K mainGlobals "MOST_AROUND" = some (some (.int 8 u3)))
  (q4:nsIn K mainGlobals "MOST_ROWS" = some (some (.int 80 u4)))
  (q5:nsIn K mainGlobals "SLOTS" = some (some (.str "abcdefgh" u5)))
  (q6:nsIn K mainGlobals "WIDE" = some (some (.int 18446744073709551616 u6)))
  (q7:nsIn K mainGlobals "WORDS" = some (some (.ref u7)))
  (qk7:K.lookup u7=some ⟨.type "tuple",qd7,.seq #[.str "plus" qt7_0,.str "minus" qt7_1,.str "times" qt7_2,.str "less" qt7_3,.str "same" qt7_4] qn7,qs7⟩) :
  ∃ fd:FuncData,(∀ (s:Shared) (v:Value),BindsTo s fd ⟨[v],[]⟩ [("_law_script",v)])/\∀ base:Heap,K.In base->base.Ns mainGlobals mg->FnOk l.prog w K mg base CX0 56 fa fd ["_law_script"] (yDk K):=by
 have e:=hfa.symm.trans (mg_of X G a65)
 cases e
 have F1:=yQ (st:=ycr) l1 c1 k1
 have b1:=F1.binds (ps:=["self","slot","number"]) fun _ _ _ _ _ _=>ml3 fun _ _ _=>rfl
 have F2:=yQ (st:=ybD) l2 c2 k2
 have b2:=F2.binds (ps:=["self","word","slot","one","other"]) fun _ _ _ _ _ _=>ml5 fun _ _ _ _ _=>rfl
 have F3:=yQ (st:=ybZ) l3 c3 k3
 have b3:=F3.binds (ps:=["self","slot","place"]) fun _ _ _ _ _ _=>ml3 fun _ _ _=>rfl
 have F4:=yQ (st:=ycs) l4 c4 k4
 have b4:=F4.binds (ps:=["self","place","slot"]) fun _ _ _ _ _ _=>ml3 fun _ _ _=>rfl
 have F5:=yQ (st:=ycL) l5 c5 k5
 have b5:=F5.binds (ps:=["self","slot","parts","others"]) fun _ _ _ _ _ _=>ml4 fun _ _ _ _=>rfl
 have F6:=yQ (st:=ybE) l6 c6 k6
 have b6:=F6.binds (ps:=["self","parts","others"]) fun _ _ _ _ _ _=>ml3 fun _ _ _=>rfl
 have F7:=yQ (st:=yct) l7 c7 k7
 have b7:=F7.binds (ps:=["self","parts","name","slot","others"]) fun _ _ _ _ _ _=>ml5 fun _ _ _ _ _=>rfl
 have F8:=yQ (st:=ybT) l8 c8 k8
 have b8:=F8.binds (ps:=["self","name","slot"]) fun _ _ _ _ _ _=>ml3 fun _ _ _=>rfl
 have F9:=yQ (st:=ydZ) l9 c9 k9
 have b9:=F9.binds (ps:=["self"]) fun _ _ _ _ _ _=>ml1 fun _=>rfl
 have F10:=yQ (st:=yff) l10 c10 k10
 have b10:=F10.binds (ps:=["self"]) fun _ _ _ _ _ _=>ml1 fun _=>rfl
 have F11:=yQ (st:=ycM) l11 c11 k11
 have b11:=F11.binds (ps:=["self"]) fun _ _ _ _ _ _=>ml1 fun _=>rfl
 have F12:=yQ (st:=yea) l12 c12 k12
 have b12:=F12.binds (ps:=["self"]) fun _ _ _ _ _ _=>ml1 fun _=>rfl
 have F13:=yQ (st:=yfg) l13 c13 k13
 have b13:=F13.binds (ps:=["self"]) fun _ _ _ _ _ _=>ml1 fun _=>rfl
 have F14:=yQ (st:=ydk) l14 c14 k14
 have b14:=F14.binds (ps:=["self"]) fun _ _ _ _ _ _=>ml1 fun _=>rfl
 have F15:=yQ (st:=yeb) l15 c15 k15
 have b15:=F15.binds (ps:=["self"]) fun _ _ _ _ _ _=>ml1 fun _=>rfl
 have F16:=yQ (st:=yca) l16 c16 k16
 have b16:=F16.binds (ps:=["self","slot","parts","others"]) fun _ _ _ _ _ _=>ml4 fun _ _ _ _=>rfl
 have F17:=yQ (st:=ybi) l17 c17 k17
 have b17:=F17.binds (ps:=["self","parts","others"]) fun _ _ _ _ _ _=>ml3 fun _ _ _=>rfl
 have F18:=yQ (st:=ybU) l18 c18 k18
 have b18:=F18.binds (ps:=["self","parts","name","slot","others"]) fun _ _ _ _ _ _=>ml5 fun _ _ _ _ _=>rfl
 have F19:=yQ (st:=yec) l19 c19 k19
 have b19:=F19.binds (ps:=["parts"]) fun _ _ _ _ _ _=>ml1 fun _=>rfl
 have F20:=yQ (st:=ygr) l20 c20 k20
 have b20:=F20.binds (ps:=["self"]) fun _ _ _ _ _ _=>ml1 fun _=>rfl
 have F21:=yQ (st:=ycN) l21 c21 k21
 have b21:=F21.binds (ps:=["self"]) fun _ _ _ _ _ _=>ml1 fun _=>rfl
 have F22:=yQ (st:=yfh) l22 c22 k22
 have b22:=F22.binds (ps:=["self"]) fun _ _ _ _ _ _=>ml1 fun _=>rfl
 have F23:=yQ (st:=ydl) l23 c23 k23
 have b23:=F23.binds (ps:=["text","signs"]) fun _ _ _ _ _ _=>ml2 fun _ _=>rfl
 have F24:=yQ (st:=yed) l24 c24 k24
 have b24:=F24.binds (ps:=["text"]) fun _ _ _ _ _ _=>ml1 fun _=>rfl
 have F25:=yQ (st:=ygs) l25 c25 k25
 have b25:=F25.binds (ps:=["text"]) fun _ _ _ _ _ _=>ml1 fun _=>rfl
 have F26:=yQ (st:=ygt) l26 c26 k26
 have b26:=F26.binds (ps:=["text"]) fun _ _ _ _ _ _=>ml1 fun _=>rfl
 have F27:=yQ (st:=ygu) l27 c27 k27
 have b27:=F27.binds (ps:=["text"]) fun _ _ _ _ _ _=>ml1 fun _=>rfl
 have F28:=yQ (st:=ybF) l28 c28 k28
 have b28:=F28.binds (ps:=["self","words"]) fun _ _ _ _ _ _=>ml2 fun _ _=>rfl
 have F29:=yQ (st:=yfi) l29 c29 k29
 have b29:=F29.binds (ps:=["text"]) fun _ _ _ _ _ _=>ml1 fun _=>rfl
 have F30:=yQ (st:=ycu) l30 c30 k30
 have b30:=F30.binds (ps:=["self"]) fun _ _ _ _ _ _=>ml1 fun _=>rfl
 have F31:=yQ (st:=ycv) l31 c31 k31
 have b31:=F31.binds (ps:=["self"]) fun _ _ _ _ _ _=>ml1 fun _=>rfl
 have F32:=yQ (st:=ybv) l32 c32 k32
 have b32:=F32.binds (ps:=["self","wanted"]) fun _ _ _ _ _ _=>ml2 fun _ _=>rfl
 have F33:=yQ (st:=ybj) l33 c33 k33
 have b33:=F33.binds (ps:=["self"]) fun _ _ _ _ _ _=>ml1 fun _=>rfl
 have F34:=yQ (st:=ybk) l34 c34 k34
 have b34:=F34.binds (ps:=["self"]) fun _ _ _ _ _ _=>ml1 fun _=>rfl
 have F35:=yQ (st:=yS) l35 c35 k35
 have b35:=F35.binds (ps:=["self"]) fun _ _ _ _ _ _=>ml1 fun _=>rfl
 have F36:=yQ (st:=yT) l36 c36 k36
 have b36:=F36.binds (ps:=["self","word"]) fun _ _ _ _ _ _=>ml2 fun _ _=>rfl
 have F37:=yQ (st:=ybc) l37 c37 k37
 have b37:=F37.binds (ps:=["self","word"]) fun _ _ _ _ _ _=>ml2 fun _ _=>rfl
 have F38:=yQ (st:=ybl) l38 c38 k38
 have b38:=F38.binds (ps:=["self","around"]) fun _ _ _ _ _ _=>ml2 fun _ _=>rfl
 have F39:=yQ (st:=ybm) l39 c39 k39
 have b39:=F39.binds (ps:=["self","around"]) fun _ _ _ _ _ _=>ml2 fun _ _=>rfl
 have F40:=yQ (st:=ybn) l40 c40 k40
 have b40:=F40.binds (ps:=["self","around"]) fun _ _ _ _ _ _=>ml2 fun _ _=>rfl
 have F41:=yQ (st:=ybG) l41 c41 k41
 have b41:=F41.binds (ps:=["self","around"]) fun _ _ _ _ _ _=>ml2 fun _ _=>rfl
 have F42:=yQ (st:=yU) l42 c42 k42
 have b42:=F42.binds (ps:=["self","around"]) fun _ _ _ _ _ _=>ml2 fun _ _=>rfl
 have F43:=yQ (st:=ybw) l43 c43 k43
 have b43:=F43.binds (ps:=["self","around"]) fun _ _ _ _ _ _=>ml2 fun _ _=>rfl
 have F44:=yQ (st:=ynA) l44 c44 k44
 have b44:=F44.binds (ps:=["text"]) fun _ _ _ _ _ _=>ml1 fun _=>rfl
 have F45:=yQ (st:=ybo) l45 c45 k45
 have b45:=F45.binds (ps:=["self","around"]) fun _ _ _ _ _ _=>ml2 fun _ _=>rfl
 have F46:=yQ (st:=yP) l46 c46 k46
 have b46:=F46.binds (ps:=["self","around"]) fun _ _ _ _ _ _=>ml2 fun _ _=>rfl
 have F47:=yQ (st:=ybd) l47 c47 k47
 have b47:=F47.binds (ps:=["self","around"]) fun _ _ _ _ _ _=>ml2 fun _ _=>rfl
 have F48:=yQ (st:=yV) l48 c48 k48
 have b48:=F48.binds (ps:=["self","around"]) fun _ _ _ _ _ _=>ml2 fun _ _=>rfl
 have F49:=yQ (st:=yW) l49 c49 k49
 have b49:=F49.binds (ps:=["self","around"]) fun _ _ _ _ _ _=>ml2 fun _ _=>rfl
 have F50:=yQ (st:=yhZ) l50 c50 k50
 have b50:=F50.binds (ps:=["text"]) fun _ _ _ _ _ _=>ml1 fun _=>rfl
 have F51:=yQ (st:=ydm) l51 c51 k51
 have b51:=F51.binds (ps:=["_law_found"]) fun _ _ _ _ _ _=>ml1 fun _=>rfl
 have F52:=yQ (st:=yee) l52 c52 k52
 have b52:=F52.binds (ps:=["_law_cell"]) fun _ _ _ _ _ _=>ml1 fun _=>rfl
 have F53:=yQ (st:=yef) l53 c53 k53
 have b53:=F53.binds (ps:=["_law_number_here"]) fun _ _ _ _ _ _=>ml1 fun _=>rfl
 have F54:=yQ (st:=ycO) l54 c54 k54
 have b54:=F54.binds (ps:=["_law_cell"]) fun _ _ _ _ _ _=>ml1 fun _=>rfl
 have F55:=yQ (st:=ydn) l55 c55 k55
 have b55:=F55.binds (ps:=["_law_cell"]) fun _ _ _ _ _ _=>ml1 fun _=>rfl
 have F56:=yQ (st:=ydo) l56 c56 k56
 have b56:=F56.binds (ps:=["_law_cell","_law_one","_law_other"]) fun _ _ _ _ _ _=>ml3 fun _ _ _=>rfl
 have F57:=yQ (st:=ydp) l57 c57 k57
 have b57:=F57.binds (ps:=["_law_part"]) fun _ _ _ _ _ _=>ml1 fun _=>rfl
 have F58:=yQ (st:=ydq) l58 c58 k58
 have b58:=F58.binds (ps:=["_law_parts"]) fun _ _ _ _ _ _=>ml1 fun _=>rfl
 have F59:=yQ (st:=yeg) l59 c59 k59
 have b59:=F59.binds (ps:=["_law_parts"]) fun _ _ _ _ _ _=>ml1 fun _=>rfl
 have F60:=yQ (st:=yeh) l60 c60 k60
 have b60:=F60.binds (ps:=["_law_parts","_law_cell"]) fun _ _ _ _ _ _=>ml2 fun _ _=>rfl
 have F61:=yQ (st:=ygv) l61 c61 k61
 have b61:=F61.binds (ps:=["_law_parts"]) fun _ _ _ _ _ _=>ml1 fun _=>rfl
 have F62:=yQ (st:=yei) l62 c62 k62
 have b62:=F62.binds (ps:=["_law_parts"]) fun _ _ _ _ _ _=>ml1 fun _=>rfl
 have F63:=yQ (st:=ycP) l63 c63 k63
 have b63:=F63.binds (ps:=["_law_part","_law_due"]) fun _ _ _ _ _ _=>ml2 fun _ _=>rfl
 have F64:=yQ (st:=yej) l64 c64 k64
 have b64:=F64.binds (ps:=["_law_parts","_law_due"]) fun _ _ _ _ _ _=>ml2 fun _ _=>rfl
 have F65:=yQ (st:=ypd) l65 c65 k65
 have b65:=F65.binds (ps:=["_law_script"]) fun _ _ _ _ _ _=>ml1 fun _=>rfl
 let AA:Nat->Addr:=fun k=>match k with|0=>CPart|1=>CLet|2=>CReckon|3=>CTake|4=>CPut|5=>CIf|6=>CEither|7=>CTry|8=>CThrow|9=>CWait|10=>CReader|_=>CPart
 have CL:∀ k,Cls K (AA k):=fun k=>match k with|0=>⟨pgPart,hdPart,poPart,saPart⟩|1=>⟨pgLet,hdLet,poLet,saLet⟩|2=>⟨pgReckon,hdReckon,poReckon,saReckon⟩|3=>⟨pgTake,hdTake,poTake,saTake⟩|4=>⟨pgPut,hdPut,poPut,saPut⟩|5=>⟨pgIf,hdIf,poIf,saIf⟩|6=>⟨pgEither,hdEither,poEither,saEither⟩|7=>⟨pgTry,hdTry,poTry,saTry⟩|8=>⟨pgThrow,hdThrow,poThrow,saThrow⟩|9=>⟨pgWait,hdWait,poWait,saWait⟩|10=>⟨pgReader,hdReader,poReader,saReader⟩|_+11=>⟨pgPart,hdPart,poPart,saPart⟩
 have TY0:∀ (H:Hp) (a dx:Addr) (fs:List (Str×V)),H a=some (.ins CPart dx fs)->ypn K H (.ref a) (.ref CPart):=fun H a dx fs e=>.ins e (CL 0) haPart hn htk hmPart
 have TY1:∀ (H:Hp) (a dx:Addr) (fs:List (Str×V)),H a=some (.ins CLet dx fs)->ypn K H (.ref a) (.ref CLet):=fun H a dx fs e=>.ins e (CL 1) haLet hn htk hmLet
 have TY2:∀ (H:Hp) (a dx:Addr) (fs:List (Str×V)),H a=some (.ins CReckon dx fs)->ypn K H (.ref a) (.ref CReckon):=fun H a dx fs e=>.ins e (CL 2) haReckon hn htk hmReckon
 have TY3:∀ (H:Hp) (a dx:Addr) (fs:List (Str×V)),H a=some (.ins CTake dx fs)->ypn K H (.ref a) (.ref CTake):=fun H a dx fs e=>.ins e (CL 3) haTake hn htk hmTake
 have TY4:∀ (H:Hp) (a dx:Addr) (fs:List (Str×V)),H a=some (.ins CPut dx fs)->ypn K H (.ref a) (.ref CPut):=fun H a dx fs e=>.ins e (CL 4) haPut hn htk hmPut
 have TY5:∀ (H:Hp) (a dx:Addr) (fs:List (Str×V)),H a=some (.ins CIf dx fs)->ypn K H (.ref a) (.ref CIf):=fun H a dx fs e=>.ins e (CL 5) haIf hn htk hmIf
 have TY6:∀ (H:Hp) (a dx:Addr) (fs:List (Str×V)),H a=some (.ins CEither dx fs)->ypn K H (.ref a) (.ref CEither):=fun H a dx fs e=>.ins e (CL 6) haEither hn htk hmEither
 have TY7:∀ (H:Hp) (a dx:Addr) (fs:List (Str×V)),H a=some (.ins CTry dx fs)->ypn K H (.ref a) (.ref CTry):=fun H a dx fs e=>.ins e (CL 7) haTry hn htk hmTry
 have TY8:∀ (H:Hp) (a dx:Addr) (fs:List (Str×V)),H a=some (.ins CThrow dx fs)->ypn K H (.ref a) (.ref CThrow):=fun H a dx fs e=>.ins e (CL 8) haThrow hn htk hmThrow
 have TY9:∀ (H:Hp) (a dx:Addr) (fs:List (Str×V)),H a=some (.ins CWait dx fs)->ypn K H (.ref a) (.ref CWait):=fun H a dx fs e=>.ins e (CL 9) haWait hn htk hmWait
 have T:Txt K mg ⟨AA,f1,fnOf "__init__" "Let.__init__" (yi ycr) (yg ycr) (yb ycr) .none kV1 dc1 pm1 an1 cd1 ct1,f2,fnOf "__init__" "Reckon.__init__" (yi ybD) (yg ybD) (yb ybD) .none kV2 dc2 pm2 an2 cd2 ct2,f3,fnOf "__init__" "Take.__init__" (yi ybZ) (yg ybZ) (yb ybZ) .none kV3 dc3 pm3 an3 cd3 ct3,f4,fnOf "__init__" "Put.__init__" (yi ycs) (yg ycs) (yb ycs) .none kV4 dc4 pm4 an4 cd4 ct4,f5,fnOf "__init__" "If.__init__" (yi ycL) (yg ycL) (yb ycL) .none kV5 dc5 pm5 an5 cd5 ct5,f6,fnOf "__init__" "Either.__init__" (yi ybE) (yg ybE) (yb ybE) .none kV6 dc6 pm6 an6 cd6 ct6,f7,fnOf "__init__" "Try.__init__" (yi yct) (yg yct) (yb yct) .none kV7 dc7 pm7 an7 cd7 ct7,f8,fnOf "__init__" "Throw.__init__" (yi ybT) (yg ybT) (yb ybT) .none kV8 dc8 pm8 an8 cd8 ct8,f9,fnOf "long" "Part.long" (yi ydZ) (yg ydZ) (yb ydZ) .none kV9 dc9 pm9 an9 cd9 ct9,f10,fnOf "long" "Let.long" (yi yff) (yg yff) (yb yff) .none kV10 dc10 pm10 an10 cd10 ct10,f11,fnOf "long" "Reckon.long" (yi ycM) (yg ycM) (yb ycM) .none kV11 dc11 pm11 an11 cd11 ct11,f12,fnOf "long" "Take.long" (yi yea) (yg yea) (yb yea) .none kV12 dc12 pm12 an12 cd12 ct12,f13,fnOf "long" "Put.long" (yi yfg) (yg yfg) (yb yfg) .none kV13 dc13 pm13 an13 cd13 ct13,f14,fnOf "long" "Throw.long" (yi ydk) (yg ydk) (yb ydk) .none kV14 dc14 pm14 an14 cd14 ct14,f15,fnOf "long" "Wait.long" (yi yeb) (yg yeb) (yb yeb) .none kV15 dc15 pm15 an15 cd15 ct15,f16,fnOf "__init__" "If.__init__" (yi yca) (yg yca) (yb yca) .none kV16 dc16 pm16 an16 cd16 ct16,f17,fnOf "__init__" "Either.__init__" (yi ybi) (yg ybi) (yb ybi) .none kV17 dc17 pm17 an17 cd17 ct17,f18,fnOf "__init__" "Try.__init__" (yi ybU) (yg ybU) (yb ybU) .none kV18 dc18 pm18 an18 cd18 ct18,f19,fnOf "list_long" "list_long" (yi yec) (yg yec) (yb yec) .none kV19 dc19 pm19 an19 cd19 ct19,f20,fnOf "long" "If.long" (yi ygr) (yg ygr) (yb ygr) .none kV20 dc20 pm20 an20 cd20 ct20,f21,fnOf "long" "Either.long" (yi ycN) (yg ycN) (yb ycN) .none kV21 dc21 pm21 an21 cd21 ct21,f22,fnOf "long" "Try.long" (yi yfh) (yg yfh) (yb yfh) .none kV22 dc22 pm22 an22 cd22 ct22,f23,fnOf "is_made_of" "is_made_of" (yi ydl) (yg ydl) (yb ydl) .none kV23 dc23 pm23 an23 cd23 ct23,f24,fnOf "number_of" "number_of" (yi yed) (yg yed) (yb yed) .none kV24 dc24 pm24 an24 cd24 ct24,f25,fnOf "is_word" "is_word" (yi ygs) (yg ygs) (yb ygs) .none kV25 dc25 pm25 an25 cd25 ct25,f26,fnOf "is_slot" "is_slot" (yi ygt) (yg ygt) (yb ygt) .none kV26 dc26 pm26 an26 cd26 ct26,f27,fnOf "is_name" "is_name" (yi ygu) (yg ygu) (yb ygu) .none kV27 dc27 pm27 an27 cd27 ct27,f28,fnOf "__init__" "Reader.__init__" (yi ybF) (yg ybF) (yb ybF) .none kV28 dc28 pm28 an28 cd28 ct28,f29,fnOf "words_of" "words_of" (yi yfi) (yg yfi) (yb yfi) .none kV29 dc29 pm29 an29 cd29 ct29,f30,fnOf "ahead" "Reader.ahead" (yi ycu) (yg ycu) (yb ycu) .none kV30 dc30 pm30 an30 cd30 ct30,f31,fnOf "taken" "Reader.taken" (yi ycv) (yg ycv) (yb ycv) .none kV31 dc31 pm31 an31 cd31 ct31,f32,fnOf "pass_over" "Reader.pass_over" (yi ybv) (yg ybv) (yb ybv) .none kV32 dc32 pm32 an32 cd32 ct32,f33,fnOf "slot_taken" "Reader.slot_taken" (yi ybj) (yg ybj) (yb ybj) .none kV33 dc33 pm33 an33 cd33 ct33,f34,fnOf "name_taken" "Reader.name_taken" (yi ybk) (yg ybk) (yb ybk) .none kV34 dc34 pm34 an34 cd34 ct34,f35,fnOf "number_taken" "Reader.number_taken" (yi yS) (yg yS) (yb yS) .none kV35 dc35 pm35 an35 cd35 ct35,f36,fnOf "reckon_taken" "Reader.reckon_taken" (yi yT) (yg yT) (yb yT) .none kV36 dc36 pm36 an36 cd36 ct36,f37,fnOf "plain_taken" "Reader.plain_taken" (yi ybc) (yg ybc) (yb ybc) .none kV37 dc37 pm37 an37 cd37 ct37,f38,fnOf "list_taken" "Reader.list_taken" (yi ybl) (yg ybl) (yb ybl) .none kV38 dc38 pm38 an38 cd38 ct38,f39,fnOf "side_taken" "Reader.side_taken" (yi ybm) (yg ybm) (yb ybm) .none kV39 dc39 pm39 an39 cd39 ct39,f40,fnOf "part_taken" "Reader.part_taken" (yi ybn) (yg ybn) (yb ybn) .none kV40 dc40 pm40 an40 cd40 ct40,f41,fnOf "if_taken" "Reader.if_taken" (yi ybG) (yg ybG) (yb ybG) .none kV41 dc41 pm41 an41 cd41 ct41,f42,fnOf "either_taken" "Reader.either_taken" (yi yU) (yg yU) (yb yU) .none kV42 dc42 pm42 an42 cd42 ct42,f43,fnOf "try_taken" "Reader.try_taken" (yi ybw) (yg ybw) (yb ybw) .none kV43 dc43 pm43 an43 cd43 ct43,f44,fnOf "read" "read" (yi ynA) (yg ynA) (yb ynA) .none kV44 dc44 pm44 an44 cd44 ct44,f45,fnOf "if_taken" "Reader.if_taken" (yi ybo) (yg ybo) (yb ybo) .none kV45 dc45 pm45 an45 cd45 ct45,f46,fnOf "either_taken" "Reader.either_taken" (yi yP) (yg yP) (yb yP) .none kV46 dc46 pm46 an46 cd46 ct46,f47,fnOf "try_taken" "Reader.try_taken" (yi ybd) (yg ybd) (yb ybd) .none kV47 dc47 pm47 an47 cd47 ct47,f48,fnOf "part_taken" "Reader.part_taken" (yi yV) (yg yV) (yb yV) .none kV48 dc48 pm48 an48 cd48 ct48,f49,fnOf "list_taken" "Reader.list_taken" (yi yW) (yg yW) (yb yW) .none kV49 dc49 pm49 an49 cd49 ct49,f50,fnOf "read" "read" (yi yhZ) (yg yhZ) (yb yhZ) .none kV50 dc50 pm50 an50 cd50 ct50,f51,fnOf "_law_whole" "_law_whole" (yi ydm) (yg ydm) (yb ydm) .none kV51 dc51 pm51 an51 cd51 ct51,f52,fnOf "_law_name" "_law_name" (yi yee) (yg yee) (yb yee) .none kV52 dc52 pm52 an52 cd52 ct52,f53,fnOf "_law_slot" "_law_slot" (yi yef) (yg yef) (yb yef) .none kV53 dc53 pm53 an53 cd53 ct53,f54,fnOf "_law_number" "_law_number" (yi ycO) (yg ycO) (yb ycO) .none kV54 dc54 pm54 an54 cd54 ct54,f55,fnOf "_law_plain" "_law_plain" (yi ydn) (yg ydn) (yb ydn) .none kV55 dc55 pm55 an55 cd55 ct55,f56,fnOf "_law_sided" "_law_sided" (yi ydo) (yg ydo) (yb ydo) .none kV56 dc56 pm56 an56 cd56 ct56,f57,fnOf "_law_sides" "_law_sides" (yi ydp) (yg ydp) (yb ydp) .none kV57 dc57 pm57 an57 cd57 ct57,f58,fnOf "_law_round" "_law_round" (yi ydq) (yg ydq) (yb ydq) .none kV58 dc58 pm58 an58 cd58 ct58,f59,fnOf "_law_long" "_law_long" (yi yeg) (yg yeg) (yb yeg) .none kV59 dc59 pm59 an59 cd59 ct59,f60,fnOf "_law_more" "_law_more" (yi yeh) (yg yeh) (yb yeh) .none kV60 dc60 pm60 an60 cd60 ct60,f61,fnOf "_law_in" "_law_in" (yi ygv) (yg ygv) (yb ygv) .none kV61 dc61 pm61 an61 cd61 ct61,f62,fnOf "_law_text" "_law_text" (yi yei) (yg yei) (yb yei) .none kV62 dc62 pm62 an62 cd62 ct62,f63,fnOf "_law_values" "_law_values" (yi ycP) (yg ycP) (yb ycP) .none kV63 dc63 pm63 an63 cd63 ct63,f64,fnOf "_law_same" "_law_same" (yi yej) (yg yej) (yb yej) .none kV64 dc64 pm64 an64 cd64 ct64,fa,fnOf "law" "law" (yi ypd) (yg ypd) (yb ypd) .none kV65 dc65 pm65 an65 cd65 ct65,u1,u2,u3,u4,u5,u6,u7⟩:=⟨F1,b1,F2,b2,F3,b3,F4,b4,F5,b5,F6,b6,F7,b7,F8,b8,F9,b9,F10,b10,F11,b11,F12,b12,F13,b13,F14,b14,F15,b15,F16,b16,F17,b17,F18,b18,F19,b19,mg_of X G a19,F20,b20,F21,b21,F22,b22,F23,b23,mg_of X G a23,F24,b24,mg_of X G a24,F25,b25,mg_of X G a25,F26,b26,mg_of X G a26,F27,b27,mg_of X G a27,F28,b28,F29,b29,mg_of X G a29,F30,b30,F31,b31,F32,b32,F33,b33,F34,b34,F35,b35,F36,b36,F37,b37,F38,b38,F39,b39,F40,b40,F41,b41,F42,b42,F43,b43,F44,b44,mg_of X G a44,F45,b45,F46,b46,F47,b47,F48,b48,F49,b49,F50,b50,mg_of X G a50,F51,b51,mg_of X G a51,F52,b52,mg_of X G a52,F53,b53,mg_of X G a53,F54,b54,mg_of X G a54,F55,b55,mg_of X G a55,F56,b56,mg_of X G a56,F57,b57,mg_of X G a57,F58,b58,mg_of X G a58,F59,b59,mg_of X G a59,F60,b60,mg_of X G a60,F61,b61,mg_of X G a61,F62,b62,mg_of X G a62,F63,b63,mg_of X G a63,F64,b64,mg_of X G a64,F65,b65,mg_of X G a65,mg_of X G nCPart,mkPart,ioPart,kcPart,mg_of X G nCLet,⟨mkLet,yiR,i1,kcLet⟩,mg_of X G nCReckon,⟨mkReckon,ygE,i2,kcReckon⟩,mg_of X G nCTake,⟨mkTake,yhK,i3,kcTake⟩,mg_of X G nCPut,⟨mkPut,yiS,i4,kcPut⟩,mg_of X G nCIf,⟨mkIf,yjD,i5,kcIf⟩,⟨mkIf,yhL,i16,kcIf⟩,mg_of X G nCEither,⟨mkEither,ygF,i6,kcEither⟩,⟨mkEither,yfv,i17,kcEither⟩,mg_of X G nCTry,⟨mkTry,yiT,i7,kcTry⟩,⟨mkTry,ygY,i18,kcTry⟩,mg_of X G nCThrow,⟨mkThrow,ygZ,i8,kcThrow⟩,mg_of X G nCWait,mkWait,ioWait,kcWait,mg_of X G nCReader,⟨mkReader,ygG,i28,kcReader⟩,⟨ylL,i9,k9⟩,⟨ynb,i10,k10⟩,⟨yjE,i11,k11⟩,⟨ylM,i12,k12⟩,⟨ync,i13,k13⟩,⟨yoD,i20,k20⟩,⟨yjF,i21,k21⟩,⟨ynd,i22,k22⟩,⟨ykK,i14,k14⟩,⟨ylN,i15,k15⟩,⟨yiU,i30,k30⟩,⟨yiV,i31,k31⟩,⟨ygb,i32,k32⟩,⟨yfw,i33,k33⟩,⟨yfx,i34,k34⟩,⟨yeC,i35,k35⟩,⟨yfy,i38,k38⟩,⟨yfz,i39,k39⟩,⟨yfA,i40,k40⟩,⟨ygH,i41,k41⟩,⟨yeD,i42,k42⟩,⟨ygc,i43,k43⟩,⟨yeY,i37,k37⟩,⟨yeE,i36,k36⟩,⟨yfB,i45,k45⟩,⟨ydT,i46,k46⟩,⟨yeZ,i47,k47⟩,⟨yeF,i48,k48⟩,⟨yeG,i49,k49⟩,CL,⟨all_cons ⟨CL 1,naLet_slot⟩ (all_cons ⟨CL 2,naReckon_slot⟩ (all_cons ⟨CL 3,naTake_slot⟩ (all_cons ⟨CL 4,naPut_slot⟩ (all_cons ⟨CL 5,naIf_slot⟩ (all_cons ⟨CL 7,naTry_slot⟩ (all_cons ⟨CL 8,naThrow_slot⟩ (fun k hk=>absurd hk (by simp)))))))),all_cons ⟨CL 1,naLet_number⟩ (fun k hk=>absurd hk (by simp)),all_cons ⟨CL 2,naReckon_word⟩ (fun k hk=>absurd hk (by simp)),all_cons ⟨CL 2,naReckon_one⟩ (fun k hk=>absurd hk (by simp)),all_cons ⟨CL 2,naReckon_other⟩ (fun k hk=>absurd hk (by simp)),all_cons ⟨CL 3,naTake_place⟩ (all_cons ⟨CL 4,naPut_place⟩ (fun k hk=>absurd hk (by simp))),all_cons ⟨CL 7,naTry_name⟩ (all_cons ⟨CL 8,naThrow_name⟩ (fun k hk=>absurd hk (by simp))),all_cons ⟨CL 5,naIf_parts⟩ (all_cons ⟨CL 6,naEither_parts⟩ (all_cons ⟨CL 7,naTry_parts⟩ (fun k hk=>absurd hk (by simp)))),all_cons ⟨CL 5,naIf_others⟩ (all_cons ⟨CL 6,naEither_others⟩ (all_cons ⟨CL 7,naTry_others⟩ (fun k hk=>absurd hk (by simp)))),all_cons ⟨CL 10,naReader_words⟩ (fun k hk=>absurd hk (by simp)),all_cons ⟨CL 10,naReader_at⟩ (fun k hk=>absurd hk (by simp)),all_cons (fun H p dx fs e=>⟨_,_,TY1 H p dx fs e,rfl,yhU⟩) (all_cons (fun H p dx fs e=>⟨_,_,TY2 H p dx fs e,rfl,yhU⟩) (all_cons (fun H p dx fs e=>⟨_,_,TY3 H p dx fs e,rfl,yhU⟩) (all_cons (fun H p dx fs e=>⟨_,_,TY4 H p dx fs e,rfl,yhU⟩) (all_cons (fun H p dx fs e=>⟨_,_,TY5 H p dx fs e,rfl,yhU⟩) (all_cons (fun H p dx fs e=>⟨_,_,TY6 H p dx fs e,rfl,yhU⟩) (all_cons (fun H p dx fs e=>⟨_,_,TY7 H p dx fs e,rfl,yhU⟩) (all_cons (fun H p dx fs e=>⟨_,_,TY8 H p dx fs e,rfl,yhU⟩) (all_cons (fun H p dx fs e=>⟨_,_,TY9 H p dx fs e,rfl,yhU⟩) (all_cons (fun H p dx fs e=>⟨_,_,TY1 H p dx fs e,rfl,yka hmPart ty0 sb1_0⟩) (all_cons (fun H p dx fs e=>⟨_,_,TY2 H p dx fs e,rfl,yka hmPart ty0 sb2_0⟩) (all_cons (fun H p dx fs e=>⟨_,_,TY3 H p dx fs e,rfl,yka hmPart ty0 sb3_0⟩) (all_cons (fun H p dx fs e=>⟨_,_,TY4 H p dx fs e,rfl,yka hmPart ty0 sb4_0⟩) (all_cons (fun H p dx fs e=>⟨_,_,TY5 H p dx fs e,rfl,yka hmPart ty0 sb5_0⟩) (all_cons (fun H p dx fs e=>⟨_,_,TY6 H p dx fs e,rfl,yka hmPart ty0 sb6_0⟩) (all_cons (fun H p dx fs e=>⟨_,_,TY7 H p dx fs e,rfl,yka hmPart ty0 sb7_0⟩) (all_cons (fun H p dx fs e=>⟨_,_,TY8 H p dx fs e,rfl,yka hmPart ty0 sb8_0⟩) (all_cons (fun H p dx fs e=>⟨_,_,TY9 H p dx fs e,rfl,yka hmPart ty0 sb9_0⟩) (all_cons (fun H p dx fs e=>⟨_,_,TY1 H p dx fs e,rfl,ycq ne1_5 hmIf ty5 sb1_5⟩) (all_cons (fun H p dx fs e=>⟨_,_,TY1 H p dx fs e,rfl,ycq ne1_6 hmEither ty6 sb1_6⟩) (all_cons (fun H p dx fs e=>⟨_,_,TY1 H p dx fs e,rfl,ycq ne1_7 hmTry ty7 sb1_7⟩) (all_cons (fun H p dx fs e=>⟨_,_,TY2 H p dx fs e,rfl,ycq ne2_5 hmIf ty5 sb2_5⟩) (all_cons (fun H p dx fs e=>⟨_,_,TY2 H p dx fs e,rfl,ycq ne2_6 hmEither ty6 sb2_6⟩) (all_cons (fun H p dx fs e=>⟨_,_,TY2 H p dx fs e,rfl,ycq ne2_7 hmTry ty7 sb2_7⟩) (all_cons (fun H p dx fs e=>⟨_,_,TY3 H p dx fs e,rfl,ycq ne3_5 hmIf ty5 sb3_5⟩) (all_cons (fun H p dx fs e=>⟨_,_,TY3 H p dx fs e,rfl,ycq ne3_6 hmEither ty6 sb3_6⟩) (all_cons (fun H p dx fs e=>⟨_,_,TY3 H p dx fs e,rfl,ycq ne3_7 hmTry ty7 sb3_7⟩) (all_cons (fun H p dx fs e=>⟨_,_,TY4 H p dx fs e,rfl,ycq ne4_5 hmIf ty5 sb4_5⟩) (all_cons (fun H p dx fs e=>⟨_,_,TY4 H p dx fs e,rfl,ycq ne4_6 hmEither ty6 sb4_6⟩) (all_cons (fun H p dx fs e=>⟨_,_,TY4 H p dx fs e,rfl,ycq ne4_7 hmTry ty7 sb4_7⟩) (all_cons (fun H p dx fs e=>⟨_,_,TY8 H p dx fs e,rfl,ycq ne8_5 hmIf ty5 sb8_5⟩) (all_cons (fun H p dx fs e=>⟨_,_,TY8 H p dx fs e,rfl,ycq ne8_6 hmEither ty6 sb8_6⟩) (all_cons (fun H p dx fs e=>⟨_,_,TY8 H p dx fs e,rfl,ycq ne8_7 hmTry ty7 sb8_7⟩) (all_cons (fun H p dx fs e=>⟨_,_,TY9 H p dx fs e,rfl,ycq ne9_5 hmIf ty5 sb9_5⟩) (all_cons (fun H p dx fs e=>⟨_,_,TY9 H p dx fs e,rfl,ycq ne9_6 hmEither ty6 sb9_6⟩) (all_cons (fun H p dx fs e=>⟨_,_,TY9 H p dx fs e,rfl,ycq ne9_7 hmTry ty7 sb9_7⟩) (all_cons (fun H p dx fs e=>⟨_,_,TY6 H p dx fs e,rfl,ycq ne6_5 hmIf ty5 sb6_5⟩) (all_cons (fun H p dx fs e=>⟨_,_,TY7 H p dx fs e,rfl,ycq ne7_5 hmIf ty5 sb7_5⟩) (all_cons (fun H p dx fs e=>⟨_,_,TY7 H p dx fs e,rfl,ycq ne7_6 hmEither ty6 sb7_6⟩) (fun k hk=>absurd hk (by simp [ycY]))))))))))))))))))))))))))))))))))))))))⟩,mg_none_of X G z1,mg_none_of X G z2,mg_none_of X G z3,mg_none_of X G z4,mg_none_of X G z5,mg_none_of X G z6,mg_none_of X G z7,mg_none_of X G z8,mg_none_of X G z9,mg_none_of X G z10,mg_none_of X G z11,mg_of X G q1,mg_of X G q2,mg_of X G q3,mg_of X G q4,mg_of X G q5,mg_of X G q6,mg_of X G q7,⟨_,_,_,qk7,rfl,rfl,(by show 5<=sizeLine;decide),.cons ⟨_,rfl⟩ (.cons ⟨_,rfl⟩ (.cons ⟨_,rfl⟩ (.cons ⟨_,rfl⟩ (.cons ⟨_,rfl⟩ (.nil)))))⟩⟩
 refine ⟨fnOf "law" "law" (yi ypd) (yg ypd) (yb ypd) .none kV65 dc65 pm65 an65 cd65 ct65,fun s v=>.of_eq rfl,fun base _ _=>?_⟩
 have yjB:=yqE (P:=l.prog) (w:=w) (base:=base) T
 have ygW:=ynU (P:=l.prog) (w:=w) (base:=base) T
 have yiJ:=ypk (P:=l.prog) (w:=w) (base:=base) T
 have yjC:=yqF (P:=l.prog) (w:=w) (base:=base) T
 have yik:=yrn (P:=l.prog) (w:=w) (base:=base) T
 have yfo:=ynV (P:=l.prog) (w:=w) (base:=base) T
 have yhl:=yqG (P:=l.prog) (w:=w) (base:=base) T
 have yhI:=yoA (P:=l.prog) (w:=w) (base:=base) T
 have yiN:=ypl (P:=l.prog) (w:=w) (base:=base) T
 have yfY:=yml (P:=l.prog) (w:=w) (base:=base) T
 have yhJ:=yoB (P:=l.prog) (w:=w) (base:=base) T
 have ykG:=yuM (P:=l.prog) (w:=w) (base:=base) T
 have ymb:=ywr (P:=l.prog) (w:=w) (base:=base) T
 have yij:=yro (P:=l.prog) (w:=w) (base:=base) T
 have ykH:=yuN (P:=l.prog) (w:=w) (base:=base) T
 have ymc:=yws (P:=l.prog) (w:=w) (base:=base) T
 have yjs:=ysS (P:=l.prog) (w:=w) (base:=base) T
 have ykI:=yuO (P:=l.prog) (w:=w) (base:=base) T
 have GR0:=yAY (P:=l.prog) (w:=w) (base:=base) T ymb ykG ymc yij ykH yjs ykI 45
 have ycp:=GR0.yqH
 have yAZ:=GR0.yqI
 have ysT:=GR0.ykF
 have yyz:=GR0.yoC
 have G_long:=GR0.m_long
 have ygi:=ysU (P:=l.prog) (w:=w) (base:=base) T
 have ymZ:=yuP (P:=l.prog) (w:=w) (base:=base) T ygi
 have yqN:=yyA (P:=l.prog) (w:=w) (base:=base) T
 have yqL:=yyB (P:=l.prog) (w:=w) (base:=base) T
 have yqM:=yyC (P:=l.prog) (w:=w) (base:=base) T ygi
 have ycW:=ynW (P:=l.prog) (w:=w) (base:=base) T
 have yiq:=ywt (P:=l.prog) (w:=w) (base:=base) T
 have yE:=yqJ (P:=l.prog) (w:=w) (base:=base) T
 have yK:=yqK (P:=l.prog) (w:=w) (base:=base) T yE
 have yn:=ymY (P:=l.prog) (w:=w) (base:=base) T yK
 have yl:=ymm (P:=l.prog) (w:=w) (base:=base) T yK yqL
 have yba:=ymn (P:=l.prog) (w:=w) (base:=base) T yK yqM
 have yeV:=ykQ (P:=l.prog) (w:=w) (base:=base) T yK ymZ
 have yeW:=ykR (P:=l.prog) (w:=w) (base:=base) T yl ygW
 have ybN:=ylG (P:=l.prog) (w:=w) (base:=base) T yjB yjC yba yeV yeW yl yiJ yhI yqN
 have GR1:=yBa (P:=l.prog) (w:=w) (base:=base) T yfo yik yE yba yn ybN yl yK yhl 45
 have yde:=GR1.yiK
 have yo:=GR1.yiL
 have yfX:=GR1.yiM
 have yjX:=GR1.yjW
 have yhC:=GR1.yhB
 have yju:=GR1.yjt
 have G_read:=yGr (P:=l.prog) (w:=w) (base:=base) T ycW yE yde ycp yiq
 have yfZ:=ymo (P:=l.prog) (w:=w) (base:=base) T yiN yn yo yl
 have yeu:=yjY (P:=l.prog) (w:=w) (base:=base) T yfY yn yo
 have yfu:=ylH (P:=l.prog) (w:=w) (base:=base) T yba yn yo yl yhJ
 have ydB:=ykS (P:=l.prog) (w:=w) (base:=base) T yeu yfZ ybN yK yfu
 have yeX:=ykT (P:=l.prog) (w:=w) (base:=base) T yE ydB yn
 have ysZ:=yBb (P:=l.prog) (w:=w) (base:=base) T ycW yE yeX ycp yiq
 have ylK:=ysV (P:=l.prog) (w:=w) (base:=base) T
 have ygX:=yuQ (P:=l.prog) (w:=w) (base:=base) T
 have yev:=yuR (P:=l.prog) (w:=w) (base:=base) T
 have ykJ:=yrp (P:=l.prog) (w:=w) (base:=base) T
 have ylI:=ysW (P:=l.prog) (w:=w) (base:=base) T ygX ykJ yev
 have ylJ:=ysX (P:=l.prog) (w:=w) (base:=base) T ygX yev
 have ycf:=ysY (P:=l.prog) (w:=w) (base:=base) T
 have GR2:=yBc (P:=l.prog) (w:=w) (base:=base) T ycf 15
 have yhD:=GR2.yoZ
 have GR3:=yBd (P:=l.prog) (w:=w) (base:=base) T ycf 15
 have yiO:=GR3.yqO
 have yna:=yuS (P:=l.prog) (w:=w) (base:=base) T yiO ylI yhD ylJ
 have GR4:=yBe (P:=l.prog) (w:=w) (base:=base) T  30
 have yiP:=GR4.yuT
 have yiQ:=GR4.yqP
 have yil:=yrq (P:=l.prog) (w:=w) (base:=base) T ylK
 have GR5:=yBf (P:=l.prog) (w:=w) (base:=base) T ycf yil 15
 have yga:=GR5.yqQ
 have G_law:=yJC (P:=l.prog) (w:=w) (base:=base) T yna yga yiQ G_read ysZ
 exact G_law.imp yJD
theorem walk {l:PySem.W.OpenLaw}{q:Program}{loose:List Str}{XP:(Str->Option Value)->Heap->Prop}{YP:World->Heap->Prop}{d:DefRec}{K:Params->PySem.W.Frag}(hn:l.most=some 63) (hdf:d.params.defaults=[])
  (hY:∀ (w:World) (h:Heap),YP w h->(K w.params).In h)
  (F:∀ (w:World) (mg:Str->Option Value) (fa:Addr) (h:Heap),(K w.params).In h->h.Ns mainGlobals mg->mg d.name=some (.ref fa) ->
   ∃ fd:FuncData,(∀ (s:Shared) (u:Value),BindsTo s fd ⟨[u],[]⟩ [("_law_script",u)])/\∀ base:Heap,(K w.params).In base->base.Ns mainGlobals mg->FnOk l.prog w (K w.params) mg base CX0 56 fa fd ["_law_script"] (yDk (K w.params))) :
  PySem.W.WalkO q loose XP YP l.row.toRowW d [] (fun f vs=>PySem.call f vs) :=
 L2.walk_of (n:=63) (k:=56) (x:="_law_script") (CX:=fun _=>CX0) (sp:=fun w=>yDk (K w.params)) hn (by decide) hdf ⟨rfl,by decide,by decide⟩ hY F (fun _ _ a ns hl _ hS=>⟨a,ns,rfl,hS,hl,fun _=>rfl⟩) fun _ _ _ _ _ z=>z
end My
namespace PySem.W.Fast
def tw7394837915132695566:=()
def tw10183227239528316217:=()
def tw6431891797509581476:=()
def tw11775157761419162758:=()
def tw4402506684166783760:=()
def tw13459343188351727901:=()
def tw12422841401741055781:=()
def tw95759601262522866:=()
def tw17612238063579495049:=()
def tw16990578885244023037:=()
def tw8846583441862478149:=()
def tw13421751645217909172:=()
def tw14435851673636469944:=()
def tw9601412604246415848:=()
def tw16875634943745963847:=()
def tw10177296426670979382:=()
def tw18207046148642375477:=()
def tw10979124931887615605:=()
def tw14756211136259163202:=()
def tw14488111971474042863:=()
def tw10058857301868649041:=()
def tw761183376947878839:=()
def tw3001575244101996914:=()
def tw1913904267629783400:=()
def tw630965665909342110:=()
def tw10507732249088480809:=()
def tw4083333961606450644:=()
def tw4524934283965992228:=()
def tw17993713592953517711:=()
def tw12808282177955856200:=()
def tw15892226575590434469:=()
def tw1593748128492074395:=()
def tw6961941028972303346:=()
def tw17918703158614076153:=()
def tw11323984500323261046:=()
def tw6861155683581549200:=()
def tw8593679661378485142:=()
def tw3150297078668393373:=()
def tw15812567080509222189:=()
def tw4865880514677827849:=()
def tw5069947662202552909:=()
def tw14557548527317020692:=()
def tw7532796280080518854:=()
def tw13365328299023339522:=()
def tw17780378617520868963:=()
def tw1603783136827335346:=()
def tw3092467247686692269:=()
def tw3555145664035062141:=()
def tw8730430394200156097:=()
def tw2243847538136454330:=()
def tw18413487462285143773:=()
def tw11601045936279128737:=()
def tw8650422413803599530:=()
def tw17108842768755109855:=()
def tw18398588157391941272:=()
def tw16142103108461212273:=()
def tw3372304814836648435:=()
def tw13480007357080647373:=()
def tw14572099239440450256:=()
def tw4089557379187029485:=()
def tw13187354428532098745:=()
def tw4802697094478848745:=()
def tw9610957979165046112:=()
def tw14485561172034515092:=()
def tw11086255628219771649:=()
def tw4954645726463654065:=()
def tw17077548666058794540:=()
def tw7593907186585028458:=()
def tw11668748389155525879:=()
def tw16450410644646084397:=()
def tw4482591761934183821:=()
def tw13281559043029267617:=()
def tw5023192875190863158:=()
def tw8631333654241126495:=()
def tw6432114177668568970:=()
def tw18081733134671353075:=()
def tw7178530741969822054:=()
def tw4900682585575988403:=()
def tw4055547105435507929:=()
def tw960849250253677420:=()
def tw881343102746468793:=()
def tw3179819115153862328:=()
def tw11485226767031269234:=()
def tw798812869623755267:=()
def tw4186705792625759951:=()
def tw10383584822497035495:=()
def tw9779618495239318329:=()
def tw16465703240424146770:=()
def tw11768839723480658119:=()
def tw15830362921040474814:=()
def tw9312288613771034899:=()
def tw2404593554222662451:=()
def tw10914845417952379920:=()
def tw15266890027452068276:=()
def tw12372037797576107726:=()
def tw1611828263047907985:=()
def tw12000576983313842845:=()
def tw8311212533226581:=()
def tw10356458295889377530:=()
def tw9665762718462951109:=()
def tw15253669325328941127:=()
def tw9471961266496224526:=()
def tw10647645620801732766:=()
def tw4970967187947611600:=()
def tw8614184594615144079:=()
def tw8945587757074704325:=()
def tw13399776830544821376:=()
def tw17300132407550185710:=()
def tw9488866266004851131:=()
def tw14968927849343465613:=()
def tw393886526292579731:=()
def tw17317033880672446806:=()
def tw2085974877107349477:=()
def tw11828149105985419367:=()
def tw5379701345402124671:=()
def tw8772134791221696571:=()
def tw5027048760340963645:=()
def tw6479537149020104660:=()
def tw12676123351113741532:=()
def tw5943020390207444464:=()
def tw6653867961979426581:=()
def tw14481969792221978737:=()
def tw7082686935168329392:=()
def tw4143163511853607159:=()
def tw9140819507264573044:=()
def tw1562315981604016369:=()
def tw14303465660833550054:=()
def tw2133337932643844806:=()
def tw595678522497564024:=()
def tw3268285421871255439:=()
def tw7060147330974654452:=()
def tw1353200452558873003:=()
def tw17200853791315723423:=()
def tw11498454113899590004:=()
def tw13722252362144766564:=()
def tw16030330946046833628:=()
def tw7391399945472024338:=()
def tw6661111002354844336:=()
def tw58367166310782243:=()
def tw15841654497071231013:=()
def tw4964474559882121027:=()
def tw8855104115227641409:=()
def tw1947105373474500777:=()
def tw12597667852342936803:=()
def tw6983564600711621241:=()
def tw13842304753807907262:=()
def tw3744209869461805684:=()
def tw14137886493810604928:=()
def tw4445867035607770600:=()
def tw3415386204553056442:=()
def tw3862368692740441405:=()
def tw51400318581616890:=()
def tw12536271068033693871:=()
def tw8233658823329974375:=()
def tw465259852564691068:=()
def tw6902604933932129950:=()
def tw12358808636052919323:=()
def tw17159782834162108674:=()
def tw11049768073239749648:=()
def tw13970287069119938815:=()
def tw10955229099804495728:=()
def tw1367259368745888480:=()
def tw15035504280797517180:=()
def tw4880997499168697706:=()
def tw2018337166026698023:=()
def tw18160502761863673938:=()
def tw14292856632280701490:=()
def tw11694819822450510584:=()
def tw9351779924111360555:=()
def tw7935642232732087428:=()
def tw7400319449167793090:=()
def tw2606100218353117472:=()
def tw1867761168801682352:=()
def tw3609326980188738095:=()
def tw4301658794914341254:=()
def tw12887087791693594350:=()
def tw12921796495442413913:=()
def tw4366866864280936177:=()
def tw16726218545058440527:=()
def tw6665946876462482849:=()
def tw1299283352153331647:=()
def tw12247554755023520913:=()
def tw13073520861906232758:=()
def tw6139191577348164200:=()
def tw14686011487732137882:=()
def tw5994014458347735435:=()
def tw5649290740362173201:=()
def tw16200632826410069853:=()
def tw15080753166431731444:=()
def tw16752641429945669593:=()
def tw16292731430032760198:=()
def tw3401774461619923007:=()
def tw5831062172166014862:=()
def tw12815626352985857350:=()
def tw10981077937669236888:=()
def tw11100990315644678866:=()
def tw13109448959056272343:=()
def tw7807419963023629541:=()
def tw9001882811254608027:=()
def tw7118532104655652864:=()
def tw1642447362448236624:=()
def tw4367220180913803988:=()
def tw12551758369201662697:=()
def tw8098074069263749967:=()
def tw2518635976306156938:=()
def tw14315258365962080661:=()
def tw16660717869847886955:=()
def tw10498313436581393923:=()
def tw17257385965810736303:=()
def tw13459047916861467685:=()
def tw2284217690981074902:=()
def tw3243939658451302014:=()
def tw7601495018630340955:=()
def tw1968091297313084374:=()
def tw13599573304782807350:=()
def tw5379604995860201097:=()
def tw15319230858986643024:=()
def tw10909538101887645936:=()
def tw3575629931025078:=()
def tw7556744727008856831:=()
def tw12326325748874269066:=()
def tw6363869395096038279:=()
def tw13327400708082147760:=()
def tw4073749261273188225:=()
def tw6003535575351615602:=()
def tw12133527225698098009:=()
def tw13573048668488476336:=()
def tw14040505808426306287:=()
def tw18382239103435487308:=()
def tw5862265310689300678:=()
def tw4658200406571803886:=()
def tw1708519660145816331:=()
def tw6618451657326119849:=()
def tw15991091087447026294:=()
def tw7856245011803856202:=()
def tw3050134002848323008:=()
def tw14908888996801082740:=()
def tw6097325964778192721:=()
def tw12731437785307883282:=()
def tw9126761312179120783:=()
def tw2890236908021469049:=()
def tw14221986732281802167:=()
def tw12046984669310182235:=()
def tw14120206308488176539:=()
def tw18327188583609484656:=()
def tw11862095310831110997:=()
def tw6850709146589937814:=()
def tw13791247290603609384:=()
def tw9826223015086303359:=()
def tw2575484245788055358:=()
def tw13621415043566945926:=()
def tw1472222296087065074:=()
def tw12759620166224764038:=()
def tw2381127751237362888:=()
def tw14541647338025206907:=()
def tw1110811732076180757:=()
def tw3047117130158641204:=()
def tw2280772478572590443:=()
def tw10915139807860635680:=()
def tw10389448189812629381:=()
def tw8153179654833080280:=()
def tw13189381379444935732:=()
def tw14920741985462644861:=()
def tw18368236872788161314:=()
def tw11736260530050988327:=()
def tw12730952162109805734:=()
def tw3209890715425669524:=()
def tw3375385258618789541:=()
def tw112845276419987564:=()
def tw14570733454469280783:=()
def tw10715145302284950532:=()
def tw13445136194040602767:=()
def tw11331085676446361407:=()
def tw11520223814468072599:=()
def tw9336597550922815894:=()
def tw5687992924936872210:=()
def tw4895801226695506062:=()
def tw17321450530018558656:=()
def tw13117154726803499123:=()
def tw7058773721710782121:=()
def tw18067351691688289509:=()
def tw12645144194555528880:=()
def tw4102567434346753969:=()
def tw8225846357200333000:=()
def tw11549592519095682113:=()
def tw4782674362140053826:=()
def tw2404462051094982935:=()
def tw981026268503586423:=()
def tw8454355317985282168:=()
def tw7286001944969733123:=()
def tw7293415542100002619:=()
def tw5070947024890109199:=()
def tw4017064700854388249:=()
def tw12899854460362061081:=()
def tw10154945174977378748:=()
def tw17591956320214236697:=()
def tw17561093731108782649:=()
def tw5681483107041130864:=()
def tw6975837904844251341:=()
def tw2140154447651328126:=()
def tw4300582214047385124:=()
def tw15790000402314581443:=()
def tw14037731687071529032:=()
def tw390008985244528370:=()
def tw12144955605676157926:=()
def tw13850721100374173923:=()
def tw9983935753534775831:=()
def tw14354917147560824478:=()
def tw3013719349537046112:=()
def tw13469656877584159386:=()
def tw1605368484862226821:=()
def tw17150199287557416074:=()
def tw8861600879610322745:=()
def tw15898569395870642727:=()
def tw5082151673459283542:=()
def tw14179934365363857596:=()
def tw9891558869767175121:=()
def tw919878908711267964:=()
def tw8568761550303142662:=()
def tw10522413886031669347:=()
def tw6266784235124721081:=()
def tw190913135272999868:=()
def tw2503801149432191191:=()
def tw13875208306249663994:=()
def tw2838323877368789994:=()
def tw17766020814902028205:=()
def tw12588077669044763870:=()
def tw7442050628674113087:=()
def tw16395530975933110398:=()
def tw15291231553270794871:=()
def tw14211507038748081298:=()
def tw8442172178434204234:=()
def tw7586576053793349924:=()
def tw6067625267989108699:=()
def tw1767746311397726219:=()
def tw16093419835124374746:=()
def tw14979856908719010597:=()
def tw8562958133689442265:=()
def tw14642556202958019547:=()
def tw18406131595322295870:=()
def tw6325758783301680536:=()
def tw9163100611042529947:=()
def tw16886343179637619455:=()
def tw3768673753719464222:=()
def tw14798354685310963875:=()
def tw1171731385658912326:=()
def tw12261018207948110851:=()
def tw15099874880650199353:=()
def tw9992772203497011802:=()
def tw684961917435137891:=()
def tw3330827525708137338:=()
def tw13620168961652397619:=()
def tw9921195651965501893:=()
def tw17569906197096594321:=()
def tw16454400349760616752:=()
def tw18023051224557401023:=()
def tw1559290920764624698:=()
def tw10741424078869624869:=()
def tw10624668166663792881:=()
def tw10905165173959045624:=()
def tw772925134905791320:=()
def tw13583051662694570769:=()
def tw15041196246935037589:=()
def tw962338470875355058:=()
def tw12633878317871230134:=()
def tw17605135237654748551:=()
def tw16067380484872452993:=()
def tw12578508284958690799:=()
def tw5222493133218057486:=()
def tw13837500190395769371:=()
def tw2941300050540199820:=()
def tw12988063487771551169:=()
def tw5509538104837568974:=()
def tw5445946760891089490:=()
def tw4334487567673630109:=()
def tw2358203914610381858:=()
def tw246214739900944271:=()
def tw11582813643240298786:=()
def tw16892033374892822433:=()
def tw15055755148654067225:=()
def tw9086446086888133238:=()
def tw12010536352718597403:=()
def tw1359435946576383207:=()
def tw18296579401719168135:=()
def tw16270542600696622170:=()
def tw9019892286618266824:=()
def tw15832222946691880841:=()
def tw5387273973782042211:=()
def tw18088752222075837756:=()
def tw8673312318247706267:=()
def tw14307319194593069442:=()
def tw12260026539865673642:=()
def tw1356525745661819580:=()
def tw2718054997176484280:=()
def tw1636494308429093467:=()
def tw4086539661134432895:=()
def tw1376667102697142027:=()
def tw494162131116512114:=()
def tw18371812623088649639:=()
def tw18111174821868593733:=()
def tw8364901172572431034:=()
def tw4214689604218975296:=()
def tw5535216089994677817:=()
def tw14528916100855274137:=()
def tw1652368138899430020:=()
def tw11309686676329794612:=()
def tw6238994270356135803:=()
def tw1633419580715994674:=()
def tw13105521624316207:=()
def tw1214876519344796345:=()
def tw16526489465291408560:=()
def tw12534499546595103892:=()
def tw6135293164466849097:=()
def tw12858565259054960540:=()
def tw8533830169286222353:=()
def tw2616995329016970090:=()
def tw5730729915149909284:=()
def tw8091853073799457053:=()
def tw4501713005848864537:=()
def tw13464775690472584733:=()
def tw16430796789343906506:=()
def tw8373151784181673356:=()
def tw8716498374140404386:=()
def tw6169715692711501365:=()
def tw7696777347125108070:=()
def tw9293884061615911521:=()
def tw16604956014839751844:=()
def tw10992924022969802648:=()
def tw2145156101770402862:=()
def tw10787046359602453350:=()
def tw4873887207303742109:=()
def tw8108091591494981000:=()
def tw13591814864353030573:=()
def tw11528410472860213758:=()
def tw5910424465671013519:=()
def tw14711321459318681921:=()
def tw13372965344464316347:=()
def tw3371823730035266361:=()
def tw2751225431110177200:=()
def tw18393738640647106368:=()
def tw7056834489553530109:=()
def tw15070605783773640868:=()
def tw16046745321395768944:=()
def tw8864556546761243833:=()
def tw1161573066648289589:=()
def tw3767150992192896217:=()
def tw17656205223942615765:=()
def tw6750483024230972256:=()
def tw9580056596701801670:=()
def tw11095804126116577564:=()
def tw3280980781403205565:=()
def tw5530005881378036076:=()
def tw12751015163162463369:=()
def tw17879196733582347800:=()
def tw17140030043279007062:=()
def tw12389991910269067764:=()
def tw15552927523026378202:=()
def tw12276668482915358166:=()
def tw14291584354692195280:=()
def tw6867693260565559234:=()
def tw18230400580197266849:=()
def tw1213341369490479713:=()
def tw3548385235034165864:=()
def tw2233568754530213075:=()
def tw7693768011160441855:=()
def tw111254661285777336:=()
def tw9795944546844821020:=()
def tw5745626247471404872:=()
def tw5476132997831711390:=()
def tw17810812800394703958:=()
def tw10770263455835735044:=()
def tw12072815423390524284:=()
def tw16222136763527295210:=()
def tw12535963968156364827:=()
def tw14552643957293115848:=()
def tw9385545944079076536:=()
def tw2061391615282097086:=()
def tw14552892647538384350:=()
def tw3559666866119509141:=()
def tw5783239202316823249:=()
def tw4885171320829301050:=()
def tw5980576454607172145:=()
def tw6334898845960119309:=()
def tw14673313629870304917:=()
def tw3183381034542304552:=()
def tw5620673110267700987:=()
def tw18196715620808774763:=()
def tw13648403356508675108:=()
def tw14815516491301994163:=()
def tw11874612189370877182:=()
def tw14811639362867211904:=()
def tw13071686461495862892:=()
def tw437690351822806447:=()
def tw13638645378070549893:=()
def tw146017919920389265:=()
def tw10730007034655113841:=()
def tw9459123899493205314:=()
def tw10415490693029091305:=()
def tw15702764124745135354:=()
def tw5851983227528209025:=()
def tw7605470904234360302:=()
def tw11072919554145902112:=()
def tw7877602784398927571:=()
def tw11560279219899471634:=()
def tw18288887169719817785:=()
def tw13103806132015563528:=()
def tw9540330718936063620:=()
def tw16056641847308482685:=()
def tw15678205604086943269:=()
def tw6848138401609153466:=()
def tw9259666559961696780:=()
def tw18321547466400946713:=()
def tw423584466116949714:=()
def tw11540472677467020058:=()
def tw487915929720026815:=()
def tw14561628630114907482:=()
def tw13636177596426102867:=()
def tw5891439963831974503:=()
def tw17712692309076373760:=()
def tw16573278147747310803:=()
def tw4656005804710294216:=()
def tw16154566621056068657:=()
def tw7366211653935006341:=()
def tw7914945517870603843:=()
def tw5848841110160986309:=()
def tw15426778694652090182:=()
def tw7470973454317937695:=()
def tw15139408383156389943:=()
def tw4277656908295625522:=()
def tw9768834396675202616:=()
def tw8488963675398211055:=()
def tw24203599727779073:=()
def tw3487809559926951440:=()
def tw18040973354577682961:=()
def tw16956884613014826408:=()
def tw11307343332339293124:=()
def tw13915092626734697027:=()
def tw6323445239920161836:=()
def tw13796658567477237387:=()
def tw175432547676460824:=()
def tw4638172233628679344:=()
def tw1527036320665848451:=()
def tw9696439713578682041:=()
def tw9300854209568671613:=()
def tw4746064312586237675:=()
def tw2968959664104557243:=()
def tw12413772691100907887:=()
def tw12130301399273741225:=()
def tw10873374108241027831:=()
def tw2879364844192313324:=()
def tw5296965022569379128:=()
def tw14260975879556584521:=()
def tw11734756056530653555:=()
def tw1095132082986423879:=()
def tw3325137156311811820:=()
def tw7752266387491124088:=()
def tw2600918751321444453:=()
def tw15267503189219778335:=()
def tw14913244187251439316:=()
def tw9025564811825867955:=()
def tw6207162049452895657:=()
def tw11632532786724804347:=()
def tw14797938895853454807:=()
def tw1772940532725541330:=()
def tw10126727909800049352:=()
def tw11936973060366407492:=()
def tw13200292583985369782:=()
def tw12834883077339593993:=()
def tw9396380829336294425:=()
def tw17988715860285068689:=()
def tw5556197153875418836:=()
def tw17432617703989631915:=()
def tw12950698166854534276:=()
def tw15105696487800039328:=()
def tw1630481623978978629:=()
def tw7293979771373014062:=()
def tw13161367841194593787:=()
def tw6291594071183539670:=()
def tw8528644369623111609:=()
def tw18208101726585593124:=()
def tw7984425683665405329:=()
def tw4661872086469152577:=()
def tw16500748072270019203:=()
def tw10826673336571348724:=()
def tw3551893875006144452:=()
def tw6455143241317926946:=()
def tw9749631236399735010:=()
def tw11831351983894086783:=()
def tw2199999533297051538:=()
def tw5730329084649260928:=()
def tw5933209820073908156:=()
def tw4688715652736193637:=()
def tw16204465691381779383:=()
def tw13378017061442428257:=()
def tw7512956544751956757:=()
def tw2556678050590120250:=()
def tw15860799744405375363:=()
def tw3515882178341904415:=()
def tw8480481507096345280:=()
def tw5325675225590504641:=()
def tw1541020529248629751:=()
def tw5379514498371954957:=()
def tw9369376355565508068:=()
def tw3163745031832018374:=()
def tw9326196697768567679:=()
def tw13494534551465396797:=()
def tw4873420230263229709:=()
def tw15246909555440229599:=()
def tw11678611030759425064:=()
def tw13675205782965997287:=()
def tw6730007413518352846:=()
def tw877470206730434279:=()
def tw15025757992756037023:=()
def tw13721293180808324750:=()
def tw12270877369648862543:=()
def tw14659021430025921189:=()
def tw7775419371832566224:=()
def tw14763788969287620304:=()
def tw1401173736100739708:=()
def tw7400169865570861835:=()
def tw10920487039930540106:=()
def tw18415687088223272052:=()
def tw3269372496469242617:=()
def tw13007229334513790058:=()
def tw14412403623141184093:=()
def tw10879208757759485621:=()
def tw712046887851165577:=()
def tw14046204646410603788:=()
def tw7475989249745991350:=()
def tw4675143659387367606:=()
def tw11314585846739185079:=()
def tw18367673744208042703:=()
def tw14598296506752984682:=()
def tw8832022507701100484:=()
def tw6764267461498027114:=()
def tw1657855883093773167:=()
def tw1313370981418545279:=()
def tw7677156206152451352:=()
def tw16057271148705936619:=()
def tw11093247383473489432:=()
def tw1252941886648763811:=()
def tw14006193125222821635:=()
def tw8656653188034202160:=()
def tw470853992989703452:=()
def tw746289362186027268:=()
def tw15134271226855729939:=()
def tw5899962300386511476:=()
def tw1000338416525948780:=()
def tw11078360603473020276:=()
def tw6467057827722933982:=()
def tw7902350682358932048:=()
def tw7163234987281165893:=()
def tw3464639479445204645:=()
def tw8117735409040693764:=()
def tw10764468930403501665:=()
def tw7965401725653669477:=()
def tw9329716836074085900:=()
def tw1701224499780588039:=()
def tw3811378221196030304:=()
def tw3884338321481959146:=()
def tw13922343689007564322:=()
def tw16738886653672725230:=()
def tw3385445956429628766:=()
def tw2203238832244910299:=()
def tw12979227047589329873:=()
def tw16300195714223366500:=()
def tw12818570134316852874:=()
def tw3839606431755085643:=()
def tw14302773951049281061:=()
def tw2278633254300766965:=()
def tw7801244525907281149:=()
def tw11654782903511931368:=()
def tw13224548979032666052:=()
def tw11835046314728457056:=()
def tw4912362498633202786:=()
def tw17687878843133466243:=()
def tw3670807365545906189:=()
def tw7934861048779516388:=()
def tw13402573006487496315:=()
def tw9735098272201200216:=()
def tw2956098579027530661:=()
def tw1423095139110569249:=()
def tw9335149013309787870:=()
def tw6002927008870258728:=()
def tw11238970084137393324:=()
end PySem.W.Fast
open PySem PySem.W PyProof.Rows
set_option maxRecDepth 100000 in
set_option maxHeartbeats 0 in
theorem PySem.Challenge.cw_retryhall_k05_deeds_read_holds : PySem.Challenge.rw_retryhall_k05_deeds_read.Holds := by
 w_on;o_law;k_head;(case hw=>w_witness2)
 k_fill
 refine My.walk (l:=PySem.Challenge.rw_retryhall_k05_deeds_read) rfl rfl (fun w h Y=>PySem.W.kIn_of Y) ?F
 case F =>
  intro w mg fa h KX G hmg
  refine' My.all_mk KX G hmg ..
  all_goals first|k_is|decide|skip
