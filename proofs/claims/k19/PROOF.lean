import PyProof.Rows.All
import Wide.All
import OpenK.AllK
import Wide.FinOn
import Lean
import PyProof.EqAt
import PyProof.EqKinds
import PyProof.TupleCall
import PySem.Challenge.RW_retryhall_k19_whole_alone_plain_model
set_option Elab.async false
set_option linter.all false
set_option maxRecDepth 100000
set_option maxHeartbeats 4000000
open PySem.W (fnOf findIn keepIn subIn codeIn nsIn isFn mg_of plainGet hasDictIn makesIn plainOver instObj typeIn emptyDict mroIn mg_none_of kia_one)
local macro_rules | `(tactic| rfl')=>`(tactic| decide +kernel)
noncomputable section
namespace L2
open PySem PySem.Spec PyProof.Rows
abbrev Key:=Sum Int Str
def yuF:Key->Value->Bool
 | .inl k,v=>Value.isInt k v
 | .inr x,v=>Value.isStrOf x v
def yMz (w:World):Key->Int
 | .inl k=>hashInt k
 | .inr x=>hashStr w x
theorem yca:∀ {k:Key}{v:Value},yuF k v=true->(∃ i t,k=Sum.inl i/\v=Value.int i t)\/(∃ x t,k=Sum.inr x/\v=Value.str x t)
 | .inl i,v,h=>by
  obtain ⟨t,e⟩:=Value.isInt_shape (k:=i) (v:=v) h
  exact .inl ⟨i,t,rfl,e⟩
 | .inr x,v,h=>by
  obtain ⟨t,e⟩:=Value.isStrOf_shape (x:=x) (v:=v) h
  exact .inr ⟨x,t,rfl,e⟩
theorem yyq (i:Int) (t:Tok):yuF (.inl i) (.int i t)=true:=by simp [yuF,Value.isInt]
theorem yyr (x:Str) (t:Tok):yuF (.inr x) (.str x t)=true:=by simp [yuF,Value.isStrOf]
theorem yHk (a b:Int):decide ((Sum.inl a:Key)=Sum.inl b)=(a == b):=by
 by_cases e:a=b
 .subst e;simp
 .have h:¬ (Sum.inl a:Key)=Sum.inl b:=fun q=>e (Sum.inl.inj q)
  rw [decide_eq_false h]
  exact (beq_eq_false_iff_ne.mpr e).symm
theorem yHl (a b:Str):decide ((Sum.inr a:Key)=Sum.inr b)=decide (a=b):=by
 by_cases e:a=b
 .subst e;simp
 .have h:¬ (Sum.inr a:Key)=Sum.inr b:=fun q=>e (Sum.inr.inj q)
  rw [decide_eq_false h,decide_eq_false e]
theorem yHm (a:Int) (b:Str):decide ((Sum.inl a:Key)=Sum.inr b)=false:=decide_eq_false (fun q=>nomatch q)
theorem yHn (a:Str) (b:Int):decide ((Sum.inr a:Key)=Sum.inl b)=false:=decide_eq_false (fun q=>nomatch q)
noncomputable def ydz (prog:Program) (w:World):PySem.KeyKind prog w Key where
 is:=yuF
 hash:=yMz w
 inj:=fun v a b ha hb=>by
  rcases yca ha with ⟨i,t,rfl,rfl⟩|⟨x,t,rfl,rfl⟩
  .rcases yca hb with ⟨j,u,rfl,e⟩|⟨y,u,rfl,e⟩
   .injection e with e1 _;rw [e1]
   .exact nomatch e
  .rcases yca hb with ⟨j,u,rfl,e⟩|⟨y,u,rfl,e⟩
   .exact nomatch e
   .injection e with e1 _;rw [e1]
 byValue:=fun k v h=>by
  rcases yca h with ⟨i,t,rfl,rfl⟩|⟨x,t,rfl,rfl⟩<;>rfl
 pyHash:=fun hv h=>by
  rcases yca hv with ⟨i,t,rfl,rfl⟩|⟨x,t,rfl,rfl⟩
  .exact wpAny_pyHash_int h
  .exact wpAny_pyHash_str h
 eqBool:=fun hu hv h=>by
  rcases yca hu with ⟨i,t,rfl,rfl⟩|⟨x,t,rfl,rfl⟩
  .rcases yca hv with ⟨j,u,rfl,rfl⟩|⟨y,u,rfl,rfl⟩
   .rw [yHk] at h;exact wpAny_eqBool_int h
   .rw [yHm] at h;exact SeqAt.EqAt.int_str i t y u _ _ _ _ h
  .rcases yca hv with ⟨j,u,rfl,rfl⟩|⟨y,u,rfl,rfl⟩
   .rw [yHn] at h;exact SeqAt.EqAt.str_int x t j u _ _ _ _ h
   .rw [yHl] at h;exact wpAny_eqBool_str h
 «strs»:=fun k x t v h=>by
  rcases yca h with ⟨i,u,rfl,e⟩|⟨y,u,rfl,e⟩
  .exact nomatch e
  .injection e with e1 _
   subst e1
   cases v<;>rfl
theorem yuG (prog:Program) (w:World) (i:Int) (t:Tok):(ydz prog w).is (.inl i) (.int i t)=true:=yyq i t
theorem yuH (prog:Program) (w:World) (x:Str) (t:Tok):(ydz prog w).is (.inr x) (.str x t)=true:=yyr x t
end L2
namespace L2
open PySem PySem.Spec PyProof.Rows
inductive V where
 | non|bl (b:Bool)|int (i:Int)|str (x:Str)|byt (b:Array UInt8)|flt (b:UInt64)|ref (a:Addr)|ty (n:String)
 deriving DecidableEq
noncomputable def RelV:V->Value->Prop
 | .non,u=>u=Value.none
 | .bl b,u=>u=Value.bool b
 | .int i,u=>∃ t,u=Value.int i t
 | .str x,u=>∃ t,u=Value.str x t
 | .byt b,u=>∃ t,u=Value.bytes b t
 | .flt b,u=>∃ t,u=Value.float b t
 | .ref a,u=>u=Value.ref a
 | .ty n,u=>u=Value.type n
abbrev Vals:List V->List Value->Prop:=Paired RelV
theorem Vals.length {xs:List V}{us:List Value}(r:Vals xs us):xs.length=us.length:=Paired.length r
theorem Vals.get:∀ {xs:List V}{us:List Value}{i:Nat}{x:V},Vals xs us->xs[i]?=some x->∃ u,us[i]?=some u/\RelV x u
 | _,_,_,_,.nil,e=>by simp at e
 | _,_,0,_,.cons r _,e=>by simp at e;subst e;exact ⟨_,rfl,r⟩
 | _,_,i+1,x,.cons _ t,e=>by
  obtain ⟨u,h1,h2⟩:=Vals.get (i:=i) (x:=x) t (by simpa using e)
  exact ⟨u,by simpa using h1,h2⟩
theorem Vals.set {x:V}{u:Value}(r:RelV x u):∀ {xs:List V}{us:List Value}(i:Nat),Vals xs us->Vals (xs.set i x) (us.set i u)
 | _,_,_,.nil=>.nil
 | _,_,0,.cons _ t=>.cons r t
 | _,_,i+1,.cons q t=>.cons q (Vals.set r i t)
theorem Vals.append:∀ {xs ys:List V}{us ws:List Value},Vals xs us->Vals ys ws->Vals (xs++ys) (us++ws)
 | _,_,_,_,.nil,s=>s
 | _,_,_,_,.cons r t,s=>.cons r (Vals.append t s)
theorem Vals.take:∀ {xs:List V}{us:List Value}(n:Nat),Vals xs us->Vals (xs.take n) (us.take n)
 | _,_,0,_=>.nil
 | _,_,_+1,.nil=>.nil
 | _,_,n+1,.cons r t=>.cons r (Vals.take n t)
theorem Vals.drop:∀ {xs:List V}{us:List Value}(n:Nat),Vals xs us->Vals (xs.drop n) (us.drop n)
 | _,_,0,r=>r
 | _,_,_+1,.nil=>.nil
 | _,_,n+1,.cons _ t=>Vals.drop n t
def RelO:Option V->Option Value->Prop
 | some v,some u=>RelV v u
 | none,none=>True
 | _,_=>False
def KV {κ:Type}:List (κ×V)->List (κ×Value)->Prop:=Paired fun (p:κ×V) (q:κ×Value)=>p.1=q.1/\RelV p.2 q.2
def kV:Key->V
 | .inl i=>.int i
 | .inr x=>.str x
inductive HO where
 | lst (xs:List V)
 | tup (xs:List V)
 | dK (kvs:List (Key×V))|dT (kvs:List (List Key×V))
 | set (S:Int->Bool) (n:Nat)
 | ins (C dx:Addr) (fs:List (Str×V))
 | own (x:Addr)
 | xd (fs:List (Str×V))
 | met (f x:Addr)
 | rng (lo hi:Int)
 | frz (o:Obj) (u:HO)
 | tbl (ps:Array Value)
 | ext (φ:Heap->Prop)
abbrev Hp:=Addr->Option HO
def upd (H:Hp) (a:Addr) (o:HO):Hp:=fun b=>if b=a then some o else H b
theorem yX {H:Hp}{a:Addr}{o:HO}:upd H a o a=some o:=by unfold upd;rw [if_pos rfl]
theorem ybe {H:Hp}{a b:Addr}{o:HO}(h:b≠a):upd H a o b=H b:=by unfold upd;rw [if_neg h]
theorem yJY {H:Hp}{a b:Addr}{o u:HO}(h:H a=some o) (h':H b=some u) (d:o≠u):a≠b:=by
 intro e;subst e;rw [h] at h';exact d (Option.some.inj h')
theorem ycx {H:Hp}{a b:Addr}{o:HO}(h:H a=some o) (h':H b=none):a≠b:=by
 intro e;subst e;rw [h] at h';cases h'
section
variable (P:Program) (w:World)
noncomputable def ObjOk (H:Hp) (h:Heap) (a:Addr):HO->Prop
 | .lst xs=>xs.length<=sizeLine/\∃ (its:List Value) (n:Nat),Vals xs its/\h.get? a=some { cls:=.type "list",data:=.seq its.toArray n }
 | .tup xs=>xs.length<=sizeLine/\∃ its:List Value,Vals xs its/\IsTup h a its.toArray
 | .dK kvs=>kvs.length<=sizeLine/\(a == sysModules)=false/\∃ vs,KV kvs vs/\h.DictOf (ydz P w) a vs
 | .dT kvs=>kvs.length<=sizeLine/\(a == sysModules)=false/\∃ xs:List (List Key×Addr×Value),
   Paired (fun (p:List Key×V) (q:List Key×Addr×Value)=>p.1=q.1/\H q.2.1=some (.tup (p.1.map kV))/\RelV p.2 q.2.2) kvs xs /\
   ∃ o es ep,h.get? a=some o/\o.ExactDict/\o.data=.dict es ep/\es.toList=xs.map (entryOfKey (tupleKind (ydz P w)))/\(xs.map (·.1)).Nodup
 | .set S n=>h.SetOf (intKind P w) a S n
 | .ins C dx fs=>H dx=some (.own a)/\fs.length<=1000/\dx≠a/\h.get? a=some (instObj C dx) /\
   ∃ mA,h.Ns1 dx mA/\(∀ f,RelO (fs.lookup f) (mA f))/\PySem.Within mA (fs.map (·.1))
 | .own _=>∃ o,h.get? a=some o
 | .xd fs=>∃ mA,h.Ns1 a mA/\∀ f,RelO (fs.lookup f) (mA f)
 | .rng lo hi=>∃ t u v,h.get? a=some { cls:=.type "range",data:=.fields #[.int lo t,.int hi u,.int 1 v] }
 | .frz o u=>h.get? a=some o/\ObjOk H h a u
 | .tbl ps=>h.get? a=some { cls:=.none,data:=.fields ps }
 | .met f x=>h.get? a=some (PySem.W.methodObj (.ref f) (.ref x))
 | .ext φ=>φ h/\(∃ o,h.get? a=some o)/\∀ h1 h2:Heap,φ h1->(∀ o,h1.get? a=some o->h2.get? a=some o)->φ h2
def HOk (H:Hp) (h:Heap):Prop:=∀ a o,H a=some o->ObjOk P w H h a o
end
section
variable {P:Program}{w:World}{H H':Hp}{h h':Heap}{a:Addr}{o:HO}
theorem ObjOk.lt (x:ObjOk P w H h a o):a<h.objs.size:=by
 cases o with
 | lst xs=>obtain ⟨_,_,_,_,e⟩:=x;exact Heap.lt_size e
 | tup xs=>obtain ⟨_,_,_,p⟩:=x;exact p.lt
 | dK kvs=>obtain ⟨_,_,_,_,o,_,_,e,_⟩:=x;exact Heap.lt_size e
 | dT kvs=>obtain ⟨_,_,_,_,o,_,_,e,_⟩:=x;exact Heap.lt_size e
 | set S n=>obtain ⟨o,_,_,_,e,_⟩:=x;exact Heap.lt_size e
 | ins C dx fs=>obtain ⟨_,_,_,e,_⟩:=x;exact Heap.lt_size e
 | own y=>obtain ⟨_,e⟩:=x;exact Heap.lt_size e
 | xd fs=>obtain ⟨_,⟨_,_,_,e,_⟩,_⟩:=x;exact Heap.lt_size e
 | rng lo hi=>obtain ⟨_,_,_,e⟩:=x;exact Heap.lt_size e
 | frz ob u=>obtain ⟨e,_⟩:=x;exact Heap.lt_size e
 | tbl ps=>exact Heap.lt_size (show h.get? a=some _ from x)
 | met f y=>exact Heap.lt_size (show h.get? a=some _ from x)
 | ext φ=>obtain ⟨_,⟨_,e⟩,_⟩:=x;exact Heap.lt_size e
theorem Paired.mapP {α β:Type}{F G:α->β->Prop}:∀ {l₁:List α}{l₂:List β},Paired F l₁ l₂->(∀ a b,F a b->G a b)->Paired G l₁ l₂
 | _,_,.nil,_=>.nil
 | _,_,.cons r t,f=>.cons (f _ _ r) (Paired.mapP t f)
theorem ObjOk.stay (x:ObjOk P w H h a o) (k:∀ b u,(b=a\/H b=some (.own a))->h.get? b=some u->h'.get? b=some u)
  (ho:∀ b,H b=some (.own a)->H' b=some (.own a)) (ht:∀ b xs,H b=some (.tup xs)->H' b=some (.tup xs)):ObjOk P w H' h' a o:=by
 induction o with
 | lst xs=>obtain ⟨z,its,n,r,e⟩:=x;exact ⟨z,its,n,r,k _ _ (.inl rfl) e⟩
 | tup xs=>obtain ⟨z,its,r,ob,e,c⟩:=x;exact ⟨z,its,r,ob,k _ _ (.inl rfl) e,c⟩
 | dK kvs=>obtain ⟨z,y,vs,r,ob,es,ep,e,c⟩:=x;exact ⟨z,y,vs,r,ob,es,ep,k _ _ (.inl rfl) e,c⟩
 | dT kvs =>
  obtain ⟨z,y,xs,r,ob,es,ep,e,c⟩:=x
  exact ⟨z,y,xs,Paired.mapP r fun p q z=>⟨z.1,ht _ _ z.2.1,z.2.2⟩,ob,es,ep,k _ _ (.inl rfl) e,c⟩
 | set S n=>obtain ⟨ob,es,ep,t,e,c⟩:=x;exact ⟨ob,es,ep,t,k _ _ (.inl rfl) e,c⟩
 | ins C dx fs =>
  obtain ⟨d,z,ne,e,mA,⟨od,es,ep,e2,c⟩,r⟩:=x
  exact ⟨ho _ d,z,ne,k _ _ (.inl rfl) e,mA,⟨od,es,ep,k _ _ (.inr d) e2,c⟩,r⟩
 | own y=>obtain ⟨ob,e⟩:=x;exact ⟨ob,k _ _ (.inl rfl) e⟩
 | xd fs=>obtain ⟨mA,⟨od,es,ep,e,c⟩,r⟩:=x;exact ⟨mA,⟨od,es,ep,k _ _ (.inl rfl) e,c⟩,r⟩
 | rng lo hi=>obtain ⟨t,u,v,e⟩:=x;exact ⟨t,u,v,k _ _ (.inl rfl) e⟩
 | frz ob u ih=>obtain ⟨e,q⟩:=x;exact ⟨k _ _ (.inl rfl) e,ih q⟩
 | tbl ps =>
  have e:h.get? a=some { cls:=.none,data:=.fields ps }:=x
  show h'.get? a=some { cls:=.none,data:=.fields ps }
  exact k a _ (.inl rfl) e
 | met f y =>
  have e:h.get? a=some (PySem.W.methodObj (.ref f) (.ref y)):=x
  show h'.get? a=some (PySem.W.methodObj (.ref f) (.ref y))
  exact k a _ (.inl rfl) e
 | ext φ=>obtain ⟨p,⟨o,e⟩,st⟩:=x;exact ⟨st _ _ p fun o q=>k _ _ (.inl rfl) q,⟨o,k _ _ (.inl rfl) e⟩,st⟩
theorem HOk.lt (x:HOk P w H h) (e:H a=some o):a<h.objs.size:=(x a o e).lt
theorem HOk.fresh (x:HOk P w H h) (e:h.objs.size<=a):H a=none:=by
 cases q:H a with
 | none=>rfl
 | some u=>exact absurd (Nat.lt_of_lt_of_le (x.lt q) e) (Nat.lt_irrefl _)
theorem HOk.kept (x:HOk P w H h) (k:∀ b u,h.get? b=some u->h'.get? b=some u):HOk P w H h':=fun a o e =>
 (x a o e).stay (fun b u _ q=>k b u q) (fun _ q=>q) fun _ _ q=>q
theorem HOk.laid (x:HOk P w H h) (k:∀ b u,h.get? b=some u->h'.get? b=some u) (hp:h.objs.size<=a) (new:ObjOk P w (upd H a o) h' a o):HOk P w (upd H a o) h':=fun b u e=>by
 have hn:=x.fresh hp
 by_cases hb:b=a
 .subst hb;rw [yX] at e;cases e;exact new
 .rw [ybe hb] at e
  exact (x b u e).stay (fun c v _ q=>k c v q) (fun c q=>by rw [ybe (ycx q hn)];exact q) fun c xs q=>by rw [ybe (ycx q hn)];exact q
end
def Rd (H:Hp) (a:Addr) (u:HO):Prop:=H a=some u\/∃ o,H a=some (.frz o u)
theorem Rd.ok {P:Program}{w:World}{H:Hp}{h:Heap}{a:Addr}{u:HO}(r:Rd H a u) (x:HOk P w H h):ObjOk P w H h a u:=by
 rcases r with r|⟨o,r⟩
 .exact x a u r
 .obtain ⟨_,q⟩:=x a _ r
  exact q
noncomputable def Mut:Option HO->Prop
 | some (.lst _)=>True
 | some (.dK _)=>True
 | some (.dT _)=>True
 | some (.set _ _)=>True
 | some (.ins _ _ _)=>True
 | some (.ext _)=>True
 | _=>False
section
variable {P:Program}{w:World}{H:Hp}{h h':Heap}{x e:Addr}{o':HO}
theorem HOk.write (ok:HOk P w H h) (mu:Mut (H x)) (he:e=x\/H e=some (.own x)) (k:∀ b u,b≠e->h.get? b=some u->h'.get? b=some u) (heo:∃ u,h'.get? e=some u)
  (new:ObjOk P w (upd H x o') h' x o'):HOk P w (upd H x o') h':=fun b u q=>by
 have nown:∀ c y,H c=some (.own y)->c≠x:=fun c y r z=>by subst z;rw [r] at mu;exact mu
 have ntup:∀ c xs,H c=some (.tup xs)->c≠x:=fun c xs r z=>by subst z;rw [r] at mu;exact mu
 by_cases hb:b=x
 .subst hb;rw [yX] at q;cases q;exact new
 .rw [ybe hb] at q
  by_cases hbe:b=e
  .have q':H b=some (.own x):=by
    rcases he with z|z
    .exact absurd (hbe.trans z) hb
    .rw [hbe];exact z
   rw [q] at q';cases q'
   obtain ⟨v,hv⟩:=heo
   exact ⟨v,by rw [hbe];exact hv⟩
  .refine (ok b u q).stay (fun c v hc r=>k c v ?_ r) (fun c r=>by rw [ybe (nown c b r)];exact r) fun c xs r=>by rw [ybe (ntup c xs r)];exact r
   rcases hc with rfl|hc
   .exact hbe
   .rintro rfl
    rcases he with z|z
    .exact nown c b hc z
    .rw [hc] at z;cases z;exact hb rfl
end
structure Un (fs ex:List Addr) (H H':Hp) (h h':Heap):Prop where
 keep:∀ b o,h.get? b=some o->H b=none->b∉fs->b∉ex->h'.get? b=some o
 slot:∀ b o,h.get? b=some o->H b=none->b∈fs->b∉ex->∃ sl,h'.get? b=some { o with slots:=sl }
 free:∀ b o,h.get? b=some o->H b=none->b∉ex->H' b=none
 there:∀ b o,h.get? b=some o->b∉ex->∃ o',h'.get? b=some o'
 tups:∀ b xs,H b=some (.tup xs)->H' b=some (.tup xs)
 frzs:∀ b o u,H b=some (.frz o u)->H' b=some (.frz o u)
 tbls:∀ b ps,H b=some (.tbl ps)->∃ more,H' b=some (.tbl (ps++more))
section
variable {fs fs' ex ex':List Addr}{H H1 H2:Hp}{h h1 h2 h':Heap}{a x e:Addr}{o:HO}
theorem Un.any (u:Un fs ex H H1 h h1) {b:Addr}{ob:Obj}(q:h.get? b=some ob) (n:H b=none) (hx:b∉ex):∃ sl,h1.get? b=some { ob with slots:=sl }:=by
 by_cases hb:b∈fs
 .exact u.slot b ob q n hb hx
 .exact ⟨ob.slots,u.keep b ob q n hb hx⟩
theorem Un.kept (k:∀ b u,h.get? b=some u->h'.get? b=some u):Un fs ex H H h h' :=
 ⟨fun b ob q _ _ _=>k b ob q,fun b ob q _ _ _=>⟨ob.slots,k b ob q⟩,fun _ _ _ n _=>n,fun b ob q _=>⟨ob,k b ob q⟩,fun _ _ q=>q,fun _ _ _ q=>q,fun _ ps q=>⟨#[],by rw [q];simp⟩⟩
theorem Un.refl:Un fs ex H H h h:=Un.kept fun _ _ q=>q
theorem Un.laid (k:∀ b u,h.get? b=some u->h'.get? b=some u) (hp:h.objs.size<=a) (hn:H a=none):Un fs ex H (upd H a o) h h' where
 keep:=fun b u q _ _ _=>k b u q
 slot:=fun b u q _ _ _=>⟨u.slots,k b u q⟩
 free:=fun b u q n _=>by rw [ybe (Nat.ne_of_lt (Nat.lt_of_lt_of_le (Heap.lt_size q) hp))];exact n
 there:=fun b u q _=>⟨u,k b u q⟩
 tups:=fun b xs q=>by rw [ybe (ycx q hn)];exact q
 frzs:=fun b u xs q=>by rw [ybe (ycx q hn)];exact q
 tbls:=fun b ps q=>⟨#[],by rw [ybe (ycx q hn),q];simp⟩
theorem Un.write (mu:Mut (H x)) (he:e=x\/H e=some (.own x)) (k:∀ b u,b≠e->h.get? b=some u->h'.get? b=some u) (heo:∃ u,h'.get? e=some u):Un fs ex H (upd H x o) h h':=by
 have hx:∀ b,H b=none->b≠x:=fun b n z=>by subst z;rw [n] at mu;exact mu
 have hb:∀ b,H b=none->b≠e:=fun b n z=>by
  subst z
  rcases he with r|r
  .exact hx b n r
  .rw [n] at r;cases r
 have hm:∀ b u,H b=some u->¬ Mut (some u)->b≠x:=fun b u q nm z=>by subst z;rw [q] at mu;exact nm mu
 refine ⟨fun b u q n _ _=>k b u (hb b n) q,fun b u q n _ _=>⟨u.slots,k b u (hb b n) q⟩,fun b u q n _=>by rw [ybe (hx b n)];exact n,fun b u q _=>?_,
  fun b xs q=>by rw [ybe (hm b _ q fun z=>z)];exact q,fun b u xs q=>by rw [ybe (hm b _ q fun z=>z)];exact q,fun b ps q=>⟨#[],by rw [ybe (hm b _ q fun z=>z),q];simp⟩⟩
 by_cases hbe:b=e
 .subst hbe;exact heo
 .exact ⟨u,k b u hbe q⟩
end
def trk (h:Heap) (H:Hp):List Addr:=(List.range h.objs.size).filter fun a=>(H a).isSome
def yBl (h:Heap) (H:Hp):Heap:=PySem.W.hideAll h (trk h H)
theorem yys (h:Heap) (H:Hp):(yBl h H).objs.size=h.objs.size:=PySem.W.hideAll_size _ _
theorem yBm {h:Heap}{H:Hp}{b:Addr}{o:Obj}(e:h.get? b=some o) (n:H b=none):(yBl h H).get? b=some o :=
 PySem.W.hideAll_get _ e fun hm=>by
  have q:(H b).isSome=true:=(List.mem_filter.mp hm).2
  rw [n] at q;simp at q
theorem yEO {h:Heap}{H:Hp}{b:Addr}{o:Obj}(e:(yBl h H).get? b=some o):h.get? b=some o/\H b=none:=by
 have e':h.get? b=some o:=PySem.W.of_hideAll (trk h H) e
 refine ⟨e',?_⟩
 cases q:H b with
 | none=>rfl
 | some x =>
  have hm:b∈trk h H:=List.mem_filter.mpr ⟨List.mem_range.mpr (Heap.lt_size e'),by simp [q]⟩
  have z:(yBl h H).get? b=none:=PySem.W.hideAll_none (trk h H) hm
  rw [z] at e;cases e
noncomputable def yEP (g h:Heap) (L:Addr):List (Addr×Obj):=(List.range h.objs.size).filterMap fun a=>if a=L\/(g.get? a).isSome=true then none else (h.get? a).map fun o=>(a,o)
def rest (g h:Heap) (L d:Addr):List (Addr×Obj):=(yEP g h L).filter fun p=>decide (p.1≠d)
end L2
namespace L2
open PySem PySem.Spec PyProof.Rows
structure Mod (K:PySem.W.Frag) (mg:Str->Option Value) (base:Heap):Prop where
 kin:K.In base
 glob:base.Ns mainGlobals mg
 blt:∃ mb,base.Ns builtinsNs mb/\∀ x:Str,x≠"__name__"->mb x=bootBuiltins x
 nolimit:base.NoLimit
structure Cx where
 prog:Program
 w:World
 K:PySem.W.Frag
 mg:Str->Option Value
 base:Heap
 A:Around
 N:List Str
 s₀:Shared
 H₀:Hp
 env:Env
 outer:List Env
 stack:List Env
 ex:List Addr
 fn:Str->Bool
 calm:Bool
 pn:List (Addr×Obj)
 xe:Value->Shared->Prop
def frs (l:List Env):List Addr:=l.filterMap (·.frame)
abbrev Cx.fs (X:Cx):List Addr:=frs X.outer
noncomputable def Vis (sc:Scope) (x:Str):Prop:=sc.names.lookup x=some .local \/ sc.names.lookup x=some .cell\/sc.names.lookup x=some .free
def Loc (sc:Scope) (x:Str):Prop:=sc.names.lookup x=some .local \/ sc.names.lookup x=some .cell
noncomputable def Look (env:Env) (h:Heap) (m:Str->Option Value) (x:Str) (u:Value):Prop :=
 (env.kindOf x=some .local/\m x=some u)\/((env.kindOf x=some .cell\/env.kindOf x=some .free)/\∃ c,env.cells.lookup x=some c/\h.IsCell c (some u))
structure Cx.Ok (X:Cx):Prop where
 mod:Mod X.K X.mg X.base
 kind:X.env.scope.kind=.function
 glob:X.env.globals=mainGlobals
 blt:X.env.builtins=builtinsNs
 above:X.s₀.heap.objs.size<=X.env.locals
 inj:∀ x y c,X.env.cells.lookup x=some c->X.env.cells.lookup y=some c->x=y
 has:∀ x,(X.env.kindOf x=some .cell\/X.env.kindOf x=some .free)->∃ c,X.env.cells.lookup x=some c
 cab:∀ x c,X.fn x=true->X.env.cells.lookup x=some c->X.s₀.heap.objs.size<=c
 hd:X.calm=true->X.A.handled=none
 frames:X.A.frames=some X.stack
 stk:X.stack=X.outer\/(X.stack=X.env::X.outer/\X.env.frame=some X.env.locals)
 exf:∀ b∈X.ex,b≠X.env.locals/\∀ x c,X.env.cells.lookup x=some c->c≠b
 bs:∀ b o,X.base.get? b=some o->X.s₀.heap.get? b=some o/\X.H₀ b=none
 bsz:X.base.objs.size<=X.s₀.heap.objs.size
 noex:∀ b o,X.base.get? b=some o->b∉X.ex
 exfs:∀ b∈X.ex,b∉X.fs
 funs:X.s₀.heap.FunFrames X.base X.outer
 frf:∀ b∈X.fs,X.H₀ b=none
structure Inv (X:Cx) (pins:List (Addr×Obj)) (σ:List (Option V)) (H:Hp) (s:Shared):Prop where
 ok:X.Ok
 os:s.os=X.s₀.os
 bare:AllBare s.gens
 base:Un X.fs X.ex X.H₀ H X.s₀.heap s.heap
 loc:∃ m,s.heap.Ns X.env.locals m/\∀ (i:Nat) (x:Str) (v:V),X.N[i]?=some x->σ[i]?=some (some v)->Vis X.env.scope x->∃ u,RelV v u/\Look X.env s.heap m x u
 cell:∀ x c,X.env.cells.lookup x=some c->∃ v,s.heap.IsCell c v
 free:H X.env.locals=none
 freeC:∀ x c,X.env.cells.lookup x=some c->H c=none
 pin:∀ p∈X.pn++pins,s.heap.get? p.1=some p.2/\H p.1=none/\p.1≠X.env.locals/\p.1∉X.fs/\∀ v,p.2.data≠.cell v
 hok:HOk X.prog X.w H s.heap
 len:σ.length=X.N.length
section
variable {X:Cx}{pins:List (Addr×Obj)}{σ:List (Option V)}{H H':Hp}{s:Shared}{h':Heap}
theorem Cx.Ok.nofr (ok:X.Ok) {b:Addr}{o:Obj}(e:X.base.get? b=some o):b∉X.fs:=fun hb=>by
 have:=(ok.funs.mem hb).1
 rw [e] at this;cases this
theorem Inv.bs (I:Inv X pins σ H s):∀ b o,X.base.get? b=some o->s.heap.get? b=some o/\H b=none:=fun b o e =>
 ⟨I.base.keep b o (I.ok.bs b o e).1 (I.ok.bs b o e).2 (I.ok.nofr e) (I.ok.noex b o e),I.base.free b o (I.ok.bs b o e).1 (I.ok.bs b o e).2 (I.ok.noex b o e)⟩
theorem Inv.bk (I:Inv X pins σ H s):∀ b o,X.base.get? b=some o->s.heap.get? b=some o:=fun b o e=>(I.bs b o e).1
theorem Inv.mod (I:Inv X pins σ H s):Mod X.K X.mg X.base:=I.ok.mod
theorem Inv.kIn (I:Inv X pins σ H s):X.K.In s.heap:=I.ok.mod.kin.keeps I.bk
theorem Inv.lt (I:Inv X pins σ H s):X.env.locals<s.heap.objs.size:=let ⟨_,hn,_⟩:=I.loc;hn.lt
theorem Inv.sz (I:Inv X pins σ H s):X.s₀.heap.objs.size<=s.heap.objs.size:=Nat.le_trans I.ok.above (Nat.le_of_lt I.lt)
theorem Inv.nofs (I:Inv X pins σ H s) {a:Addr}(h:s.heap.objs.size<=a):a∉X.fs:=fun hb=>by
 obtain ⟨_,o,ho,_⟩:=I.ok.funs.mem hb
 exact absurd (Nat.lt_of_lt_of_le (Heap.lt_size ho) (Nat.le_trans I.sz h)) (Nat.lt_irrefl _)
theorem Inv.cne (I:Inv X pins σ H s):∀ x c,X.env.cells.lookup x=some c->c≠X.env.locals:=fun x c e z=>by
 obtain ⟨v,o,ho,hd⟩:=I.cell x c e
 obtain ⟨m,⟨o',es,ep,ho',hd',_⟩,_⟩:=I.loc
 rw [z,ho'] at ho;cases ho;rw [hd'] at hd;cases hd
theorem Inv.funs (I:Inv X pins σ H s):s.heap.FunFrames X.base X.outer:=by
 have all:∀ (l:List Env),(∀ b∈frs l,b∈X.fs)->X.s₀.heap.FunFrames X.base l->s.heap.FunFrames X.base l:=by
  intro l
  induction l with
  | nil=>intro _ _;trivial
  | cons env r ih =>
   intro hs hl
   obtain ⟨hk,⟨L,o,hf,hn,ho,hd⟩,hr⟩:=hl
   have hL:L∈X.fs:=hs L (by unfold frs;rw [List.filterMap_cons,hf];exact List.mem_cons_self)
   obtain ⟨sl,e⟩:=I.base.slot L o ho (I.ok.frf L hL) hL fun z=>I.ok.exfs L z hL
   exact ⟨hk,⟨L,_,hf,hn,e,hd⟩,ih (fun b hb=>hs b (by unfold frs;rw [List.filterMap_cons,hf];exact List.mem_cons_of_mem _ hb)) hr⟩
 exact all X.outer (fun _ hb=>hb) I.ok.funs
theorem Inv.stack (I:Inv X pins σ H s):s.heap.FunFrames X.base X.stack:=by
 rcases I.ok.stk with e|⟨e,hf⟩
 .rw [e];exact I.funs
 .rw [e]
  obtain ⟨m,hn,_⟩:=I.loc
  refine .cons (by rw [I.ok.kind];decide) hf hn ?_ I.funs
  exact Heap.get?_none_of_le (Nat.le_trans I.ok.bsz I.ok.above)
theorem Inv.stkSub (I:Inv X pins σ H s):∀ b∈frs X.stack,b∈X.env.locals::X.fs:=fun b hb=>by
 rcases I.ok.stk with e|⟨e,hf⟩
 .rw [e] at hb;exact List.mem_cons_of_mem _ hb
 .rw [e] at hb
  unfold frs at hb
  rw [List.filterMap_cons,hf] at hb
  exact hb
theorem Inv.stkFree (I:Inv X pins σ H s):∀ b∈frs X.stack,H b=none:=fun b hb=>by
 rcases List.mem_cons.mp (I.stkSub b hb) with e|hb
 .rw [e];exact I.free
 .obtain ⟨_,o,ho,_⟩:=I.ok.funs.mem hb
  exact I.base.free b o ho (I.ok.frf b hb) fun z=>I.ok.exfs b z hb
theorem Inv.step {g':Array GenState}{t':Nat}{d':Drawn}{ch:List Addr}(I:Inv X pins σ H s)
  (hch:∀ b∈ch,(b∈X.ex\/X.s₀.heap.objs.size<=b)/\b≠X.env.locals/\(∀ x c,X.env.cells.lookup x=some c->c≠b)/\∀ p∈X.pn++pins,p.1≠b)
  (keep:∀ b o,b≠X.env.locals->b∉X.fs->b∉ch->s.heap.get? b=some o->H b=none->h'.get? b=some o)
  (slot:∀ b o,b≠X.env.locals->b∈X.fs->b∉ch->s.heap.get? b=some o->H b=none->∃ sl,h'.get? b=some { o with slots:=sl }) (free:∀ b o,b∉ch->s.heap.get? b=some o->H b=none->H' b=none)
  (there:∀ b o,b∉ch->s.heap.get? b=some o->∃ o',h'.get? b=some o')
  (tups:∀ b xs,H b=some (.tup xs)->H' b=some (.tup xs)) (frzs:∀ b o u,H b=some (.frz o u)->H' b=some (.frz o u)) (tbls:∀ b ps,H b=some (.tbl ps)->∃ more,H' b=some (.tbl (ps++more)))
  (ns:∀ m,s.heap.Ns X.env.locals m->h'.Ns X.env.locals m) (hok:HOk X.prog X.w H' h') (hg:AllBare g') :
  Inv X pins σ H' { s with heap:=h',gens:=g',drawn:=d',toks:=t' }:=by
 have neL:∀ b o,X.s₀.heap.get? b=some o->b≠X.env.locals:=fun b o e=>Nat.ne_of_lt (Nat.lt_of_lt_of_le (Heap.lt_size e) I.ok.above)
 have neC:∀ b o,X.s₀.heap.get? b=some o->b∉X.ex->b∉ch:=fun b o e hx hb=>by
  rcases (hch b hb).1 with z|z
  .exact hx z
  .exact absurd (Nat.lt_of_lt_of_le (Heap.lt_size e) z) (Nat.lt_irrefl _)
 have cellK:∀ x c,X.env.cells.lookup x=some c->∀ v,s.heap.IsCell c v->h'.IsCell c v:=fun x c e v ⟨o,ho,hd⟩=>by
  have nch:c∉ch:=fun z=>(hch c z).2.2.1 x c e rfl
  by_cases hc:c∈X.fs
  .obtain ⟨sl,q⟩:=slot c o (I.cne x c e) hc nch ho (I.freeC x c e)
   exact ⟨_,q,hd⟩
  .exact ⟨o,keep c o (I.cne x c e) hc nch ho (I.freeC x c e),hd⟩
 refine ⟨I.ok,I.os,hg,⟨fun b o e n hb hx=>?_,fun b o e n hb hx=>?_,fun b o e n hx=>?_,fun b o e hx=>?_,fun b xs e=>tups b xs (I.base.tups b xs e),fun b o xs e=>frzs b o xs (I.base.frzs b o xs e),fun b ps e=>?_⟩,?_,fun x c e=>?_,?_,fun x c e=>?_,fun p hp=>?_,hok,I.len⟩
 .exact keep b o (neL b o e) hb (neC b o e hx) (I.base.keep b o e n hb hx) (I.base.free b o e n hx)
 .obtain ⟨sl,e1⟩:=I.base.slot b o e n hb hx
  obtain ⟨sl',e2⟩:=slot b _ (neL b o e) hb (neC b o e hx) e1 (I.base.free b o e n hx)
  exact ⟨sl',e2⟩
 .obtain ⟨o',e1⟩:=I.base.there b o e hx
  exact free b o' (neC b o e hx) e1 (I.base.free b o e n hx)
 .obtain ⟨o',e1⟩:=I.base.there b o e hx
  exact there b o' (neC b o e hx) e1
 .obtain ⟨m1,e1⟩:=I.base.tbls b ps e
  obtain ⟨m2,e2⟩:=tbls b _ e1
  exact ⟨m1++m2,by rw [e2,Array.append_assoc]⟩
 .obtain ⟨m,hn,hl⟩:=I.loc
  refine ⟨m,ns m hn,fun i x v e1 e2 e3=>?_⟩
  obtain ⟨u,r,l⟩:=hl i x v e1 e2 e3
  refine ⟨u,r,?_⟩
  rcases l with l|⟨k,c,e,z⟩
  .exact .inl l
  .exact .inr ⟨k,c,e,cellK x c e _ z⟩
 .obtain ⟨v,z⟩:=I.cell x c e
  exact ⟨v,cellK x c e v z⟩
 .obtain ⟨m,⟨o,_,_,ho,_⟩,_⟩:=I.loc
  exact free _ o (fun z=>(hch _ z).2.1 rfl) ho I.free
 .obtain ⟨v,o,ho,hd⟩:=I.cell x c e
  exact free c o (fun z=>(hch c z).2.2.1 x c e rfl) ho (I.freeC x c e)
 .obtain ⟨e,n,ne,nf,d⟩:=I.pin p hp
  have nch:p.1∉ch:=fun z=>(hch p.1 z).2.2.2 p hp rfl
  exact ⟨keep p.1 p.2 ne nf nch e n,free p.1 p.2 nch e n,ne,nf,d⟩
theorem Inv.un {t':Nat}(I:Inv X pins σ H s) (u:Un X.fs [] H H' s.heap h') (hok:HOk X.prog X.w H' h'):Inv X pins σ H' { s with heap:=h',toks:=t' }:=by
 obtain ⟨m,⟨o,es,ep,ho,r⟩,_⟩:=id I.loc
 obtain ⟨sl,hL⟩:=u.any ho I.free (by simp)
 exact I.step (g':=s.gens) (d':=s.drawn) (ch:=[]) (fun _ z=>nomatch z) (fun b o _ hb _ e n=>u.keep b o e n hb (by simp)) (fun b o _ hb _ e n=>u.slot b o e n hb (by simp)) (fun b o _ e n=>u.free b o e n (by simp)) (fun b o _ e=>u.there b o e (by simp)) u.tups u.frzs u.tbls (fun m' hm=>by
  obtain ⟨o',es',ep',ho',r'⟩:=hm
  rw [ho] at ho';cases ho'
  exact ⟨_,es',ep',hL,r'⟩) hok I.bare
theorem Inv.call {g':Array GenState}{t':Nat}{d':Drawn}{ch:List Addr}(I:Inv X pins σ H s) (u:Un (frs X.stack) ch H H' s.heap h') (hok:HOk X.prog X.w H' h') (hg:AllBare g')
  (hch:∀ b∈ch,(b∈X.ex\/X.s₀.heap.objs.size<=b)/\b≠X.env.locals/\(∀ x c,X.env.cells.lookup x=some c->c≠b)/\∀ p∈X.pn++pins,p.1≠b) :
  Inv X pins σ H' { s with heap:=h',gens:=g',drawn:=d',toks:=t' }:=by
 obtain ⟨m,⟨o,es,ep,ho,r⟩,_⟩:=id I.loc
 obtain ⟨sl,hL⟩:=u.any ho I.free fun z=>(hch _ z).2.1 rfl
 exact I.step (ch:=ch) hch (fun b o hL hb hc e n=>u.keep b o e n (fun z=>(List.mem_cons.mp (I.stkSub b z)).elim hL hb) hc) (fun b o _ _ hc e n=>u.any e n hc) (fun b o hc e n=>u.free b o e n hc) (fun b o hc e=>u.there b o e hc) u.tups u.frzs u.tbls (fun m' hm=>by
  obtain ⟨o',es',ep',ho',r'⟩:=hm
  rw [ho] at ho';cases ho'
  exact ⟨_,es',ep',hL,r'⟩) hok hg
theorem Inv.turned {t':Nat}{it:Addr}(I:Inv X pins σ H s) (k:∀ b o,b≠it->s.heap.get? b=some o->h'.get? b=some o) (hn:H it=none) (hL:it≠X.env.locals)
  (h1:it∈X.ex\/X.s₀.heap.objs.size<=it) (h2:∀ x c,X.env.cells.lookup x=some c->c≠it) (h3:∀ p∈X.pn++pins,p.1≠it):Inv X pins σ H { s with heap:=h',toks:=t' }:=by
 have nit:∀ b u,H b=some u->b≠it:=fun b u e z=>by rw [z,hn] at e;cases e
 refine I.step (g':=s.gens) (d':=s.drawn) (ch:=[it]) (fun b hb=>?_) (fun b o _ _ hc e _=>k b o (fun z=>hc (by simp [z])) e) (fun b o _ _ hc e _=>⟨o.slots,k b o (fun z=>hc (by simp [z])) e⟩) (fun _ _ _ _ n=>n)
  (fun b o hc e=>⟨o,k b o (fun z=>hc (by simp [z])) e⟩) (fun _ _ e=>e) (fun _ _ _ e=>e) (fun b ps e=>⟨#[],by rw [e];simp⟩) (fun m hm=>?_) (fun b u e=>?_) I.bare
 .have e:b=it:=by simpa using hb
  subst e
  exact ⟨h1,hL,h2,h3⟩
 .obtain ⟨o,es,ep,ho,r⟩:=hm
  exact ⟨o,es,ep,k _ o (Ne.symm hL) ho,r⟩
 .refine (I.hok b u e).stay (fun c v hc q=>k c v ?_ q) (fun _ q=>q) fun _ _ q=>q
  rcases hc with z|z
  .rw [z];exact nit b u e
  .exact nit c _ z
theorem Inv.tok (I:Inv X pins σ H s) (t:Nat):Inv X pins σ H { s with toks:=t }:=I.un (h':=s.heap) (t':=t) Un.refl I.hok
theorem Inv.kept {t':Nat}(I:Inv X pins σ H s) (k:∀ b u,s.heap.get? b=some u->h'.get? b=some u):Inv X pins σ H { s with heap:=h',toks:=t' }:=I.un (Un.kept k) (I.hok.kept k)
theorem Inv.laid {a:Addr}{o:HO}{t':Nat}(I:Inv X pins σ H s) (k:∀ b u,s.heap.get? b=some u->h'.get? b=some u) (hp:s.heap.objs.size<=a) (new:ObjOk X.prog X.w (upd H a o) h' a o) :
  Inv X pins σ (upd H a o) { s with heap:=h',toks:=t' }:=I.un (Un.laid k hp (I.hok.fresh hp)) (I.hok.laid k hp new)
theorem Inv.write {x e:Addr}{o:HO}{t':Nat}(I:Inv X pins σ H s) (mu:Mut (H x)) (he:e=x\/H e=some (.own x)) (k:∀ b u,b≠e->s.heap.get? b=some u->h'.get? b=some u) (heo:∃ u,h'.get? e=some u)
  (new:ObjOk X.prog X.w (upd H x o) h' x o):Inv X pins σ (upd H x o) { s with heap:=h',toks:=t' }:=I.un (Un.write mu he k heo) (I.hok.write mu he k heo new)
theorem Inv.pins_of {pins':List (Addr×Obj)}(I:Inv X pins σ H s) (h:∀ p∈pins',s.heap.get? p.1=some p.2/\H p.1=none/\p.1≠X.env.locals/\p.1∉X.fs/\∀ v,p.2.data≠.cell v):Inv X pins' σ H s :=
 ⟨I.ok,I.os,I.bare,I.base,I.loc,I.cell,I.free,I.freeC,fun p hp=>(List.mem_append.mp hp).elim (fun z=>I.pin p (List.mem_append_left _ z)) (h p),I.hok,I.len⟩
theorem ywk {N:List Str}(hN:N.Nodup) {i j:Nat}{x:Str}(a:N[i]?=some x) (b:N[j]?=some x):i=j:=by
 obtain ⟨h1,e1⟩:=List.getElem?_eq_some_iff.mp a
 obtain ⟨h2,e2⟩:=List.getElem?_eq_some_iff.mp b
 exact (List.getElem_inj hN).mp (e1.trans e2.symm)
theorem yyt {M:Model}{A:Around}{E:Value->Shared->Prop}{i:Nat}{x:Str}{v:V}{u:Value}{Q:Unit->Shared->Prop}(I:Inv X pins σ H s) (hN:X.N.Nodup) (hi:X.N[i]?=some x) (hx:Loc X.env.scope x) (r:RelV v u)
  (h:∀ s',Inv X pins (σ.set i (some v)) H s'->(∃ a,Heap.SameBut a s.heap s'.heap/\(a=X.env.locals\/X.env.cells.lookup x=some a))->Q () s') (hf:X.fn x=true\/X.env.scope.names.lookup x=some .local:=by first|exact .inl rfl|exact .inr rfl|assumption):wpAny M A (storeName X.env x u) Q E s:=by
 obtain ⟨m,hn,hl⟩:=id I.loc
 have hcls:(X.env.scope.kind == .class || (X.env.scope.kind == .module && X.env.locals != X.env.globals))=false:=by rw [I.ok.kind];rfl
 have hiσ:i<σ.length:=by rw [I.len];exact (List.getElem?_eq_some_iff.mp hi).1
 have cne:=I.cne
 have tracked:∀ {a:Addr}{h':Heap},(∃ o,s.heap.get? a=some o/\H a=none)->Heap.SameBut a s.heap h'->HOk X.prog X.w H h':=fun {a h'} ha hs b ob e=>by
  obtain ⟨_,_,hfree⟩:=ha
  refine (I.hok b ob e).stay (fun c w' hc q=>(hs.2 c ?_).trans q) (fun _ q=>q) fun _ _ q=>q
  rintro rfl
  rcases hc with rfl|hc
  .rw [hfree] at e;cases e
  .rw [hfree] at hc;cases hc
 rcases hx with hk|hk
 .refine wpAny_storeName_local hk hn (fun h' hn' hs=>?_) hcls
  obtain ⟨oL,_,_,hoL,_⟩:=id hn
  refine h _ ⟨I.ok,I.os,I.bare,⟨fun b o e n hb hx=>?_,fun b o e n hb hx=>?_,I.base.free,fun b o e hx=>?_,I.base.tups,I.base.frzs,I.base.tbls⟩,⟨_,hn',fun j y v' e1 e2 e3=>?_⟩,fun y c e=>?_,I.free,I.freeC,fun p hp=>?_,tracked ⟨oL,hoL,I.free⟩ hs,by simpa using I.len⟩ ⟨_,hs,.inl rfl⟩
  .exact (hs.2 b (Nat.ne_of_lt (Nat.lt_of_lt_of_le (Heap.lt_size e) I.ok.above))).trans (I.base.keep b o e n hb hx)
  .obtain ⟨sl,e1⟩:=I.base.slot b o e n hb hx
   exact ⟨sl,(hs.2 b (Nat.ne_of_lt (Nat.lt_of_lt_of_le (Heap.lt_size e) I.ok.above))).trans e1⟩
  .obtain ⟨o',e1⟩:=I.base.there b o e hx
   exact ⟨o',(hs.2 b (Nat.ne_of_lt (Nat.lt_of_lt_of_le (Heap.lt_size e) I.ok.above))).trans e1⟩
  .by_cases hj:j=i
   .subst hj
    rw [hi] at e1;cases e1
    rw [List.getElem?_set_self hiσ] at e2
    cases e2
    exact ⟨u,r,.inl ⟨hk,by simp⟩⟩
   .rw [List.getElem?_set_ne (Ne.symm hj)] at e2
    obtain ⟨u',r',q⟩:=hl j y v' e1 e2 e3
    refine ⟨u',r',?_⟩
    rcases q with ⟨k,e⟩|⟨k,c,e,z⟩
    .refine .inl ⟨k,?_⟩
     have:y≠x:=fun e=>hj (ywk hN e1 (e ▸ hi))
     simp [this,e]
    .exact .inr ⟨k,c,e,z.sameBut hs (cne y c e)⟩
  .obtain ⟨w',z⟩:=I.cell y c e
   exact ⟨w',z.sameBut hs (cne y c e)⟩
  .obtain ⟨e,n,ne,nf,d⟩:=I.pin p hp
   exact ⟨(hs.2 p.1 ne).trans e,n,ne,nf,d⟩
 .have hfn:X.fn x=true:=by
   rcases hf with z|z
   .exact z
   .rw [z] at hk;cases hk
  obtain ⟨c,hc⟩:=I.ok.has x (.inl hk)
  obtain ⟨w',z⟩:=I.cell x c hc
  refine wpAny_storeName_cell I.ok.kind hk hc z (fun h' hc' hs=>?_)
  obtain ⟨oc,hoc,hocd⟩:=id z
  refine h { s with heap:=h' } ⟨I.ok,I.os,I.bare,⟨fun b o e n hb hx=>?_,fun b o e n hb hx=>?_,I.base.free,fun b o e hx=>?_,I.base.tups,I.base.frzs,I.base.tbls⟩,⟨m,hn.sameBut hs (Ne.symm (cne x c hc)),fun j y v' e1 e2 e3=>?_⟩,fun y c' e=>?_,I.free,I.freeC,fun p hp=>?_,tracked ⟨oc,hoc,I.freeC x c hc⟩ hs,by simpa using I.len⟩ ⟨c,hs,.inr hc⟩
  .exact (hs.2 b (Nat.ne_of_lt (Nat.lt_of_lt_of_le (Heap.lt_size e) (I.ok.cab x c hfn hc)))).trans (I.base.keep b o e n hb hx)
  .obtain ⟨sl,e1⟩:=I.base.slot b o e n hb hx
   exact ⟨sl,(hs.2 b (Nat.ne_of_lt (Nat.lt_of_lt_of_le (Heap.lt_size e) (I.ok.cab x c hfn hc)))).trans e1⟩
  .obtain ⟨o',e1⟩:=I.base.there b o e hx
   exact ⟨o',(hs.2 b (Nat.ne_of_lt (Nat.lt_of_lt_of_le (Heap.lt_size e) (I.ok.cab x c hfn hc)))).trans e1⟩
  .by_cases hj:j=i
   .subst hj
    rw [hi] at e1;cases e1
    rw [List.getElem?_set_self hiσ] at e2
    cases e2
    exact ⟨u,r,.inr ⟨.inl hk,c,hc,hc'⟩⟩
   .rw [List.getElem?_set_ne (Ne.symm hj)] at e2
    obtain ⟨u',r',q⟩:=hl j y v' e1 e2 e3
    refine ⟨u',r',?_⟩
    rcases q with q|⟨k,c',e,z'⟩
    .exact .inl q
    .refine .inr ⟨k,c',e,z'.sameBut hs ?_⟩
     rintro rfl
     exact hj (ywk hN e1 (I.ok.inj _ _ _ e hc ▸ hi))
  .by_cases hcc:c'=c
   .subst hcc;exact ⟨_,hc'⟩
   .obtain ⟨w2,z2⟩:=I.cell y c' e
    exact ⟨w2,z2.sameBut hs hcc⟩
  .obtain ⟨e,n,ne,nf,d⟩:=I.pin p hp
   refine ⟨(hs.2 p.1 ?_).trans e,n,ne,nf,d⟩
   intro q
   rw [q,hoc] at e
   have q':oc=p.2:=Option.some.inj e
   exact d w' (by rw [<- q'];exact hocd)
theorem ywl {M:Model}{A:Around}{E:Value->Shared->Prop}{i:Nat}{x:Str}{v:V}{u:Value}{Q:Unit->Shared->Prop}(I:Inv X pins σ H s) (hN:X.N.Nodup) (hi:X.N[i]?=some x) (hx:Loc X.env.scope x) (r:RelV v u)
  (h:∀ s',Inv X pins (σ.set i (some v)) H s'->Q () s') (hf:X.fn x=true\/X.env.scope.names.lookup x=some .local:=by first|exact .inl rfl|exact .inr rfl|assumption):wpAny M A (storeName X.env x u) Q E s :=
 yyt I hN hi hx r (fun s' I' _=>h s' I') hf
theorem Inv.call' {s':Shared}{ch:List Addr}(I:Inv X pins σ H s) (ho:s'.os=s.os) (u:Un (frs X.stack) ch H H' s.heap s'.heap) (hok:HOk X.prog X.w H' s'.heap) (hg:AllBare s'.gens)
  (hch:∀ b∈ch,(b∈X.ex\/X.s₀.heap.objs.size<=b)/\b≠X.env.locals/\(∀ x c,X.env.cells.lookup x=some c->c≠b)/\∀ p∈X.pn++pins,p.1≠b):Inv X pins σ H' s':=by
 obtain ⟨h',g',d',t',o'⟩:=s'
 have e:o'=s.os:=ho
 subst e
 exact I.call (g':=g') (t':=t') (d':=d') u hok hg hch
end
abbrev XK:=Value->Option Addr->Hp->Prop
abbrev St:=List (Option V)
abbrev VK:=V->Hp->Prop
abbrev TE:=St->Hp->VK->Prop
abbrev TT:=St->Hp->(Bool->Hp->Prop)->Prop
abbrev TA:=St->Hp->(List V->Hp->Prop)->Prop
structure Ends where
 nx:St->Hp->Prop
 rt:VK
 bk:St->Hp->Prop:=fun _ _=>False
 ct:St->Hp->Prop:=fun _ _=>False
abbrev TS:=Ends->St->Hp->Prop
noncomputable def EP (X:Cx) (pins:List (Addr×Obj)) (σ:St) (Q:VK) (u:Value) (s':Shared):Prop:=∃ v H',Inv X pins σ H' s'/\RelV v u/\Q v H'
noncomputable def TP (X:Cx) (pins:List (Addr×Obj)) (σ:St) (Q:Bool->Hp->Prop) (b:Bool) (s':Shared):Prop:=∃ H',Inv X pins σ H' s'/\Q b H'
noncomputable def AP (X:Cx) (pins:List (Addr×Obj)) (σ:St) (Q:List V->Hp->Prop) (us:List Value) (s':Shared):Prop:=∃ vs H',Inv X pins σ H' s'/\Vals vs us/\Q vs H'
noncomputable def SP (X:Cx) (pins:List (Addr×Obj)) (D:Ends) (f:Flow) (s':Shared):Prop :=
 match f with
 | .next=>∃ σ' H',Inv X pins σ' H' s'/\D.nx σ' H'
 | .brk=>∃ σ' H',Inv X pins σ' H' s'/\D.bk σ' H'
 | .cont=>∃ σ' H',Inv X pins σ' H' s'/\D.ct σ' H'
 | .ret u=>∃ v σ' H',Inv X pins σ' H' s'/\RelV v u/\D.rt v H'
noncomputable def PE (X:Cx) (e:Expr) (t:TE):Prop :=
 ∀ (pins:List (Addr×Obj)) (s:Shared) (σ:St) (H:Hp) (Q:VK),Inv X pins σ H s->t σ H Q->wpAny (model X.prog X.w) X.A (eval e X.env) (EP X pins σ Q) X.xe s
noncomputable def PT (X:Cx) (e:Expr) (t:TT):Prop :=
 ∀ (pins:List (Addr×Obj)) (s:Shared) (σ:St) (H:Hp) (Q:Bool->Hp->Prop),Inv X pins σ H s->t σ H Q->wpAny (model X.prog X.w) X.A (isTrue e X.env (eval e X.env)) (TP X pins σ Q) X.xe s
noncomputable def PW (X:Cx) (e:Expr) (t:TT):Prop :=
 ∀ (whole:Sem Value) (pins:List (Addr×Obj)) (s:Shared) (σ:St) (H:Hp) (Q:Bool->Hp->Prop),Inv X pins σ H s->t σ H Q->wpAny (model X.prog X.w) X.A (isTrue e X.env whole) (TP X pins σ Q) X.xe s
theorem PW.pt {X:Cx}{e:Expr}{t:TT}(h:PW X e t):PT X e t:=h _
noncomputable def PA (X:Cx) (es:List Expr) (t:TA):Prop :=
 ∀ (pos:Pos) (pins:List (Addr×Obj)) (s:Shared) (σ:St) (H:Hp) (Q:List V->Hp->Prop),Inv X pins σ H s->t σ H Q->wpAny (model X.prog X.w) X.A (spliced (backTo pos (starEach es X.env))) (AP X pins σ Q) X.xe s
noncomputable def PS (X:Cx) (st:Stmt) (t:TS):Prop :=
 ∀ (pins:List (Addr×Obj)) (s:Shared) (σ:St) (H:Hp) (D:Ends),Inv X pins σ H s->t D σ H->wpAny (model X.prog X.w) X.A (exec st X.env) (SP X pins D) X.xe s
noncomputable def PSs (X:Cx) (st:List Stmt) (t:TS):Prop :=
 ∀ (pins:List (Addr×Obj)) (s:Shared) (σ:St) (H:Hp) (D:Ends),Inv X pins σ H s->t D σ H->wpAny (model X.prog X.w) X.A (execs st X.env) (SP X pins D) X.xe s
theorem thn {α:Type}{t:Sem α}{Q Q':α->Shared->Prop}{M:Model}{A:Around}{E:Value->Shared->Prop}{s:Shared}(h:wpAny M A t Q E s) (hQ:∀ a s,Q a s->Q' a s):wpAny M A t Q' E s:=wpAny_mono h hQ fun _ _ x=>x
end L2
namespace L2
open PySem PySem.Spec PyProof.Rows
section
variable {X:Cx}
def yDm (i:Nat):TE:=fun σ H Q=>∃ v,σ[i]?=some (some v)/\Q v H
def tC (v:V):TE:=fun _ H Q=>Q v H
theorem ybx {i:Nat}{x:Str}{pos:Pos}(hN:X.N[i]?=some x) (hv:Vis X.env.scope x) (hd:(x == ("__debug__":Str))=false:=by decide) (hcd:(x == ("__classdict__":Str))=false:=by decide):PE X (.Name x pos) (yDm i):=by
 intro pins s σ H Q I h
 obtain ⟨v,e,h⟩:=h
 obtain ⟨m,hn,hl⟩:=I.loc
 obtain ⟨u,r,l⟩:=hl i x v hN e hv
 have fin:EP X pins σ Q u s:=⟨v,H,I,r,h⟩
 rcases l with ⟨hk,hm⟩|⟨hk,c,hc,hcell⟩
 .exact wpAny_Name (wpAny_loadName_local I.ok.kind hk hn hm fin) hd
 .rcases hk with hk|hk
  .exact wpAny_Name (wpAny_loadName_cell I.ok.kind hk hc hcell fin) hd
  .exact wpAny_Name (wpAny_loadName_free I.ok.kind hk hc hcell fin hcd) hd
theorem yHo {i j pos}:PE X (.Constant (.int i) j pos) (tC (.int i)):=fun _ _ _ H _ I h=>wpAny_Constant_int ⟨.int i,H,I.tok _,⟨_,rfl⟩,h⟩
theorem yJZ {b j pos}:PE X (.Constant (.bool b) j pos) (tC (.bl b)):=fun _ _ _ H _ I h=>Constant_bool ⟨.bl b,H,I,rfl,h⟩
theorem yHp {j pos}:PE X (.Constant .none j pos) (tC .non):=fun _ _ _ H _ I h=>Constant_none ⟨.non,H,I,rfl,h⟩
theorem yHq {x j pos}:PE X (.Constant (.str x) j pos) (tC (.str x)):=fun _ _ _ H _ I h=>Calls.Constant_str ⟨.str x,H,I.tok _,⟨_,rfl⟩,h⟩
def Gl (X:Cx) (x:Str):Prop:=X.env.kindOf x=some .globalImplicit
theorem yoq {E:Value->Shared->Prop}{pins:List (Addr×Obj)}{s:Shared}{σ:St}{H:Hp}{x:Str}{u:Value}{pos:Pos}{Q:Value->Shared->Prop}(I:Inv X pins σ H s) (hg:Gl X x) (hm:X.mg x=some u) (h:Q u s)
  (hd:(x == ("__debug__":Str))=false:=by decide):wpAny (model X.prog X.w) X.A (eval (.Name x pos) X.env) Q E s :=
 Calls.Name_function_global I.ok.kind hg (Calls.loadGlobal_global (by rw [I.ok.glob];exact I.mod.glob.keeps I.bk) hm h) hd
theorem yqA {E:Value->Shared->Prop}{pins:List (Addr×Obj)}{s:Shared}{σ:St}{H:Hp}{x:Str}{u:Value}{pos:Pos}{Q:Value->Shared->Prop}(I:Inv X pins σ H s) (hg:Gl X x) (hm:X.mg x=none) (hv:bootBuiltins x=some u) (h:Q u s)
  (hn:x≠"__name__":=by decide) (hd:(x == ("__debug__":Str))=false:=by decide):wpAny (model X.prog X.w) X.A (eval (.Name x pos) X.env) Q E s:=by
 obtain ⟨mb,h1,h2⟩:=I.mod.blt
 exact Calls.Name_function_global I.ok.kind hg (Calls.loadGlobal_builtin (by rw [I.ok.glob];exact I.mod.glob.keeps I.bk) hm (by rw [I.ok.blt];exact h1.keeps I.bk) ((h2 x hn).trans hv) h) hd
theorem yuI {x:Str}{v:V}{u:Value}{pos:Pos}(hg:Gl X x) (hm:X.mg x=some u) (r:RelV v u) (hd:(x == ("__debug__":Str))=false:=by decide):PE X (.Name x pos) (tC v) :=
 fun _ _ _ H _ I h=>yoq I hg hm ⟨v,H,I,r,h⟩ hd
theorem yEQ {x:Str}{v:V}{u:Value}{pos:Pos}(hg:Gl X x) (hm:X.mg x=none) (hv:bootBuiltins x=some u) (r:RelV v u) (hn:x≠"__name__":=by decide) (hd:(x == ("__debug__":Str))=false:=by decide):PE X (.Name x pos) (tC v) :=
 fun _ _ _ H _ I h=>yqA I hg hm hv ⟨v,H,I,r,h⟩ hn hd
variable {a b:Expr}{ta tb:TE}{pos:Pos}
noncomputable def PC (X:Cx) (op:CmpOp) (a b:Expr) (t:TE):Prop :=
 ∀ (pins:List (Addr×Obj)) (s:Shared) (σ:St) (H:Hp) (Q:VK),Inv X pins σ H s->t σ H Q ->
  wpAny (model X.prog X.w) X.A (eval a X.env) (fun v s₁=>wpAny (model X.prog X.w) X.A (eval b X.env) (fun u s₂=>wpAny (model X.prog X.w) X.A (compareOp op v u) (EP X pins σ Q) X.xe s₂) X.xe s₁) X.xe s
theorem yBn (b:Expr) {op:CmpOp}(h:op≠.In) (h2:op≠.NotIn):behindInMarks op b=false:=by
 have e1:(op == CmpOp.In)=false:=by cases op<;>first|rfl|exact absurd rfl h
 have e2:(op == CmpOp.NotIn)=false:=by cases op<;>first|rfl|exact absurd rfl h2
 cases b<;>simp [behindInMarks,e1,e2]
def tB (t:TE):TT:=fun σ H Q=>t σ H fun x H1=>∃ c,x=.bl c/\Q c H1
theorem yDn {op:CmpOp}{t:TE}(h:PC X op a b t) (h1:behindInMarks op b=false:=by first|exact yBn _ (by decide) (by decide)|rfl):PT X (.Compare a [op] [b] pos) (tB t):=by
 intro pins s σ H Q I hw
 refine wpAny_isTrue_Compare1 (thn (h pins s σ H _ I hw) fun v s1 h1=>thn h1 fun u s2 h2=>thn h2 fun c s3 ⟨x,H1,I1,r1,q1⟩=>?_) h1
 obtain ⟨d,rfl,q⟩:=q1
 cases r1
 exact wpAny_truthy_bool ⟨H1,I1,q⟩
theorem yHr {e:Expr}{t:TE}(h:PE X e t) (he:∀ whole,isTrue e X.env whole=(do let v <- whole;standAt e.pos;holding [v] (truthy v)):=by intro _;rfl):PT X e (tB t):=by
 intro pins s σ H Q I hw
 refine isTrue_plain (thn (h pins s σ H _ I hw) fun v s1 ⟨x,H1,I1,r1,q1⟩=>?_) (he _)
 obtain ⟨d,rfl,q⟩:=q1
 cases r1
 exact wpAny_truthy_bool ⟨H1,I1,q⟩
variable {tA tB':TT}{rest:List Expr}
def yLS (t u:TT):TT:=fun σ H Q=>t σ H fun c H1=>if c=true then u σ H1 Q else Q false H1
def tOr (t u:TT):TT:=fun σ H Q=>t σ H fun c H1=>if c=true then Q true H1 else u σ H1 Q
def yKa (t:TT):TT:=fun σ H Q=>t σ H fun c H1=>Q (!c) H1
theorem yER (ha:PT X a tA):PW X (.BoolOp .And [a] pos) tA:=by
 intro wh pins s σ H Q I h
 refine isTrue_and (thn (ha pins s σ H Q I h) fun c s1 e=>?_)
 cases c with
 | true=>exact isTrue_and_nil e
 | false=>exact e
theorem yHs (ha:PT X a tA):PW X (.BoolOp .Or [a] pos) tA:=by
 intro wh pins s σ H Q I h
 refine isTrue_or (thn (ha pins s σ H Q I h) fun c s1 e=>?_)
 cases c with
 | false=>exact isTrue_or_nil e
 | true=>exact e
theorem yHt (ha:PT X a tA) (hb:PW X (.BoolOp .And (b::rest) pos) tB'):PW X (.BoolOp .And (a::b::rest) pos) (yLS tA tB'):=by
 intro wh pins s σ H Q I h
 refine isTrue_and (thn (ha pins s σ H _ I h) fun c s1 ⟨H1,I1,q1⟩=>?_)
 cases c with
 | true=>exact hb wh pins s1 σ H1 Q I1 q1
 | false=>exact ⟨H1,I1,q1⟩
theorem yKb (ha:PT X a tA) (hb:PW X (.BoolOp .Or (b::rest) pos) tB'):PW X (.BoolOp .Or (a::b::rest) pos) (tOr tA tB'):=by
 intro wh pins s σ H Q I h
 refine isTrue_or (thn (ha pins s σ H _ I h) fun c s1 ⟨H1,I1,q1⟩=>?_)
 cases c with
 | true=>exact ⟨H1,I1,q1⟩
 | false=>exact hb wh pins s1 σ H1 Q I1 q1
theorem yHu (ha:PT X a tA):PT X (.UnaryOp .Not a pos) (yKa tA):=by
 intro pins s σ H Q I h
 exact isTrue_not (ha pins s σ H (fun c H1=>Q (!c) H1) I h)
def yHv (ta tb:TE):TE:=fun σ H Q=>ta σ H fun x H1=>∃ c,x=.bl c/\if c=true then tb σ H1 Q else Q (.bl false) H1
def yHw (ta:TE):TE:=fun σ H Q=>ta σ H fun x H1=>∃ c,x=.bl c/\Q (.bl (!c)) H1
theorem yHx {op} {t:TE}(h:PE X a t):PE X (.BoolOp op [a] pos) t:=fun pins s σ H Q I hw=>BoolOp_one (h pins s σ H Q I hw)
theorem yHy (ha:PE X a ta) (hb:PE X (.BoolOp .And (b::rest) pos) tb):PE X (.BoolOp .And (a::b::rest) pos) (yHv ta tb):=by
 intro pins s σ H Q I h
 refine BoolOp_and (thn (ha pins s σ H _ I h) fun v s1 ⟨x,H1,I1,r1,q1⟩=>?_)
 obtain ⟨c,rfl,q1⟩:=q1
 cases r1
 refine wpAny_truthy_bool ?_
 cases c with
 | true=>exact hb pins s1 σ H1 Q I1 q1
 | false=>exact ⟨.bl false,H1,I1,rfl,q1⟩
theorem yHz (ha:PE X a ta):PE X (.UnaryOp .Not a pos) (yHw ta):=by
 intro pins s σ H Q I h
 refine UnaryOp_ (thn (ha pins s σ H _ I h) fun v s1 ⟨x,H1,I1,r1,q1⟩=>?_)
 obtain ⟨c,rfl,q1⟩:=q1
 cases r1
 exact not_of (wpAny_truthy_bool ⟨.bl (!c),H1,I1,rfl,q1⟩)
def tIf (t:TT) (ta tb:TE):TE:=fun σ H Q=>t σ H fun c H1=>if c=true then ta σ H1 Q else tb σ H1 Q
theorem yBo {c:Expr}(hc:PT X c tA) (ha:PE X a ta) (hb:PE X b tb):PE X (.IfExp c a b pos) (tIf tA ta tb):=by
 intro pins s σ H Q I h
 refine wpAny_IfExp (thn (hc pins s σ H _ I h) fun d s1 ⟨H1,I1,q1⟩=>?_)
 cases d with
 | true=>exact ha pins s1 σ H1 Q I1 q1
 | false=>exact hb pins s1 σ H1 Q I1 q1
end
end L2
namespace L2
open PySem PySem.Spec PyProof.Rows
noncomputable def SqL (K:PySem.W.Frag) (H:Hp) (a:Addr) (xs:List V):Prop :=
 Rd H a (.lst xs) \/
  ∃ (o:Obj) (its:Array Value) (n:Nat),K.lookup a=some o/\o.cls=.type "list"/\o.dict=none/\o.data=.seq its n/\its.size<=sizeLine/\Vals xs its.toList
noncomputable def SqT (K:PySem.W.Frag) (H:Hp) (a:Addr) (xs:List V):Prop :=
 Rd H a (.tup xs) \/
  ∃ (o:Obj) (its:Array Value) (n:Nat),K.lookup a=some o/\o.cls=.type "tuple"/\o.data=.seq its n/\its.size<=sizeLine/\Vals xs its.toList
noncomputable def yMA:Value->Option V
 | .none=>some .non
 | .bool b=>some (.bl b)
 | .int i _=>some (.int i)
 | .str x _=>some (.str x)
 | .bytes b _=>some (.byt b)
 | .float b _=>some (.flt b)
 | .ref a=>some (.ref a)
 | .type n=>some (.ty n)
 | _=>none
theorem RelV.abs {x:V}{u:Value}(r:RelV x u):yMA u=some x:=by
 cases x with
 | non=>cases r;rfl
 | bl _=>cases r;rfl
 | int _=>obtain ⟨t,rfl⟩:=r;rfl
 | str _=>obtain ⟨t,rfl⟩:=r;rfl
 | byt _=>obtain ⟨t,rfl⟩:=r;rfl
 | flt _=>obtain ⟨t,rfl⟩:=r;rfl
 | ref _=>cases r;rfl
 | ty _=>cases r;rfl
theorem RelV.inj {x y:V}{u:Value}(r:RelV x u) (q:RelV y u):x=y:=Option.some.inj (r.abs.symm.trans q.abs)
theorem Vals.inj:∀ {xs ys:List V}{us:List Value},Vals xs us->Vals ys us->xs=ys
 | _,_,_,.nil,.nil=>rfl
 | _,_,_,.cons r t,.cons r' t'=>by rw [r.inj r',Vals.inj t t']
section
variable {X:Cx}{pins:List (Addr×Obj)}{σ:St}{H:Hp}{s:Shared}{a:Addr}{xs ys:List V}
theorem SqL.of {K:PySem.W.Frag}(h:H a=some (.lst xs)):SqL K H a xs:=.inl (.inl h)
theorem SqT.of {K:PySem.W.Frag}(h:H a=some (.tup xs)):SqT K H a xs:=.inl (.inl h)
theorem Inv.list (I:Inv X pins σ H s) (h:SqL X.K H a xs):∃ its:List Value,Vals xs its/\PlainL s.heap a its.toArray/\xs.length<=sizeLine:=by
 rcases h with h|⟨o,its,n,hk,hc,hd,hs,hz,r⟩
 .obtain ⟨z,its,n,r,e⟩:=h.ok I.hok
  exact ⟨its,r,⟨_,n,e,rfl,rfl,rfl⟩,z⟩
 .refine ⟨its.toList,r,⟨o,n,I.kIn a o hk,hc,hd,by simpa using hs⟩,?_⟩
  have e:=r.length
  simp only [Array.length_toList] at e
  omega
theorem Inv.tuple (I:Inv X pins σ H s) (h:SqT X.K H a xs):∃ its:List Value,Vals xs its/\IsTup s.heap a its.toArray/\xs.length<=sizeLine:=by
 rcases h with h|⟨o,its,n,hk,hc,hs,hz,r⟩
 .obtain ⟨z,its,r,p⟩:=h.ok I.hok
  exact ⟨its,r,p,z⟩
 .refine ⟨its.toList,r,⟨o,I.kIn a o hk,hc,n,by simpa using hs⟩,?_⟩
  have e:=r.length
  simp only [Array.length_toList] at e
  omega
theorem Inv.list_inj (I:Inv X pins σ H s) (h:SqL X.K H a xs) (h':SqL X.K H a ys):xs=ys:=by
 obtain ⟨its,r,⟨o,n,e,_,_,d⟩,_⟩:=I.list h
 obtain ⟨its',r',⟨o',n',e',_,_,d'⟩,_⟩:=I.list h'
 rw [e] at e';cases e'
 rw [d] at d'
 injection d' with d1 _
 have:its=its':=by simpa using congrArg Array.toList d1
 subst this
 exact r.inj r'
end
abbrev Cx.wish (X:Cx) (E:Value->Shared->Prop):Cx:={ X with xe:=E }
abbrev Cx.nox (X:Cx):Cx:=X.wish fun _ _=>False
theorem Cx.Ok.wish {X:Cx}(ok:X.Ok) (E:Value->Shared->Prop):(X.wish E).Ok :=
 ⟨ok.mod,ok.kind,ok.glob,ok.blt,ok.above,ok.inj,ok.has,ok.cab,ok.hd,ok.frames,ok.stk,ok.exf,ok.bs,ok.bsz,ok.noex,ok.exfs,ok.funs,ok.frf⟩
theorem Cx.Ok.unwish {X:Cx}{E:Value->Shared->Prop}(ok:(X.wish E).Ok):X.Ok :=
 ⟨ok.mod,ok.kind,ok.glob,ok.blt,ok.above,ok.inj,ok.has,ok.cab,ok.hd,ok.frames,ok.stk,ok.exf,ok.bs,ok.bsz,ok.noex,ok.exfs,ok.funs,ok.frf⟩
section
variable {X:Cx}{pins:List (Addr×Obj)}{σ:St}{H:Hp}{s:Shared}{E:Value->Shared->Prop}
theorem Inv.wish (I:Inv X pins σ H s) (E:Value->Shared->Prop):Inv (X.wish E) pins σ H s:=⟨I.ok.wish E,I.os,I.bare,I.base,I.loc,I.cell,I.free,I.freeC,I.pin,I.hok,I.len⟩
theorem Inv.unwish (I:Inv (X.wish E) pins σ H s):Inv X pins σ H s:=⟨I.ok.unwish,I.os,I.bare,I.base,I.loc,I.cell,I.free,I.freeC,I.pin,I.hok,I.len⟩
theorem SP.unwish {D:Ends}{f:Flow}{s':Shared}(h:SP (X.wish E) pins D f s'):SP X pins D f s':=by
 cases f with
 | next=>obtain ⟨σ',H',I,q⟩:=h;exact ⟨σ',H',I.unwish,q⟩
 | brk=>obtain ⟨σ',H',I,q⟩:=h;exact ⟨σ',H',I.unwish,q⟩
 | cont=>obtain ⟨σ',H',I,q⟩:=h;exact ⟨σ',H',I.unwish,q⟩
 | ret u=>obtain ⟨v,σ',H',I,r,q⟩:=h;exact ⟨v,σ',H',I.unwish,r,q⟩
theorem PSs.nox {st:List Stmt}{t:TS}(h:PSs X.nox st t):PSs X st t:=fun pins s σ H D I hw =>
 wpAny_mono (h pins s σ H D (I.wish _) hw) (fun _ _ q=>q.unwish) fun _ _ z=>False.elim z
end
section
variable {X:Cx}{st:Stmt}{rest:List Stmt}{t u:TS}{e:Expr}{te:TE}{pos:Pos}
def yHA:TS:=fun D σ H=>D.nx σ H
def yKc (t u:TS):TS:=fun D σ H=>t { D with nx:=u D } σ H
theorem yES:PSs X [] yHA:=fun _ _ σ H _ I h=>wpAny_execs_nil ⟨σ,H,I,h⟩
theorem ywm (h1:PS X st t) (h2:PSs X rest u):PSs X (st::rest) (yKc t u):=by
 intro pins s σ H D I h
 refine wpAny_execs_cons (thn (h1 pins s σ H { D with nx:=u D } I h) fun f s1 q=>?_)
 cases f with
 | next =>
  obtain ⟨σ',H',I',q⟩:=q
  exact h2 pins s1 σ' H' D I' q
 | ret v=>exact q
 | brk=>exact q
 | cont=>exact q
theorem yyu (h1:PS X st t):PSs X [st] t:=by
 intro pins s σ H D I h
 refine wpAny_execs_cons (thn (h1 pins s σ H D I h) fun f s1 q=>?_)
 cases f with
 | next=>exact wpAny_execs_nil q
 | ret v=>exact q
 | brk=>exact q
 | cont=>exact q
theorem Inv.quiet {pins:List (Addr×Obj)}{σ:St}{H:Hp}{s:Shared}(I:Inv X pins σ H s):interactive X.env=false:=by simp [interactive,I.ok.kind]
def yBp (te:TE):TS:=fun D σ H=>te σ H fun _ H1=>D.nx σ H1
theorem yuJ (he:PE X e te) (hs:swapsWith e none pos.line X.env=pure false:=by rfl):PS X (.Expr e pos) (yBp te):=by
 intro pins s σ H D I h
 exact wpAny_Expr_any (thn (he pins s σ H _ I h) fun v s1 ⟨x,H1,I1,r1,q1⟩=>⟨σ,H1,I1,q1⟩) I.quiet hs
def yLT (te:TE):TS:=fun D σ H=>te σ H D.rt
theorem yHB (he:PE X e te):PS X (.Return (some e) pos) (yLT te):=by
 intro pins s σ H D I h
 exact wpAny_Return_some (thn (he pins s σ H _ I h) fun v s1 ⟨x,H1,I1,r1,q1⟩=>⟨x,σ,H1,I1,r1,q1⟩)
def yLU (c:TT) (t u:TS):TS:=fun D σ H=>c σ H fun b H1=>if b=true then t D σ H1 else u D σ H1
theorem yKd {c:Expr}{a b:List Stmt}{tc:TT}(hc:PT X c tc) (ha:PSs X a t) (hb:PSs X b u):PS X (.If c a b pos) (yLU tc t u):=by
 intro pins s σ H D I h
 refine wpAny_If (thn (hc pins s σ H _ I h) fun d s1 ⟨H1,I1,q1⟩=>?_)
 cases d with
 | true=>exact ha pins s1 σ H1 D I1 q1
 | false=>exact hb pins s1 σ H1 D I1 q1
end
abbrev TG:=V->St->Hp->(St->Hp->Prop)->Prop
abbrev TGs:=List V->St->Hp->(St->Hp->Prop)->Prop
noncomputable def PG (X:Cx) (target:Expr) (t:TG):Prop :=
 ∀ (pins:List (Addr×Obj)) (s:Shared) (σ:St) (H:Hp) (v:V) (u:Value) (Q:St->Hp->Prop),Inv X pins σ H s->RelV v u->t v σ H Q ->
  wpAny (model X.prog X.w) X.A (assign target X.env u) (fun _ s'=>∃ σ' H',Inv X pins σ' H' s'/\Q σ' H') X.xe s
noncomputable def PGs (X:Cx) (ts:List Expr) (t:TGs):Prop :=
 ∀ (pins:List (Addr×Obj)) (s:Shared) (σ:St) (H:Hp) (vs:List V) (us:List Value) (Q:St->Hp->Prop),Inv X pins σ H s->Vals vs us->t vs σ H Q ->
  wpAny (model X.prog X.w) X.A (assignInOrder ((assignEach ts X.env).map (·.2)) us) (fun _ s'=>∃ σ' H',Inv X pins σ' H' s'/\Q σ' H') X.xe s
abbrev yKe:=V->V->V->Hp->(Hp->Prop)->Prop
noncomputable def yLV (X:Cx) (t:yKe):Prop :=
 ∀ (pins:List (Addr×Obj)) (s:Shared) (σ:St) (H:Hp) (o i v:V) (ov iv u:Value) (Q:Hp->Prop),Inv X pins σ H s->RelV o ov->RelV i iv->RelV v u->t o i v H Q ->
  wpAny (model X.prog X.w) X.A (setItem ov iv u) (fun _ s'=>∃ H',Inv X pins σ H' s'/\Q H') X.xe s
section
variable {X:Cx}{pos:Pos}
def yxj (i:Nat):TG:=fun v σ H Q=>Q (σ.set i (some v)) H
theorem yqX {i:Nat}{x:Str}(hN:X.N.Nodup) (hi:X.N[i]?=some x) (hx:Loc X.env.scope x) (hf:X.fn x=true\/X.env.scope.names.lookup x=some .local:=by first|exact .inl rfl|exact .inr rfl|assumption):PG X (.Name x pos) (yxj i):=by
 intro pins s σ H v u Q I r h
 exact wpAny_assign_Name (ywl I hN hi hx r (fun s' I'=>⟨_,H,I',h⟩) hf)
def yLW:TGs:=fun vs σ H Q=>vs=[]/\Q σ H
def yHC (t:TG) (u:TGs):TGs:=fun vs σ H Q=>∃ v r,vs=v::r/\t v σ H fun σ' H'=>u r σ' H' Q
theorem yET:PGs X [] yLW:=by
 intro pins s σ H vs us Q I r h
 obtain ⟨e,h⟩:=h
 subst e
 cases r
 exact assignInOrder_nil ⟨σ,H,I,h⟩
theorem yBq {e:Expr}{es:List Expr}{t:TG}{u:TGs}(h1:PG X e t) (h2:PGs X es u)
  (hs:(assignEach (e::es) X.env).map (·.2)=assign e X.env::(assignEach es X.env).map (·.2):=by rfl):PGs X (e::es) (yHC t u):=by
 intro pins s σ H vs us Q I r h
 obtain ⟨v,vr,e1,h⟩:=h
 subst e1
 cases r with
 | cons r rr =>
  rw [hs]
  refine assignInOrder_cons (thn (h1 pins s σ H _ _ _ I r h) fun _ s1 ⟨σ1,H1,I1,q1⟩=>?_)
  exact h2 pins s1 σ1 H1 _ _ Q I1 rr q1
def yLX (K:PySem.W.Frag) (n:Nat) (t:TGs):TG:=fun v σ H Q=>∃ a xs,v=.ref a/\SqT K H a xs/\xs.length=n/\t xs σ H Q
theorem yHD {es:List Expr}{k:Nat}{t:TGs}{n:Nat}(hc:X.calm=true) (h:PGs X es t)
  (hn:(assignEach es X.env).length=n:=by rfl) (hst:(assignEach es X.env).findIdx? (·.1)=none:=by rfl):PG X (.Tuple es k pos) (yLX X.K n t):=by
 intro pins s σ H v u Q I r hw
 obtain ⟨a,xs,e1,hq,hl,hw⟩:=hw
 subst e1
 cases r
 obtain ⟨its,rv,ht,hz⟩:=I.tuple hq
 refine assign_Tuple_tuple (I.ok.hd hc) ht (by simp [hn,<- hl,rv.length]) hst fun h' hx=>?_
 have I1:Inv X pins σ H { s with heap:=h' }:=I.kept (t':=s.toks) fun b o e=>hx b o (Nat.ne_of_lt (Heap.lt_size e)) e
 exact h pins _ σ H xs _ Q I1 (by simpa using rv) hw
def yLY (to ti:TE) (t:yKe):TG:=fun v σ H Q=>to σ H fun o H1=>ti σ H1 fun i H2=>t o i v H2 fun H3=>Q σ H3
theorem yHE {o i:Expr}{to ti:TE}{t:yKe}(ho:PE X o to) (hi:PE X i ti) (hs:yLV X t)
  (ha:∀ v,assign (.Subscript o i pos) X.env v=(do
   let ov <- holding [v] (eval o X.env)
   let iv <- holding [v,ov] (eval i X.env)
   standAt pos
   holding [v,ov,iv] (setItem ov iv v)
   release [v,ov,iv] []):=by intro _;rfl):PG X (.Subscript o i pos) (yLY to ti t):=by
 intro pins s σ H v u Q I r h
 rw [ha]
 refine wpAny_bind (wpAny_holding (thn (ho pins s σ H _ I h) fun ov s1 ⟨x,H1,I1,r1,q1⟩=>?_))
 refine wpAny_bind (wpAny_holding (thn (hi pins s1 σ H1 _ I1 q1) fun iv s2 ⟨y,H2,I2,r2,q2⟩=>?_))
 refine wpAny_bind (wpAny_standAt (wpAny_bind (wpAny_holding (thn (hs pins s2 σ H2 x y v ov iv u _ I2 r1 r2 r q2) fun _ s3 ⟨H3,I3,q3⟩=>?_))))
 exact wpAny_release ⟨σ,H3,I3,q3⟩
def yHc (te:TE) (g:TG):TS:=fun D σ H=>te σ H fun x H1=>g x σ H1 D.nx
theorem yDo {tg e:Expr}{te:TE}{g:TG}(he:PE X e te) (hg:PG X tg g) (hs:swapsWithSole [tg] e pos.line X.env=pure false:=by rfl) (hw:swappedStores [tg] e X.env=pure none:=by rfl)
  (h1:(assignEach [tg] X.env).map (·.2)=[assign tg X.env]:=by rfl):PS X (.Assign [tg] e pos) (yHc te g):=by
 intro pins s σ H D I h
 refine wpAny_Assign_stores (thn (he pins s σ H _ I h) fun v s1 ⟨x,H1,I1,r1,q1⟩=>?_) hs hw
 rw [h1]
 exact thn (hg pins s1 σ H1 x v _ I1 r1 q1) fun _ s2 q=>q
theorem yDp {i:Nat}{x:Str}{e:Expr}{te:TE}{pos':Pos}(hN:X.N.Nodup) (hi:X.N[i]?=some x) (hx:Loc X.env.scope x) (he:PE X e te) (hs:swapsWith e (some (.Name x pos')) pos.line X.env=pure false:=by rfl) (hf:X.fn x=true\/X.env.scope.names.lookup x=some .local:=by first|exact .inl rfl|exact .inr rfl|assumption) :
  PS X (.Assign [.Name x pos'] e pos) (yHc te (yxj i)):=by
 intro pins s σ H D I h
 refine wpAny_Assign_Name (thn (he pins s σ H _ I h) fun v s1 ⟨y,H1,I1,r1,q1⟩=>?_) hs
 exact ywl I1 hN hi hx r1 (fun s2 I2=>⟨_,H1,I2,q1⟩) hf
end
section
variable {X:Cx}{pos:Pos}
noncomputable def yDq (c:TT) (tb:TS):TS:=fun D σ H=>∃ W:Nat->St->Hp->Prop,(∃ m,W m σ H)/\∀ m σ H,W m σ H ->
 c σ H fun b H1=>if b=true then ∃ N:St->Hp->Prop,(∀ σ' H',N σ' H'->∃ m',m'<m/\W m' σ' H')/\tb { D with nx:=N,ct:=N,bk:=D.nx } σ H1 else D.nx σ H1
theorem yBr {c:Expr}{body:List Stmt}{tc:TT}{tb:TS}(hp:PassesOwn (model X.prog X.w) X.A X.env X.xe) (hc:PT X c tc) (hb:PSs X body tb):PS X (.While c body [] pos) (yDq tc tb):=by
 intro pins s σ H D I h
 obtain ⟨W,⟨m0,w0⟩,turn⟩:=h
 refine wpAny_While (codeAny_whileLoop (fun n s'=>∃ σ' H',Inv X pins σ' H' s'/\W n σ' H') ?_ m0 ⟨σ,H,I,w0⟩)
 rintro n s1 ⟨σ1,H1,I1,w1⟩
 refine wpAny_passesOwn hp (thn (hc pins s1 σ1 H1 _ I1 (turn n σ1 H1 w1)) fun b s2 ⟨H2,I2,q2⟩=>?_)
 cases b with
 | true =>
  obtain ⟨N,hN,q2⟩:=q2
  rw [if_pos rfl]
  refine wpAny_passesOwn hp (thn (hb pins s2 σ1 H2 _ I2 q2) fun f s3 q3=>?_)
  cases f with
  | next =>
   obtain ⟨σ3,H3,I3,n3⟩:=q3
   obtain ⟨m',hm,w3⟩:=hN σ3 H3 n3
   exact ⟨m',hm,σ3,H3,I3,w3⟩
  | cont =>
   obtain ⟨σ3,H3,I3,n3⟩:=q3
   obtain ⟨m',hm,w3⟩:=hN σ3 H3 n3
   exact ⟨m',hm,σ3,H3,I3,w3⟩
  | brk=>exact q3
  | ret v=>exact q3
 | false =>
  rw [if_neg Bool.false_ne_true]
  exact wpAny_execs_nil ⟨σ1,H2,I2,q2⟩
end
structure It where
 go:Nat->Hp->Prop
 yld:Nat->Hp->V->Hp->Prop
 stop:Nat->Hp->Prop
noncomputable def yyv (X:Cx) (pins:List (Addr×Obj)) (H:Hp) (b:Addr):Prop :=
 H b=none/\b≠X.env.locals/\b∉X.fs/\(b∈X.ex\/X.s₀.heap.objs.size<=b)/\(∀ x c,X.env.cells.lookup x=some c->c≠b)/\∀ p∈X.pn++pins,p.1≠b
theorem Inv.fpOk {X:Cx}{pins:List (Addr×Obj)}{σ:St}{H H':Hp}{s:Shared}{b:Addr}(I:Inv X pins σ H s) (hb:s.heap.objs.size<=b) (hn:H' b=none):yyv X pins H' b:=by
 refine ⟨hn,Nat.ne_of_gt (Nat.lt_of_lt_of_le I.lt hb),I.nofs hb,.inr (Nat.le_trans I.sz hb),fun x c e z=>?_,fun p hp z=>?_⟩
 .obtain ⟨v,q⟩:=I.cell x c e
  exact absurd (Nat.lt_of_lt_of_le q.lt (by rw [z];exact hb)) (Nat.lt_irrefl _)
 .exact absurd (Nat.lt_of_lt_of_le (Heap.lt_size (I.pin p hp).1) (by rw [z];exact hb)) (Nat.lt_irrefl _)
structure Turn (P:Program) (w:World) (K:PySem.W.Frag) (tg:Expr) (J:It) (fp:List Addr) (it:Addr) (tn:Nat->Heap->Prop):Prop where
 mem:it∈fp
 obj:∀ i h,tn i h->∀ b∈fp,∃ o,h.get? b=some o/\∀ v,o.data≠.cell v
 keep:∀ i h h',tn i h->(∀ b∈fp,∀ o,h.get? b=some o->h'.get? b=some o)->tn i h'
 item:∀ (X:Cx),X.prog=P->X.w=w->X.K=K->X.calm=true->∀ (i:Nat) (pins:List (Addr×Obj)) (s:Shared) (σ:St) (H:Hp) (E:Value->Shared->Prop),Inv X pins σ H s->(∀ b∈fp,yyv X pins H b)->tn i s.heap->J.go i H ->
  wpAny (model P w) X.A (pyNext (.ref it)) (fun r s1=>∃ u,r=some u /\
   wpAny (model P w) X.A (letOwnedTupleGo tg (.ref it) u) (fun _ s2=>∃ x H',Inv X pins σ H' s2/\RelV x u/\J.yld i H x H'/\tn (i+1) s2.heap/\∀ b∈fp,H' b=none) E s1) E s
 done:∀ (X:Cx),X.prog=P->X.w=w->X.K=K->X.calm=true->∀ (i:Nat) (pins:List (Addr×Obj)) (s:Shared) (σ:St) (H:Hp) (E:Value->Shared->Prop),Inv X pins σ H s->(∀ b∈fp,yyv X pins H b)->tn i s.heap->J.stop i H ->
  wpAny (model P w) X.A (pyNext (.ref it)) (fun r s1=>r=none/\Inv X pins σ H s1) E s
 self:∀ (A:Around) (i:Nat) (s:Shared) (Q:Value->Shared->Prop) (E:Value->Shared->Prop),tn i s.heap->Q (.ref it) s->wpAny (model P w) A (pyIter (.ref it)) Q E s
abbrev TI:=St->Hp->(It->Hp->Prop)->Prop
noncomputable def PIE (X:Cx) (pins:List (Addr×Obj)) (σ:St) (tg:Expr) (R:It->Hp->Prop) (itv:Value) (s2:Shared):Prop :=
 ∃ (it:Addr) (fp:List Addr) (tn:Nat->Heap->Prop) (J:It) (H':Hp),itv=.ref it/\Inv X pins σ H' s2/\Turn X.prog X.w X.K tg J fp it tn/\tn 0 s2.heap/\(∀ b∈fp,yyv X pins H' b)/\R J H'
noncomputable def PI (X:Cx) (tg iter:Expr) (wi:TI):Prop :=
 ∀ (pins:List (Addr×Obj)) (s:Shared) (σ:St) (H:Hp) (R:It->Hp->Prop),Inv X pins σ H s->wi σ H R ->
  wpAny (model X.prog X.w) X.A (eval iter X.env) (fun v s1=>wpAny (model X.prog X.w) X.A (pyIter v) (PIE X pins σ tg R) X.xe s1) X.xe s
theorem yBs {M:Model}{A:Around}{E:Value->Shared->Prop}{s:Shared}{tg:Expr}{it:Addr}{u:Value}{o:Obj}{n:String}{vs:Array Value}{Q:Unit->Shared->Prop}(ho:s.heap.get? it=some o) (hc:o.cls=.type n) (hd:o.data=.fields vs)
    (hn:["enumerate","zip","dict_itemiterator","dict_reverseitemiterator","odict_iterator","itertools.zip_longest","itertools.pairwise"].contains n=false) (hQ:Q () s):wpAny M A (letOwnedTupleGo tg (.ref it) u) Q E s:=by
  unfold letOwnedTupleGo
  cases tg<;>first
    | exact wpAny_pure hQ
    | (cases u<;>first
        | exact wpAny_pure hQ
        | (refine wpAny_bind (wpAny_load ho ?_)
           rw [hc,hd]
           show wpAny M A (if (["enumerate","zip","dict_itemiterator","dict_reverseitemiterator","odict_iterator","itertools.zip_longest","itertools.pairwise"].contains n && vs[0]? == some (rawInt _))=true then _ else _) Q E s
           rw [if_neg (by intro h;rw [hn,Bool.false_and] at h;cases h)]
           exact wpAny_pure hQ))
noncomputable def Itl (K:PySem.W.Frag) (a:Addr):It :=
 ⟨fun i H=>∃ xs x,SqL K H a xs/\xs[i]?=some x,fun i H x H'=>H'=H/\∀ xs,SqL K H a xs->xs[i]?=some x,fun i H=>∃ xs,SqL K H a xs/\xs.length<=i⟩
def Itr (lo:Int) (n:Nat):It:=⟨fun i _=>i<n,fun i H x H'=>H'=H/\x=.int (lo+i),fun i _=>n<=i⟩
theorem yyw {P:Program}{w:World}{K:PySem.W.Frag}{tg:Expr}(a it:Addr):Turn P w K tg (Itl K a) [it] it (fun i h=>h.IsListIter it a i) where
 mem:=by simp
 obj:=fun i h st b hb=>by
  have e:b=it:=by simpa using hb
  subst e
  obtain ⟨o,e,c,d⟩:=st
  exact ⟨o,e,fun v z=>by rw [d] at z;cases z⟩
 keep:=fun i h h' st k=>st.at fun o e=>k it (by simp) o e
 item:=by
  intro X hP hw hK hc i pins s σ H E I hf st hg
  subst hP hw hK
  obtain ⟨xs,x,hq,hx⟩:=hg
  obtain ⟨its,rv,p,hz⟩:=I.list hq
  obtain ⟨u,hu,ru⟩:=rv.get hx
  obtain ⟨f0,f1,f2,f3,f4,f5⟩:=hf it (by simp)
  refine wpAny_pyNext_list_item st p.isList (x:=u) (by simpa using hu) fun h' st' sb=>?_
  have I1:Inv X pins σ H { s with heap:=h' }:=I.turned (t':=s.toks) (fun b o hb e=>(sb.2 b hb).trans e) f0 f1 f3 f4 f5
  obtain ⟨o,e,c,d⟩:=id st'
  exact ⟨u,rfl,yBs (s:={ s with heap:=h' }) e c d (by decide) ⟨x,H,I1,ru,⟨rfl,fun ys hy=>by rw [I.list_inj hy hq];exact hx⟩,st',fun b hb=>(hf b hb).1⟩⟩
 done:=by
  intro X hP hw hK hc i pins s σ H E I hf st hg
  subst hP hw hK
  obtain ⟨xs,hq,hx⟩:=hg
  obtain ⟨its,rv,p,hz⟩:=I.list hq
  obtain ⟨f0,f1,f2,f3,f4,f5⟩:=hf it (by simp)
  have hl:=rv.length
  exact wpAny_pyNext_list_end (I.ok.hd hc) st p.isList (by simp;omega) fun h' eb=>⟨rfl,I.turned (t':=s.toks) (fun b o hb e=>eb b o hb e) f0 f1 f3 f4 f5⟩
 self:=fun _ _ _ _ _ st h=>wpAny_pyIter_listiter st h
theorem yxk {P:Program}{w:World}{K:PySem.W.Frag}{tg:Expr}(it:Addr) (lo:Int) (n:Nat):Turn P w K tg (Itr lo n) [it] it (fun i h=>IsRangeIter h it (lo+(i:Nat)*1) ((n:Int)-(i:Nat)) 1) where
 mem:=by simp
 obj:=fun i h st b hb=>by
  have e:b=it:=by simpa using hb
  subst e
  exact ⟨_,st,fun v z=>by
   have z':Data.fields _=Data.cell v:=z
   cases z'⟩
 keep:=fun i h h' st k=>k it (by simp) _ st
 item:=by
  intro X hP hw hK hc i pins s σ H E I hf st hg
  subst hP hw hK
  obtain ⟨f0,f1,f2,f3,f4,f5⟩:=hf it (by simp)
  have W:=Walks.range (prog:=X.prog) (w:=X.w) (I.ok.hd hc) it lo 1 n
  refine W.item i s _ _ hg st fun v h' tk hv st' kk=>?_
  obtain ⟨t,rfl⟩:=hv
  have I1:Inv X pins σ H { s with heap:=h',toks:=tk }:=I.turned (fun b o hb e=>kk b o (by simpa using hb) e) f0 f1 f3 f4 f5
  refine ⟨_,rfl,yBs (s:={ s with heap:=h',toks:=tk }) (n:="range_iterator") st' rfl rfl (by decide) ⟨.int (lo+i),H,I1,⟨t,?_⟩,⟨rfl,rfl⟩,st',fun b hb=>(hf b hb).1⟩⟩
  rw [Int.mul_one]
 done:=by
  intro X hP hw hK hc i pins s σ H E I hf st hg
  subst hP hw hK
  obtain ⟨f0,f1,f2,f3,f4,f5⟩:=hf it (by simp)
  exact wpAny_pyNext_range_end (I.ok.hd hc) st (by have:n<=i:=hg;omega) fun h' eb=>⟨rfl,I.turned (t':=s.toks) (fun b o hb e=>eb b o hb e) f0 f1 f3 f4 f5⟩
 self:=fun _ _ _ _ _ st h=>wpAny_pyIter_rangeiter st h
end L2
namespace L2
open PySem PySem.Spec PyProof.Rows
section
variable {X:Cx}{tg:Expr}
def yHF (K:PySem.W.Frag) (tl:TE):TI:=fun σ H R=>tl σ H fun x H1=>∃ a,x=.ref a/\(∃ xs,SqL K H1 a xs)/\R (Itl K a) H1
theorem yEU {l:Expr}{tl:TE}(hl:PE X l tl):PI X tg l (yHF X.K tl):=by
 intro pins s σ H R I h
 refine thn (hl pins s σ H _ I h) fun v s1 ⟨x,H1,I1,r1,q1⟩=>?_
 obtain ⟨a,e,⟨xs,hq⟩,q⟩:=q1
 subst e
 cases r1
 obtain ⟨its,rv,p,hz⟩:=I1.list hq
 refine wpAny_pyIter_list p.isList ?_
 refine ⟨s1.heap.objs.size,[s1.heap.objs.size],_,_,H1,rfl,I1.kept (t':=s1.toks) fun b o e=>Heap.get?_push_of_some _ e,yyw a _,⟨_,Heap.get?_push_size _ rfl,rfl,rfl⟩,fun b hb=>?_,q⟩
 have e:b=s1.heap.objs.size:=by simpa using hb
 subst e
 exact I1.fpOk (Nat.le_refl _) (I1.hok.fresh (Nat.le_refl _))
theorem yBt {pins:List (Addr×Obj)}{σ:St}{H:Hp}{s:Shared}{R:It->Hp->Prop}{E:Value->Shared->Prop}{lo hi:Int}{t u v:Tok}{tk:Nat}(I:Inv X pins σ H s) (h1:-(2 ^ 62)<=lo) (h2:lo<2 ^ 62) (h3:-(2 ^ 62)<=hi) (h4:hi<2 ^ 62)
  (q:R (Itr lo (hi-lo).toNat) H):wpAny (model X.prog X.w) X.A (pyIter (.ref s.heap.objs.size)) (PIE X pins σ tg R) E { s with heap:=s.heap.push { cls:=.type "range",data:=.fields #[.int lo t,.int hi u,.int 1 v] },toks:=tk }:=by
 refine wpAny_pyIter_range (IsRange.new ..) (small_one h1 h2 h3 h4) ?_
 have I1:Inv X pins σ H { s with heap:=s.heap.push { cls:=.type "range",data:=.fields #[.int lo t,.int hi u,.int 1 v] },toks:=tk }:=I.kept fun b o e=>Heap.get?_push_of_some _ e
 refine ⟨(s.heap.push { cls:=.type "range",data:=.fields #[.int lo t,.int hi u,.int 1 v] }).objs.size,[(s.heap.push { cls:=.type "range",data:=.fields #[.int lo t,.int hi u,.int 1 v] }).objs.size],_,_,H,rfl,
  I1.kept (t':=tk) fun b o e=>Heap.get?_push_of_some _ e,yxk _ lo (hi-lo).toNat,?_,fun b hb=>?_,q⟩
 .have e1:lo+((0:Nat):Int)*1=lo:=by simp
  have e2:(((hi-lo).toNat:Nat):Int)-((0:Nat):Int)=Builtin.Range.rangeSize lo hi 1:=by rw [rangeSize_one];split<;>omega
  show IsRangeIter _ _ (lo+((0:Nat):Int)*1) ((((hi-lo).toNat:Nat):Int)-((0:Nat):Int)) 1
  rw [e1,e2]
  exact Heap.get?_push_size _ rfl
 .have e:b=(s.heap.push { cls:=.type "range",data:=.fields #[.int lo t,.int hi u,.int 1 v] }).objs.size:=by simpa using hb
  subst e
  exact I1.fpOk (Nat.le_refl _) (I1.hok.fresh (Nat.le_refl _))
def yHG (ta:TA):TI:=fun σ H R=>ta σ H fun vs H1=>∃ j:Int,vs=[.int j]/\-(2 ^ 62)<=j/\j<2 ^ 62/\R (Itr 0 j.toNat) H1
theorem yyx {a:Expr}{ta:TA}{p pos:Pos}(hg:Gl X "range") (hm:X.mg "range" = none) (ha:PA X [a] ta) (hs:starEach [a] X.env=[(false,eval a X.env)]:=by rfl):PI X tg (.Call (.Name "range" p) [a] [] pos) (yHG ta):=by
 intro pins s σ H R I h
 refine Call_ (yqA I hg hm boot_range (PyProof.Rows.callWith_type1 (thn (ha pos pins s σ H _ I h) fun us s1 ⟨vs,H1,I1,r1,q1⟩=>?_) hs rfl))
 obtain ⟨j,e,q1,q2,q⟩:=q1
 subst e
 cases r1 with
 | cons r rr =>
  cases rr
  obtain ⟨t,rfl⟩:=r
  exact call_range_1 (yBt I1 (by omega) (by omega) q1 q2 (by simpa using q))
noncomputable def yKf (wi:TI) (g:TG) (tb:TS):TS:=fun D σ H=>wi σ H fun J H1=>∃ W:Nat->Nat->St->Hp->Prop,(∃ m,W 0 m σ H1)/\∀ i m σ H,W i m σ H ->
 (J.stop i H/\D.nx σ H)\/(J.go i H/\∃ N:St->Hp->Prop,(∀ σ' H',N σ' H'->∃ m',m'<m/\W (i+1) m' σ' H')/\∀ x H',J.yld i H x H'->g x σ H' fun σ2 H2=>tb { D with nx:=N,ct:=N,bk:=D.nx } σ2 H2)
def ywn (fp:List Addr) (h:Heap):List (Addr×Obj):=fp.filterMap fun b=>(h.get? b).map fun o=>(b,o)
theorem yfA {fp:List Addr}{h:Heap}{b:Addr}{o:Obj}(hb:b∈fp) (e:h.get? b=some o):(b,o)∈ywn fp h:=List.mem_filterMap.mpr ⟨b,hb,by rw [e];rfl⟩
theorem yyy {fp:List Addr}{h:Heap}{p:Addr×Obj}(hp:p∈ywn fp h):p.1∈fp/\h.get? p.1=some p.2:=by
 obtain ⟨b,hb,e⟩:=List.mem_filterMap.mp hp
 cases q:h.get? b with
 | none=>rw [q] at e;cases e
 | some o =>
  rw [q] at e
  have e':(b,o)=p:=Option.some.inj e
  subst e'
  exact ⟨hb,q⟩
theorem Inv.pinned {pins:List (Addr×Obj)}{σ:St}{H:Hp}{s:Shared}{fp:List Addr}(I:Inv X pins σ H s) (hf:∀ b∈fp,yyv X pins H b) (ho:∀ b∈fp,∃ o,s.heap.get? b=some o/\∀ v,o.data≠.cell v):Inv X (pins++ywn fp s.heap) σ H s :=
 I.pins_of fun p hp=>(List.mem_append.mp hp).elim (fun z=>I.pin p (List.mem_append_right _ z)) fun z=>by
  obtain ⟨hb,e⟩:=yyy z
  obtain ⟨f0,f1,f2,_⟩:=hf p.1 hb
  obtain ⟨o,e',d⟩:=ho p.1 hb
  rw [e] at e';cases e'
  exact ⟨e,f0,f1,f2,d⟩
theorem Inv.unpinned {pins pl:List (Addr×Obj)}{σ:St}{H:Hp}{s:Shared}(I:Inv X (pins++pl) σ H s):Inv X pins σ H s:=I.pins_of fun p hp=>I.pin p (List.mem_append_right _ (List.mem_append_left _ hp))
theorem yDr {iter:Expr}{body:List Stmt}{wi:TI}{g:TG}{tb:TS}{pos:Pos}(hp:PassesOwn (model X.prog X.w) X.A X.env X.xe) (hc:X.calm=true) (hi:PI X tg iter wi) (hg:PG X tg g) (hb:PSs X body tb)
  (hs:∀ x,foldedSetIterable iter X.env x=pure x:=by intro _;rfl):PS X (.For tg iter body [] pos) (yKf wi g tb):=by
 intro pins s σ H D I h
 refine wpAny_For (thn (hi pins s σ H _ I h) fun v s1 h1=>thn h1 fun itv s2 h2=>?_) hs
 obtain ⟨it,fp,tn,J,H2,e,I2,T,st2,f2,W,⟨m0,w0⟩,turn⟩:=h2
 subst e
 have stat:∀ {H':Hp},(∀ b∈fp,H' b=none)->∀ b∈fp,yyv X pins H' b:=fun hn b hb=>⟨hn b hb,(f2 b hb).2⟩
 refine codeAny_forLoop_any (fun n s'=>∃ i σ' H',Inv X pins σ' H' s'/\tn i s'.heap/\(∀ b∈fp,H' b=none)/\W i n σ' H') ?_ m0 ⟨0,σ,H2,I2,st2,fun b hb=>(f2 b hb).1,w0⟩
 rintro n s3 ⟨i,σ3,H3,I3,st3,fr3,w3⟩
 rcases turn i n σ3 H3 w3 with ⟨stop,qn⟩|⟨go,N,hN,step⟩
 .refine wpAny_passesOwn hp (thn (T.done X rfl rfl rfl hc i pins s3 σ3 H3 X.xe I3 (stat fr3) st3 stop) fun r s4 ⟨hr,I4⟩=>?_)
  subst hr
  exact wpAny_execs_nil ⟨σ3,H3,I4,qn⟩
 .refine wpAny_passesOwn hp (thn (T.item X rfl rfl rfl hc i pins s3 σ3 H3 X.xe I3 (stat fr3) st3 go) fun r s4 ⟨u,hr,h4⟩=>?_)
  subst hr
  refine wpAny_passesOwn hp (thn h4 fun _ s5 ⟨x,H5,I5,r5,y5,st5,fr5⟩=>?_)
  have I5':=I5.pinned (stat fr5) (T.obj _ _ st5)
  refine wpAny_passesOwn hp (thn (hg _ s5 σ3 H5 x u _ I5' r5 (step x H5 y5)) fun _ s6 ⟨σ6,H6,I6,q6⟩=>?_)
  refine wpAny_passesOwn hp (thn (hb _ s6 σ6 H6 _ I6 q6) fun f s7 q7=>?_)
  have again:∀ {σ7:St}{H7:Hp},Inv X (pins++ywn fp s5.heap) σ7 H7 s7->N σ7 H7->∃ m,m<n/\∃ i σ' H',Inv X pins σ' H' s7/\tn i s7.heap/\(∀ b∈fp,H' b=none)/\W i m σ' H':=fun {σ7 H7} I7 n7=>by
   obtain ⟨m',hm,w7⟩:=hN σ7 H7 n7
   refine ⟨m',hm,i+1,σ7,H7,I7.unpinned,T.keep _ _ _ st5 fun b hb o e=>(I7.pin (b,o) (List.mem_append_right _ (List.mem_append_right _ (yfA hb e)))).1,fun b hb=>?_,w7⟩
   obtain ⟨o,e,d⟩:=T.obj _ _ st5 b hb
   exact (I7.pin (b,o) (List.mem_append_right _ (List.mem_append_right _ (yfA hb e)))).2.1
  cases f with
  | next=>obtain ⟨σ7,H7,I7,n7⟩:=q7;exact again I7 n7
  | cont=>obtain ⟨σ7,H7,I7,n7⟩:=q7;exact again I7 n7
  | brk=>obtain ⟨σ7,H7,I7,q7⟩:=q7;exact ⟨σ7,H7,I7.unpinned,q7⟩
  | ret v=>obtain ⟨x7,σ7,H7,I7,r7,q7⟩:=q7;exact ⟨x7,σ7,H7,I7.unpinned,r7,q7⟩
end
end L2
namespace L2
open PySem PySem.Spec PyProof.Rows
abbrev R2:=V->V->Hp->VK->Prop
noncomputable def OpR (X:Cx) (f:Value->Value->Sem Value) (r:R2):Prop :=
 ∀ (pins:List (Addr×Obj)) (s:Shared) (σ:St) (H:Hp) (x y:V) (v u:Value) (Q:VK),Inv X pins σ H s->RelV x v->RelV y u->r x y H Q ->
  wpAny (model X.prog X.w) X.A (f v u) (EP X pins σ Q) X.xe s
noncomputable def UnR (X:Cx) (f:Value->Sem Value) (r:V->Hp->VK->Prop):Prop :=
 ∀ (pins:List (Addr×Obj)) (s:Shared) (σ:St) (H:Hp) (x:V) (v:Value) (Q:VK),Inv X pins σ H s->RelV x v->r x H Q ->
  wpAny (model X.prog X.w) X.A (f v) (EP X pins σ Q) X.xe s
noncomputable def ykN (X:Cx) (f:Value) (r:List V->Hp->VK->Prop):Prop :=
 ∀ (pins:List (Addr×Obj)) (s:Shared) (σ:St) (H:Hp) (xs:List V) (us:List Value) (Q:VK),Inv X pins σ H s->Vals xs us->r xs H Q ->
  wpAny (model X.prog X.w) X.A (call f us) (EP X pins σ Q) X.xe s
def tOp (r:R2) (ta tb:TE):TE:=fun σ H Q=>ta σ H fun x H1=>tb σ H1 fun y H2=>r x y H2 Q
def tUn (r:V->Hp->VK->Prop) (ta:TE):TE:=fun σ H Q=>ta σ H fun x H1=>r x H1 Q
def rI (C:Int->Int->Prop) (g:Int->Int->V):R2:=fun x y H Q=>∃ i j,x=.int i/\y=.int j/\C i j/\Q (g i j) H
def rI0 (g:Int->Int->V):R2:=fun x y H Q=>∃ i j,x=.int i/\y=.int j/\Q (g i j) H
def rU (g:Int->V):V->Hp->VK->Prop:=fun x H Q=>∃ i,x=.int i/\Q (g i) H
section
variable {X:Cx}{a b c:Expr}{ta tb tc:TE}{pos:Pos}
theorem yKg (ha:PE X a ta) (hb:PE X b tb) {pins:List (Addr×Obj)}{s:Shared}{σ:St}{H:Hp}{R:V->V->Hp->Prop}(I:Inv X pins σ H s)
  (h:ta σ H fun x H1=>tb σ H1 fun y H2=>R x y H2) {Q:Value->Shared->Prop}{f:Value->Value->Sem Value}
  (hf:∀ v u s2 x y H2,Inv X pins σ H2 s2->RelV x v->RelV y u->R x y H2->wpAny (model X.prog X.w) X.A (f v u) Q X.xe s2) :
  wpAny (model X.prog X.w) X.A (eval a X.env) (fun v s₁=>wpAny (model X.prog X.w) X.A (eval b X.env) (fun u s₂=>wpAny (model X.prog X.w) X.A (f v u) Q X.xe s₂) X.xe s₁) X.xe s:=by
 refine thn (ha pins s σ H _ I h) fun v s1 ⟨x,H1,I1,r1,q1⟩=>?_
 refine thn (hb pins s1 σ H1 _ I1 q1) fun u s2 ⟨y,H2,I2,r2,q2⟩=>?_
 exact hf v u s2 x y H2 I2 r1 r2 q2
theorem yHH {op:Operator}{r:R2}(ho:OpR X (binaryOp op) r) (ha:PE X a ta) (hb:PE X b tb):PE X (.BinOp a op b pos) (tOp r ta tb):=by
 intro pins s σ H Q I h
 exact wpAny_BinOp (yKg ha hb I h fun v u s2 x y H2 I2 rx ry q=>ho pins s2 σ H2 x y v u Q I2 rx ry q)
theorem yKh {op:UnaryOp}{r:V->Hp->VK->Prop}(ho:UnR X (unaryOp op) r) (ha:PE X a ta):PE X (.UnaryOp op a pos) (tUn r ta):=by
 intro pins s σ H Q I h
 exact UnaryOp_ (thn (ha pins s σ H _ I h) fun v s1 ⟨x,H1,I1,r1,q1⟩=>ho pins s1 σ H1 x v Q I1 r1 q1)
theorem opI {f:Value->Value->Sem Value}{C:Int->Int->Prop}{g:Int->Int->Int}
  (rule:∀ (i j:Int) (t u:Tok) (s:Shared) (Q:Value->Shared->Prop) (E:Value->Shared->Prop),C i j->Q (.int (g i j) s.toks) { s with toks:=s.toks+1 }->wpAny (model X.prog X.w) X.A (f (.int i t) (.int j u)) Q E s) :
  OpR X f (rI C fun i j=>.int (g i j)):=by
 intro pins s σ H x y v u Q I rx ry h
 obtain ⟨i,j,rfl,rfl,hc,q⟩:=h
 obtain ⟨t,rfl⟩:=rx
 obtain ⟨t',rfl⟩:=ry
 exact rule i j t t' s _ _ hc ⟨.int (g i j),H,I.tok _,⟨_,rfl⟩,q⟩
theorem yLZ {f:Value->Value->Sem Value}{g:Int->Int->Int}
  (rule:∀ (i j:Int) (t u:Tok) (s:Shared) (Q:Value->Shared->Prop) (E:Value->Shared->Prop),Q (.int (g i j) s.toks) { s with toks:=s.toks+1 }->wpAny (model X.prog X.w) X.A (f (.int i t) (.int j u)) Q E s) :
  OpR X f (rI0 fun i j=>.int (g i j)):=by
 intro pins s σ H x y v u Q I rx ry h
 obtain ⟨i,j,rfl,rfl,q⟩:=h
 obtain ⟨t,rfl⟩:=rx
 obtain ⟨t',rfl⟩:=ry
 exact rule i j t t' s _ _ ⟨.int (g i j),H,I.tok _,⟨_,rfl⟩,q⟩
theorem yMB {f:Value->Value->Sem Value}{g:Int->Int->Bool}
  (rule:∀ (i j:Int) (t u:Tok) (s:Shared) (Q:Value->Shared->Prop) (E:Value->Shared->Prop),Q (.bool (g i j)) s->wpAny (model X.prog X.w) X.A (f (.int i t) (.int j u)) Q E s) :
  OpR X f (rI0 fun i j=>.bl (g i j)):=by
 intro pins s σ H x y v u Q I rx ry h
 obtain ⟨i,j,rfl,rfl,q⟩:=h
 obtain ⟨t,rfl⟩:=rx
 obtain ⟨t',rfl⟩:=ry
 exact rule i j t t' s _ _ ⟨.bl (g i j),H,I,rfl,q⟩
def yMa (i j:Int):Prop:=0<j/\j<1073741824
def yKi (i j:Int):Prop:=0<=j/\j<=1000000/\i.natAbs<2 ^ 64
def CMul (i j:Int):Prop:=(-(2 ^ 64)<i/\i<2 ^ 64)\/(-(2 ^ 64)<j/\j<2 ^ 64)
theorem CMul.ok {i j:Int}(h:CMul i j):IntMulOk i j:=by
 rcases h with ⟨h1,h2⟩|⟨h1,h2⟩
 .exact .of_left (intBits_le_64 h1 h2)
 .exact .of_right (intBits_le_64 h1 h2)
theorem ydF:OpR X (binaryOp .Add) (rI0 fun i j=>.int (i+j)):=yLZ fun _ _ _ _ _ _ _ q=>add_int q
theorem ywo:OpR X (binaryOp .Sub) (rI0 fun i j=>.int (i-j)):=yLZ fun _ _ _ _ _ _ _ q=>sub_int q
theorem yor:OpR X (binaryOp .Mult) (rI CMul fun i j=>.int (i*j)):=opI fun _ _ _ _ _ _ _ hc q=>mul_int q hc.ok
theorem yby:OpR X (binaryOp .FloorDiv) (rI yMa fun i j=>.int (i/j)):=opI fun i j _ _ _ _ _ hc q=>by
 have h1:(0:Int)<j:=hc.1
 have h2:j<1073741824:=hc.2
 exact floordiv_int (by omega) (by rw [Int.fdiv_eq_ediv_of_nonneg i (by omega)];exact q) (.inl (PyProof.noPylong_small (by omega)))
theorem ybm:OpR X (binaryOp .Mod) (rI (fun _ j=>0<j) fun i j=>.int (i%j)):=opI fun i j _ _ _ _ _ hc q=>by
 have h1:(0:Int)<j:=hc
 exact mod_int' (by omega) (by rw [Int.fmod_eq_emod_of_nonneg i (by omega)];exact q)
theorem ywp:OpR X (binaryOp .Pow) (rI yKi fun i j=>.int (i ^ j.toNat)):=opI fun _ _ _ _ _ _ _ hc q=>pow_int_small hc.1 hc.2.1 hc.2.2 q
theorem unI {f:Value->Sem Value}{g:Int->Int}
  (rule:∀ (i:Int) (t:Tok) (s:Shared) (Q:Value->Shared->Prop) (E:Value->Shared->Prop),Q (.int (g i) s.toks) { s with toks:=s.toks+1 }->wpAny (model X.prog X.w) X.A (f (.int i t)) Q E s) :
  UnR X f (rU fun i=>.int (g i)):=by
 intro pins s σ H x v Q I rx h
 obtain ⟨i,rfl,q⟩:=h
 obtain ⟨t,rfl⟩:=rx
 exact rule i t s _ _ ⟨.int (g i),H,I.tok _,⟨_,rfl⟩,q⟩
theorem yDs:UnR X (unaryOp .USub) (rU fun i=>.int (-i)):=unI fun _ _ _ _ _ q=>neg_int q
end
noncomputable def yDt:V->V->Bool
 | .non,.non=>true|.non,.int _=>true|.int _,.non=>true|.non,.bl _=>true|.bl _,.non=>true|.non,.str _=>true|.str _,.non=>true
 | .int _,.int _=>true|.bl _,.bl _=>true|.str _,.str _=>true|.byt _,.byt _=>true
 | .int _,.str _=>true|.str _,.int _=>true|.bl _,.str _=>true|.str _,.bl _=>true
 | _,_=>false
def rEq:R2:=fun x y H Q=>yDt x y=true/\Q (.bl (decide (x=y))) H
def rNe:R2:=fun x y H Q=>yDt x y=true/\Q (.bl (!decide (x=y))) H
theorem yyz {i j:Int}:decide (V.int i=V.int j)=(i == j):=by
 rw [Bool.eq_iff_iff]
 simp
theorem yDu {i j:Bool}:decide (V.bl i=V.bl j)=(i == j):=by
 rw [Bool.eq_iff_iff]
 simp
theorem yyA {i j:Str}:decide (V.str i=V.str j)=(i == j):=by
 rw [Bool.eq_iff_iff]
 simp
theorem yyB {i j:Array UInt8}:decide (V.byt i=V.byt j)=(i.toList == j.toList):=by
 rw [Bool.eq_iff_iff]
 cases i
 cases j
 simp
section
variable {X:Cx}{a b c:Expr}{ta tb tc:TE}{pos:Pos}
theorem ycg {pins:List (Addr×Obj)}{σ:St}{H:Hp}{s:Shared}{Q:VK}{k k':Bool}(I:Inv X pins σ H s) (q:Q (.bl k) H) (e:k=k'):EP X pins σ Q (.bool k') s:=by
 subst e
 exact ⟨.bl k,H,I,rfl,q⟩
theorem ydc:OpR X (compareOp .Eq) rEq:=by
 intro pins s σ H x y v u Q I rx ry h
 obtain ⟨hs,q⟩:=h
 cases x with
 | non =>
  cases rx
  cases y with
  | non=>cases ry;exact PySem.EqNone.eq_none_none (ycg I q (by simp))
  | bl j=>cases ry;exact PySem.EqNone.eq_none_bool (ycg I q (by simp))
  | int j=>obtain ⟨t',rfl⟩:=ry;exact PySem.EqNone.eq_none_int (ycg I q (by simp))
  | str j=>obtain ⟨t',rfl⟩:=ry;exact PySem.EqNone.eq_none_str (ycg I q (by simp))
  | _=>exact absurd (show false=true from hs) Bool.false_ne_true
 | bl i =>
  cases rx
  cases y with
  | non=>cases ry;exact PySem.EqNone.eq_bool_none (ycg I q (by simp))
  | bl j=>cases ry;exact eq_bool (ycg I q yDu)
  | str j=>obtain ⟨t',rfl⟩:=ry;exact PySem.EqMixed.eq_bool_str (ycg I q (by simp))
  | _=>exact absurd (show false=true from hs) Bool.false_ne_true
 | int i =>
  obtain ⟨t,rfl⟩:=rx
  cases y with
  | non=>cases ry;exact PySem.EqNone.eq_int_none (ycg I q (by simp))
  | int j=>obtain ⟨t',rfl⟩:=ry;exact eq_int (ycg I q yyz)
  | str j=>obtain ⟨t',rfl⟩:=ry;exact PySem.EqMixed.eq_int_str (ycg I q (by simp))
  | _=>exact absurd (show false=true from hs) Bool.false_ne_true
 | str i =>
  obtain ⟨t,rfl⟩:=rx
  cases y with
  | non=>cases ry;exact PySem.EqNone.eq_str_none (ycg I q (by simp))
  | bl j=>cases ry;exact PySem.EqMixed.eq_str_bool (ycg I q (by simp))
  | int j=>obtain ⟨t',rfl⟩:=ry;exact PySem.EqMixed.eq_str_int (ycg I q (by simp))
  | str j=>obtain ⟨t',rfl⟩:=ry;exact eq_str (ycg I q yyA)
  | _=>exact absurd (show false=true from hs) Bool.false_ne_true
 | byt i =>
  obtain ⟨t,rfl⟩:=rx
  cases y with
  | byt j=>obtain ⟨t',rfl⟩:=ry;exact PySem.W.eq_bytes (ycg I q yyB)
  | _=>exact absurd (show false=true from hs) Bool.false_ne_true
 | _=>cases y<;>exact absurd (show false=true from hs) Bool.false_ne_true
theorem yyC:OpR X (compareOp .NotEq) rNe:=by
 intro pins s σ H x y v u Q I rx ry h
 obtain ⟨hs,q⟩:=h
 cases x with
 | non =>
  cases rx
  cases y with
  | non=>cases ry;exact PySem.EqNone.ne_none_none (ycg I q (by simp))
  | bl j=>cases ry;exact PySem.EqNone.ne_none_bool (ycg I q (by simp))
  | int j=>obtain ⟨t',rfl⟩:=ry;exact PySem.EqNone.ne_none_int (ycg I q (by simp))
  | str j=>obtain ⟨t',rfl⟩:=ry;exact PySem.EqNone.ne_none_str (ycg I q (by simp))
  | _=>exact absurd (show false=true from hs) Bool.false_ne_true
 | bl i =>
  cases rx
  cases y with
  | non=>cases ry;exact PySem.EqNone.ne_bool_none (ycg I q (by simp))
  | bl j=>cases ry;exact ne_bool (ycg I q (congrArg not yDu))
  | str j=>obtain ⟨t',rfl⟩:=ry;exact PySem.EqMixed.ne_bool_str (ycg I q (by simp))
  | _=>exact absurd (show false=true from hs) Bool.false_ne_true
 | int i =>
  obtain ⟨t,rfl⟩:=rx
  cases y with
  | non=>cases ry;exact PySem.EqNone.ne_int_none (ycg I q (by simp))
  | int j=>obtain ⟨t',rfl⟩:=ry;exact ne_int (ycg I q (congrArg not yyz))
  | str j=>obtain ⟨t',rfl⟩:=ry;exact PySem.EqMixed.ne_int_str (ycg I q (by simp))
  | _=>exact absurd (show false=true from hs) Bool.false_ne_true
 | str i =>
  obtain ⟨t,rfl⟩:=rx
  cases y with
  | non=>cases ry;exact PySem.EqNone.ne_str_none (ycg I q (by simp))
  | bl j=>cases ry;exact PySem.EqMixed.ne_str_bool (ycg I q (by simp))
  | int j=>obtain ⟨t',rfl⟩:=ry;exact PySem.EqMixed.ne_str_int (ycg I q (by simp))
  | str j=>obtain ⟨t',rfl⟩:=ry;exact ne_str (ycg I q (congrArg not yyA))
  | _=>exact absurd (show false=true from hs) Bool.false_ne_true
 | byt i =>
  obtain ⟨t,rfl⟩:=rx
  cases y with
  | byt j=>obtain ⟨t',rfl⟩:=ry;exact PySem.W.ne_bytes (ycg I q (congrArg not yyB))
  | _=>exact absurd (show false=true from hs) Bool.false_ne_true
 | _=>cases y<;>exact absurd (show false=true from hs) Bool.false_ne_true
theorem ysE:OpR X (compareOp .Lt) (rI0 fun i j=>.bl (decide (i<j))):=yMB fun _ _ _ _ _ _ _ q=>lt_int q
theorem yyD:OpR X (compareOp .Is) (fun x y H Q=>y=.non/\Q (.bl (decide (x=.non))) H):=by
 intro pins s σ H x y v u Q I rx ry h
 obtain ⟨rfl,q⟩:=h
 cases ry
 refine is_none_gen (ycg I q ?_)
 cases x<;>first
  | (cases rx;rfl)
  | (obtain ⟨t,rfl⟩:=rx;rfl)
theorem yEV:OpR X (compareOp .IsNot) (fun x y H Q=>y=.non/\Q (.bl (!decide (x=.non))) H):=by
 intro pins s σ H x y v u Q I rx ry h
 obtain ⟨rfl,q⟩:=h
 cases ry
 refine isnot_none_gen (ycg I q ?_)
 cases x<;>first
  | (cases rx;rfl)
  | (obtain ⟨t,rfl⟩:=rx;rfl)
theorem yF (b:Expr) {op:CmpOp}(h:op≠.In:=by decide) (h2:op≠.NotIn:=by decide):behindInMarks op b=false:=by
 have e1:(op == CmpOp.In)=false:=by cases op<;>first|rfl|exact absurd rfl h
 have e2:(op == CmpOp.NotIn)=false:=by cases op<;>first|rfl|exact absurd rfl h2
 cases b<;>simp [behindInMarks,e1,e2]
theorem yEW {op:CmpOp}{r:R2}(ho:OpR X (compareOp op) r) (ha:PE X a ta) (hb:PE X b tb) (hm:behindInMarks op b=false):PE X (.Compare a [op] [b] pos) (tOp r ta tb):=by
 intro pins s σ H Q I h
 exact wpAny_Compare1 (yKg ha hb I h fun v u s2 x y H2 I2 rx ry q=>ho pins s2 σ H2 x y v u Q I2 rx ry q) hm
def yHI (t:TE):TT:=fun σ H Q=>t σ H fun x H'=>∃ k,x=.bl k/\Q k H'
theorem yEX {op:CmpOp}{r:R2}(ho:OpR X (compareOp op) r) (ha:PE X a ta) (hb:PE X b tb) (hm:behindInMarks op b=false):PT X (.Compare a [op] [b] pos) (yHI (tOp r ta tb)):=by
 intro pins s σ H Q I h
 refine wpAny_isTrue_Compare1 (thn (ha pins s σ H _ I h) fun v s1 ⟨x,H1,I1,r1,q1⟩=>thn (hb pins s1 σ H1 _ I1 q1) fun u s2 ⟨y,H2,I2,r2,q2⟩ =>
  thn (ho pins s2 σ H2 x y v u _ I2 r1 r2 q2) fun c s3 ⟨z,H3,I3,r3,k,e,q3⟩=>?_) hm
 subst e
 cases r3
 exact wpAny_truthy_bool ⟨H3,I3,q3⟩
theorem yqB:(sizeLine:Nat)<2 ^ 63:=by rw [sizeLine_eq];decide
theorem yxl:OpR X (binaryOp .Add) (fun x y H Q=>∃ i j,x=.str i/\y=.str j/\i.length+j.length<=sizeLine/\Q (.str (i++j)) H):=by
 intro pins s σ H x y v u Q I rx ry h
 obtain ⟨i,j,rfl,rfl,hz,q⟩:=h
 obtain ⟨t,rfl⟩:=rx
 obtain ⟨t',rfl⟩:=ry
 exact add_str (fun t' tk=>⟨.str (i++j),H,I.tok _,⟨_,rfl⟩,q⟩) hz
theorem vals1 {x:V}{us:List Value}(r:Vals [x] us):∃ u,us=[u]/\RelV x u:=by
 cases r with
 | cons r1 r2=>cases r2;exact ⟨_,rfl,r1⟩
theorem vals2 {x y:V}{us:List Value}(r:Vals [x,y] us):∃ u w',us=[u,w']/\RelV x u/\RelV y w':=by
 cases r with
 | cons r1 r2 =>
  cases r2 with
  | cons r3 r4=>cases r4;exact ⟨_,_,rfl,r1,r3⟩
theorem yyE (hc:X.calm=true):ykN X (.builtin "max") (fun xs H Q=>∃ i j,xs=[.int i,.int j]/\Q (.int (if j>i then j else i)) H):=by
 intro pins s σ H xs us Q I r h
 obtain ⟨i,j,rfl,q⟩:=h
 obtain ⟨u,w',rfl,⟨t,rfl⟩,⟨t',rfl⟩⟩:=vals2 r
 refine max_two_ints (I.ok.hd hc) fun h' tk k=>⟨_,H,I.kept k,?_,q⟩
 by_cases hj:j>i
 .rw [if_pos hj,if_pos hj];exact ⟨_,rfl⟩
 .rw [if_neg hj,if_neg hj];exact ⟨_,rfl⟩
theorem yos:ykN X (.type "int") (fun xs H Q=>(∃ i,xs=[.int i]/\Q (.int i) H)\/∃ k,xs=[.bl k]/\Q (.int (if k then 1 else 0)) H):=by
 intro pins s σ H xs us Q I r h
 rcases h with ⟨i,rfl,q⟩|⟨k,rfl,q⟩
 .obtain ⟨u,rfl,t,rfl⟩:=vals1 r
  exact call_int_int ⟨.int i,H,I,⟨_,rfl⟩,q⟩
 .obtain ⟨u,rfl,r1⟩:=vals1 r
  cases r1
  exact call_int_bool ⟨.int (if k then 1 else 0),H,I.tok _,⟨_,rfl⟩,q⟩
end
end L2
namespace L2
open PySem PySem.Spec PyProof.Rows
structure ObjM (h:Heap) (x dx C:Addr) (mA:Str->Option Value):Prop where
 obj:h.get? x=some (instObj C dx)
 ns:h.Ns1 dx mA
 ne:dx≠x
theorem yyF {h:Heap}{dx:Addr}{mA:Str->Option Value}(n:h.Ns1 dx mA):∃ od,h.get? dx=some od/\∀ name,PySem.W.lookIn name od=some (mA name):=by
 obtain ⟨o,es,ep,ho,hd,hk,_,hm⟩:=n
 refine ⟨o,ho,fun name=>?_⟩
 have e:=hm name
 unfold nsFind findBy at e
 rw [<- Array.find?_toList] at e
 unfold PySem.W.lookIn
 rw [hd]
 dsimp only
 split
 .rename_i y q
  rw [q] at e
  exact congrArg some e
 .rename_i q
  rw [q] at e
  have a:es.toList.any (·.refKey)=false:=by
   rw [List.any_eq_false]
   intro y hy
   obtain ⟨z,t,hkey⟩:=hk y (Array.mem_toList_iff.mp hy)
   simp [DictEntry.refKey,hkey]
  have a':¬ es.toList.any (·.refKey)=true:=by rw [a];exact Bool.false_ne_true
  rw [if_neg a']
  exact congrArg some e
theorem ObjM.look {h:Heap}{x dx C:Addr}{mA:Str->Option Value}(I:ObjM h x dx C mA):∃ od,PySem.W.InstAt h x (instObj C dx) C (some od)/\∀ name,PySem.W.lookIn name od=some (mA name) :=
 let ⟨od,ho,hl⟩:=yyF I.ns
 ⟨od,⟨I.obj,rfl,rfl,ho⟩,hl⟩
section
variable {prog:Program}{w:World}{A:Around}{E:Value->Shared->Prop}{s:Shared}{K:PySem.W.Frag}{x dx C f:Addr}{mA:Str->Option Value}{name:Str}{v:Value}
theorem yEY {expr:Bool}{Q:Value->Shared->Prop}(X:K.In s.heap) (I:ObjM s.heap x dx C mA) (hg:plainGet K C name=true) (hh:hasDictIn K C=true)
  (ha:findIn K (.ref C) name=some none) (hv:mA name=some v) (hv':PySem.W.handedIn v=true) (h:Q v { s with toks:=s.toks+1 }) :
  wpAny (model prog w) A (getAttr (.ref x) name expr) Q E s:=by
 obtain ⟨od,J,hl⟩:=I.look
 exact PySem.W.get_value X J (PySem.W.plainGet_of hg).1 (PySem.W.findObj_own hh ha rfl (by rw [hl,hv])) hv' h
theorem yBu {pl:Sem Bool}{Q:Value×List Value->Shared->Prop}(X:K.In s.heap) (I:ObjM s.heap x dx C mA) (hg:plainGet K C name=true)
  (hf:findIn K (.ref C) name=some (some (.ref f))) (ht:isFn K (.ref f)=true) (hv:mA name=none) (h:Q (.ref f,[.ref x]) s) :
  wpAny (model prog w) A (getMethod (.ref x) name pl) Q E s:=by
 obtain ⟨od,J,hl⟩:=I.look
 exact PySem.W.method_fn X J (PySem.W.plainGet_of hg).1 (PySem.W.plainGet_of hg).2 hf (beq_iff_eq.mp ht) (by show (PySem.W.lookIn name od).map (·.isSome)=some false;rw [hl,hv];rfl) h
theorem yEZ {ns:List Str}{Q:Unit->Shared->Prop}(X:K.In s.heap) (I:ObjM s.heap x dx C mA)
  (hs:findIn K (.ref C) "__setattr__" = some (some (.builtin "object.__setattr__"))) (hp:plainOver K C=true) (ht:PySem.W.takerIn K C name=some none) (hh:hasDictIn K C=true)
  (hw:PySem.Within mA ns) (hsz:ns.length<=sizeLine)
  (h:∀ h',ObjM h' x dx C (fun y=>if y=name then some v else mA y)->Heap.SameBut dx s.heap h'->Q () { s with heap:=h',toks:=s.toks+2 }) :
  wpAny (model prog w) A (setAttr (.ref x) name v) Q E s:=by
 obtain ⟨od,J,hl⟩:=I.look
 refine PySem.W.set_plain X J hs (PySem.W.osa_open (s:={ s with toks:=s.toks+1 }) (r:=none) X J hp ht fun b=>?_)
 obtain ⟨cd,hc,hd'⟩:=PySem.W.any_some hh
 have hx:s.heap.get? x=some ⟨.ref C,some dx,.plain,#[]⟩:=I.obj
 refine wpAny_bind (wpAny_pure (wpAny_bind (wpAny_bind (wpAny_loadPart hx (wpAny_bind (PySem.W.Looks.here (s:={ s with toks:=s.toks+1 }) (PySem.W.looks_clsIn X hc) ?_))))))
 rw [hd']
 refine wpAny_pure (a:=some dx) (wpAny_bind (wpAny_pure (wpAny_bind ?_)))
 refine wpAny_nsSet1 (s:={ s with toks:=s.toks+1 }) I.ns fun h' hn2 hs2=>?_
 obtain ⟨oD,esD,epD,hoD,hdD,hcD⟩:=hn2.count (PySem.Within.cons name v hw)
 refine wpAny_bind (wpAny_lookBehind hoD (by rw [hdD];exact pastItsLine_dict (Nat.le_trans hcD (by rw [List.length_cons];omega))) ?_)
 exact wpAny_pure (h _ ⟨(hs2.2 _ (Ne.symm I.ne)).trans I.obj,hn2,I.ne⟩ hs2)
theorem yBv {R:Result->Shared->Prop}{vs:List Value}{kw:List (Str×Value)}(X:K.In s.heap) (hm:makesIn K C=true)
  (hi:findIn K (.ref C) "__init__" = some (some (.ref f))) (hf:typeIn K (.ref f)=some (.type "function"))
  (h:codeAny (model prog w) (A.under (.builtin "type.__call__" ⟨.ref C::vs,kw⟩)) (.call (.ref f) ⟨.ref (s.heap.objs.size+1)::vs,kw⟩) (PySem.W.InitBack (s.heap.objs.size+1) R)
   { s with heap:=(s.heap.push emptyDict).push (instObj C s.heap.objs.size) }) :
  codeAny (model prog w) A (.call (.ref C) ⟨vs,kw⟩) R s:=by
 obtain ⟨hh,g,d,t,os⟩:=s
 exact PySem.W.make_core (PySem.W.makes_of X hm) (PySem.W.looks_findIn X hi) (fun self=>PySem.W.bind_fn X self hf) (.inl rfl) h
end
def yqC (f:Str) (v:V):List (Str×V)->List (Str×V)
 | []=>[(f,v)]
 | (g,x)::r=>if g=f then (g,v)::r else (g,x)::yqC f v r
theorem yot (f g:Str) (v:V):∀ fs:List (Str×V),(yqC f v fs).lookup g=if g=f then some v else fs.lookup g
 | []=>by
  show List.lookup g [(f,v)]=_
  by_cases h:g=f
  .have hb:(g == f)=true:=beq_iff_eq.mpr h
   simp only [List.lookup,hb,if_pos h]
  .have hb:(g == f)=false:=beq_eq_false_iff_ne.mpr h
   simp only [List.lookup,hb,if_neg h]
 | (k,x)::r=>by
  have ih:=yot f g v r
  rw [show yqC f v ((k,x)::r)=(if k=f then (k,v)::r else (k,x)::yqC f v r) from rfl]
  by_cases hk:k=f
  .rw [if_pos hk]
   by_cases h:g=k
   .have hb:(g == k)=true:=beq_iff_eq.mpr h
    simp only [List.lookup,hb,if_pos (h.trans hk)]
   .have hb:(g == k)=false:=beq_eq_false_iff_ne.mpr h
    simp only [List.lookup,hb,if_neg (fun e:g=f=>h (e.trans hk.symm))]
  .rw [if_neg hk]
   by_cases h:g=k
   .have hb:(g == k)=true:=beq_iff_eq.mpr h
    simp only [List.lookup,hb,if_neg (fun e:g=f=>hk (h.symm.trans e))]
   .have hb:(g == k)=false:=beq_eq_false_iff_ne.mpr h
    simp only [List.lookup,hb]
    exact ih
theorem you (f:Str) (v:V):∀ fs:List (Str×V),f∈(yqC f v fs).map (·.1)/\∀ g,g∈fs.map (·.1)->g∈(yqC f v fs).map (·.1)
 | []=>⟨by simp [yqC],fun g h=>by simp at h⟩
 | (k,x)::r=>by
  obtain ⟨i1,i2⟩:=you f v r
  rw [show yqC f v ((k,x)::r)=(if k=f then (k,v)::r else (k,x)::yqC f v r) from rfl]
  by_cases hk:k=f
  .rw [if_pos hk]
   subst hk
   exact ⟨by simp,fun g h=>by simpa using h⟩
  .rw [if_neg hk]
   refine ⟨?_,fun g h=>?_⟩
   .rw [List.map_cons]
    exact List.mem_cons_of_mem _ i1
   .rw [List.map_cons] at h ⊢
    rcases List.mem_cons.mp h with e|e
    .exact List.mem_cons.mpr (.inl e)
    .exact List.mem_cons_of_mem _ (i2 g e)
theorem yov (f:Str) (v:V):∀ fs:List (Str×V),(yqC f v fs).length<=fs.length+1
 | []=>by simp [yqC]
 | (k,x)::r=>by
  have ih:=yov f v r
  rw [show yqC f v ((k,x)::r)=(if k=f then (k,v)::r else (k,x)::yqC f v r) from rfl]
  by_cases hk:k=f
  .rw [if_pos hk,List.length_cons,List.length_cons];omega
  .rw [if_neg hk,List.length_cons,List.length_cons];omega
theorem RelO.some_of {v:V}{o:Option Value}(r:RelO (some v) o):∃ u,o=some u/\RelV v u:=by
 cases o with
 | none=>exact (show False from r).elim
 | some u=>exact ⟨u,rfl,r⟩
theorem RelO.none_of {o:Option Value}(r:RelO none o):o=none:=by
 cases o with
 | none=>rfl
 | some u=>exact (show False from r).elim
theorem yyG {v:V}{u:Value}(r:RelV v u):PySem.W.handedIn u=true:=by
 cases v with
 | non=>cases (show u=Value.none from r);rfl
 | bl b=>cases (show u=Value.bool b from r);rfl
 | int i=>obtain ⟨t,e⟩:=(show ∃ t,u=Value.int i t from r);cases e;rfl
 | str x=>obtain ⟨t,e⟩:=(show ∃ t,u=Value.str x t from r);cases e;rfl
 | byt b=>obtain ⟨t,e⟩:=(show ∃ t,u=Value.bytes b t from r);cases e;rfl
 | flt b=>obtain ⟨t,e⟩:=(show ∃ t,u=Value.float b t from r);cases e;rfl
 | ref a=>cases (show u=Value.ref a from r);rfl
 | ty n=>cases (show u=Value.type n from r);rfl
section
variable {P:Program}{w:World}{H H':Hp}{h h':Heap}{a C dx:Addr}{fs fs':List (Str×V)}
theorem yqY (hok:HOk P w H h) (e:H a=some (.ins C dx fs)):∃ mA,ObjM h a dx C mA/\(∀ f,RelO (fs.lookup f) (mA f))/\PySem.Within mA (fs.map (·.1))/\fs.length<=1000/\H dx=some (.own a):=by
 obtain ⟨d,z,ne,ob,mA,n,r,q⟩:=(show ObjOk P w H h a (.ins C dx fs) from hok a _ e)
 exact ⟨mA,⟨ob,n,ne⟩,r,q,z,d⟩
end
structure Cls (K:PySem.W.Frag) (C:Addr):Prop where
 pg:plainGet K C Str.empty=true
 hd:hasDictIn K C=true
 po:plainOver K C=true
 sa:findIn K (.ref C) "__setattr__" = some (some (.builtin "object.__setattr__"))
theorem Cls.get {K:PySem.W.Frag}{C:Addr}(c:Cls K C) (f:Str):plainGet K C f=true:=c.pg
def NoAttr (K:PySem.W.Frag) (C:Addr) (f:Str):Prop:=findIn K (.ref C) f=some none
theorem NoAttr.taker {K:PySem.W.Frag}{C:Addr}{f:Str}(n:NoAttr K C f):PySem.W.takerIn K C f=some none:=by
 unfold PySem.W.takerIn
 rw [show findIn K (.ref C) f=some none from n]
 rfl
structure ylx (K:PySem.W.Frag) (C:Addr) (m:Str) (f:Addr):Prop where
 at_:findIn K (.ref C) m=some (some (.ref f))
 fn:isFn K (.ref f)=true
 kp:keepIn K (.ref f)=true
section
variable {X:Cx}{pins:List (Addr×Obj)}{σ:St}{H:Hp}{s:Shared}{a C dx:Addr}{fs:List (Str×V)}{f:Str}{v:V}{A:Around}{E:Value->Shared->Prop}
theorem yxm {b:Bool}{Q:Value->Shared->Prop}(I:Inv X pins σ H s) (e:H a=some (.ins C dx fs)) (c:Cls X.K C) (n:NoAttr X.K C f) (l:fs.lookup f=some v)
  (h:∀ u s',Inv X pins σ H s'->RelV v u->Q u s'):wpAny (model X.prog X.w) A (getAttr (.ref a) f b) Q E s:=by
 obtain ⟨mA,O,r,_,_,_⟩:=yqY I.hok e
 obtain ⟨u,hu,ru⟩:=RelO.some_of (v:=v) (o:=mA f) (by rw [<- l];exact r f)
 exact yEY I.kIn O (c.get f) c.hd n hu (yyG ru) (h u _ (I.tok _) ru)
theorem yqD {m:Str}{g:Addr}{pl:Sem Bool}{Q:Value×List Value->Shared->Prop}(I:Inv X pins σ H s) (e:H a=some (.ins C dx fs)) (c:Cls X.K C) (k:ylx X.K C m g) (l:fs.lookup m=none)
  (h:Q (.ref g,[.ref a]) s):wpAny (model X.prog X.w) A (getMethod (.ref a) m pl) Q E s:=by
 obtain ⟨mA,O,r,_,_,_⟩:=yqY I.hok e
 have hn:mA m=none:=RelO.none_of (by rw [<- l];exact r m)
 exact yBu I.kIn O (c.get m) k.at_ k.fn hn h
theorem yxn {y:V}{u:Value}{Q:Unit->Shared->Prop}(I:Inv X pins σ H s) (e:H a=some (.ins C dx fs)) (c:Cls X.K C) (n:NoAttr X.K C f) (hl:fs.length<1000) (ry:RelV y u)
  (h:∀ s',Inv X pins σ (upd H a (.ins C dx (yqC f y fs))) s'->Q () s'):wpAny (model X.prog X.w) A (setAttr (.ref a) f u) Q E s:=by
 obtain ⟨mA,O,r,wi,_,ho⟩:=yqY I.hok e
 have hz:(fs.map (·.1)).length<=sizeLine:=by rw [List.length_map,sizeLine_eq];omega
 refine yEZ I.kIn O c.sa c.po n.taker c.hd wi hz fun h' O' sb=>h _ ?_
 have hd:∃ o,h'.get? dx=some o:=let ⟨o,_,_,e',_⟩:=O'.ns;⟨o,e'⟩
 refine I.write (x:=a) (e:=dx) (by rw [e];exact True.intro) (.inr ho) (fun b q hb z=>(sb.2 b hb).trans z) hd ?_
 refine ⟨by rw [ybe O.ne];exact ho,?_,O.ne,O'.obj,_,O'.ns,fun g=>?_,fun g hg=>?_⟩
 .have:=yov f y fs;omega
 .show RelO ((yqC f y fs).lookup g) (if g=f then some u else mA g)
  rw [yot]
  by_cases q:g=f
  .rw [if_pos q,if_pos q];exact ry
  .rw [if_neg q,if_neg q];exact r g
 .by_cases q:g=f
  .rw [q];exact (you f y fs).1
  .refine (you f y fs).2 g (wi g fun z=>hg ?_)
   show (if g=f then some u else mA g)=none
   rw [if_neg q];exact z
theorem Inv.made (I:Inv X pins σ H s):Inv X pins σ (upd (upd H s.heap.objs.size (.own (s.heap.objs.size+1))) (s.heap.objs.size+1) (.ins C s.heap.objs.size []))
  { s with heap:=(s.heap.push emptyDict).push (instObj C s.heap.objs.size) }:=by
 have e1:(s.heap.push emptyDict).get? s.heap.objs.size=some emptyDict:=Heap.get?_push_size s.heap rfl
 have e2:((s.heap.push emptyDict).push (instObj C s.heap.objs.size)).get? (s.heap.objs.size+1)=some (instObj C s.heap.objs.size):=by
  have:=Heap.get?_push_size (s.heap.push emptyDict) (o:=instObj C s.heap.objs.size) rfl
  rwa [Heap.size_push] at this
 have e3:(s.heap.push emptyDict).Ns s.heap.objs.size (fun _=>none):=⟨emptyDict,#[],_,e1,rfl,(fun e he=>absurd he (by simp)),fun _=>rfl⟩
 have I1:=I.laid (a:=s.heap.objs.size) (o:=.own (s.heap.objs.size+1)) (h':=s.heap.push emptyDict) (t':=s.toks) (fun b u q=>Heap.get?_push_of_some _ q) (Nat.le_refl _) ⟨_,e1⟩
 refine I1.laid (a:=s.heap.objs.size+1) (o:=.ins C s.heap.objs.size []) (t':=s.toks) (fun b u q=>Heap.get?_push_of_some _ q) (Nat.le_of_eq (Heap.size_push _ _)) ?_
 have ne:s.heap.objs.size≠s.heap.objs.size+1:=Nat.ne_of_lt (Nat.lt_succ_self _)
 refine ⟨by rw [ybe ne,yX],Nat.zero_le _,ne,e2,fun _=>none,(Heap.Ns1.of_empty e3).at fun o q=>Heap.get?_push_of_some _ q,fun _=>True.intro,fun y hy=>absurd rfl hy⟩
theorem yFa {prog:Program}{w:World}{env:Env}{e:Expr}{f:Str}{pos:Pos}{s:Shared}{Q:Value->Shared->Prop}(hb:attributeBase e f env (eval e env)=eval e env)
  (h:wpAny (model prog w) A (eval e env) (fun o s₁=>wpAny (model prog w) A (getAttr o f true) Q E s₁) E s):wpAny (model prog w) A (eval (.Attribute e f pos) env) Q E s :=
 Attribute_any_ h (by rw [arm_eval_Attribute,hb])
end
noncomputable def yMb (K:PySem.W.Frag) (ta:TE) (f:Str):TE:=fun σ H Q=>ta σ H fun x H1=>∃ a C dx fs v,x=.ref a/\H1 a=some (.ins C dx fs)/\Cls K C/\NoAttr K C f/\fs.lookup f=some v/\Q v H1
noncomputable def yKj (K:PySem.W.Frag) (ta tv:TE) (f:Str):TS:=fun D σ H=>tv σ H fun y H1=>ta σ H1 fun x H2=>∃ a C dx fs,x=.ref a/\H2 a=some (.ins C dx fs)/\Cls K C/\NoAttr K C f/\fs.length<1000 /\
 D.nx σ (upd H2 a (.ins C dx (yqC f y fs)))
section
variable {X:Cx}{o e value:Expr}{f:Str}{pos pos' tpos:Pos}{ta tv:TE}
theorem yHJ (he:PE X e ta) (hb:attributeBase e f X.env (eval e X.env)=eval e X.env):PE X (.Attribute e f pos) (yMb X.K ta f):=by
 intro pins s σ H Q I h
 refine yFa hb (thn (he pins s σ H _ I h) fun u s1 ⟨x,H1,I1,rx,a,C,dx,fs,v,ex,ea,c,n,l,q⟩=>?_)
 subst ex
 obtain rfl:u=Value.ref a:=rx
 exact yxm I1 ea c n l fun u' s2 I2 ru=>⟨v,H1,I2,ru,q⟩
theorem yDv (ha:PE X o ta) (hv:PE X value tv) (hs:swapsWith value (some (.Attribute o f pos')) pos.line X.env=pure false):PS X (.Assign [.Attribute o f pos'] value pos) (yKj X.K ta tv f):=by
 intro pins s σ H D I h
 refine plainObj_wpAny_Assign_Attribute (thn (hv pins s σ H _ I h) fun u s1 ⟨y,H1,I1,ry,q⟩=>thn (ha pins s1 σ H1 _ I1 q) fun ov s2 ⟨x,H2,I2,rx,a,C,dx,fs,ex,ea,c,n,l,q2⟩=>?_) hs
 subst ex
 obtain rfl:ov=Value.ref a:=rx
 exact yxn I2 ea c n l ry fun s3 I3=>⟨σ,_,I3,q2⟩
end
section
variable {X:Cx}{pins:List (Addr×Obj)}{σ:St}{H:Hp}{s:Shared}{A:Around}{E:Value->Shared->Prop}{Q:Value->Shared->Prop}{c:Value}{b:Bool}
inductive yow (K:PySem.W.Frag) (H:Hp):V->Value->Prop where
 | non:yow K H .non (.type "NoneType")
 | bl (x:Bool):yow K H (.bl x) (.type "bool")
 | int (i:Int):yow K H (.int i) (.type "int")
 | str (x:Str):yow K H (.str x) (.type "str")
 | flt (x:UInt64):yow K H (.flt x) (.type "float")
 | lst {a:Addr}{xs:List V}(e:H a=some (.lst xs)):yow K H (.ref a) (.type "list")
 | frz {a:Addr}{o:Obj}{xs:List V}(e:H a=some (.frz o (.lst xs))):yow K H (.ref a) (.type "list")
 | tup {a:Addr}{xs:List V}(e:H a=some (.tup xs)):yow K H (.ref a) (.type "tuple")
 | kt {a:Addr}{o:Obj}(e:K.lookup a=some o) (c:o.cls=.type "tuple"):yow K H (.ref a) (.type "tuple")
 | dK {a:Addr}{kvs:List (Key×V)}(e:H a=some (.dK kvs)):yow K H (.ref a) (.type "dict")
 | dT {a:Addr}{kvs:List (List Key×V)}(e:H a=some (.dT kvs)):yow K H (.ref a) (.type "dict")
 | ins {a C dx:Addr}{fs:List (Str×V)}(e:H a=some (.ins C dx fs)) (cl:Cls K C) (ha:findIn K (.ref C) "__class__" = some (some (.builtin "object.__class__")))
   (hn:PySem.W.specialIn K (.builtin "object.__class__") "__get__" = some (some (.builtin "getset_descriptor.__get__"))) (htk:PySem.W.takesIn K (.builtin "object.__class__")=some true)
   (hm:mroIn K C (.type "object")=some true):yow K H (.ref a) (.ref C)
theorem yyH {x:V}{u t:Value}(I:Inv X pins σ H s) (rx:RelV x u) (ty:yow X.K H x t) (e:PySem.W.kitOne X.K t c=some b) (h:∀ tk,Q (.bool b) { s with toks:=tk }) :
  wpAny (model X.prog X.w) A (call (.builtin "isinstance") [u,c]) Q E s:=by
 cases ty with
 | non=>cases (show u=Value.none from rx);exact kia_one PySem.W.kitx_none I.kIn True.intro e (fun z=>nomatch z) h
 | bl y=>cases (show u=Value.bool y from rx);exact kia_one PySem.W.kitx_bool I.kIn True.intro e (fun z=>nomatch z) h
 | int i=>obtain ⟨t,q⟩:=(show ∃ t,u=Value.int i t from rx);cases q;exact kia_one PySem.W.kitx_int I.kIn True.intro e (fun z=>nomatch z) h
 | str y=>obtain ⟨t,q⟩:=(show ∃ t,u=Value.str y t from rx);cases q;exact kia_one PySem.W.kitx_str I.kIn True.intro e (fun z=>nomatch z) h
 | flt y=>obtain ⟨t,q⟩:=(show ∃ t,u=Value.float y t from rx);cases q;exact kia_one PySem.W.kitx_float I.kIn True.intro e (fun z=>nomatch z) h
 | @lst a xs ea =>
  cases (show u=Value.ref a from rx)
  obtain ⟨_,_,n,_,h1⟩:=(show ObjOk X.prog X.w H s.heap a (.lst xs) from I.hok a _ ea)
  exact kia_one PySem.W.kitx_list I.kIn ⟨_,h1,rfl⟩ e (fun z=>nomatch z) h
 | @frz a ob xs ea =>
  cases (show u=Value.ref a from rx)
  obtain ⟨_,_,_,n,_,h1⟩:=(show ObjOk X.prog X.w H s.heap a (.frz ob (.lst xs)) from I.hok a _ ea)
  exact kia_one PySem.W.kitx_list I.kIn ⟨_,h1,rfl⟩ e (fun z=>nomatch z) h
 | @tup a xs ea =>
  cases (show u=Value.ref a from rx)
  obtain ⟨_,_,_,p⟩:=(show ObjOk X.prog X.w H s.heap a (.tup xs) from I.hok a _ ea)
  obtain ⟨o,h1,h2,_⟩:=p
  exact kia_one PySem.W.kitx_tuple I.kIn ⟨o,h1,h2⟩ e (fun z=>nomatch z) h
 | @kt a ob ek ck =>
  cases (show u=Value.ref a from rx)
  exact kia_one PySem.W.kitx_tuple I.kIn ⟨ob,I.kIn a ob ek,ck⟩ e (fun z=>nomatch z) h
 | @dK a kvs ea =>
  cases (show u=Value.ref a from rx)
  obtain ⟨_,_,vs,_,p⟩:=(show ObjOk X.prog X.w H s.heap a (.dK kvs) from I.hok a _ ea)
  obtain ⟨o,es,ep,h1,h2,_⟩:=p
  exact kia_one PySem.W.kitx_dict I.kIn ⟨o,h1,h2.1⟩ e (fun z=>nomatch z) h
 | @dT a kvs ea =>
  cases (show u=Value.ref a from rx)
  obtain ⟨_,_,xs,_,o,es,ep,h1,h2,_⟩:=(show ObjOk X.prog X.w H s.heap a (.dT kvs) from I.hok a _ ea)
  exact kia_one PySem.W.kitx_dict I.kIn ⟨o,h1,h2.1⟩ e (fun z=>nomatch z) h
 | @ins a C dx fs ea cl ha hn htk hm =>
  cases (show u=Value.ref a from rx)
  obtain ⟨mA,O,_⟩:=yqY I.hok ea
  obtain ⟨od,J,_⟩:=O.look
  exact kia_one (PySem.W.kitx_own (cl.get _) cl.hd ha hn htk hm) I.kIn J e (fun z=>nomatch z) h
end
end L2
namespace L2
open PySem PySem.Spec PyProof.Rows
structure Room (k:Nat) (A:Around):Prop where
 hd:A.handled=none
 dp:A.depth+3*k+5<recursionLimit
 un:A.units+16*k+200<cLine
theorem Room.mono {j k:Nat}{A:Around}(r:Room k A) (h:j<=k):Room j A:=⟨r.hd,by have:=r.dp;omega,by have:=r.un;omega⟩
theorem Room.deeper {k:Nat}{A:Around}(r:Room (k+1) A) (env:Env):Room k (A.deeper env) :=
 ⟨r.hd,by have:=r.dp;show A.depth+1+3*k+5<_;omega,by have:=r.un;show A.units+3+16*k+200<_;omega⟩
theorem yxo {A:Around}{C:Addr}{us:List Value}{kw:List (Str×Value)}:(A.under (.builtin "type.__call__" ⟨.ref C::us,kw⟩)).depth=A.depth+1:=by
 first|rfl|simp [Around.under,Code.weight,Code.isCreation,Code.isGuard,Code.isCaller,Code.frames,Code.isFrame,guardIds]
theorem yxp {A:Around}{C:Addr}{us:List Value}{kw:List (Str×Value)}:(A.under (.builtin "type.__call__" ⟨.ref C::us,kw⟩)).units=A.units+1:=by
 first|rfl|simp [Around.under,Code.cUnits,Code.frames,Code.isFrame]
theorem Room.make {k:Nat}{A:Around}(r:Room (k+1) A) (C:Addr) (us:List Value) (kw:List (Str×Value)):Room k (A.under (.builtin "type.__call__" ⟨.ref C::us,kw⟩)) :=
 ⟨r.hd,by have:=r.dp;rw [yxo];omega,by have:=r.un;rw [yxp];omega⟩
theorem Room.depth {k:Nat}{A:Around}(r:Room k A):A.depth<recursionLimit:=by have:=r.dp;omega
theorem Room.units {k:Nat}{A:Around}(r:Room k A):A.units+64<cLine:=by have:=r.un;omega
def yFb:TA:=fun _ H Q=>Q [] H
def yyI (ta:TE) (tr:TA):TA:=fun σ H Q=>ta σ H fun x H1=>tr σ H1 fun xs H2=>Q (x::xs) H2
section
variable {X:Cx}{e:Expr}{es:List Expr}{te:TE}{t:TA}{pos:Pos}
theorem ysF:PA X [] yFb:=fun _ _ _ _ H Q I h=>Calls.spliced_nil ⟨[],H,I,.nil,h⟩
theorem ymu (ha:PE X e te) (hr:PA X es t) (hs:starEach (e::es) X.env=(false,eval e X.env)::starEach es X.env:=by rfl):PA X (e::es) (yyI te t):=by
 intro pos pins s σ H Q I h
 rw [hs]
 show wpAny _ _ (spliced ((false,eval e X.env)::backTo pos (starEach es X.env))) _ _ s
 refine Calls.spliced_cons (thn (ha pins s σ H _ I h) fun u s1 ⟨x,H1,I1,r1,q1⟩=>?_)
 exact thn (hr pos pins s1 σ H1 _ I1 q1) fun us s2 ⟨xs,H2,I2,r2,q2⟩=>⟨x::xs,H2,I2,.cons r1 r2,q2⟩
def yMc (t:TA):TE:=fun σ H Q=>t σ H fun xs H1=>xs.length<=sizeLine/\∀ p,H1 p=none->Q (.ref p) (upd H1 p (.tup xs))
def yMd (t:TA):TE:=fun σ H Q=>t σ H fun xs H1=>xs.length<=sizeLine/\∀ p,H1 p=none->Q (.ref p) (upd H1 p (.lst xs))
theorem yHK {x1} (h:PA X es t):PE X (.Tuple es x1 pos) (yMc t):=by
 intro pins s σ H Q I hq
 refine wpAny_Tuple_spliced (thn (h pos pins s σ H _ I hq) fun us s1 ⟨xs,H1,I1,r,z,q⟩=>⟨by rw [<- r.length];exact z,?_⟩)
 have hf:H1 s1.heap.objs.size=none:=I1.hok.fresh (Nat.le_refl _)
 refine ⟨.ref s1.heap.objs.size,upd H1 s1.heap.objs.size (.tup xs),I1.laid (t':=s1.toks) (fun b u e=>Heap.get?_push_of_some _ e) (Nat.le_refl _) ?_,rfl,q _ hf⟩
 exact ⟨z,us,r,⟨_,Heap.get?_push_size _ rfl,rfl,_,rfl⟩⟩
theorem yHL (h:PA X es t):PE X (.List es pos) (yMd t):=by
 intro pins s σ H Q I hq
 refine wpAny_List_spliced (thn (h pos pins s σ H _ I hq) fun us s1 ⟨xs,H1,I1,r,z,q⟩=>⟨by rw [<- r.length];exact z,?_⟩)
 have hf:H1 s1.heap.objs.size=none:=I1.hok.fresh (Nat.le_refl _)
 refine ⟨.ref s1.heap.objs.size,upd H1 s1.heap.objs.size (.lst xs),I1.laid (t':=s1.toks) (fun b u e=>Heap.get?_push_of_some _ e) (Nat.le_refl _) ?_,rfl,q _ hf⟩
 exact ⟨z,us,0,r,Heap.get?_push_size _ rfl⟩
end
abbrev Sp:=List V->Hp->VK->XK->Prop
abbrev CXT:=List Env->Hp->Shared->XK->Value->Shared->Prop
structure Env0 (P:Program) (w:World) (K:PySem.W.Frag) (mg:Str->Option Value) (base:Heap) (A:Around) (outer:List Env) (s:Shared) (H:Hp):Prop where
 frames:A.frames=some outer
 mod:Mod K mg base
 bs:∀ b o,base.get? b=some o->s.heap.get? b=some o/\H b=none
 bsz:base.objs.size<=s.heap.objs.size
 funs:s.heap.FunFrames base outer
 frf:∀ b∈frs outer,H b=none
 hok:HOk P w H s.heap
 bare:AllBare s.gens
noncomputable def CE (outer:List Env) (P:Program) (w:World) (H:Hp) (s:Shared) (Q:VK) (u:Value) (s':Shared):Prop :=
 ∃ v H',s'.os=s.os/\AllBare s'.gens/\Un (frs outer) [] H H' s.heap s'.heap/\HOk P w H' s'.heap/\RelV v u/\Q v H'
noncomputable def CR (CX:CXT) (outer:List Env) (P:Program) (w:World) (H:Hp) (s:Shared) (Q:VK) (E:XK) (r:Result) (s':Shared):Prop :=
 match r with
 | .ok (.ret u)=>CE outer P w H s Q u s'
 | .ok _=>False
 | .error e=>CX outer H s E e s'
structure FnOk (P:Program) (w:World) (K:PySem.W.Frag) (mg:Str->Option Value) (base:Heap) (CX:CXT) (k:Nat) (f:Addr) (fd:FuncData) (ps:List Str) (sp:Sp):Prop where
 len:∀ vs H Q E,sp vs H Q E->vs.length=ps.length
 run:∀ (A:Around) (outer:List Env) (s:Shared) (H:Hp) (args:Args) (us:List Value) (vs:List V) (Q:VK) (E:XK),Room k A->Env0 P w K mg base A outer s H->BindsTo s fd args (ps.zip us)->Vals vs us->sp vs H Q E ->
  codeAny (model P w) A (.call (.ref f) args) (CR CX outer P w H s Q E) s
theorem FnOk.imp {P:Program}{w:World}{K:PySem.W.Frag}{mg:Str->Option Value}{base:Heap}{CX:CXT}{k:Nat}{f:Addr}{fd:FuncData}{ps:List Str}{sp sp':Sp}(F:FnOk P w K mg base CX k f fd ps sp)
  (h:∀ vs H Q E,sp' vs H Q E->sp vs H Q E):FnOk P w K mg base CX k f fd ps sp' :=
 ⟨fun vs H Q E q=>F.len vs H Q E (h _ _ _ _ q),fun A outer s H args us vs Q E hr he hb hv hs=>F.run A outer s H args us vs Q E hr he hb hv (h _ _ _ _ hs)⟩
theorem Env0.make {P:Program}{w:World}{K:PySem.W.Frag}{mg:Str->Option Value}{base:Heap}{A:Around}{outer:List Env}{s:Shared}{H:Hp}(e:Env0 P w K mg base A outer s H) (C:Addr) (us:List Value) (kw:List (Str×Value)) :
  Env0 P w K mg base (A.under (.builtin "type.__call__" ⟨.ref C::us,kw⟩)) outer s H:=⟨by first|exact e.frames|(simpa [Around.under,Code.envs,Code.isFrame,pushEnvs] using e.frames),e.mod,e.bs,e.bsz,e.funs,e.frf,e.hok,e.bare⟩
section
variable {X:Cx}{pins:List (Addr×Obj)}{σ:St}{H:Hp}{s s':Shared}
theorem Inv.env0 (I:Inv X pins σ H s):Env0 X.prog X.w X.K X.mg X.base X.A X.stack s H :=
 ⟨I.ok.frames,I.ok.mod,I.bs,Nat.le_trans I.ok.bsz I.sz,I.stack,I.stkFree,I.hok,I.bare⟩
theorem Inv.after {Q:VK}{u:Value}(I:Inv X pins σ H s) (h:CE X.stack X.prog X.w H s Q u s'):EP X pins σ Q u s':=by
 obtain ⟨v,H',os,bare,un,hok,r,q⟩:=h
 obtain ⟨hh,g,d,t,os'⟩:=s'
 obtain rfl:os'=s.os:=os
 exact ⟨v,H',I.call (h':=hh) (g':=g) (d':=d) (t':=t) (ch:=[]) un hok bare (fun b z=>absurd z (by simp)),r,q⟩
end
def yBw (sp:Sp) (dvs:List V) (E:XK) (t:TA):TE:=fun σ H Q=>t σ H fun vs H1=>sp (vs++dvs) H1 Q E
noncomputable def yFc (C:Addr) (m:Str) (sp:Sp) (dvs:List V) (E:XK) (ta:TE) (t:TA):TE:=fun σ H Q=>ta σ H fun x H1=>∃ a dx fs,x=.ref a/\H1 a=some (.ins C dx fs)/\fs.lookup m=none /\
 t σ H1 fun vs H2=>sp (x::(vs++dvs)) H2 Q E
noncomputable def yFd (C:Addr) (sp:Sp) (dvs:List V) (E:XK) (t:TA):TE:=fun σ H Q=>t σ H fun vs H1=>∀ x dx,H1 x=none->H1 dx=none->dx≠x ->
 sp (.ref x::(vs++dvs)) (upd (upd H1 dx (.own x)) x (.ins C dx [])) (fun v H2=>v=.non/\Q (.ref x) H2) E
noncomputable def Binds (K:PySem.W.Frag) (fd:FuncData) (ps:List Str) (ds:List Value):Prop :=
 ∀ (s:Shared) (us:List Value),K.In s.heap->(us++ds).length=ps.length->BindsTo s fd ⟨us,[]⟩ (ps.zip (us++ds))
theorem Binds.all {K:PySem.W.Frag}{fd:FuncData}{ps:List Str}(h:∀ us:List Value,us.length=ps.length->bindArgs fd ⟨us,[]⟩=pure (ps.zip us)):Binds K fd ps []:=fun s us _ hl=>by
 rw [List.append_nil] at hl ⊢
 exact .of_eq (h us hl)
noncomputable def yly (CX:CXT) (X:Cx) (E:XK):Prop:=∀ (pins:List (Addr×Obj)) (σ:St) (H:Hp) (s:Shared) (e:Value) (s':Shared),Inv X pins σ H s->CX X.stack H s E e s'->X.xe e s'
section
variable {X:Cx}{CX:CXT}{k:Nat}{f C:Addr}{fd:FuncData}{ps:List Str}{sp:Sp}{dvs:List V}{ds:List Value}{E:XK}{x m:Str}{p pos apos:Pos}{e o:Expr}{es:List Expr}{ta:TE}{t:TA}
theorem ywq {pins:List (Addr×Obj)}{σ:St}{H:Hp}{s:Shared}{Q:VK}{us:List Value}{vs:List V}(F:FnOk X.prog X.w X.K X.mg X.base CX k f fd ps sp) (hr:Room k X.A) (hb:Binds X.K fd ps ds) (hd:Vals dvs ds) (hx:yly CX X E)
  (I:Inv X pins σ H s) (r:Vals vs us) (h:sp (vs++dvs) H Q E):wpAny (model X.prog X.w) X.A (call (.ref f) us) (EP X pins σ Q) X.xe s:=by
 have r2:Vals (vs++dvs) (us++ds):=r.append hd
 have hl:(us++ds).length=ps.length:=by rw [<- r2.length];exact F.len _ _ _ _ h
 refine wpAny_call (codeAny_mono (F.run X.A X.stack s H ⟨us,[]⟩ (us++ds) (vs++dvs) Q E hr I.env0 (hb s us I.kIn hl) r2 h) fun r s' hq=>?_)
 cases r with
 | error e=>exact hx pins σ H s e s' I hq
 | ok fl =>
  cases fl with
  | ret u=>exact I.after hq
  | next=>exact False.elim hq
  | brk=>exact False.elim hq
  | cont=>exact False.elim hq
theorem yFe (F:FnOk X.prog X.w X.K X.mg X.base CX k f fd ps sp) (hr:Room k X.A) (hg:Gl X x) (hm:X.mg x=some (.ref f)) (hk:keepIn X.K (.ref f)=true) (hb:Binds X.K fd ps ds) (hd:Vals dvs ds) (hx:yly CX X E)
  (ha:PA X (e::es) t) (hdb:(x == ("__debug__":Str))=false:=by decide) (he:starEach (e::es) X.env=(false,eval e X.env)::starEach es X.env:=by rfl) (hpl:(backTo pos (starEach es X.env)).any (·.1)=false:=by rfl) :
  PE X (.Call (.Name x p) (e::es) [] pos) (yBw sp dvs E t):=by
 intro pins s σ H Q I h
 refine wpAny_Call_Name_kw (yoq I hg hm ?_ hdb)
 refine PySem.W.callWith_K (h₀:=X.base) I.ok.mod.kin hk (thn (ha pos pins s σ H _ I h) fun us s1 ⟨vs,H1,I1,r,q⟩=>⟨I1.kIn,?_⟩) he hpl
 exact ywq F hr hb hd hx I1 r q
theorem yFf {pl:Sem Bool}(he:PE X o ta) (c:Cls X.K C) (hm:ylx X.K C m f) (F:FnOk X.prog X.w X.K X.mg X.base CX k f fd ps sp) (hr:Room k X.A) (hb:Binds X.K fd ps ds) (hd:Vals dvs ds) (hx:yly CX X E) (ha:PA X (e::es) t)
  (hst:starEach (e::es) X.env=(false,eval e X.env)::starEach es X.env:=by rfl) (hpl:(backTo pos (starEach es X.env)).any (·.1)=false:=by rfl)
  (ht:eval (.Call (.Attribute o m apos) (e::es) [] pos) X.env=(do
   let ov <- eval o X.env
   standAt apos.atName
   let (f,first) <- holding [ov] (getMethod ov m pl)
   callWith pos f first (backTo pos (starEach (e::es) X.env)) (backToKw pos (keywordEach [] X.env))):=by rfl) :
  PE X (.Call (.Attribute o m apos) (e::es) [] pos) (yFc C m sp dvs E ta t):=by
 intro pins s σ H Q I h
 refine PySem.W.methodCall_KW (pl:=pl) (thn (he pins s σ H _ I h) fun u s1 ⟨x,H1,I1,rx,a,dx,fs,ex,ea,l,q⟩=>?_) ht
 subst ex
 obtain rfl:u=Value.ref a:=rx
 refine yqD I1 ea c hm l ?_
 refine PySem.W.callWith_K (first:=[.ref a]) (h₀:=X.base) I.ok.mod.kin hm.kp (thn (ha pos pins s1 σ H1 _ I1 q) fun us s2 ⟨vs,H2,I2,r,q2⟩=>⟨I2.kIn,?_⟩) hst hpl
 exact ywq (us:=.ref a::us) (vs:=.ref a::vs) F hr hb hd hx I2 (.cons rfl r) q2
theorem yBx {pl:Sem Bool}(he:PE X o ta) (c:Cls X.K C) (hm:ylx X.K C m f) (F:FnOk X.prog X.w X.K X.mg X.base CX k f fd ps sp) (hr:Room k X.A) (hb:Binds X.K fd ps ds) (hd:Vals dvs ds) (hx:yly CX X E)
  (ht:eval (.Call (.Attribute o m apos) [] [] pos) X.env=(do
   let ov <- eval o X.env
   standAt apos.atName
   let (f,first) <- holding [ov] (getMethod ov m pl)
   callWith pos f first (backTo pos (starEach [] X.env)) (backToKw pos (keywordEach [] X.env))):=by rfl) :
  PE X (.Call (.Attribute o m apos) [] [] pos) (yFc C m sp dvs E ta yFb):=by
 intro pins s σ H Q I h
 refine PySem.W.methodCall_KW (pl:=pl) (thn (he pins s σ H _ I h) fun u s1 ⟨x,H1,I1,rx,a,dx,fs,ex,ea,l,q⟩=>?_) ht
 subst ex
 obtain rfl:u=Value.ref a:=rx
 refine yqD I1 ea c hm l ?_
 exact PySem.W.callWith_K0 (first:=[.ref a]) I1.kIn hm.kp (ywq (us:=[.ref a]) (vs:=[.ref a]) F hr hb hd hx I1 (.cons rfl .nil) q)
structure Mk (K:PySem.W.Frag) (C f:Addr):Prop where
 makes:makesIn K C=true
 init:findIn K (.ref C) "__init__" = some (some (.ref f))
 fn:isFn K (.ref f)=true
 kp:keepIn K (.ref C)=true
theorem ywr {pins:List (Addr×Obj)}{σ:St}{H:Hp}{s:Shared}{Q:VK}{us:List Value}{vs:List V}(M:Mk X.K C f) (F:FnOk X.prog X.w X.K X.mg X.base CX k f fd ps sp) (hr:Room (k+1) X.A) (hb:Binds X.K fd ps ds) (hd:Vals dvs ds)
  (hx:yly CX X E) (I:Inv X pins σ H s) (r:Vals vs us)
  (h:∀ x dx,H x=none->H dx=none->dx≠x->sp (.ref x::(vs++dvs)) (upd (upd H dx (.own x)) x (.ins C dx [])) (fun v H2=>v=.non/\Q (.ref x) H2) E) :
  wpAny (model X.prog X.w) X.A (call (.ref C) us) (EP X pins σ Q) X.xe s:=by
 have hq:=h (s.heap.objs.size+1) s.heap.objs.size (I.hok.fresh (Nat.le_succ _)) (I.hok.fresh (Nat.le_refl _)) (Nat.ne_of_lt (Nat.lt_succ_self _))
 have I2:=Inv.made (C:=C) I
 have r2:Vals (V.ref (s.heap.objs.size+1)::(vs++dvs)) (Value.ref (s.heap.objs.size+1)::(us++ds)):=.cons rfl (r.append hd)
 have hl:(Value.ref (s.heap.objs.size+1)::us++ds).length=ps.length:=by
  have e:=r2.length
  rw [F.len _ _ _ _ hq] at e
  exact e.symm
 refine wpAny_call (yBv (f:=f) I.kIn M.makes M.init (beq_iff_eq.mp M.fn) (codeAny_mono (F.run _ X.stack _ _ ⟨Value.ref (s.heap.objs.size+1)::us,[]⟩ (Value.ref (s.heap.objs.size+1)::(us++ds)) _ _ E (hr.make C us [])
  (I2.env0.make C us []) (hb _ (Value.ref (s.heap.objs.size+1)::us) I2.kIn hl) r2 hq) fun r s' hq'=>?_))
 cases r with
 | error e=>exact hx pins σ _ _ e s' I2 hq'
 | ok fl =>
  cases fl with
  | ret u =>
   obtain ⟨v,H',I3,rv,ev,q3⟩:=I2.after hq'
   subst ev
   exact ⟨rv,⟨V.ref (s.heap.objs.size+1),H',I3,rfl,q3⟩⟩
  | next=>exact False.elim hq'
  | brk=>exact False.elim hq'
  | cont=>exact False.elim hq'
theorem yFg (M:Mk X.K C f) (F:FnOk X.prog X.w X.K X.mg X.base CX k f fd ps sp) (hr:Room (k+1) X.A) (hg:Gl X x) (hm:X.mg x=some (.ref C)) (hb:Binds X.K fd ps ds) (hd:Vals dvs ds) (hx:yly CX X E)
  (ha:PA X (e::es) t) (hdb:(x == ("__debug__":Str))=false:=by decide) (he:starEach (e::es) X.env=(false,eval e X.env)::starEach es X.env:=by rfl) (hpl:(backTo pos (starEach es X.env)).any (·.1)=false:=by rfl) :
  PE X (.Call (.Name x p) (e::es) [] pos) (yFd C sp dvs E t):=by
 intro pins s σ H Q I h
 refine wpAny_Call_Name_kw (yoq I hg hm ?_ hdb)
 refine PySem.W.callWith_K (h₀:=X.base) I.ok.mod.kin M.kp (thn (ha pos pins s σ H _ I h) fun us s1 ⟨vs,H1,I1,r,q⟩=>⟨I1.kIn,?_⟩) he hpl
 exact ywr M F hr hb hd hx I1 r q
theorem yBy (M:Mk X.K C f) (F:FnOk X.prog X.w X.K X.mg X.base CX k f fd ps sp) (hr:Room (k+1) X.A) (hg:Gl X x) (hm:X.mg x=some (.ref C)) (hb:Binds X.K fd ps ds) (hd:Vals dvs ds) (hx:yly CX X E)
  (hdb:(x == ("__debug__":Str))=false:=by decide):PE X (.Call (.Name x p) [] [] pos) (yFd C sp dvs E yFb):=by
 intro pins s σ H Q I h
 refine wpAny_Call_Name_kw (yoq I hg hm ?_ hdb)
 exact PySem.W.callWith_K0 I.kIn M.kp (ywr (us:=[]) M F hr hb hd hx I .nil h)
end
section
variable {X:Cx}{CX:CXT}{k:Nat}{f C:Addr}{fd:FuncData}{ps ks:List Str}{sp:Sp}{E:XK}{x m:Str}{p pos apos kpos:Pos}{e o:Expr}{es:List Expr}{kws:List Keyword}{te ta:TE}{t tk:TA}{nm:Option Str}
variable {g:List Value->List Value->List Value}{gV:List V->List V->List V}
end
structure yt (N P:List Str) (sc:Scope):Prop where
 kind:sc.kind=.function
 co:sc.isCoroutine=false
 gen:sc.isGenerator=false
 nd:N.Nodup
 pre:N.take P.length=P
 par:∀ x∈P,sc.names.lookup x=some .local \/ sc.names.lookup x=some .cell
 nofree:∀ y∈sc.names,y.2≠.free
theorem ysG {kindOf:Str->Option NameKind}{x:Str}:∀ {binds:List (Str×Value)}{m:Str->Option Value},(∀ v,(x,v)∉binds)->bindL kindOf binds m x=m x
 | [],_,_=>rfl
 | (n,v)::r,m,h=>by
  unfold bindL
  rw [ysG fun w hw=>h w (List.mem_cons_of_mem _ hw)]
  split
  .have:x≠n:=by rintro rfl;exact h v List.mem_cons_self
   simp [this]
  .rfl
theorem ysH {kindOf:Str->Option NameKind}{x:Str}:∀ {binds:List (Str×Value)}{m:Str->Option Value},(∀ v,(x,v)∉binds)->bindC kindOf binds m x=m x
 | [],_,_=>rfl
 | (n,v)::r,m,h=>by
  unfold bindC
  rw [ysH fun w hw=>h w (List.mem_cons_of_mem _ hw)]
  split
  .rfl
  .have:x≠n:=by rintro rfl;exact h v List.mem_cons_self
   simp [this]
theorem ysI {kindOf:Str->Option NameKind}{x:Str}{v:Value}:∀ {P:List Str}{vs:List Value}{i:Nat}{m:Str->Option Value},P.Nodup->P[i]?=some x->vs[i]?=some v->kindOf x=some .local ->
  bindL kindOf (P.zip vs) m x=some v
 | [],_,_,_,_,h,_,_=>by simp at h
 | _::_,[],_,_,_,_,h,_=>by simp at h
 | p::P,w::vs,0,m,nd,h1,h2,hk=>by
  simp at h1 h2;subst h1;subst h2
  show bindL kindOf ((p,w)::P.zip vs) m p=_
  unfold bindL
  rw [ysG fun v hv=>(List.nodup_cons.mp nd).1 (List.of_mem_zip hv).1,if_pos hk]
  simp
 | p::P,w::vs,i+1,m,nd,h1,h2,hk=>by
  show bindL kindOf ((p,w)::P.zip vs) m x=_
  unfold bindL
  exact ysI (i:=i) (List.nodup_cons.mp nd).2 (by simpa using h1) (by simpa using h2) hk
theorem ysJ {kindOf:Str->Option NameKind}{x:Str}{v:Value}:∀ {P:List Str}{vs:List Value}{i:Nat}{m:Str->Option Value},P.Nodup->P[i]?=some x->vs[i]?=some v->kindOf x≠some .local ->
  bindC kindOf (P.zip vs) m x=some v
 | [],_,_,_,_,h,_,_=>by simp at h
 | _::_,[],_,_,_,_,h,_=>by simp at h
 | p::P,w::vs,0,m,nd,h1,h2,hk=>by
  simp at h1 h2;subst h1;subst h2
  show bindC kindOf ((p,w)::P.zip vs) m p=_
  unfold bindC
  rw [ysH fun v hv=>(List.nodup_cons.mp nd).1 (List.of_mem_zip hv).1,if_neg hk]
  simp
 | p::P,w::vs,i+1,m,nd,h1,h2,hk=>by
  show bindC kindOf ((p,w)::P.zip vs) m x=_
  unfold bindC
  exact ysJ (i:=i) (List.nodup_cons.mp nd).2 (by simpa using h1) (by simpa using h2) hk
def start (N:List Str) (vs:List V):St:=vs.map some++List.replicate (N.length-vs.length) none
noncomputable def yBz (CX:CXT) (P:Program) (w:World) (K:PySem.W.Frag) (mg:Str->Option Value) (base:Heap) (N:List Str) (qual:Str) (scope:Scope) (f:Addr) (cd:Value) (A:Around) (outer:List Env) (s:Shared) (H:Hp) (E:XK):Cx where
 prog:=P
 w:=w
 K:=K
 mg:=mg
 base:=base
 A:=A.deeper (envOfC qual scope s.heap.objs.size f cd)
 N:=N
 s₀:=s
 H₀:=H
 env:=envOfC qual scope s.heap.objs.size f cd
 outer:=outer
 stack:=envOfC qual scope s.heap.objs.size f cd::outer
 ex:=[]
 calm:=true
 fn:=fun _=>true
 pn:=[]
 xe:=fun e s'=>wpAny (model P w) (A.deeper (envOfC qual scope s.heap.objs.size f cd)) (leaving (envOfC qual scope s.heap.objs.size f cd) e) (fun _ s''=>CX outer H s E e s'') (fun e' s''=>CX outer H s E e' s'') s'
theorem yws {sc:Scope}{n:Nat}{x:Str}(h:sc.names.lookup x=some .cell):∃ c,(cellsFrom n sc.names []).lookup x=some c:=by
 have q:=PySem.W.cellsFrom_some sc.names n [] (.inl h)
 exact Option.isSome_iff_exists.mp q
theorem yyJ {CX:CXT}{P:Program}{w:World}{K:PySem.W.Frag}{mg:Str->Option Value}{base:Heap}{N ps:List Str}{qual:Str}{scope:Scope}{f:Addr}{cd:Value}{A:Around}{outer:List Env}{s s1:Shared}{H:Hp}{E:XK}{us:List Value}{vs:List V}
  (S:yt N ps scope) (hd:A.handled=none) (e0:Env0 P w K mg base A outer s H) (hl:vs.length=ps.length) (r:Vals vs us)
  (x:InCallC s s.heap.objs.size (bindL (envOfC qual scope s.heap.objs.size f cd).kindOf (ps.zip us) fun _=>none) (cellsFrom (s.heap.objs.size+1) scope.names []) (bindC (envOfC qual scope s.heap.objs.size f cd).kindOf (ps.zip us) fun _=>none) s1) :
  Inv (yBz CX P w K mg base N qual scope f cd A outer s H E) [] (start N vs) H s1:=by
 have hpl:ps.length<=N.length:=by have:=congrArg List.length S.pre;rw [List.length_take] at this;omega
 obtain ⟨h1,tk,rfl,hk⟩:=x.done
 have noA:∀ b:Addr,b∉(yBz CX P w K mg base N qual scope f cd A outer s H E).ex:=fun b z=>absurd (show b∈([]:List Addr) from z) (by simp)
 refine ⟨⟨e0.mod,S.kind,rfl,rfl,Nat.le_refl _,fun y z c h1 h2=>?_,fun y hy=>?_,fun y c _ h=>?_,fun _=>hd,Around.frames_deeper e0.frames,.inr ⟨rfl,rfl⟩,fun b z=>absurd z (noA b),e0.bs,e0.bsz,fun b _ _=>noA b,fun b z=>absurd z (noA b),e0.funs,e0.frf⟩,
  rfl,e0.bare,Un.kept hk,⟨_,x.toInCall.ns,fun i y v h1 h2 h3=>?_⟩,fun y c h=>⟨_,x.cell y c h⟩,e0.hok.fresh (Nat.le_refl _),fun y c h=>?_,fun p hp=>absurd (show p∈([]:List (Addr×Obj)) from hp) (by simp),e0.hok.kept hk,?_⟩
 .exact name_of_addr x.apart (PySem.mem_of_lookup h1) (PySem.mem_of_lookup h2)
 .have hy:scope.names.lookup y=some .cell\/scope.names.lookup y=some .free:=hy
  rcases hy with hy|hy
  .exact yws hy
  .exact absurd rfl (S.nofree _ (PySem.mem_of_lookup hy))
 .exact Nat.le_of_lt (x.above y c (PySem.mem_of_lookup h))
 .have hi:i<vs.length:=by
   unfold start at h2
   by_cases hi:i<vs.length
   .exact hi
   .rw [List.getElem?_append_right (by simpa using hi)] at h2
    rw [List.getElem?_replicate] at h2
    split at h2<;>cases h2
  have ha:vs[i]?=some v:=by
   unfold start at h2
   rw [List.getElem?_append_left (by simpa using hi),List.getElem?_map] at h2
   cases e:vs[i]? with
   | none=>rw [e] at h2;cases h2
   | some a=>rw [e] at h2;cases h2;rfl
  obtain ⟨u,hu,rv⟩:=r.get ha
  have hp:ps[i]?=some y:=by
   rw [<- S.pre,List.getElem?_take_of_lt (by omega)];exact h1
  have ndP:ps.Nodup:=by rw [<- S.pre];exact S.nd.sublist (List.take_sublist _ _)
  refine ⟨u,rv,?_⟩
  rcases S.par y (List.mem_of_getElem? hp) with k|k
  .exact .inl ⟨k,ysI ndP hp hu k⟩
  .obtain ⟨c,e⟩:=yws (n:=s.heap.objs.size+1) k
   refine .inr ⟨.inl k,c,e,?_⟩
   have q:=x.cell y c e
   rw [ysJ ndP hp hu (by show scope.names.lookup y≠_;rw [k];decide)] at q
   exact q
 .exact e0.hok.fresh (Nat.le_of_lt (x.above y c (PySem.mem_of_lookup h)))
 .unfold start
  show _=N.length
  rw [List.length_append,List.length_map,List.length_replicate]
  omega
theorem yKk {CX:CXT}{P:Program}{w:World}{K:PySem.W.Frag}{mg:Str->Option Value}{base:Heap}{k:Nat}{f:Addr}{name qual:Str}{params:Arguments}{body:List Stmt}{scope:Scope}{dV kV doc pm cdv ct oc:Value}{an od:Option Addr}
  {osl:Array (Option Value)}{N ps:List Str}{sp:Sp}(lk:K.lookup f=some ⟨oc,od,.func (fnOf name qual params body scope dV kV doc pm an cdv ct),osl⟩) (hcd:codeIn K cdv qual=true) (S:yt N ps scope)
  (len:∀ vs H Q E,sp vs H Q E->vs.length=ps.length)
  (hbody:∀ (A:Around) (outer:List Env) (s:Shared) (H:Hp) (vs:List V) (Q:VK) (E:XK),Room k (A.deeper (envOfC qual scope s.heap.objs.size f cdv))->sp vs H Q E ->
   ∃ t,PSs (yBz CX P w K mg base N qual scope f cdv A outer s H E) body t/\t { nx:=fun _ H'=>Q .non H',rt:=Q } (start N vs) H) :
  FnOk P w K mg base CX (k+1) f (fnOf name qual params body scope dV kV doc pm an cdv ct) ps sp:=by
 refine ⟨len,fun A outer s H args us vs Q E hr e0 hb r hsp=>?_⟩
 have hl:=len _ _ _ _ hsp
 have KX:K.In s.heap:=e0.mod.kin.keeps fun b o e=>(e0.bs b o e).1
 have lim:s.heap.NoLimit:=e0.mod.nolimit.keeps fun b o e=>(e0.bs b o e).1
 have hkind:∀ y∈ps.zip us,scope.names.lookup y.1=some .local \/ (scope.names.lookup y.1=some .cell/\((cellsFrom (s.heap.objs.size+1) scope.names []).lookup y.1).isSome=true):=fun ⟨n,v⟩ hy=>by
  rcases S.par n (List.of_mem_zip hy).1 with q|q
  .exact .inl q
  .exact .inr ⟨q,PySem.W.cellsFrom_some _ _ _ (.inl q)⟩
 refine codeAny_call_function hr.depth (KX _ _ lk) rfl S.co S.gen rfl (PySem.W.codeRec_of KX hcd) (hb _ _ _ _ ?_)
 refine wpAny_newFunctionEnv_cells S.kind hkind fun env he s1 x=>?_
 subst he
 refine ⟨lim.keeps x.toInCall.keep,codeAny_func ?_⟩
 obtain ⟨t,ht,hq⟩:=hbody A outer s H vs Q E (hr.deeper _) hsp
 have I:Inv (yBz CX P w K mg base N qual scope f cdv A outer s H E) [] (start N vs) H s1:=yyJ S hr.hd e0 hl r x
 refine wpAny_mono (ht [] s1 (start N vs) H _ I hq) (fun fl s' hs=>?_) fun e s' hs=>hs
 have fin:∀ {σ':St}{H':Hp}{v:V}{u:Value},Inv (yBz CX P w K mg base N qual scope f cdv A outer s H E) [] σ' H' s'->RelV v u->Q v H'->CE outer P w H s Q u s' :=
  fun {σ' H' v u} J rv q=>⟨v,H',J.os,J.bare,J.base,J.hok,rv,q⟩
 cases fl with
 | ret u =>
  obtain ⟨v,σ',H',J,rv,q⟩:=hs
  exact fin J rv q
 | next =>
  obtain ⟨σ',H',J,q⟩:=hs
  exact fin (v:=V.non) (u:=Value.none) J rfl q
 | brk =>
  obtain ⟨_,_,_,q⟩:=hs
  exact False.elim q
 | cont =>
  obtain ⟨_,_,_,q⟩:=hs
  exact False.elim q
end L2
namespace L2
open PySem PySem.Spec PyProof.Rows
section
variable {X:Cx}{x:Str}{p pos:Pos}{e:Expr}{es:List Expr}{t:TA}{id T:String}{r:List V->Hp->VK->Prop}
def tCB (r:List V->Hp->VK->Prop) (t:TA):TE:=fun σ H Q=>t σ H fun vs H1=>r vs H1 Q
theorem yqZ (hc:ykN X (.builtin id) r) (hg:Gl X x) (hm:X.mg x=none) (hv:bootBuiltins x=some (.builtin id)) (ha:PA X (e::es) t) (hn:x≠"__name__":=by decide) (hdb:(x == ("__debug__":Str))=false:=by decide)
  (he:starEach (e::es) X.env=(false,eval e X.env)::starEach es X.env:=by rfl) (hpl:(backTo pos (starEach es X.env)).any (·.1)=false:=by rfl):PE X (.Call (.Name x p) (e::es) [] pos) (tCB r t):=by
 intro pins s σ H Q I h
 refine wpAny_Call_Name_kw (yqA I hg hm hv ?_ hn hdb)
 exact PyProof.Rows.callWith_builtin1 (thn (ha pos pins s σ H _ I h) fun us s1 ⟨vs,H1,I1,r1,q1⟩=>hc pins s1 σ H1 vs us Q I1 r1 q1) he hpl
theorem ysK (hc:ykN X (.type T) r) (hg:Gl X x) (hm:X.mg x=none) (hv:bootBuiltins x=some (.type T)) (ha:PA X (e::es) t) (hn:x≠"__name__":=by decide) (hdb:(x == ("__debug__":Str))=false:=by decide)
  (he:starEach (e::es) X.env=(false,eval e X.env)::starEach es X.env:=by rfl) (hpl:(backTo pos (starEach es X.env)).any (·.1)=false:=by rfl):PE X (.Call (.Name x p) (e::es) [] pos) (tCB r t):=by
 intro pins s σ H Q I h
 refine wpAny_Call_Name_kw (yqA I hg hm hv ?_ hn hdb)
 exact PyProof.Rows.callWith_type1 (thn (ha pos pins s σ H _ I h) fun us s1 ⟨vs,H1,I1,r1,q1⟩=>hc pins s1 σ H1 vs us Q I1 r1 q1) he hpl
end
end L2
namespace HT
open PySem PyProof.Rows
section
open PySem.SeqAt
open PySem.AutoSeq1 (wpAny_loadPart')
open PySem.MeetsSeq PySem.MeetsSeq2 PySem.MeetsSeq3
end
section
variable {prog:Program}{w:World}{A:Around}{E:Value->Shared->Prop}{s:Shared}
def sIx (n d:Nat):Option Int->Nat
 | none=>d
 | some v=>if v<0 then (v+(n:Int)).toNat else min v.toNat n
theorem sIx_nat (n d k:Nat):sIx n d (some (k:Int))=min k n:=by
 show (if (k:Int)<0 then ((k:Int)+(n:Int)).toNat else min (k:Int).toNat n)=min k n
 rw [if_neg (by omega),Int.toNat_natCast]
end
end HT
namespace L2
open PySem PySem.Spec PyProof.Rows
abbrev TO:=St->Hp->(Option Int->Hp->Prop)->Prop
noncomputable def PO (X:Cx) (e:Option Expr) (t:TO):Prop :=
 ∀ (pins:List (Addr×Obj)) (s:Shared) (σ:St) (H:Hp) (Q:Option Int->Hp->Prop),Inv X pins σ H s->t σ H Q ->
  wpAny (model X.prog X.w) X.A (evalPart e X.env) (fun u s'=>∃ o H',Inv X pins σ H' s'/\IsPart u o/\Q o H') X.xe s
def yyK:TO:=fun _ H Q=>Q none H
def yHM (t:TE):TO:=fun σ H Q=>t σ H fun x H1=>∃ i,x=.int i/\Q (some i) H1
theorem intsAre_of {ns:List Int}:∀ {us:List Value},Vals (ns.map V.int) us->IntsAre us ns:=by
 induction ns with
 | nil=>intro us r;rw [List.map_nil] at r;cases r;exact .nil
 | cons n ns ih =>
  intro us r
  rw [List.map_cons] at r
  cases r with
  | cons r1 r2 =>
   obtain ⟨t,e⟩:=r1
   subst e
   exact .cons n t (ih r2)
section
variable {X:Cx}{e:Expr}{te:TE}{lo hi:Option Expr}{tl th:TO}{pos p2:Pos}
theorem yFh:PO X none yyK:=by
 intro pins s σ H Q I h
 rw [evalPart_none]
 exact wpAny_pure ⟨none,H,I,.none,h⟩
theorem yFi (h:PE X e te):PO X (some e) (yHM te):=by
 intro pins s σ H Q I hw
 rw [evalPart_some]
 refine thn (h pins s σ H _ I hw) fun u s1 ⟨x,H1,I1,r1,q1⟩=>?_
 obtain ⟨i,rfl,q⟩:=q1
 obtain ⟨t,rfl⟩:=r1
 exact ⟨some i,H1,I1,.int i t,q⟩
noncomputable def SlR (X:Cx) (r:V->Option Int->Option Int->Hp->VK->Prop):Prop :=
 ∀ (pins:List (Addr×Obj)) (s:Shared) (σ:St) (H:Hp) (x:V) (v vl vu:Value) (lo hi:Option Int) (sl:Addr) (Q:VK),Inv X pins σ H s->RelV x v->s.heap.IsSliceOf sl vl vu .none->IsPart vl lo->IsPart vu hi->r x lo hi H Q ->
  ∃ T id,typeLookup (.type T) "__getitem__" = pure (some (.builtin id))/\s.TypeIs v T/\wpAny (model X.prog X.w) X.A (getItem v (.ref sl)) (EP X pins σ Q) X.xe s
noncomputable def tSl (r:V->Option Int->Option Int->Hp->VK->Prop) (te:TE) (tl th:TO):TE:=fun σ H Q=>te σ H fun x H1=>tl σ H1 fun l H2=>th σ H2 fun u H3=>r x l u H3 Q
theorem ywt {r:V->Option Int->Option Int->Hp->VK->Prop}(hr:SlR X r) (he:PE X e te) (hl:PO X lo tl) (hu:PO X hi th):PE X (.Subscript e (.Slice lo hi none p2) pos) (tSl r te tl th):=by
 intro pins s σ H Q I h
 refine Subscript_ (thn (he pins s σ H _ I h) fun v s1 ⟨x,H1,I1,r1,q1⟩=>?_)
 refine wpAny_Slice (thn (hl pins s1 σ H1 _ I1 q1) fun vl s2 ⟨l,H2,I2,pl,q2⟩=>thn (hu pins s2 σ H2 _ I2 q2) fun vu s3 ⟨u,H3,I3,pu,q3⟩=>?_)
 rw [evalPart_none]
 refine wpAny_pure ?_
 have I4:Inv X pins σ H3 { s3 with heap:=s3.heap.push { cls:=.type "slice",data:=.fields #[vl,vu,.none] } }:=I3.kept (t':=s3.toks) fun b ob q=>Heap.get?_push_of_some _ q
 obtain ⟨T,id,hT,ht,hg⟩:=hr pins { s3 with heap:=s3.heap.push { cls:=.type "slice",data:=.fields #[vl,vu,.none] } } σ H3 x v vl vu l u s3.heap.objs.size Q I4 r1 (Heap.IsSliceOf.new ..) pl pu q3
 show wpAny (model X.prog X.w) X.A (subscriptTail e (.Slice lo hi none p2) v (.ref s3.heap.objs.size)) (EP X pins σ Q) X.xe { s3 with heap:=s3.heap.push { cls:=.type "slice",data:=.fields #[vl,vu,.none] } }
 exact tail_any (ops:=[.ref s3.heap.objs.size,v]) ht hT hg (by with_unfolding_all rfl)
noncomputable def yHN (xs:List V) (lo hi:Option Int):List V:=(xs.drop (HT.sIx xs.length 0 lo)).take (HT.sIx xs.length xs.length hi-HT.sIx xs.length 0 lo)
theorem yuK (xs:List V) (lo hi:Option Int):(yHN xs lo hi).length<=xs.length:=by
 unfold yHN
 rw [List.length_take,List.length_drop]
 omega
end
end L2
namespace L2
open PySem PySem.Spec PyProof.Rows
noncomputable def ixN (n:Nat) (i:Int):Option Nat:=if 0<=i then (if i<n then some i.toNat else none) else if -(n:Int)<=i then some (i+n).toNat else none
def atI {α:Type}(xs:List α) (i:Int):Option α:=(ixN xs.length i).bind fun j=>xs[j]?
theorem yyL {n:Nat}{i:Int}{j:Nat}(h:ixN n i=some j):seqIndex? i n=some j/\j<n/\-(n:Int)<=i/\i<n:=by
 unfold ixN at h
 by_cases h0:0<=i
 .rw [if_pos h0] at h
  by_cases h1:i<n
  .rw [if_pos h1] at h
   have e:i.toNat=j:=Option.some.inj h
   exact ⟨by rw [seqIndex_of h0 h1,e],by omega,by omega,h1⟩
  .rw [if_neg h1] at h;cases h
 .rw [if_neg h0] at h
  by_cases h1:-(n:Int)<=i
  .rw [if_pos h1] at h
   have e:(i+n).toNat=j:=Option.some.inj h
   exact ⟨by rw [seqIndex_neg (by omega) h1,e],by omega,h1,by omega⟩
  .rw [if_neg h1] at h;cases h
theorem yuL {α:Type}{xs:List α}{i:Int}{v:α}(h:atI xs i=some v):∃ j,seqIndex? i xs.length=some j/\xs[j]?=some v/\j<xs.length/\-(xs.length:Int)<=i/\i<xs.length:=by
 unfold atI at h
 cases e:ixN xs.length i with
 | none=>rw [e] at h;cases h
 | some j =>
  rw [e] at h
  obtain ⟨h1,h2,h3,h4⟩:=yyL e
  exact ⟨j,h1,h,h2,h3,h4⟩
theorem yen {α:Type}{xs:List α}{j:Nat}{v:α}(h:xs[j]?=some v):atI xs (j:Int)=some v:=by
 have hj:j<xs.length:=(List.getElem?_eq_some_iff.mp h).1
 have e:ixN xs.length (j:Int)=some j:=by
  unfold ixN
  rw [if_pos (by omega),if_pos (by omega)];simp
 unfold atI;rw [e];exact h
def yyM (b:Expr):Prop:=∀ o i,subscripted b false o i=operate [o,i] (getItem o i)
noncomputable def IxR (X:Cx) (r:R2):Prop :=
 ∀ (value slice:Expr) (pins:List (Addr×Obj)) (s:Shared) (σ:St) (H:Hp) (x y:V) (v u:Value) (Q:VK),Inv X pins σ H s->RelV x v->RelV y u->r x y H Q ->
  subscripted slice false v u=operate [v,u] (getItem v u)->wpAny (model X.prog X.w) X.A (subscriptTail value slice v u) (EP X pins σ Q) X.xe s
noncomputable def MtR (X:Cx) (id:String) (r:V->List V->Hp->VK->Prop):Prop :=
 ∀ (pins:List (Addr×Obj)) (s:Shared) (σ:St) (H:Hp) (x:V) (xs:List V) (v:Value) (us:List Value) (Q:VK),Inv X pins σ H s->RelV x v->Vals xs us->r x xs H Q ->
  wpAny (model X.prog X.w) X.A (call (.builtin id) (v::us)) (EP X pins σ Q) X.xe s
section
variable {X:Cx}{a b:Expr}{ta tb:TE}{pos:Pos}
theorem IxR.or {r r':R2}(h:IxR X r) (h':IxR X r'):IxR X (fun x y H Q=>r x y H Q\/r' x y H Q):=by
 intro value slice pins s σ H x y v u Q I rx ry q hs
 rcases q with q|q
 .exact h value slice pins s σ H x y v u Q I rx ry q hs
 .exact h' value slice pins s σ H x y v u Q I rx ry q hs
theorem yKl {r:R2}(hr:IxR X r) (ha:PE X a ta) (hb:PE X b tb) (hs:yyM b):PE X (.Subscript a b pos) (tOp r ta tb):=by
 intro pins s σ H Q I h
 exact Subscript_ (yKg ha hb I h fun v u s2 x y H2 I2 rx ry q=>hr a b pins s2 σ H2 x y v u Q I2 rx ry q (hs _ _))
def yKm (K:PySem.W.Frag):R2:=fun x y H Q=>∃ p xs i v,x=.ref p/\y=.int i/\SqL K H p xs/\atI xs i=some v/\Q v H
def yKn (K:PySem.W.Frag):R2:=fun x y H Q=>∃ p xs i v,x=.ref p/\y=.int i/\SqT K H p xs/\atI xs i=some v/\Q v H
def yKo:R2:=fun x y H Q=>∃ z i c,x=.str z/\y=.int i/\z.length<=sizeLine/\atI z.cps.toList i=some c/\Q (.str ⟨#[c]⟩) H
theorem ix_list:IxR X (yKm X.K):=by
 intro value slice pins s σ H x y v u Q I rx ry h hs
 obtain ⟨p,xs,i,z,rfl,rfl,hq,he,q⟩:=h
 cases rx
 obtain ⟨t,rfl⟩:=ry
 obtain ⟨its,r,pl,hz⟩:=I.list hq
 obtain ⟨j,h1,h2,h3,h4,h5⟩:=yuL he
 obtain ⟨w,ew,rw'⟩:=r.get h2
 have hl:=r.length
 have hn:=yqB
 have fin:EP X pins σ Q w s:=⟨z,H,I,rw',q⟩
 by_cases h0:0<=i
 .have hj:i.toNat=j:=by
   rw [seqIndex_of h0 h5] at h1
   exact Option.some.inj h1
  exact item_listR pl.isList h0 (by omega) (by rw [hj];simpa using ew) fin hs
 .have hj:(i+(its.toArray.size:Int)).toNat=j:=by
   rw [seqIndex_neg (by omega) h4] at h1
   rw [List.size_toArray,<- hl]
   exact Option.some.inj h1
  exact subscriptTail_builtinR (x:=w) pl.isList.typeIs slot_list_getitem.lookup
   (wpAny_getItem_list_neg (Q:=fun r s'=>r=w/\EP X pins σ Q r s') pl.isList (by omega) (by rw [List.size_toArray]<;>omega) (by omega) (by rw [hj];simpa using ew) ⟨rfl,fin⟩) hs
theorem ix_tup:IxR X (yKn X.K):=by
 intro value slice pins s σ H x y v u Q I rx ry h hs
 obtain ⟨p,xs,i,z,rfl,rfl,hq,he,q⟩:=h
 cases rx
 obtain ⟨t,rfl⟩:=ry
 obtain ⟨its,r,pl,hz⟩:=I.tuple hq
 obtain ⟨j,h1,h2,h3,h4,h5⟩:=yuL he
 obtain ⟨w,ew,rw'⟩:=r.get h2
 have hl:=r.length
 have hn:=yqB
 have fin:EP X pins σ Q w s:=⟨z,H,I,rw',q⟩
 exact subscriptTail_builtinR (x:=w) pl.typeIs slot_tuple_getitem.lookup
  (getItem_tuple (j:=j) (Q:=fun r s'=>r=w/\EP X pins σ Q r s') pl (by omega) (by omega) (by rw [List.size_toArray,<- hl];exact h1) (by simpa using ew) ⟨rfl,fin⟩) hs
theorem ynl:IxR X yKo:=by
 intro value slice pins s σ H x y v u Q I rx ry h hs
 obtain ⟨z,i,c,rfl,rfl,hz,he,q⟩:=h
 obtain ⟨t,rfl⟩:=rx
 obtain ⟨t',rfl⟩:=ry
 obtain ⟨j,h1,h2,h3,h4,h5⟩:=yuL he
 have hl:z.cps.toList.length=z.length:=by simp [Str.length]
 rw [hl] at h1 h4 h5
 have hn:=yqB
 exact tail_any (typeIs_str s z t) slot_str_getitem.lookup (getItem_str (c:=c) (by
  have e1:decide (i < -(2 ^ 63:Int))=false:=decide_eq_false (by omega)
  have e2:decide (i>=2 ^ 63)=false:=decide_eq_false (by omega)
  rw [e1,e2,Bool.or_false]) (by rw [h1];simpa using h2) ⟨.str ⟨#[c]⟩,H,I.tok _,⟨_,rfl⟩,q⟩) hs
def rIx (K:PySem.W.Frag):R2:=fun x y H Q=>yKm K x y H Q\/yKn K x y H Q\/yKo x y H Q
theorem ysL:IxR X (rIx X.K):=ix_list.or (ix_tup.or ynl)
theorem yxq (its:List Value) (n j:Nat) (u:Value):Obj.mapSeq (·.setIfInBounds j u) { cls:=.type "list",data:=.seq its.toArray n }={ cls:=.type "list",data:=.seq (its.set j u).toArray n }:=by
 simp [Obj.mapSeq]
theorem Inv.lst {pins:List (Addr×Obj)}{σ:St}{H:Hp}{s:Shared}{p:Addr}{xs:List V}(I:Inv X pins σ H s) (h:H p=some (.lst xs)) :
  ∃ (its:List Value) (n:Nat),Vals xs its/\s.heap.get? p=some { cls:=.type "list",data:=.seq its.toArray n }/\xs.length<=sizeLine:=by
 obtain ⟨z,its,n,r,e⟩:=I.hok p _ h
 exact ⟨its,n,r,e,z⟩
theorem Inv.lstUpd {pins:List (Addr×Obj)}{σ:St}{H:Hp}{s:Shared}{p:Addr}{xs ys:List V}{its its':List Value}{n n':Nat}{f:Obj->Obj}(I:Inv X pins σ H s) (h:H p=some (.lst xs))
  (ho:s.heap.get? p=some { cls:=.type "list",data:=.seq its.toArray n }) (hf:f { cls:=.type "list",data:=.seq its.toArray n }={ cls:=.type "list",data:=.seq its'.toArray n' }) (r:Vals ys its') (hz:ys.length<=sizeLine) (t:Nat) :
  Inv X pins σ (upd H p (.lst ys)) { s with heap:=s.heap.update p f,toks:=t }:=by
 have e:(s.heap.update p f).get? p=some { cls:=.type "list",data:=.seq its'.toArray n' }:=by
  rw [Heap.get?_update_self f ho (by rw [hf]<;>rfl),hf]
 refine I.write (x:=p) (e:=p) (by rw [h];trivial) (.inl rfl) (fun b u hb q=>(Heap.get?_update_other _ _ (Ne.symm hb)).trans q) ⟨_,e⟩ ?_
 exact ⟨hz,its',n',r,e⟩
noncomputable def yHO:V->V->V->Hp->(Hp->Prop)->Prop:=fun o i v H Q=>∃ p xs k j,o=.ref p/\i=.int k/\H p=some (.lst xs)/\ixN xs.length k=some j/\Q (upd H p (.lst (xs.set j v)))
theorem set_list:yLV X yHO:=by
 intro pins s σ H o i v ov iv u Q I ro ri rv h
 obtain ⟨p,xs,k,j,rfl,rfl,hp,hj,q⟩:=h
 cases ro
 obtain ⟨t,rfl⟩:=ri
 obtain ⟨its,n,r,ho,hz⟩:=I.lst hp
 obtain ⟨h1,h2,h3,h4⟩:=yyL hj
 have hl:=r.length
 have hn:=yqB
 have I':Inv X pins σ (upd H p (.lst (xs.set j v))) { s with heap:=s.heap.update p (Obj.mapSeq (·.setIfInBounds j u)) } :=
  I.lstUpd hp ho (yxq its n j u) (r.set rv j) (by rw [List.length_set];exact hz) s.toks
 by_cases h0:0<=k
 .have hk:k.toNat=j:=by
   rw [seqIndex_of h0 h4] at h1
   exact Option.some.inj h1
  exact PySem.W.ki_setAt ho h0 (by omega) (by rw [List.size_toArray,<- hl];exact h4) (by rw [hk];exact ⟨_,I',q⟩)
 .have hk:(k+(its.toArray.size:Int)).toNat=j:=by
   rw [seqIndex_neg (by omega) h3] at h1
   rw [List.size_toArray,<- hl]
   exact Option.some.inj h1
  exact PySem.W.ki_setBack ho (by omega) (by rw [List.size_toArray,<- hl];exact h3) (by omega) (by rw [hk];exact ⟨_,I',q⟩)
theorem ysM (lo hi:Option Int) (n:Nat):(sliceBounds lo hi none n).1=((HT.sIx n 0 lo:Nat):Int)/\(sliceBounds lo hi none n).2.1=((HT.sIx n n hi:Nat):Int)/\(sliceBounds lo hi none n).2.2=1:=by
 refine ⟨?_,?_,rfl⟩
 .cases lo with
  | none=>simp [sliceBounds,HT.sIx]
  | some i =>
   simp only [sliceBounds,HT.sIx,Option.getD_none,show (1:Int)>0 by decide,if_true]
   by_cases h:i<0
   .simp only [h,if_true]<;>omega
   .simp only [h,if_false]<;>omega
 .cases hi with
  | none=>simp [sliceBounds,HT.sIx]
  | some i =>
   simp only [sliceBounds,HT.sIx,Option.getD_none,show (1:Int)>0 by decide,if_true]
   by_cases h:i<0
   .simp only [h,if_true]<;>omega
   .simp only [h,if_false]<;>omega
theorem yra (its:List Value) (lo hi:Option Int):slicePick its.toArray lo hi none=((its.drop (HT.sIx its.length 0 lo)).take (HT.sIx its.length its.length hi-HT.sIx its.length 0 lo)).toArray:=by
 obtain ⟨h1,h2,h3⟩:=ysM lo hi its.toArray.size
 unfold slicePick
 rw [h1,h2,h3]
 simp only [sliceRange_one,pick_run,List.size_toArray]<;>rfl
noncomputable def yMe (K:PySem.W.Frag):V->Option Int->Option Int->Hp->VK->Prop:=fun x lo hi H Q=>∃ a xs,x=.ref a/\SqL K H a xs/\∀ p,H p=none->Q (.ref p) (upd H p (.lst (yHN xs lo hi)))
theorem ymv:SlR X (yMe X.K):=by
 intro pins s σ H x v vl vu lo hi sl Q I rx hs pl pu h
 obtain ⟨a,xs,rfl,hx,q⟩:=h
 cases rx
 obtain ⟨its,r,ht,hz⟩:=I.list hx
 have hlen:=r.length
 refine ⟨"list",_,slot_list_getitem.lookup,ht.isList.typeIs,?_⟩
 refine wpAny_getItem_list_slice ht.isList hs pl pu .none (by simp) ?_ (by rw [List.size_toArray]<;>omega)
 rw [yra,<- hlen]
 refine ⟨.ref s.heap.objs.size,_,I.laid (t':=s.toks) (o:=.lst (yHN xs lo hi)) (fun b ob q=>Heap.get?_push_of_some _ q) (Nat.le_refl _) ?_,rfl,q _ (I.hok.fresh (Nat.le_refl _))⟩
 exact ⟨Nat.le_trans (yuK xs lo hi) hz,_,0,(r.drop (HT.sIx xs.length 0 lo)).take (HT.sIx xs.length xs.length hi-HT.sIx xs.length 0 lo),Heap.get?_push_size _ rfl⟩
def yxr:V->Bool
 | .non=>true
 | .bl _=>true
 | .int _=>true
 | .str _=>true
 | _=>false
noncomputable def eqV:V->V->Bool
 | .non,.non=>true
 | .bl a,.bl b=>a == b
 | .bl a,.int b=>(if a then 1 else 0) == b
 | .int a,.bl b=>a == (if b then 1 else 0)
 | .int a,.int b=>a == b
 | .str a,.str b=>a == b
 | _,_=>false
theorem eqAt_V {A:Around}{s:Shared}{y x:V}{u v:Value}(ry:RelV y u) (rx:RelV x v) (fy:yxr y=true) (fx:yxr x=true):SeqAt.EqAt A s u v (eqV y x):=by
 cases y with
 | non =>
  cases ry
  cases x with
  | non=>cases rx;exact SeqAt.EqAt.same _
  | bl b=>cases rx;exact SeqAt.EqAt.none_bool b
  | int b=>obtain ⟨t,rfl⟩:=rx;exact SeqAt.EqAt.none_int b t
  | str b=>obtain ⟨t,rfl⟩:=rx;exact SeqAt.EqAt.none_str b t
  | _=>exact absurd (show false=true from fx) Bool.false_ne_true
 | bl a =>
  cases ry
  cases x with
  | non=>cases rx;exact SeqAt.EqAt.bool_none a
  | bl b=>cases rx;exact SeqAt.EqAt.bool_bool a b
  | int b=>obtain ⟨t,rfl⟩:=rx;exact SeqAt.EqAt.bool_int a b t
  | str b=>obtain ⟨t,rfl⟩:=rx;exact SeqAt.EqAt.bool_str a b t
  | _=>exact absurd (show false=true from fx) Bool.false_ne_true
 | int a =>
  obtain ⟨t',rfl⟩:=ry
  cases x with
  | non=>cases rx;exact SeqAt.EqAt.int_none a t'
  | bl b=>cases rx;exact SeqAt.EqAt.int_bool a t' b
  | int b=>obtain ⟨t,rfl⟩:=rx;exact SeqAt.EqAt.int_int a t' b t
  | str b=>obtain ⟨t,rfl⟩:=rx;exact SeqAt.EqAt.int_str a t' b t
  | _=>exact absurd (show false=true from fx) Bool.false_ne_true
 | str a =>
  obtain ⟨t',rfl⟩:=ry
  cases x with
  | non=>cases rx;exact SeqAt.EqAt.str_none a t'
  | bl b=>cases rx;exact SeqAt.EqAt.str_bool a t' b
  | int b=>obtain ⟨t,rfl⟩:=rx;exact SeqAt.EqAt.str_int a t' b t
  | str b=>obtain ⟨t,rfl⟩:=rx;exact SeqAt.EqAt.str_str a t' b t
  | _=>exact absurd (show false=true from fx) Bool.false_ne_true
 | _=>exact absurd (show false=true from fy) Bool.false_ne_true
theorem ych:ykN X (.builtin "len") (fun xs H Q=>∃ p ys,xs=[.ref p]/\(SqL X.K H p ys\/SqT X.K H p ys)/\Q (.int ys.length) H):=by
 intro pins s σ H xs us Q I r h
 obtain ⟨p,ys,rfl,hq,q⟩:=h
 obtain ⟨u,rfl,rx⟩:=vals1 r
 cases rx
 have hn:=yqB
 rcases hq with hq|hq
 .obtain ⟨its,r',pl,hz⟩:=I.list hq
  have hlen:=r'.length
  exact Calls.call_len_list pl.isList (by simp only [List.size_toArray]<;>omega) ⟨.int ys.length,H,I.tok _,⟨s.toks+1,by rw [List.size_toArray,hlen]⟩,q⟩
 .obtain ⟨its,r',pl,hz⟩:=I.tuple hq
  have hlen:=r'.length
  exact len_tuple pl (by simp only [List.size_toArray]<;>omega) ⟨.int ys.length,H,I.tok _,⟨s.toks+1,by rw [List.size_toArray,hlen]⟩,q⟩
theorem ysN:ykN X (.builtin "len") (fun xs H Q=>∃ z,xs=[.str z]/\z.length<=sizeLine/\Q (.int z.length) H):=by
 intro pins s σ H xs us Q I r h
 obtain ⟨z,rfl,hz,q⟩:=h
 obtain ⟨u,rfl,t,rfl⟩:=vals1 r
 have hn:=yqB
 exact len_str (by omega) ⟨.int z.length,H,I.tok _,⟨_,rfl⟩,q⟩
theorem yI:ykN X (.type "list") (fun xs H Q=>∃ p ys,xs=[.ref p]/\(SqL X.K H p ys\/SqT X.K H p ys)/\∀ l,H l=none->Q (.ref l) (upd H l (.lst ys))):=by
 intro pins s σ H xs us Q I r h
 obtain ⟨p,ys,rfl,hq,q⟩:=h
 obtain ⟨u,rfl,rx⟩:=vals1 r
 cases rx
 have fin:∀ (its:List Value),Vals ys its->ys.length<=sizeLine->∀ (h':Heap) (c':Nat),(∀ b o',s.heap.get? b=some o'->h'.get? b=some o') ->
   h'.get? s.heap.objs.size=some { cls:=.type "list",dict:=none,data:=.seq its.toArray c',slots:=#[] }->EP X pins σ Q (.ref s.heap.objs.size) { s with heap:=h' }:=fun its r' hz h' c' kp e =>
  ⟨.ref s.heap.objs.size,_,I.laid (t':=s.toks) kp (Nat.le_refl _) (show ObjOk X.prog X.w _ h' _ (.lst ys) from ⟨hz,its,c',r',e⟩),rfl,q _ (I.hok.fresh (Nat.le_refl _))⟩
 rcases hq with hq|hq
 .obtain ⟨its,r',pl,hz⟩:=I.list hq
  have hlen:=r'.length
  obtain ⟨o,ho,hc,n,hd⟩:=pl.isList
  exact call_list_seq p (.inl rfl) ho hc hd (fun h' c' kp e=>fin its r' hz h' c' kp e) (by simp only [List.size_toArray]<;>omega)
 .obtain ⟨its,r',pl,hz⟩:=I.tuple hq
  have hlen:=r'.length
  obtain ⟨o,ho,hc,n,hd⟩:=pl
  exact call_list_seq p (.inr rfl) ho hc hd (fun h' c' kp e=>fin its r' hz h' c' kp e) (by simp only [List.size_toArray]<;>omega)
noncomputable def tyV (K:PySem.W.Frag) (T:String) (x:V) (H:Hp):Prop:=match x with
 | .str _=>T = "str"
 | .int _=>T = "int"
 | .ref p=>(T = "list"/\∃ xs,SqL K H p xs)\/(T = "tuple"/\∃ o,K.lookup p=some o/\o.cls=.type "tuple"/\o.dict=none) \/
   (T = "dict"/\((∃ kvs,H p=some (.dK kvs))\/∃ kvs,H p=some (.dT kvs)))\/(T = "set"/\∃ S n,H p=some (.set S n))
 | _=>False
theorem yDw {pins:List (Addr×Obj)}{σ:St}{H:Hp}{s:Shared}{T:String}{x:V}{v:Value}(I:Inv X pins σ H s) (r:RelV x v) (ty:tyV X.K T x H) :
  s.TypeIs v T/\∀ a,v=.ref a->∃ ob,s.heap.get? a=some ob/\ob.dict=none:=by
 cases x with
 | str z =>
  obtain ⟨t,rfl⟩:=r
  cases (show T = "str" from ty)
  exact ⟨typeIs_str s z t,fun _ e=>nomatch e⟩
 | int i =>
  obtain ⟨t,rfl⟩:=r
  cases (show T = "int" from ty)
  exact ⟨typeIs_int s i t,fun _ e=>nomatch e⟩
 | ref p =>
  cases r
  rcases ty with ⟨rfl,xs,hq⟩|⟨rfl,o,hk,hc,hd⟩|⟨rfl,hk⟩|⟨rfl,S,n,hk⟩
  .obtain ⟨its,_,pl,_⟩:=I.list hq
   refine ⟨pl.isList.typeIs,fun a e=>?_⟩
   cases e
   obtain ⟨o,n,e,c,hd,_⟩:=pl
   exact ⟨o,e,hd⟩
  .refine ⟨⟨o,I.kIn p o hk,hc⟩,fun a e=>?_⟩
   cases e
   exact ⟨o,I.kIn _ o hk,hd⟩
  .have z:∃ o,s.heap.get? p=some o/\o.ExactDict:=by
    rcases hk with ⟨kvs,hk⟩|⟨kvs,hk⟩
    .obtain ⟨_,_,_,_,o,_,_,e,ex,_⟩:=I.hok p _ hk
     exact ⟨o,e,ex⟩
    .obtain ⟨_,_,_,_,o,_,_,e,ex,_⟩:=I.hok p _ hk
     exact ⟨o,e,ex⟩
   obtain ⟨o,e,ex⟩:=z
   refine ⟨⟨o,e,ex.1⟩,fun a e2=>?_⟩
   cases e2
   exact ⟨o,e,ex.2.1⟩
  .obtain ⟨o,_,_,_,e,ex,_⟩:=I.hok p _ hk
   refine ⟨⟨o,e,ex.1⟩,fun a e2=>?_⟩
   cases e2
   exact ⟨o,e,ex.2.1⟩
 | _=>exact False.elim ty
noncomputable def yKp (K:PySem.W.Frag) (T:String) (r:V->List V->Hp->VK->Prop) (to:TE):TE:=fun σ H Q=>to σ H fun x H1=>tyV K T x H1/\r x [] H1 Q
noncomputable def tBM (K:PySem.W.Frag) (T:String) (r:V->List V->Hp->VK->Prop) (to:TE) (t:TA):TE:=fun σ H Q=>to σ H fun x H1=>tyV K T x H1/\t σ H1 fun xs H2=>r x xs H2 Q
variable {o e:Expr}{es:List Expr}{to:TE}{t:TA}{name:Str}{apos cpos:Pos}{T id:String}{r:V->List V->Hp->VK->Prop}
theorem yDx (pa:PlainAttrs T) (slot:Slot T name id) (hty:typeOf (.builtin id)=pure (.type "method_descriptor")) (hm:MtR X id r) (ho:PE X o to)
  (hbase:attributeBase o name X.env (eval o X.env)=eval o X.env:=by rfl) (hline:(apos.endLine == cpos.line)=true:=by rfl):PE X (.Call (.Attribute o name apos) [] [] cpos) (yKp X.K T r to):=by
 intro pins s σ H Q I h
 refine wpAny_Call_method0_late hbase hline (thn (ho pins s σ H _ I h) fun v s1 ⟨x,H1,I1,r1,ty,q1⟩=>?_)
 obtain ⟨h1,h2⟩:=yDw I1 r1 ty
 exact ⟨T,id,pa,slot,hty,h1,h2,Calls.callWith_builtin rfl (PySem.evalArgs_none (hm pins s1 σ H1 x [] v [] Q I1 r1 .nil q1))⟩
theorem yHP (pa:PlainAttrs T) (slot:Slot T name id) (hty:typeOf (.builtin id)=pure (.type "method_descriptor")) (hm:MtR X id r) (ho:PE X o to) (ha:PA X (e::es) t)
  (hbase:attributeBase o name X.env (eval o X.env)=eval o X.env:=by rfl)
  (hfew:((backTo cpos (starEach (e::es) X.env)).all (fun x=>!x.1) && (backToKw cpos (keywordEach [] X.env)).all (fun x=>x.1.isSome)
   && decide ((e::es).length+([]:List Keyword).length+(if ([]:List Keyword).isEmpty then 0 else 1)<30))=true:=by rfl)
  (hline:(apos.endLine == cpos.line)=true:=by rfl) (hs:starEach (e::es) X.env=(false,eval e X.env)::starEach es X.env:=by rfl) (hplain:(backTo cpos (starEach es X.env)).any (·.1)=false:=by rfl) :
  PE X (.Call (.Attribute o name apos) (e::es) [] cpos) (tBM X.K T r to t):=by
 intro pins s σ H Q I h
 refine wpAny_Call_method_late hbase hfew hline rfl (thn (ho pins s σ H _ I h) fun v s1 ⟨x,H1,I1,r1,ty,q1⟩=>?_)
 obtain ⟨h1,h2⟩:=yDw I1 r1 ty
 refine ⟨T,id,pa,slot,hty,h1,h2,?_⟩
 have hA:=ha cpos pins s1 σ H1 _ I1 q1
 rw [hs] at hA ⊢
 refine Calls.callWith_builtin (by show (false || (backTo cpos (starEach es X.env)).any (·.1))=false;rw [hplain]<;>rfl) (Calls.evalArgs_plain ?_)
 exact thn hA fun us s2 ⟨vs,H2,I2,r2,q2⟩=>hm pins s2 σ H2 x vs v us Q I2 r1 r2 q2
end
end L2
namespace L2
open PySem PySem.Spec PyProof.Rows
noncomputable def MtM (X:Cx) (id:String) (r:V->List V->Hp->VK->Prop):Prop :=
 ∀ (pins:List (Addr×Obj)) (s:Shared) (σ:St) (H:Hp) (x:V) (xs:List V) (v:Value) (us:List Value) (Q:VK),Inv X pins σ H s->RelV x v->Vals xs us->r x xs H Q ->
  wpAny (model X.prog X.w) X.A (call (.builtin id) (v::us)) (EP X pins σ Q) X.xe s
theorem Vals.one:∀ {x:V}{us:List Value},Vals [x] us->∃ u,us=[u]/\RelV x u
 | _,_,.cons r .nil=>⟨_,rfl,r⟩
theorem Vals.zero:∀ {us:List Value},Vals [] us->us=[]
 | _,.nil=>rfl
theorem Vals.dropLast {xs:List V}{us:List Value}(h:Vals xs us):Vals xs.dropLast us.dropLast:=by
 induction h with
 | nil=>exact .nil
 | cons r t ih =>
  cases t with
  | nil=>exact .nil
  | cons q t'=>exact .cons r ih
theorem Vals.rep {xs:List V}{us:List Value}(h:Vals xs us):∀ k:Nat,Vals (List.replicate k xs).flatten (List.replicate k us).flatten
 | 0=>.nil
 | k+1=>by
  rw [List.replicate_succ,List.replicate_succ,List.flatten_cons,List.flatten_cons]
  exact Vals.append h (Vals.rep h k)
theorem yxs {α:Type}(l:List α):l.eraseIdx (l.length-1)=l.dropLast:=by
 induction l with
 | nil=>rfl
 | cons a r ih =>
  cases r with
  | nil=>rfl
  | cons b r =>
   have e:(a::b::r).length-1=((b::r).length-1)+1:=by
    have h1:(a::b::r).length=r.length+2:=rfl
    have h2:(b::r).length=r.length+1:=rfl
    omega
   rw [e,List.eraseIdx_cons_succ,ih]
   all_goals rfl
section
variable {X:Cx}{pins:List (Addr×Obj)}{σ:St}{H:Hp}{s:Shared}{l b:Addr}{xs ys zs:List V}
theorem Inv.lset {its its':List Value}{n:Nat}{f:Array Value->Array Value}{t':Nat}(I:Inv X pins σ H s) (hH:H l=some (.lst xs))
  (e:s.heap.get? l=some { cls:=.type "list",data:=.seq its.toArray n }) (hf:f its.toArray=its'.toArray) (hv:Vals ys its') (hz:ys.length<=sizeLine) :
  Inv X pins σ (upd H l (.lst ys)) { s with heap:=s.heap.update l (Obj.mapSeq f),toks:=t' }:=by
 have q:=PySem.IsL.update e f
 rw [hf] at q
 refine I.write (x:=l) (e:=l) (by rw [hH];exact trivial) (.inl rfl) (fun b' u hb hu=>(Heap.get?_update_other s.heap (Obj.mapSeq f) (Ne.symm hb)).trans hu) ⟨_,q⟩ ?_
 exact ⟨hz,its',_,hv,q⟩
theorem Inv.lnew {its:List Value}{t':Nat}(I:Inv X pins σ H s) (hv:Vals ys its) (hz:ys.length<=sizeLine) :
  Inv X pins σ (upd H s.heap.objs.size (.lst ys)) { s with heap:=s.heap.push { cls:=.type "list",data:=.seq its.toArray },toks:=t' } :=
 I.laid (fun _ _ q=>Heap.get?_push_of_some _ q) (Nat.le_refl _) ⟨hz,its,0,hv,Heap.get?_push_size _ rfl⟩
theorem Inv.fresh (I:Inv X pins σ H s):H s.heap.objs.size=none:=I.hok.fresh (Nat.le_refl _)
theorem Inv.lstM (I:Inv X pins σ H s) (hH:H l=some (.lst xs)):xs.length<=sizeLine/\∃ (its:List Value) (n:Nat),Vals xs its/\xs.length=its.length/\s.heap.get? l=some { cls:=.type "list",data:=.seq its.toArray n }:=by
 obtain ⟨z,its,n,r,e⟩:=I.hok l _ hH
 exact ⟨z,its,n,r,r.length,e⟩
end
section
variable {X:Cx}
noncomputable def yuM:V->List V->Hp->VK->Prop:=fun x vs H Q=>∃ l xs y,x=.ref l/\vs=[y]/\H l=some (.lst xs)/\xs.length<sizeLine/\Q .non (upd H l (.lst (xs++[y])))
theorem yhb:MtM X "list.append" yuM:=by
 intro pins s σ H x vs v us Q I rx rv h
 obtain ⟨l,xs,y,rfl,rfl,hH,hz,q⟩:=h
 cases rx
 obtain ⟨u,rfl,ru⟩:=rv.one
 obtain ⟨z,its,n,r,hl,e⟩:=I.lstM hH
 refine call_meets F.slot_list_append ⟨_,e,rfl⟩ F.entry_list_append (F.args_list_append_2 _ _) (PySem.list_append l its.toArray n u (by rw [List.size_toArray];omega)) ⟨e,?_⟩
 refine ⟨.non,_,I.lset (its':=its++[u]) hH e (by simp) (r.append (.cons ru .nil)) ?_,rfl,q⟩
 rw [List.length_append,List.length_singleton]
 omega
noncomputable def yMf:V->List V->Hp->VK->Prop:=fun x vs H Q=>∃ l xs y,x=.ref l/\vs=[]/\H l=some (.lst xs)/\xs[xs.length-1]?=some y/\Q y (upd H l (.lst xs.dropLast))
theorem yDy:MtM X "list.pop" yMf:=by
 intro pins s σ H x vs v us Q I rx rv h
 obtain ⟨l,xs,y,rfl,rfl,hH,hy,q⟩:=h
 cases rx
 have hus:=rv.zero
 subst hus
 obtain ⟨z,its,n,r,hl,e⟩:=I.lstM hH
 obtain ⟨u,hu,ru⟩:=r.get hy
 have hy':its.toArray[its.toArray.size-1]?=some u:=by
  show its.toArray[its.length-1]?=some u
  rw [<- Array.getElem?_toList,<- hl]
  exact hu
 refine call_meets F.slot_list_pop ⟨_,e,rfl⟩ F.entry_list_pop (F.args_list_pop_1 _) (MeetsSeq.list_pop_last l its.toArray n u hy' (by rw [List.size_toArray];omega)) ⟨e,?_⟩
 refine ⟨y,_,I.lset (its':=its.dropLast) hH e ?_ r.dropLast ?_,ru,q⟩
 .show its.toArray.eraseIdxIfInBounds (its.toArray.size-1)=its.dropLast.toArray
  rw [List.size_toArray,List.eraseIdxIfInBounds_toArray,yxs]
 .rw [List.length_dropLast]
  omega
noncomputable def yMg:R2:=fun x y H Q=>∃ l b xs zs,x=.ref l/\y=.ref b/\H l=some (.lst xs)/\H b=some (.lst zs)/\xs.length+zs.length<=sizeLine/\∀ p,H p=none->Q (.ref p) (upd H p (.lst (xs++zs)))
theorem ywu:OpR X (binaryOp .Add) yMg:=by
 intro pins s σ H x y v u Q I rx ry h
 obtain ⟨l,b,xs,zs,rfl,rfl,hH,hB,hz,q⟩:=h
 cases rx
 cases ry
 obtain ⟨z,its,n,r,hl,e⟩:=I.lstM hH
 obtain ⟨z2,its2,n2,r2,hl2,e2⟩:=I.lstM hB
 refine PySem.P.add_list e e2 ?_ (by rw [List.size_toArray,List.size_toArray];omega)
 have ea:its.toArray++its2.toArray=(its++its2).toArray:=by simp
 rw [ea]
 exact ⟨.ref _,_,I.lnew (t':=s.toks) (r.append r2) (by rw [List.length_append];omega),rfl,q _ I.fresh⟩
end
section
variable {prog:Program}{w:World}{A:Around}{E:Value->Shared->Prop}{s:Shared}
end
section
variable {X:Cx}
end
end L2
namespace Att
open PySem PySem.W PySem.Calls PyProof.Rows
theorem yox {P:Params}{h:Heap}:∀ (ns:List Int) (vs:List Value),WellAll P h vs (ns.map WData.int)->IntsAre vs ns:=by
 intro ns
 induction ns with
 | nil =>
  intro vs w
  rw [List.map_nil] at w
  cases w
  exact .nil
 | cons n ns ih =>
  intro vs w
  rw [List.map_cons] at w
  cases w with
  | cons a b =>
   cases a
   exact .cons _ _ (ih _ b)
theorem yyN {l:OpenLaw}{n:Nat}(hn:l.most=some n) {P:Params}{h:Heap}{args:List WData}{vals:List Value}
  (hpre:l.row.toRowW.claim.pre args=true) (hwl:WellAll P h vals args) :
  ∃ a vs ns,vals=[Value.ref a]/\args=[WData.list (ns.map WData.int)]/\h.get? a=some { cls:=.type "list",data:=.seq vs.toArray }/\IntsAre vs ns/\ns.length<=n:=by
 have hsh:WShape.hasAll [] args [.list .int]=true:=(pre_splitW hpre).1
 have hc:l.pre.holds [] { args:=args }=true:=(pre_splitW hpre).2
 obtain ⟨d,r,rfl,h1,h2⟩:=hasAllW_cons hsh
 obtain rfl:=hasAllW_nil h2
 obtain ⟨xs,rfl,h3⟩:=hasW_list h1
 obtain ⟨ns,rfl⟩:=items_int h3
 have hlen:ns.length<=n:=by
  unfold OpenLaw.pre at hc
  have h4:(WTm.not (.lt (.lit (.int (n:Int))) (.len (.arg 0)))).holds [] { args:=[.list (ns.map .int)] }=true:=by
   have h4:=(holds_andW hc).1
   rw [hn] at h4
   exact h4
  have h5:=condW_of h4 (w_not (w_lt w_lit (w_len_list (w_arg rfl))))
  rw [List.length_map] at h5
  refine Nat.le_of_not_lt fun q=>?_
  have q':(n:Int)<((ns.length:Nat):Int):=by omega
  first
   | (rw [decide_eq_true q'] at h5;exact absurd h5 (by decide))
   | (simp at h5;omega)
 cases hwl with
 | cons w1 w2 =>
  cases w2
  cases w1 with
  | list ho hall=>exact ⟨_,_,ns,rfl,rfl,ho,yox ns _ hall,hlen⟩
theorem yyO (l:OpenLaw) (args:List WData):l.row.toRowW.claim.post args (.bool true) args=true :=
 postW_of (r:=l.row.toRowW) (X:=(true == true))
  (show WShape.has [] (.bool true) .bool=true by first|rfl|decide|simp [WShape.has,WShape.arms,WShape.armsAll])
  (show (WTm.eq .res (.lit (.bool true))).value [] { args:=args,res:=some (.bool true),after:=args }=some (.bool (true == true)) from w_eq_bool (w_res rfl) w_lit) rfl
theorem attach_call {l:OpenLaw}{n:Nat}{q:Program}{loose:List Str}{XP:(Str->Option Value)->Heap->Prop}{YP:World->Heap->Prop}{d:DefRec}
  (hn:l.most=some n) (hdf:d.params.defaults=[])
  (call:∀ (w:World) (s₀ s₁:Shared) (mg mb:Str->Option Value) (fa:Addr) (o:Obj) (pm cd doc:Value) (a:Addr) (vs:List Value) (ns:List Int),
   Ground q loose [] XP w s₀ mg mb s₁.heap->YP w s₁.heap ->
   s₁.heap.get? fa=some o->o.data=.func (docDef d.name d.params d.body d.scope pm cd doc)->s₁.heap.CodeRec cd d.name->mg d.name=some (.ref fa) ->
   s₁.heap.get? a=some { cls:=.type "list",data:=.seq vs.toArray }->IntsAre vs ns->ns.length<=n->s₁.gens = #[] ->
   codeAny (model l.prog w) callerA (.call (.ref fa) ⟨[.ref a],[]⟩) (fun r s'=>r=.ok (.ret (.bool true))/\OldK s₁.heap s'.heap/\s'.os=s₁.os/\AllBare s'.gens) s₁) :
  WalkO q loose XP YP l.row.toRowW d [] (fun f vs=>PySem.call f vs):=by
 intro w s₀ s₁ mg mb G Y fa o pm cd doc dV kV ho hd hcd hD hmg hg args vals as hpre hlay hrd hwl hlo
 obtain rfl:dV=.none:=Dflts.none hD hdf
 obtain rfl:kV=.none:=Dflts.noKw hD
 obtain ⟨a,vs,ns,rfl,rfl,hobj,hints,hlen⟩:=yyN hn hpre hwl
 refine enter_call (codeAny_mono (call w s₀ s₁ mg mb fa o pm cd doc a vs ns G Y ho (fd_plain hd) hcd hmg hobj hints hlen hg) fun r s' hq=>?_)
 obtain ⟨rfl,h2,h3,h4⟩:=hq
 exact ⟨.inl ⟨.bool true,.bool true,[],rfl,fun _=>rfl,.bool true,yyO l _,fun _=>⟨List.Pairwise.nil,fun _ hm=>(nomatch hm)⟩⟩,h2,h3,h4⟩
section
variable {prog:Program}{w:World}{A:Around}{E:Value->Shared->Prop}{s:Shared}{K:Frag}
end
end Att
namespace L2
open PySem PySem.Spec PyProof.Rows
theorem ylz:∀ {vs:List Value}{ns:List Int},IntsAre vs ns->Vals (ns.map V.int) vs
 | _,_,.nil=>.nil
 | _,_,.cons n t h=>.cons ⟨t,rfl⟩ (ylz h)
def yKq (H:Hp):Prop:=∀ b,H b=none\/∃ o xs,H b=some (.frz o (.lst xs))
theorem yBA {P:Program}{w:World}{K:PySem.W.Frag}{mg mb:Str->Option Value}{CX:CXT}{k:Nat}{fa a:Addr}{fd:FuncData}{x:Str}{sp:Sp}{s₁:Shared}{vs:List Value}{ns:List Int}
  (KX:K.In s₁.heap) (hns:s₁.heap.Ns mainGlobals mg) (hb:s₁.heap.Ns builtinsNs mb) (hbb:∀ x:Str,x≠"__name__"->mb x=bootBuiltins x) (hlim:s₁.heap.NoLimit) (hg:s₁.gens = #[])
  (ha:s₁.heap.get? a=some { cls:=.type "list",data:=.seq vs.toArray }) (hi:IntsAre vs ns) (hl:ns.length<=sizeLine) (hr:Room k callerA)
  (F:∀ base:Heap,K.In base->base.Ns mainGlobals mg->FnOk P w K mg base CX k fa fd [x] sp) (hbind:∀ (s:Shared) (u:Value),BindsTo s fd ⟨[u],[]⟩ [(x,u)])
  (hsp:∀ H:Hp,yKq H->SqL K H a (ns.map V.int)->sp [.ref a] H (fun v _=>v=.bl true) fun _ _ _=>False)
  (hCX:∀ H e s',CX [] H s₁ (fun _ _ _=>False) e s'->False) :
  codeAny (model P w) callerA (.call (.ref fa) ⟨[.ref a],[]⟩) (fun r s'=>r=.ok (.ret (.bool true))/\OldK s₁.heap s'.heap/\s'.os=s₁.os/\AllBare s'.gens) s₁:=by
 have rv:=ylz hi
 have lenV:=hi.length
 have core:∀ H:Hp,yKq H->SqL K H a (ns.map V.int)->HOk P w H s₁.heap->(∀ b,H b≠none->b=a)->(H a≠none->K.lookup a=none) ->
   codeAny (model P w) callerA (.call (.ref fa) ⟨[.ref a],[]⟩) (fun r s'=>r=.ok (.ret (.bool true))/\OldK s₁.heap s'.heap/\s'.os=s₁.os/\AllBare s'.gens) s₁:=by
  intro H hO hS hok hA hK
  have base_of:∀ {b:Addr}{o:Obj},s₁.heap.get? b=some o->H b=none->(yBl s₁.heap H).get? b=some o:=fun e n=>yBm e n
  have noA:∀ {b:Addr}{o:Obj}{es:Array DictEntry}{ep:Nat},s₁.heap.get? b=some o->o.data=.dict es ep->H b=none:=fun {b o es ep} e d=>by
   cases q:H b with
   | none=>rfl
   | some u =>
    have e':b=a:=hA b (by rw [q];simp)
    subst e'
    rw [ha] at e;cases e
    have d':Data.seq vs.toArray _=Data.dict es ep:=d
    cases d'
  have nsK:∀ {b:Addr}{m:Str->Option Value},s₁.heap.Ns b m->(yBl s₁.heap H).Ns b m:=fun {b m} ⟨o,es,ep,e,d,r⟩=>⟨o,es,ep,base_of e (noA e d),d,r⟩
  have hKb:K.In (yBl s₁.heap H):=fun b o e=>base_of (KX b o e) (by
   cases q:H b with
   | none=>rfl
   | some u =>
    have e':b=a:=hA b (by rw [q];simp)
    subst e'
    rw [hK (by rw [q];simp)] at e;cases e)
  have hM:Mod K mg (yBl s₁.heap H):=⟨hKb,nsK hns,⟨mb,nsK hb,hbb⟩,let ⟨mc,h1,h2⟩:=hlim;⟨mc,nsK h1,h2⟩⟩
  have e0:Env0 P w K mg (yBl s₁.heap H) callerA [] s₁ H:=⟨rfl,hM,fun b o e=>yEO e,Nat.le_of_eq (yys _ _),trivial,fun b hb=>absurd (show b∈([]:List Addr) from hb) (by simp),hok,.of_eq hg⟩
  refine codeAny_mono ((F _ hKb (nsK hns)).run callerA [] s₁ H ⟨[.ref a],[]⟩ [.ref a] [.ref a] _ _ hr e0 (hbind s₁ (.ref a)) (.cons rfl .nil) (hsp H hO hS)) fun r s' h=>?_
  cases r with
  | error e=>exact (hCX H e s' h).elim
  | ok fl =>
   cases fl with
   | next=>exact False.elim h
   | brk=>exact False.elim h
   | cont=>exact False.elim h
   | ret u =>
    obtain ⟨v,H',os,bare,un,hok',r',q⟩:=h
    have q':v=.bl true:=q
    subst q'
    obtain rfl:u=Value.bool true:=r'
    refine ⟨rfl,OldK.of_keep fun b o e=>?_,os,bare⟩
    cases q:H b with
    | none=>exact un.keep b o e q (by intro z;exact absurd (show b∈([]:List Addr) from z) (by simp)) (by simp)
    | some u =>
     rcases hO b with z|⟨ob,xs,z⟩
     .rw [q] at z;cases z
     .have z2:=un.frzs b ob _ z
      obtain ⟨e1,_⟩:=hok b _ z
      obtain ⟨e2,_⟩:=hok' b _ z2
      rw [e] at e1;cases e1
      exact e2
 cases hk:K.lookup a with
 | some o =>
  have e:=KX a o hk
  rw [ha] at e
  cases e
  refine core (fun _=>none) (fun _=>.inl rfl) (.inr ⟨_,vs.toArray,_,hk,rfl,rfl,rfl,by rw [List.size_toArray,lenV];exact hl,by simpa using rv⟩) (fun b u z=>by have z':(none:Option HO)=some u:=z;cases z') (fun b z=>absurd rfl z) fun z=>absurd rfl z
 | none =>
  refine core (fun b=>if b=a then some (.frz { cls:=.type "list",data:=.seq vs.toArray } (.lst (ns.map V.int))) else none) (fun b=>?_) (.inl (.inr ⟨{ cls:=.type "list",data:=.seq vs.toArray },if_pos rfl⟩)) (fun b u z=>?_) (fun b z=>?_) fun _=>hk
  .by_cases hb:b=a
   .exact .inr ⟨_,_,if_pos hb⟩
   .exact .inl (if_neg hb)
  .by_cases hb:b=a
   .have z':=(if_pos hb).symm.trans z
    cases z'
    subst hb
    exact ⟨ha,by rw [List.length_map];exact hl,vs,_,rv,ha⟩
   .have z':=(if_neg hb).symm.trans z
    cases z'
  .by_cases hb:b=a
   .exact hb
   .exact absurd (if_neg hb) z
end L2
namespace L2
open PySem PySem.Spec PyProof.Rows
theorem walk_of {l:PySem.W.OpenLaw}{n k:Nat}{q:Program}{loose:List Str}{XP:(Str->Option Value)->Heap->Prop}{YP:World->Heap->Prop}{d:DefRec}{K:Params->PySem.W.Frag}{CX:World->CXT}{sp:World->Sp}{x:Str}
  (hn:l.most=some n) (hn2:n<=sizeLine) (hdf:d.params.defaults=[]) (hr:Room k callerA)
  (hY:∀ (w:World) (h:Heap),YP w h->(K w.params).In h)
  (F:∀ (w:World) (mg:Str->Option Value) (fa:Addr) (h:Heap),(K w.params).In h->h.Ns mainGlobals mg->mg d.name=some (.ref fa) ->
   ∃ fd:FuncData,(∀ (s:Shared) (u:Value),BindsTo s fd ⟨[u],[]⟩ [(x,u)]) /\
    ∀ base:Heap,(K w.params).In base->base.Ns mainGlobals mg->FnOk l.prog w (K w.params) mg base (CX w) k fa fd [x] (sp w))
  (hsp:∀ (w:World) (H:Hp) (a:Addr) (ns:List Int),ns.length<=n->yKq H->SqL (K w.params) H a (ns.map V.int)->sp w [.ref a] H (fun v _=>v=.bl true) fun _ _ _=>False)
  (hCX:∀ (w:World) (H:Hp) (s:Shared) (e:Value) (s':Shared),CX w [] H s (fun _ _ _=>False) e s'->False) :
  PySem.W.WalkO q loose XP YP l.row.toRowW d [] (fun f vs=>PySem.call f vs):=by
 refine Att.attach_call hn hdf fun w s₀ s₁ mg mb fa o pm cd doc a vs ns G Y ho hd hcd hmg hobj hints hlen hg=>?_
 have KX:=hY w _ Y
 obtain ⟨fd,hb,hF⟩:=F w mg fa _ KX G.T.g hmg
 exact yBA KX G.T.g G.T.b G.T.builtins G.T.nolimit hg hobj hints (Nat.le_trans hlen hn2) hr hF hb (fun H hO hS=>hsp w H a ns hlen hO hS) fun H e s'=>hCX w H s₁ e s'
end L2
namespace L2
open PySem PySem.Spec PyProof.Rows
noncomputable def inClass (s:Stmt) (j:Nat):Stmt:=match s with
 | .ClassDef _ _ _ body _ _ _ _ _ _ _=>body.getD j (.Pass ⟨0,0,0,0⟩)
 | _=>.Pass ⟨0,0,0,0⟩
noncomputable def yk (s:Stmt):Arguments:=match s with
 | .FunctionDef _ a _ _ _ _ _ _ _ _=>a
 | _=>{ posonlyargs:=[],args:=[],vararg:=none,kwonlyargs:=[],kw_defaults:=[],kwarg:=none,defaults:=[] }
def yj (s:Stmt):List Stmt:=match s with
 | .FunctionDef _ _ b _ _ _ _ _ _ _=>b
 | _=>[]
noncomputable def yb (s:Stmt):Scope:=match s with
 | .FunctionDef _ _ _ _ _ _ sc _ _ _=>sc
 | _=>{ kind:=.function,names:=[],isGenerator:=false,isCoroutine:=false }
abbrev CX0:CXT:=fun _ _ _ _ _ _=>False
abbrev E0:XK:=fun _ _ _=>False
theorem yxt {X:Cx}:yly CX0 X E0:=fun _ _ _ _ _ _ _ h=>h.elim
structure Fun (K:PySem.W.Frag) (x qual:Str) (st:Stmt) (f:Addr) (fd:FuncData):Prop where
 ex:∃ (oc:Value) (od:Option Addr) (kV doc pm:Value) (an:Option Addr) (cdv ct:Value) (osl:Array (Option Value)),
  fd=fnOf x qual (yk st) (yj st) (yb st) .none kV doc pm an cdv ct/\K.lookup f=some ⟨oc,od,.func fd,osl⟩/\codeIn K cdv qual=true
 kp:keepIn K (.ref f)=true
section
variable {P:Program}{w:World}{K:PySem.W.Frag}{mg:Str->Option Value}{base:Heap}
theorem Fun.ok {x qual:Str}{st:Stmt}{f:Addr}{fd:FuncData}{N ps:List Str}{k:Nat}{sp:Sp}(F:Fun K x qual st f fd) (S:yt N ps (yb st)) (len:∀ vs H Q E,sp vs H Q E->vs.length=ps.length)
  (hbody:∀ (cdv:Value) (A:Around) (outer:List Env) (s:Shared) (H:Hp) (vs:List V) (Q:VK) (E:XK),Room k (A.deeper (envOfC qual (yb st) s.heap.objs.size f cdv))->sp vs H Q E ->
   ∃ t,PSs (yBz CX0 P w K mg base N qual (yb st) f cdv A outer s H E).nox (yj st) t/\t { nx:=fun _ H'=>Q .non H',rt:=Q } (start N vs) H):FnOk P w K mg base CX0 (k+1) f fd ps sp:=by
 obtain ⟨oc,od,kV,doc,pm,an,cdv,ct,osl,rfl,lk,hcd⟩:=F.ex
 refine yKk lk hcd S len fun A outer s H vs Q E hr hsp=>?_
 obtain ⟨t,h,q⟩:=hbody cdv A outer s H vs Q E hr hsp
 exact ⟨t,h.nox,q⟩
theorem Fun.binds {x qual:Str}{st:Stmt}{f:Addr}{fd:FuncData}{ps:List Str}(F:Fun K x qual st f fd)
  (h:∀ (kV doc pm:Value) (an:Option Addr) (cdv ct:Value) (us:List Value),us.length=ps.length->bindArgs (fnOf x qual (yk st) (yj st) (yb st) .none kV doc pm an cdv ct) ⟨us,[]⟩=pure (ps.zip us)):Binds K fd ps []:=by
 obtain ⟨oc,od,kV,doc,pm,an,cdv,ct,osl,rfl,lk,hcd⟩:=F.ex
 exact .all (h kV doc pm an cdv ct)
theorem yP {x qual:Str}{st:Stmt}{f:Addr}{oc:Value}{od an:Option Addr}{osl:Array (Option Value)}{kV doc pm cdv ct:Value}(l:K.lookup f=some ⟨oc,od,.func (fnOf x qual (yk st) (yj st) (yb st) .none kV doc pm an cdv ct),osl⟩)
  (c:codeIn K cdv qual=true) (k:keepIn K (.ref f)=true):Fun K x qual st f (fnOf x qual (yk st) (yj st) (yb st) .none kV doc pm an cdv ct):=⟨⟨oc,od,kV,doc,pm,an,cdv,ct,osl,rfl,l,c⟩,k⟩
end
theorem yrb {A:Around}{k:Nat}(hr:Room k A):A.units+1<cLine:=Nat.lt_of_le_of_lt (Nat.add_le_add_left (by decide:1<=64) _) hr.units
theorem ysO {n:Nat}(h:n<=1000):n<sizeLine:=Nat.lt_of_le_of_lt h (by decide)
section
variable {X:Cx}
end
def Same (H H':Hp):Prop:=∀ b o,H b=some o->H' b=some o
theorem Same.refl (H:Hp):Same H H:=fun _ _ h=>h
theorem Same.trans {H H1 H2:Hp}(a:Same H H1) (b:Same H1 H2):Same H H2:=fun c o h=>b c o (a c o h)
theorem Same.free {H H':Hp}(e:Same H H') {l:Addr}(h:H' l=Option.none):H l=Option.none:=by
 cases q:H l with
 | none=>rfl
 | some o =>
  rw [e l o q] at h
  cases h
theorem Same.seq {K:PySem.W.Frag}{H H':Hp}{a:Addr}{xs:List V}(e:Same H H') (h:SqL K H a xs):SqL K H' a xs:=by
 rcases h with (h|⟨o,h⟩)|h
 .exact .inl (.inl (e _ _ h))
 .exact .inl (.inr ⟨o,e _ _ h⟩)
 .exact .inr h
end L2
namespace L2
open PySem PySem.Spec PyProof.Rows
def cV:V->Option Value
 | .ty n=>some (.type n)
 | .ref a=>some (.ref a)
 | _=>none
def IsI (K:PySem.W.Frag) (H:Hp) (x c:V) (b:Bool):Prop:=∃ t u,yow K H x t/\cV c=some u/\PySem.W.kitOne K t u=some b
theorem yuN {K:PySem.W.Frag}{H:Hp}{i:Int}:IsI K H (.int i) (.ty "int") true:=⟨_,_,.int i,rfl,by with_unfolding_all rfl⟩
theorem ysP {K:PySem.W.Frag}{H:Hp}{i:Int}:IsI K H (.int i) (.ty "bool") false:=⟨_,_,.int i,rfl,by with_unfolding_all rfl⟩
theorem yuO {K:PySem.W.Frag}{H:Hp}:IsI K H .non (.ty "int") false:=⟨_,_,.non,rfl,by with_unfolding_all rfl⟩
theorem yuP {K:PySem.W.Frag}{H:Hp}{i:Bool}:IsI K H (.bl i) (.ty "bool") true:=⟨_,_,.bl i,rfl,by with_unfolding_all rfl⟩
theorem yuQ {K:PySem.W.Frag}{H:Hp}{i:Str}:IsI K H (.str i) (.ty "str") true:=⟨_,_,.str i,rfl,by with_unfolding_all rfl⟩
theorem ysQ {K:PySem.W.Frag}{H:Hp}{a:Addr}{xs:List V}(e:H a=some (.lst xs)):IsI K H (.ref a) (.ty "list") true:=⟨_,_,.lst e,rfl,by with_unfolding_all rfl⟩
end L2
namespace L2
open PySem
abbrev yKr:R2:=rI0 fun i j=>.int (i+j)
abbrev yKs:R2:=rI0 fun i j=>.int (i-j)
abbrev yKt:R2:=rI CMul fun i j=>.int (i*j)
abbrev yKu:R2:=rI yMa fun i j=>.int (i/j)
abbrev yKv:R2:=rI (fun _ j=>0<j) fun i j=>.int (i%j)
abbrev yKw:R2:=rI yKi fun i j=>.int (i ^ j.toNat)
abbrev yMC:R2:=rI0 fun i j=>.bl (decide (i<j))
abbrev yKx:V->Hp->VK->Prop:=rU fun i=>.int (-i)
def yKy:R2:=fun x y H Q=>∃ i j,x=.str i/\y=.str j/\i.length+j.length<=sizeLine/\Q (.str (i++j)) H
def yMD:R2:=fun x y H Q=>y=.non/\Q (.bl (decide (x=.non))) H
def yKz:R2:=fun x y H Q=>y=.non/\Q (.bl (!decide (x=.non))) H
noncomputable def yKA:List V->Hp->VK->Prop:=fun xs H Q=>(∃ i,xs=[.int i]/\Q (.int i) H)\/∃ k,xs=[.bl k]/\Q (.int (if k then 1 else 0)) H
def yKB:List V->Hp->VK->Prop:=fun xs H Q=>∃ z,xs=[.str z]/\z.length<=sizeLine/\Q (.int z.length) H
noncomputable def yKC (K:PySem.W.Frag):List V->Hp->VK->Prop:=fun xs H Q=>∃ p ys,xs=[.ref p]/\(SqL K H p ys\/SqT K H p ys)/\Q (.int ys.length) H
def yMh (K:PySem.W.Frag):List V->Hp->VK->Prop:=fun xs H Q=>∃ x c b,xs=[x,c]/\IsI K H x c b/\Q (.bl b) H
theorem yhH {H:Hp}{p:Addr}(h:H p=none) (o:HO):Same H (upd H p o):=fun b u q=>by rw [ybe (ycx q h)];exact q
section
variable {K:PySem.W.Frag}{σ:St}{H:Hp}{Q:VK}{ta tb tc:TE}{tA tB':TT}{t u:TS}{D:Ends}
theorem w_not {Q:Bool->Hp->Prop}:yKa tA σ H Q=tA σ H fun c H1=>Q (!c) H1:=rfl
end
end L2
namespace L2
open PySem
noncomputable def yJM (z:Str) (lo hi:Option Int):Str:=⟨((z.cps.toList.drop (HT.sIx z.length 0 lo)).take (HT.sIx z.length z.length hi-HT.sIx z.length 0 lo)).toArray⟩
noncomputable def yMi:V->Option Int->Option Int->Hp->VK->Prop:=fun x lo hi H Q=>∃ z,x=.str z/\z.length<=1000000/\Q (.str (yJM z lo hi)) H
noncomputable def yyP:V->List V->Hp->VK->Prop:=fun x vs H Q=>∃ (z:Str) (c:Nat),x=.str z/\vs=[.str ⟨#[c]⟩]/\z.length<=1000/\c∈z.cps.toList/\Q (.int (z.cps.toList.idxOf c)) H
noncomputable def yMj:List V->Hp->VK->Prop:=fun xs H Q=>∃ (p:Addr) (ns:List Int),xs=[.ref p]/\H p=some (.lst (ns.map V.int))/\Q (.int ns.sum) H
noncomputable def yFj (K:PySem.W.Frag):List V->Hp->VK->Prop:=fun xs H Q=>∃ p ys,xs=[.ref p]/\(SqL K H p ys\/SqT K H p ys)/\∀ l,H l=none->Q (.ref l) (upd H l (.lst ys))
noncomputable def yKD (J:It) (te:TE) (inn:V->St) (D:Addr) (Q:VK) (H:Hp):Prop:=∃ W:Nat->Nat->Hp->Prop,(∃ m,W 0 m H)/\∀ i m H,W i m H ->
 (J.stop i H/\Q (.ref D) H)\/(J.go i H/\∀ x H',J.yld i H x H'->te (inn x) H' fun y H2=>∃ acc,H2 D=some (.lst acc)/\acc.length<sizeLine/\∃ m',m'<m/\W (i+1) m' (upd H2 D (.lst (acc++[y]))))
def inner (ix:List Nat) (σ:St) (x:V):St:=some x::ix.map fun i=>(σ[i]?).getD none
noncomputable def yFk (wi:TI) (ix:List Nat) (te:TE):TE:=fun σ H Q=>wi σ H fun J H1=>∀ D,H1 D=none->yKD J te (inner ix σ) D Q (upd H1 D (.lst []))
section
variable {K:PySem.W.Frag}{σ:St}{H:Hp}{Q:VK}{ta tb tc:TE}{tA tB':TT}{t u:TS}{D:Ends}
end
end L2
namespace L2
open PySem
def yDz (C:Addr):TE:=fun _ H Q=>∀ x dx,H x=none->H dx=none->dx≠x->Q (.ref x) (upd (upd H dx (.own x)) x (.ins C dx []))
theorem yKE {k:Str}{v:V}{r:List (Str×V)}:List.lookup k ((k,v)::r)=some v:=by simp [List.lookup]
theorem yHQ {k k':Str}{v:V}{r:List (Str×V)}(h:¬ k=k'):List.lookup k ((k',v)::r)=List.lookup k r:=by
 have:(k == k')=false:=by simpa using h
 simp [List.lookup,this]
section
variable {K:PySem.W.Frag}{σ:St}{H:Hp}{Q:VK}{ta tb tc:TE}{t u:TS}{D:Ends}
end
end L2
namespace L2
open PySem PySem.Builtin PySem.Builtin.Str
theorem at_one {z:Str}{c i:Nat}:StrLaws.At z ⟨#[c]⟩ z.length i ↔ z.cps.toList[i]?=some c:=by
 unfold StrLaws.At subAt
 have e1:(⟨#[c]⟩:Str).length=1:=rfl
 rw [e1]
 have e2:(z.cps.extract i (i+1) == (⟨#[c]⟩:Str).cps)=true ↔ z.cps.extract i (i+1) = #[c]:=by simp
 rw [e2]
 constructor
 .rintro ⟨h1,h2⟩
  have h3:(z.cps.extract i (i+1)).toList=[c]:=by rw [h2]
  rw [Array.toList_extract,List.extract_eq_take_drop] at h3
  have h4:((z.cps.toList.drop i).take (i+1-i))[0]?=some c:=by rw [h3];rfl
  rw [List.getElem?_take_of_lt (by omega),List.getElem?_drop] at h4
  simpa using h4
 .intro h
  obtain ⟨hlt,hc⟩:=List.getElem?_eq_some_iff.mp h
  have hl:i<z.length:=by simpa [Str.length] using hlt
  refine ⟨by omega,?_⟩
  apply Array.ext'
  rw [Array.toList_extract,List.extract_eq_take_drop]
  have e:i+1-i=1:=by omega
  rw [e,List.drop_eq_getElem_cons hlt,hc]
  rfl
theorem yFl (z:Str) (c:Nat):(occurrences z ⟨#[c]⟩ 0 z.length 1=[]/\c∉z.cps.toList)\/∃ r,occurrences z ⟨#[c]⟩ 0 z.length 1=z.cps.toList.idxOf c::r/\c∈z.cps.toList:=by
 rcases StrLaws.occ_head z ⟨#[c]⟩ 1 (Nat.le_refl _) with ⟨h1,h2⟩|⟨i,r,h1,h2,h3⟩
 .refine .inl ⟨h1,fun hc=>?_⟩
  obtain ⟨i,hi,e⟩:=List.getElem_of_mem hc
  exact h2 i (at_one.mpr (List.getElem?_eq_some_iff.mpr ⟨hi,e⟩))
 .have hi:=at_one.mp h2
  obtain ⟨hlt,hc⟩:=List.getElem?_eq_some_iff.mp hi
  have hm:c∈z.cps.toList:=List.mem_of_getElem? hi
  refine .inr ⟨r,?_,hm⟩
  have hj:z.cps.toList.idxOf c<z.cps.toList.length:=List.idxOf_lt_length_of_mem hm
  have hg:z.cps.toList[z.cps.toList.idxOf c]?=some c:=by
   rw [List.getElem?_eq_getElem hj,List.getElem_idxOf hj]
  have e:i=z.cps.toList.idxOf c:=by
   rcases Nat.lt_trichotomy i (z.cps.toList.idxOf c) with h|h|h
   .exact absurd hc (by
     have:=List.not_of_lt_findIdx (p:=(· == c)) (xs:=z.cps.toList) (i:=i) (by simpa [List.idxOf] using h)
     simpa using this)
   .exact h
   .exact absurd (at_one.mpr hg) (h3 _ h)
  rw [h1,e]
theorem yyQ (v:Option Int) (n d:Nat):(match v with|none=>(d:Int)|some i=>max 0 (min (if i<0 then i+(n:Int) else i) (n:Int)))=((HT.sIx n d v:Nat):Int):=by
 cases v with
 | none=>rfl
 | some i =>
  show max 0 (min (if i<0 then i+(n:Int) else i) (n:Int))=(((if i<0 then (i+(n:Int)).toNat else min i.toNat n):Nat):Int)
  split<;>omega
theorem yFm (lo hi:Option Int) (n:Nat):strSliceIndices lo hi 1 n=(List.range (HT.sIx n n hi-HT.sIx n 0 lo)).map (fun k=>HT.sIx n 0 lo+k):=by
 have h1:=yyQ lo n 0
 have h2:=yyQ hi n n
 generalize HT.sIx n 0 lo=a at *
 generalize HT.sIx n n hi=b at *
 have e:strSliceIndices lo hi 1 n=sliceRange (a:Int) (b:Int) 1:=by
  rw [<- h1,<- h2]
  cases lo<;>cases hi<;>rfl
 rw [e]
 unfold sliceRange
 rw [if_pos (show (1:Int)>0 by decide)]
 have e3:(if (a:Int)<b then ((b:Int)-a+1-1)/1 else 0).toNat=b-a:=by
  split
  .rw [Int.ediv_one];omega
  .omega
 show (List.range (if (a:Int)<b then ((b:Int)-a+1-1)/1 else 0).toNat).map _=_
 rw [e3]
 refine List.map_congr_left fun k _=>?_
 omega
theorem yHR (n:Nat) (hi:Option Int):HT.sIx n n hi<=n:=by
 cases hi with
 | none=>exact Nat.le_refl _
 | some v =>
  show (if v<0 then (v+(n:Int)).toNat else min v.toNat n)<=n
  split<;>omega
theorem yBB (l:List Nat) (a k:Nat) (h:a+k<=l.length):((List.range k).map (fun j=>a+j)).filterMap (fun j=>l[j]?)=(l.drop a).take k:=by
 induction k with
 | zero=>simp
 | succ k ih =>
  rw [List.range_succ,List.map_append,List.filterMap_append,ih (by omega)]
  have hlt:a+k<l.length:=by omega
  simp only [List.map_cons,List.map_nil,List.filterMap_cons,List.filterMap_nil,List.getElem?_eq_getElem hlt]
  rw [List.take_succ,List.getElem?_drop,List.getElem?_eq_getElem hlt]
  rfl
theorem yyR (z:Str) (lo hi:Option Int):Txt.slice z lo hi=yJM z lo hi:=by
 unfold Txt.slice yJM
 rw [yFm]
 have hz:z.cps.toList.length=z.length:=by simp [Str.length]
 have hb:=yHR z.length hi
 generalize HT.sIx z.length 0 lo=a at *
 generalize HT.sIx z.length z.length hi=b at *
 split
 .rename_i h
  have h2:b-a=z.length:=by simpa using h
  have h3:a=0\/z.length=0:=by omega
  obtain ⟨⟨l⟩⟩:=z
  simp only [Str.length,List.size_toArray] at *
  rcases h3 with h3|h3
  .subst h3
   rw [List.drop_zero,h2,List.take_length]
  .have:l=[]:=List.eq_nil_of_length_eq_zero h3
   subst this
   simp
 .congr 2
  by_cases hab:a<=b
  .have:=yBB z.cps.toList a (b-a) (by omega)
   simpa using this
  .have:b-a=0:=by omega
   rw [this]
   simp
end L2
namespace L2
open PySem PySem.Spec PyProof.Rows
theorem yet {env:Env}(y:Str):∀ names:List (Str×NameKind),
  (names.map fun (n,k)=>if (k == NameKind.free && env.scope.kind == .function && env.kindOf n == some .cell) then (n,NameKind.cell) else (n,k)).lookup y
   = (names.lookup y).map fun k=>if (k == NameKind.free && env.scope.kind == .function && env.kindOf y == some .cell) then NameKind.cell else k
 | []=>rfl
 | (n,k)::r=>by
  have ih:=yet (env:=env) y r
  show List.lookup y ((if (k == NameKind.free && env.scope.kind == .function && env.kindOf n == some .cell)=true then (n,NameKind.cell) else (n,k))::_)=_
  cases hx:y == n with
  | true =>
   have e:y=n:=eq_of_beq hx
   subst e
   by_cases hc:(k == NameKind.free && env.scope.kind == .function && env.kindOf y == some .cell)=true
   .rw [if_pos hc]
    simp only [List.lookup_cons,hx,Option.map_some,if_pos hc]
   .rw [if_neg hc]
    simp only [List.lookup_cons,hx,Option.map_some,if_neg hc]
  | false =>
   by_cases hc:(k == NameKind.free && env.scope.kind == .function && env.kindOf n == some .cell)=true
   .rw [if_pos hc];simp only [List.lookup_cons,hx];exact ih
   .rw [if_neg hc];simp only [List.lookup_cons,hx];exact ih
theorem yhI {env:Env}:∀ (names:List (Str×NameKind)) (cs:List (Str×Addr)),(∀ n,(n,NameKind.free)∈names->∃ c,env.cells.lookup n=some c) ->
  ∃ cl,(forIn names cs (fun (x:Str×NameKind) (r:List (Str×Addr))=>if (x.2 == NameKind.free)=true then do let c <- cellOf env x.1;pure (ForInStep.yield ((x.1,c)::r)) else pure (ForInStep.yield r)):Sem (List (Str×Addr)))=pure cl /\
   (∀ y,(y,NameKind.free)∈names->cl.lookup y=env.cells.lookup y)/\(∀ y,(y,NameKind.free)∉names->cl.lookup y=cs.lookup y)
 | [],cs,_=>⟨cs,rfl,fun y h=>by simp at h,fun y _=>rfl⟩
 | (n,k)::r,cs,h=>by
  by_cases hk:k=.free
  .subst hk
   obtain ⟨c,hc⟩:=h n List.mem_cons_self
   obtain ⟨cl,e,h1,h2⟩:=yhI r ((n,c)::cs) fun y hy=>h y (List.mem_cons_of_mem _ hy)
   refine ⟨cl,?_,fun y hy=>?_,fun y hy=>?_⟩
   .rw [List.forIn_cons]
    have e0:cellOf env n=pure c:=by unfold cellOf;rw [hc]
    simp only [beq_self_eq_true,if_true,e0,pure_bind]
    exact e
   .by_cases hr:(y,NameKind.free)∈r
    .exact h1 y hr
    .rw [h2 y hr]
     rcases List.mem_cons.mp hy with z|z
     .cases z
      rw [hc];simp [List.lookup]
     .exact absurd z hr
   .have hr:(y,NameKind.free)∉r:=fun z=>hy (List.mem_cons_of_mem _ z)
    rw [h2 y hr]
    have hn:(y == n)=false:=by
     cases e:y == n with
     | false=>rfl
     | true=>exact absurd (by rw [eq_of_beq e];exact List.mem_cons_self) hy
    simp [List.lookup,hn]
  .obtain ⟨cl,e,h1,h2⟩:=yhI r cs fun y hy=>h y (List.mem_cons_of_mem _ hy)
   have hb:(k == NameKind.free)=false:=by simpa using hk
   refine ⟨cl,?_,fun y hy=>?_,fun y hy=>?_⟩
   .rw [List.forIn_cons]
    simp only [hb,Bool.false_eq_true,if_false,pure_bind]
    exact e
   .rcases List.mem_cons.mp hy with z|z
    .cases z;exact absurd rfl hk
    .exact h1 y z
   .exact h2 y fun z=>hy (List.mem_cons_of_mem _ z)
noncomputable def cxC (X:Cx) (scope:Scope) (cl:List (Str×Addr)) (C:Addr) (N:List Str) (s₃:Shared) (H₃:Hp) (fp:List Addr) (pins:List (Addr×Obj)):Cx :=
 { prog:=X.prog,w:=X.w,K:=X.K,mg:=X.mg,base:=X.base,A:=X.A,N:=N,s₀:=s₃,H₀:=H₃,env:=compEnvC scope cl C X.env,outer:=X.stack,stack:=X.stack,ex:=fp,fn:=fun _=>false,calm:=X.calm,pn:=X.pn++pins,xe:=fun _ _=>False }
noncomputable def FrOk (X:Cx) (scope:Scope):List Nat->List Str->Prop
 | [],[]=>True
 | i::is,y::ys=>X.N[i]?=some y/\scope.names.lookup y=some .free/\X.env.kindOf y=some .cell/\FrOk X scope is ys
 | _,_=>False
theorem FrOk.len {X:Cx}{scope:Scope}:∀ {is:List Nat}{ys:List Str},FrOk X scope is ys->is.length=ys.length
 | [],[],_=>rfl
 | _::is,_::ys,h=>by rw [List.length_cons,List.length_cons,FrOk.len h.2.2.2]
theorem FrOk.get {X:Cx}{scope:Scope}:∀ {is:List Nat}{ys:List Str}{j:Nat}{y:Str},FrOk X scope is ys->ys[j]?=some y->∃ i,is[j]?=some i/\X.N[i]?=some y/\scope.names.lookup y=some .free/\X.env.kindOf y=some .cell
 | [],[],_,_,_,e=>by simp at e
 | [],_::_,_,_,h,_=>h.elim
 | _::_,[],_,_,h,_=>h.elim
 | i::is,z::ys,0,y,h,e=>by
  simp at e
  subst e
  exact ⟨i,rfl,h.1,h.2.1,h.2.2.1⟩
 | i::is,z::ys,j+1,y,h,e=>by
  obtain ⟨k,h1,h2⟩:=FrOk.get (j:=j) h.2.2.2 (by simpa using e)
  exact ⟨k,by simpa using h1,h2⟩
theorem yFn {X:Cx}{elt iter:Expr}{x:Str}{px:Pos}{scope:Scope}{cpos:Pos}{wi:TI}{te:TE}(ix:List Nat) (fr:List Str) (hc:X.calm=true) (hi:PI X (.Name x px) iter wi) (hfr:FrOk X scope ix fr)
  (he:∀ (cl:List (Str×Addr)) (C:Addr) (s₃:Shared) (H₃:Hp) (fp:List Addr) (pins:List (Addr×Obj)),PE (cxC X scope cl C (x::fr) s₃ H₃ fp pins) elt te)
  (hnd:(x::fr).Nodup:=by rfl') (hkind:scope.kind=.function:=by rfl) (hcell:∀ y∈scope.names,y.2≠.cell:=by rfl')
  (hnames:∀ y∈scope.names,y.2=.local->scope.names.lookup y.1=some .local:=by rfl') (hfree0:∀ y∈scope.names,y.2=.free->y.1∈fr:=by rfl') (hx:scope.names.lookup x=some .local:=by rfl)
  (hs:∀ v,foldedSetIterable iter X.env v=pure v:=by intro _;rfl):PE X (.ListComp elt [⟨.Name x px,iter,[],0⟩] scope cpos) (yFk wi ix te):=by
 intro pins s σ H Q I h
 have hfn:X.env.scope.kind=.function:=I.ok.kind
 have hfree:∀ y∈scope.names,y.2=.free->X.env.kindOf y.1=some .cell/\scope.names.lookup y.1=some .free:=fun y hy e=>by
  obtain ⟨j,hj,ej⟩:=List.getElem_of_mem (hfree0 y hy e)
  obtain ⟨i,_,_,h3,h4⟩:=hfr.get (j:=j) (y:=y.1) (by rw [List.getElem?_eq_getElem hj,ej])
  exact ⟨h4,h3⟩
 obtain ⟨cl,ecl,hcl1,hcl2⟩:=yhI (env:=X.env) scope.names [] fun n hn=>I.ok.has n (.inl (hfree _ hn rfl).1)
 have hclos:closureFor scope X.env=pure cl:=by
  unfold closureFor
  have:(forIn scope.names ([]:List (Str×Addr)) (fun (x:Str×NameKind) (r:List (Str×Addr))=>if (x.2 == NameKind.free)=true then do let c <- cellOf X.env x.1;pure (ForInStep.yield ((x.1,c)::r)) else pure (ForInStep.yield r)):Sem (List (Str×Addr)))=pure cl:=ecl
  first
   | exact (by simpa using congrArg (· >>= fun r=>pure r) this)
   | (rw [show (pure cl:Sem (List (Str×Addr)))=(pure cl >>= fun r=>pure r) from rfl,<- this];rfl)
 have hcle:∀ y c,cl.lookup y=some c->X.env.cells.lookup y=some c/\(y,NameKind.free)∈scope.names:=fun y c e=>by
  by_cases hy:(y,NameKind.free)∈scope.names
  .exact ⟨by rw [<- hcl1 y hy];exact e,hy⟩
  .rw [hcl2 y hy] at e;simp at e
 rw [eval_ListComp]
 refine wpAny_comprehension_free (use:=none) rfl hs hclos hkind hnames ?_
 refine thn (hi pins s σ H _ I h) fun v s1 h1=>thn h1 fun itv s2 h2=>?_
 obtain ⟨it,fp,tn,J,H2,e,I2,T,st2,f2,q2⟩:=h2
 subst e
 refine wpAny_newObj_type ?_
 generalize hs3:({ s2 with heap:=s2.heap.push { cls:=.type "list",dict:=none,data:=.seq ([]:List Value).toArray } }:Shared)=s3
 generalize hD:s2.heap.objs.size=D
 have hDn:H2 D=none:=by rw [<- hD];exact I2.hok.fresh (Nat.le_refl _)
 have I3:Inv X pins σ (upd H2 D (.lst [])) s3:=by
  rw [<- hs3,<- hD]
  exact I2.lnew (t':=s2.toks) (ys:=[]) (its:=[]) .nil (Nat.zero_le _)
 have k3:∀ b o,s2.heap.get? b=some o->s3.heap.get? b=some o:=fun b o e=>by rw [<- hs3];exact Heap.get?_push_of_some _ e
 have st3:tn 0 s3.heap:=T.keep _ _ _ st2 fun b _ o e=>k3 b o e
 have fne:∀ b∈fp,b≠D:=fun b hb=>by
  obtain ⟨o,e,_⟩:=T.obj _ _ st2 b hb
  rw [<- hD]
  exact Nat.ne_of_lt (Heap.lt_size e)
 have f3:∀ b∈fp,yyv X pins (upd H2 D (.lst [])) b:=fun b hb=>⟨by rw [ybe (fne b hb)];exact (f2 b hb).1,(f2 b hb).2⟩
 have q3:=q2 D hDn
 generalize upd H2 D (.lst [])=H3 at I3 f3 q3
 obtain ⟨W,⟨m0,w0⟩,turn⟩:=q3
 refine wpAny_newFunctionEnv hcell (by intro y hy;simp at hy) (fun h4 hns hsb=>?_) hkind
 try dsimp only at hns hsb ⊢
 generalize hC:s3.heap.objs.size=C at hns hsb ⊢
 have k4:∀ b o,s3.heap.get? b=some o->h4.get? b=some o:=fun b o e=>(hsb.2 b (by rw [<- hC];exact Nat.ne_of_lt (Heap.lt_size e))).trans (Heap.get?_push_of_some _ e)
 have Cne:∀ b o,s3.heap.get? b=some o->b≠C:=fun b o e=>by rw [<- hC];exact Nat.ne_of_lt (Heap.lt_size e)
 have stk:=I3.stkSub
 have pinF:∀ p∈X.pn++pins,p.1∉frs X.stack:=fun p hp z=>by
  obtain ⟨_,_,n1,n2,_⟩:=I3.pin p hp
  rcases List.mem_cons.mp (stk _ z) with z|z
  .exact n1 z
  .exact n2 z
 have okC:(cxC X scope cl C (x::fr) s3 H3 fp pins).Ok:=by
  refine ⟨I3.ok.mod,by show (relabel scope X.env).kind=_;exact hkind,I3.ok.glob,I3.ok.blt,Nat.le_of_eq hC,fun y z c h1 h2=>I3.ok.inj y z c (hcle y c h1).1 (hcle z c h2).1,fun y hy=>?_,fun y c hf _=>(by cases hf),I3.ok.hd,I3.ok.frames,.inl rfl,fun b hb=>⟨?_,fun y c e z=>?_⟩,I3.bs,?_,fun b o e hb=>?_,fun b hb z=>?_,I3.stack,I3.stkFree⟩
  .have hy:((relabel scope X.env).names.lookup y=some .cell)\/((relabel scope X.env).names.lookup y=some .free):=hy
   rw [show (relabel scope X.env).names.lookup y=_ from yet y scope.names] at hy
   cases e:scope.names.lookup y with
   | none=>rw [e] at hy;simp at hy
   | some k =>
    have hm:(y,k)∈scope.names:=PySem.mem_of_lookup e
    have hkf:k=.free:=by
     rw [e] at hy
     cases k<;>simp at hy ⊢
     exact absurd rfl (hcell _ hm)
    subst hkf
    obtain ⟨c,hc'⟩:=I3.ok.has y (.inl (hfree _ hm rfl).1)
    exact ⟨c,by show cl.lookup y=_;rw [hcl1 y hm];exact hc'⟩
  .obtain ⟨o,e,_⟩:=T.obj _ _ st3 b hb
   exact Cne b o e
  .exact (f3 b hb).2.2.2.2.1 y c (hcle y c e).1 z
  .exact Nat.le_trans I3.ok.bsz I3.sz
  .rcases (f3 b hb).2.2.2.1 with z|z
   .exact I3.ok.noex b o e z
   .exact absurd (Nat.lt_of_lt_of_le (Heap.lt_size e) (Nat.le_trans I3.ok.bsz z)) (Nat.lt_irrefl _)
  .rcases List.mem_cons.mp (stk _ z) with z|z
   .exact (f3 b hb).2.1 z
   .exact (f3 b hb).2.2.1 z
 have inn:∀ v,(inner ix σ v)=some v::ix.map fun i=>(σ[i]?).getD none:=fun _=>rfl
 have I4:Inv (cxC X scope cl C (x::fr) s3 H3 fp pins) [] (none::ix.map fun i=>(σ[i]?).getD none) H3 { s3 with heap:=h4,toks:=s3.toks+([]:List (Str×Value)).length }:=by
  refine ⟨okC,rfl,I3.bare,Un.kept k4,⟨_,hns,fun j y v e1 e2 e3=>?_⟩,fun y c e=>?_,I3.hok.fresh (Nat.le_of_eq hC),fun y c e=>I3.freeC y c (hcle y c e).1,fun p hp=>?_,I3.hok.kept k4,?_⟩
  .match j,e1,e2 with
   | 0,e1,e2=>simp at e2
   | j+1,e1,e2 =>
    obtain ⟨i,hi1,hi2,hi3,hi4⟩:=hfr.get (j:=j) (y:=y) (by have e1':(x::fr)[j+1]?=some y:=e1;simpa using e1')
    have e2':σ[i]?=some (some v):=by
     have e2:(ix.map fun i=>(σ[i]?).getD none)[j]?=some (some v):=by simpa using e2
     rw [List.getElem?_map,hi1] at e2
     simp at e2
     cases z:σ[i]? with
     | none=>rw [z] at e2;simp at e2
     | some o=>rw [z] at e2;simp at e2;rw [e2]
    obtain ⟨m,_,hl⟩:=I3.loc
    obtain ⟨u,r,l⟩:=hl i y v hi2 e2' (.inr (.inl hi4))
    refine ⟨u,r,?_⟩
    rcases l with ⟨k,_⟩|⟨k,c,ec,z⟩
    .rw [hi4] at k;cases k
    .have hm:(y,NameKind.free)∈scope.names:=PySem.mem_of_lookup hi3
     refine .inr ⟨.inl ?_,c,by show cl.lookup y=_;rw [hcl1 y hm];exact ec,?_⟩
     .show (relabel scope X.env).names.lookup y=_
      rw [show (relabel scope X.env).names.lookup y=_ from yet y scope.names,hi3]
      simp [hfn,hi4]
     .obtain ⟨o,ho,hd⟩:=z
      exact ⟨o,k4 _ _ ho,hd⟩
  .obtain ⟨v,o,ho,hd⟩:=I3.cell y c (hcle y c e).1
   exact ⟨v,o,k4 _ _ ho,hd⟩
  .have hp:p∈X.pn++pins:=by simpa [cxC] using hp
   obtain ⟨e,n,ne,nf,d⟩:=I3.pin p hp
   exact ⟨k4 _ _ e,n,Cne _ _ e,pinF p hp,d⟩
  .show (none::ix.map fun i=>(σ[i]?).getD none).length=(x::fr).length
   rw [List.length_cons,List.length_cons,List.length_map,hfr.len]
 have st4:tn 0 h4:=T.keep _ _ _ st3 fun b _ o e=>k4 b o e
 have f4:∀ b∈fp,b≠C/\b∉frs X.stack/\(∀ y c,cl.lookup y=some c->c≠b)/\∀ p∈(X.pn++pins)++([]:List (Addr×Obj)),p.1≠b:=fun b hb=>by
  obtain ⟨o,e,_⟩:=T.obj _ _ st3 b hb
  refine ⟨Cne b o e,fun z=>?_,fun y c e=>(f3 b hb).2.2.2.2.1 y c (hcle y c e).1,fun p hp=>(f3 b hb).2.2.2.2.2 p (by simpa using hp)⟩
  rcases List.mem_cons.mp (stk _ z) with z|z
  .exact (f3 b hb).2.1 z
  .exact (f3 b hb).2.2.1 z
 have stat:∀ {H':Hp},(∀ b∈fp,H' b=none)->∀ b∈fp,yyv (cxC X scope cl C (x::fr) s3 H3 fp pins) [] H' b:=fun hn b hb=>⟨hn b hb,(f4 b hb).1,(f4 b hb).2.1,.inl hb,(f4 b hb).2.2.1,(f4 b hb).2.2.2⟩
 have fin:∀ {σ':St}{H':Hp}{s':Shared},Inv (cxC X scope cl C (x::fr) s3 H3 fp pins) [] σ' H' s'->Q (.ref D) H'->compPost (model X.prog X.w) X.A X.xe none (EP X pins σ Q) (.ref D) C (.ok .next) s':=fun {σ' H' s'} I' q'=>by
  obtain ⟨m,hn,_⟩:=I'.loc
  refine ⟨m,hn,fun h' sb=>⟨.ref D,H',?_,rfl,q'⟩⟩
  have hCn:H' C=none:=I'.free
  have same:∀ b,b≠C->h'.get? b=s'.heap.get? b:=fun b hb=>sb.2 b hb
  have U:=I'.base
  have U':Un (frs X.stack) fp H3 H' s3.heap h':=by
   refine ⟨fun b o e n h1 h2=>?_,fun b o e n h1 h2=>?_,U.free,fun b o e h2=>?_,U.tups,U.frzs,U.tbls⟩
   .rw [same b (Cne b o e)];exact U.keep b o e n h1 h2
   .rw [same b (Cne b o e)];exact U.slot b o e n h1 h2
   .rw [same b (Cne b o e)];exact U.there b o e h2
  refine I3.call' (s':={ s' with heap:=h' }) (by show s'.os=s3.os;exact I'.os) U' ?_ I'.bare fun b hb=>⟨(f3 b hb).2.2.2.1,(f3 b hb).2.1,(f3 b hb).2.2.2.2.1,(f3 b hb).2.2.2.2.2⟩
  intro b ob e
  refine (I'.hok b ob e).stay (fun c w' hc q=>?_) (fun _ q=>q) fun _ _ q=>q
  show h'.get? c=_
  rw [same c ?_]
  .exact q
  rintro rfl
  rcases hc with rfl|hc
  .rw [hCn] at e;cases e
  .rw [hCn] at hc;cases hc
 have loop:∀ s5:Shared,s5={ s3 with heap:=h4,toks:=s3.toks+([]:List (Str×Value)).length } ->
   codeAny (model X.prog X.w) X.A (.compLoop (.ListComp elt [⟨.Name x px,iter,[],0⟩] scope cpos) 0 (.ref it) (.ref D) (compEnvC scope cl C X.env)) (compPost (model X.prog X.w) X.A X.xe none (EP X pins σ Q) (.ref D) C) s5:=by
  rintro s5 rfl
  refine codeAny_loop rfl (fun n s'=>∃ i o H',Inv (cxC X scope cl C (x::fr) s3 H3 fp pins) [] (o::ix.map fun i=>(σ[i]?).getD none) H' s'/\tn i s'.heap/\(∀ b∈fp,H' b=none)/\W i n H') ?_ m0 ⟨0,none,H3,I4,st4,fun b hb=>(f3 b hb).1,w0⟩
  rintro n s6 ⟨i,o,H6,I6,st6,fr6,w6⟩
  show wpAny _ _ ((compTurn (.ListComp elt [⟨.Name x px,iter,[],0⟩] scope cpos) 0 (.ref it) (.ref D) (compEnvC scope cl C X.env)).onRaise (fun x=>do noteFrame x (compEnvC scope cl C X.env);theTreesLotGoes x)) _ _ s6
  refine wpAny_noted ?_
  rw [compTurn_list1]
  rcases turn i n H6 w6 with ⟨stop,qn⟩|⟨go,step⟩
  .refine wpAny_bind (wpAny_standAt (wpAny_bind (thn (T.done (cxC X scope cl C (x::fr) s3 H3 fp pins) rfl rfl rfl hc i [] s6 _ H6 _ I6 (stat fr6) st6 stop) fun r s7 ⟨hr,I7⟩=>?_)))
   subst hr
   exact wpAny_pure (fin I7 qn)
  .refine wpAny_bind (wpAny_standAt (wpAny_bind (thn (T.item (cxC X scope cl C (x::fr) s3 H3 fp pins) rfl rfl rfl hc i [] s6 _ H6 _ I6 (stat fr6) st6 go) fun r s7 ⟨u,hr,h7⟩=>?_)))
   subst hr
   refine wpAny_bind (thn h7 fun _ s8 ⟨y,H8,I8,r8,y8,st8,fr8⟩=>?_)
   have I8':=I8.pinned (stat fr8) (T.obj _ _ st8)
   have hx':Loc (cxC X scope cl C (x::fr) s3 H3 fp pins).env.scope x:=.inl (lookup_relabel_local hx)
   refine wpAny_bind (wpAny_mono (yqX (X:=cxC X scope cl C (x::fr) s3 H3 fp pins) (i:=0) (x:=x) (pos:=px) hnd rfl hx' (.inr (lookup_relabel_local hx)) _ s8 _ H8 y u (fun σ9 H9=>σ9=inner ix σ y/\H9=H8) I8' r8 ⟨rfl,rfl⟩) (fun _ s9 ⟨σ9,H9,I9,e9,e9'⟩=>?_) fun _ _ f=>f.elim)
   subst e9 e9'
   refine wpAny_bind (wpAny_bind (wpAny_mono (he cl C s3 H3 fp pins _ s9 _ _ _ I9 (step y _ y8)) (fun v s10 ⟨z,H10,I10,r10,acc,a10,l10,m',hm',w10⟩=>?_) fun _ _ f=>f.elim))
   refine wpAny_bind (wpAny_mono (yhb (X:=cxC X scope cl C (x::fr) s3 H3 fp pins) _ s10 _ H10 (.ref D) [z] (.ref D) [v] (fun _ H11=>H11=upd H10 D (.lst (acc++[z]))) I10 rfl (.cons r10 .nil) ⟨D,acc,z,rfl,rfl,a10,l10,rfl⟩) (fun _ s11 ⟨_,H11,I11,_,e11⟩=>?_) fun _ _ f=>f.elim)
   subst e11
   refine wpAny_pure (wpAny_pure ⟨rfl,m',hm',i+1,some y,_,I11.unpinned,T.keep _ _ _ st8 fun b hb o e=>(I11.pin (b,o) (List.mem_append_right _ (List.mem_append_right _ (yfA hb e)))).1,fun b hb=>?_,w10⟩)
   obtain ⟨o,e,d⟩:=T.obj _ _ st8 b hb
   exact (I11.pin (b,o) (List.mem_append_right _ (List.mem_append_right _ (yfA hb e)))).2.1
 exact codeAny_compStart_list (loop _ rfl) (T.self X.A 0 _ _ _ st4 (loop _ rfl))
end L2
namespace L2
open PySem PySem.Spec PyProof.Rows
section
variable {X:Cx}{tg:Expr}
theorem yrc (hc:X.calm=true):ykN X (.builtin "sum") yMj:=by
 intro pins s σ H xs us Q I r h
 obtain ⟨p,ns,rfl,hp,q⟩:=h
 obtain ⟨u,rfl,rx⟩:=vals1 r
 cases rx
 obtain ⟨its,n,rv,e,hz⟩:=I.lst hp
 have hi:IntsAre its ns:=intsAre_of rv
 have hl:s.heap.IsList p its.toArray:=⟨_,e,rfl,n,rfl⟩
 obtain ⟨xs,hx⟩:=hi.allInts.items
 have hl':s.heap.IsList p (intItems xs):=hx ▸ hl
 refine sum_intListG (I.ok.hd hc) hl' fun h' tk t' hk=>?_
 have e1:ns=xs.toList.map (·.1):=by
  rw [<- nums_intItems,<- hx]
  exact (show numsOf its.toArray.toList=ns from hi.numsOf).symm
 have e2:preSum (numAt xs) xs.size=ns.sum:=by
  rw [preSum_eq,List.take_of_length_le (by simp),e1]
 rw [e2]
 exact ⟨.int ns.sum,H,I.kept (t':=tk) hk,⟨_,rfl⟩,q⟩
theorem yHS:SlR X yMi:=by
 intro pins s σ H x v vl vu lo hi sl Q I rx hs pl pu h
 obtain ⟨z,rfl,hz,q⟩:=h
 obtain ⟨t,rfl⟩:=rx
 have pv':∀ {w':Value}{o:Option Int},IsPart w' o->∃ p:Option (Int×Tok),w'=partValue p/\p.map (·.1)=o:=fun {w' o} p=>by
  cases p with
  | none=>exact ⟨none,rfl,rfl⟩
  | int i t=>exact ⟨some (i,t),rfl,rfl⟩
 obtain ⟨l,el,ml⟩:=pv' pl
 obtain ⟨u,eu,mu⟩:=pv' pu
 obtain ⟨o,ho,hc,hd⟩:=hs
 refine ⟨"str",_,F.slot_str_getitem.lookup,typeIs_str _ _ _,wpAny_getItem_str_slice (l:=l) (u:=u) (st:=none) ⟨o,ho,hc,by rw [hd,el,eu];rfl⟩ rfl ?_⟩
 have hz':z.length<=sizeLine:=Nat.le_trans hz (by decide)
 have e:∀ t' k,EP X pins σ Q (.str (Txt.slice z lo hi) t') { s with toks:=k }:=fun t' k=>by
  rw [yyR]
  exact ⟨.str _,H,I.tok k,⟨_,rfl⟩,q⟩
 have e2:sliceMade z t l u none=(if ((1:Int) == 1 && (Builtin.Str.strSliceIndices lo hi 1 z.length).length == z.length)=true then Made.val (.str z t) else .str ⟨((Builtin.Str.strSliceIndices lo hi 1 z.length).filterMap (z.cps[·]?)).toArray⟩):=by
  unfold sliceMade slicePicked
  rw [ml,mu]
  rfl
 rw [e2]
 exact post_val_or_str ⟨Nat.le_trans (Txt.slice_le z _ _) hz',e⟩
theorem yBC {C:Addr}{x:Str}{p pos:Pos}(hm:makesIn X.K C=true) (hi:findIn X.K (.ref C) "__init__" = some (some (.builtin "object.__init__"))) (hk:keepIn X.K (.ref C)=true)
  (hg:Gl X x) (hmg:X.mg x=some (.ref C)) (hdb:(x == ("__debug__":Str))=false:=by decide):PE X (.Call (.Name x p) [] [] pos) (yDz C):=by
 intro pins s σ H Q I h
 refine wpAny_Call_Name_kw (yoq I hg hmg ?_ hdb)
 refine PySem.W.callWith_K0 I.kIn hk (wpAny_call ?_)
 have I2:=Inv.made (C:=C) I
 have q:=h (s.heap.objs.size+1) s.heap.objs.size (I.hok.fresh (Nat.le_succ _)) (I.hok.fresh (Nat.le_refl _)) (Nat.ne_of_lt (Nat.lt_succ_self _))
 have kin:=I.kIn
 obtain ⟨hh,g,d,t,os⟩:=s
 have Y:=PySem.W.makes_of (M:=model X.prog X.w) kin hm
 refine PySem.W.make_core Y (PySem.W.looks_findIn kin hi) (fun self=>PySem.W.Looks.of_pure (PySem.W.oi_bind self)) (.inr ⟨rfl,rfl⟩) ?_
 have e1:((hh.push emptyDict).push (instObj C hh.objs.size)).get? (hh.objs.size+1)=some (instObj C hh.objs.size):=by
  have:=Heap.get?_push_size (h:=hh.push emptyDict) (o:=instObj C hh.objs.size) rfl
  rwa [Heap.size_push] at this
 have t1:PySem.W.Looks (model X.prog X.w) ((hh.push emptyDict).push (instObj C hh.objs.size)) (typeOf (.ref (hh.objs.size+1))) (.ref C):=(PySem.W.Looks.ld e1).andThen .now
 have t2:PySem.W.Looks (model X.prog X.w) ((hh.push emptyDict).push (instObj C hh.objs.size)) (isInstance (.ref (hh.objs.size+1)) (.type "object")) true:=t1.andThen (Y.top.keeps fun b o e=>Heap.get?_push_of_some _ (Heap.get?_push_of_some _ e))
 refine codeAny_call_builtin PySem.W.oi_plain PySem.W.entry_oi (@PySem.W.check_slot (model X.prog X.w) _ _ _ "object.__init__" "object" "__init__" (.ref (hh.objs.size+1)) [] [] _ PySem.W.oi_kind PySem.W.oi_split t2 (PySem.W.oi_args (.ref (hh.objs.size+1))) ?_)
 show wpAny _ _ (Builtin.«object.__init__» ⟨[.ref (hh.objs.size+1)],[]⟩) _ _ _
 rw [PySem.W.oi_run]
 exact wpAny_pure (And.intro rfl ⟨.ref _,_,I2,rfl,q⟩)
end
end L2
namespace L2
open PySem PySem.Spec PyProof.Rows
section
variable {X:Cx}
theorem ybb:ykN X (.builtin "isinstance") (yMh X.K):=by
 intro pins s σ H xs us Q I r h
 obtain ⟨x,c,b,rfl,⟨t,u',ty,hc,hk⟩,q⟩:=h
 obtain ⟨u,w',rfl,ru,rc⟩:=vals2 r
 have e:w'=u':=by
  cases c<;>first|(cases hc;exact rc)|cases hc
 subst e
 exact yyH I ru ty hk fun tk=>⟨.bl b,H,I.tok tk,rfl,q⟩
end
end L2
namespace L2
open PySem PySem.Spec PyProof.Rows
theorem yjG:bootBuiltins "len" = some (.builtin "len"):=by rfl'
theorem yyS:bootBuiltins "sum" = some (.builtin "sum"):=by rfl'
theorem yJ:bootBuiltins "isinstance" = some (.builtin "isinstance"):=by rfl'
theorem ysR:bootBuiltins "int" = some (.type "int"):=by rfl'
theorem yDA:bootBuiltins "str" = some (.type "str"):=by rfl'
theorem yFo:bootBuiltins "bool" = some (.type "bool"):=by rfl'
theorem ycT:bootBuiltins "list" = some (.type "list"):=by rfl'
theorem ywv:bootBuiltins "tuple" = some (.type "tuple"):=by rfl'
theorem yuR:bootBuiltins "dict" = some (.type "dict"):=by rfl'
section
variable {X:Cx}
theorem yFp {x:Str}{n:Int}{t:Tok}{pos:Pos}(hg:Gl X x) (hm:X.mg x=some (.int n t)) (hd:(x == ("__debug__":Str))=false:=by decide):PE X (.Name x pos) (tC (.int n)):=yuI hg hm ⟨t,rfl⟩ hd
theorem yFq {x:Str}{n:Str}{t:Tok}{pos:Pos}(hg:Gl X x) (hm:X.mg x=some (.str n t)) (hd:(x == ("__debug__":Str))=false:=by decide):PE X (.Name x pos) (tC (.str n)):=yuI hg hm ⟨t,rfl⟩ hd
theorem yuS {x:Str}{a:Addr}{pos:Pos}(hg:Gl X x) (hm:X.mg x=some (.ref a)) (hd:(x == ("__debug__":Str))=false:=by decide):PE X (.Name x pos) (tC (.ref a)):=yuI hg hm rfl hd
theorem yHT {x:Str}{n:String}{pos:Pos}(hg:Gl X x) (hm:X.mg x=none) (hv:bootBuiltins x=some (.type n)) (hn:x≠"__name__":=by decide) (hd:(x == ("__debug__":Str))=false:=by decide):PE X (.Name x pos) (tC (.ty n)):=yEQ hg hm hv rfl hn hd
end
end L2
namespace L2
open PySem PySem.Spec PyProof.Rows
theorem yuT {K:PySem.W.Frag}{H:Hp}{i:Int}:IsI K H (.int i) (.ty "str") false:=⟨_,_,.int i,rfl,by with_unfolding_all rfl⟩
theorem ysS {K:PySem.W.Frag}{H:Hp}{i:Int}:IsI K H (.int i) (.ty "list") false:=⟨_,_,.int i,rfl,by with_unfolding_all rfl⟩
theorem yrd {K:PySem.W.Frag}{H:Hp}{i:Int}:IsI K H (.int i) (.ty "tuple") false:=⟨_,_,.int i,rfl,by with_unfolding_all rfl⟩
theorem ysT {K:PySem.W.Frag}{H:Hp}{i:Int}:IsI K H (.int i) (.ty "dict") false:=⟨_,_,.int i,rfl,by with_unfolding_all rfl⟩
theorem yxu {K:PySem.W.Frag}{H:Hp}{i:Bool}:IsI K H (.bl i) (.ty "int") true:=⟨_,_,.bl i,rfl,by with_unfolding_all rfl⟩
theorem yxv {K:PySem.W.Frag}{H:Hp}{i:Bool}:IsI K H (.bl i) (.ty "str") false:=⟨_,_,.bl i,rfl,by with_unfolding_all rfl⟩
theorem yuU {K:PySem.W.Frag}{H:Hp}{i:Bool}:IsI K H (.bl i) (.ty "list") false:=⟨_,_,.bl i,rfl,by with_unfolding_all rfl⟩
theorem ysU {K:PySem.W.Frag}{H:Hp}{i:Bool}:IsI K H (.bl i) (.ty "tuple") false:=⟨_,_,.bl i,rfl,by with_unfolding_all rfl⟩
theorem yuV {K:PySem.W.Frag}{H:Hp}{i:Bool}:IsI K H (.bl i) (.ty "dict") false:=⟨_,_,.bl i,rfl,by with_unfolding_all rfl⟩
theorem yuW {K:PySem.W.Frag}{H:Hp}{i:Str}:IsI K H (.str i) (.ty "int") false:=⟨_,_,.str i,rfl,by with_unfolding_all rfl⟩
theorem ysV {K:PySem.W.Frag}{H:Hp}{i:Str}:IsI K H (.str i) (.ty "bool") false:=⟨_,_,.str i,rfl,by with_unfolding_all rfl⟩
theorem ysW {K:PySem.W.Frag}{H:Hp}{i:Str}:IsI K H (.str i) (.ty "list") false:=⟨_,_,.str i,rfl,by with_unfolding_all rfl⟩
theorem yre {K:PySem.W.Frag}{H:Hp}{i:Str}:IsI K H (.str i) (.ty "tuple") false:=⟨_,_,.str i,rfl,by with_unfolding_all rfl⟩
theorem ysX {K:PySem.W.Frag}{H:Hp}{i:Str}:IsI K H (.str i) (.ty "dict") false:=⟨_,_,.str i,rfl,by with_unfolding_all rfl⟩
theorem ysY {K:PySem.W.Frag}{H:Hp}:IsI K H (.non) (.ty "bool") false:=⟨_,_,.non,rfl,by with_unfolding_all rfl⟩
theorem yuX {K:PySem.W.Frag}{H:Hp}:IsI K H (.non) (.ty "str") false:=⟨_,_,.non,rfl,by with_unfolding_all rfl⟩
theorem ysZ {K:PySem.W.Frag}{H:Hp}:IsI K H (.non) (.ty "list") false:=⟨_,_,.non,rfl,by with_unfolding_all rfl⟩
theorem yrf {K:PySem.W.Frag}{H:Hp}:IsI K H (.non) (.ty "tuple") false:=⟨_,_,.non,rfl,by with_unfolding_all rfl⟩
theorem yta {K:PySem.W.Frag}{H:Hp}:IsI K H (.non) (.ty "dict") false:=⟨_,_,.non,rfl,by with_unfolding_all rfl⟩
theorem yuY {K:PySem.W.Frag}{H:Hp}{a:Addr}{xs:List V}(e:H a=some (.lst xs)):IsI K H (.ref a) (.ty "int") false:=⟨_,_,.lst e,rfl,by with_unfolding_all rfl⟩
theorem ytb {K:PySem.W.Frag}{H:Hp}{a:Addr}{xs:List V}(e:H a=some (.lst xs)):IsI K H (.ref a) (.ty "bool") false:=⟨_,_,.lst e,rfl,by with_unfolding_all rfl⟩
theorem yuZ {K:PySem.W.Frag}{H:Hp}{a:Addr}{xs:List V}(e:H a=some (.lst xs)):IsI K H (.ref a) (.ty "str") false:=⟨_,_,.lst e,rfl,by with_unfolding_all rfl⟩
theorem yrg {K:PySem.W.Frag}{H:Hp}{a:Addr}{xs:List V}(e:H a=some (.lst xs)):IsI K H (.ref a) (.ty "tuple") false:=⟨_,_,.lst e,rfl,by with_unfolding_all rfl⟩
theorem ytc {K:PySem.W.Frag}{H:Hp}{a:Addr}{xs:List V}(e:H a=some (.lst xs)):IsI K H (.ref a) (.ty "dict") false:=⟨_,_,.lst e,rfl,by with_unfolding_all rfl⟩
theorem yrh {K:PySem.W.Frag}{H:Hp}{a:Addr}(e:(∃ xs,H a=some (.tup xs))\/∃ o,K.lookup a=some o/\o.cls=.type "tuple"):IsI K H (.ref a) (.ty "tuple") true:=e.elim (fun ⟨_,e⟩=>⟨_,_,.tup e,rfl,by with_unfolding_all rfl⟩) fun ⟨_,e,c⟩=>⟨_,_,.kt e c,rfl,by with_unfolding_all rfl⟩
theorem yva {K:PySem.W.Frag}{H:Hp}{a:Addr}(e:(∃ xs,H a=some (.tup xs))\/∃ o,K.lookup a=some o/\o.cls=.type "tuple"):IsI K H (.ref a) (.ty "int") false:=e.elim (fun ⟨_,e⟩=>⟨_,_,.tup e,rfl,by with_unfolding_all rfl⟩) fun ⟨_,e,c⟩=>⟨_,_,.kt e c,rfl,by with_unfolding_all rfl⟩
theorem ytd {K:PySem.W.Frag}{H:Hp}{a:Addr}(e:(∃ xs,H a=some (.tup xs))\/∃ o,K.lookup a=some o/\o.cls=.type "tuple"):IsI K H (.ref a) (.ty "bool") false:=e.elim (fun ⟨_,e⟩=>⟨_,_,.tup e,rfl,by with_unfolding_all rfl⟩) fun ⟨_,e,c⟩=>⟨_,_,.kt e c,rfl,by with_unfolding_all rfl⟩
theorem yvb {K:PySem.W.Frag}{H:Hp}{a:Addr}(e:(∃ xs,H a=some (.tup xs))\/∃ o,K.lookup a=some o/\o.cls=.type "tuple"):IsI K H (.ref a) (.ty "str") false:=e.elim (fun ⟨_,e⟩=>⟨_,_,.tup e,rfl,by with_unfolding_all rfl⟩) fun ⟨_,e,c⟩=>⟨_,_,.kt e c,rfl,by with_unfolding_all rfl⟩
theorem yte {K:PySem.W.Frag}{H:Hp}{a:Addr}(e:(∃ xs,H a=some (.tup xs))\/∃ o,K.lookup a=some o/\o.cls=.type "tuple"):IsI K H (.ref a) (.ty "list") false:=e.elim (fun ⟨_,e⟩=>⟨_,_,.tup e,rfl,by with_unfolding_all rfl⟩) fun ⟨_,e,c⟩=>⟨_,_,.kt e c,rfl,by with_unfolding_all rfl⟩
theorem ytf {K:PySem.W.Frag}{H:Hp}{a:Addr}(e:(∃ xs,H a=some (.tup xs))\/∃ o,K.lookup a=some o/\o.cls=.type "tuple"):IsI K H (.ref a) (.ty "dict") false:=e.elim (fun ⟨_,e⟩=>⟨_,_,.tup e,rfl,by with_unfolding_all rfl⟩) fun ⟨_,e,c⟩=>⟨_,_,.kt e c,rfl,by with_unfolding_all rfl⟩
end L2
namespace L2
open PySem PySem.Spec PyProof.Rows
theorem ygK {K:PySem.W.Frag}{C:Addr}:PySem.W.kitOne K (.ref C) (.ref C)=some true:=by
 unfold PySem.W.kitOne
 have:((Value.ref C) == (Value.ref C))=true:=by simp
 rw [if_pos this]
theorem yBD {K:PySem.W.Frag}{C C':Addr}{b:Bool}(hm:mroIn K C' (.type "object")=some true) (ht:typeIn K (.ref C')=some (.type "type")) (hs:subIn K (.ref C) (.ref C')=some b):PySem.W.kitCls K (.ref C) (.ref C')=some b:=by
 unfold PySem.W.kitCls
 have h1:(PySem.W.clsIn K C').isSome=true:=by
  unfold mroIn at hm
  cases e:PySem.W.clsIn K C' with
  | none=>rw [e] at hm;cases hm
  | some c=>rfl
 have h2:(typeIn K (.ref C') == some (.type "type"))=true:=by rw [ht];simp
 show (if _ then _ else _)=_
 rw [if_pos (by rw [h1,h2];rfl)]
 exact hs
theorem yn {K:PySem.W.Frag}{C C':Addr}(hn:(C == C')=false) (hm:mroIn K C' (.type "object")=some true) (ht:typeIn K (.ref C')=some (.type "type")) (hs:subIn K (.ref C) (.ref C')=some false):PySem.W.kitOne K (.ref C) (.ref C')=some false:=by
 unfold PySem.W.kitOne
 have:¬ ((Value.ref C) == (Value.ref C'))=true:=by
  intro z
  have z:=eq_of_beq z
  cases z
  simp at hn
 rw [if_neg this]
 exact yBD hm ht hs
theorem all_cons {α:Type}{p:α->Prop}{a:α}{l:List α}(h:p a) (t:∀ x∈l,p x):∀ x∈a::l,p x:=fun x hx=>by
 rcases List.mem_cons.mp hx with e|e
 .rw [e];exact h
 .exact t x e
end L2
namespace PX
open PySem L2
structure Ck where
 K:PySem.W.Frag
 A:Nat->Addr
inductive PV where
 | non|bl (b:Bool)|int (i:Int)|str (s:Str)|ty (n:String)|cls (k:Nat)
 | scr (ns:List Int)
 | lst (xs:List PV)|tup (xs:List PV)
 | ins (k:Nat) (ns:List Str) (xs:List PV)
 | loc (n:Nat)
inductive Nd where
 | lst (xs:List PV)|dct (ks:List Key) (xs:List PV)|fz (ks:List Key) (xs:List PV)|ins (k:Nat) (ns:List Str) (xs:List PV)|dead
abbrev AH:=List Nd
inductive PVar where|no|val (x:PV)|own (d:Nd)
abbrev PSt:=List PVar
inductive Out where|nx (ρ:PSt)|rt (x:PV)|bk (ρ:PSt)|ct (ρ:PSt)
abbrev XE:=PSt->AH->Option (PV×AH)
abbrev XT:=PSt->AH->Option (Bool×AH)
abbrev XA:=PSt->AH->Option (List PV×AH)
abbrev XO:=PSt->AH->Option (Nd×AH)
abbrev XS:=PSt->AH->Option (Out×AH)
abbrev Fn:=List PV->AH->Option (PV×AH)
noncomputable def KTp (K:PySem.W.Frag) (a:Addr) (xs:List V):Prop:=∃ (o:Obj) (its:Array Value) (n:Nat),K.lookup a=some o/\o.cls=.type "tuple"/\o.data=.seq its n/\its.size<=sizeLine/\Vals xs its.toList
def TpAt (K:PySem.W.Frag) (F:Hp) (a:Addr) (xs:List V):Prop:=F a=some (.tup xs)\/KTp K a xs
theorem TpAt.mono {K:PySem.W.Frag}{F F':Hp}{a:Addr}{xs:List V}(s:Same F F') (h:TpAt K F a xs):TpAt K F' a xs:=h.elim (fun h=>.inl (s _ _ h)) .inr
mutual
noncomputable def Rep (K:Ck) (F:Hp) (m:List Addr):PV->V->Prop
 | .non,v=>v=.non
 | .bl b,v=>v=.bl b
 | .int i,v=>v=.int i
 | .str s,v=>v=.str s
 | .ty n,v=>v=.ty n
 | .cls k,v=>v=.ref (K.A k)
 | .scr ns,v=>∃ a,v=.ref a/\SqL K.K F a (ns.map V.int)
 | .lst xs,v=>∃ a vs,v=.ref a/\F a=some (.lst vs)/\RepL K F m xs vs
 | .tup xs,v=>∃ a vs,v=.ref a/\TpAt K.K F a vs/\RepL K F m xs vs
 | .ins k ns xs,v=>∃ a dx vs,v=.ref a/\F a=some (.ins (K.A k) dx (ns.zip vs))/\vs.length=ns.length/\RepL K F m xs vs
 | .loc n,v=>∃ a,v=.ref a/\m[n]?=some a
noncomputable def RepL (K:Ck) (F:Hp) (m:List Addr):List PV->List V->Prop
 | [],vs=>vs=[]
 | x::xs,vs=>∃ v r,vs=v::r/\Rep K F m x v/\RepL K F m xs r
end
section
variable {K:Ck}{F F' H H':Hp}{m m':List Addr}
theorem ymw {n:Nat}{a:Addr}(p:m <+: m') (h:m[n]?=some a):m'[n]?=some a:=by
 obtain ⟨r,rfl⟩:=p
 rw [List.getElem?_append_left (List.getElem?_eq_some_iff.mp h).1];exact h
mutual
theorem Rep.mono (s:Same F F') (p:m <+: m'):∀ (x:PV) (v:V),Rep K F m x v->Rep K F' m' x v
 | .non,_,h=>h
 | .bl _,_,h=>h
 | .int _,_,h=>h
 | .str _,_,h=>h
 | .ty _,_,h=>h
 | .cls _,_,h=>h
 | .scr _,_,⟨a,e,h⟩=>⟨a,e,s.seq h⟩
 | .lst xs,_,⟨a,vs,e,h,r⟩=>⟨a,vs,e,s _ _ h,RepL.mono s p xs vs r⟩
 | .tup xs,_,⟨a,vs,e,h,r⟩=>⟨a,vs,e,h.mono s,RepL.mono s p xs vs r⟩
 | .ins _ _ xs,_,⟨a,dx,vs,e,h,l,r⟩=>⟨a,dx,vs,e,s _ _ h,l,RepL.mono s p xs vs r⟩
 | .loc _,_,⟨a,e,h⟩=>⟨a,e,ymw p h⟩
theorem RepL.mono (s:Same F F') (p:m <+: m'):∀ (xs:List PV) (vs:List V),RepL K F m xs vs->RepL K F' m' xs vs
 | [],_,h=>h
 | x::xs,_,⟨v,r,e,h,l⟩=>⟨v,r,e,Rep.mono s p x v h,RepL.mono s p xs r l⟩
end
theorem RepL.len:∀ {xs:List PV}{vs:List V},RepL K F m xs vs->vs.length=xs.length
 | [],_,h=>by rw [show _=[] from h];rfl
 | x::xs,_,⟨v,r,e,h,l⟩=>by rw [e,List.length_cons,List.length_cons,RepL.len l]
theorem RepL.get:∀ {xs:List PV}{vs:List V}{i:Nat}{x:PV},RepL K F m xs vs->xs[i]?=some x->∃ v,vs[i]?=some v/\Rep K F m x v
 | x::xs,_,0,y,⟨v,r,e,h,l⟩,q=>by
  simp at q;subst q;subst e;exact ⟨v,rfl,h⟩
 | x::xs,_,i+1,y,⟨v,r,e,h,l⟩,q=>by
  subst e
  obtain ⟨w,h1,h2⟩:=RepL.get (i:=i) l (by simpa using q)
  exact ⟨w,by simpa using h1,h2⟩
theorem RepL.get' {xs:List PV}{vs:List V}{i:Nat}{v:V}(h:RepL K F m xs vs) (e:vs[i]?=some v):∃ x,xs[i]?=some x/\Rep K F m x v:=by
 have hl:=h.len
 have hi:i<vs.length:=(List.getElem?_eq_some_iff.mp e).1
 have hx:xs[i]?=some xs[i]:=List.getElem?_eq_getElem (by omega)
 obtain ⟨w,h1,h2⟩:=h.get hx
 rw [e] at h1;cases h1
 exact ⟨_,hx,h2⟩
theorem RepL.app:∀ {xs ys:List PV}{vs us:List V},RepL K F m xs vs->RepL K F m ys us->RepL K F m (xs++ys) (vs++us)
 | [],_,_,_,h,k=>by rw [show _=[] from h];exact k
 | x::xs,ys,_,us,⟨v,r,e,h,l⟩,k=>by subst e;exact ⟨v,r++us,rfl,h,RepL.app l k⟩
theorem RepL.snoc {xs:List PV}{vs:List V}{x:PV}{v:V}(h:RepL K F m xs vs) (k:Rep K F m x v):RepL K F m (xs++[x]) (vs++[v]):=h.app ⟨v,[],rfl,k,rfl⟩
theorem RepL.drop:∀ {xs:List PV}{vs:List V}(n:Nat),RepL K F m xs vs->RepL K F m (xs.drop n) (vs.drop n)
 | _,_,0,h=>by simpa using h
 | [],_,n+1,h=>by rw [show _=[] from h];rfl
 | x::xs,_,n+1,⟨v,r,e,h,l⟩=>by subst e;simpa using RepL.drop n l
theorem RepL.take:∀ {xs:List PV}{vs:List V}(n:Nat),RepL K F m xs vs->RepL K F m (xs.take n) (vs.take n)
 | _,_,0,h=>by simp;rfl
 | [],_,n+1,h=>by rw [show _=[] from h];rfl
 | x::xs,_,n+1,⟨v,r,e,h,l⟩=>by subst e;exact ⟨v,r.take n,rfl,h,RepL.take n l⟩
theorem RepL.set:∀ {xs:List PV}{vs:List V}{x:PV}{v:V}(i:Nat),RepL K F m xs vs->Rep K F m x v->RepL K F m (xs.set i x) (vs.set i v)
 | [],_,_,_,_,h,_=>by rw [show _=[] from h];rfl
 | y::xs,_,x,v,0,⟨w,r,e,h,l⟩,k=>by subst e;exact ⟨v,r,rfl,k,l⟩
 | y::xs,_,x,v,i+1,⟨w,r,e,h,l⟩,k=>by subst e;exact ⟨w,r.set i v,rfl,h,RepL.set i l k⟩
theorem RepL.of_ints:∀ (ns:List Int),RepL K F m (ns.map PV.int) (ns.map V.int)
 | []=>rfl
 | n::ns=>⟨_,_,rfl,rfl,RepL.of_ints ns⟩
end
noncomputable def NdAt (K:Ck) (F H:Hp) (m:List Addr):Nd->Addr->Prop
 | .dead,a=>∃ o,H a=some o
 | .lst xs,a=>F a=none/\∃ vs,H a=some (.lst vs)/\RepL K F m xs vs
 | .dct ks xs,a=>F a=none/\∃ vs,H a=some (.dK (ks.zip vs))/\vs.length=ks.length/\RepL K F m xs vs
 | .fz ks xs,a=>F a=none/\∃ o vs,H a=some (.frz o (.dK (ks.zip vs)))/\vs.length=ks.length/\RepL K F m xs vs
 | .ins k ns xs,a=>F a=none/\∃ dx vs,H a=some (.ins (K.A k) dx (ns.zip vs))/\vs.length=ns.length/\RepL K F m xs vs
structure Wd where
 F:Hp
 H:Hp
 m:List Addr
 h:AH
structure WOk (K:Ck) (W:Wd):Prop where
 le:Same W.F W.H
 len:W.m.length=W.h.length
 nd:W.m.Nodup
 at_:∀ (n:Nat) (d:Nd) (a:Addr),W.h[n]?=some d->W.m[n]?=some a->NdAt K W.F W.H W.m d a
structure Le (K:Ck) (W W':Wd):Prop where
 ok:WOk K W'
 fs:Same W.F W'.F
 pre:W.m <+: W'.m
 keep:∀ b o,W.H b=some o->b∉W.m->W'.H b=some o
 new:∀ b o,W.H b=some o->b∉W.m->W.F b=none->W'.F b=none
 mn:∀ b∈W'.m,b∉W.m->W.H b=none
 fz:∀ (n:Nat) (ks:List Key) (xs:List PV),W.h[n]?=some (.fz ks xs)->W'.h[n]?=some (.fz ks xs)/\∀ a,W.m[n]?=some a->W'.H a=W.H a
theorem Le.refl {K:Ck}{W:Wd}(h:WOk K W):Le K W W:=⟨h,Same.refl _,List.prefix_refl _,fun _ _ e _=>e,fun _ _ _ _ e=>e,fun _ h h'=>absurd h h',fun _ _ _ e=>⟨e,fun _ _=>rfl⟩⟩
theorem Le.trans {K:Ck}{W W1 W2:Wd}(a:Le K W W1) (b:Le K W1 W2):Le K W W2 where
 ok:=b.ok
 fs:=a.fs.trans b.fs
 pre:=a.pre.trans b.pre
 keep:=fun c o e n=>b.keep c o (a.keep c o e n) fun z=>by rw [a.mn c z n] at e;cases e
 new:=fun c o e n f=>b.new c o (a.keep c o e n) (fun z=>by rw [a.mn c z n] at e;cases e) (a.new c o e n f)
 mn:=fun c z n=>by
  by_cases hc:c∈W1.m
  .exact a.mn c hc n
  .have:=b.mn c z hc
   cases e:W.H c with
   | none=>rfl
   | some o=>rw [a.keep c o e n] at this;cases this
 fz:=fun n ks xs e=>by
  obtain ⟨e1,q1⟩:=a.fz n ks xs e
  obtain ⟨e2,q2⟩:=b.fz n ks xs e1
  exact ⟨e2,fun c em=>(q2 c (ymw a.pre em)).trans (q1 c em)⟩
abbrev yfc (K:Ck) (W:Wd) (x:PV) (v:V):Prop:=Rep K W.F W.m x v
abbrev yfx (K:Ck) (W:Wd) (x:List PV) (v:List V):Prop:=RepL K W.F W.m x v
theorem Le.rep {K:Ck}{W W':Wd}(l:Le K W W') {x:PV}{v:V}(h:yfc K W x v):yfc K W' x v:=Rep.mono l.fs l.pre x v h
theorem Le.repL {K:Ck}{W W':Wd}(l:Le K W W') {x:List PV}{v:List V}(h:yfx K W x v):yfx K W' x v:=RepL.mono l.fs l.pre x v h
theorem NdAt.mono {K:Ck}{F F' H H':Hp}{m m':List Addr}(s:Same F F') (p:m <+: m') {d:Nd}{a:Addr}(hH:∀ o,H a=some o->H' a=some o) (hF:F a=none->F' a=none) (h:NdAt K F H m d a):NdAt K F' H' m' d a:=by
 cases d with
 | dead=>obtain ⟨o,e⟩:=h;exact ⟨o,hH _ e⟩
 | lst xs=>obtain ⟨f,vs,e,r⟩:=h;exact ⟨hF f,vs,hH _ e,RepL.mono s p _ _ r⟩
 | dct ks xs=>obtain ⟨f,vs,e,l,r⟩:=h;exact ⟨hF f,vs,hH _ e,l,RepL.mono s p _ _ r⟩
 | fz ks xs=>obtain ⟨f,o,vs,e,l,r⟩:=h;exact ⟨hF f,o,vs,hH _ e,l,RepL.mono s p _ _ r⟩
 | ins C ns xs=>obtain ⟨f,dx,vs,e,l,r⟩:=h;exact ⟨hF f,dx,vs,hH _ e,l,RepL.mono s p _ _ r⟩
theorem NdAt.some {K:Ck}{F H:Hp}{m:List Addr}{d:Nd}{a:Addr}(h:NdAt K F H m d a):∃ o,H a=some o:=by
 cases d with
 | dead=>exact h
 | lst xs=>obtain ⟨f,vs,e,r⟩:=h;exact ⟨_,e⟩
 | dct ks xs=>obtain ⟨f,vs,e,r⟩:=h;exact ⟨_,e⟩
 | fz ks xs=>obtain ⟨f,o,vs,e,r⟩:=h;exact ⟨_,e⟩
 | ins C ns xs=>obtain ⟨f,dx,vs,e,r⟩:=h;exact ⟨_,e⟩
structure Good (K:Ck) (W0 W:Wd) (ρ:PSt) (σ:St):Prop where
 le:Le K W0 W
 len:σ.length=ρ.length
 val:∀ (i:Nat) (x:PV),ρ[i]?=some (.val x)->∃ v,σ[i]?=some (some v)/\yfc K W x v
 own:∀ (i:Nat) (d:Nd),ρ[i]?=some (.own d)->∃ p,σ[i]?=some (some (.ref p))/\p∉W.m/\W0.H p=none/\d≠.dead/\NdAt K W.F W.H W.m d p
 ne:∀ (i j:Nat) (d d':Nd),i≠j->ρ[i]?=some (.own d)->ρ[j]?=some (.own d')->σ[i]?≠σ[j]?
theorem Good.ok {K:Ck}{W0 W:Wd}{ρ:PSt}{σ:St}(g:Good K W0 W ρ σ):WOk K W:=g.le.ok
theorem Good.step {K:Ck}{W0 W W':Wd}{ρ:PSt}{σ:St}(g:Good K W0 W ρ σ) (l:Le K W W'):Good K W0 W' ρ σ where
 le:=g.le.trans l
 len:=g.len
 val:=fun i x e=>let ⟨v,h1,h2⟩:=g.val i x e;⟨v,h1,l.rep h2⟩
 own:=fun i d e=>by
  obtain ⟨p,h1,h2,h3,h4,h5⟩:=g.own i d e
  obtain ⟨o,ho⟩:=h5.some
  have n':p∉W'.m:=fun z=>by rw [l.mn p z h2] at ho;cases ho
  refine ⟨p,h1,n',h3,h4,h5.mono l.fs l.pre (fun o e=>l.keep p o e h2) fun f=>l.new p o ho h2 f⟩
 ne:=g.ne
theorem WOk.some {K:Ck}{W:Wd}(w:WOk K W) {a:Addr}(h:a∈W.m):∃ o,W.H a=some o:=by
 obtain ⟨n,hn,e⟩:=List.getElem_of_mem h
 have hl:n<W.h.length:=by rw [<- w.len];exact hn
 exact (w.at_ n W.h[n] a (List.getElem?_eq_getElem hl) (by rw [List.getElem?_eq_getElem hn,e])).some
theorem Le.fresh {K:Ck}{W W':Wd}(l:Le K W W') {p:Addr}(h:W'.H p=none):W.H p=none:=by
 cases e:W.H p with
 | none=>rfl
 | some o =>
  by_cases hm:p∈W.m
  .obtain ⟨o,q⟩:=l.ok.some (l.pre.subset hm)
   rw [h] at q;cases q
  .rw [l.keep p o e hm] at h;cases h
theorem WOk.out {K:Ck}{W:Wd}(w:WOk K W) {p:Addr}(h:W.H p=none):p∉W.m:=fun z=>by
 obtain ⟨o,q⟩:=w.some z
 rw [h] at q;cases q
theorem WOk.ff {K:Ck}{W:Wd}(w:WOk K W) {p:Addr}(h:W.H p=none):W.F p=none:=Same.free w.le h
structure Lf (K:Ck) (W W':Wd):Prop where
 fs:Same W.F W'.F
 pre:W.m <+: W'.m
 fz:∀ (n:Nat) (ks:List Key) (xs:List PV),W.h[n]?=some (.fz ks xs)->W'.h[n]?=some (.fz ks xs)/\∀ a,W.m[n]?=some a->W'.H a=W.H a
theorem Le.lf {K:Ck}{W W':Wd}(l:Le K W W'):Lf K W W':=⟨l.fs,l.pre,l.fz⟩
theorem Lf.refl {K:Ck}{W:Wd}:Lf K W W:=⟨Same.refl _,List.prefix_refl _,fun _ _ _ e=>⟨e,fun _ _=>rfl⟩⟩
theorem Lf.trans {K:Ck}{W W1 W2:Wd}(a:Lf K W W1) (b:Lf K W1 W2):Lf K W W2:=⟨a.fs.trans b.fs,a.pre.trans b.pre,fun n ks xs e=>by
  obtain ⟨e1,q1⟩:=a.fz n ks xs e
  obtain ⟨e2,q2⟩:=b.fz n ks xs e1
  exact ⟨e2,fun c em=>(q2 c (ymw a.pre em)).trans (q1 c em)⟩⟩
theorem Lf.rep {K:Ck}{W W':Wd}(l:Lf K W W') {x:PV}{v:V}(h:yfc K W x v):yfc K W' x v:=Rep.mono l.fs l.pre x v h
noncomputable def ydx (K:Ck) (t:TE) (e:XE):Prop:=∀ (W0 W:Wd) (ρ:PSt) (σ:St) (Q:VK) (x:PV) (h':AH),Good K W0 W ρ σ->e ρ W.h=some (x,h') ->
 (∀ v W',W'.h=h'->Le K W W'->yfc K W' x v->Q v W'.H)->t σ W.H Q
noncomputable def yuC (K:Ck) (t:TT) (e:XT):Prop:=∀ (W0 W:Wd) (ρ:PSt) (σ:St) (Q:Bool->Hp->Prop) (x:Bool) (h':AH),Good K W0 W ρ σ->e ρ W.h=some (x,h') ->
 (∀ W',W'.h=h'->Le K W W'->Q x W'.H)->t σ W.H Q
noncomputable def yuD (K:Ck) (t:TA) (e:XA):Prop:=∀ (W0 W:Wd) (ρ:PSt) (σ:St) (Q:List V->Hp->Prop) (x:List PV) (h':AH),Good K W0 W ρ σ->e ρ W.h=some (x,h') ->
 (∀ v W',W'.h=h'->Le K W W'->yfx K W' x v->Q v W'.H)->t σ W.H Q
noncomputable def yww (K:Ck) (t:TE) (e:XO):Prop:=∀ (W0 W:Wd) (ρ:PSt) (σ:St) (Q:VK) (d:Nd) (h':AH),Good K W0 W ρ σ->e ρ W.h=some (d,h') ->
 (∀ p W',W'.h=h'->Le K W W'->p∉W'.m->W.H p=none->d≠.dead->NdAt K W'.F W'.H W'.m d p->Q (.ref p) W'.H)->t σ W.H Q
noncomputable def Ends.Ok (K:Ck) (W0 W:Wd) (D:Ends) (h':AH):Out->Prop
 | .nx ρ'=>∀ W' σ',W'.h=h'->Lf K W W'->Good K W0 W' ρ' σ'->D.nx σ' W'.H
 | .bk ρ'=>∀ W' σ',W'.h=h'->Lf K W W'->Good K W0 W' ρ' σ'->D.bk σ' W'.H
 | .ct ρ'=>∀ W' σ',W'.h=h'->Lf K W W'->Good K W0 W' ρ' σ'->D.ct σ' W'.H
 | .rt x=>∀ W' v,W'.h=h'->Le K W0 W'->yfc K W' x v->D.rt v W'.H
noncomputable def yms (K:Ck) (t:TS) (s:XS):Prop:=∀ (W0 W:Wd) (ρ:PSt) (σ:St) (D:Ends) (o:Out) (h':AH),Good K W0 W ρ σ->s ρ W.h=some (o,h')->Ends.Ok K W0 W D h' o->t D σ W.H
noncomputable def ob {α β:Type}(o:Option (α×AH)) (f:α->AH->Option β):Option β:=o.bind fun q=>f q.1 q.2
theorem yo {α β:Type}{o:Option (α×AH)}{f:α->AH->Option β}{b:β}(h:ob o f=some b):∃ x h',o=some (x,h')/\f x h'=some b:=by
 obtain ⟨⟨x,h'⟩,e,k⟩:=Option.bind_eq_some_iff.mp h
 exact ⟨x,h',e,k⟩
theorem yKF {α β:Type}{x:α}{h:AH}{f:α->AH->Option β}:ob (some (x,h)) f=f x h:=rfl
end PX
namespace PX
open PySem L2
variable {K:Ck}
def yg (i:Nat):XE:=fun ρ h=>match ρ[i]? with|some (.val x)=>some (x,h)|_=>none
def xC (x:PV):XE:=fun _ h=>some (x,h)
abbrev P2:=PV->PV->AH->Option (PV×AH)
abbrev P2O:=PV->PV->AH->Option (Nd×AH)
def xOp (p:P2) (a b:XE):XE:=fun ρ h=>ob (a ρ h) fun x h1=>ob (b ρ h1) fun y h2=>p x y h2
def yFr (p:P2O) (a b:XE):XO:=fun ρ h=>ob (a ρ h) fun x h1=>ob (b ρ h1) fun y h2=>p x y h2
def xUn (p:PV->AH->Option (PV×AH)) (a:XE):XE:=fun ρ h=>ob (a ρ h) fun x h1=>p x h1
def oB (x:PV) (h:AH):Option (Bool×AH):=match x with|.bl b=>some (b,h)|_=>none
def yG (a:XE):XT:=fun ρ h=>ob (a ρ h) oB
def yxw (a b:XE):XE:=fun ρ h=>ob (a ρ h) fun x h1=>ob (oB x h1) fun k h1=>if k=true then b ρ h1 else some (.bl false,h1)
def yBE (a:XE):XE:=fun ρ h=>ob (a ρ h) fun x h1=>ob (oB x h1) fun k h1=>some (.bl (!k),h1)
def yJN (a b:XT):XT:=fun ρ h=>ob (a ρ h) fun k h1=>if k=true then b ρ h1 else some (false,h1)
def xOr (a b:XT):XT:=fun ρ h=>ob (a ρ h) fun k h1=>if k=true then some (true,h1) else b ρ h1
def yDB (a:XT):XT:=fun ρ h=>ob (a ρ h) fun k h1=>some (!k,h1)
def xIf (c:XT) (a b:XE):XE:=fun ρ h=>ob (c ρ h) fun k h1=>if k=true then a ρ h1 else b ρ h1
def yr:XA:=fun _ h=>some ([],h)
def yc (a:XE) (r:XA):XA:=fun ρ h=>ob (a ρ h) fun x h1=>ob (r ρ h1) fun xs h2=>some (x::xs,h2)
def yiL (a:XA):XE:=fun ρ h=>ob (a ρ h) fun xs h1=>if xs.length<=1000 then some (.tup xs,h1) else none
def ylA (a:XA):XO:=fun ρ h=>ob (a ρ h) fun xs h1=>if xs.length<=1000 then some (.lst xs,h1) else none
noncomputable def xFz (e:XO):XE:=fun ρ h=>ob (e ρ h) fun d h1=>match d with|.lst xs=>some (.lst xs,h1)|.ins k ns xs=>some (.ins k ns xs,h1)|_=>none
def ykO (e:XO):XE:=fun ρ h=>ob (e ρ h) fun d h1=>some (.loc h1.length,h1++[d])
def ycm (f:Fn) (a:XA):XE:=fun ρ h=>ob (a ρ h) f
def xCB (p:List PV->AH->Option (PV×AH)) (a:XA):XE:=fun ρ h=>ob (a ρ h) p
def ymt (p:List PV->AH->Option (Nd×AH)) (a:XA):XO:=fun ρ h=>ob (a ρ h) p
abbrev PM:=PV->List PV->AH->Option (PV×AH)
noncomputable def xBM (c:PV->AH->Bool) (p:PM) (o:XE) (a:XA):XE:=fun ρ h=>ob (o ρ h) fun x h1=>if c x h1=true then ob (a ρ h1) fun xs h2=>p x xs h2 else none
noncomputable def ylB (e:XE):PSt->AH->Option (Option Int×AH):=fun ρ h=>ob (e ρ h) fun x h1=>match x with|.int i=>some (some i,h1)|_=>none
def ymx:PSt->AH->Option (Option Int×AH):=fun _ h=>some (none,h)
noncomputable def xSl (p:PV->Option Int->Option Int->AH->Option (PV×AH)) (e:XE) (lo hi:PSt->AH->Option (Option Int×AH)):XE:=fun ρ h=>ob (e ρ h) fun x h1=>ob (lo ρ h1) fun l h2=>ob (hi ρ h2) fun u h3=>p x l u h3
noncomputable def yBF (p:PV->Option Int->Option Int->AH->Option (Nd×AH)) (e:XE) (lo hi:PSt->AH->Option (Option Int×AH)):XO:=fun ρ h=>ob (e ρ h) fun x h1=>ob (lo ρ h1) fun l h2=>ob (hi ρ h2) fun u h3=>p x l u h3
noncomputable def ygt (K:Ck) (r:R2) (p:P2):Prop:=∀ (W:Wd) (x y:PV) (v u:V) (Q:VK) (z:PV) (h':AH),WOk K W->yfc K W x v->yfc K W y u->p x y W.h=some (z,h')->(∀ w W',W'.h=h'->Le K W W'->yfc K W' z w->Q w W'.H)->r v u W.H Q
noncomputable def yxx (K:Ck) (W:Wd) (d:Nd) (h':AH) (Q:VK):Prop:=∀ p W',W'.h=h'->Le K W W'->p∉W'.m->W.H p=none->d≠.dead->NdAt K W'.F W'.H W'.m d p->Q (.ref p) W'.H
noncomputable def yyT (K:Ck) (r:R2) (p:P2O):Prop:=∀ (W:Wd) (x y:PV) (v u:V) (Q:VK) (d:Nd) (h':AH),WOk K W->yfc K W x v->yfc K W y u->p x y W.h=some (d,h')->yxx K W d h' Q->r v u W.H Q
noncomputable def yFs (K:Ck) (r:V->Hp->VK->Prop) (p:PV->AH->Option (PV×AH)):Prop:=∀ (W:Wd) (x:PV) (v:V) (Q:VK) (z:PV) (h':AH),WOk K W->yfc K W x v->p x W.h=some (z,h')->(∀ w W',W'.h=h'->Le K W W'->yfc K W' z w->Q w W'.H)->r v W.H Q
noncomputable def yri (K:Ck) (r:List V->Hp->VK->Prop) (p:List PV->AH->Option (PV×AH)):Prop:=∀ (W:Wd) (xs:List PV) (vs:List V) (Q:VK) (z:PV) (h':AH),WOk K W->yfx K W xs vs->p xs W.h=some (z,h')->(∀ w W',W'.h=h'->Le K W W'->yfc K W' z w->Q w W'.H)->r vs W.H Q
noncomputable def ytg (K:Ck) (r:List V->Hp->VK->Prop) (p:List PV->AH->Option (Nd×AH)):Prop:=∀ (W:Wd) (xs:List PV) (vs:List V) (Q:VK) (d:Nd) (h':AH),WOk K W->yfx K W xs vs->p xs W.h=some (d,h')->yxx K W d h' Q->r vs W.H Q
noncomputable def yth (K:Ck) (T:String) (c:PV->AH->Bool) (r:V->List V->Hp->VK->Prop) (p:PM):Prop :=
 (∀ (W:Wd) (x:PV) (v:V),WOk K W->yfc K W x v->c x W.h=true->tyV K.K T v W.H) /\
 ∀ (W:Wd) (x:PV) (v:V) (xs:List PV) (vs:List V) (Q:VK) (z:PV) (h':AH),WOk K W->yfc K W x v->yfx K W xs vs->p x xs W.h=some (z,h')->(∀ w W',W'.h=h'->Le K W W'->yfc K W' z w->Q w W'.H)->r v vs W.H Q
theorem yFt (i:Nat):ydx K (yDm i) (yg i):=by
 intro W0 W ρ σ Q x h' g e q
 unfold yg at e
 split at e
 .rename_i y hy
  cases e
  obtain ⟨v,h1,h2⟩:=g.val i _ hy
  exact ⟨v,h1,q v W rfl (.refl g.ok) h2⟩
 .cases e
theorem yxy {v:V}{x:PV}(h:∀ W:Wd,yfc K W x v):ydx K (tC v) (xC x):=by
 intro W0 W ρ σ Q y h' g e q
 cases e
 exact q v W rfl (.refl g.ok) (h W)
theorem yyU {i:Int}:ydx K (tC (.int i)) (xC (.int i)):=yxy fun _=>rfl
theorem yyV {i:Str}:ydx K (tC (.str i)) (xC (.str i)):=yxy fun _=>rfl
theorem yHU {i:Bool}:ydx K (tC (.bl i)) (xC (.bl i)):=yxy fun _=>rfl
theorem yFu:ydx K (tC .non) (xC .non):=yxy fun _=>rfl
theorem yHV {n:String}:ydx K (tC (.ty n)) (xC (.ty n)):=yxy fun _=>rfl
theorem yFv {k:Nat}:ydx K (tC (.ref (K.A k))) (xC (.cls k)):=yxy fun _=>rfl
section
variable {ta tb tc:TE}{ea eb ec:XE}{t:TA}{e:XA}
theorem ywx {r:R2}{p:P2}(o:ygt K r p) (a:ydx K ta ea) (b:ydx K tb eb):ydx K (tOp r ta tb) (xOp p ea eb):=by
 intro W0 W ρ σ Q z h' g e q
 obtain ⟨x,h1,e1,f1⟩:=yo e
 obtain ⟨y,h2,e2,f2⟩:=yo f1
 refine a W0 W ρ σ _ x h1 g e1 fun v W1 w1 l1 r1=>?_
 subst w1
 refine b W0 W1 ρ σ _ y h2 (g.step l1) e2 fun u W2 w2 l2 r2=>?_
 subst w2
 exact o W2 x y v u Q z h' l2.ok (l2.rep r1) r2 f2 fun w W3 w3 l3 r3=>q w W3 w3 (l1.trans (l2.trans l3)) r3
theorem ymy {W W1:Wd}{d:Nd}{h':AH}{Q:VK}(l:Le K W W1) (q:yxx K W d h' Q):yxx K W1 d h' Q:=fun p W' e l' n f=>q p W' e (l.trans l') n (l.fresh f)
theorem yFw {r:R2}{p:P2O}(o:yyT K r p) (a:ydx K ta ea) (b:ydx K tb eb):yww K (tOp r ta tb) (yFr p ea eb):=by
 intro W0 W ρ σ Q z h' g e q
 obtain ⟨x,h1,e1,f1⟩:=yo e
 obtain ⟨y,h2,e2,f2⟩:=yo f1
 refine a W0 W ρ σ _ x h1 g e1 fun v W1 w1 l1 r1=>?_
 subst w1
 refine b W0 W1 ρ σ _ y h2 (g.step l1) e2 fun u W2 w2 l2 r2=>?_
 subst w2
 exact o W2 x y v u Q z h' l2.ok (l2.rep r1) r2 f2 (ymy (l1.trans l2) q)
theorem yHW {r} {p} (o:yFs K r p) (a:ydx K ta ea):ydx K (tUn r ta) (xUn p ea):=by
 intro W0 W ρ σ Q z h' g e q
 obtain ⟨x,h1,e1,f1⟩:=yo e
 refine a W0 W ρ σ _ x h1 g e1 fun v W1 w1 l1 r1=>?_
 subst w1
 exact o W1 x v Q z h' l1.ok r1 f1 fun w W3 w3 l3 r3=>q w W3 w3 (l1.trans l3) r3
theorem yvc {x:PV}{h:AH}{k:Bool}{h':AH}(e:oB x h=some (k,h')):x=.bl k/\h'=h:=by
 unfold oB at e
 split at e
 .cases e;exact ⟨rfl,rfl⟩
 .cases e
theorem yog (a:ydx K ta ea):yuC K (yHI ta) (yG ea):=by
 intro W0 W ρ σ Q k h' g e q
 obtain ⟨x,h1,e1,f1⟩:=yo e
 obtain ⟨rfl,rfl⟩:=yvc f1
 exact a W0 W ρ σ _ _ _ g e1 fun v W1 w1 l1 r1=>⟨k,r1,q W1 w1 l1⟩
theorem yHX (a:ydx K ta ea):yuC K (tB ta) (yG ea):=yog a
theorem yBG (a:ydx K ta ea) (b:ydx K tb eb):ydx K (yHv ta tb) (yxw ea eb):=by
 intro W0 W ρ σ Q z h' g e q
 obtain ⟨x,h1,e1,f1⟩:=yo e
 obtain ⟨k,h1',e1',f2⟩:=yo f1
 obtain ⟨rfl,rfl⟩:=yvc e1'
 refine a W0 W ρ σ _ _ _ g e1 fun v W1 w1 l1 r1=>⟨k,r1,?_⟩
 subst w1
 cases k with
 | false =>
  rw [if_neg (by decide)] at f2 ⊢
  cases f2
  exact q _ W1 rfl l1 rfl
 | true =>
  rw [if_pos rfl] at f2 ⊢
  exact b W0 W1 ρ σ _ z h' (g.step l1) f2 fun v W2 w2 l2 r2=>q v W2 w2 (l1.trans l2) r2
theorem yBH (a:ydx K ta ea):ydx K (yHw ta) (yBE ea):=by
 intro W0 W ρ σ Q z h' g e q
 obtain ⟨x,h1,e1,f1⟩:=yo e
 obtain ⟨k,h1',e1',f2⟩:=yo f1
 obtain ⟨rfl,rfl⟩:=yvc e1'
 cases f2
 exact a W0 W ρ σ _ _ _ g e1 fun v W1 w1 l1 r1=>⟨k,r1,q _ W1 w1 l1 rfl⟩
section
variable {tA tB':TT}{eA eB:XT}
theorem yFx (a:yuC K tA eA) (b:yuC K tB' eB):yuC K (yLS tA tB') (yJN eA eB):=by
 intro W0 W ρ σ Q z h' g e q
 obtain ⟨k,h1,e1,f1⟩:=yo e
 refine a W0 W ρ σ _ _ _ g e1 fun W1 w1 l1=>?_
 subst w1
 cases k with
 | false =>
  rw [if_neg (by decide)] at f1 ⊢
  cases f1
  exact q W1 rfl l1
 | true =>
  rw [if_pos rfl] at f1 ⊢
  exact b W0 W1 ρ σ _ z h' (g.step l1) f1 fun W2 w2 l2=>q W2 w2 (l1.trans l2)
theorem yHY (a:yuC K tA eA) (b:yuC K tB' eB):yuC K (tOr tA tB') (xOr eA eB):=by
 intro W0 W ρ σ Q z h' g e q
 obtain ⟨k,h1,e1,f1⟩:=yo e
 refine a W0 W ρ σ _ _ _ g e1 fun W1 w1 l1=>?_
 subst w1
 cases k with
 | true =>
  rw [if_pos rfl] at f1 ⊢
  cases f1
  exact q W1 rfl l1
 | false =>
  rw [if_neg (by decide)] at f1 ⊢
  exact b W0 W1 ρ σ _ z h' (g.step l1) f1 fun W2 w2 l2=>q W2 w2 (l1.trans l2)
theorem yFy (a:yuC K tA eA):yuC K (yKa tA) (yDB eA):=by
 intro W0 W ρ σ Q z h' g e q
 obtain ⟨k,h1,e1,f1⟩:=yo e
 cases f1
 exact a W0 W ρ σ _ _ _ g e1 fun W1 w1 l1=>q W1 w1 l1
theorem yHZ (c:yuC K tA eA) (a:ydx K ta ea) (b:ydx K tb eb):ydx K (tIf tA ta tb) (xIf eA ea eb):=by
 intro W0 W ρ σ Q z h' g e q
 obtain ⟨k,h1,e1,f1⟩:=yo e
 refine c W0 W ρ σ _ _ _ g e1 fun W1 w1 l1=>?_
 subst w1
 cases k with
 | true =>
  rw [if_pos rfl] at f1 ⊢
  exact a W0 W1 ρ σ _ z h' (g.step l1) f1 fun v W2 w2 l2 r2=>q v W2 w2 (l1.trans l2) r2
 | false =>
  rw [if_neg (by decide)] at f1 ⊢
  exact b W0 W1 ρ σ _ z h' (g.step l1) f1 fun v W2 w2 l2 r2=>q v W2 w2 (l1.trans l2) r2
end
theorem yoy:yuD K yFb yr:=by
 intro W0 W ρ σ Q z h' g e q
 cases e
 exact q [] W rfl (.refl g.ok) rfl
theorem ywy (a:ydx K ta ea) (r:yuD K t e):yuD K (yyI ta t) (yc ea e):=by
 intro W0 W ρ σ Q z h' g e q
 obtain ⟨x,h1,e1,f1⟩:=yo e
 obtain ⟨xs,h2,e2,f2⟩:=yo f1
 cases f2
 refine a W0 W ρ σ _ x h1 g e1 fun v W1 w1 l1 r1=>?_
 subst w1
 exact r W0 W1 ρ σ _ xs _ (g.step l1) e2 fun vs W2 w2 l2 r2=>q (v::vs) W2 w2 (l1.trans l2) ⟨v,vs,rfl,l2.rep r1,r2⟩
def yHd (W:Wd) (p:Addr) (o:HO):Wd:=⟨upd W.F p o,upd W.H p o,W.m,W.h⟩
theorem yFz {W:Wd}{p:Addr}{o:HO}(w:WOk K W) (h:W.H p=none):Le K W (yHd W p o):=by
 have hm:=w.out h
 have hf:=w.ff h
 have sF:Same W.F (upd W.F p o):=yhH hf o
 refine ⟨⟨?_,w.len,w.nd,fun n d a e1 e2=>?_⟩,sF,List.prefix_refl _,fun b u e _=>yhH h o b u e,fun b u e _ f=>?_,fun b z n=>absurd z n,fun n ks xs e1=>⟨e1,fun a e2=>ybe fun z=>hm (z ▸ List.mem_of_getElem? e2)⟩⟩
 .intro b u e
  show upd W.H p o b=some u
  by_cases hb:b=p
  .subst hb;rw [show (yHd W b o).F b=upd W.F b o b from rfl,yX] at e;rw [yX];exact e
  .rw [show (yHd W p o).F b=upd W.F p o b from rfl,ybe hb] at e;rw [ybe hb];exact w.le _ _ e
 .have ha:a≠p:=fun z=>hm (z ▸ List.mem_of_getElem? e2)
  exact (w.at_ n d a e1 e2).mono sF (List.prefix_refl _) (fun u e=>by rw [show (yHd W p o).H a=upd W.H p o a from rfl,ybe ha];exact e) fun f=>(ybe ha).trans f
 .have:b≠p:=ycx e h
  rw [show (yHd W p o).F b=upd W.F p o b from rfl,ybe this];exact f
def ypT (W:Wd) (p:Addr) (o:HO):Wd:=⟨W.F,upd W.H p o,W.m,W.h⟩
theorem ygu {W:Wd}{p:Addr}{o:HO}(w:WOk K W) (h:W.H p=none):Le K W (ypT W p o):=by
 have hm:=w.out h
 refine ⟨⟨?_,w.len,w.nd,fun n d a e1 e2=>?_⟩,Same.refl _,List.prefix_refl _,fun b u e _=>yhH h o b u e,fun b u e _ f=>f,fun b z n=>absurd z n,fun n ks xs e1=>⟨e1,fun a e2=>ybe fun z=>hm (z ▸ List.mem_of_getElem? e2)⟩⟩
 .exact fun b u e=>yhH h o b u (w.le _ _ e)
 .exact (w.at_ n d a e1 e2).mono (Same.refl _) (List.prefix_refl _) (fun u e=>yhH h o _ _ e) id
theorem small {n:Nat}(h:n<=1000):n<=sizeLine:=Nat.le_of_lt (ysO h)
theorem yFA (a:yuD K t e):ydx K (yMc t) (yiL e):=by
 intro W0 W ρ σ Q z h' g e q
 obtain ⟨xs,h1,e1,f1⟩:=yo e
 split at f1
 .rename_i hl
  cases f1
  refine a W0 W ρ σ _ xs _ g e1 fun vs W1 w1 l1 r1=>⟨small (by rw [r1.len];exact hl),fun p hp=>?_⟩
  have l2:=yFz (o:=.tup vs) l1.ok hp
  exact q (.ref p) (yHd W1 p (.tup vs)) w1 (l1.trans l2) ⟨p,vs,rfl,.inl yX,l2.repL r1⟩
 .cases f1
theorem yFB (a:yuD K t e):yww K (yMd t) (ylA e):=by
 intro W0 W ρ σ Q z h' g e q
 obtain ⟨xs,h1,e1,f1⟩:=yo e
 split at f1
 .rename_i hl
  cases f1
  refine a W0 W ρ σ _ xs _ g e1 fun vs W1 w1 l1 r1=>⟨small (by rw [r1.len];exact hl),fun p hp=>?_⟩
  have l2:=ygu (o:=.lst vs) l1.ok hp
  exact q p (ypT W1 p (.lst vs)) w1 (l1.trans l2) (l1.ok.out hp) (l1.fresh hp) (fun z=>by cases z) ⟨l1.ok.ff hp,vs,yX,r1⟩
 .cases f1
def yBI (W:Wd) (p:Addr) (o:HO):Wd:=⟨upd W.F p o,W.H,W.m,W.h⟩
theorem yyW {W:Wd}{p:Addr}{o:HO}(w:WOk K W) (h:W.H p=some o) (hm:p∉W.m) (hf:W.F p=none):WOk K (yBI W p o)/\Same W.F (upd W.F p o):=by
 have sF:Same W.F (upd W.F p o):=yhH hf o
 refine ⟨⟨?_,w.len,w.nd,fun n d a e1 e2=>?_⟩,sF⟩
 .intro b u e
  by_cases hb:b=p
  .subst hb;rw [show (yBI W b o).F b=upd W.F b o b from rfl,yX] at e;cases e;exact h
  .rw [show (yBI W p o).F b=upd W.F p o b from rfl,ybe hb] at e;exact w.le _ _ e
 .have ha:a≠p:=fun z=>hm (z ▸ List.mem_of_getElem? e2)
  exact (w.at_ n d a e1 e2).mono sF (List.prefix_refl _) (fun u e=>e) fun f=>(ybe ha).trans f
theorem yvd {W W1:Wd}{p:Addr}{o:HO}(l:Le K W W1) (h:W1.H p=some o) (hm:p∉W1.m) (hf:W1.F p=none) (hn:W.H p=none):Le K W (yBI W1 p o):=by
 obtain ⟨k,sF⟩:=yyW l.ok h hm hf
 refine ⟨k,l.fs.trans sF,l.pre,l.keep,fun b u e n f=>?_,l.mn,l.fz⟩
 have:b≠p:=ycx e hn
 rw [show (yBI W1 p o).F b=upd W1.F p o b from rfl,ybe this];exact l.new b u e n f
theorem yIa {o:XO}(a:yww K ta o):ydx K ta (xFz o):=by
 intro W0 W ρ σ Q z h' g e q
 obtain ⟨d,h1,e1,f1⟩:=yo e
 refine a W0 W ρ σ _ d h1 g e1 fun p W1 w1 l1 hm hn hd at_=>?_
 split at f1
 .rename_i xs
  cases f1
  obtain ⟨hf,vs,hp,r⟩:=at_
  have l2:=yvd l1 hp hm hf hn
  exact q (.ref p) (yBI W1 p (.lst vs)) w1 l2 ⟨p,vs,rfl,yX,RepL.mono (yhH hf _) (List.prefix_refl _) _ _ r⟩
 .rename_i k ns xs
  cases f1
  obtain ⟨hf,dx,vs,hp,hl,r⟩:=at_
  have l2:=yvd l1 hp hm hf hn
  exact q (.ref p) (yBI W1 p _) w1 l2 ⟨p,dx,vs,rfl,yX,hl,RepL.mono (yhH hf _) (List.prefix_refl _) _ _ r⟩
 .cases f1
theorem yyX {o:XO}(a:yww K ta o):ydx K ta (ykO o):=by
 intro W0 W ρ σ Q z h' g e q
 obtain ⟨d,h1,e1,f1⟩:=yo e
 cases f1
 refine a W0 W ρ σ _ d h1 g e1 fun p W1 w1 l1 hm hn hd at_=>?_
 subst w1
 have pre:W1.m <+: W1.m++[p]:=List.prefix_append _ _
 refine q (.ref p) ⟨W1.F,W1.H,W1.m++[p],W1.h++[d]⟩ rfl ⟨⟨l1.ok.le,?_,?_,fun n d' a e1 e2=>?_⟩,l1.fs,l1.pre.trans pre,l1.keep,l1.new,fun b z n=>?_,fun n ks xs e1=>⟨by
  have:=(l1.fz n ks xs e1).1
  show (W1.h++[d])[n]?=_
  rw [List.getElem?_append_left (List.getElem?_eq_some_iff.mp this).1];exact this,(l1.fz n ks xs e1).2⟩⟩ ⟨p,rfl,?_⟩
 .show (W1.m++[p]).length=(W1.h++[d]).length
  rw [List.length_append,List.length_append,l1.ok.len];rfl
 .show (W1.m++[p]).Nodup
  rw [List.nodup_append]
  refine ⟨l1.ok.nd,by simp,?_⟩
  intro a ha b hb
  simp at hb
  subst hb
  exact fun z=>hm (z ▸ ha)
 .have e1:(W1.h++[d])[n]?=some d':=e1
  have e2:(W1.m++[p])[n]?=some a:=e2
  by_cases hlt:n<W1.h.length
  .rw [List.getElem?_append_left hlt] at e1
   rw [List.getElem?_append_left (by rw [l1.ok.len];exact hlt)] at e2
   exact (l1.ok.at_ n d' a e1 e2).mono (Same.refl _) pre (fun _ f1=>f1) id
  .rw [List.getElem?_append_right (by omega)] at e1
   rw [List.getElem?_append_right (by rw [l1.ok.len];omega)] at e2
   rw [l1.ok.len] at e2
   cases hk:n-W1.h.length with
   | zero =>
    rw [hk] at e1 e2
    simp at e1 e2
    subst e1 e2
    exact at_.mono (Same.refl _) pre (fun _ f1=>f1) id
   | succ k=>rw [hk] at e1;simp at e1
 .have z:b∈W1.m++[p]:=z
  rcases List.mem_append.mp z with z|z
  .exact l1.mn b z n
  .simp at z;subst z;exact hn
 .show (W1.m++[p])[W1.h.length]?=some p
  rw [<- l1.ok.len];simp
noncomputable def spE (K:Ck) (n:Nat) (f:Fn):Sp:=fun vs H Q _=>∃ (W:Wd) (xs:List PV) (x:PV) (h':AH),W.H=H/\WOk K W/\yfx K W xs vs/\xs.length=n/\f xs W.h=some (x,h')/\∀ v W',W'.h=h'->Le K W W'->yfc K W' x v->Q v W'.H
theorem yBJ {n:Nat}{f:Fn}{ex:XK}(a:yuD K t e) (hn:∀ ρ h xs h',e ρ h=some (xs,h')->xs.length=n):ydx K (yBw (spE K n f) [] ex t) (ycm f e):=by
 intro W0 W ρ σ Q z h' g e' q
 obtain ⟨xs,h1,e1,e2⟩:=yo e'
 refine a W0 W ρ σ _ xs h1 g e1 fun vs W1 w1 l1 r1=>?_
 subst w1
 rw [List.append_nil]
 exact ⟨W1,xs,z,h',rfl,l1.ok,r1,hn _ _ _ _ e1,e2,fun v W2 w2 l2 r2=>q v W2 w2 (l1.trans l2) r2⟩
theorem yve:∀ ρ h xs h',yr ρ h=some (xs,h')->xs.length=0:=fun ρ h xs h' e=>by cases e;rfl
theorem yBK {n:Nat}(l:∀ ρ h xs h',e ρ h=some (xs,h')->xs.length=n):∀ ρ h xs h',yc ea e ρ h=some (xs,h')->xs.length=n+1:=fun ρ h xs h' q=>by
 obtain ⟨x,h1,e1,q⟩:=yo q
 obtain ⟨ys,h2,e2,q⟩:=yo q
 cases q
 rw [List.length_cons,l _ _ _ _ e2]
theorem yDC {r} {p} (o:yri K r p) (a:yuD K t e):ydx K (tCB r t) (xCB p e):=by
 intro W0 W ρ σ Q z h' g e' q
 obtain ⟨xs,h1,e1,e2⟩:=yo e'
 refine a W0 W ρ σ _ xs h1 g e1 fun vs W1 w1 l1 r1=>?_
 subst w1
 exact o W1 xs vs Q z h' l1.ok r1 e2 fun v W2 w2 l2 r2=>q v W2 w2 (l1.trans l2) r2
theorem yyY {r} {p} (o:ytg K r p) (a:yuD K t e):yww K (tCB r t) (ymt p e):=by
 intro W0 W ρ σ Q z h' g e' q
 obtain ⟨xs,h1,e1,e2⟩:=yo e'
 refine a W0 W ρ σ _ xs h1 g e1 fun vs W1 w1 l1 r1=>?_
 subst w1
 exact o W1 xs vs Q z h' l1.ok r1 e2 (ymy l1 q)
theorem yDD {T:String}{c} {r} {p} (o:yth K T c r p) (b:ydx K ta ea) (a:yuD K t e):ydx K (tBM K.K T r ta t) (xBM c p ea e):=by
 intro W0 W ρ σ Q z h' g e' q
 obtain ⟨x,h1,e1,f1⟩:=yo e'
 split at f1
 .rename_i hc
  obtain ⟨xs,h2,e2,f2⟩:=yo f1
  refine b W0 W ρ σ _ x h1 g e1 fun v W1 w1 l1 r1=>⟨o.1 W1 x v l1.ok r1 (by rw [w1];exact hc),?_⟩
  subst w1
  refine a W0 W1 ρ σ _ xs h2 (g.step l1) e2 fun vs W2 w2 l2 r2=>?_
  subst w2
  exact o.2 W2 x v xs vs Q z h' l2.ok (l2.rep r1) r2 f2 fun w W3 w3 l3 r3=>q w W3 w3 (l1.trans (l2.trans l3)) r3
 .cases f1
theorem yFC {T:String}{c} {r} {p} (o:yth K T c r p) (b:ydx K ta ea):ydx K (yKp K.K T r ta) (xBM c p ea yr):=yDD (t:=yFb) o b yoy
end
noncomputable def yDE (K:Ck) (t:TO) (e:PSt->AH->Option (Option Int×AH)):Prop:=∀ (W0 W:Wd) (ρ:PSt) (σ:St) (Q:Option Int->Hp->Prop) (x:Option Int) (h':AH),Good K W0 W ρ σ->e ρ W.h=some (x,h') ->
 (∀ W',W'.h=h'->Le K W W'->Q x W'.H)->t σ W.H Q
theorem yxz:yDE K yyK ymx:=by
 intro W0 W ρ σ Q z h' g e q
 cases e
 exact q W rfl (.refl g.ok)
theorem yBL {ta:TE}{ea:XE}(a:ydx K ta ea):yDE K (yHM ta) (ylB ea):=by
 intro W0 W ρ σ Q z h' g e q
 obtain ⟨x,h1,e1,f1⟩:=yo e
 split at f1
 .rename_i i
  cases f1
  exact a W0 W ρ σ _ _ _ g e1 fun v W1 w1 l1 r1=>⟨i,r1,q W1 w1 l1⟩
 .cases f1
noncomputable def yFD (K:Ck) (r:V->Option Int->Option Int->Hp->VK->Prop) (p:PV->Option Int->Option Int->AH->Option (PV×AH)):Prop:=∀ (W:Wd) (x:PV) (v:V) (lo hi:Option Int) (Q:VK) (z:PV) (h':AH),WOk K W->yfc K W x v->p x lo hi W.h=some (z,h')->(∀ w W',W'.h=h'->Le K W W'->yfc K W' z w->Q w W'.H)->r v lo hi W.H Q
noncomputable def yyZ (K:Ck) (r:V->Option Int->Option Int->Hp->VK->Prop) (p:PV->Option Int->Option Int->AH->Option (Nd×AH)):Prop:=∀ (W:Wd) (x:PV) (v:V) (lo hi:Option Int) (Q:VK) (d:Nd) (h':AH),WOk K W->yfc K W x v->p x lo hi W.h=some (d,h')->yxx K W d h' Q->r v lo hi W.H Q
theorem yIb {r} {p} {ta:TE}{ea:XE}{tl th:TO}{el eh} (o:yFD K r p) (a:ydx K ta ea) (b:yDE K tl el) (c:yDE K th eh):ydx K (tSl r ta tl th) (xSl p ea el eh):=by
 intro W0 W ρ σ Q z h' g e q
 obtain ⟨x,h1,e1,f1⟩:=yo e
 obtain ⟨l,h2,e2,f2⟩:=yo f1
 obtain ⟨u,h3,e3,f3⟩:=yo f2
 refine a W0 W ρ σ _ x h1 g e1 fun v W1 w1 l1 r1=>?_
 subst w1
 refine b W0 W1 ρ σ _ l h2 (g.step l1) e2 fun W2 w2 l2=>?_
 subst w2
 refine c W0 W2 ρ σ _ u h3 (g.step (l1.trans l2)) e3 fun W3 w3 l3=>?_
 subst w3
 exact o W3 x v l u Q z h' l3.ok ((l2.trans l3).rep r1) f3 fun w W4 w4 l4 r4=>q w W4 w4 (l1.trans (l2.trans (l3.trans l4))) r4
theorem yFE {r} {p} {ta:TE}{ea:XE}{tl th:TO}{el eh} (o:yyZ K r p) (a:ydx K ta ea) (b:yDE K tl el) (c:yDE K th eh):yww K (tSl r ta tl th) (yBF p ea el eh):=by
 intro W0 W ρ σ Q z h' g e q
 obtain ⟨x,h1,e1,f1⟩:=yo e
 obtain ⟨l,h2,e2,f2⟩:=yo f1
 obtain ⟨u,h3,e3,f3⟩:=yo f2
 refine a W0 W ρ σ _ x h1 g e1 fun v W1 w1 l1 r1=>?_
 subst w1
 refine b W0 W1 ρ σ _ l h2 (g.step l1) e2 fun W2 w2 l2=>?_
 subst w2
 refine c W0 W2 ρ σ _ u h3 (g.step (l1.trans l2)) e3 fun W3 w3 l3=>?_
 subst w3
 exact o W3 x v l u Q z h' l3.ok ((l2.trans l3).rep r1) f3 (ymy (l1.trans (l2.trans l3)) q)
end PX
namespace PX
open PySem L2
variable {K:Ck}
def ybB:XS:=fun ρ h=>some (.nx ρ,h)
noncomputable def yu (s u:XS):XS:=fun ρ h=>ob (s ρ h) fun o h1=>match o with|.nx ρ'=>u ρ' h1|.rt x=>some (.rt x,h1)|.bk ρ'=>some (.bk ρ',h1)|.ct ρ'=>some (.ct ρ',h1)
def yfa (e:XE):XS:=fun ρ h=>ob (e ρ h) fun _ h1=>some (.nx ρ,h1)
def ycu (e:XE):XS:=fun ρ h=>ob (e ρ h) fun x h1=>some (.rt x,h1)
def ycR (c:XT) (s u:XS):XS:=fun ρ h=>ob (c ρ h) fun k h1=>if k=true then s ρ h1 else u ρ h1
abbrev XG:=PV->PSt->Option PSt
abbrev XGs:=List PV->PSt->Option PSt
def yC (i:Nat):XG:=fun x ρ=>some (ρ.set i (.val x))
def yHe:XGs:=fun xs ρ=>match xs with|[]=>some ρ|_=>none
def ynF (g:XG) (r:XGs):XGs:=fun xs ρ=>match xs with|[]=>none|x::xs=>(g x ρ).bind fun ρ'=>r xs ρ'
def yFF (n:Nat) (g:XGs):XG:=fun x ρ=>match x with|.tup xs=>if xs.length=n then g xs ρ else none|_=>none
def ydb (e:XE) (g:XG):XS:=fun ρ h=>ob (e ρ h) fun x h1=>(g x ρ).bind fun ρ'=>some (.nx ρ',h1)
def yti (e:XO) (i:Nat):XS:=fun ρ h=>ob (e ρ h) fun d h1=>some (.nx (ρ.set i (.own d)),h1)
def yBM:PVar->PVar
 | .own (.lst xs)=>.val (.lst xs)
 | .own (.ins k ns xs)=>.val (.ins k ns xs)
 | v=>v
def yvf (i:Nat) (ρ:PSt):PSt:=ρ.modify i yBM
def yDF (i:Nat) (s:XS):XS:=fun ρ h=>s (yvf i ρ) h
noncomputable def yiM (i:Nat) (e:XE):XS:=fun ρ h=>match ρ[i]? with
 | some (.own (.lst xs))=>ob (e ρ h) fun x h1=>if xs.length<100000 then some (.nx (ρ.set i (.own (.lst (xs++[x])))),h1) else none
 | _=>none
noncomputable def yoz (g:XG) (s:XS):List PV->PSt->AH->Option (Out×AH)
 | [],ρ,h=>some (.nx ρ,h)
 | x::xs,ρ,h=>(g x ρ).bind fun ρ1=>ob (s ρ1 h) fun o h1=>match o with|.nx ρ'=>yoz g s xs ρ' h1|.ct ρ'=>yoz g s xs ρ' h1|.bk ρ'=>some (.nx ρ',h1)|.rt y=>some (.rt y,h1)
def yza (it:XA) (g:XG) (s:XS):XS:=fun ρ h=>ob (it ρ h) fun xs h1=>yoz g s xs ρ h1
noncomputable def whl (c:XT) (s:XS):Nat->PSt->AH->Option (Out×AH)
 | 0,_,_=>none
 | n+1,ρ,h=>ob (c ρ h) fun k h1=>if k=true then ob (s ρ h1) fun o h2=>(match o with|.nx ρ'=>whl c s n ρ' h2|.ct ρ'=>whl c s n ρ' h2|.bk ρ'=>some (.nx ρ',h2)|.rt y=>some (.rt y,h2)) else some (.nx ρ,h1)
def ytj (fuel:Nat) (c:XT) (s:XS):XS:=fun ρ h=>whl c s fuel ρ h
noncomputable def ygX (N:Nat) (s:XS):Fn:=fun xs h=>ob (s (xs.map .val++List.replicate (N-xs.length) .no) h) fun o h1=>match o with|.rt x=>some (x,h1)|.nx _=>some (.non,h1)|_=>none
def yBg (ρ:PSt) (i:Nat):PVar:=match ρ[i]? with|some (.val y)=>.val y|_=>.no
def yBN (ix:List Nat) (ρ:PSt) (x:PV):PSt:=.val x::ix.map (yBg ρ)
noncomputable def yBO (e:XE) (inn:PV->PSt):List PV->AH->Option (List PV×AH)
 | [],h=>some ([],h)
 | x::xs,h=>ob (e (inn x) h) fun y h1=>ob (yBO e inn xs h1) fun ys h2=>some (y::ys,h2)
noncomputable def yxA (it:XA) (ix:List Nat) (e:XE):XO:=fun ρ h=>ob (it ρ h) fun xs h1=>if xs.length<=100000 then ob (yBO e (yBN ix ρ) xs h1) fun ys h2=>some (.lst ys,h2) else none
theorem Ends.Ok.from_ {W0 W W1:Wd}{D:Ends}{h':AH}{o:Out}(l:Lf K W W1) (k:Ends.Ok K W0 W D h' o):Ends.Ok K W0 W1 D h' o:=by
 cases o with
 | nx ρ=>exact fun W' σ' e l' g=>k W' σ' e (l.trans l') g
 | bk ρ=>exact fun W' σ' e l' g=>k W' σ' e (l.trans l') g
 | ct ρ=>exact fun W' σ' e l' g=>k W' σ' e (l.trans l') g
 | rt x=>exact k
section
variable {ta tb:TE}{ea eb:XE}{t u:TS}{s s':XS}{tA:TT}{eA:XT}
theorem yBP:yms K yHA ybB:=by
 intro W0 W ρ σ D o h' g e q
 cases e
 exact q W σ rfl .refl g
theorem yFG (a:yms K t s) (b:yms K u s'):yms K (yKc t u) (yu s s'):=by
 intro W0 W ρ σ D o h' g e q
 obtain ⟨o1,h1,e1,f1⟩:=yo e
 refine a W0 W ρ σ _ o1 h1 g e1 ?_
 cases o1 with
 | nx ρ'=>exact fun W' σ' w l g'=>b W0 W' ρ' σ' D o h' g' (by rw [w];exact f1) (q.from_ l)
 | rt x=>cases f1;exact q
 | bk ρ'=>cases f1;exact q
 | ct ρ'=>cases f1;exact q
theorem yBQ (a:ydx K ta ea):yms K (yBp ta) (yfa ea):=by
 intro W0 W ρ σ D o h' g e q
 obtain ⟨x,h1,e1,f1⟩:=yo e
 cases f1
 exact a W0 W ρ σ _ x _ g e1 fun v W1 w1 l1 r1=>q W1 σ w1 l1.lf (g.step l1)
theorem yFH (a:ydx K ta ea):yms K (yLT ta) (ycu ea):=by
 intro W0 W ρ σ D o h' g e q
 obtain ⟨x,h1,e1,f1⟩:=yo e
 cases f1
 exact a W0 W ρ σ _ x _ g e1 fun v W1 w1 l1 r1=>q W1 v w1 (g.le.trans l1) r1
theorem yFI (c:yuC K tA eA) (a:yms K t s) (b:yms K u s'):yms K (yLU tA t u) (ycR eA s s'):=by
 intro W0 W ρ σ D o h' g e q
 obtain ⟨k,h1,e1,f1⟩:=yo e
 refine c W0 W ρ σ _ k h1 g e1 fun W1 w1 l1=>?_
 subst w1
 cases k with
 | true =>
  rw [if_pos rfl] at f1 ⊢
  exact a W0 W1 ρ σ D o h' (g.step l1) f1 (q.from_ l1.lf)
 | false =>
  rw [if_neg (by decide)] at f1 ⊢
  exact b W0 W1 ρ σ D o h' (g.step l1) f1 (q.from_ l1.lf)
theorem Good.set {W0 W:Wd}{ρ:PSt}{σ:St}(g:Good K W0 W ρ σ) (i:Nat) {x:PV}{v:V}(r:yfc K W x v):Good K W0 W (ρ.set i (.val x)) (σ.set i (some v)) where
 le:=g.le
 len:=by simp [g.len]
 val:=fun j y e=>by
  by_cases hj:i=j
  .subst hj
   by_cases hl:i<ρ.length
   .rw [List.getElem?_set_self hl] at e
    cases e
    exact ⟨v,List.getElem?_set_self (by rw [g.len];exact hl),r⟩
   .rw [List.getElem?_eq_none (by simp;omega)] at e;cases e
  .rw [List.getElem?_set_ne hj] at e
   obtain ⟨w,h1,h2⟩:=g.val j y e
   exact ⟨w,by rw [List.getElem?_set_ne hj];exact h1,h2⟩
 own:=fun j d e=>by
  by_cases hj:i=j
  .subst hj
   by_cases hl:i<ρ.length
   .rw [List.getElem?_set_self hl] at e;cases e
   .rw [List.getElem?_eq_none (by simp;omega)] at e;cases e
  .rw [List.getElem?_set_ne hj] at e
   obtain ⟨p,h1,h2⟩:=g.own j d e
   exact ⟨p,by rw [List.getElem?_set_ne hj];exact h1,h2⟩
 ne:=fun j k d d' hjk e1 e2=>by
  have f:∀ {j:Nat}{d:Nd},(ρ.set i (.val x))[j]?=some (.own d)->i≠j/\ρ[j]?=some (.own d):=fun {j d} e=>by
   by_cases hj:i=j
   .subst hj
    by_cases hl:i<ρ.length
    .rw [List.getElem?_set_self hl] at e;cases e
    .rw [List.getElem?_eq_none (by simp;omega)] at e;cases e
   .rw [List.getElem?_set_ne hj] at e;exact ⟨hj,e⟩
  obtain ⟨a1,a2⟩:=f e1
  obtain ⟨b1,b2⟩:=f e2
  rw [List.getElem?_set_ne a1,List.getElem?_set_ne b1]
  exact g.ne j k d d' hjk a2 b2
theorem Good.setO {W0 W:Wd}{ρ:PSt}{σ:St}(g:Good K W0 W ρ σ) (i:Nat) {d:Nd}{p:Addr}(hm:p∉W.m) (h0:W0.H p=none) (hd:d≠.dead) (at_:NdAt K W.F W.H W.m d p)
  (ne:∀ j d',i≠j->ρ[j]?=some (.own d')->σ[j]?≠some (some (.ref p))):Good K W0 W (ρ.set i (.own d)) (σ.set i (some (.ref p))) where
 le:=g.le
 len:=by simp [g.len]
 val:=fun j y e=>by
  by_cases hj:i=j
  .subst hj
   by_cases hl:i<ρ.length
   .rw [List.getElem?_set_self hl] at e;cases e
   .rw [List.getElem?_eq_none (by simp;omega)] at e;cases e
  .rw [List.getElem?_set_ne hj] at e
   obtain ⟨w,h1,h2⟩:=g.val j y e
   exact ⟨w,by rw [List.getElem?_set_ne hj];exact h1,h2⟩
 own:=fun j d' e=>by
  by_cases hj:i=j
  .subst hj
   by_cases hl:i<ρ.length
   .rw [List.getElem?_set_self hl] at e
    cases e
    exact ⟨p,List.getElem?_set_self (by rw [g.len];exact hl),hm,h0,hd,at_⟩
   .rw [List.getElem?_eq_none (by simp;omega)] at e;cases e
  .rw [List.getElem?_set_ne hj] at e
   obtain ⟨p,h1,h2⟩:=g.own j d' e
   exact ⟨p,by rw [List.getElem?_set_ne hj];exact h1,h2⟩
 ne:=fun j k d1 d2 hjk e1 e2=>by
  have self:∀ {j:Nat}{d':Nd},i=j->(ρ.set i (.own d))[j]?=some (.own d')->(σ.set i (some (.ref p)))[j]?=some (some (.ref p)):=fun {j d'} hj e=>by
   subst hj
   by_cases hl:i<ρ.length
   .exact List.getElem?_set_self (by rw [g.len];exact hl)
   .rw [List.getElem?_eq_none (by simp;omega)] at e;cases e
  by_cases hj:i=j
  .have hk:i≠k:=fun z=>hjk (hj.symm.trans z)
   rw [self hj e1,List.getElem?_set_ne hk]
   rw [List.getElem?_set_ne hk] at e2
   exact (ne k d2 hk e2).symm
  .rw [List.getElem?_set_ne hj]
   rw [List.getElem?_set_ne hj] at e1
   by_cases hk:i=k
   .rw [self hk e2]
    exact ne j d1 hj e1
   .rw [List.getElem?_set_ne hk] at e2 ⊢
    exact g.ne j k d1 d2 hjk e1 e2
noncomputable def yBR (K:Ck) (g:TG) (y:XG):Prop:=∀ (W0 W:Wd) (ρ ρ':PSt) (σ:St) (x:PV) (v:V) (Q:St->Hp->Prop),Good K W0 W ρ σ->yfc K W x v->y x ρ=some ρ'->(∀ σ',Good K W0 W ρ' σ'->Q σ' W.H)->g v σ W.H Q
noncomputable def yxB (K:Ck) (g:TGs) (y:XGs):Prop:=∀ (W0 W:Wd) (ρ ρ':PSt) (σ:St) (x:List PV) (v:List V) (Q:St->Hp->Prop),Good K W0 W ρ σ->yfx K W x v->y x ρ=some ρ'->(∀ σ',Good K W0 W ρ' σ'->Q σ' W.H)->g v σ W.H Q
theorem yoA (i:Nat):yBR K (yxj i) (yC i):=by
 intro W0 W ρ ρ' σ x v Q g r e q
 cases e
 exact q _ (g.set i r)
theorem yBS:yxB K yLW yHe:=by
 intro W0 W ρ ρ' σ x v Q g r e q
 cases x with
 | nil=>cases e;exact ⟨r,q _ g⟩
 | cons _ _=>cases e
theorem yzb {g:TG}{gs:TGs}{y:XG}{ys:XGs}(a:yBR K g y) (b:yxB K gs ys):yxB K (yHC g gs) (ynF y ys):=by
 intro W0 W ρ ρ' σ x v Q gd r e q
 cases x with
 | nil=>cases e
 | cons x xs =>
  obtain ⟨v1,vs,rfl,r1,r2⟩:=r
  obtain ⟨ρ1,e1,e2⟩:=Option.bind_eq_some_iff.mp e
  exact ⟨v1,vs,rfl,a W0 W ρ ρ1 σ x v1 _ gd r1 e1 fun σ' g'=>b W0 W ρ1 ρ' σ' xs vs Q g' r2 e2 q⟩
theorem yBT {n:Nat}{gs:TGs}{ys:XGs}(b:yxB K gs ys):yBR K (yLX K.K n gs) (yFF n ys):=by
 intro W0 W ρ ρ' σ x v Q g r e q
 unfold yFF at e
 split at e
 .rename_i xs
  split at e
  .rename_i hl
   obtain ⟨a,vs,rfl,hs,rs⟩:=r
   exact ⟨a,vs,rfl,(hs.elim (fun h=>SqT.of (g.ok.le _ _ h)) .inr),by rw [rs.len];exact hl,b W0 W ρ ρ' σ xs vs Q g rs e q⟩
  .cases e
 .cases e
theorem yvg {g:TG}{y:XG}(a:ydx K ta ea) (b:yBR K g y):yms K (yHc ta g) (ydb ea y):=by
 intro W0 W ρ σ D o h' gd e q
 obtain ⟨x,h1,e1,f1⟩:=yo e
 obtain ⟨ρ',e2,f2⟩:=Option.bind_eq_some_iff.mp f1
 cases f2
 exact a W0 W ρ σ _ x _ gd e1 fun v W1 w1 l1 r1=>b W0 W1 ρ ρ' σ x v _ (gd.step l1) r1 e2 fun σ' g'=>q W1 σ' w1 l1.lf g'
theorem yBU {o:XO}(i:Nat) (a:yww K ta o):yms K (yHc ta (yxj i)) (yti o i):=by
 intro W0 W ρ σ D o h' gd e q
 obtain ⟨d,h1,e1,f1⟩:=yo e
 cases f1
 refine a W0 W ρ σ _ d _ gd e1 fun p W1 w1 l1 hm hn hd at_=>q W1 _ w1 l1.lf ((gd.step l1).setO i hm (gd.le.fresh hn) hd at_ fun j d' hj e hs=>?_)
 obtain ⟨p',h1,h2,_,_,h5⟩:=gd.own j d' e
 rw [h1] at hs
 cases hs
 obtain ⟨o,ho⟩:=h5.some
 rw [hn] at ho;cases ho
theorem Good.frz {W0 W:Wd}{ρ:PSt}{σ:St}(g:Good K W0 W ρ σ) (i:Nat):∃ W',W'.h=W.h/\W'.H=W.H/\Lf K W W'/\Good K W0 W' (yvf i ρ) σ:=by
 unfold yvf
 cases e:ρ[i]? with
 | none=>exact ⟨W,rfl,rfl,.refl,by rw [List.modify_eq_self (by simpa using e)];exact g⟩
 | some v =>
  have hl:i<ρ.length:=(List.getElem?_eq_some_iff.mp e).1
  have em:ρ.modify i yBM=ρ.set i (yBM v):=by
   apply List.ext_getElem?
   intro j
   rw [List.getElem?_modify,List.getElem?_set]
   by_cases hj:i=j
   .subst hj
    obtain ⟨_,ev⟩:=List.getElem?_eq_some_iff.mp e
    simp [hl,ev]
   .simp [hj]
  have same:yBM v=v->∃ W',W'.h=W.h/\W'.H=W.H/\Lf K W W'/\Good K W0 W' (ρ.modify i yBM) σ:=fun z=>⟨W,rfl,rfl,.refl,by
   rw [em,z]
   have:ρ.set i v=ρ:=by
    apply List.ext_getElem?
    intro j
    by_cases hj:i=j
    .subst hj;rw [List.getElem?_set_self hl,e]
    .rw [List.getElem?_set_ne hj]
   rw [this];exact g⟩
  have go:∀ (d:Nd) (x:PV) (p:Addr) (o:HO),v=.own d->yBM v=.val x->σ[i]?=some (some (.ref p))->p∉W.m->W0.H p=none->W.H p=some o->W.F p=none->(∀ (F':Hp),Same W.F F'->F' p=some o->Rep K F' W.m x (.ref p)) ->
    ∃ W',W'.h=W.h/\W'.H=W.H/\Lf K W W'/\Good K W0 W' (ρ.modify i yBM) σ:=fun d x p o hv hx hs hm h0 hp hf hr=>by
   obtain ⟨k,sF⟩:=yyW (K:=K) g.ok hp hm hf
   have lf:Lf K W (yBI W p o):=⟨sF,List.prefix_refl _,fun _ _ _ e=>⟨e,fun _ _=>rfl⟩⟩
   refine ⟨yBI W p o,rfl,rfl,lf,⟨yvd g.le hp hm hf h0,by rw [List.length_modify];exact g.len,fun j y e'=>?_,fun j d' e'=>?_,fun j1 j2 d1 d2 hj e1 e2=>?_⟩⟩
   .rw [em,hx] at e'
    by_cases hj:i=j
    .subst hj
     rw [List.getElem?_set_self hl] at e'
     cases e'
     exact ⟨_,hs,hr _ sF yX⟩
    .rw [List.getElem?_set_ne hj] at e'
     obtain ⟨w,a1,a2⟩:=g.val j y e'
     exact ⟨w,a1,lf.rep a2⟩
   .rw [em,hx] at e'
    by_cases hj:i=j
    .subst hj
     rw [List.getElem?_set_self hl] at e'
     cases e'
    .rw [List.getElem?_set_ne hj] at e'
     obtain ⟨q,a1,a2,a3,a4,a5⟩:=g.own j d' e'
     have hq:q≠p:=fun z=>g.ne j i d' d (fun z=>hj z.symm) e' (hv ▸ e) (by rw [a1,hs,z])
     exact ⟨q,a1,a2,a3,a4,a5.mono sF (List.prefix_refl _) (fun _ e=>e) fun f=>(ybe hq).trans f⟩
   .rw [em,hx] at e1 e2
    have f:∀ {j:Nat}{d:Nd},(ρ.set i (.val x))[j]?=some (.own d)->ρ[j]?=some (.own d):=fun {j d} e=>by
     by_cases hj:i=j
     .subst hj;rw [List.getElem?_set_self hl] at e;cases e
     .rw [List.getElem?_set_ne hj] at e;exact e
    exact g.ne j1 j2 d1 d2 hj (f e1) (f e2)
  cases v with
  | no=>exact same rfl
  | val x=>exact same rfl
  | own d =>
   obtain ⟨p,a1,a2,a3,a4,a5⟩:=g.own i d e
   cases d with
   | lst xs =>
    obtain ⟨hf,vs,hp,r⟩:=a5
    exact go _ (.lst xs) p _ rfl rfl a1 a2 a3 hp hf fun F' s hF=>⟨p,vs,rfl,hF,RepL.mono s (List.prefix_refl _) _ _ r⟩
   | dct ks xs=>exact same rfl
   | fz ks xs=>exact same rfl
   | ins k ns xs =>
    obtain ⟨hf,dx,vs,hp,hl,r⟩:=a5
    exact go _ (.ins k ns xs) p _ rfl rfl a1 a2 a3 hp hf fun F' s hF=>⟨p,dx,vs,rfl,hF,hl,RepL.mono s (List.prefix_refl _) _ _ r⟩
   | dead=>exact same rfl
theorem yFJ (i:Nat) (a:yms K t s):yms K t (yDF i s):=by
 intro W0 W ρ σ D o h' g e q
 obtain ⟨W',e1,e2,l,g'⟩:=g.frz i
 rw [<- e2]
 exact a W0 W' _ σ D o h' g' (by rw [e1];exact e) (q.from_ l)
end
end PX
namespace PX
open PySem L2
variable {K:Ck}
section
variable {ta tb:TE}{ea eb:XE}{t u:TS}{s s':XS}{tA:TT}{eA:XT}
def yFK (W:Wd) (p:Addr) (o:HO):Wd:=⟨W.F,upd W.H p o,W.m,W.h⟩
theorem yFL {W:Wd}{p:Addr}{o:HO}(w:WOk K W) (hm:p∉W.m) (hf:W.F p=none):WOk K (yFK W p o):=by
 refine ⟨fun b u e=>?_,w.len,w.nd,fun n d a e1 e2=>?_⟩
 .have:b≠p:=ycx e hf
  exact (ybe this).trans (w.le _ _ e)
 .have ha:a≠p:=fun z=>hm (z ▸ List.mem_of_getElem? e2)
  exact (w.at_ n d a e1 e2).mono (Same.refl _) (List.prefix_refl _) (fun u e=>(ybe ha).trans e) id
theorem yzc {W W1:Wd}{p:Addr}{o:HO}(l:Le K W W1) (hm:p∉W1.m) (hf:W1.F p=none) (hn:W.H p=none):Le K W (yFK W1 p o) :=
 ⟨yFL l.ok hm hf,l.fs,l.pre,fun b u e n=>(ybe (ycx e hn)).trans (l.keep b u e n),l.new,l.mn,fun n ks xs e1=>⟨(l.fz n ks xs e1).1,fun a e2=>(ybe (fun (z:a=p)=>hm (z ▸ List.mem_of_getElem? (ymw l.pre e2)))).trans ((l.fz n ks xs e1).2 a e2)⟩⟩
theorem yDG {W W1:Wd}{p:Addr}{o:HO}(l:Le K W W1) (hm:p∉W1.m):Lf K W (yFK W1 p o) :=
 ⟨l.fs,l.pre,fun n ks xs e1=>⟨(l.fz n ks xs e1).1,fun a e2=>(ybe (fun (z:a=p)=>hm (z ▸ List.mem_of_getElem? (ymw l.pre e2)))).trans ((l.fz n ks xs e1).2 a e2)⟩⟩
theorem Good.mut {W0 W:Wd}{ρ:PSt}{σ:St}(g:Good K W0 W ρ σ) {i:Nat}{d d':Nd}{p:Addr}{o:HO}(e:ρ[i]?=some (.own d)) (hs:σ[i]?=some (some (.ref p))) (hm:p∉W.m) (h0:W0.H p=none) (hf:W.F p=none) (hd:d'≠.dead)
  (at_:NdAt K W.F (upd W.H p o) W.m d' p):Good K W0 (yFK W p o) (ρ.set i (.own d')) σ:=by
 have hl:i<ρ.length:=(List.getElem?_eq_some_iff.mp e).1
 refine ⟨yzc g.le hm hf h0,by rw [List.length_set];exact g.len,fun j y e'=>?_,fun j d1 e'=>?_,fun j1 j2 d1 d2 hj e1 e2=>?_⟩
 .by_cases hj:i=j
  .subst hj;rw [List.getElem?_set_self hl] at e';cases e'
  .rw [List.getElem?_set_ne hj] at e';exact g.val j y e'
 .by_cases hj:i=j
  .subst hj;rw [List.getElem?_set_self hl] at e';cases e';exact ⟨p,hs,hm,h0,hd,at_⟩
  .rw [List.getElem?_set_ne hj] at e'
   obtain ⟨q,a1,a2,a3,a4,a5⟩:=g.own j d1 e'
   have hq:q≠p:=fun z=>g.ne j i d1 d (fun z=>hj z.symm) e' e (by rw [a1,hs,z])
   exact ⟨q,a1,a2,a3,a4,a5.mono (Same.refl _) (List.prefix_refl _) (fun u e=>(ybe hq).trans e) id⟩
 .have f:∀ {j:Nat}{d1:Nd},(ρ.set i (.own d'))[j]?=some (.own d1)->∃ d2,ρ[j]?=some (.own d2):=fun {j d1} e'=>by
   by_cases hj:i=j
   .subst hj;exact ⟨d,e⟩
   .rw [List.getElem?_set_ne hj] at e';exact ⟨_,e'⟩
  obtain ⟨_,f1⟩:=f e1
  obtain ⟨_,f2⟩:=f e2
  exact g.ne j1 j2 _ _ hj f1 f2
theorem big {n:Nat}(h:n<100000):n<sizeLine:=Nat.lt_of_lt_of_le h (by decide)
theorem yJO {n:Nat}(h:n<=100000):n<=sizeLine:=Nat.le_trans h (by decide)
theorem yBV (i:Nat) (a:ydx K ta ea):yms K (yBp (tBM K.K "list" yuM (yDm i) (yyI ta yFb))) (yiM i ea):=by
 intro W0 W ρ σ D o h' g e q
 unfold yiM at e
 split at e
 .rename_i xs0 hx
  obtain ⟨x,h1,e1,f1⟩:=yo e
  split at f1
  .rename_i hlen
   cases f1
   obtain ⟨p,a1,a2,a3,a4,hf,vs,hp,r⟩:=g.own i _ hx
   refine ⟨.ref p,a1,.inl ⟨rfl,_,SqL.of hp⟩,?_⟩
   refine a W0 W ρ σ _ x _ g e1 fun v W1 w1 l1 r1=>⟨p,vs,v,rfl,rfl,l1.keep _ _ hp a2,by rw [r.len];exact big hlen,?_⟩
   have g1:=g.step l1
   obtain ⟨p',b1,b2,b3,b4,b5,vs',b6,b7⟩:=g1.own i _ hx
   rw [a1] at b1
   cases b1
   rw [l1.keep _ _ hp a2] at b6
   cases b6
   exact q (yFK W1 p (.lst (vs++[v]))) σ w1 (yDG l1 b2) (g1.mut hx a1 b2 b3 b5 (fun z=>by cases z) ⟨b5,_,yX,b7.snoc r1⟩)
  .cases f1
 .cases e
structure yJP (K:Ck) (W:Wd) (J:It) (xs:List PV):Prop where
 go:∀ (i:Nat) (W':Wd),Lf K W W'->WOk K W'->i<xs.length->J.go i W'.H
 yld:∀ (i:Nat) (W':Wd) (v:V) (H2:Hp),Lf K W W'->WOk K W'->i<xs.length->J.yld i W'.H v H2->H2=W'.H/\∃ x,xs[i]?=some x/\yfc K W' x v
 stop:∀ (W':Wd),Lf K W W'->WOk K W'->J.stop xs.length W'.H
noncomputable def yFM (K:Ck) (wi:TI) (e:XA):Prop:=∀ (W0 W:Wd) (ρ:PSt) (σ:St) (R:It->Hp->Prop) (xs:List PV) (h':AH),Good K W0 W ρ σ->e ρ W.h=some (xs,h')->(∀ J W',W'.h=h'->Le K W W'->yJP K W' J xs->R J W'.H)->wi σ W.H R
noncomputable def xIL (e:XE):XA:=fun ρ h=>ob (e ρ h) fun x h1=>match x with|.lst xs=>some (xs,h1)|.scr ns=>some (ns.map .int,h1)|_=>none
def sgn (c:Nat):PV:=.str ⟨#[c]⟩
def yxC (lo:Int) (n:Nat):List PV:=(List.range n).map fun (k:Nat)=>.int (lo+(k:Int))
noncomputable def yBW (a:XA):XA:=fun ρ h=>ob (a ρ h) fun xs h1=>match xs with|[.int j]=>if -1000000000<=j/\j<=1000000000 then some (yxC 0 j.toNat,h1) else none|_=>none
theorem ykP {W:Wd}(w:WOk K W) {a:Addr}{vs:List V}(h:SqL K.K W.F a vs):SqL K.K W.H a vs:=Same.seq w.le h
theorem yhc {W:Wd}(w:WOk K W) {a:Addr}{vs:List V}(h:TpAt K.K W.F a vs):SqT K.K W.H a vs:=h.elim (fun h=>SqT.of (w.le _ _ h)) .inr
theorem yzd (a:ydx K ta ea):yFM K (yHF K.K ta) (xIL ea):=by
 intro W0 W ρ σ R xs h' g e q
 obtain ⟨x,h1,e1,f1⟩:=yo e
 refine a W0 W ρ σ _ x h1 g e1 fun v W1 w1 l1 r1=>?_
 have key:∀ (a:Addr) (vs:List V),v=.ref a->SqL K.K W1.F a vs->RepL K W1.F W1.m xs vs->h1=h'->∃ a,v=.ref a/\(∃ xs,SqL K.K W1.H a xs)/\R (Itl K.K a) W1.H:=fun a vs ev hs rs eh=>by
  subst eh
  refine ⟨a,ev,⟨vs,ykP l1.ok hs⟩,q _ W1 w1 l1 ⟨fun i W' l w hi=>?_,fun i W' v' H2 l w hi hy=>?_,fun W' l w=>?_⟩⟩
  .obtain ⟨v',h1,_⟩:=rs.get (List.getElem?_eq_getElem hi)
   exact ⟨vs,v',ykP w (Same.seq l.fs hs),h1⟩
  .obtain ⟨h1,h2⟩:=hy
   have:=h2 vs (ykP w (Same.seq l.fs hs))
   obtain ⟨x,h3,h4⟩:=rs.get' this
   exact ⟨h1,x,h3,l.rep h4⟩
  .exact ⟨vs,ykP w (Same.seq l.fs hs),by rw [rs.len];exact Nat.le_refl _⟩
 split at f1
 .cases f1
  obtain ⟨a,vs,ev,hs,rs⟩:=r1
  exact key a vs ev (SqL.of hs) rs rfl
 .rename_i ns
  cases f1
  obtain ⟨a,ev,hs⟩:=r1
  exact key a _ ev hs (RepL.of_ints ns) rfl
 .cases f1
theorem yIc (W:Wd) (lo:Int) (n:Nat):yJP K W (Itr lo n) (yxC lo n):=by
 refine ⟨fun i W' l w hi=>?_,fun i W' v' H2 l w hi hy=>?_,fun W' l w=>?_⟩
 .show i<n
  simpa [yxC] using hi
 .obtain ⟨h1,h2⟩:=hy
  have hi:i<n:=by simpa [yxC] using hi
  exact ⟨h1,.int (lo+(i:Int)),by simp [yxC,hi],h2⟩
 .show n<=_
  simp [yxC]
theorem yze {t:TA}{e:XA}(a:yuD K t e):yFM K (yHG t) (yBW e):=by
 intro W0 W ρ σ R xs h' g e q
 obtain ⟨ys,h1,e1,f1⟩:=yo e
 split at f1
 .rename_i j
  split at f1
  .rename_i hj
   cases f1
   refine a W0 W ρ σ _ _ _ g e1 fun vs W1 w1 l1 r1=>?_
   obtain ⟨v,r,rfl,rv,rr⟩:=r1
   obtain rfl:r=[]:=rr
   exact ⟨j,by rw [show v=.int j from rv],by omega,by omega,q _ W1 w1 l1 (yIc W1 0 _)⟩
  .cases f1
 .cases f1
theorem yFN {wi:TI}{it:XA}{g:TG}{y:XG}(a:yFM K wi it) (b:yBR K g y) (c:yms K t s):yms K (yKf wi g t) (yza it y s):=by
 intro W0 W ρ σ D o h' gd e q
 obtain ⟨xs,h1,e1,f1⟩:=yo e
 refine a W0 W ρ σ _ xs h1 gd e1 fun J W1 w1 l1 J1=>?_
 subst w1
 have q1:=q.from_ l1.lf
 refine ⟨fun i m σ H=>m=xs.length-i/\i<=xs.length/\∃ W' ρ',W'.H=H/\Lf K W1 W'/\Good K W0 W' ρ' σ/\yoz y s (xs.drop i) ρ' W'.h=some (o,h'),⟨_,rfl,Nat.zero_le _,W1,ρ,rfl,.refl,gd.step l1,by simpa using f1⟩,?_⟩
 rintro i m σ _ ⟨rfl,hi,W',ρ',rfl,l,g',f⟩
 by_cases hlt:i<xs.length
 .rw [List.drop_eq_getElem_cons hlt] at f
  obtain ⟨ρ1,k1,f⟩:=Option.bind_eq_some_iff.mp f
  obtain ⟨o1,h2,k2,f3⟩:=yo f
  refine .inr ⟨J1.go i W' l g'.ok hlt,fun σ2 H2=>i+1<=xs.length/\∃ W2 ρ2,W2.H=H2/\Lf K W1 W2/\Good K W0 W2 ρ2 σ2/\yoz y s (xs.drop (i+1)) ρ2 W2.h=some (o,h'),fun σ2 H2 ⟨n1,n2⟩=>⟨xs.length-(i+1),by omega,rfl,n1,n2⟩,fun v H2 hy=>?_⟩
  obtain ⟨rfl,x,hx,rx⟩:=J1.yld i W' v H2 l g'.ok hlt hy
  rw [List.getElem?_eq_getElem hlt] at hx
  cases hx
  refine b W0 W' ρ' ρ1 σ _ v _ g' rx k1 fun σ2 g2=>?_
  refine c W0 W' ρ1 σ2 _ o1 h2 g2 k2 ?_
  cases o1 with
  | nx ρ2=>exact fun W2 σ3 w2 l2 g3=>⟨hlt,W2,ρ2,rfl,l.trans l2,g3,by rw [w2];exact f3⟩
  | ct ρ2=>exact fun W2 σ3 w2 l2 g3=>⟨hlt,W2,ρ2,rfl,l.trans l2,g3,by rw [w2];exact f3⟩
  | bk ρ2=>cases f3;exact fun W2 σ3 w2 l2 g3=>q1 W2 σ3 w2 (l.trans l2) g3
  | rt x=>cases f3;exact q1
 .have ei:i=xs.length:=by omega
  subst ei
  refine .inl ⟨J1.stop W' l g'.ok,?_⟩
  rw [List.drop_length] at f
  cases f
  exact q1 W' σ rfl l g'
theorem yzf (n:Nat) (c:yuC K tA eA) (a:yms K t s):yms K (yDq tA t) (ytj n eA s):=by
 intro W0 W ρ σ D o h' gd e q
 refine ⟨fun m σ H=>∃ W' ρ',W'.H=H/\Lf K W W'/\Good K W0 W' ρ' σ/\whl eA s m ρ' W'.h=some (o,h'),⟨n,W,ρ,rfl,.refl,gd,e⟩,?_⟩
 rintro m σ _ ⟨W',ρ',rfl,l,g',f⟩
 cases m with
 | zero=>cases f
 | succ m =>
  obtain ⟨k,h1,e1,f1⟩:=yo f
  refine c W0 W' ρ' σ _ k h1 g' e1 fun W1 w1 l1=>?_
  subst w1
  cases k with
  | false =>
   rw [if_neg (by decide)] at f1 ⊢
   cases f1
   exact q W1 σ rfl (l.trans l1.lf) (g'.step l1)
  | true =>
   rw [if_pos rfl] at f1 ⊢
   obtain ⟨o1,h2,k2,f3⟩:=yo f1
   refine ⟨fun σ2 H2=>∃ W2 ρ2,W2.H=H2/\Lf K W W2/\Good K W0 W2 ρ2 σ2/\whl eA s m ρ2 W2.h=some (o,h'),fun σ2 H2 z=>⟨m,Nat.lt_succ_self _,z⟩,?_⟩
   refine a W0 W1 ρ' σ _ o1 h2 (g'.step l1) k2 ?_
   have l':=l.trans l1.lf
   cases o1 with
   | nx ρ2=>exact fun W2 σ3 w2 l2 g3=>⟨W2,ρ2,rfl,l'.trans l2,g3,by rw [w2];exact f3⟩
   | ct ρ2=>exact fun W2 σ3 w2 l2 g3=>⟨W2,ρ2,rfl,l'.trans l2,g3,by rw [w2];exact f3⟩
   | bk ρ2=>cases f3;exact fun W2 σ3 w2 l2 g3=>q W2 σ3 w2 (l'.trans l2) g3
   | rt x=>cases f3;exact q
theorem yzg {e:XE}{inn:PV->PSt}:∀ {xs:List PV}{h:AH}{ys:List PV}{h':AH},yBO e inn xs h=some (ys,h')->ys.length=xs.length
 | [],_,_,_,e=>by cases e;rfl
 | x::xs,_,_,_,e=>by
  obtain ⟨y,h1,e1,f1⟩:=yo e
  obtain ⟨ys,h2,e2,f2⟩:=yo f1
  cases f2
  rw [List.length_cons,List.length_cons,yzg e2]
theorem yBX {W0 W W':Wd}{ρ:PSt}{σ:St}(g:Good K W0 W ρ σ) (l:Le K W W') (ix:List Nat) {x:PV}{v:V}(r:yfc K W' x v):Good K W' W' (yBN ix ρ x) (inner ix σ v) where
 le:=.refl l.ok
 len:=by simp [yBN,inner]
 val:=fun j y e=>by
  cases j with
  | zero=>simp [yBN] at e;subst e;exact ⟨v,rfl,r⟩
  | succ j =>
   have e:(ix.map (yBg ρ))[j]?=some (.val y):=e
   rw [List.getElem?_map] at e
   cases ei:ix[j]? with
   | none=>rw [ei] at e;cases e
   | some i =>
    rw [ei] at e
    have e:yBg ρ i=.val y:=Option.some.inj e
    unfold yBg at e
    split at e
    .rename_i z hz
     cases e
     obtain ⟨w,h1,h2⟩:=g.val i _ hz
     exact ⟨w,by show (ix.map fun i=>(σ[i]?).getD none)[j]?=_;rw [List.getElem?_map,ei];simp [h1],l.rep h2⟩
    .cases e
 own:=fun j d e=>by
  cases j with
  | zero=>simp [yBN] at e
  | succ j =>
   have e:(ix.map (yBg ρ))[j]?=some (.own d):=e
   rw [List.getElem?_map] at e
   cases ei:ix[j]? with
   | none=>rw [ei] at e;cases e
   | some i =>
    rw [ei] at e
    have e:yBg ρ i=.own d:=Option.some.inj e
    unfold yBg at e
    split at e<;>cases e
 ne:=fun j k d d' _ e _=>by
  cases j with
  | zero=>simp [yBN] at e
  | succ j =>
   have e:(ix.map (yBg ρ))[j]?=some (.own d):=e
   rw [List.getElem?_map] at e
   cases ei:ix[j]? with
   | none=>rw [ei] at e;cases e
   | some i =>
    rw [ei] at e
    have e:yBg ρ i=.own d:=Option.some.inj e
    unfold yBg at e
    split at e<;>cases e
theorem ywz {wi:TI}{it:XA}(ix:List Nat) (a:yFM K wi it) (b:ydx K ta ea):yww K (yFk wi ix ta) (yxA it ix ea):=by
 intro W0 W ρ σ Q d h' gd e q
 obtain ⟨xs,h1,e1,f1⟩:=yo e
 split at f1
 .rename_i hlen
  obtain ⟨zs,h2,e2,f2⟩:=yo f1
  cases f2
  have hz:=yzg e2
  refine a W0 W ρ σ _ xs h1 gd e1 fun J W1 w1 l1 J1=>?_
  subst w1
  intro D hD
  have nm:=l1.ok.out hD
  have nf:=l1.ok.ff hD
  refine ⟨fun i m H=>m=xs.length-i/\i<=xs.length/\∃ W' acc done rest,W'.H=H/\Le K W1 W'/\D∉W'.m/\W'.F D=none/\H D=some (.lst acc)/\yfx K W' done acc/\done.length=i/\zs=done++rest/\yBO ea (yBN ix ρ) (xs.drop i) W'.h=some (rest,h'),⟨_,rfl,Nat.zero_le _,ypT W1 D (.lst []),[],[],zs,rfl,ygu l1.ok hD,nm,nf,yX,rfl,rfl,rfl,by rw [List.drop_zero];exact e2⟩,?_⟩
  rintro i m _ ⟨rfl,hi,W',acc,done,rest,rfl,l,n1,n2,hd,rd,ld,ez,f⟩
  by_cases hlt:i<xs.length
  .rw [List.drop_eq_getElem_cons hlt] at f
   obtain ⟨y,h3,k1,f3⟩:=yo f
   obtain ⟨ys,h4,k2,f4⟩:=yo f3
   cases f4
   refine .inr ⟨J1.go i W' l.lf l.ok hlt,fun v H2 hy=>?_⟩
   obtain ⟨rfl,x,hx,rx⟩:=J1.yld i W' v H2 l.lf l.ok hlt hy
   rw [List.getElem?_eq_getElem hlt] at hx
   cases hx
   refine b W' W' _ _ _ y h3 (yBX gd (l1.trans l) ix rx) k1 fun w W2 w2 l2 r2=>?_
   obtain ⟨o2,n2'⟩:∃ o,W'.H D=some o:=⟨_,hd⟩
   have nm2:D∉W2.m:=fun z=>by rw [l2.mn D z n1] at hd;cases hd
   have nf2:W2.F D=none:=l2.new D _ hd n1 n2
   refine ⟨acc,l2.keep _ _ hd n1,?_,xs.length-(i+1),by omega,rfl,hlt,yFK W2 D (.lst (acc++[w])),acc++[w],done++[y],ys,rfl,yzc (l.trans l2) nm2 nf2 hD,nm2,nf2,yX,(l2.repL rd).snoc r2,by simp [ld],by simp [ez],?_⟩
   .rw [rd.len,ld];exact big (by omega)
   .show yBO ea (yBN ix ρ) (xs.drop (i+1)) W2.h=some (ys,h')
    rw [w2];exact k2
  .have ei:i=xs.length:=by omega
   subst ei
   rw [List.drop_length] at f
   cases f
   refine .inl ⟨J1.stop W' l.lf l.ok,?_⟩
   rw [List.append_nil] at ez
   subst ez
   exact q D W' rfl (l1.trans l) n1 (l1.fresh hD) (fun z=>by cases z) ⟨n2,acc,hd,rd⟩
 .cases f1
theorem ymz {W:Wd}(w:WOk K W) {N:List Str}{xs:List PV}{vs:List V}(r:yfx K W xs vs):Good K W W (xs.map .val++List.replicate (N.length-xs.length) .no) (L2.start N vs) where
 le:=.refl w
 len:=by simp [L2.start,r.len]
 val:=fun j y e=>by
  by_cases hj:j<xs.length
  .rw [List.getElem?_append_left (by simpa using hj),List.getElem?_map,List.getElem?_eq_getElem hj] at e
   cases e
   obtain ⟨v,h1,h2⟩:=r.get (List.getElem?_eq_getElem hj)
   refine ⟨v,?_,h2⟩
   unfold L2.start
   rw [List.getElem?_append_left (by simp [r.len,hj]),List.getElem?_map,h1];rfl
  .rw [List.getElem?_append_right (by simp;omega),List.getElem?_replicate] at e
   split at e<;>cases e
 own:=fun j d e=>by
  by_cases hj:j<xs.length
  .rw [List.getElem?_append_left (by simpa using hj),List.getElem?_map,List.getElem?_eq_getElem hj] at e
   cases e
  .rw [List.getElem?_append_right (by simp;omega),List.getElem?_replicate] at e
   split at e<;>cases e
 ne:=fun j k d d' _ e _=>by
  by_cases hj:j<xs.length
  .rw [List.getElem?_append_left (by simpa using hj),List.getElem?_map,List.getElem?_eq_getElem hj] at e
   cases e
  .rw [List.getElem?_append_right (by simp;omega),List.getElem?_replicate] at e
   split at e<;>cases e
theorem yBY {N:List Str}{n:Nat}{vs:List V}{H:Hp}{Q:VK}{E:XK}{bk ct:St->Hp->Prop}(a:yms K t s) (h:spE K n (ygX N.length s) vs H Q E):t ⟨fun _ H'=>Q .non H',Q,bk,ct⟩ (L2.start N vs) H:=by
 obtain ⟨W,xs,x,h',rfl,w,r,_,e,q⟩:=h
 obtain ⟨o,h1,e1,f1⟩:=yo e
 refine a W W _ _ _ o h1 (ymz w r) e1 ?_
 cases o with
 | rt y=>cases f1;exact fun W' v ew l rv=>q v W' ew l rv
 | nx ρ=>cases f1;exact fun W' σ' ew _ g=>q .non W' ew g.le rfl
 | bk ρ=>cases f1
 | ct ρ=>cases f1
theorem yFO {n:Nat}{f:Fn}{vs:List V}{H:Hp}{Q:VK}{E:XK}(h:spE K n f vs H Q E):vs.length=n:=by
 obtain ⟨W,xs,x,h',rfl,w,r,hn,_⟩:=h
 rw [r.len,hn]
end
end PX
namespace PX
open PySem L2
variable {K:Ck}
def oI (g:Int->Int->PV):P2:=fun x y h=>match x,y with|.int i,.int j=>some (g i j,h)|_,_=>none
noncomputable def oIc (C:Int->Int->Prop) [∀ i j,Decidable (C i j)] (g:Int->Int->PV):P2:=fun x y h=>match x,y with|.int i,.int j=>if C i j then some (g i j,h) else none|_,_=>none
abbrev yoh:P2:=oI fun i j=>.int (i+j)
abbrev yId:P2:=oI fun i j=>.int (i-j)
noncomputable def MulOk (i j:Int):Prop:=(-18446744073709551616<i/\i<18446744073709551616)\/(-18446744073709551616<j/\j<18446744073709551616)
instance (i j:Int):Decidable (MulOk i j):=by unfold MulOk;infer_instance
def yzh (i j:Int):Prop:=(0<=i/\i<18446744073709551616)/\0<=j/\j<=1000000
instance (i j:Int):Decidable (yzh i j):=by unfold yzh;infer_instance
abbrev yDH:P2:=oIc MulOk fun i j=>.int (i*j)
abbrev oDiv:P2:=oIc (fun _ j=>0<j/\j<1073741824) fun i j=>.int (i/j)
abbrev oMod:P2:=oIc (fun _ j=>0<j) fun i j=>.int (i%j)
abbrev yIe:P2:=oIc yzh fun i j=>.int (i ^ j.toNat)
abbrev oLt:P2:=oI fun i j=>.bl (decide (i<j))
abbrev yJQ:PV->AH->Option (PV×AH):=fun x h=>match x with|.int i=>some (.int (-i),h)|_=>none
theorem yKG {g:Int->Int->PV}{gV:Int->Int->V}(h:∀ (W:Wd) i j,yfc K W (g i j) (gV i j)):ygt K (rI0 gV) (oI g):=by
 intro W x y v u Q z h' w rx ry e q
 unfold oI at e
 split at e
 .rename_i i j
  cases e
  exact ⟨i,j,rx,ry,q _ W rfl (.refl w) (h W i j)⟩
 .cases e
theorem yBZ {C:Int->Int->Prop} [∀ i j,Decidable (C i j)] {C':Int->Int->Prop}{g:Int->Int->PV}{gV:Int->Int->V}(hc:∀ i j,C i j->C' i j) (h:∀ (W:Wd) i j,yfc K W (g i j) (gV i j)):ygt K (rI C' gV) (oIc C g):=by
 intro W x y v u Q z h' w rx ry e q
 unfold oIc at e
 split at e
 .rename_i i j
  split at e
  .rename_i c
   cases e
   exact ⟨i,j,rx,ry,hc i j c,q _ W rfl (.refl w) (h W i j)⟩
  .cases e
 .cases e
theorem yhd:ygt K yKr yoh:=yKG fun _ _ _=>rfl
theorem yCa:ygt K yKs yId:=yKG fun _ _ _=>rfl
theorem yvh:ygt K yKt yDH:=yBZ (fun i j h=>by unfold CMul;rw [show (2:Int) ^ 64=18446744073709551616 by decide];exact h) fun _ _ _=>rfl
theorem yeN:ygt K yKu oDiv:=yBZ (fun i j h=>h) fun _ _ _=>rfl
theorem ycM:ygt K yKv oMod:=yBZ (fun i j h=>h) fun _ _ _=>rfl
theorem yCb:ygt K yKw yIe:=yBZ (fun i j h=>by unfold yKi;rw [show 2 ^ 64=18446744073709551616 by decide];unfold yzh at h;omega) fun _ _ _=>rfl
theorem yDI:ygt K yMC oLt:=yKG fun _ _ _=>rfl
theorem yIf:yFs K yKx yJQ:=by
 intro W x v Q z h' w rx e q
 unfold yJQ at e
 split at e
 .rename_i i
  cases e
  exact ⟨i,rx,q _ W rfl (.refl w) rfl⟩
 .cases e
def sv:PV->Option V
 | .non=>some .non
 | .bl b=>some (.bl b)
 | .int i=>some (.int i)
 | .str s=>some (.str s)
 | _=>none
theorem ylC {W:Wd}{x:PV}{v u:V}(e:sv x=some u) (r:yfc K W x v):v=u:=by
 cases x<;>cases e<;>exact r
noncomputable def oEq:P2:=fun x y h=>match sv x,sv y with|some v,some u=>if yDt v u=true then some (.bl (decide (v=u)),h) else none|_,_=>none
noncomputable def oNe:P2:=fun x y h=>match sv x,sv y with|some v,some u=>if yDt v u=true then some (.bl (!decide (v=u)),h) else none|_,_=>none
theorem yiK:ygt K rEq oEq:=by
 intro W x y v u Q z h' w rx ry e q
 unfold oEq at e
 split at e
 .rename_i v' u' e1 e2
  obtain rfl:=ylC e1 rx
  obtain rfl:=ylC e2 ry
  split at e
  .rename_i c
   cases e
   exact ⟨c,q _ W rfl (.refl w) rfl⟩
  .cases e
 .cases e
theorem yIg:ygt K rNe oNe:=by
 intro W x y v u Q z h' w rx ry e q
 unfold oNe at e
 split at e
 .rename_i v' u' e1 e2
  obtain rfl:=ylC e1 rx
  obtain rfl:=ylC e2 ry
  split at e
  .rename_i c
   cases e
   exact ⟨c,q _ W rfl (.refl w) rfl⟩
  .cases e
 .cases e
def isN:PV->Bool
 | .non=>true
 | _=>false
def yHf:P2:=fun x y h=>match y with|.non=>some (.bl (isN x),h)|_=>none
def yCc:P2:=fun x y h=>match y with|.non=>some (.bl (!isN x),h)|_=>none
theorem yzi {W:Wd}{x:PV}{v:V}(r:yfc K W x v):decide (v=.non)=isN x:=by
 cases x with
 | non=>rw [show v=.non from r];rfl
 | bl b=>rw [show v=.bl b from r];rfl
 | int b=>rw [show v=.int b from r];rfl
 | str b=>rw [show v=.str b from r];rfl
 | ty b=>rw [show v=.ty b from r];rfl
 | cls b=>rw [show v=.ref _ from r];rfl
 | scr b=>obtain ⟨a,e,_⟩:=r;rw [e];rfl
 | lst b=>obtain ⟨a,_,e,_⟩:=r;rw [e];rfl
 | tup b=>obtain ⟨a,_,e,_⟩:=r;rw [e];rfl
 | ins k n b=>obtain ⟨a,_,_,e,_⟩:=r;rw [e];rfl
 | loc n=>obtain ⟨a,e,_⟩:=r;rw [e];rfl
theorem yFP:ygt K yMD yHf:=by
 intro W x y v u Q z h' w rx ry e q
 unfold yHf at e
 split at e
 .cases e
  exact ⟨ry,by rw [yzi rx];exact q _ W rfl (.refl w) rfl⟩
 .cases e
theorem yIh:ygt K yKz yCc:=by
 intro W x y v u Q z h' w rx ry e q
 unfold yCc at e
 split at e
 .cases e
  exact ⟨ry,by rw [yzi rx];exact q _ W rfl (.refl w) rfl⟩
 .cases e
noncomputable def yCd:P2:=fun x y h=>match x,y with|.str i,.str j=>if i.length+j.length<=100000 then some (.str (i++j),h) else none|_,_=>none
theorem yIi:ygt K yKy yCd:=by
 intro W x y v u Q z h' w rx ry e q
 unfold yCd at e
 split at e
 .rename_i i j
  split at e
  .rename_i c
   cases e
   exact ⟨i,j,rx,ry,yJO c,q _ W rfl (.refl w) rfl⟩
  .cases e
 .cases e
noncomputable def yMZ:P2:=fun x y h=>match x,y with|.str s,.str j=>(match s.cps.toList with|[c]=>some (.bl (decide (c∈j.cps.toList)),h)|_=>none)|_,_=>none
theorem one_sign {s:Str}{c:Nat}(h:s.cps.toList=[c]):s=⟨#[c]⟩:=by
 obtain ⟨⟨l⟩⟩:=s
 have:l=[c]:=h
 rw [this]
noncomputable def ygv:P2:=fun x y h=>match y with
 | .int i=>(match x with
  | .lst xs=>(match atI xs i with|some v=>some (v,h)|none=>none)
  | .scr ns=>(match atI ns i with|some v=>some (.int v,h)|none=>none)
  | .loc n=>(match h[n]? with|some (.lst xs)=>(match atI xs i with|some v=>some (v,h)|none=>none)|_=>none)
  | _=>none)
 | _=>none
def ydd:P2:=fun x y h=>match x,y with|.tup xs,.int i=>(match atI xs i with|some v=>some (v,h)|none=>none)|_,_=>none
noncomputable def yzj:P2:=fun x y h=>match x,y with|.str s,.int i=>(match atI s.cps.toList i with|some c=>if s.length<=100000 then some (sgn c,h) else none|none=>none)|_,_=>none
theorem RepL.at {F:Hp}{m:List Addr}{xs:List PV}{vs:List V}(r:RepL K F m xs vs) {i:Int}{x:PV}(e:atI xs i=some x):∃ v,atI vs i=some v/\Rep K F m x v:=by
 unfold atI at e ⊢
 rw [r.len]
 obtain ⟨j,e1,e2⟩:=Option.bind_eq_some_iff.mp e
 rw [e1]
 exact r.get e2
theorem WOk.loc {W:Wd}(w:WOk K W) {n:Nat}{d:Nd}{v:V}(e:W.h[n]?=Option.some d) (r:yfc K W (.loc n) v):∃ a,v=.ref a/\W.m[n]?=Option.some a/\NdAt K W.F W.H W.m d a:=by
 obtain ⟨a,ea,h⟩:=r
 exact ⟨a,ea,h,w.at_ n d a e h⟩
theorem ydZ:ygt K (yKm K.K) ygv:=by
 intro W x y v u Q z h' w rx ry e q
 unfold ygv at e
 split at e
 .rename_i i
  split at e
  .rename_i xs
   split at e
   .rename_i y hy
    cases e
    obtain ⟨a,vs,ev,hs,rs⟩:=rx
    obtain ⟨v',h1,h2⟩:=rs.at hy
    exact ⟨a,vs,i,v',ev,ry,SqL.of (w.le _ _ hs),h1,q _ W rfl (.refl w) h2⟩
   .cases e
  .rename_i ns
   split at e
   .rename_i y hy
    cases e
    obtain ⟨a,ev,hs⟩:=rx
    refine ⟨a,_,i,.int y,ev,ry,ykP w hs,?_,q _ W rfl (.refl w) rfl⟩
    unfold atI at hy ⊢
    rw [List.length_map]
    obtain ⟨j,e1,e2⟩:=Option.bind_eq_some_iff.mp hy
    rw [e1]
    show (ns.map V.int)[j]?=_
    rw [List.getElem?_map,e2];rfl
   .cases e
  .rename_i n
   split at e
   .rename_i xs hn
    split at e
    .rename_i y hy
     cases e
     obtain ⟨a,ev,hm,hf,vs,hp,rs⟩:=w.loc hn rx
     obtain ⟨v',h1,h2⟩:=rs.at hy
     exact ⟨a,vs,i,v',ev,ry,SqL.of hp,h1,q _ W rfl (.refl w) h2⟩
    .cases e
   .cases e
  .cases e
 .cases e
theorem ybk:ygt K (yKn K.K) ydd:=by
 intro W x y v u Q z h' w rx ry e q
 unfold ydd at e
 split at e
 .rename_i xs i
  split at e
  .rename_i y hy
   cases e
   obtain ⟨a,vs,ev,hs,rs⟩:=rx
   obtain ⟨v',h1,h2⟩:=rs.at hy
   exact ⟨a,vs,i,v',ev,ry,yhc w hs,h1,q _ W rfl (.refl w) h2⟩
  .cases e
 .cases e
theorem yvi:ygt K yKo yzj:=by
 intro W x y v u Q z h' w rx ry e q
 unfold yzj at e
 split at e
 .rename_i s i
  split at e
  .rename_i c hc
   split at e
   .rename_i hl
    cases e
    exact ⟨s,i,c,rx,ry,yJO hl,hc,q _ W rfl (.refl w) rfl⟩
   .cases e
  .cases e
 .cases e
noncomputable def yJR:PV->Option Int->Option Int->AH->Option (PV×AH):=fun x lo hi h=>match x with|.str z=>if z.length<=100000 then some (.str (yJM z lo hi),h) else none|_=>none
theorem yKH:yFD K yMi yJR:=by
 intro W x v lo hi Q z h' w rx e q
 unfold yJR at e
 split at e
 .rename_i s
  split at e
  .rename_i hl
   cases e
   exact ⟨s,rx,by omega,q _ W rfl (.refl w) rfl⟩
  .cases e
 .cases e
noncomputable def ysD {α:Type}(xs:List α) (lo hi:Option Int):List α:=(xs.drop (HT.sIx xs.length 0 lo)).take (HT.sIx xs.length xs.length hi-HT.sIx xs.length 0 lo)
noncomputable def listOf (x:PV) (h:AH):Option (List PV):=match x with|.lst xs=>some xs|.scr ns=>some (ns.map .int)|.loc n=>(match h[n]? with|some (.lst xs)=>some xs|_=>none)|_=>none
theorem yqE {W:Wd}(w:WOk K W) {x:PV}{v:V}{xs:List PV}(e:listOf x W.h=some xs) (r:yfc K W x v):∃ a vs,v=.ref a/\SqL K.K W.H a vs/\yfx K W xs vs:=by
 unfold listOf at e
 split at e
 .cases e
  obtain ⟨a,vs,ev,hs,rs⟩:=r
  exact ⟨a,vs,ev,SqL.of (w.le _ _ hs),rs⟩
 .rename_i ns
  cases e
  obtain ⟨a,ev,hs⟩:=r
  exact ⟨a,_,ev,ykP w hs,RepL.of_ints ns⟩
 .rename_i n
  split at e
  .rename_i ys hn
   cases e
   obtain ⟨a,ev,hm,hf,vs,hp,rs⟩:=w.loc hn r
   exact ⟨a,vs,ev,SqL.of hp,rs⟩
  .cases e
 .cases e
noncomputable def ydA (x:PV) (h:AH):Option (List PV):=match x with|.lst xs=>some xs|.loc n=>(match h[n]? with|some (.lst xs)=>some xs|_=>none)|_=>none
theorem ycn {W:Wd}(w:WOk K W) {x:PV}{v:V}{xs:List PV}(e:ydA x W.h=some xs) (r:yfc K W x v):∃ a vs,v=.ref a/\W.H a=some (.lst vs)/\yfx K W xs vs:=by
 unfold ydA at e
 split at e
 .cases e
  obtain ⟨a,vs,ev,hs,rs⟩:=r
  exact ⟨a,vs,ev,w.le _ _ hs,rs⟩
 .rename_i n
  split at e
  .rename_i ys hn
   cases e
   obtain ⟨a,ev,hm,hf,vs,hp,rs⟩:=w.loc hn r
   exact ⟨a,vs,ev,hp,rs⟩
  .cases e
 .cases e
theorem yJS {W:Wd}(w:WOk K W) {p:Addr}(hp:W.H p=none) {xs:List PV}{vs:List V}(r:yfx K W xs vs) {Q:VK}(q:yxx K W (.lst xs) W.h Q):Q (.ref p) (upd W.H p (.lst vs)) :=
 q p (ypT W p (.lst vs)) rfl (ygu w hp) (w.out hp) hp (fun z=>by cases z) ⟨w.ff hp,vs,yX,r⟩
noncomputable def yBh:PV->Option Int->Option Int->AH->Option (Nd×AH):=fun x lo hi h=>match listOf x h with|some xs=>some (.lst (ysD xs lo hi),h)|none=>none
theorem yxD:yyZ K (yMe K.K) yBh:=by
 intro W x v lo hi Q d h' w rx e q
 unfold yBh at e
 split at e
 .rename_i xs hx
  cases e
  obtain ⟨a,vs,ev,hs,rs⟩:=yqE w hx rx
  refine ⟨a,vs,ev,hs,fun p hp=>yJS w hp ?_ q⟩
  have:=(rs.drop (HT.sIx xs.length 0 lo)).take (HT.sIx xs.length xs.length hi-HT.sIx xs.length 0 lo)
  unfold ysD yHN
  rw [rs.len]
  exact this
 .cases e
noncomputable def yFQ:P2O:=fun x y h=>match ydA x h,ydA y h with|some xs,some ys=>if xs.length+ys.length<=100000 then some (.lst (xs++ys),h) else none|_,_=>none
theorem yCe:yyT K yMg yFQ:=by
 intro W x y v u Q d h' w rx ry e q
 unfold yFQ at e
 split at e
 .rename_i xs ys hx hy
  split at e
  .rename_i hl
   cases e
   obtain ⟨a,vs,ev,hs,rs⟩:=ycn w hx rx
   obtain ⟨b,us,eu,ht,ru⟩:=ycn w hy ry
   refine ⟨a,b,vs,us,ev,eu,hs,ht,by rw [rs.len,ru.len];exact yJO hl,fun p hp=>yJS w hp (rs.app ru) q⟩
  .cases e
 .cases e
def repL {α:Type}(k:Nat) (xs:List α):List α:=(List.replicate k xs).flatten
noncomputable def yzk (x:PV) (h:AH):Option Nat:=match x with|.tup xs=>some xs.length|.lst xs=>some xs.length|.scr ns=>some ns.length|.loc n=>(match h[n]? with|some (.lst xs)=>some xs.length|_=>none)|_=>none
noncomputable def yiN:List PV->AH->Option (PV×AH):=fun xs h=>match xs with|[x]=>(match yzk x h with|some n=>some (.int n,h)|none=>none)|_=>none
noncomputable def yCf:List PV->AH->Option (PV×AH):=fun xs h=>match xs with|[.str z]=>if z.length<=100000 then some (.int z.length,h) else none|_=>none
theorem yxE {W:Wd}{x:PV}{vs:List V}(r:yfx K W [x] vs):∃ v,vs=[v]/\yfc K W x v:=by
 obtain ⟨v,r',e,h,l⟩:=r
 exact ⟨v,by rw [e,show r'=[] from l],h⟩
theorem yMk {W:Wd}{x y:PV}{vs:List V}(r:yfx K W [x,y] vs):∃ v u,vs=[v,u]/\yfc K W x v/\yfc K W y u:=by
 obtain ⟨v,r',e,h,l⟩:=r
 obtain ⟨u,e2,h2⟩:=yxE l
 exact ⟨v,u,by rw [e,e2],h,h2⟩
theorem ykH:yri K (yKC K.K) yiN:=by
 intro W xs vs Q z h' w r e q
 unfold yiN at e
 split at e
 .rename_i x
  split at e
  .rename_i n hn
   cases e
   obtain ⟨v,rfl,rx⟩:=yxE r
   have fin:∀ (ys:List V),ys.length=n->Q (.int ys.length) W.H:=fun ys hl=>by rw [hl];exact q _ W rfl (.refl w) rfl
   unfold yzk at hn
   split at hn
   .cases hn
    obtain ⟨a,us,rfl,hs,rs⟩:=rx
    exact ⟨a,us,rfl,.inr (yhc w hs),fin _ rs.len⟩
   .rename_i ys
    cases hn
    obtain ⟨a,us,rfl,hs,rs⟩:=rx
    exact ⟨a,us,rfl,.inl (SqL.of (w.le _ _ hs)),fin _ rs.len⟩
   .rename_i ns
    cases hn
    obtain ⟨a,rfl,hs⟩:=rx
    exact ⟨a,_,rfl,.inl (ykP w hs),fin _ (by simp)⟩
   .split at hn
    .rename_i ys hy
     cases hn
     obtain ⟨a,rfl,hm,hf,us,hp,rs⟩:=w.loc hy rx
     exact ⟨a,us,rfl,.inl (SqL.of hp),fin _ rs.len⟩
    .cases hn
   .cases hn
  .cases e
 .cases e
theorem yIj:yri K yKB yCf:=by
 intro W xs vs Q z h' w r e q
 unfold yCf at e
 split at e
 .rename_i s
  split at e
  .rename_i hl
   cases e
   obtain ⟨v,rfl,rx⟩:=yxE r
   exact ⟨s,by rw [show v=_ from rx],yJO hl,q _ W rfl (.refl w) rfl⟩
  .cases e
 .cases e
noncomputable def yxF:List PV->AH->Option (PV×AH):=fun xs h=>match xs with|[.int i]=>some (.int i,h)|[.bl k]=>some (.int (if k then 1 else 0),h)|_=>none
theorem yzl:yri K yKA yxF:=by
 intro W xs vs Q z h' w r e q
 unfold yxF at e
 split at e
 .rename_i i
  cases e
  obtain ⟨v,rfl,rx⟩:=yxE r
  exact .inl ⟨i,by rw [show v=_ from rx],q _ W rfl (.refl w) rfl⟩
 .rename_i k
  cases e
  obtain ⟨v,rfl,rx⟩:=yxE r
  exact .inr ⟨k,by rw [show v=_ from rx],q _ W rfl (.refl w) rfl⟩
 .cases e
noncomputable def ybD:List PV->AH->Option (Nd×AH):=fun xs h=>match xs with|[.tup ys]=>some (.lst ys,h)|[x]=>(match listOf x h with|some ys=>some (.lst ys,h)|none=>none)|_=>none
theorem ycb:ytg K (yFj K.K) ybD:=by
 intro W xs vs Q d h' w r e q
 unfold ybD at e
 split at e
 .rename_i ys
  cases e
  obtain ⟨v,rfl,a,us,rfl,hs,rs⟩:=yxE r
  exact ⟨a,us,rfl,.inr (yhc w hs),fun p hp=>yJS w hp rs q⟩
 .rename_i x _
  split at e
  .rename_i ys hy
   cases e
   obtain ⟨v,rfl,rx⟩:=yxE r
   obtain ⟨a,us,rfl,hs,rs⟩:=yqE w hy rx
   exact ⟨a,us,rfl,.inl hs,fun p hp=>yJS w hp rs q⟩
  .cases e
 .cases e
def intsOf:List PV->Option (List Int)
 | []=>some []
 | .int s::r=>(intsOf r).map (s::·)
 | _=>none
theorem yqF:∀ ss:List Int,intsOf (ss.map .int)=some ss
 | []=>rfl
 | s::ss=>by show (intsOf (ss.map .int)).map _=_;rw [yqF ss];rfl
theorem yqG {F:Hp}{m:List Addr}:∀ {xs:List PV}{ss:List Int}{vs:List V},intsOf xs=some ss->RepL K F m xs vs->vs=ss.map V.int
 | [],_,_,e,r=>by cases e;exact r
 | x::xs,ss,_,e,⟨v,r',ev,h,l⟩=>by
  cases x<;>try cases e
  rename_i s
  obtain ⟨ts,e1,e2⟩:=Option.map_eq_some_iff.mp e
  subst e2
  rw [ev,show v=_ from h,yqG e1 l];rfl
noncomputable def yFR:List PV->AH->Option (PV×AH):=fun xs h=>match xs with|[x]=>(match ydA x h with|some ys=>(match intsOf ys with|some ns=>some (.int ns.sum,h)|none=>none)|none=>none)|_=>none
theorem yFS:yri K yMj yFR:=by
 intro W xs vs Q z h' w r e q
 unfold yFR at e
 split at e
 .split at e
  .rename_i ys hy
   split at e
   .rename_i ns hn
    cases e
    obtain ⟨v,rfl,rx⟩:=yxE r
    obtain ⟨a,us,rfl,hs,rs⟩:=ycn w hy rx
    have:=yqG hn rs
    subst this
    exact ⟨a,ns,rfl,hs,q _ W rfl (.refl w) rfl⟩
   .cases e
  .cases e
 .cases e
def isStr:PV->AH->Bool:=fun x _=>match x with|.str _=>true|_=>false
noncomputable def yeo:PM:=fun x xs h=>match x,xs with|.str z,[.str s]=>(match s.cps.toList with|[c]=>if z.length<=1000/\c∈z.cps.toList then some (.int (z.cps.toList.idxOf c),h) else none|_=>none)|_,_=>none
theorem yeB:yth K "str" isStr yyP yeo:=by
 refine ⟨fun W x v w r c=>?_,fun W x v xs vs Q z h' w rx r e q=>?_⟩
 .unfold isStr at c
  split at c
  .rw [show v=_ from r];rfl
  .cases c
 .unfold yeo at e
  split at e
  .rename_i z s
   split at e
   .rename_i c hc
    split at e
    .rename_i hl
     cases e
     obtain ⟨u,rfl,ru⟩:=yxE r
     exact ⟨z,c,rx,by rw [show u=_ from ru,one_sign hc],hl.1,hl.2,q _ W rfl (.refl w) rfl⟩
    .cases e
   .cases e
  .cases e
end PX
namespace PX
open PySem L2
variable {K:Ck}
noncomputable def putN (f:Str) (x:PV) (ns:List Str) (xs:List PV):List Str×List PV:=if f∈ns then (ns,xs.set (ns.idxOf f) x) else (ns++[f],xs++[x])
theorem ywA (f:Str) (y:V):∀ (ns:List Str) (vs:List V),vs.length=ns.length->yqC f y (ns.zip vs)=if f∈ns then ns.zip (vs.set (ns.idxOf f) y) else (ns++[f]).zip (vs++[y])
 | [],[],_=>by simp [yqC]
 | n::ns,v::vs,hl=>by
  have ih:=ywA f y ns vs (by simpa using hl)
  show (if n=f then (n,y)::ns.zip vs else (n,v)::yqC f y (ns.zip vs))=_
  by_cases h:n=f
  .subst h
   simp [List.idxOf_cons_self]
  .have h':¬ f=n:=fun z=>h z.symm
   have hb:(n == f)=false:=by simpa using h
   rw [if_neg h,ih]
   by_cases hm:f∈ns
   .simp [hm,h',List.idxOf_cons,hb]
   .simp [hm,h']
theorem yqH {f:Str}:∀ {ns:List Str}{vs:List V},vs.length=ns.length->f∈ns->(ns.zip vs).lookup f=vs[ns.idxOf f]?
 | [],_,_,h=>by simp at h
 | n::ns,v::vs,hl,h=>by
  show List.lookup f ((n,v)::ns.zip vs)=_
  by_cases hn:f=n
  .subst hn
   rw [yKE,List.idxOf_cons_self];rfl
  .rw [yHQ hn,yqH (by simpa using hl) (by simpa [hn] using h)]
   have hb:(n == f)=false:=by simpa using fun z:n=f=>hn z.symm
   simp [List.idxOf_cons,hb]
theorem yjH {f:Str}:∀ {ns:List Str}{vs:List V},f∉ns->(ns.zip vs).lookup f=none
 | [],_,_=>by simp
 | n::ns,[],_=>by simp
 | n::ns,v::vs,h=>by
  show List.lookup f ((n,v)::ns.zip vs)=_
  rw [yHQ (fun z:f=n=>h (by rw [z];exact List.mem_cons_self)),yjH fun z=>h (List.mem_cons_of_mem _ z)]
noncomputable def ykQ (x:PV) (h:AH):Option (Nat×List Str×List PV):=match x with|.ins k ns xs=>some (k,ns,xs)|.loc n=>(match h[n]? with|some (.ins k ns xs)=>some (k,ns,xs)|_=>none)|_=>none
theorem yoB {W:Wd}(w:WOk K W) {x:PV}{v:V}{k:Nat}{ns:List Str}{xs:List PV}(e:ykQ x W.h=some (k,ns,xs)) (r:yfc K W x v):∃ a dx vs,v=.ref a/\W.H a=some (.ins (K.A k) dx (ns.zip vs))/\vs.length=ns.length/\yfx K W xs vs:=by
 unfold ykQ at e
 split at e
 .cases e
  obtain ⟨a,dx,vs,ev,hs,hl,rs⟩:=r
  exact ⟨a,dx,vs,ev,w.le _ _ hs,hl,rs⟩
 .rename_i n
  split at e
  .rename_i hn
   cases e
   obtain ⟨a,ev,hm,hf,dx,vs,hp,hl,rs⟩:=w.loc hn r
   exact ⟨a,dx,vs,ev,hp,hl,rs⟩
  .cases e
 .cases e
noncomputable def yfB (cs:List Nat) (f:Str) (e:XE):XE:=fun ρ h=>ob (e ρ h) fun x h1=>match ykQ x h1 with|some (k,ns,xs)=>if k∈cs/\f∈ns then (match xs[ns.idxOf f]? with|some y=>some (y,h1)|none=>none) else none|none=>none
theorem yFT {cs:List Nat}{f:Str}{ta:TE}{ea:XE}(hc:∀ k∈cs,Cls K.K (K.A k)/\NoAttr K.K (K.A k) f) (a:ydx K ta ea):ydx K (yMb K.K ta f) (yfB cs f ea):=by
 intro W0 W ρ σ Q z h' g e q
 obtain ⟨x,h1,e1,f1⟩:=yo e
 refine a W0 W ρ σ _ x h1 g e1 fun v W1 w1 l1 r1=>?_
 subst w1
 split at f1
 .rename_i k ns xs hi
  split at f1
  .rename_i c
   split at f1
   .rename_i y hy
    cases f1
    obtain ⟨a,dx,vs,ev,hp,hl,rs⟩:=yoB l1.ok hi r1
    obtain ⟨u,h2,h3⟩:=rs.get hy
    exact ⟨a,_,dx,_,u,ev,hp,(hc k c.1).1,(hc k c.1).2,by rw [yqH hl c.2];exact h2,q _ W1 rfl l1 h3⟩
   .cases f1
  .cases f1
 .cases f1
noncomputable def yfb (cs:List Nat) (i:Nat) (f:Str) (e:XE):XS:=fun ρ h=>ob (e ρ h) fun x h1=>match ρ[i]? with
 | some (.own (.ins k ns xs))=>if k∈cs/\ns.length<1000 then some (.nx (ρ.set i (.own (.ins k (putN f x ns xs).1 (putN f x ns xs).2))),h1) else none
 | _=>none
theorem RepL.putN {F:Hp}{m:List Addr}{f:Str}{x:PV}{v:V}{ns:List Str}{xs:List PV}{vs:List V}(r:RepL K F m xs vs) (hl:vs.length=ns.length) (rx:Rep K F m x v) :
  ∃ us,yqC f v (ns.zip vs)=(PX.putN f x ns xs).1.zip us/\us.length=(PX.putN f x ns xs).1.length/\RepL K F m (PX.putN f x ns xs).2 us:=by
 rw [ywA f v ns vs hl]
 unfold PX.putN
 by_cases h:f∈ns
 .rw [if_pos h,if_pos h]
  exact ⟨_,rfl,by rw [List.length_set];exact hl,r.set _ rx⟩
 .rw [if_neg h,if_neg h]
  exact ⟨_,rfl,by rw [List.length_append,List.length_append,hl];rfl,r.snoc rx⟩
noncomputable def yBi (K:Ck) (t:TS) (s:XS):Prop:=∀ (W0 W:Wd) (ρ ρ':PSt) (σ:St) (D:Ends) (h':AH),Good K W0 W ρ σ->s ρ W.h=some (.nx ρ',h')->(∀ W',W'.h=h'->Lf K W W'->Good K W0 W' ρ' σ->D.nx σ W'.H)->t D σ W.H
theorem yCg {cs:List Nat}{i:Nat}{f:Str}{ta:TE}{ea:XE}(hc:∀ k∈cs,Cls K.K (K.A k)/\NoAttr K.K (K.A k) f) (a:ydx K ta ea):yBi K (yKj K.K (yDm i) ta f) (yfb cs i f ea):=by
 intro W0 W ρ ρ' σ D h' g e q
 obtain ⟨x,h1,e1,f1⟩:=yo e
 split at f1
 .rename_i k ns xs hi
  split at f1
  .rename_i c
   cases f1
   refine a W0 W ρ σ _ x _ g e1 fun v W1 w1 l1 r1=>?_
   have g1:=g.step l1
   obtain ⟨p,b1,b2,b3,b4,b5,dx,vs,b6,b7,b8⟩:=g1.own i _ hi
   obtain ⟨us,p1,p2,p3⟩:=b8.putN (f:=f) b7 r1
   refine ⟨_,b1,p,_,dx,_,rfl,b6,(hc k c.1).1,(hc k c.1).2,by rw [List.length_zip,b7];simpa using c.2,?_⟩
   rw [p1]
   exact q (yFK W1 p _) w1 (yDG l1 b2) (g1.mut hi b1 b2 b3 b5 (fun z=>by cases z) ⟨b5,dx,us,yX,p2,p3⟩)
  .cases f1
 .cases f1
theorem yCh {t u:TS}{s s':XS}(a:yBi K t s) (b:yBi K u s'):yBi K (yKc t u) (yu s s'):=by
 intro W0 W ρ ρ' σ D h' g e q
 obtain ⟨o1,h1,e1,f1⟩:=yo e
 cases o1 with
 | nx ρ1=>exact a W0 W ρ ρ1 σ _ h1 g e1 fun W1 w1 l1 g1=>b W0 W1 ρ1 ρ' σ D h' g1 (by rw [w1];exact f1) fun W2 w2 l2 g2=>q W2 w2 (l1.trans l2) g2
 | rt y=>cases f1
 | bk y=>cases f1
 | ct y=>cases f1
noncomputable def ytk (N:Nat) (k:Nat) (s:XS):List PV->AH->Option (Nd×AH):=fun xs h=>ob (s (.own (.ins k [] [])::(xs.map .val++List.replicate (N-(xs.length+1)) .no)) h) fun o h1=>match o with|.nx ρ=>(match ρ[0]? with|some (PVar.own d)=>some (d,h1)|_=>none)|_=>none
noncomputable def spI (K:Ck) (n k:Nat) (f:List PV->AH->Option (Nd×AH)):Sp:=fun vs H Q _=>∃ (W:Wd) (x dx:Addr) (args:List V) (xs:List PV) (d:Nd) (h':AH),vs=.ref x::args/\W.H x=none/\W.H dx=none/\dx≠x/\H=upd (upd W.H dx (.own x)) x (.ins (K.A k) dx []) /\
 WOk K W/\yfx K W xs args/\xs.length=n/\f xs W.h=some (d,h')/\∀ W',W'.h=h'->Le K W W'->x∉W'.m->d≠.dead->NdAt K W'.F W'.H W'.m d x->Q .non W'.H
theorem yFU {n k:Nat}{f} {vs:List V}{H:Hp}{Q:VK}{E:XK}(h:spI K n k f vs H Q E):vs.length=n+1:=by
 obtain ⟨W,x,dx,args,xs,d,h',rfl,_,_,_,_,w,r,hn,_⟩:=h
 rw [List.length_cons,r.len,hn]
theorem yCi {N:List Str}{n k:Nat}{t:TS}{s:XS}{vs:List V}{H:Hp}{Q:VK}{E:XK}{bk ct:St->Hp->Prop}(hN:n+1<=N.length) (a:yBi K t s) (h:spI K n k (ytk N.length k s) vs H Q E):t ⟨fun _ H'=>Q .non H',Q,bk,ct⟩ (L2.start N vs) H:=by
 obtain ⟨W,x,dx,args,xs,d,h',rfl,hx,hd,hne,rfl,w,r,hn,e,q⟩:=h
 obtain ⟨o,h1,e1,f1⟩:=yo e
 have l1:Le K W (ypT W dx (.own x)):=ygu w hd
 have hx1:(ypT W dx (.own x)).H x=none:=(ybe hne.symm).trans hx
 have l2:Le K (ypT W dx (.own x)) (ypT (ypT W dx (.own x)) x (.ins (K.A k) dx [])):=ygu l1.ok hx1
 have l:=l1.trans l2
 have gs:=ymz (K:=K) (N:=N.drop 1) w r
 have g:Good K W (ypT (ypT W dx (.own x)) x (.ins (K.A k) dx [])) (.own (.ins k [] [])::(xs.map .val++List.replicate (N.length-(xs.length+1)) .no)) (L2.start N (.ref x::args)):=by
  have es:L2.start N (.ref x::args)=some (.ref x)::L2.start (N.drop 1) args:=by
   have e3:N.length-(args.length+1)=(N.drop 1).length-args.length:=by rw [List.length_drop];omega
   unfold L2.start
   rw [List.map_cons,List.cons_append,List.length_cons,e3]
  have eN:N.length-(xs.length+1)=(N.drop 1).length-xs.length:=by rw [List.length_drop];omega
  rw [es,eN]
  have gs':=gs.step l
  have noown:∀ (j:Nat) (d:Nd),(xs.map PVar.val++List.replicate ((N.drop 1).length-xs.length) .no)[j]?≠some (.own d):=fun j d z=>by
   by_cases hj:j<xs.length
   .rw [List.getElem?_append_left (by simpa using hj),List.getElem?_map,List.getElem?_eq_getElem hj] at z
    cases z
   .rw [List.getElem?_append_right (by simp;omega),List.getElem?_replicate] at z
    split at z<;>cases z
  refine ⟨l,by rw [List.length_cons,List.length_cons,gs.len],fun j y z=>?_,fun j d z=>?_,fun i j d d' hij z z'=>?_⟩
  .cases j with
   | zero=>cases z
   | succ j=>exact gs'.val j y z
  .cases j with
   | zero=>cases z;exact ⟨x,rfl,w.out hx,hx,(fun z=>by cases z),w.ff hx,dx,[],yX,rfl,rfl⟩
   | succ j=>exact absurd z (noown j d)
  .cases i with
   | zero =>
    cases j with
    | zero=>exact absurd rfl hij
    | succ j=>exact absurd z' (noown j d')
   | succ i=>exact absurd z (noown i d)
 cases o with
 | rt y=>cases f1
 | bk ρ=>cases f1
 | ct ρ=>cases f1
 | nx ρ =>
  refine a W _ _ ρ _ _ h1 g e1 fun W' ew lf g'=>?_
  dsimp only at f1
  split at f1
  .rename_i d' hd'
   cases f1
   obtain ⟨p,b1,b2,b3,b4,b5⟩:=g'.own 0 _ hd'
   have b1:some (some (V.ref x))=some (some (V.ref p)):=b1
   cases b1
   exact q W' ew g'.le b2 b4 b5
  .cases f1
def ylD (f:List PV->AH->Option (Nd×AH)) (a:XA):XO:=fun ρ h=>ob (a ρ h) f
theorem ywB {n k:Nat}{f} {ex:XK}{t:TA}{e:XA}(a:yuD K t e) (hn:∀ ρ h xs h',e ρ h=some (xs,h')->xs.length=n):yww K (yFd (K.A k) (spI K n k f) [] ex t) (ylD f e):=by
 intro W0 W ρ σ Q d h' g e' q
 obtain ⟨xs,h1,e1,e2⟩:=yo e'
 refine a W0 W ρ σ _ xs h1 g e1 fun vs W1 w1 l1 r1=>?_
 subst w1
 intro x dx hx hd hne
 rw [List.append_nil]
 exact ⟨W1,x,dx,vs,xs,d,h',rfl,hx,hd,hne,rfl,l1.ok,r1,hn _ _ _ _ e1,e2,fun W2 w2 l2 hm hdd at_=>⟨rfl,q x W2 w2 (l1.trans l2) hm (l1.fresh hx) hdd at_⟩⟩
def ywC (k:Nat):XO:=fun _ h=>some (.ins k [] [],h)
theorem yzm {k:Nat}:yww K (yDz (K.A k)) (ywC k):=by
 intro W0 W ρ σ Q d h' g e q
 cases e
 intro x dx hx hd hne
 have w:=g.ok
 have l1:Le K W (ypT W dx (.own x)):=ygu w hd
 have hx1:(ypT W dx (.own x)).H x=none:=(ybe hne.symm).trans hx
 have l2:Le K (ypT W dx (.own x)) (ypT (ypT W dx (.own x)) x (.ins (K.A k) dx [])):=ygu l1.ok hx1
 exact q x (ypT (ypT W dx (.own x)) x (.ins (K.A k) dx [])) rfl (l1.trans l2) (w.out hx) hx (fun z=>by cases z) ⟨w.ff hx,dx,[],yX,rfl,rfl⟩
noncomputable def yxG (tb:List (Nat×Nat×Bool)) (x c:PV) (h:AH):Option Bool:=match c with
 | .ty n=>(match x with
  | .int _=>if n = "int" then some true else if n = "bool"\/n = "str"\/n = "list"\/n = "tuple"\/n = "dict" then some false else none
  | .bl _=>if n = "int"\/n = "bool" then some true else if n = "str"\/n = "list"\/n = "tuple"\/n = "dict" then some false else none
  | .str _=>if n = "str" then some true else if n = "int"\/n = "bool"\/n = "list"\/n = "tuple"\/n = "dict" then some false else none
  | .non=>if n = "int"\/n = "bool"\/n = "str"\/n = "list"\/n = "tuple"\/n = "dict" then some false else none
  | .tup _=>if n = "tuple" then some true else if n = "int"\/n = "bool"\/n = "str"\/n = "list"\/n = "dict" then some false else none
  | _=>(match ydA x h with|some _=>if n = "list" then some true else if n = "int"\/n = "bool"\/n = "str"\/n = "tuple"\/n = "dict" then some false else none|none=>none))
 | .cls c'=>(match ykQ x h with|some (k,_)=>(tb.find? fun r=>r.1 == k && r.2.1 == c').map (·.2.2)|none=>none)
 | _=>none
noncomputable def ycw (tb:List (Nat×Nat×Bool)):List PV->AH->Option (PV×AH):=fun xs h=>match xs with|[x,c]=>(match yxG tb x c h with|some b=>some (.bl b,h)|none=>none)|_=>none
theorem yjI {tb:List (Nat×Nat×Bool)}(ht:∀ r∈tb,∀ (H:Hp) (a dx:Addr) (fs:List (Str×V)),H a=some (.ins (K.A r.1) dx fs)->IsI K.K H (.ref a) (.ref (K.A r.2.1)) r.2.2):yri K (yMh K.K) (ycw tb):=by
 intro W xs vs Q z h' w r e q
 unfold ycw at e
 split at e
 .rename_i x c
  split at e
  .rename_i b hb
   cases e
   obtain ⟨v,u,rfl,rx,ru⟩:=yMk r
   refine ⟨v,u,b,rfl,?_,q _ W rfl (.refl w) rfl⟩
   unfold yxG at hb
   split at hb
   .rename_i n
    obtain rfl:u=.ty n:=ru
    split at hb
    .rw [show v=_ from rx]
     repeat' split at hb
     all_goals cases hb
     .rename_i hn;subst hn;exact yuN
     .rename_i hn;rcases hn with rfl|rfl|rfl|rfl|rfl
      .exact ysP
      .exact yuT
      .exact ysS
      .exact yrd
      .exact ysT
    .rw [show v=_ from rx]
     repeat' split at hb
     all_goals cases hb
     .rename_i hn;rcases hn with rfl|rfl
      .exact yxu
      .exact yuP
     .rename_i hn;rcases hn with rfl|rfl|rfl|rfl
      .exact yxv
      .exact yuU
      .exact ysU
      .exact yuV
    .rw [show v=_ from rx]
     repeat' split at hb
     all_goals cases hb
     .rename_i hn;subst hn;exact yuQ
     .rename_i hn;rcases hn with rfl|rfl|rfl|rfl|rfl
      .exact yuW
      .exact ysV
      .exact ysW
      .exact yre
      .exact ysX
    .rw [show v=_ from rx]
     repeat' split at hb
     all_goals cases hb
     .rename_i hn;rcases hn with rfl|rfl|rfl|rfl|rfl|rfl
      .exact yuO
      .exact ysY
      .exact yuX
      .exact ysZ
      .exact yrf
      .exact yta
    .obtain ⟨a,us,rfl,hs,_⟩:=rx
     have hp:(∃ xs,W.H a=some (.tup xs))\/∃ o,K.K.lookup a=some o/\o.cls=.type "tuple":=hs.elim (fun h=>.inl ⟨_,w.le _ _ h⟩) fun ⟨o,its,n,e1,e2,_⟩=>.inr ⟨o,e1,e2⟩
     repeat' split at hb
     all_goals cases hb
     .rename_i hn;subst hn;exact yrh hp
     .rename_i hn;rcases hn with rfl|rfl|rfl|rfl|rfl
      .exact yva hp
      .exact ytd hp
      .exact yvb hp
      .exact yte hp
      .exact ytf hp
    .split at hb
     .rename_i ys hy
      obtain ⟨a,us,rfl,hp,_⟩:=ycn w hy rx
      repeat' split at hb
      all_goals cases hb
      .rename_i hn;subst hn;exact ysQ hp
      .rename_i hn;rcases hn with rfl|rfl|rfl|rfl|rfl
       .exact yuY hp
       .exact ytb hp
       .exact yuZ hp
       .exact yrg hp
       .exact ytc hp
     .cases hb
   .rename_i c'
    obtain rfl:u=.ref (K.A c'):=ru
    split at hb
    .rename_i k p hi
     obtain ⟨r',h1,h2⟩:=Option.map_eq_some_iff.mp hb
     have hm:=List.mem_of_find?_eq_some h1
     have hp:=List.find?_some h1
     simp only [Bool.and_eq_true,beq_iff_eq] at hp
     obtain ⟨a,dx,us,rfl,hs,_⟩:=yoB w hi rx
     obtain ⟨p1,p2⟩:=hp
     have:=ht r' hm W.H a dx (p.1.zip us) (by rw [p1];exact hs)
     rw [p2,h2] at this
     exact this
    .cases hb
   .cases hb
  .cases e
 .cases e
end PX
namespace PX
open PySem L2
section
variable {ρ:PSt}{h h1:AH}{x y z:PV}{a b c:XE}{ca cb:XT}{aa:XA}{eo:XO}{s u:XS}{i:Nat}{p:P2}
theorem yw {α β:Type}{x:α}{h:AH}{f:α->AH->Option β}:ob (some (x,h)) f=f x h:=id rfl
theorem yKI {α β:Type}{f:α->AH->Option β}:ob (none:Option (α×AH)) f=none:=id rfl
theorem yCj {α β γ:Type}{o:Option (α×AH)}{f:α->AH->Option (β×AH)}{g:β->AH->Option γ}:ob (ob o f) g=ob o fun x h=>ob (f x h) g:=by cases o<;>rfl
theorem yKJ {α β:Type}{q:Prop} [Decidable q] {o o':Option (α×AH)}{f:α->AH->Option β}:ob (if q then o else o') f=if q then ob o f else ob o' f:=by split<;>rfl
theorem yIk:yg 0 (.val x::ρ) h=some (x,h):=id rfl
theorem yIl {v:PVar}{n:Nat}:yg (n+1) (v::ρ) h=yg n ρ h:=by simp [yg]
theorem x_c:xC x ρ h=some (x,h):=id rfl
theorem yJT:xOp p a b ρ h=ob (a ρ h) fun x h1=>ob (b ρ h1) fun y h2=>p x y h2:=id rfl
theorem yKK {p:P2O}:yFr p a b ρ h=ob (a ρ h) fun x h1=>ob (b ρ h1) fun y h2=>p x y h2:=id rfl
theorem yMl {k:Bool}:oB (.bl k) h=some (k,h):=id rfl
theorem yDJ:yG a ρ h=ob (a ρ h) oB:=id rfl
theorem yIm:yxw a b ρ h=ob (a ρ h) fun x h1=>ob (oB x h1) fun k h1=>if k=true then b ρ h1 else some (.bl false,h1):=id rfl
theorem yIn:yBE a ρ h=ob (a ρ h) fun x h1=>ob (oB x h1) fun k h1=>some (.bl (!k),h1):=id rfl
theorem yKL:yJN ca cb ρ h=ob (ca ρ h) fun k h1=>if k=true then cb ρ h1 else some (false,h1):=id rfl
theorem yME:xOr ca cb ρ h=ob (ca ρ h) fun k h1=>if k=true then some (true,h1) else cb ρ h1:=id rfl
theorem yKM:yDB ca ρ h=ob (ca ρ h) fun k h1=>some (!k,h1):=id rfl
theorem yMF:xIf ca a b ρ h=ob (ca ρ h) fun k h1=>if k=true then a ρ h1 else b ρ h1:=id rfl
theorem yzn:yr ρ h=some ([],h):=id rfl
theorem ywD:yc a aa ρ h=ob (a ρ h) fun x h1=>ob (aa ρ h1) fun xs h2=>some (x::xs,h2):=id rfl
theorem yIo:yiL aa ρ h=ob (aa ρ h) fun xs h1=>if xs.length<=1000 then some (.tup xs,h1) else none:=id rfl
theorem yKN:ylA aa ρ h=ob (aa ρ h) fun xs h1=>if xs.length<=1000 then some (.lst xs,h1) else none:=id rfl
def fzN:Nd->AH->Option (PV×AH)
 | .lst xs,h=>some (.lst xs,h)
 | .ins k ns xs,h=>some (.ins k ns xs,h)
 | _,_=>none
theorem yKO:xFz eo ρ h=ob (eo ρ h) fzN:=by
 unfold xFz;congr;funext d h1;cases d<;>rfl
theorem yKP {xs:List PV}:fzN (.lst xs) h=some (.lst xs,h):=id rfl
theorem yKQ {k:Nat}{ns:List Str}{xs:List PV}:fzN (.ins k ns xs) h=some (.ins k ns xs,h):=id rfl
theorem yFV:ykO eo ρ h=ob (eo ρ h) fun d h1=>some (.loc h1.length,h1++[d]):=id rfl
theorem x_call {f:Fn}:ycm f aa ρ h=ob (aa ρ h) f:=id rfl
theorem yMG {f}:xCB f aa ρ h=ob (aa ρ h) f:=id rfl
theorem yIp {f}:ymt f aa ρ h=ob (aa ρ h) f:=id rfl
theorem yIq {q} {p:PM}:xBM q p a aa ρ h=ob (a ρ h) fun x h1=>if q x h1=true then ob (aa ρ h1) fun xs h2=>p x xs h2 else none:=id rfl
theorem yFW {s:Str}:isStr (.str s) h=true:=id rfl
theorem yIr {f}:ylD f aa ρ h=ob (aa ρ h) f:=id rfl
theorem yFX {k:Nat}:ywC k ρ h=some (.ins k [] [],h):=id rfl
theorem yDK:ybB ρ h=some (.nx ρ,h):=id rfl
noncomputable def sqK (u:XS):Out->AH->Option (Out×AH)
 | .nx ρ,h=>u ρ h
 | .rt x,h=>some (.rt x,h)
 | .bk ρ,h=>some (.bk ρ,h)
 | .ct ρ,h=>some (.ct ρ,h)
theorem ynG:yu s u ρ h=ob (s ρ h) (sqK u):=by
 unfold yu;congr;funext o h1;cases o<;>rfl
theorem yxH:sqK u (.nx ρ) h=u ρ h:=id rfl
theorem yKR:sqK u (.rt x) h=some (.rt x,h):=id rfl
theorem yoC:yfa a ρ h=ob (a ρ h) fun _ h1=>some (.nx ρ,h1):=id rfl
theorem yzo:ycu a ρ h=ob (a ρ h) fun x h1=>some (.rt x,h1):=id rfl
theorem yIs:ycR ca s u ρ h=ob (ca ρ h) fun k h1=>if k=true then s ρ h1 else u ρ h1:=id rfl
theorem yxI {g:XG}:ydb a g ρ h=ob (a ρ h) fun x h1=>(g x ρ).bind fun ρ'=>some (.nx ρ',h1):=id rfl
theorem yIt:yti eo i ρ h=ob (eo ρ h) fun d h1=>some (.nx (ρ.set i (.own d)),h1):=id rfl
theorem yIu:yC i x ρ=some (ρ.set i (.val x)):=id rfl
theorem yIv:yHe [] ρ=some ρ:=id rfl
theorem yFY {g:XG}{r:XGs}{xs:List PV}:ynF g r (x::xs) ρ=(g x ρ).bind fun ρ'=>r xs ρ':=id rfl
theorem yIw {n:Nat}{g:XGs}{xs:List PV}:yFF n g (.tup xs) ρ=if xs.length=n then g xs ρ else none:=id rfl
theorem yKS:yDF i s ρ h=s (yvf i ρ) h:=id rfl
theorem yKT {v:PVar}:yvf 0 (v::ρ)=yBM v::ρ:=id rfl
theorem yKU {v:PVar}{n:Nat}:yvf (n+1) (v::ρ)=v::yvf n ρ:=id rfl
theorem yKV {xs:List PV}:yBM (.own (.lst xs))=.val (.lst xs):=id rfl
theorem yFZ {it:XA}{g:XG}:yza it g s ρ h=ob (it ρ h) fun xs h1=>yoz g s xs ρ h1:=id rfl
noncomputable def frK (g:XG) (s:XS) (xs:List PV):Out->AH->Option (Out×AH)
 | .nx ρ,h=>yoz g s xs ρ h
 | .ct ρ,h=>yoz g s xs ρ h
 | .bk ρ,h=>some (.nx ρ,h)
 | .rt y,h=>some (.rt y,h)
theorem yzp {g:XG}{xs:List PV}:yoz g s (x::xs) ρ h=(g x ρ).bind fun ρ1=>ob (s ρ1 h) (frK g s xs):=by
 unfold yoz;congr;funext ρ1;congr;funext o h1;cases o<;>rfl
theorem yKW {g:XG}{xs:List PV}:frK g s xs (.nx ρ) h=yoz g s xs ρ h:=id rfl
theorem yKX {g:XG}{xs:List PV}:frK g s xs (.rt x) h=some (.rt x,h):=id rfl
def fnK:Out->AH->Option (PV×AH)
 | .rt x,h=>some (x,h)
 | .nx _,h=>some (.non,h)
 | _,_=>none
theorem yD {N:Nat}{xs:List PV}:ygX N s xs h=ob (s (xs.map .val++List.replicate (N-xs.length) .no) h) fnK:=by
 unfold ygX;congr;funext o h1;cases o<;>rfl
theorem yKY:fnK (.rt x) h=some (x,h):=id rfl
theorem yKZ:fnK (.nx ρ) h=some (.non,h):=id rfl
def inK:Out->AH->Option (Nd×AH)
 | .nx (.own d::_),h=>some (d,h)
 | _,_=>none
theorem yhe {N k:Nat}{xs:List PV}:ytk N k s xs h=ob (s (.own (.ins k [] [])::(xs.map .val++List.replicate (N-(xs.length+1)) .no)) h) inK:=by
 unfold ytk;congr;funext o h1;cases o with
 | nx ρ=>cases ρ with
  | nil=>rfl
  | cons v ρ=>cases v<;>rfl
 | _=>rfl
theorem yLa {d:Nd}:inK (.nx (.own d::ρ)) h=some (d,h):=id rfl
noncomputable def yiy (cs:List Nat) (f:Str) (x:PV) (h:AH):Option (PV×AH):=match ykQ x h with|some (k,ns,xs)=>if k∈cs/\f∈ns then (match xs[ns.idxOf f]? with|some y=>some (y,h)|none=>none) else none|none=>none
theorem ypV {cs:List Nat}{f:Str}:yfB cs f a ρ h=ob (a ρ h) (yiy cs f):=id rfl
theorem ybN {cs:List Nat}{f:Str}{k:Nat}{ns:List Str}{xs:List PV}{y:PV}(hk:k∈cs) (hf:f∈ns) (hy:xs[ns.idxOf f]?=some y):yiy cs f (.ins k ns xs) h=some (y,h):=by
 unfold yiy ykQ
 simp [hk,hf,hy]
noncomputable def ylw (cs:List Nat) (i:Nat) (f:Str) (ρ:PSt) (x:PV) (h:AH):Option (Out×AH):=match ρ[i]? with
 | some (.own (.ins k ns xs))=>if k∈cs/\ns.length<1000 then some (.nx (ρ.set i (.own (.ins k (putN f x ns xs).1 (putN f x ns xs).2))),h) else none
 | _=>none
theorem yIx {cs:List Nat}{f:Str}:yfb cs i f a ρ h=ob (a ρ h) (ylw cs i f ρ):=id rfl
theorem ycU {cs:List Nat}{f:Str}{k:Nat}{ns:List Str}{xs:List PV}(hk:k∈cs) (hl:ns.length<1000) (hf:f∉ns):ylw cs 0 f (.own (.ins k ns xs)::ρ) x h=some (.nx (.own (.ins k (ns++[f]) (xs++[x]))::ρ),h):=by
 unfold ylw putN
 simp [hk,hl,hf]
theorem x_i {g:Int->Int->PV}{i j:Int}:oI g (.int i) (.int j) h=some (g i j,h):=id rfl
theorem yMH {C:Int->Int->Prop} [∀ i j,Decidable (C i j)] {g:Int->Int->PV}{i j:Int}:oIc C g (.int i) (.int j) h=if C i j then some (g i j,h) else none:=id rfl
theorem yIy {i j:Int}(h1:-18446744073709551616<j) (h2:j<18446744073709551616):MulOk i j=True:=eq_true (.inr ⟨h1,h2⟩)
theorem yLb {i j:Int}(h1:0<=i) (h2:i<18446744073709551616) (h3:0<=j) (h4:j<=1000000):yzh i j=True:=eq_true ⟨⟨h1,h2⟩,h3,h4⟩
theorem yLc {i j:Int}:oEq (.int i) (.int j) h=some (.bl (decide (i=j)),h):=by simp [oEq,sv,yDt]
theorem yLd {i j:Str}:oEq (.str i) (.str j) h=some (.bl (decide (i=j)),h):=by simp [oEq,sv,yDt]
theorem yLe {i j:Int}:oNe (.int i) (.int j) h=some (.bl (!decide (i=j)),h):=by simp [oNe,sv,yDt]
theorem yLf {i j:Str}:oNe (.str i) (.str j) h=some (.bl (!decide (i=j)),h):=by simp [oNe,sv,yDt]
theorem yLg:yHf x .non h=some (.bl (isN x),h):=id rfl
theorem yDL {i j:Str}:yCd (.str i) (.str j) h=if i.length+j.length<=100000 then some (.str (i++j),h) else none:=id rfl
theorem yLh {xs:List PV}{i:Int}:ygv (.lst xs) (.int i) h=(atI xs i).bind fun v=>some (v,h):=by
 simp only [ygv];cases atI xs i<;>rfl
theorem yLi {xs:List PV}{i:Int}:ydd (.tup xs) (.int i) h=(atI xs i).bind fun v=>some (v,h):=by
 simp only [ydd];cases atI xs i<;>rfl
theorem yLj {s:Str}{i:Int}:yzj (.str s) (.int i) h=(atI s.cps.toList i).bind fun c=>if s.length<=100000 then some (sgn c,h) else none:=by
 simp only [yzj];cases atI s.cps.toList i<;>rfl
theorem yLk {xs:List PV}{lo hi:Option Int}:yBh (.lst xs) lo hi h=some (.lst (ysD xs lo hi),h):=id rfl
theorem yLl {xs:List Int}{lo hi:Option Int}:yBh (.scr xs) lo hi h=some (.lst (ysD (xs.map .int) lo hi),h):=id rfl
theorem yLm {xs ys:List PV}:yFQ (.lst xs) (.lst ys) h=if xs.length+ys.length<=100000 then some (.lst (xs++ys),h) else none:=id rfl
theorem yMI {p} {lo hi}:xSl p a lo hi ρ h=ob (a ρ h) fun x h1=>ob (lo ρ h1) fun l h2=>ob (hi ρ h2) fun u h3=>p x l u h3:=id rfl
theorem yLn {p} {lo hi}:yBF p a lo hi ρ h=ob (a ρ h) fun x h1=>ob (lo ρ h1) fun l h2=>ob (hi ρ h2) fun u h3=>p x l u h3:=id rfl
theorem yIz:ylB a ρ h=ob (a ρ h) fun x h1=>match x with|.int i=>some (some i,h1)|_=>none:=id rfl
theorem yCk:ymx ρ h=some (none,h):=id rfl
theorem yIA {xs:List PV}:yiN [.lst xs] h=some (.int xs.length,h):=id rfl
theorem yIB {xs:List PV}:yiN [.tup xs] h=some (.int xs.length,h):=id rfl
theorem yIC {xs:List Int}:yiN [.scr xs] h=some (.int xs.length,h):=id rfl
theorem yID {z:Str}:yCf [.str z] h=if z.length<=100000 then some (.int z.length,h) else none:=id rfl
theorem yGa {k:Bool}:yxF [.bl k] h=some (.int (if k then 1 else 0),h):=id rfl
theorem yGb {xs:List PV}:ybD [.lst xs] h=some (.lst xs,h):=id rfl
theorem yDM {it:XA}{ix:List Nat}:yxA it ix a ρ h=ob (it ρ h) fun xs h1=>if xs.length<=100000 then ob (yBO a (yBN ix ρ) xs h1) fun ys h2=>some (.lst ys,h2) else none:=id rfl
end
end PX
namespace L2
open PySem PySem.Spec PyProof.Rows
end L2
namespace L2
open PySem PySem.Spec PyProof.Rows
section
variable (P:Program) (w:World)
end
section
variable {P:Program}{w:World}{H H':Hp}{h h':Heap}{a:Addr}{o:HO}
end
section
variable {P:Program}{w:World}{H:Hp}{h h':Heap}{x e:Addr}{o':HO}
end
section
variable {fs fs' ex ex':List Addr}{H H1 H2:Hp}{h h1 h2 h':Heap}{a x e:Addr}{o:HO}
end
end L2
namespace L2
open PySem PySem.Spec PyProof.Rows
section
variable {X:Cx}{pins:List (Addr×Obj)}{σ:List (Option V)}{H H':Hp}{s:Shared}{h':Heap}
end
end L2
namespace L2
open PySem PySem.Spec PyProof.Rows
section
variable {X:Cx}
variable {a b:Expr}{ta tb:TE}{pos:Pos}
variable {tA tB':TT}{rest:List Expr}
end
end L2
namespace L2
open PySem PySem.Spec PyProof.Rows
section
variable {X:Cx}{pins:List (Addr×Obj)}{σ:St}{H:Hp}{s:Shared}{a:Addr}{xs ys:List V}
end
section
variable {X:Cx}{pins:List (Addr×Obj)}{σ:St}{H:Hp}{s:Shared}{E:Value->Shared->Prop}
end
section
variable {X:Cx}{st:Stmt}{rest:List Stmt}{t u:TS}{e:Expr}{te:TE}{pos:Pos}
end
section
variable {X:Cx}{pos:Pos}
end
section
variable {X:Cx}{pos:Pos}
end
end L2
namespace L2
open PySem PySem.Spec PyProof.Rows
section
variable {X:Cx}{tg:Expr}
end
end L2
namespace L2
open PySem PySem.Spec PyProof.Rows
section
variable {X:Cx}{a b c:Expr}{ta tb tc:TE}{pos:Pos}
end
section
variable {X:Cx}{a b c:Expr}{ta tb tc:TE}{pos:Pos}
end
end L2
namespace L2
open PySem PySem.Spec PyProof.Rows
section
variable {prog:Program}{w:World}{A:Around}{E:Value->Shared->Prop}{s:Shared}{K:PySem.W.Frag}{x dx C f:Addr}{mA:Str->Option Value}{name:Str}{v:Value}
end
section
variable {P:Program}{w:World}{H H':Hp}{h h':Heap}{a C dx:Addr}{fs fs':List (Str×V)}
end
section
variable {X:Cx}{pins:List (Addr×Obj)}{σ:St}{H:Hp}{s:Shared}{a C dx:Addr}{fs:List (Str×V)}{f:Str}{v:V}{A:Around}{E:Value->Shared->Prop}
end
section
variable {X:Cx}{o e value:Expr}{f:Str}{pos pos' tpos:Pos}{ta tv:TE}
end
section
variable {X:Cx}{pins:List (Addr×Obj)}{σ:St}{H:Hp}{s:Shared}{A:Around}{E:Value->Shared->Prop}{Q:Value->Shared->Prop}{c:Value}{b:Bool}
end
end L2
namespace L2
open PySem PySem.Spec PyProof.Rows
section
variable {X:Cx}{e:Expr}{es:List Expr}{te:TE}{t:TA}{pos:Pos}
end
section
variable {X:Cx}{pins:List (Addr×Obj)}{σ:St}{H:Hp}{s s':Shared}
end
section
variable {X:Cx}{CX:CXT}{k:Nat}{f C:Addr}{fd:FuncData}{ps:List Str}{sp:Sp}{dvs:List V}{ds:List Value}{E:XK}{x m:Str}{p pos apos:Pos}{e o:Expr}{es:List Expr}{ta:TE}{t:TA}
end
section
variable {X:Cx}{CX:CXT}{k:Nat}{f C:Addr}{fd:FuncData}{ps ks:List Str}{sp:Sp}{E:XK}{x m:Str}{p pos apos kpos:Pos}{e o:Expr}{es:List Expr}{kws:List Keyword}{te ta:TE}{t tk:TA}{nm:Option Str}
variable {g:List Value->List Value->List Value}{gV:List V->List V->List V}
end
end L2
namespace L2
open PySem PySem.Spec PyProof.Rows
section
variable {X:Cx}{x:Str}{p pos:Pos}{e:Expr}{es:List Expr}{t:TA}{id T:String}{r:List V->Hp->VK->Prop}
end
end L2
namespace L2
open PySem PySem.Spec PyProof.Rows
section
variable {κ:Type} [DecidableEq κ]
def ytl (kvs:List (κ×V)) (k:κ):Option V:=(kvs.find? fun kv=>decide (kv.1=k)).map (·.2)
noncomputable def putK (kvs:List (κ×V)) (k:κ) (v:V):List (κ×V) :=
 if (kvs.any fun kv=>decide (kv.1=k))=true then kvs.map (fun kv=>if kv.1=k then (kv.1,v) else kv) else kvs++[(k,v)]
theorem yrj {p:κ×V}{r:List (κ×V)}{k:κ}(e:p.1=k):ytl (p::r) k=some p.2:=by simp [ytl,List.find?_cons,e]
theorem yrk {p:κ×V}{r:List (κ×V)}{k:κ}(e:¬ p.1=k):ytl (p::r) k=ytl r k:=by simp [ytl,List.find?_cons,e]
theorem ywE (k:κ):∀ kvs:List (κ×V),(kvs.any fun kv=>decide (kv.1=k))=(ytl kvs k).isSome
 | []=>rfl
 | p::r=>by
  rw [List.any_cons]
  by_cases e:p.1=k
  .simp only [yrj e,decide_eq_true e,Bool.true_or,Option.isSome_some]
  .rw [yrk e,decide_eq_false e,Bool.false_or];exact ywE k r
theorem ykR (kvs:List (κ×V)) (k:κ) (v:V):(putK kvs k v).length<=kvs.length+1:=by
 unfold putK
 split
 .rw [List.length_map];omega
 .rw [List.length_append,List.length_cons,List.length_nil];omega
theorem RelO.isSome_eq {o:Option V}{u:Option Value}(r:RelO o u):o.isSome=u.isSome:=by
 cases o with
 | none=>cases u with
  | none=>rfl
  | some _=>exact (show False from r).elim
 | some _=>cases u with
  | none=>exact (show False from r).elim
  | some _=>rfl
theorem RelO.getD {o:Option V}{u:Option Value}{d:V}{d':Value}(r:RelO o u) (rd:RelV d d'):RelV (o.getD d) (u.getD d'):=by
 cases o with
 | none=>cases u with
  | none=>exact rd
  | some _=>exact (show False from r).elim
 | some _=>cases u with
  | none=>exact (show False from r).elim
  | some _=>exact r
theorem KV.val {kvs:List (κ×V)}{vs:List (κ×Value)}(r:KV kvs vs) (k:κ):RelO (ytl kvs k) (valueAt vs k):=by
 unfold KV at r
 induction r with
 | nil=>exact True.intro
 | @cons p q ps qs h t ih =>
  obtain ⟨h1,h2⟩:=h
  by_cases e:p.1=k
  .have e':q.1=k:=h1.symm.trans e
   have b:valueAt (q::qs) k=some q.2:=by simp [valueAt,List.find?_cons,e']
   rw [yrj e,b];exact h2
  .have e':¬ q.1=k:=fun z=>e (h1.trans z)
   have b:valueAt (q::qs) k=valueAt qs k:=by simp [valueAt,List.find?_cons,e']
   rw [yrk e,b];exact ih
theorem KV.any {kvs:List (κ×V)}{vs:List (κ×Value)}(r:KV kvs vs) (k:κ):(kvs.any fun kv=>decide (kv.1=k))=vs.any fun kv=>decide (kv.1=k):=by
 unfold KV at r
 induction r with
 | nil=>rfl
 | cons h t ih=>rw [List.any_cons,List.any_cons,ih,h.1]
theorem KV.repl {kvs:List (κ×V)}{vs:List (κ×Value)}(r:KV kvs vs) (k:κ) {y:V}{u:Value}(ry:RelV y u) :
  KV (kvs.map fun kv=>if kv.1=k then (kv.1,y) else kv) (vs.map fun kv=>if kv.1=k then (kv.1,u) else kv):=by
 unfold KV at r ⊢
 induction r with
 | nil=>exact .nil
 | @cons p q ps qs h t ih =>
  rw [List.map_cons,List.map_cons]
  refine .cons ?_ ih
  obtain ⟨h1,h2⟩:=h
  by_cases e:p.1=k
  .rw [if_pos e,if_pos (h1.symm.trans e)];exact ⟨h1,ry⟩
  .rw [if_neg e,if_neg (fun z=>e (h1.trans z))];exact ⟨h1,h2⟩
theorem KV.put {kvs:List (κ×V)}{vs:List (κ×Value)}(r:KV kvs vs) (k:κ) {y:V}{u:Value}(ry:RelV y u):KV (putK kvs k y) (stored vs k u):=by
 unfold putK stored
 rw [r.any k]
 by_cases e:(vs.any fun kv=>decide (kv.1=k))=true
 .rw [if_pos e,if_pos e];exact r.repl k ry
 .rw [if_neg e,if_neg e];exact Paired.snoc r ⟨rfl,ry⟩
theorem KV.length {kvs:List (κ×V)}{vs:List (κ×Value)}(r:KV kvs vs):kvs.length=vs.length:=Paired.length r
end
theorem yxJ {P:Program}{w:World}{k:Key}{u:Value}(r:RelV (kV k) u):(ydz P w).is k u=true:=by
 cases k with
 | inl i=>obtain ⟨t,e⟩:=(show ∃ t,u=Value.int i t from r);subst e;exact yuG P w i t
 | inr x=>obtain ⟨t,e⟩:=(show ∃ t,u=Value.str x t from r);subst e;exact yuH P w x t
theorem ytm {P:Program}{w:World}:∀ {ks:List Key}{us:List Value},Vals (ks.map kV) us->ItemsAre (ydz P w) ks us
 | [],_,r=>by rw [List.map_nil] at r;cases r;exact .nil
 | k::ks,_,r=>by
  rw [List.map_cons] at r
  cases r with
  | cons h t=>exact .cons (yxJ h) (ytm t)
noncomputable abbrev KT (H:Hp):List (List Key×V)->List (List Key×Addr×Value)->Prop:=Paired fun p q=>p.1=q.1/\H q.2.1=some (.tup (p.1.map kV))/\RelV p.2 q.2.2
theorem KT.val {H:Hp}{kvs:List (List Key×V)}{xs:List (List Key×Addr×Value)}(r:KT H kvs xs) (k:List Key):RelO (ytl kvs k) ((atKey xs k).map (·.2)):=by
 induction r with
 | nil=>exact True.intro
 | @cons p q ps qs h t ih =>
  obtain ⟨h1,_,h2⟩:=h
  by_cases e:p.1=k
  .have e':q.1=k:=h1.symm.trans e
   have b:atKey (q::qs) k=some q.2:=by simp [atKey,List.find?_cons,e']
   rw [yrj e,b];exact h2
  .have e':¬ q.1=k:=fun z=>e (h1.trans z)
   have b:atKey (q::qs) k=atKey qs k:=by simp [atKey,List.find?_cons,e']
   rw [yrk e,b];exact ih
theorem KT.repl {H:Hp}{kvs:List (List Key×V)}{xs:List (List Key×Addr×Value)}(r:KT H kvs xs) (k:List Key) {y:V}{u:Value}(ry:RelV y u) :
  KT H (kvs.map fun kv=>if kv.1=k then (kv.1,y) else kv) (xs.map (putAt k u)):=by
 induction r with
 | nil=>exact .nil
 | @cons p q ps qs h t ih =>
  rw [List.map_cons,List.map_cons]
  refine .cons ?_ ih
  obtain ⟨h1,h2,h3⟩:=h
  unfold putAt
  by_cases e:p.1=k
  .rw [if_pos e,if_pos (h1.symm.trans e)];exact ⟨h1,h2,ry⟩
  .rw [if_neg e,if_neg (fun z=>e (h1.trans z))];exact ⟨h1,h2,h3⟩
theorem KT.put {H:Hp}{kvs:List (List Key×V)}{xs:List (List Key×Addr×Value)}(r:KT H kvs xs) (k:List Key) {b:Addr}{y:V}{u:Value}(hb:H b=some (.tup (k.map kV))) (ry:RelV y u) :
  KT H (putK kvs k y) (storedH xs k b u):=by
 have e:(kvs.any fun kv=>decide (kv.1=k))=(atKey xs k).isSome:=by
  rw [ywE,(r.val k).isSome_eq,Option.isSome_map]
 unfold putK storedH
 rw [e]
 by_cases q:(atKey xs k).isSome=true
 .rw [if_pos q,if_pos q];exact r.repl k ry
 .rw [if_neg q,if_neg q];exact Paired.snoc r ⟨rfl,hb,ry⟩
theorem KT.keeps {H H':Hp}{kvs:List (List Key×V)}{xs:List (List Key×Addr×Value)}(r:KT H kvs xs) (ht:∀ b ys,H b=some (.tup ys)->H' b=some (.tup ys)):KT H' kvs xs :=
 Paired.mapP r fun _ _ z=>⟨z.1,ht _ _ z.2.1,z.2.2⟩
section
variable {P:Program}{w:World}{H:Hp}{h:Heap}{a:Addr}
theorem yIE {u:HO}(ok:HOk P w H h) (e:Rd H a u):ObjOk P w H h a u:=e.ok ok
theorem yvj {kvs:List (Key×V)}(ok:HOk P w H h) (e:Rd H a (.dK kvs)):kvs.length<=sizeLine/\(a == sysModules)=false/\∃ vs,KV kvs vs/\h.DictOf (ydz P w) a vs :=
 show ObjOk P w H h a (.dK kvs) from yIE ok e
theorem yGc {kvs:List (Key×V)}(ok:HOk P w H h) (e:H a=some (.dK kvs)):kvs.length<=sizeLine/\(a == sysModules)=false/\∃ vs,KV kvs vs/\h.DictOf (ydz P w) a vs:=yvj ok (.inl e)
theorem yqI {ks:List Key}(ok:HOk P w H h) (e:H a=some (.tup (ks.map kV))):(tupleKind (ydz P w)).is h ks a:=by
 obtain ⟨_,its,r,o,h1,h2,n,h3⟩:=(show ObjOk P w H h a (.tup (ks.map kV)) from ok a _ e)
 exact ⟨o,its.toArray,n,h1,h2,h3,by simpa using ytm r⟩
theorem yvk {kvs:List (List Key×V)}(ok:HOk P w H h) (e:Rd H a (.dT kvs)):kvs.length<=sizeLine/\(a == sysModules)=false /\
  ∃ xs,KT H kvs xs/\h.DictOfH (tupleKind (ydz P w)) a xs:=by
 obtain ⟨z,y,xs,r,o,es,ep,h1,h2,h3,h4,h5⟩:=(show ObjOk P w H h a (.dT kvs) from yIE ok e)
 refine ⟨z,y,xs,r,o,es,ep,h1,h2,h3,h4,fun x hx=>?_,h5⟩
 have all:∀ {l:List (List Key×V)}{m:List (List Key×Addr×Value)},KT H l m->∀ x∈m,(tupleKind (ydz P w)).is h x.1 x.2.1:=by
  intro l m q
  induction q with
  | nil=>intro x hx;exact nomatch hx
  | @cons p q ps qs hq t ih =>
   intro x hx
   rcases List.mem_cons.mp hx with e|hx
   .subst e
    exact yqI ok (by rw [<- hq.1];exact hq.2.1)
   .exact ih x hx
 exact all r x hx
theorem yLo {kvs:List (List Key×V)}(ok:HOk P w H h) (e:H a=some (.dT kvs)):kvs.length<=sizeLine/\(a == sysModules)=false /\
  ∃ xs,KT H kvs xs/\h.DictOfH (tupleKind (ydz P w)) a xs:=yvk ok (.inl e)
end
noncomputable def DGet (H:Hp) (a:Addr) (y:V) (r:Option V):Prop :=
 (∃ kvs k,Rd H a (.dK kvs)/\y=kV k/\r=ytl kvs k)\/∃ kvs k b,Rd H a (.dT kvs)/\y=.ref b/\H b=some (.tup (k.map kV))/\r=ytl kvs k
noncomputable def DPut (H:Hp) (a:Addr) (y v:V) (H':Hp):Prop :=
 (∃ kvs k,H a=some (.dK kvs)/\y=kV k/\kvs.length<sizeLine/\H'=upd H a (.dK (putK kvs k v))) \/
 ∃ kvs k b,H a=some (.dT kvs)/\y=.ref b/\H b=some (.tup (k.map kV))/\kvs.length<sizeLine/\H'=upd H a (.dT (putK kvs k v))
theorem DPut.k {H:Hp}{a:Addr}{kvs:List (Key×V)}{k:Key}{v:V}(e:H a=some (.dK kvs)) (hl:kvs.length<sizeLine):DPut H a (kV k) v (upd H a (.dK (putK kvs k v))):=.inl ⟨kvs,k,e,rfl,hl,rfl⟩
section
variable {X:Cx}{pins:List (Addr×Obj)}{σ:St}{H:Hp}{s:Shared}{a:Addr}{y v:V}{u r:Value}{o:Option V}{A:Around}{E:Value->Shared->Prop}
theorem Inv.big (I:Inv X pins σ H s):sysModules<s.heap.objs.size:=by
 have h:mainGlobals<s.heap.objs.size:=(I.mod.glob.keeps I.bk).lt
 exact Nat.lt_trans (by decide) h
theorem yzq {Q:Value->Shared->Prop}(hu:A.units+1<cLine) (I:Inv X pins σ H s) (g:DGet H a y (some v)) (ry:RelV y u) (h:∀ w' s',Inv X pins σ H s'->RelV v w'->Q w' s') :
  wpAny (model X.prog X.w) A (getItem (.ref a) u) Q E s:=by
 rcases g with ⟨kvs,k,e,ey,l⟩|⟨kvs,k,b,e,ey,eb,l⟩
 .subst ey
  obtain ⟨z,hd,vs,rel,dd⟩:=yvj I.hok e
  obtain ⟨w',hw,rw'⟩:=RelO.some_of (v:=v) (o:=valueAt vs k) (by rw [l];exact rel.val k)
  exact wpAny_getItem_of (yxJ ry) dd.mapOf hw (h w' _ (I.tok _) rw')
 .subst ey
  cases (show u=Value.ref b from ry)
  obtain ⟨z,hd,xs,rel,dd⟩:=yvk I.hok e
  obtain ⟨w',hw,rw'⟩:=RelO.some_of (v:=v) (o:=(atKey xs k).map (·.2)) (by rw [l];exact rel.val k)
  obtain ⟨p,hp,hp2⟩:=Option.map_eq_some_iff.mp hw
  refine wpAny_getItem_heap (tupleKind_room_in1 hu) (yqI I.hok eb) dd hp ?_
  rw [hp2]
  exact h w' _ (I.tok _) rw'
theorem yMJ {Q:Value->Shared->Prop}(hu:A.units+1<cLine) (I:Inv X pins σ H s) (g:DGet H a y o) (ry:RelV y u) (h:∀ s',Inv X pins σ H s'->Q (.bool o.isSome) s') :
  wpAny (model X.prog X.w) A (compareOp .In u (.ref a)) Q E s:=by
 rcases g with ⟨kvs,k,e,ey,l⟩|⟨kvs,k,b,e,ey,eb,l⟩
 .subst ey
  obtain ⟨z,hd,vs,rel,dd⟩:=yvj I.hok e
  refine wpAny_in_of (yxJ ry) hd dd.mapOf ?_
  rw [<- (rel.val k).isSome_eq,<- l]
  exact h _ (I.tok _)
 .subst ey
  cases (show u=Value.ref b from ry)
  obtain ⟨z,hd,xs,rel,dd⟩:=yvk I.hok e
  refine wpAny_in_heap (tupleKind_room_in1 hu) (yqI I.hok eb) hd dd ?_
  have q:=(rel.val k).isSome_eq
  rw [Option.isSome_map] at q
  rw [<- q,<- l]
  exact h _ (I.tok _)
theorem yGd {Q:Value->Shared->Prop}(hu:A.units+1<cLine) (I:Inv X pins σ H s) (g:DGet H a y o) (ry:RelV y u) (h:∀ s',Inv X pins σ H s'->Q (.bool (!o.isSome)) s') :
  wpAny (model X.prog X.w) A (compareOp .NotIn u (.ref a)) Q E s:=by
 rcases g with ⟨kvs,k,e,ey,l⟩|⟨kvs,k,b,e,ey,eb,l⟩
 .subst ey
  obtain ⟨z,hd,vs,rel,dd⟩:=yvj I.hok e
  refine wpAny_notIn_of (yxJ ry) hd dd.mapOf ?_
  rw [<- (rel.val k).isSome_eq,<- l]
  exact h _ (I.tok _)
 .subst ey
  cases (show u=Value.ref b from ry)
  obtain ⟨z,hd,xs,rel,dd⟩:=yvk I.hok e
  refine wpAny_notIn_heap (tupleKind_room_in1 hu) (yqI I.hok eb) hd dd ?_
  have q:=(rel.val k).isSome_eq
  rw [Option.isSome_map] at q
  rw [<- q,<- l]
  exact h _ (I.tok _)
theorem yvl {h':Heap}{t':Nat}{ob:HO}(I:Inv X pins σ H s) (mu:Mut (H a)) (hs:Heap.SameBut a s.heap h') (he:∃ q,h'.get? a=some q) (new:ObjOk X.prog X.w (upd H a ob) h' a ob) :
  Inv X pins σ (upd H a ob) { s with heap:=h',toks:=t' } :=
 I.write (x:=a) (e:=a) mu (.inl rfl) (fun b q hb z=>(hs.2 b hb).trans z) he new
theorem yDN {P:Program}{w:World}{H':Hp}{h':Heap}{kvs:List (Key×V)}{vs:List (Key×Value)}(z:kvs.length<=sizeLine) (hd:(a == sysModules)=false) (rel:KV kvs vs) (dd:h'.DictOf (ydz P w) a vs) :
  ObjOk P w H' h' a (.dK kvs):=⟨z,hd,vs,rel,dd⟩
theorem yzr {H':Hp}{Q:Unit->Shared->Prop}(hu:A.units+1<cLine) (I:Inv X pins σ H s) (g:DPut H a y v H') (ry:RelV y u) (rv:RelV v r) (h:∀ s',Inv X pins σ H' s'->Q () s') :
  wpAny (model X.prog X.w) A (setItem (.ref a) u r) Q E s:=by
 rcases g with ⟨kvs,k,e,ey,l,eH⟩|⟨kvs,k,b,e,ey,eb,l,eH⟩
 .subst ey eH
  obtain ⟨z,hd,vs,rel,dd⟩:=yGc I.hok e
  have hz:vs.length<=sizeLine:=by rw [<- rel.length];exact z
  have hl:(putK kvs k v).length<=sizeLine:=by have:=ykR kvs k v;omega
  refine wpAny_setItem_pairs (hsz:=hz) (yxJ ry) dd fun h' dd' hs=>h _ ?_
  have he:∃ q,h'.get? a=some q:=let ⟨q,_,_,hq,_⟩:=dd';⟨q,hq⟩
  exact yvl I (by rw [e];exact True.intro) hs he (yDN hl hd (rel.put k rv) dd')
 .subst ey eH
  cases (show u=Value.ref b from ry)
  obtain ⟨z,hd,xs,rel,dd⟩:=yLo I.hok e
  have hz:xs.length<=sizeLine:=by rw [<- Paired.length rel];exact z
  have hl:(putK kvs k v).length<=sizeLine:=by have:=ykR kvs k v;omega
  refine wpAny_setItem_heap (hsz:=hz) (tupleKind_room_in1 hu) (yqI I.hok eb) dd fun h' dd' hs=>h _ ?_
  obtain ⟨q,es,ep,hq,h2,h3,h4,_,h5⟩:=dd'
  refine yvl I (by rw [e];exact True.intro) hs ⟨q,hq⟩ ⟨hl,hd,_,(rel.put k eb rv).keeps fun c ys ec=>?_,q,es,ep,hq,h2,h3,h4,h5⟩
  rw [ybe (yJY ec e (fun z=>nomatch z))]
  exact ec
end
section
variable {X:Cx}{pins:List (Addr×Obj)}{σ:St}{H:Hp}{s:Shared}{a:Addr}{kvs:List (Key×V)}{k:Key}{u:Value}{A:Around}{E:Value->Shared->Prop}
end
def yLp (i:Expr):Prop:=∀ ov iv,subscripted i false ov iv=operate [ov,iv] (getItem ov iv)
theorem yGe {prog:Program}{w:World}{A:Around}{E:Value->Shared->Prop}{s:Shared}{env:Env}{value slice:Expr}{pos:Pos}{T id:String}{Q:Value->Shared->Prop}
  (hl:typeLookup (.type T) "__getitem__" = pure (some (.builtin id))) (hs:yLp slice)
  (h:wpAny (model prog w) A (eval value env) (fun o s₁=>wpAny (model prog w) A (eval slice env) (fun i s₂=>s₂.TypeIs o T/\wpAny (model prog w) A (getItem o i) Q E s₂) E s₁) E s) :
  wpAny (model prog w) A (eval (.Subscript value slice pos) env) Q E s:=by
 refine Subscript_ (wpAny_mono h (fun o s₁ h₁=>wpAny_mono h₁ (fun i s₂ h₂=>?_) fun _ _ x=>x) fun _ _ x=>x)
 obtain ⟨hT,h₂⟩:=h₂
 unfold subscriptTail
 refine wpAny_bind ?_
 rw [getitemInPython_of_ne hT.not_modules]
 refine wpAny_bind (wpAny_specialOf hT hl ?_)
 have fin:wpAny (model prog w) A (subscripted slice false o i) (fun r s₃=>wpAny (model prog w) A (letTemporaryGo value o r >>= fun _=>pure r) Q E s₃) E s₂:=by
  rw [hs o i]
  exact wpAny_operating (wpAny_mono h₂ (fun r s₃ h₃=>wpAny_bind (wpAny_letTemporaryGo (wpAny_pure h₃))) fun _ _ x=>x)
 first
  | exact wpAny_pure (wpAny_bind fin)
  | exact wpAny_bind (wpAny_pure (wpAny_bind fin))
  | exact wpAny_bind fin
theorem yvm {X:Cx}{pins:List (Addr×Obj)}{σ:St}{H:Hp}{s:Shared}{a:Addr}{y:V}{o:Option V}(I:Inv X pins σ H s) (g:DGet H a y o):s.TypeIs (.ref a) "dict":=by
 rcases g with ⟨kvs,k,e,_,_⟩|⟨kvs,k,b,e,_,_,_⟩
 .obtain ⟨_,_,vs,_,dd⟩:=yvj I.hok e
  exact dd.typeIs
 .obtain ⟨_,_,xs,_,dd⟩:=yvk I.hok e
  exact dd.typeIs
def yIF (td ty:TE):TE:=fun σ H Q=>td σ H fun x H1=>ty σ H1 fun y H2=>∃ a v,x=.ref a/\DGet H2 a y (some v)/\Q v H2
def yMm (ty td:TE):TE:=fun σ H Q=>ty σ H fun y H1=>td σ H1 fun x H2=>∃ a o,x=.ref a/\DGet H2 a y o/\Q (.bl o.isSome) H2
noncomputable def yzs (ty td:TE):TE:=fun σ H Q=>ty σ H fun y H1=>td σ H1 fun x H2=>∃ a o,x=.ref a/\DGet H2 a y o/\Q (.bl (!o.isSome)) H2
noncomputable def yIG (td ty tv:TE):TS:=fun D σ H=>tv σ H fun v H1=>td σ H1 fun x H2=>ty σ H2 fun y H3=>∃ a H4,x=.ref a/\DPut H3 a y v H4/\D.nx σ H4
section
variable {X:Cx}{o i e value:Expr}{pos pos' tpos:Pos}{td ty tv:TE}
theorem yGf (hu:X.A.units+1<cLine) (ho:PE X o td) (hi:PE X i ty) (hs:yLp i):PE X (.Subscript o i pos) (yIF td ty):=by
 intro pins s σ H Q I h
 refine yGe PySem.F.slot_dict_getitem.lookup hs (thn (ho pins s σ H _ I h) fun u s1 ⟨x,H1,I1,rx,q1⟩=>thn (hi pins s1 σ H1 _ I1 q1) fun iv s2 ⟨y,H2,I2,ry,a,v,ex,g,q2⟩=>?_)
 subst ex
 obtain rfl:u=Value.ref a:=rx
 exact ⟨yvm I2 g,yzq hu I2 g ry fun w' s3 I3 rw'=>⟨v,H2,I3,rw',q2⟩⟩
theorem yIH (hu:X.A.units+1<cLine) (hi:PE X i ty) (ho:PE X o td):PC X .In i o (yMm ty td):=by
 intro pins s σ H Q I h
 refine thn (hi pins s σ H _ I h) fun iv s1 ⟨y,H1,I1,ry,q1⟩=>thn (ho pins s1 σ H1 _ I1 q1) fun u s2 ⟨x,H2,I2,rx,a,ov,ex,g,q2⟩=>?_
 subst ex
 obtain rfl:u=Value.ref a:=rx
 exact yMJ hu I2 g ry fun s3 I3=>⟨.bl ov.isSome,H2,I3,rfl,q2⟩
theorem yzt (hu:X.A.units+1<cLine) (hi:PE X i ty) (ho:PE X o td):PC X .NotIn i o (yzs ty td):=by
 intro pins s σ H Q I h
 refine thn (hi pins s σ H _ I h) fun iv s1 ⟨y,H1,I1,ry,q1⟩=>thn (ho pins s1 σ H1 _ I1 q1) fun u s2 ⟨x,H2,I2,rx,a,ov,ex,g,q2⟩=>?_
 subst ex
 obtain rfl:u=Value.ref a:=rx
 exact yGd hu I2 g ry fun s3 I3=>⟨.bl (!ov.isSome),H2,I3,rfl,q2⟩
theorem yGg (hu:X.A.units+1<cLine) (ho:PE X o td) (hi:PE X i ty) (hv:PE X value tv) (hs:swapsWith value (some (.Subscript o i pos')) pos.line X.env=pure false) :
  PS X (.Assign [.Subscript o i pos'] value pos) (yIG td ty tv):=by
 intro pins s σ H D I h
 refine wpAny_Assign_Subscript (thn (hv pins s σ H _ I h) fun r s1 ⟨v,H1,I1,rv,q1⟩=>thn (ho pins s1 σ H1 _ I1 q1) fun u s2 ⟨x,H2,I2,rx,q2⟩=>thn (hi pins s2 σ H2 _ I2 q2) fun iv s3 ⟨y,H3,I3,ry,a,H4,ex,g,q3⟩=>?_) hs
 subst ex
 obtain rfl:u=Value.ref a:=rx
 exact yzr hu I3 g ry rv fun s4 I4=>⟨σ,H4,I4,q3⟩
end
theorem yCl {P:Program}{w:World}{H:Hp}(h:Heap) (hb:sysModules<h.objs.size):ObjOk P w H (h.push { cls:=.type "dict",data:=.dict #[] }) h.objs.size (.dK []) :=
 ⟨Nat.zero_le _,beq_eq_false_iff_ne.mpr (Ne.symm (Nat.ne_of_lt hb)),[],.nil,Heap.DictOf.new h⟩
def yDO:TE:=fun _ H Q=>∀ p,H p=none->Q (.ref p) (upd H p (.dK []))
section
variable {X:Cx}{pos:Pos}
theorem yCm:PE X (.Dict [] [] pos) yDO:=fun pins s σ H Q I h =>
 wpAny_Dict_empty ⟨.ref s.heap.objs.size,_,I.laid (a:=s.heap.objs.size) (o:=.dK []) (t':=s.toks) (fun _ _ q=>Heap.get?_push_of_some _ q) (Nat.le_refl _) (yCl s.heap I.big),rfl,h _ (I.hok.fresh (Nat.le_refl _))⟩
end
def yzu (kvs more:List (Key×V)):List (Key×V):=more.foldl (fun acc kv=>putK acc kv.1 kv.2) kvs
theorem KV.merge:∀ {more:List (Key×V)}{rs:List (Key×Value)}{kvs:List (Key×V)}{vs:List (Key×Value)},KV more rs->KV kvs vs->KV (yzu kvs more) (merged vs rs):=by
 intro more rs kvs vs r
 unfold KV at r
 induction r generalizing kvs vs with
 | nil=>intro q;exact q
 | @cons p q ps qs h t ih =>
  intro r0
  have e:KV (putK kvs p.1 p.2) (stored vs q.1 q.2):=by
   have:=r0.put p.1 h.2
   rw [<- h.1];exact this
  exact ih e
theorem ylE:∀ (more kvs:List (Key×V)),(yzu kvs more).length<=kvs.length+more.length
 | [],kvs=>by show kvs.length<=kvs.length+0;omega
 | p::r,kvs=>by
  have h1:=ylE r (putK kvs p.1 p.2)
  have h2:=ykR kvs p.1 p.2
  show (yzu (putK kvs p.1 p.2) r).length<=_
  rw [List.length_cons];omega
structure M2 (X:Cx) (o:Expr) (m:Str) (apos:Pos) (e f:Expr) (cpos:Pos):Prop where
 base:attributeBase o m X.env (eval o X.env)=eval o X.env
 few:((backTo cpos (starEach [e,f] X.env)).all (fun x=>!x.1) && (backToKw cpos (keywordEach [] X.env)).all (fun x=>x.1.isSome)
  && decide (([e,f]:List Expr).length+([]:List Keyword).length+(if ([]:List Keyword).isEmpty then 0 else 1)<30))=true
 line:(apos.endLine == cpos.line)=true
 trees:backTo cpos (starEach [e,f] X.env)=[(false,eval e X.env),(false,eval f X.env)]
def IsD (H:Hp) (a:Addr):Prop:=(∃ kvs,Rd H a (.dK kvs))\/∃ kvs,Rd H a (.dT kvs)
theorem yII {X:Cx}{pins:List (Addr×Obj)}{σ:St}{H:Hp}{s:Shared}{a:Addr}(I:Inv X pins σ H s) (d:IsD H a) :
  s.TypeIs (.ref a) "dict"/\(∀ b,Value.ref a=.ref b->∃ ob,s.heap.get? b=some ob/\ob.dict=none)/\(a == sysModules)=false:=by
 rcases d with ⟨kvs,e⟩|⟨kvs,e⟩
 .obtain ⟨_,hd,vs,_,dd⟩:=yvj I.hok e
  refine ⟨dd.typeIs,fun b q=>?_,hd⟩
  cases q
  obtain ⟨ob,_,_,h1,h2,_⟩:=dd
  exact ⟨ob,h1,h2.2.1⟩
 .obtain ⟨_,hd,xs,_,dd⟩:=yvk I.hok e
  refine ⟨dd.typeIs,fun b q=>?_,hd⟩
  cases q
  obtain ⟨ob,_,_,h1,h2,_⟩:=dd
  exact ⟨ob,h1,h2.2.1⟩
section
variable {X:Cx}{pins:List (Addr×Obj)}{σ:St}{H:Hp}{s:Shared}{a:Addr}{y d:V}{u r:Value}{o:Option V}{A:Around}{E:Value->Shared->Prop}
theorem yIJ {Q:Value->Shared->Prop}(hu:A.units+1<cLine) (I:Inv X pins σ H s) (g:DGet H a y o) (ry:RelV y u) (rd:RelV d r) (h:∀ w' s',Inv X pins σ H s'->RelV (o.getD d) w'->Q w' s') :
  wpAny (model X.prog X.w) A (call (.builtin "dict.get") [.ref a,u,r]) Q E s:=by
 rcases g with ⟨kvs,k,e,ey,l⟩|⟨kvs,k,b,e,ey,eb,l⟩
 .subst ey
  obtain ⟨z,hd,vs,rel,dd⟩:=yvj I.hok e
  refine call_meetsIn PySem.F.slot_dict_get dd.typeIs PySem.F.entry_dict_get (PySem.F.args_dict_get_3 _ _ _) (meets_dict_get_default (ydz X.prog X.w) a (yxJ ry) hd r) ⟨_,dd.mapOf,h _ _ (I.tok _) ?_⟩
  rw [l]
  exact (rel.val k).getD rd
 .subst ey
  cases (show u=Value.ref b from ry)
  obtain ⟨z,hd,xs,rel,dd⟩:=yvk I.hok e
  refine call_meetsIn PySem.F.slot_dict_get dd.typeIs PySem.F.entry_dict_get (PySem.F.args_dict_get_3 _ _ _) (meetsH_dict_get_default (tupleKind (ydz X.prog X.w)) a b hd r) ⟨tupleKind_room_in1 hu,k,xs,yqI I.hok eb,dd,h _ _ (I.tok _) ?_⟩
  rw [l]
  exact (rel.val k).getD rd
end
noncomputable def yDP (td ty tx:TE):TE:=fun σ H Q=>td σ H fun x H1=>∃ a,x=.ref a/\IsD H1 a/\ty σ H1 fun y H2=>tx σ H2 fun z H3=>∃ o,DGet H3 a y o/\Q (o.getD z) H3
section
variable {X:Cx}{o e f:Expr}{apos cpos:Pos}{td ty tx:TE}
theorem yCn (hu:X.A.units+1<cLine) (ho:PE X o td) (he:PE X e ty) (hf:PE X f tx) (m:M2 X o "get" apos e f cpos):PE X (.Call (.Attribute o "get" apos) [e,f] [] cpos) (yDP td ty tx):=by
 intro pins s σ H Q I h
 refine wpAny_Call_method m.base m.few m.line PySem.F.plainAttrs_dict PySem.F.slot_dict_get PySem.F.type_dict_get (thn (ho pins s σ H _ I h) fun u s1 ⟨x,H1,I1,rx,a,ex,d,q1⟩=>?_)
 subst ex
 obtain rfl:u=Value.ref a:=rx
 obtain ⟨t1,t2,_⟩:=yII I1 d
 refine ⟨t1,t2,?_⟩
 rw [m.trees]
 refine Calls.callWith_builtin rfl (Calls.evalArgs_plain (Calls.spliced_cons (thn (he pins s1 σ H1 _ I1 q1) fun iv s2 ⟨y,H2,I2,ry,q2⟩ =>
  Calls.spliced_cons (thn (hf pins s2 σ H2 _ I2 q2) fun fv s3 ⟨z,H3,I3,rz,ov,g,q3⟩=>Calls.spliced_nil ?_))))
 exact yIJ hu I3 g ry rz fun w' s4 I4 rw'=>⟨_,H3,I4,rw',q3⟩
end
section
variable {X:Cx}{pins:List (Addr×Obj)}{σ:St}{H:Hp}{s:Shared}{a:Addr}{kvs:List (Key×V)}{A:Around}{E:Value->Shared->Prop}
end
section
variable {X:Cx}{pins:List (Addr×Obj)}{σ:St}{H:Hp}{s:Shared}{a:Addr}{y:V}{u:Value}{A:Around}{E:Value->Shared->Prop}
end
end L2
namespace Att
open PySem PySem.W PySem.Calls PyProof.Rows
section
variable {prog:Program}{w:World}{A:Around}{E:Value->Shared->Prop}{s:Shared}{K:Frag}
end
end Att
namespace L2
open PySem PySem.Spec PyProof.Rows
end L2
namespace L2
open PySem PySem.Spec PyProof.Rows
end L2
namespace L2
open PySem PySem.Spec PyProof.Rows
section
variable {P:Program}{w:World}{K:PySem.W.Frag}{mg:Str->Option Value}{base:Heap}
end
section
variable {X:Cx}
end
section
variable {κ:Type} [DecidableEq κ]
end
end L2
namespace PX
open PySem L2
variable {K:Ck}
theorem ywF {α:Type}{l:List α}(h:l.Nodup) {i j:Nat}(hi:i<l.length) (hj:j<l.length) (e:l[i]=l[j]):i=j:=by
 have p:=List.pairwise_iff_getElem.mp h
 rcases Nat.lt_trichotomy i j with z|z|z
 .exact absurd e (p i j hi hj z)
 .exact z
 .exact absurd e.symm (p j i hj hi z)
def yGh (W:Wd) (n:Nat) (a:Addr) (o:HO) (d:Nd):Wd:=⟨W.F,upd W.H a o,W.m,W.h.set n d⟩
theorem ymA {W:Wd}(w:WOk K W) {n:Nat}{d d':Nd}{a:Addr}{o:HO}(e:W.h[n]?=some d) (hm:W.m[n]?=some a) (hF:W.F a=none) (at':NdAt K W.F (upd W.H a o) W.m d' a) (nf:∀ ks xs,d≠.fz ks xs:=by intro _ _ z;cases z):Le K W (yGh W n a o d'):=by
 have hn:n<W.h.length:=(List.getElem?_eq_some_iff.mp e).1
 have ham:a∈W.m:=List.mem_of_getElem? hm
 refine ⟨⟨fun b u q=>?_,by show W.m.length=(W.h.set n d').length;rw [List.length_set];exact w.len,w.nd,fun j dj b e1 e2=>?_⟩,Same.refl _,List.prefix_refl _,fun b u q hb=>?_,fun b u _ _ f=>f,fun b z z'=>absurd z z',fun j ks xs e1=>?_⟩
 .have:b≠a:=ycx q hF
  exact (ybe this).trans (w.le _ _ q)
 .have e1:(W.h.set n d')[j]?=some dj:=e1
  by_cases hj:n=j
  .subst hj
   rw [List.getElem?_set_self hn] at e1
   cases e1
   have e2:W.m[n]?=some b:=e2
   rw [hm] at e2
   cases e2
   exact at'
  .rw [List.getElem?_set_ne hj] at e1
   have e2:W.m[j]?=some b:=e2
   have hb:b≠a:=fun z=>by
    subst z
    have h1:=(List.getElem?_eq_some_iff.mp hm)
    have h2:=(List.getElem?_eq_some_iff.mp e2)
    obtain ⟨l1,q1⟩:=h1
    obtain ⟨l2,q2⟩:=h2
    exact hj (ywF w.nd l1 l2 (q1.trans q2.symm))
   exact (w.at_ j dj b e1 e2).mono (Same.refl _) (List.prefix_refl _) (fun u q=>(ybe hb).trans q) id
 .have:b≠a:=fun z=>hb (z ▸ ham)
  exact (ybe this).trans q
 .have hj:n≠j:=fun z=>by
   subst z
   rw [e] at e1
   cases e1
   exact nf _ _ rfl
  refine ⟨(List.getElem?_set_ne hj).trans e1,fun b e2=>ybe fun z=>?_⟩
  subst z
  obtain ⟨l1,q1⟩:=List.getElem?_eq_some_iff.mp hm
  obtain ⟨l2,q2⟩:=List.getElem?_eq_some_iff.mp e2
  exact hj (ywF w.nd l1 l2 (q1.trans q2.symm))
def ynH:PV->AH->Bool:=fun x h=>match ydA x h with|some _=>true|none=>false
theorem ywG {W:Wd}{x:PV}{v:V}(w:WOk K W) (r:yfc K W x v) (c:ynH x W.h=true):tyV K.K "list" v W.H:=by
 unfold ynH at c
 split at c
 .rename_i xs hx
  obtain ⟨a,vs,rfl,hs,_⟩:=ycn w hx r
  exact .inl ⟨rfl,vs,SqL.of hs⟩
 .cases c
noncomputable def yrl:PM:=fun x ys h=>match x,ys with|.loc n,[y]=>(match h[n]? with|some (.lst xs)=>if xs.length<100000 then some (.non,h.set n (.lst (xs++[y]))) else none|_=>none)|_,_=>none
theorem ywH:yth K "list" ynH yuM yrl:=by
 refine ⟨fun W x v w r c=>ywG w r c,fun W x v xs vs Q z h' w rx r e q=>?_⟩
 unfold yrl at e
 split at e
 .rename_i n y
  split at e
  .rename_i ys hn
   split at e
   .rename_i hl
    cases e
    obtain ⟨u,rfl,ru⟩:=yxE r
    obtain ⟨a,ev,hm,hf,us,hp,rs⟩:=w.loc hn rx
    refine ⟨a,us,u,ev,rfl,hp,by rw [rs.len];exact big hl,?_⟩
    exact q .non (yGh W n a (.lst (us++[u])) (.lst (ys++[y]))) rfl (ymA w hn hm hf ⟨hf,_,yX,rs.snoc ru⟩) rfl
   .cases e
  .cases e
 .cases e
noncomputable def yxK:PM:=fun x ys h=>match x,ys with|.loc n,[]=>(match h[n]? with|some (.lst xs)=>(match xs[xs.length-1]? with|some y=>some (y,h.set n (.lst xs.dropLast))|none=>none)|_=>none)|_,_=>none
theorem RepL.dropLast {F:Hp}{m:List Addr}{xs:List PV}{vs:List V}(r:RepL K F m xs vs):RepL K F m xs.dropLast vs.dropLast:=by
 rw [List.dropLast_eq_take,List.dropLast_eq_take,r.len]
 exact r.take _
theorem yDQ:yth K "list" ynH yMf yxK:=by
 refine ⟨fun W x v w r c=>ywG w r c,fun W x v xs vs Q z h' w rx r e q=>?_⟩
 unfold yxK at e
 split at e
 .rename_i n
  split at e
  .rename_i ys hn
   split at e
   .rename_i y hy
    cases e
    obtain rfl:vs=[]:=r
    obtain ⟨a,ev,hm,hf,us,hp,rs⟩:=w.loc hn rx
    obtain ⟨u,hu,ru⟩:=rs.get hy
    refine ⟨a,us,u,ev,rfl,hp,by rw [rs.len];exact hu,?_⟩
    exact q u (yGh W n a (.lst us.dropLast) (.lst ys.dropLast)) rfl (ymA w hn hm hf ⟨hf,_,yX,rs.dropLast⟩) ru
   .cases e
  .cases e
 .cases e
noncomputable def ymB (eo ei ev:XE):XS:=fun ρ h=>ob (ev ρ h) fun v h1=>ob (eo ρ h1) fun o h2=>ob (ei ρ h2) fun i h3=>match o,i with
 | .loc n,.int k=>(match h3[n]? with|some (.lst xs)=>(match ixN xs.length k with|some j=>some (.nx ρ,h3.set n (.lst (xs.set j v)))|none=>none)|_=>none)
 | _,_=>none
theorem yCo {to ti tv:TE}{eo ei ev:XE}(a:ydx K to eo) (b:ydx K ti ei) (c:ydx K tv ev):yms K (yHc tv (yLY to ti yHO)) (ymB eo ei ev):=by
 intro W0 W ρ σ D o h' g e q
 obtain ⟨v,h1,e1,f1⟩:=yo e
 obtain ⟨x,h2,e2,f2⟩:=yo f1
 obtain ⟨i,h3,e3,f3⟩:=yo f2
 refine c W0 W ρ σ _ v h1 g e1 fun vv W1 w1 l1 r1=>?_
 subst w1
 refine a W0 W1 ρ σ _ x h2 (g.step l1) e2 fun vx W2 w2 l2 r2=>?_
 subst w2
 refine b W0 W2 ρ σ _ i h3 (g.step (l1.trans l2)) e3 fun vi W3 w3 l3 r3=>?_
 subst w3
 have w:=l3.ok
 split at f3
 .rename_i n k
  split at f3
  .rename_i xs hn
   split at f3
   .rename_i j hj
    cases f3
    obtain ⟨p,ep,hm,hf,us,hp,rs⟩:=w.loc hn (l3.rep r2)
    refine ⟨p,us,k,j,ep,r3,hp,by rw [rs.len];exact hj,?_⟩
    have l4:Le K W3 (yGh W3 n p (.lst (us.set j vv)) (.lst (xs.set j v))):=ymA w hn hm hf ⟨hf,_,yX,rs.set j ((l2.trans l3).rep r1)⟩
    have l:=l1.trans (l2.trans (l3.trans l4))
    exact q _ σ rfl l.lf (g.step l)
   .cases f3
  .cases f3
 .cases f3
def keyOf:PV->Option Key
 | .int i=>some (.inl i)
 | .str s=>some (.inr s)
 | _=>none
theorem yjJ {W:Wd}{x:PV}{v:V}{k:Key}(e:keyOf x=some k) (r:yfc K W x v):v=kV k:=by
 cases x<;>cases e<;>exact r
noncomputable def ynI (x:PV) (h:AH):Option (List Key×List PV):=match x with|.loc n=>(match h[n]? with|some (.dct ks xs)=>some (ks,xs)|_=>none)|_=>none
def yik:List Key->List PV->Key->Option PV
 | k::ks,x::xs,j=>if k=j then some x else yik ks xs j
 | _,_,_=>none
def yqJ:List Key->Key->Bool
 | [],_=>false
 | k::ks,j=>if k=j then true else yqJ ks j
noncomputable def setK {α:Type}:List Key->List α->Key->α->List α
 | k::ks,x::xs,j,y=>if k=j then y::setK ks xs j y else x::setK ks xs j y
 | _,xs,_,_=>xs
noncomputable def yep (ks:List Key) (xs:List PV) (k:Key) (x:PV):List Key×List PV:=if yqJ ks k=true then (ks,setK ks xs k x) else (ks++[k],xs++[x])
theorem yrm {α:Type}:∀ (ks:List Key) (xs:List α) (j:Key) (y:α),(setK ks xs j y).length=xs.length
 | [],_,_,_=>by simp [setK]
 | _::_,[],_,_=>by simp [setK]
 | k::ks,x::xs,j,y=>by
  show (if k=j then y::setK ks xs j y else x::setK ks xs j y).length=_
  split<;>simp [yrm ks xs j y]
theorem RepL.setK {F:Hp}{m:List Addr}:∀ {xs:List PV}{vs:List V}(ks:List Key) (j:Key) {y:PV}{u:V},RepL K F m xs vs->Rep K F m y u->RepL K F m (PX.setK ks xs j y) (PX.setK ks vs j u)
 | [],_,ks,j,y,u,h,_=>by rw [show _=[] from h];cases ks<;>exact rfl
 | x::xs,_,[],j,y,u,h,_=>by
  obtain ⟨v,r,e,h1,l⟩:=h
  subst e
  exact ⟨v,r,rfl,h1,l⟩
 | x::xs,_,k::ks,j,y,u,⟨v,r,e,h1,l⟩,ru=>by
  subst e
  show RepL K F m (if k=j then y::PX.setK ks xs j y else x::PX.setK ks xs j y) (if k=j then u::PX.setK ks r j u else v::PX.setK ks r j u)
  have ih:=RepL.setK ks j l ru
  split
  .exact ⟨u,_,rfl,ru,ih⟩
  .exact ⟨v,_,rfl,h1,ih⟩
theorem yoi {F:Hp}{m:List Addr}:∀ {ks:List Key}{xs:List PV}{vs:List V}(j:Key),RepL K F m xs vs->vs.length=ks.length->(∀ x,yik ks xs j=some x->∃ v,ytl (ks.zip vs) j=some v/\Rep K F m x v)/\(yik ks xs j=none->ytl (ks.zip vs) j=none)
 | [],xs,vs,j,r,hl=>by
  refine ⟨fun x e=>?_,fun _=>rfl⟩
  cases xs<;>cases e
 | k::ks,[],vs,j,r,hl=>by rw [show vs=[] from r] at hl;cases hl
 | k::ks,x::xs,_,j,⟨v,r',e,h,l⟩,hl=>by
  subst e
  have ih:=yoi j l (by simpa using hl)
  have hz:ytl ((k::ks).zip (v::r')) j=if k=j then some v else ytl (ks.zip r') j:=by
   unfold ytl
   rw [List.zip_cons_cons,List.find?_cons]
   by_cases hk:k=j
   .simp [hk]
   .simp [hk]
  rw [hz]
  show (∀ y,(if k=j then some x else yik ks xs j)=some y->_)/\((if k=j then some x else yik ks xs j)=none->_)
  by_cases hk:k=j
  .rw [if_pos hk,if_pos hk]
   exact ⟨fun y e=>by cases e;exact ⟨v,rfl,h⟩,fun e=>by cases e⟩
  .rw [if_neg hk,if_neg hk]
   exact ih
theorem yzv (j:Key):∀ (ks:List Key) (vs:List V),vs.length=ks.length->((ks.zip vs).any fun kv=>decide (kv.1=j))=yqJ ks j
 | [],_,_=>by simp [yqJ]
 | k::ks,[],h=>by cases h
 | k::ks,v::vs,h=>by
  rw [List.zip_cons_cons,List.any_cons,yzv j ks vs (by simpa using h)]
  show (decide (k=j) || yqJ ks j)=if k=j then true else yqJ ks j
  by_cases hk:k=j<;>simp [hk]
theorem yzw (j:Key) (y:V):∀ (ks:List Key) (vs:List V),vs.length=ks.length->(ks.zip vs).map (fun kv=>if kv.1=j then (kv.1,y) else kv)=ks.zip (setK ks vs j y)
 | [],_,_=>by simp
 | k::ks,[],h=>by cases h
 | k::ks,v::vs,h=>by
  rw [List.zip_cons_cons,List.map_cons,yzw j y ks vs (by simpa using h)]
  show (if k=j then (k,y) else (k,v))::_=(k::ks).zip (if k=j then y::setK ks vs j y else v::setK ks vs j y)
  by_cases hk:k=j
  .rw [if_pos hk,if_pos hk];rfl
  .rw [if_neg hk,if_neg hk];rfl
theorem ywI (j:Key) (y:V) (ks:List Key) (vs:List V) (hl:vs.length=ks.length):putK (ks.zip vs) j y=if yqJ ks j=true then ks.zip (setK ks vs j y) else (ks++[j]).zip (vs++[y]):=by
 unfold putK
 rw [yzv j ks vs hl,yzw j y ks vs hl,List.zip_append hl.symm]
 rfl
theorem ylF {W:Wd}(w:WOk K W) {x:PV}{v:V}{ks:List Key}{xs:List PV}(e:ynI x W.h=some (ks,xs)) (r:yfc K W x v):∃ a vs,v=.ref a/\W.H a=some (.dK (ks.zip vs))/\vs.length=ks.length/\yfx K W xs vs:=by
 unfold ynI at e
 split at e
 .split at e
  .rename_i hn
   cases e
   obtain ⟨a,ev,hm,hf,vs,hp,hl,rs⟩:=w.loc hn r
   exact ⟨a,vs,ev,hp,hl,rs⟩
  .cases e
 .cases e
noncomputable def yzx (x:PV) (h:AH):Option (List Key×List PV):=match x with|.loc n=>(match h[n]? with|some (.dct ks xs)=>some (ks,xs)|some (.fz ks xs)=>some (ks,xs)|_=>none)|_=>none
theorem ylG {W:Wd}(w:WOk K W) {x:PV}{v:V}{ks:List Key}{xs:List PV}(e:yzx x W.h=some (ks,xs)) (r:yfc K W x v):∃ a vs,v=.ref a/\Rd W.H a (.dK (ks.zip vs))/\vs.length=ks.length/\yfx K W xs vs:=by
 unfold yzx at e
 split at e
 .split at e
  .rename_i hn
   cases e
   obtain ⟨a,ev,hm,hf,vs,hp,hl,rs⟩:=w.loc hn r
   exact ⟨a,vs,ev,.inl hp,hl,rs⟩
  .rename_i hn
   cases e
   obtain ⟨a,ev,hm,hf,o,vs,hp,hl,rs⟩:=w.loc hn r
   exact ⟨a,vs,ev,.inr ⟨o,hp⟩,hl,rs⟩
  .cases e
 .cases e
theorem DGet.r {H:Hp}{a:Addr}{kvs:List (Key×V)}{k:Key}(e:Rd H a (.dK kvs)):DGet H a (kV k) (ytl kvs k):=.inl ⟨kvs,k,e,rfl,rfl⟩
noncomputable def yvn (ed ek:XE):XE:=fun ρ h=>ob (ed ρ h) fun d h1=>ob (ek ρ h1) fun k h2=>match yzx d h2,keyOf k with|some (ks,xs),some j=>(match yik ks xs j with|some x=>some (x,h2)|none=>none)|_,_=>none
theorem yCp {td ty:TE}{ed ek:XE}(a:ydx K td ed) (b:ydx K ty ek):ydx K (yIF td ty) (yvn ed ek):=by
 intro W0 W ρ σ Q z h' g e q
 obtain ⟨d,h1,e1,f1⟩:=yo e
 obtain ⟨k,h2,e2,f2⟩:=yo f1
 refine a W0 W ρ σ _ d h1 g e1 fun vd W1 w1 l1 r1=>?_
 subst w1
 refine b W0 W1 ρ σ _ k h2 (g.step l1) e2 fun vk W2 w2 l2 r2=>?_
 subst w2
 split at f2
 .rename_i ks xs j hd hk
  split at f2
  .rename_i x hx
   cases f2
   obtain ⟨p,vs,ev,hp,hl,rs⟩:=ylG l2.ok hd (l2.rep r1)
   obtain ⟨v,h3,h4⟩:=(yoi j rs hl).1 _ hx
   have:=yjJ hk r2
   subst this
   exact ⟨p,v,ev,by rw [<- h3];exact DGet.r hp,q _ W2 rfl (l1.trans l2) h4⟩
  .cases f2
 .cases f2
noncomputable def yzy (neg:Bool) (ek ed:XE):XE:=fun ρ h=>ob (ek ρ h) fun k h1=>ob (ed ρ h1) fun d h2=>match yzx d h2,keyOf k with|some (ks,xs),some j=>some (.bl (if neg then !(yik ks xs j).isSome else (yik ks xs j).isSome),h2)|_,_=>none
theorem yqK {F:Hp}{m:List Addr}{ks:List Key}{xs:List PV}{vs:List V}(j:Key) (r:RepL K F m xs vs) (hl:vs.length=ks.length):(ytl (ks.zip vs) j).isSome=(yik ks xs j).isSome:=by
 have h:=yoi j r hl
 cases e:yik ks xs j with
 | none=>rw [h.2 e];rfl
 | some x=>obtain ⟨v,h1,_⟩:=h.1 x e;rw [h1];rfl
theorem yGi {td ty:TE}{ed ek:XE}(b:ydx K ty ek) (a:ydx K td ed):ydx K (yMm ty td) (yzy false ek ed):=by
 intro W0 W ρ σ Q z h' g e q
 obtain ⟨k,h1,e1,f1⟩:=yo e
 obtain ⟨d,h2,e2,f2⟩:=yo f1
 refine b W0 W ρ σ _ k h1 g e1 fun vk W1 w1 l1 r1=>?_
 subst w1
 refine a W0 W1 ρ σ _ d h2 (g.step l1) e2 fun vd W2 w2 l2 r2=>?_
 subst w2
 split at f2
 .rename_i ks xs j hd hk
  cases f2
  obtain ⟨p,vs,ev,hp,hl,rs⟩:=ylG l2.ok hd r2
  have:=yjJ hk (l2.rep r1)
  subst this
  exact ⟨p,_,ev,DGet.r hp,q _ W2 rfl (l1.trans l2) (by rw [yqK j rs hl];rfl)⟩
 .cases f2
theorem yxL {td ty:TE}{ed ek:XE}(b:ydx K ty ek) (a:ydx K td ed):ydx K (yzs ty td) (yzy true ek ed):=by
 intro W0 W ρ σ Q z h' g e q
 obtain ⟨k,h1,e1,f1⟩:=yo e
 obtain ⟨d,h2,e2,f2⟩:=yo f1
 refine b W0 W ρ σ _ k h1 g e1 fun vk W1 w1 l1 r1=>?_
 subst w1
 refine a W0 W1 ρ σ _ d h2 (g.step l1) e2 fun vd W2 w2 l2 r2=>?_
 subst w2
 split at f2
 .rename_i ks xs j hd hk
  cases f2
  obtain ⟨p,vs,ev,hp,hl,rs⟩:=ylG l2.ok hd r2
  have:=yjJ hk (l2.rep r1)
  subst this
  exact ⟨p,_,ev,DGet.r hp,q _ W2 rfl (l1.trans l2) (by rw [yqK j rs hl];rfl)⟩
 .cases f2
noncomputable def yrn (ed ek ev:XE):XS:=fun ρ h=>ob (ev ρ h) fun v h1=>ob (ed ρ h1) fun d h2=>ob (ek ρ h2) fun k h3=>match d,keyOf k with
 | .loc n,some j=>(match h3[n]? with|some (.dct ks xs)=>if ks.length<1000 then some (.nx ρ,h3.set n (.dct (yep ks xs j v).1 (yep ks xs j v).2)) else none|_=>none)
 | _,_=>none
theorem yCq {td ty tv:TE}{ed ek ev:XE}(a:ydx K td ed) (b:ydx K ty ek) (c:ydx K tv ev):yms K (yIG td ty tv) (yrn ed ek ev):=by
 intro W0 W ρ σ D o h' g e q
 obtain ⟨v,h1,e1,f1⟩:=yo e
 obtain ⟨x,h2,e2,f2⟩:=yo f1
 obtain ⟨i,h3,e3,f3⟩:=yo f2
 refine c W0 W ρ σ _ v h1 g e1 fun vv W1 w1 l1 r1=>?_
 subst w1
 refine a W0 W1 ρ σ _ x h2 (g.step l1) e2 fun vx W2 w2 l2 r2=>?_
 subst w2
 refine b W0 W2 ρ σ _ i h3 (g.step (l1.trans l2)) e3 fun vi W3 w3 l3 r3=>?_
 subst w3
 have w:=l3.ok
 split at f3
 .rename_i n j hk
  split at f3
  .rename_i ks xs hn
   split at f3
   .rename_i hc
    cases f3
    obtain ⟨p,ep,hm,hf,us,hp,hl,rs⟩:=w.loc hn (l3.rep r2)
    have:=yjJ hk r3
    subst this
    have hput:=ywI j vv ks us hl
    have rv:=(l2.trans l3).rep r1
    have key:∃ us',putK (ks.zip us) j vv=(yep ks xs j v).1.zip us'/\us'.length=(yep ks xs j v).1.length/\yfx K W3 (yep ks xs j v).2 us':=by
     unfold yep
     by_cases hj:yqJ ks j=true
     .rw [if_pos hj] at hput ⊢
      exact ⟨_,hput,by rw [yrm];exact hl,rs.setK ks j rv⟩
     .rw [if_neg hj] at hput ⊢
      exact ⟨_,hput,by rw [List.length_append,List.length_append,hl];rfl,rs.snoc rv⟩
    obtain ⟨us',p1,p2,p3⟩:=key
    refine ⟨p,_,ep,DPut.k hp (by rw [List.length_zip,hl];exact ysO (by omega)),?_⟩
    rw [p1]
    have l4:Le K W3 (yGh W3 n p (.dK ((yep ks xs j v).1.zip us')) (.dct (yep ks xs j v).1 (yep ks xs j v).2)):=ymA w hn hm hf ⟨hf,us',yX,p2,p3⟩
    have l:=l1.trans (l2.trans (l3.trans l4))
    exact q _ σ rfl l.lf (g.step l)
   .cases f3
  .cases f3
 .cases f3
def ytn:XO:=fun _ h=>some (.dct [] [],h)
theorem yCr:yww K yDO ytn:=by
 intro W0 W ρ σ Q d h' g e q
 cases e
 intro p hp
 exact q p (ypT W p (.dK [])) rfl (ygu g.ok hp) (g.ok.out hp) hp (fun z=>by cases z) ⟨g.ok.ff hp,[],yX,rfl,rfl⟩
noncomputable def yto (ed ek ex:XE):XE:=fun ρ h=>ob (ed ρ h) fun d h1=>if (yzx d h1).isSome=true then ob (ek ρ h1) fun k h2=>ob (ex ρ h2) fun y h3=>(match yzx d h3,keyOf k with|some (ks,xs),some j=>some ((yik ks xs j).getD y,h3)|_,_=>none) else none
theorem yzz {td ty tx:TE}{ed ek ex:XE}(a:ydx K td ed) (b:ydx K ty ek) (c:ydx K tx ex):ydx K (yDP td ty tx) (yto ed ek ex):=by
 intro W0 W ρ σ Q z h' g e q
 obtain ⟨d,h1,e1,f1⟩:=yo e
 refine a W0 W ρ σ _ d h1 g e1 fun vd W1 w1 l1 r1=>?_
 subst w1
 split at f1
 .rename_i hs
  obtain ⟨⟨ks0,xs0⟩,hd0⟩:=Option.isSome_iff_exists.mp hs
  obtain ⟨p,vs0,ev,hp0,_,_⟩:=ylG l1.ok hd0 r1
  subst ev
  refine ⟨p,rfl,.inl ⟨_,hp0⟩,?_⟩
  obtain ⟨k,h2,e2,f2⟩:=yo f1
  obtain ⟨y,h3,e3,f3⟩:=yo f2
  refine b W0 W1 ρ σ _ k h2 (g.step l1) e2 fun vk W2 w2 l2 r2=>?_
  subst w2
  refine c W0 W2 ρ σ _ y h3 (g.step (l1.trans l2)) e3 fun vy W3 w3 l3 r3=>?_
  subst w3
  split at f3
  .rename_i ks xs j hd hk
   cases f3
   obtain ⟨p',vs,ev,hp,hl,rs⟩:=ylG l3.ok hd ((l2.trans l3).rep r1)
   cases ev
   have:=yjJ hk (l3.rep r2)
   subst this
   refine ⟨_,DGet.r hp,q _ W3 rfl (l1.trans (l2.trans l3)) ?_⟩
   have hv:=yoi j rs hl
   cases eg:yik ks xs j with
   | none=>rw [hv.2 eg];exact r3
   | some x=>obtain ⟨v,h3,h4⟩:=hv.1 x eg;rw [h3];exact h4
  .cases f3
 .cases f1
end PX
namespace PX
open PySem L2
variable {K:Ck}
theorem yvo {x:PV}{u:V}(e:sv x=some u):yxr u=true:=by cases x<;>cases e<;>rfl
def yLq:List V->Hp->VK->Prop:=fun xs H Q=>∃ i j,xs=[.int i,.int j]/\Q (.int (if j>i then j else i)) H
noncomputable def yzA:List PV->AH->Option (PV×AH):=fun xs h=>match xs with|[.int i,.int j]=>some (.int (if j>i then j else i),h)|_=>none
theorem yIK:yri K yLq yzA:=by
 intro W xs vs Q z h' w r e q
 unfold yzA at e
 split at e
 .rename_i i j
  cases e
  obtain ⟨v,u,rfl,rv,ru⟩:=yMk r
  exact ⟨i,j,by rw [show v=_ from rv,show u=_ from ru],q _ W rfl (.refl w) rfl⟩
 .cases e
end PX
namespace PX
open PySem L2
theorem yLr [i:Decidable True]:decide True=true:=by simp
theorem yLs [i:Decidable False]:decide False=false:=by simp
theorem yLt:(false=true)=False:=by simp
theorem yLu:(true=false)=False:=by simp
theorem ywJ {g:XG}{s:XS}{xs:List PV}(I:Nat->PSt->AH->Prop) (R:PV->AH->Prop) {ρ:PSt}{h:AH}(h0:I 0 ρ h)
  (step:∀ (i:Nat) (x:PV) (ρ:PSt) (h:AH),xs[i]?=some x->I i ρ h->∃ ρ1 o h',g x ρ=some ρ1/\s ρ1 h=some (o,h')/\(match o with|.nx ρ'=>I (i+1) ρ' h'|.ct ρ'=>I (i+1) ρ' h'|.bk _=>False|.rt y=>R y h')) :
  (∃ ρ' h',yoz g s xs ρ h=some (.nx ρ',h')/\I xs.length ρ' h')\/∃ y h',yoz g s xs ρ h=some (.rt y,h')/\R y h':=by
 have key:∀ (n i:Nat) (ρ:PSt) (h:AH),i+n=xs.length->I i ρ h->(∃ ρ' h',yoz g s (xs.drop i) ρ h=some (.nx ρ',h')/\I xs.length ρ' h')\/∃ y h',yoz g s (xs.drop i) ρ h=some (.rt y,h')/\R y h':=by
  intro n
  induction n with
  | zero =>
   intro i ρ h hi hI
   have:i=xs.length:=by omega
   subst this
   rw [List.drop_length]
   exact .inl ⟨ρ,h,rfl,hI⟩
  | succ n ih =>
   intro i ρ h hi hI
   have hlt:i<xs.length:=by omega
   obtain ⟨ρ1,o,h',e1,e2,e3⟩:=step i xs[i] ρ h (List.getElem?_eq_getElem hlt) hI
   rw [List.drop_eq_getElem_cons hlt,yzp,e1,Option.bind_some,e2,yw]
   cases o with
   | nx ρ'=>exact ih (i+1) ρ' h' (by omega) e3
   | ct ρ'=>exact ih (i+1) ρ' h' (by omega) e3
   | bk ρ'=>exact e3.elim
   | rt y=>exact .inr ⟨y,h',rfl,e3⟩
 simpa using key xs.length 0 ρ h (by omega) h0
theorem yGj {g:XG}{s:XS}{xs:List PV}(I:Nat->PSt->AH->Prop) {ρ:PSt}{h:AH}(h0:I 0 ρ h)
  (step:∀ (i:Nat) (x:PV) (ρ:PSt) (h:AH),xs[i]?=some x->I i ρ h->∃ ρ1 ρ' h',g x ρ=some ρ1/\(s ρ1 h=some (.nx ρ',h')\/s ρ1 h=some (.ct ρ',h'))/\I (i+1) ρ' h') :
  ∃ ρ' h',yoz g s xs ρ h=some (.nx ρ',h')/\I xs.length ρ' h':=by
 rcases ywJ I (fun _ _=>False) h0 (fun i x ρ h hx hI=>by
  obtain ⟨ρ1,ρ',h',e1,e2,e3⟩:=step i x ρ h hx hI
  rcases e2 with e2|e2
  .exact ⟨ρ1,.nx ρ',h',e1,e2,e3⟩
  .exact ⟨ρ1,.ct ρ',h',e1,e2,e3⟩) with q|⟨_,_,_,q⟩
 .exact q
 .exact q.elim
theorem yiz {β:Type}{g:XG}{s:XS}{xs:List PV}(I:Nat->PSt->AH->Prop) {ρ:PSt}{h:AH}{f:Out->AH->Option β}{r:Option β}(h0:I 0 ρ h)
  (step:∀ (i:Nat) (x:PV) (ρ:PSt) (h:AH),xs[i]?=some x->I i ρ h->∃ ρ1 ρ' h',g x ρ=some ρ1/\(s ρ1 h=some (.nx ρ',h')\/s ρ1 h=some (.ct ρ',h'))/\I (i+1) ρ' h')
  (fin:∀ ρ' h',I xs.length ρ' h'->f (.nx ρ') h'=r):ob (yoz g s xs ρ h) f=r:=by
 obtain ⟨ρ',h',e,hI⟩:=yGj I h0 step
 rw [e]
 exact fin ρ' h' hI
theorem yro {β:Type}{g:XG}{s:XS}{xs:List PV}(I:Nat->PSt->AH->Prop) (R:PV->AH->Prop) {ρ:PSt}{h:AH}{f:Out->AH->Option β}{P:Option β->Prop}(h0:I 0 ρ h)
  (step:∀ (i:Nat) (x:PV) (ρ:PSt) (h:AH),xs[i]?=some x->I i ρ h->∃ ρ1 o h',g x ρ=some ρ1/\s ρ1 h=some (o,h')/\(match o with|.nx ρ'=>I (i+1) ρ' h'|.ct ρ'=>I (i+1) ρ' h'|.bk _=>False|.rt y=>R y h'))
  (fin:∀ ρ' h',I xs.length ρ' h'->P (f (.nx ρ') h')) (out:∀ y h',R y h'->P (f (.rt y) h')):P (ob (yoz g s xs ρ h) f):=by
 rcases ywJ I R h0 step with ⟨ρ',h',e,hI⟩|⟨y,h',e,hR⟩
 .rw [e];exact fin ρ' h' hI
 .rw [e];exact out y h' hR
theorem yCs {c:XT}{s:XS}{n:Nat}{ρ:PSt}{h:AH}:whl c s (n+1) ρ h=ob (c ρ h) fun k h1=>if k=true then ob (s ρ h1) fun o h2=>(match o with|.nx ρ'=>whl c s n ρ' h2|.ct ρ'=>whl c s n ρ' h2|.bk ρ'=>some (.nx ρ',h2)|.rt y=>some (.rt y,h2)) else some (.nx ρ,h1):=rfl
theorem yGk (lo:Int) (n:Nat):(yxC lo n).length=n:=by simp [yxC]
theorem yjK {lo:Int}{n i:Nat}{x:PV}(h:(yxC lo n)[i]?=some x):i<n/\x=.int (lo+i):=by
 have hl:=(List.getElem?_eq_some_iff.mp h).1
 rw [yGk] at hl
 refine ⟨hl,?_⟩
 simp [yxC,hl] at h
 exact h.symm
theorem ylH {a:XA}{ρ:PSt}{h h1:AH}{j:Int}(e:a ρ h=some ([.int j],h1)) (h0:-1000000000<=j) (h2:j<=1000000000):yBW a ρ h=some (yxC 0 j.toNat,h1):=by
 unfold yBW
 rw [e,yw]
 show (if _ then _ else _)=_
 rw [if_pos ⟨h0,h2⟩]
theorem yvp {α:Type}{e:XE}{inn:PV->PSt}(f g:α->PV):∀ {ts:List α}{h:AH},(∀ t∈ts,e (inn (f t)) h=some (g t,h))->yBO e inn (ts.map f) h=some (ts.map g,h)
 | [],_,_=>rfl
 | t::ts,h,k=>by
  show ob (e (inn (f t)) h) (fun y h1=>ob (yBO e inn (ts.map f) h1) fun ys h2=>some (y::ys,h2))=_
  rw [k t List.mem_cons_self,yw,yvp f g fun y hy=>k y (List.mem_cons_of_mem _ hy),yw]
  rfl
theorem yjA {i:Nat}{e:XE}{ρ:PSt}{h:AH}{xs:List PV}(hx:ρ[i]?=some (.own (.lst xs))):yiM i e ρ h=ob (e ρ h) fun x h1=>if xs.length<100000 then some (.nx (ρ.set i (.own (.lst (xs++[x])))),h1) else none:=by
 unfold yiM
 rw [hx]
theorem yIL {α:Type}{a0:α}{xs:List α}:atI (a0::xs) 0=some a0:=yen (j:=0) rfl
theorem yIM {α:Type}{a0 a1:α}{xs:List α}:atI (a0::a1::xs) 1=some a1:=yen (j:=1) rfl
theorem yLv {α:Type}{a0 a1 a2:α}{xs:List α}:atI (a0::a1::a2::xs) 2=some a2:=yen (j:=2) rfl
theorem yMn {α:Type}{a0 a1 a2 a3:α}{xs:List α}:atI (a0::a1::a2::a3::xs) 3=some a3:=yen (j:=3) rfl
theorem yMK {α:Type}{a0 a1 a2 a3 a4:α}{xs:List α}:atI (a0::a1::a2::a3::a4::xs) 4=some a4:=yen (j:=4) rfl
theorem yfO {h:AH}{n:Nat}{xs:List PV}(e:h[n]?=some (.lst xs)):ybD [.loc n] h=some (.lst xs,h):=by
 unfold ybD listOf
 simp only [e]
theorem ymC {h:AH}{n:Nat}{xs:List PV}(e:h[n]?=some (.lst xs)):yiN [.loc n] h=some (.int xs.length,h):=by
 unfold yiN yzk
 simp only [e]
theorem yrp {h:AH}{n:Nat}{xs:List PV}{y:PV}(e:h[n]?=some (.lst xs)) (hl:xs.length<100000):yrl (.loc n) [y] h=some (.non,h.set n (.lst (xs++[y]))):=by
 unfold yrl
 simp only [e]
 rw [if_pos hl]
theorem yiA {h:AH}{n:Nat}{xs:List PV}(e:h[n]?=some (.lst xs)):ynH (.loc n) h=true:=by
 unfold ynH ydA
 simp only [e]
end PX
namespace PX
open PySem L2
variable {K:Ck}
def yxM:P2:=fun x y h=>match x with|.tup xs=>ydd (.tup xs) y h|x=>ygv x y h
theorem yzB:ygt K (rIx K.K) yxM:=by
 intro W x y v u Q z h' w rx ry e q
 unfold yxM at e
 split at e
 .exact .inr (.inl (ybk W _ y v u Q z h' w rx ry e q))
 .exact .inl (ydZ W _ y v u Q z h' w rx ry e q)
theorem yGl {xs:List PV}{i:Int}{h:AH}:yxM (.tup xs) (.int i) h=(atI xs i).bind fun v=>some (v,h):=id (by simp only [yxM,ydd];cases atI xs i<;>rfl)
theorem yGm {xs:List PV}{i:Int}{h:AH}:yxM (.lst xs) (.int i) h=(atI xs i).bind fun v=>some (v,h):=id (by simp only [yxM,ygv];cases atI xs i<;>rfl)
section
variable {ta:TE}{ea:XE}
end
end PX
namespace PX
open PySem L2
variable {K:Ck}
def yJU (lo st:Int) (n:Nat):It:=⟨fun i _=>i<n,fun i H x H'=>H'=H/\x=.int (lo+i*st),fun i _=>n<=i⟩
def szR (a b c:Int):Nat:=if a<b then ((b-a-1)/c+1).toNat else 0
noncomputable def yIN (ta:TA):TI:=fun σ H R=>ta σ H fun vs H1=>∃ i j c:Int,vs=[.int i,.int j,.int c]/\(0<=i/\i<1000000000/\0<=j/\j<1000000000/\0<c/\c<1000000)/\R (yJU i c (szR i j c)) H1
def yDR (lo st:Int) (n:Nat):List PV:=(List.range n).map fun (k:Nat)=>.int (lo+(k:Int)*st)
noncomputable def yIO (a:XA):XA:=fun ρ h=>ob (a ρ h) fun xs h1=>match xs with|[.int i,.int j,.int c]=>if 0<=i/\i<1000000000/\0<=j/\j<1000000000/\0<c/\c<1000000 then some (yDR i c (szR i j c),h1) else none|_=>none
theorem yGn (W:Wd) (lo st:Int) (n:Nat):yJP K W (yJU lo st n) (yDR lo st n):=by
 refine ⟨fun i W' l w hi=>?_,fun i W' v' H2 l w hi hy=>?_,fun W' l w=>?_⟩
 .show i<n
  simpa [yDR] using hi
 .obtain ⟨h1,h2⟩:=hy
  have hi:i<n:=by simpa [yDR] using hi
  exact ⟨h1,.int (lo+(i:Int)*st),by simp [yDR,hi],h2⟩
 .show n<=_
  simp [yDR]
theorem yzC {t:TA}{e:XA}(a:yuD K t e):yFM K (yIN t) (yIO e):=by
 intro W0 W ρ σ R xs h' g e q
 obtain ⟨ys,h1,e1,f1⟩:=yo e
 split at f1
 .rename_i i j c
  split at f1
  .rename_i hj
   cases f1
   refine a W0 W ρ σ _ _ _ g e1 fun vs W1 w1 l1 r1=>?_
   obtain ⟨v,r,rfl,rv,v2,r2,rfl,rv2,v3,r3,rfl,rv3,rr⟩:=r1
   obtain rfl:r3=[]:=rr
   exact ⟨i,j,c,by rw [show v=.int i from rv,show v2=.int j from rv2,show v3=.int c from rv3],hj,q _ W1 w1 l1 (yGn W1 i c _)⟩
  .cases f1
 .cases f1
theorem yIP {a:XA}{ρ:PSt}{h h1:AH}{i j c:Int}(e:a ρ h=some ([.int i,.int j,.int c],h1)) (hc:0<=i/\i<1000000000/\0<=j/\j<1000000000/\0<c/\c<1000000):yIO a ρ h=some (yDR i c (szR i j c),h1):=by
 unfold yIO
 rw [e,yKF]
 show (if _ then _ else _)=_
 rw [if_pos hc]
end PX
namespace PX
open PySem L2
variable {K:Ck}
def Odd (K:PySem.W.Frag) (H:Hp):Prop:=∃ a o ob,H a=some o/\K.lookup a=some ob
inductive EqR (K:PySem.W.Frag) (H:Hp):Nat->V->V->Bool->Prop where
 | flat {n:Nat}{x y:V}(fx:yxr x=true) (fy:yxr y=true):EqR K H n x y (eqV x y)
 | same {n:Nat}{a:Addr}:EqR K H n (.ref a) (.ref a) true
 | odd {n:Nat}{x y:V}{b:Bool}(h:Odd K H):EqR K H n x y b
 | nt {n:Nat}{b:Addr}{ys:List V}(hb:SqT K H b ys):EqR K H (n+1) .non (.ref b) false
 | tn {n:Nat}{b:Addr}{ys:List V}(hb:SqT K H b ys):EqR K H (n+1) (.ref b) .non false
 | lst {n:Nat}{a b:Addr}{xs ys:List V}{e:Nat->Bool}(ha:H a=some (.lst xs)) (hb:H b=some (.lst ys)) (hl:xs.length=ys.length) (hne:a≠b) (he:∀ j x y,xs[j]?=some x->ys[j]?=some y->EqR K H n x y (e j)):EqR K H (n+1) (.ref a) (.ref b) ((List.range xs.length).all e)
 | lstN {n:Nat}{a b:Addr}{xs ys:List V}(ha:H a=some (.lst xs)) (hb:H b=some (.lst ys)) (hl:xs.length≠ys.length):EqR K H (n+1) (.ref a) (.ref b) false
 | tup {n:Nat}{a b:Addr}{xs ys:List V}{e:Nat->Bool}(ha:SqT K H a xs) (hb:SqT K H b ys) (hne:a≠b) (he:∀ j x y,xs[j]?=some x->ys[j]?=some y->EqR K H n x y (e j)):EqR K H (n+1) (.ref a) (.ref b) ((List.range (min xs.length ys.length)).all e && xs.length == ys.length)
inductive RcR (K:PySem.W.Frag) (H:Hp):V->V->Bool->Prop where
 | nt {b:Addr}{ys:List V}(hb:SqT K H b ys):RcR K H .non (.ref b) false
 | tn {b:Addr}{ys:List V}(hb:SqT K H b ys):RcR K H (.ref b) .non false
 | lst {a b:Addr}{xs ys:List V}{e:Nat->Bool}(ha:H a=some (.lst xs)) (hb:H b=some (.lst ys)) (hl:xs.length=ys.length) (he:∀ j x y,xs[j]?=some x->ys[j]?=some y->EqR K H 40 x y (e j)):RcR K H (.ref a) (.ref b) ((List.range xs.length).all e)
 | lstN {a b:Addr}{xs ys:List V}(ha:H a=some (.lst xs)) (hb:H b=some (.lst ys)) (hl:xs.length≠ys.length):RcR K H (.ref a) (.ref b) false
 | tup {a b:Addr}{xs ys:List V}{e:Nat->Bool}(ha:SqT K H a xs) (hb:SqT K H b ys) (he:∀ j x y,xs[j]?=some x->ys[j]?=some y->EqR K H 40 x y (e j)):RcR K H (.ref a) (.ref b) ((List.range (min xs.length ys.length)).all e && xs.length == ys.length)
def yMo (K:PySem.W.Frag):R2:=fun x y H Q=>∃ b,RcR K H x y b/\Q (.bl b) H
def yMp (K:PySem.W.Frag):R2:=fun x y H Q=>∃ b,RcR K H x y b/\Q (.bl (!b)) H
noncomputable def ylI (f:PV->PV->Option Bool):List PV->List PV->Option Bool
 | x::xs,y::ys=>(match f x y,ylI f xs ys with|some b,some c=>some (b && c)|_,_=>none)
 | _,_=>some true
noncomputable def pairE (f:PV->PV->Option Bool) (h:AH) (x y:PV):Option Bool:=match x,y with
 | .tup xs,.tup ys=>(match ylI f xs ys with|some b=>some (b && xs.length == ys.length)|none=>none)
 | .non,.tup _=>some false
 | .tup _,.non=>some false
 | x,y=>(match ydA x h,ydA y h with|some xs,some ys=>if xs.length=ys.length then ylI f xs ys else some false|_,_=>none)
noncomputable def eqP:Nat->AH->PV->PV->Option Bool
 | 0,_,_,_=>none
 | n+1,h,x,y=>match sv x,sv y with
  | some u,some v=>some (eqV u v)
  | _,_=>pairE (eqP n h) h x y
theorem yCt:∀ {v:V},yxr v=true->eqV v v=true
 | .non,_=>rfl
 | .bl b,_=>by cases b<;>rfl
 | .int i,_=>by simp [eqV]
 | .str s,_=>by simp [eqV]
noncomputable def unV:Value->Option V
 | .none=>some .non
 | .bool b=>some (.bl b)
 | .int i _=>some (.int i)
 | .str x _=>some (.str x)
 | .bytes b _=>some (.byt b)
 | .float b _=>some (.flt b)
 | .ref a=>some (.ref a)
 | .type n=>some (.ty n)
 | _=>none
theorem yDS:∀ {v:V}{u:Value},RelV v u->unV u=some v
 | .non,_,h=>by rw [show _=Value.none from h];rfl
 | .bl _,_,h=>by rw [show _=Value.bool _ from h];rfl
 | .int _,_,⟨_,h⟩=>by rw [h];rfl
 | .str _,_,⟨_,h⟩=>by rw [h];rfl
 | .byt _,_,⟨_,h⟩=>by rw [h];rfl
 | .flt _,_,⟨_,h⟩=>by rw [h];rfl
 | .ref _,_,h=>by rw [show _=Value.ref _ from h];rfl
 | .ty _,_,h=>by rw [show _=Value.type _ from h];rfl
theorem yGo {v w:V}{u:Value}(h1:RelV v u) (h2:RelV w u):v=w:=Option.some.inj ((yDS h1).symm.trans (yDS h2))
theorem yCu {vs ws:List V}{us:List Value}(h1:Vals vs us):Vals ws us->vs=ws:=by
 induction h1 generalizing ws with
 | nil=>intro h2;cases h2;rfl
 | cons r _ ih=>intro h2;cases h2 with|cons r2 t2=>rw [yGo r r2,ih t2]
theorem yIQ {F H:Hp}{a:Addr}{vs ws:List V}(s:Same F H) (h1:TpAt K.K F a vs) (h2:TpAt K.K F a ws):vs=ws\/Odd K.K H:=by
 rcases h1 with h1|⟨o,its,n,e1,e2,e3,e4,e5⟩
 .rcases h2 with h2|⟨o,its,n,e1,e2,e3,e4,e5⟩
  .rw [h1] at h2;cases h2;exact .inl rfl
  .exact .inr ⟨a,_,o,s _ _ h1,e1⟩
 .rcases h2 with h2|⟨o',its',n',e1',e2',e3',e4',e5'⟩
  .exact .inr ⟨a,_,o,s _ _ h2,e1⟩
  .rw [e1] at e1';cases e1'
   rw [e3] at e3';cases e3'
   exact .inl (yCu e5 e5')
theorem yoD {f:PV->PV->Option Bool}{W:Wd}(hf:∀ x y v b,f x y=some b->yfc K W x v->yfc K W y v->b=true\/Odd K.K W.H):∀ {xs ys:List PV}{vs:List V}{c:Bool},yfx K W xs vs->yfx K W ys vs->ylI f xs ys=some c->c=true\/Odd K.K W.H
 | [],_,_,_,_,_,e=>by simp [ylI] at e;exact .inl e
 | _::_,[],_,_,_,_,e=>by simp [ylI] at e;exact .inl e
 | x::xs,y::ys,_,c,⟨v,r,e1,h1,l1⟩,⟨u,q,e2,h2,l2⟩,e=>by
  rw [e1] at e2
  cases e2
  unfold ylI at e
  cases eb:f x y with
  | none=>rw [eb] at e;cases e
  | some b =>
   cases ec:ylI f xs ys with
   | none=>rw [eb,ec] at e;cases e
   | some c' =>
    rw [eb,ec] at e
    cases e
    rcases hf x y _ b eb h1 h2 with z|z
    .rcases yoD hf l1 l2 ec with z'|z'
     .exact .inl (by rw [z,z'];rfl)
     .exact .inr z'
    .exact .inr z
theorem yxN {f:PV->PV->Option Bool}{W:Wd}(w:WOk K W) (hf:∀ x y v b,f x y=some b->yfc K W x v->yfc K W y v->b=true\/Odd K.K W.H) {x y:PV}{v:V}{b:Bool}(e:pairE f W.h x y=some b) (rx:yfc K W x v) (ry:yfc K W y v):b=true\/Odd K.K W.H:=by
 unfold pairE at e
 split at e
 .rename_i xs ys
  obtain ⟨a,vs,ev,ha,ra⟩:=rx
  obtain ⟨a',vs',ev',ha',ra'⟩:=ry
  rw [ev] at ev'
  cases ev'
  rcases yIQ w.le ha ha' with z|z
  .subst z
   cases ec:ylI f xs ys with
   | none=>rw [ec] at e;cases e
   | some c =>
    rw [ec] at e
    cases e
    rcases yoD hf ra ra' ec with z|z
    .left
     rw [z,<- ra.len,<- ra'.len]
     simp
    .exact .inr z
  .exact .inr z
 .obtain ⟨a',vs',ev',ha',ra'⟩:=ry
  have rx:v=.non:=rx
  rw [rx] at ev';cases ev'
 .obtain ⟨a',vs',ev',ha',ra'⟩:=rx
  have ry:v=.non:=ry
  rw [ry] at ev';cases ev'
 .split at e
  .rename_i xs ys hx hy
   obtain ⟨a,vs,ev,ha,ra⟩:=ycn w hx rx
   obtain ⟨a',vs',ev',ha',ra'⟩:=ycn w hy ry
   rw [ev] at ev'
   cases ev'
   rw [ha] at ha'
   cases ha'
   rw [if_pos (by rw [<- ra.len,<- ra'.len])] at e
   exact yoD hf ra ra' e
  .cases e
theorem yrq {W:Wd}(w:WOk K W):∀ (n:Nat) (x y:PV) (v:V) (b:Bool),eqP n W.h x y=some b->yfc K W x v->yfc K W y v->b=true\/Odd K.K W.H
 | 0,_,_,_,_,e,_,_=>by cases e
 | n+1,x,y,v,b,e,rx,ry=>by
  unfold eqP at e
  split at e
  .rename_i u u' hu hu'
   cases e
   rw [<- ylC hu rx,<- ylC hu' ry]
   exact .inl (yCt (by rw [ylC hu rx];exact yvo hu))
  .exact yxN w (yrq w n) e rx ry
theorem yoE {f:PV->PV->Option Bool}{W:Wd}{n:Nat}(hf:∀ x y v u b,f x y=some b->yfc K W x v->yfc K W y u->EqR K.K W.H n v u b):∀ {xs ys:List PV}{vs us:List V}{c:Bool},yfx K W xs vs->yfx K W ys us->ylI f xs ys=some c ->
  ∃ e:Nat->Bool,(∀ j v u,vs[j]?=some v->us[j]?=some u->EqR K.K W.H n v u (e j))/\c=(List.range (min vs.length us.length)).all e
 | [],_,_,_,c,h1,_,e=>by
  rw [show _=[] from h1]
  simp [ylI] at e
  exact ⟨fun _=>true,fun j v u hv=>by simp at hv,by simp [e]⟩
 | _::_,[],_,_,c,_,h2,e=>by
  rw [show _=[] from h2]
  simp [ylI] at e
  exact ⟨fun _=>true,fun j v u _ hu=>by simp at hu,by simp [e]⟩
 | x::xs,y::ys,_,_,c,⟨v,r,e1,h1,l1⟩,⟨u,q,e2,h2,l2⟩,e=>by
  subst e1 e2
  unfold ylI at e
  cases eb:f x y with
  | none=>rw [eb] at e;cases e
  | some b =>
   cases ec:ylI f xs ys with
   | none=>rw [eb,ec] at e;cases e
   | some c' =>
    rw [eb,ec] at e
    cases e
    obtain ⟨e',k1,k2⟩:=yoE hf l1 l2 ec
    refine ⟨fun j=>match j with|0=>b|j+1=>e' j,fun j v' u' hv hu=>?_,?_⟩
    .cases j with
     | zero =>
      simp at hv hu
      subst hv hu
      exact hf x y _ _ b eb h1 h2
     | succ j=>exact k1 j v' u' (by simpa using hv) (by simpa using hu)
    .rw [k2,List.length_cons,List.length_cons,show min (r.length+1) (q.length+1)=min r.length q.length+1 by omega,List.range_succ_eq_map,List.all_cons,List.all_map]
     rfl
theorem ywK {W:Wd}(w:WOk K W):∀ (n:Nat) (x y:PV) (v u:V) (b:Bool),eqP n W.h x y=some b->yfc K W x v->yfc K W y u->EqR K.K W.H n v u b
 | 0,_,_,_,_,_,e,_,_=>by cases e
 | n+1,x,y,v,u,b,e,rx,ry=>by
  have e0:=e
  unfold eqP at e
  split at e
  .rename_i v' u' hv hu
   cases e
   rw [ylC hv rx,ylC hu ry]
   exact .flat (yvo hv) (yvo hu)
  .unfold pairE at e
   split at e
   .rename_i xs ys _
    obtain ⟨a,vs,ev,ha,ra⟩:=rx
    obtain ⟨a',us,eu,ha',ra'⟩:=ry
    by_cases hab:a=a'
    .subst hab
     rcases yrq w (n+1) _ _ v b e0 ⟨a,vs,ev,ha,ra⟩ (by rw [ev,<- eu];exact ⟨a,us,eu,ha',ra'⟩) with this|z
     .rw [this,ev,eu]
      exact .same
     .exact .odd z
    .cases ec:ylI (eqP n W.h) xs ys with
     | none=>rw [ec] at e;cases e
     | some c =>
      rw [ec] at e
      cases e
      obtain ⟨e',k1,k2⟩:=yoE (ywK w n) ra ra' ec
      rw [ev,eu,k2,<- ra.len,<- ra'.len]
      exact .tup (yhc w ha) (yhc w ha') hab k1
   .obtain ⟨a',us,eu,ha',ra'⟩:=ry
    cases e
    rw [show v=.non from rx,eu]
    exact .nt (yhc w ha')
   .obtain ⟨a',us,eu,ha',ra'⟩:=rx
    cases e
    rw [show u=.non from ry,eu]
    exact .tn (yhc w ha')
   .split at e
    .rename_i xs ys hx hy
     obtain ⟨a,vs,ev,ha,ra⟩:=ycn w hx rx
     obtain ⟨a',us,eu,ha',ra'⟩:=ycn w hy ry
     by_cases hab:a=a'
     .subst hab
      rcases yrq w (n+1) _ _ v b e0 rx (by rw [ev,<- eu];exact ry) with this|z
      .rw [this,ev,eu]
       exact .same
      .exact .odd z
     .split at e
      .rename_i hl
       obtain ⟨e',k1,k2⟩:=yoE (ywK w n) ra ra' e
       have hl':vs.length=us.length:=by rw [ra.len,ra'.len,hl]
       rw [ev,eu,k2,<- hl',Nat.min_self]
       exact .lst ha ha' hl' hab k1
      .rename_i hl
       cases e
       rw [ev,eu]
       exact .lstN ha ha' (by rw [ra.len,ra'.len];exact hl)
    .cases e
def ywL:P2:=fun x y h=>match pairE (eqP 40 h) h x y with|some b=>some (.bl b,h)|none=>none
def yuE:P2:=fun x y h=>match pairE (eqP 40 h) h x y with|some b=>some (.bl (!b),h)|none=>none
theorem ywM {W:Wd}(w:WOk K W) {x y:PV}{v u:V}{b:Bool}(e:pairE (eqP 40 W.h) W.h x y=some b) (rx:yfc K W x v) (ry:yfc K W y u):RcR K.K W.H v u b:=by
 unfold pairE at e
 split at e
 .rename_i xs ys
  obtain ⟨a,vs,ev,ha,ra⟩:=rx
  obtain ⟨a',us,eu,ha',ra'⟩:=ry
  cases ec:ylI (eqP 40 W.h) xs ys with
  | none=>rw [ec] at e;cases e
  | some c =>
   rw [ec] at e
   cases e
   obtain ⟨e',k1,k2⟩:=yoE (ywK w 40) ra ra' ec
   rw [ev,eu,k2,<- ra.len,<- ra'.len]
   exact .tup (yhc w ha) (yhc w ha') k1
 .obtain ⟨a',us,eu,ha',ra'⟩:=ry
  cases e
  rw [show v=.non from rx,eu]
  exact .nt (yhc w ha')
 .obtain ⟨a',us,eu,ha',ra'⟩:=rx
  cases e
  rw [show u=.non from ry,eu]
  exact .tn (yhc w ha')
 .split at e
  .rename_i xs ys hx hy
   obtain ⟨a,vs,ev,ha,ra⟩:=ycn w hx rx
   obtain ⟨a',us,eu,ha',ra'⟩:=ycn w hy ry
   split at e
   .rename_i hl
    obtain ⟨e',k1,k2⟩:=yoE (ywK w 40) ra ra' e
    have hl':vs.length=us.length:=by rw [ra.len,ra'.len,hl]
    rw [ev,eu,k2,<- hl',Nat.min_self]
    exact .lst ha ha' hl' k1
   .rename_i hl
    cases e
    rw [ev,eu]
    exact .lstN ha ha' (by rw [ra.len,ra'.len];exact hl)
  .cases e
theorem yGp:ygt K (yMo K.K) ywL:=by
 intro W x y v u Q z h' w rx ry e q
 unfold ywL at e
 split at e
 .rename_i b hb
  cases e
  exact ⟨b,ywM w hb rx ry,q _ W rfl (.refl w) rfl⟩
 .cases e
theorem yGq:ygt K (yMp K.K) yuE:=by
 intro W x y v u Q z h' w rx ry e q
 unfold yuE at e
 split at e
 .rename_i b hb
  cases e
  exact ⟨b,ywM w hb rx ry,q _ W rfl (.refl w) rfl⟩
 .cases e
end PX
namespace PX
open PySem L2
variable {K:Ck}
noncomputable def yR (k:Nat) (m:Str) (f:Fn) (e:XE) (as:XA):XE:=fun ρ h=>ob (e ρ h) fun x h1=>match ykQ x h1 with
 | some (k',ns,_)=>if k'=k/\m∉ns then ob (as ρ h1) fun ys h2=>f (x::ys) h2 else none
 | none=>none
theorem ytp {k n:Nat}{m:Str}{f:Fn}{ex:XK}{ta:TE}{t:TA}{ea:XE}{as:XA}(a:ydx K ta ea) (b:yuD K t as) (hn:∀ ρ h xs h',as ρ h=some (xs,h')->xs.length=n) :
  ydx K (yFc (K.A k) m (spE K (n+1) f) [] ex ta t) (yR k m f ea as):=by
 intro W0 W ρ σ Q z h' g e q
 obtain ⟨x,h1,e1,f1⟩:=yo e
 refine a W0 W ρ σ _ x h1 g e1 fun v W1 w1 l1 r1=>?_
 subst w1
 split at f1
 .rename_i k' ns xs hi
  split at f1
  .rename_i hc
   obtain ⟨ys,h2,e2,f2⟩:=yo f1
   obtain ⟨p,dx,vs,ev,hp,hl,rs⟩:=yoB l1.ok hi r1
   rw [hc.1] at hp
   refine ⟨p,dx,_,ev,hp,yjH hc.2,?_⟩
   refine b W0 W1 ρ σ _ ys h2 (g.step l1) e2 fun us W2 w2 l2 r2=>?_
   subst w2
   rw [List.append_nil]
   exact ⟨W2,x::ys,z,h',rfl,l2.ok,⟨v,us,rfl,l2.rep r1,r2⟩,by rw [List.length_cons,hn _ _ _ _ e2],f2,fun u W3 w3 l3 r3=>q u W3 w3 ((l1.trans l2).trans l3) r3⟩
  .cases f1
 .cases f1
noncomputable def yzD (cs:List Nat) (f:Str) (eo ev:XE):XS:=fun ρ h=>ob (ev ρ h) fun y h1=>ob (eo ρ h1) fun x h2=>match x with
 | .loc n=>(match h2[n]? with|some (.ins k ns xs)=>if k∈cs/\ns.length<1000 then some (.nx ρ,h2.set n (.ins k (putN f y ns xs).1 (putN f y ns xs).2)) else none|_=>none)
 | _=>none
theorem yCv {cs:List Nat}{f:Str}{ta tv:TE}{ea ev:XE}(hc:∀ k∈cs,Cls K.K (K.A k)/\NoAttr K.K (K.A k) f) (a:ydx K ta ea) (c:ydx K tv ev):yms K (yKj K.K ta tv f) (yzD cs f ea ev):=by
 intro W0 W ρ σ D o h' g e q
 obtain ⟨y,h1,e1,f1⟩:=yo e
 obtain ⟨x,h2,e2,f2⟩:=yo f1
 refine c W0 W ρ σ _ y h1 g e1 fun vy W1 w1 l1 r1=>?_
 subst w1
 refine a W0 W1 ρ σ _ x h2 (g.step l1) e2 fun vx W2 w2 l2 r2=>?_
 subst w2
 have w:=l2.ok
 split at f2
 .rename_i n
  split at f2
  .rename_i k ns xs hn
   split at f2
   .rename_i hk
    cases f2
    obtain ⟨p,ep,hm,hf,dx,us,hp,hl,rs⟩:=w.loc hn r2
    obtain ⟨us',p1,p2,p3⟩:=rs.putN (f:=f) hl (l2.rep r1)
    refine ⟨p,_,dx,_,ep,hp,(hc k hk.1).1,(hc k hk.1).2,by rw [List.length_zip,hl];simpa using hk.2,?_⟩
    rw [p1]
    have l4:Le K W2 (yGh W2 n p (.ins (K.A k) dx ((putN f y ns xs).1.zip us')) (.ins k (putN f y ns xs).1 (putN f y ns xs).2)):=ymA w hn hm hf ⟨hf,dx,us',yX,p2,p3⟩
    have l:=l1.trans (l2.trans l4)
    exact q _ σ rfl l.lf (g.step l)
   .cases f2
  .cases f2
 .cases f2
end PX
namespace PX
open PySem L2
variable {K:Ck}
def yvq (r d:Addr):HO:=.ext fun h=>h.get? r=some { cls:=.type "dict_items",data:=.fields #[.ref d] }
noncomputable def yDT:V->List V->Hp->VK->Prop:=fun x vs H Q=>∃ d kvs,x=.ref d/\vs=[]/\H d=some (.dK kvs)/\∀ r,H r=none->Q (.ref r) (upd H r (yvq r d))
noncomputable def ywN (H:Hp) (as:List Addr) (ts:List (List V)):Hp:=fun b=>match (as.zip ts).lookup b with|some t=>some (.tup t)|none=>H b
def yJV (H:Hp) (p:Addr) (as:List Addr) (ts:List (List V)):Hp:=upd (ywN H as ts) p (.lst (as.map V.ref))
noncomputable def rSI:List V->Hp->VK->Prop:=fun xs H Q=>∃ (r d:Addr) (kvs:List (Key×V)) (ns:List Int),xs=[.ref r]/\H r=some (yvq r d)/\H d=some (.dK kvs)/\kvs.map (·.1)=ns.map .inl/\kvs.length<64 /\
 ∀ (p:Addr) (as:List Addr) (q:List Nat),q.Perm (List.range ns.length)->q.Pairwise (fun i j=>ns.getD i 0<=ns.getD j 0)->ns.Nodup->as.length=q.length->(∀ a∈p::as,H a=none)->(p::as).Nodup ->
  Q (.ref p) (yJV H p as (q.map fun i=>[V.int (ns.getD i 0),(kvs.map (·.2)).getD i .non]))
def yHg (p:Int×PV):List (Int×PV)->List (Int×PV)
 | []=>[p]
 | q::r=>if p.1<=q.1 then p::q::r else q::yHg p r
def yrr:List (Int×PV)->List (Int×PV)
 | []=>[]
 | p::r=>yHg p (yrr r)
def yxO:List Key->Option (List Int)
 | []=>some []
 | .inl i::r=>(yxO r).map (i::·)
 | .inr _::_=>none
theorem yrs:∀ {ks:List Key}{ns:List Int},yxO ks=some ns->ks=ns.map .inl
 | [],ns,h=>by cases h;rfl
 | .inl i::r,ns,h=>by
  obtain ⟨m,e,rfl⟩:=Option.map_eq_some_iff.mp h
  rw [List.map_cons,<- yrs e]
 | .inr _::_,_,h=>by cases h
theorem yoF (p:Int×PV):∀ l,(yHg p l).Perm (p::l)
 | []=>.refl _
 | q::r=>by
  unfold yHg
  split
  .exact .refl _
  .exact ((yoF p r).cons q).trans (.swap _ _ _)
theorem yfC:∀ l,(yrr l).Perm l
 | []=>.refl _
 | p::r=>(yoF p _).trans ((yfC r).cons p)
theorem yzE {p:Int×PV}:∀ {l:List (Int×PV)},l.Pairwise (fun a b=>a.1<=b.1)->(yHg p l).Pairwise (fun a b=>a.1<=b.1)
 | [],_=>List.pairwise_singleton _ _
 | q::r,h=>by
  obtain ⟨h1,h2⟩:=List.pairwise_cons.mp h
  unfold yHg
  split
  .rename_i hc
   exact List.pairwise_cons.mpr ⟨fun b hb=>by
    rcases List.mem_cons.mp hb with rfl|hb
    .exact hc
    .exact Int.le_trans hc (h1 b hb),h⟩
  .rename_i hc
   refine List.pairwise_cons.mpr ⟨fun b hb=>?_,yzE h2⟩
   rcases List.mem_cons.mp ((yoF p r).mem_iff.mp hb) with rfl|hb
   .omega
   .exact h1 b hb
theorem yoj:∀ l,(yrr l).Pairwise (fun a b=>a.1<=b.1)
 | []=>.nil
 | _::r=>yzE (yoj r)
theorem yCw {ns:List Int}{xs:List PV}{q:List Nat}(hl:xs.length=ns.length) (hp:q.Perm (List.range ns.length)) (hs:q.Pairwise fun i j=>ns.getD i 0<=ns.getD j 0) (nd:ns.Nodup) :
  (q.map fun i=>(ns.getD i 0,xs.getD i .non))=yrr (ns.zip xs):=by
 have hz:((List.range ns.length).map fun i=>(ns.getD i 0,xs.getD i .non))=ns.zip xs:=by
  apply List.ext_getElem
  .simp [hl]
  .intro i h1 h2
   have h3:i<ns.length:=by simpa using h1
   simp [List.getD,List.getElem?_eq_getElem h3,List.getElem?_eq_getElem (show i<xs.length by omega)]
 have hm:(q.map fun i=>(ns.getD i 0,xs.getD i .non)).Perm (ns.zip xs):=by rw [<- hz];exact hp.map _
 have hk:(ns.zip xs).map (·.1)=ns:=List.map_fst_zip (by omega)
 refine List.Perm.eq_of_pairwise (le:=fun a b=>a.1<=b.1) (fun a b ha hb h1 h2=>?_) (List.pairwise_map.mpr hs) (yoj _) (hm.trans (yfC _).symm)
 have ha:=hm.mem_iff.mp ha
 have hb:=(yfC _).mem_iff.mp hb
 obtain ⟨i,hi,rfl⟩:=List.getElem_of_mem ha
 obtain ⟨j,hj,rfl⟩:=List.getElem_of_mem hb
 have hi':i<ns.length:=by rw [List.length_zip] at hi;omega
 have hj':j<ns.length:=by rw [List.length_zip] at hj;omega
 have e:ns[i]=ns[j]:=by
  have:((ns.zip xs)[i]).1=((ns.zip xs)[j]).1:=Int.le_antisymm h1 h2
  simpa using this
 have:=ywF nd hi' hj' e
 subst this
 rfl
def yMq (W:Wd) (as:List Addr) (ts:List (List V)):Wd:=⟨ywN W.F as ts,ywN W.H as ts,W.m,W.h⟩
theorem lookup_mem {α:Type}:∀ {as:List Addr}{ts:List α}{b:Addr}{t:α},(as.zip ts).lookup b=some t->b∈as
 | [],_,_,_,h=>by simp at h
 | _::_,[],_,_,h=>by simp at h
 | a::as,u::ts,b,t,h=>by
  rw [List.zip_cons_cons,List.lookup_cons] at h
  split at h
  .rename_i hb;rw [eq_of_beq hb];exact List.mem_cons_self
  .exact List.mem_cons_of_mem _ (lookup_mem h)
theorem ymD {H:Hp}{as:List Addr}{ts:List (List V)}{b:Addr}(h:b∉as):ywN H as ts b=H b:=by
 unfold ywN
 split
 .rename_i e;exact absurd (lookup_mem e) h
 .rfl
theorem yGr {W:Wd}{as:List Addr}{ts:List (List V)}(w:WOk K W) (h:∀ a∈as,W.H a=none):Le K W (yMq W as ts):=by
 have nm:∀ a∈as,a∉W.m:=fun a ha=>w.out (h a ha)
 have sF:Same W.F (ywN W.F as ts):=fun b o e=>by
  rw [ymD fun z=>by rw [w.ff (h b z)] at e;cases e];exact e
 have sH:Same W.H (ywN W.H as ts):=fun b o e=>by
  rw [ymD fun z=>by rw [h b z] at e;cases e];exact e
 refine ⟨⟨?_,w.len,w.nd,fun n d a e1 e2=>?_⟩,sF,List.prefix_refl _,fun b u e _=>sH b u e,fun b u e _ f=>?_,fun b z n=>absurd z n,fun n ks xs e1=>⟨e1,fun a e2=>ymD fun z=>nm a z (List.mem_of_getElem? e2)⟩⟩
 .intro b u e
  have e:ywN W.F as ts b=some u:=e
  show ywN W.H as ts b=some u
  unfold ywN at e ⊢
  split at e
  .exact e
  .exact w.le _ _ e
 .have ha:a∉as:=fun z=>nm a z (List.mem_of_getElem? e2)
  exact (w.at_ n d a e1 e2).mono sF (List.prefix_refl _) (fun u e=>sH _ _ e) fun f=>(ymD ha).trans f
 .exact (ymD fun z=>by rw [h b z] at e;cases e).trans f
theorem ytq {F:Hp}{m:List Addr}{Y:Nat->PV}{T:Nat->List V}{Z:Nat->List PV}(hY:∀ i,Y i=.tup (Z i)):∀ (as:List Addr) (q:List Nat),as.length=q.length->as.Nodup->(∀ a∈as,∀ i,i∈q->(as.zip (q.map T)).lookup a=some (T i)->F a=some (.tup (T i))) ->
  (∀ i∈q,RepL K F m (Z i) (T i))->RepL K F m (q.map Y) (as.map V.ref)
 | [],[],_,_,_,_=>rfl
 | [],_::_,h,_,_,_=>by cases h
 | _::_,[],h,_,_,_=>by cases h
 | a::as,i::q,hl,hn,hF,hR=>by
  obtain ⟨n1,n2⟩:=List.nodup_cons.mp hn
  refine ⟨.ref a,_,rfl,?_,ytq hY as q (by simpa using hl) n2 (fun b hb j hj e=>?_) fun j hj=>hR j (List.mem_cons_of_mem _ hj)⟩
  .rw [hY]
   exact ⟨a,T i,rfl,.inl (hF a List.mem_cons_self i List.mem_cons_self (by simp)),hR i List.mem_cons_self⟩
  .refine hF b (List.mem_cons_of_mem _ hb) j (List.mem_cons_of_mem _ hj) ?_
   rw [List.map_cons,List.zip_cons_cons,List.lookup_cons]
   have:(b == a)=false:=beq_eq_false_iff_ne.mpr fun z=>n1 (z ▸ hb)
   rw [this]
   exact e
noncomputable def sortI (ks:List Key) (xs:List PV):Option (List PV):=match yxO ks with|some ns=>if ns.length<64 then some ((yrr (ns.zip xs)).map fun p=>.tup [.int p.1,p.2]) else none|none=>none
noncomputable def yoG (e:XE):XO:=fun ρ h=>ob (e ρ h) fun x h1=>match ynI x h1 with|some (ks,xs)=>(match sortI ks xs with|some l=>some (.lst l,h1)|none=>none)|none=>none
theorem yDU {W:Wd}{x:PV}{v:V}{ks:List Key}{xs:List PV}(w:WOk K W) (e:ynI x W.h=some (ks,xs)) (r:yfc K W x v):tyV K.K "dict" v W.H:=by
 obtain ⟨a,vs,rfl,hp,_⟩:=ylF w e r
 exact .inr (.inr (.inl ⟨rfl,.inl ⟨_,hp⟩⟩))
theorem yzF {ta:TE}{ea:XE}(a:ydx K ta ea):yww K (tCB rSI (yyI (yKp K.K "dict" yDT ta) yFb)) (yoG ea):=by
 intro W0 W ρ σ Q z h' g e q
 obtain ⟨x,h1,e1,f1⟩:=yo e
 refine a W0 W ρ σ _ x h1 g e1 fun v W1 w1 l1 r1=>?_
 subst w1
 split at f1
 .rename_i ks xs hd
  split at f1
  .rename_i l hl
   cases f1
   refine ⟨yDU l1.ok hd r1,?_⟩
   obtain ⟨d,vs,ev,hp,hvl,rs⟩:=ylF l1.ok hd r1
   subst ev
   refine ⟨d,_,rfl,rfl,hp,fun r hr=>?_⟩
   unfold sortI at hl
   split at hl
   .rename_i ns hk
    split at hl
    .rename_i h64
     cases hl
     have hk:=yrs hk
     have l2:=ygu (o:=yvq r d) l1.ok hr
     have hnl:ks.length=ns.length:=by rw [hk,List.length_map]
     have hxl:xs.length=ns.length:=by rw [<- rs.len];omega
     show rSI [.ref r] (upd W1.H r (yvq r d)) Q
     refine ⟨r,d,ks.zip vs,ns,rfl,yX,(ybe (ycx hp hr)).trans hp,by rw [List.map_fst_zip (by omega),hk],by rw [List.length_zip];omega,fun p as o hperm hs nd hal hfree hnd=>?_⟩
     rw [List.map_snd_zip (by omega)]
     generalize hW2:ypT W1 r (yvq r d)=W2 at l2
     have hH2:W2.H=upd W1.H r (yvq r d):=by rw [<- hW2];rfl
     rw [<- hH2] at hfree ⊢
     have l3:=yGr (ts:=o.map fun i=>[V.int (ns.getD i 0),vs.getD i .non]) l2.ok fun a ha=>hfree a (List.mem_cons_of_mem _ ha)
     obtain ⟨n1,n2⟩:=List.nodup_cons.mp hnd
     have hp3:(yMq W2 as (o.map fun i=>[V.int (ns.getD i 0),vs.getD i .non])).H p=none:=(ymD n1).trans (hfree p List.mem_cons_self)
     have l4:=ygu (o:=.lst (as.map V.ref)) l3.ok hp3
     have l:=l2.trans (l3.trans l4)
     have inq:∀ i∈o,i<ns.length:=fun i hi=>by have:=hperm.mem_iff.mp hi;simpa using this
     refine q p _ (by rw [<- hW2];rfl) (l1.trans l) (l3.ok.out hp3) ((l1.trans l2).fresh (hfree p List.mem_cons_self)) (fun z=>by cases z) ⟨l3.ok.ff hp3,_,yX,?_⟩
     rw [<- yCw hxl hperm hs nd,List.map_map]
     refine ytq (T:=fun i=>[V.int (ns.getD i 0),vs.getD i .non]) (Z:=fun i=>[.int (ns.getD i 0),xs.getD i .non]) (fun i=>rfl) as o hal n2 (fun a ha i hi e=>?_) fun i hi=>⟨_,_,rfl,rfl,_,_,rfl,?_,rfl⟩
     .show ywN W2.F as _ a=_
      unfold ywN
      rw [e]
     .have hi':=inq i hi
      obtain ⟨u,h3,h4⟩:=(l2.trans (l3.trans l4)).repL rs |>.get (List.getElem?_eq_getElem (show i<xs.length by omega))
      have e5:xs.getD i .non=xs[i]'(by omega):=by simp [List.getD,List.getElem?_eq_getElem (show i<xs.length by omega)]
      have e6:vs.getD i .non=u:=by simp [List.getD,h3]
      rw [e5,e6]
      exact h4
    .cases hl
   .cases hl
  .cases f1
 .cases f1
end PX
namespace PX
open PySem L2
variable {K:Ck}
noncomputable def ItR (K:PySem.W.Frag) (a:Addr) (m:Nat):It :=
 ⟨fun i H=>i<m/\∃ xs x,SqL K H a xs/\xs[m-1-i]?=some x,fun i H x H'=>H'=H/\∀ xs,SqL K H a xs->xs[m-1-i]?=some x,fun i _=>i=m⟩
noncomputable def yMr (K:PySem.W.Frag) (tl:TE):TI:=fun σ H R=>tl σ H fun x H1=>∃ a xs,x=.ref a/\SqL K H1 a xs/\R (ItR K a xs.length) H1
noncomputable def yzG (n:Nat) (rev:Bool) (g:XG) (s:XS):Nat->Nat->PSt->AH->Option (Out×AH)
 | 0,i,ρ,h=>match h[n]? with|some (.lst xs)=>if xs.length=i then some (.nx ρ,h) else none|_=>none
 | k+1,i,ρ,h=>match h[n]? with
  | some (.lst xs)=>(match xs[if rev then k else i]? with
   | some x=>(g x ρ).bind fun ρ1=>ob (s ρ1 h) fun o h1=>match o with|.nx ρ'=>yzG n rev g s k (i+1) ρ' h1|.ct ρ'=>yzG n rev g s k (i+1) ρ' h1|.bk ρ'=>some (.nx ρ',h1)|.rt y=>some (.rt y,h1)
   | none=>none)
  | _=>none
noncomputable def yCx (rev:Bool) (e:XE) (g:XG) (s:XS):XS:=fun ρ h=>ob (e ρ h) fun x h1=>match x with
 | .loc n=>(match h1[n]? with|some (.lst xs)=>yzG n rev g s xs.length 0 ρ h1|_=>none)
 | _=>none
structure ItX (K:Ck) (n:Nat) (rev:Bool) (m:Nat) (a:Addr) (J:It):Prop where
 go:∀ (i:Nat) (H:Hp) (vs:List V) (v:V),H a=some (.lst vs)->i<m->vs[if rev then m-1-i else i]?=some v->J.go i H
 yld:∀ (i:Nat) (H:Hp) (vs:List V) (v:V) (H2:Hp),H a=some (.lst vs)->i<m->J.yld i H v H2->H2=H/\vs[if rev then m-1-i else i]?=some v
 stop:∀ (H:Hp) (vs:List V),H a=some (.lst vs)->vs.length=m->J.stop m H
section
variable {ta:TE}{ea:XE}{t:TS}{s:XS}
theorem yzH {n:Nat}{xs:List PV}{p:Addr}{us:List V}{J:It}{rev:Bool}{g:TG}{y:XG}(b:yBR K g y) (c:yms K t s) {W0 W W1:Wd}{ρ:PSt}{σ:St}{D:Ends}{o:Out}{h':AH}(gd:Good K W0 W ρ σ) (l1:Le K W W1) (q:Ends.Ok K W0 W D h' o)
  (f1:yzG n rev y s xs.length 0 ρ W1.h=some (o,h')) (hn:W1.h[n]?=some (.lst xs)) (hm:W1.m[n]?=some p) (rs:yfx K W1 xs us) (J1:ItX K n rev us.length p J) :
  ∃ Z:Nat->Nat->St->Hp->Prop,(∃ m,Z 0 m σ W1.H)/\∀ i m σ H,Z i m σ H ->
   (J.stop i H/\D.nx σ H)\/(J.go i H/\∃ N:St->Hp->Prop,(∀ σ' H',N σ' H'->∃ m',m'<m/\Z (i+1) m' σ' H')/\∀ x H',J.yld i H x H'->g x σ H' fun σ2 H2=>t { D with nx:=N,ct:=N,bk:=D.nx } σ2 H2):=by
   have q1:=q.from_ l1.lf
   have hul:us.length=xs.length:=rs.len
   rw [hul] at J1
   refine ⟨fun i m σ H=>m=xs.length-i/\i<=xs.length/\∃ W' ρ',W'.H=H/\Lf K W1 W'/\Good K W0 W' ρ' σ/\yzG n rev y s (xs.length-i) i ρ' W'.h=some (o,h'),⟨_,rfl,Nat.zero_le _,W1,ρ,rfl,.refl,gd.step l1,f1⟩,?_⟩
   rintro i m σ _ ⟨rfl,hi,W',ρ',rfl,l,g',f⟩
   have hm':W'.m[n]?=some p:=ymw l.pre hm
   by_cases hlt:i<xs.length
   .obtain ⟨k,hk⟩:∃ k,xs.length-i=k+1:=⟨xs.length-i-1,by omega⟩
    rw [hk] at f
    unfold yzG at f
    split at f
    .rename_i ys hy
     split at f
     .rename_i z hz
      obtain ⟨p',ev',hm2,hf',vs,hp',rs'⟩:=g'.ok.loc hy (v:=.ref p) ⟨p,rfl,hm'⟩
      cases ev'
      have hix:(if rev=true then xs.length-1-i else i)=(if rev=true then k else i):=by rw [show xs.length-1-i=k by omega]
      obtain ⟨vz,hv1,hv2⟩:=rs'.get hz
      obtain ⟨ρ1,k1,f⟩:=Option.bind_eq_some_iff.mp f
      obtain ⟨o1,h2,k2,f3⟩:=yo f
      refine .inr ⟨J1.go i W'.H vs vz hp' hlt (by rw [hix];exact hv1),fun σ2 H2=>i+1<=xs.length/\∃ W2 ρ2,W2.H=H2/\Lf K W1 W2/\Good K W0 W2 ρ2 σ2/\yzG n rev y s (xs.length-(i+1)) (i+1) ρ2 W2.h=some (o,h'),fun σ2 H2 ⟨n1,n2⟩=>⟨xs.length-(i+1),by omega,rfl,n1,n2⟩,fun v H2 hy=>?_⟩
      obtain ⟨rfl,hx⟩:=J1.yld i W'.H vs v H2 hp' hlt hy
      rw [hix,hv1] at hx
      cases hx
      have ek:xs.length-(i+1)=k:=by omega
      refine b W0 W' ρ' ρ1 σ _ vz _ g' hv2 k1 fun σ2 g2=>?_
      refine c W0 W' ρ1 σ2 _ o1 h2 g2 k2 ?_
      cases o1 with
      | nx ρ2=>exact fun W2 σ3 w2 l2 g3=>⟨hlt,W2,ρ2,rfl,l.trans l2,g3,by rw [w2,ek];exact f3⟩
      | ct ρ2=>exact fun W2 σ3 w2 l2 g3=>⟨hlt,W2,ρ2,rfl,l.trans l2,g3,by rw [w2,ek];exact f3⟩
      | bk ρ2=>cases f3;exact fun W2 σ3 w2 l2 g3=>q1 W2 σ3 w2 (l.trans l2) g3
      | rt x=>cases f3;exact q1
     .cases f
    .cases f
   .have ei:i=xs.length:=by omega
    subst ei
    rw [Nat.sub_self] at f
    unfold yzG at f
    split at f
    .rename_i ys hy
     obtain ⟨p',ev',hm2,hf',vs,hp',rs'⟩:=g'.ok.loc hy (v:=.ref p) ⟨p,rfl,hm'⟩
     cases ev'
     split at f
     .rename_i hyl
      cases f
      exact .inl ⟨J1.stop W'.H vs hp' (by rw [rs'.len,hyl]),q1 W' σ rfl l g'⟩
     .cases f
    .cases f
theorem yLw {n m:Nat}{a:Addr}:ItX K n true m a (ItR K.K a m) where
 go:=fun i H vs v h hi e=>⟨hi,vs,v,SqL.of h,e⟩
 yld:=fun i H vs v H2 h _ e=>⟨e.1,e.2 vs (SqL.of h)⟩
 stop:=fun H vs h e=>rfl
theorem yCy {g:TG}{y:XG}(a:ydx K ta ea) (b:yBR K g y) (c:yms K t s):yms K (yKf (yMr K.K ta) g t) (yCx true ea y s):=by
 intro W0 W ρ σ D o h' gd e q
 obtain ⟨x,h1,e1,f1⟩:=yo e
 refine a W0 W ρ σ _ x h1 gd e1 fun v W1 w1 l1 r1=>?_
 subst w1
 split at f1
 .rename_i n
  split at f1
  .rename_i xs hn
   obtain ⟨p,ev,hm,hf,us,hp,rs⟩:=l1.ok.loc hn r1
   exact ⟨p,us,ev,SqL.of hp,yzH b c gd l1 q f1 hn hm rs yLw⟩
  .cases f1
 .cases f1
end
end PX
namespace PX
open PySem L2
variable {K:Ck}
def yLx (kvs more:List (Key×V)):List (Key×V):=more.foldl (fun acc kv=>putK acc kv.1 kv.2) kvs
noncomputable def yMs:V->List V->Hp->VK->Prop:=fun x vs H Q=>∃ d o kvs more,x=.ref d/\vs=[.ref o]/\d≠o/\H d=some (.dK kvs)/\H o=some (.dK more)/\kvs.length+more.length<=sizeLine/\Q .non (upd H d (.dK (yLx kvs more)))
noncomputable def ytr:List Key->List PV->List Key->List PV->List Key×List PV
 | j::js,y::ys,ks,xs=>ytr js ys (yep ks xs j y).1 (yep ks xs j y).2
 | _,_,ks,xs=>(ks,xs)
def yxP:PV->AH->Bool:=fun x h=>(ynI x h).isSome
theorem yCz {W:Wd}{x:PV}{v:V}(w:WOk K W) (r:yfc K W x v) (c:yxP x W.h=true):tyV K.K "dict" v W.H:=by
 obtain ⟨⟨ks,xs⟩,hd⟩:=Option.isSome_iff_exists.mp c
 exact yDU w hd r
theorem yzI {F:Hp}{m:List Addr}:∀ {js:List Key}{ys:List PV}{us:List V}{ks:List Key}{xs:List PV}{vs:List V},RepL K F m ys us->us.length=js.length->RepL K F m xs vs->vs.length=ks.length ->
  ∃ ws,yLx (ks.zip vs) (js.zip us)=(ytr js ys ks xs).1.zip ws/\ws.length=(ytr js ys ks xs).1.length/\RepL K F m (ytr js ys ks xs).2 ws
 | [],ys,us,ks,xs,vs,r,hl,r2,hl2=>by
  obtain rfl:us=[]:=List.length_eq_zero_iff.mp (by simpa using hl)
  cases ys with
  | cons y ys=>obtain ⟨v,r',e,_⟩:=r;cases e
  | nil=>exact ⟨vs,rfl,hl2,r2⟩
 | j::js,[],us,ks,xs,vs,r,hl,r2,hl2=>by
  obtain rfl:us=[]:=r
  cases hl
 | j::js,y::ys,_,ks,xs,vs,⟨u,us,e,ru,rr⟩,hl,r2,hl2=>by
  subst e
  have key:∃ ws,putK (ks.zip vs) j u=(yep ks xs j y).1.zip ws/\ws.length=(yep ks xs j y).1.length/\RepL K F m (yep ks xs j y).2 ws:=by
   have hput:=ywI j u ks vs hl2
   unfold yep
   by_cases hj:yqJ ks j=true
   .rw [if_pos hj] at hput ⊢
    exact ⟨_,hput,by rw [yrm];exact hl2,r2.setK ks j ru⟩
   .rw [if_neg hj] at hput ⊢
    exact ⟨_,hput,by rw [List.length_append,List.length_append,hl2];rfl,r2.snoc ru⟩
  obtain ⟨ws,p1,p2,p3⟩:=key
  have ih:=yzI (js:=js) rr (by simpa using hl) p3 p2
  show ∃ ws,yLx (putK (ks.zip vs) j u) (js.zip us)=_/\_
  rw [p1]
  exact ih
noncomputable def yHh:PM:=fun x ys h=>match x,ys with|.loc n,[.loc k]=>(match h[n]?,h[k]? with|some (.dct ks xs),some (.dct js zs)=>if n≠k/\ks.length+js.length<1000 then some (.non,h.set n (.dct (ytr js zs ks xs).1 (ytr js zs ks xs).2)) else none|_,_=>none)|_,_=>none
theorem yLy:yth K "dict" yxP yMs yHh:=by
 refine ⟨fun W x v w r c=>yCz w r c,fun W x v xs vs Q z h' w rx r e q=>?_⟩
 unfold yHh at e
 split at e
 .rename_i n k
  split at e
  .rename_i ks xs js zs hn hk
   split at e
   .rename_i hc
    cases e
    obtain ⟨u,rfl,ru⟩:=yxE r
    obtain ⟨a,ev,hm,hf,us,hp,hl,rs⟩:=w.loc hn rx
    obtain ⟨b,ev2,hm2,hf2,us2,hp2,hl2,rs2⟩:=w.loc hk ru
    have hne:a≠b:=fun z=>by
     subst z
     obtain ⟨l1,q1⟩:=List.getElem?_eq_some_iff.mp hm
     obtain ⟨l2,q2⟩:=List.getElem?_eq_some_iff.mp hm2
     exact hc.1 (ywF w.nd l1 l2 (q1.trans q2.symm))
    obtain ⟨ws,p1,p2,p3⟩:=yzI rs2 hl2 rs hl
    refine ⟨a,b,_,_,ev,by rw [ev2],hne,hp,hp2,by rw [List.length_zip,List.length_zip];exact small (by omega),?_⟩
    rw [p1]
    exact q .non (yGh W n a (.dK ((ytr js zs ks xs).1.zip ws)) (.dct (ytr js zs ks xs).1 (ytr js zs ks xs).2)) rfl (ymA w hn hm hf ⟨hf,_,yX,p2,p3⟩) rfl
   .cases e
  .cases e
 .cases e
end PX
namespace PX
open PySem L2
variable {K:Ck}
end PX
namespace PX
open PySem L2
variable {K:Ck}
noncomputable def rSK:List V->Hp->VK->Prop:=fun xs H Q=>∃ (d:Addr) (kvs:List (Key×V)) (ns:List Int),xs=[.ref d]/\H d=some (.dK kvs)/\kvs.map (·.1)=ns.map .inl/\kvs.length<64 /\
 ∀ (p:Addr) (ms:List Int),ms.Perm ns->ms.Pairwise (· <= ·)->H p=none->Q (.ref p) (upd H p (.lst (ms.map V.int)))
def insI (a:Int):List Int->List Int
 | []=>[a]
 | b::r=>if a<=b then a::b::r else b::insI a r
def yoH:List Int->List Int
 | []=>[]
 | a::r=>insI a (yoH r)
theorem insI_perm (p:Int):∀ l,(insI p l).Perm (p::l)
 | []=>.refl _
 | q::r=>by
  unfold insI
  split
  .exact .refl _
  .exact ((insI_perm p r).cons q).trans (.swap _ _ _)
theorem ymE:∀ l,(yoH l).Perm l
 | []=>.refl _
 | p::r=>(insI_perm p _).trans ((ymE r).cons p)
theorem yzJ {p:Int}:∀ {l:List Int},l.Pairwise (· <= ·)->(insI p l).Pairwise (· <= ·)
 | [],_=>List.pairwise_singleton _ _
 | q::r,h=>by
  obtain ⟨h1,h2⟩:=List.pairwise_cons.mp h
  unfold insI
  split
  .rename_i hc
   exact List.pairwise_cons.mpr ⟨fun b hb=>by
    rcases List.mem_cons.mp hb with rfl|hb
    .exact hc
    .exact Int.le_trans hc (h1 b hb),h⟩
  .rename_i hc
   refine List.pairwise_cons.mpr ⟨fun b hb=>?_,yzJ h2⟩
   rcases List.mem_cons.mp ((insI_perm p r).mem_iff.mp hb) with rfl|hb
   .omega
   .exact h1 b hb
theorem ywO:∀ l,(yoH l).Pairwise (· <= ·)
 | []=>.nil
 | _::r=>yzJ (ywO r)
theorem ywP {ms ns:List Int}(hp:ms.Perm ns) (hs:ms.Pairwise (· <= ·)):ms=yoH ns :=
 List.Perm.eq_of_pairwise (le:=(· <= ·)) (fun a b _ _ h1 h2=>Int.le_antisymm h1 h2) hs (ywO _) (hp.trans (ymE _).symm)
noncomputable def yqL:List PV->AH->Option (Nd×AH):=fun xs h=>match xs with
 | [x]=>(match ynI x h with|some (ks,_)=>(match yxO ks with|some ns=>if ns.length<64 then some (.lst ((yoH ns).map .int),h) else none|none=>none)|none=>none)
 | _=>none
theorem yGs:ytg K rSK yqL:=by
 intro W xs vs Q d h' w r e q
 unfold yqL at e
 split at e
 .rename_i x
  obtain ⟨u,rfl,ru⟩:=yxE r
  split at e
  .rename_i ks ys hd
   split at e
   .rename_i ns hk
    split at e
    .rename_i h64
     cases e
     obtain ⟨a,us,ev,hp,hl,rs⟩:=ylF w hd ru
     subst ev
     have hk:=yrs hk
     refine ⟨a,ks.zip us,ns,rfl,hp,by rw [List.map_fst_zip (by omega),hk],by rw [List.length_zip,hk,List.length_map];omega,fun p ms h1 h2 hn=>?_⟩
     rw [ywP h1 h2]
     have l:=ygu (o:=.lst ((yoH ns).map V.int)) w hn
     exact q p (ypT W p _) rfl l (w.out hn) hn (fun z=>by cases z) ⟨w.ff hn,_,yX,RepL.of_ints _⟩
    .cases e
   .cases e
  .cases e
 .cases e
end PX
namespace PX
open PySem L2
variable {K:Ck}
section
variable {ta:TE}{ea:XE}{t:TS}{s:XS}
end
end PX
namespace PX
open PySem L2
variable {K:Ck}
noncomputable def spJ (K:Ck) (n k:Nat) (f:List PV->AH->Option (Nd×AH)):Sp:=fun vs H Q _=>∃ (W0 W:Wd) (x:Addr) (args:List V) (xs:List PV) (d:Nd) (h':AH),vs=.ref x::args/\W.H=H/\Le K W0 W/\W0.H x=none/\x∉W.m/\NdAt K W.F W.H W.m (.ins k [] []) x /\
 yfx K W xs args/\xs.length=n/\f xs W.h=some (d,h')/\∀ W',W'.h=h'->Lf K W W'->Le K W0 W'->x∉W'.m->d≠.dead->NdAt K W'.F W'.H W'.m d x->Q .non W'.H
theorem yGt {n k:Nat}{f} {vs:List V}{H:Hp}{Q:VK}{E:XK}(h:spJ K n k f vs H Q E):vs.length=n+1:=by
 obtain ⟨W0,W,x,args,xs,d,h',rfl,_,_,_,_,_,r,hn,_⟩:=h
 rw [List.length_cons,r.len,hn]
theorem yzK {N:List Str}{n k:Nat}{t:TS}{s:XS}{vs:List V}{H:Hp}{Q:VK}{E:XK}{bk ct:St->Hp->Prop}(hN:n+1<=N.length) (a:yBi K t s) (h:spJ K n k (ytk N.length k s) vs H Q E):t ⟨fun _ H'=>Q .non H',Q,bk,ct⟩ (L2.start N vs) H:=by
 obtain ⟨W0,W,x,args,xs,d,h',rfl,rfl,le,hx,hm,at_,r,hn,e,q⟩:=h
 obtain ⟨o,h1,e1,f1⟩:=yo e
 have gs:=ymz (K:=K) (N:=N.drop 1) le.ok r
 have g:Good K W0 W (.own (.ins k [] [])::(xs.map .val++List.replicate (N.length-(xs.length+1)) .no)) (L2.start N (.ref x::args)):=by
  have es:L2.start N (.ref x::args)=some (.ref x)::L2.start (N.drop 1) args:=by
   have e3:N.length-(args.length+1)=(N.drop 1).length-args.length:=by rw [List.length_drop];omega
   unfold L2.start
   rw [List.map_cons,List.cons_append,List.length_cons,e3]
  have eN:N.length-(xs.length+1)=(N.drop 1).length-xs.length:=by rw [List.length_drop];omega
  rw [es,eN]
  have noown:∀ (j:Nat) (d:Nd),(xs.map PVar.val++List.replicate ((N.drop 1).length-xs.length) .no)[j]?≠some (.own d):=fun j d z=>by
   by_cases hj:j<xs.length
   .rw [List.getElem?_append_left (by simpa using hj),List.getElem?_map,List.getElem?_eq_getElem hj] at z
    cases z
   .rw [List.getElem?_append_right (by simp;omega),List.getElem?_replicate] at z
    split at z<;>cases z
  refine ⟨le,by rw [List.length_cons,List.length_cons,gs.len],fun j y z=>?_,fun j d z=>?_,fun i j d d' hij z z'=>?_⟩
  .cases j with
   | zero=>cases z
   | succ j=>exact gs.val j y z
  .cases j with
   | zero=>cases z;exact ⟨x,rfl,hm,hx,(fun z=>by cases z),at_⟩
   | succ j=>exact absurd z (noown j d)
  .cases i with
   | zero =>
    cases j with
    | zero=>exact absurd rfl hij
    | succ j=>exact absurd z' (noown j d')
   | succ i=>exact absurd z (noown i d)
 cases o with
 | rt y=>cases f1
 | bk ρ=>cases f1
 | ct ρ=>cases f1
 | nx ρ =>
  refine a W0 W _ ρ _ _ h1 g e1 fun W' ew lf g'=>?_
  dsimp only at f1
  split at f1
  .rename_i d' hd'
   cases f1
   obtain ⟨p,b1,b2,b3,b4,b5⟩:=g'.own 0 _ hd'
   have b1:some (some (V.ref x))=some (some (V.ref p)):=b1
   cases b1
   exact q W' ew lf g'.le b2 b4 b5
  .cases f1
def yDV:PVar->Bool|.own _=>false|_=>true
noncomputable def xBI (k:Nat) (f:List PV->AH->Option (Nd×AH)) (a:XA):XS:=fun ρ h=>match ρ with
 | .own (.ins k' [] [])::r=>if k'=k/\r.all yDV=true then ob (a ρ h) fun xs h1=>ob (f xs h1) fun d h2=>(match d with|.dead=>none|d=>some (.nx (.own d::r),h2)) else none
 | _=>none
theorem yGu {n k:Nat}{f} {E:XK}{t:TA}{aa:XA}(a:yuD K t aa) (hn:∀ ρ h xs h',aa ρ h=some (xs,h')->xs.length=n):yBi K (yBp (yBw (spJ K n k f) [] E (yyI (yDm 0) t))) (xBI k f aa):=by
 intro W0 W ρ ρ' σ D h' g e q
 unfold xBI at e
 split at e
 .rename_i k' r
  split at e
  .rename_i c
   obtain ⟨rfl,hr⟩:=c
   obtain ⟨xs,h1,e1,f1⟩:=yo e
   obtain ⟨d,h2,e2,f2⟩:=yo f1
   have nodead:d≠.dead:=fun z=>by subst z;cases f2
   have f2:some (Out.nx (.own d::r),h2)=some (.nx ρ',h'):=by
    cases d<;>first|exact f2|cases f2
   cases f2
   obtain ⟨p,b1,b2,b3,b4,b5⟩:=g.own 0 _ rfl
   refine ⟨.ref p,b1,?_⟩
   refine a W0 W _ σ _ xs h1 g e1 fun vs W1 w1 l1 r1=>?_
   subst w1
   have g1:=g.step l1
   obtain ⟨p',c1,c2,c3,c4,c5⟩:=g1.own 0 _ rfl
   rw [b1] at c1
   cases c1
   rw [List.append_nil]
   refine ⟨W0,W1,p,vs,xs,d,h',rfl,rfl,g1.le,c3,c2,c5,r1,hn _ _ _ _ e1,e2,fun W2 w2 lf le hm hd at_=>?_⟩
   refine q W2 w2 (l1.lf.trans lf) ⟨le,g1.len,fun j y z=>?_,fun j d' z=>?_,fun i j d1 d2 hij z1 z2=>?_⟩
   .cases j with
    | zero=>cases z
    | succ j =>
     obtain ⟨v,z1,z2⟩:=g1.val (j+1) y z
     exact ⟨v,z1,lf.rep z2⟩
   .cases j with
    | zero=>cases z;exact ⟨p,b1,hm,c3,hd,at_⟩
    | succ j =>
     have z:r[j]?=some (.own d'):=z
     have:=List.all_eq_true.mp hr _ (List.mem_of_getElem? z)
     cases this
   .cases i with
    | zero =>
     cases j with
     | zero=>exact absurd rfl hij
     | succ j =>
      have z:r[j]?=some (.own d2):=z2
      have:=List.all_eq_true.mp hr _ (List.mem_of_getElem? z)
      cases this
    | succ i =>
     have z:r[i]?=some (.own d1):=z1
     have:=List.all_eq_true.mp hr _ (List.mem_of_getElem? z)
     cases this
  .cases e
 .cases e
theorem yML {k:Nat}{f} {a:XA}{r:PSt}{h:AH}(hr:r.all yDV=true):xBI k f a (.own (.ins k [] [])::r) h=ob (a (.own (.ins k [] [])::r) h) fun xs h1=>ob (f xs h1) fun d h2=>(match d with|.dead=>none|d=>some (.nx (.own d::r),h2)):=by
 unfold xBI
 dsimp only
 rw [if_pos ⟨rfl,hr⟩]
theorem yCA {a:Addr}{ss:List Str}(h:KTp K.K a (ss.map V.str)):ydx K (tC (.ref a)) (xC (.tup (ss.map PV.str))):=by
 intro W0 W ρ σ Q x h' g e q
 cases e
 refine q _ W rfl (.refl g.ok) ⟨a,_,rfl,.inr h,?_⟩
 clear h q
 induction ss with
 | nil=>exact rfl
 | cons s ss ih=>exact ⟨_,_,rfl,rfl,ih⟩
end PX
namespace PX
open PySem L2
variable {K:Ck}
noncomputable def yzL:List V->Hp->VK->Prop:=fun xs H Q=>∃ a kvs,xs=[.ref a]/\H a=some (.dK kvs)/\∀ l,H l=none->Q (.ref l) (upd H l (.dK kvs))
noncomputable def yjL:List PV->AH->Option (Nd×AH):=fun xs h=>match xs with
 | [x]=>(match ynI x h with|some (ks,ys)=>some (.dct ks ys,h)|none=>none)
 | _=>none
theorem yrt:ytg K yzL yjL:=by
 intro W xs vs Q d h' w r e q
 unfold yjL at e
 split at e
 .rename_i x
  obtain ⟨u,rfl,ru⟩:=yxE r
  split at e
  .rename_i ks ys hd
   cases e
   obtain ⟨a,us,ev,hp,hl,rs⟩:=ylF w hd ru
   subst ev
   refine ⟨a,ks.zip us,rfl,hp,fun p hn=>?_⟩
   have l:=ygu (o:=.dK (ks.zip us)) w hn
   exact q p (ypT W p _) rfl l (w.out hn) hn (fun z=>by cases z) ⟨w.ff hn,us,yX,hl,rs⟩
  .cases e
 .cases e
theorem yCB {h:AH}{n:Nat}{ks:List Key}{ys:List PV}(e:h[n]?=some (.dct ks ys)):yjL [.loc n] h=some (.dct ks ys,h):=by
 unfold yjL ynI
 simp only [e]
end PX
namespace PX
open PySem L2
variable {K:Ck}
end PX
namespace PX
open PySem L2
variable {K:Ck}
variable {t:TS}{s:XS}
end PX
namespace PX
open PySem L2 PySem.Spec PyProof.Rows
section
variable (K:Ck)
noncomputable def cE (x:XE):TE:=fun σ H Q=>∃ (W0 W:Wd) (ρ:PSt) (y:PV) (h':AH),W.H=H/\Good K W0 W ρ σ/\x ρ W.h=some (y,h')/\∀ v W',W'.h=h'->Le K W W'->yfc K W' y v->Q v W'.H
noncomputable def cO (x:XO):TE:=fun σ H Q=>∃ (W0 W:Wd) (ρ:PSt) (d:Nd) (h':AH),W.H=H/\Good K W0 W ρ σ/\x ρ W.h=some (d,h')/\∀ p W',W'.h=h'->Le K W W'->p∉W'.m->W.H p=none->d≠.dead->NdAt K W'.F W'.H W'.m d p->Q (.ref p) W'.H
noncomputable def cT (x:XT):TT:=fun σ H Q=>∃ (W0 W:Wd) (ρ:PSt) (y:Bool) (h':AH),W.H=H/\Good K W0 W ρ σ/\x ρ W.h=some (y,h')/\∀ W',W'.h=h'->Le K W W'->Q y W'.H
noncomputable def cA (x:XA):TA:=fun σ H Q=>∃ (W0 W:Wd) (ρ:PSt) (y:List PV) (h':AH),W.H=H/\Good K W0 W ρ σ/\x ρ W.h=some (y,h')/\∀ v W',W'.h=h'->Le K W W'->yfx K W' y v->Q v W'.H
noncomputable def cP (x:PSt->AH->Option (Option Int×AH)):TO:=fun σ H Q=>∃ (W0 W:Wd) (ρ:PSt) (y:Option Int) (h':AH),W.H=H/\Good K W0 W ρ σ/\x ρ W.h=some (y,h')/\∀ W',W'.h=h'->Le K W W'->Q y W'.H
noncomputable def cI (x:XA):TI:=fun σ H R=>∃ (W0 W:Wd) (ρ:PSt) (y:List PV) (h':AH),W.H=H/\Good K W0 W ρ σ/\x ρ W.h=some (y,h')/\∀ J W',W'.h=h'->Le K W W'->yJP K W' J y->R J W'.H
noncomputable def cG (y:XG):TG:=fun v σ H Q=>∃ (W0 W:Wd) (ρ ρ':PSt) (x:PV),W.H=H/\Good K W0 W ρ σ/\yfc K W x v/\y x ρ=some ρ'/\∀ σ',Good K W0 W ρ' σ'->Q σ' W.H
noncomputable def cGs (y:XGs):TGs:=fun v σ H Q=>∃ (W0 W:Wd) (ρ ρ':PSt) (x:List PV),W.H=H/\Good K W0 W ρ σ/\yfx K W x v/\y x ρ=some ρ'/\∀ σ',Good K W0 W ρ' σ'->Q σ' W.H
noncomputable def cS (s:XS):TS:=fun D σ H=>∃ (W0 W:Wd) (ρ:PSt) (o:Out) (h':AH),W.H=H/\Good K W0 W ρ σ/\s ρ W.h=some (o,h')/\Ends.Ok K W0 W D h' o
noncomputable def cF (s:XS):TS:=fun D σ H=>∃ (W0 W:Wd) (ρ ρ':PSt) (h':AH),W.H=H/\Good K W0 W ρ σ/\s ρ W.h=some (.nx ρ',h')/\∀ W',W'.h=h'->Lf K W W'->Good K W0 W' ρ' σ->D.nx σ W'.H
end
section
variable {K:Ck}
theorem sE {x:XE}:ydx K (cE K x) x:=fun W0 W ρ σ Q y h' g e q=>⟨W0,W,ρ,y,h',rfl,g,e,q⟩
theorem sO {x:XO}:yww K (cO K x) x:=fun W0 W ρ σ Q y h' g e q=>⟨W0,W,ρ,y,h',rfl,g,e,q⟩
theorem sT {x:XT}:yuC K (cT K x) x:=fun W0 W ρ σ Q y h' g e q=>⟨W0,W,ρ,y,h',rfl,g,e,q⟩
theorem sA {x:XA}:yuD K (cA K x) x:=fun W0 W ρ σ Q y h' g e q=>⟨W0,W,ρ,y,h',rfl,g,e,q⟩
theorem sP {x}:yDE K (cP K x) x:=fun W0 W ρ σ Q y h' g e q=>⟨W0,W,ρ,y,h',rfl,g,e,q⟩
theorem sI {x:XA}:yFM K (cI K x) x:=fun W0 W ρ σ Q y h' g e q=>⟨W0,W,ρ,y,h',rfl,g,e,q⟩
theorem sG {y:XG}:yBR K (cG K y) y:=fun W0 W ρ ρ' σ x v Q g r e q=>⟨W0,W,ρ,ρ',x,rfl,g,r,e,q⟩
theorem sGs {y:XGs}:yxB K (cGs K y) y:=fun W0 W ρ ρ' σ x v Q g r e q=>⟨W0,W,ρ,ρ',x,rfl,g,r,e,q⟩
theorem sS {s:XS}:yms K (cS K s) s:=fun W0 W ρ σ D o h' g e q=>⟨W0,W,ρ,o,h',rfl,g,e,q⟩
theorem sF {s:XS}:yBi K (cF K s) s:=fun W0 W ρ ρ' σ D h' g e q=>⟨W0,W,ρ,ρ',h',rfl,g,e,q⟩
end
abbrev ckX (X:Cx) (A:Nat->Addr):Ck:=⟨X.K,A⟩
structure ZE (X:Cx) (A:Nat->Addr) (e:Expr) (x:XE):Prop where of:PE X e (cE (ckX X A) x)
structure ZO (X:Cx) (A:Nat->Addr) (e:Expr) (x:XO):Prop where of:PE X e (cO (ckX X A) x)
structure ZT (X:Cx) (A:Nat->Addr) (e:Expr) (x:XT):Prop where of:PT X e (cT (ckX X A) x)
structure ZW (X:Cx) (A:Nat->Addr) (e:Expr) (x:XT):Prop where of:PW X e (cT (ckX X A) x)
structure ZA (X:Cx) (A:Nat->Addr) (e:List Expr) (n:Nat) (x:XA):Prop where
 of:PA X e (cA (ckX X A) x)
 len:∀ ρ h xs h',x ρ h=some (xs,h')->xs.length=n
structure ZP (X:Cx) (A:Nat->Addr) (e:Option Expr) (x:PSt->AH->Option (Option Int×AH)):Prop where of:PO X e (cP (ckX X A) x)
structure ZI (X:Cx) (A:Nat->Addr) (tg e:Expr) (x:XA):Prop where of:PI X tg e (cI (ckX X A) x)
structure ZG (X:Cx) (A:Nat->Addr) (e:Expr) (y:XG):Prop where of:PG X e (cG (ckX X A) y)
structure ZGs (X:Cx) (A:Nat->Addr) (e:List Expr) (y:XGs):Prop where of:PGs X e (cGs (ckX X A) y)
structure ZS (X:Cx) (A:Nat->Addr) (e:Stmt) (s:XS):Prop where of:PS X e (cS (ckX X A) s)
structure ZSs (X:Cx) (A:Nat->Addr) (e:List Stmt) (s:XS):Prop where of:PSs X e (cS (ckX X A) s)
structure ZF (X:Cx) (A:Nat->Addr) (e:Stmt) (s:XS):Prop where of:PS X e (cF (ckX X A) s)
structure ZFs (X:Cx) (A:Nat->Addr) (e:List Stmt) (s:XS):Prop where of:PSs X e (cF (ckX X A) s)
section
variable {X:Cx}{A:Nat->Addr}{e:Expr}{es:List Expr}
theorem wE {t:TE}{x:XE}(p:PE X e t) (s:ydx (ckX X A) t x):ZE X A e x:=⟨fun pins st σ H Q I ⟨W0,W,ρ,y,h',eh,g,ex,q⟩=>by subst eh;exact p pins st σ _ Q I (s W0 W ρ σ Q y h' g ex q)⟩
theorem wO {t:TE}{x:XO}(p:PE X e t) (s:yww (ckX X A) t x):ZO X A e x:=⟨fun pins st σ H Q I ⟨W0,W,ρ,y,h',eh,g,ex,q⟩=>by subst eh;exact p pins st σ _ Q I (s W0 W ρ σ Q y h' g ex q)⟩
theorem wT {t:TT}{x:XT}(p:PT X e t) (s:yuC (ckX X A) t x):ZT X A e x:=⟨fun pins st σ H Q I ⟨W0,W,ρ,y,h',eh,g,ex,q⟩=>by subst eh;exact p pins st σ _ Q I (s W0 W ρ σ Q y h' g ex q)⟩
theorem wW {t:TT}{x:XT}(p:PW X e t) (s:yuC (ckX X A) t x):ZW X A e x:=⟨fun wh pins st σ H Q I ⟨W0,W,ρ,y,h',eh,g,ex,q⟩=>by subst eh;exact p wh pins st σ _ Q I (s W0 W ρ σ Q y h' g ex q)⟩
theorem wA {t:TA}{x:XA}{n:Nat}(p:PA X es t) (s:yuD (ckX X A) t x) (l:∀ ρ h xs h',x ρ h=some (xs,h')->xs.length=n):ZA X A es n x:=⟨fun pos pins st σ H Q I ⟨W0,W,ρ,y,h',eh,g,ex,q⟩=>by subst eh;exact p pos pins st σ _ Q I (s W0 W ρ σ Q y h' g ex q),l⟩
theorem wP {o:Option Expr}{t:TO}{x} (p:PO X o t) (s:yDE (ckX X A) t x):ZP X A o x:=⟨fun pins st σ H Q I ⟨W0,W,ρ,y,h',eh,g,ex,q⟩=>by subst eh;exact p pins st σ _ Q I (s W0 W ρ σ Q y h' g ex q)⟩
theorem wI {tg:Expr}{t:TI}{x:XA}(p:PI X tg e t) (s:yFM (ckX X A) t x):ZI X A tg e x:=⟨fun pins st σ H Q I ⟨W0,W,ρ,y,h',eh,g,ex,q⟩=>by subst eh;exact p pins st σ _ Q I (s W0 W ρ σ Q y h' g ex q)⟩
theorem wG {t:TG}{y:XG}(p:PG X e t) (s:yBR (ckX X A) t y):ZG X A e y:=⟨fun pins st σ H v u Q I rv ⟨W0,W,ρ,ρ',x,eh,g,r,ex,q⟩=>by subst eh;exact p pins st σ _ v u Q I rv (s W0 W ρ ρ' σ x v Q g r ex q)⟩
theorem wGs {t:TGs}{y:XGs}(p:PGs X es t) (s:yxB (ckX X A) t y):ZGs X A es y:=⟨fun pins st σ H v u Q I rv ⟨W0,W,ρ,ρ',x,eh,g,r,ex,q⟩=>by subst eh;exact p pins st σ _ v u Q I rv (s W0 W ρ ρ' σ x v Q g r ex q)⟩
theorem wS {st:Stmt}{t:TS}{x:XS}(p:PS X st t) (s:yms (ckX X A) t x):ZS X A st x:=⟨fun pins st σ H D I ⟨W0,W,ρ,o,h',eh,g,ex,q⟩=>by subst eh;exact p pins st σ _ D I (s W0 W ρ σ D o h' g ex q)⟩
theorem wSs {st:List Stmt}{t:TS}{x:XS}(p:PSs X st t) (s:yms (ckX X A) t x):ZSs X A st x:=⟨fun pins st σ H D I ⟨W0,W,ρ,o,h',eh,g,ex,q⟩=>by subst eh;exact p pins st σ _ D I (s W0 W ρ σ D o h' g ex q)⟩
theorem wF {st:Stmt}{t:TS}{x:XS}(p:PS X st t) (s:yBi (ckX X A) t x):ZF X A st x:=⟨fun pins st σ H D I ⟨W0,W,ρ,ρ',h',eh,g,ex,q⟩=>by subst eh;exact p pins st σ _ D I (s W0 W ρ ρ' σ D h' g ex q)⟩
theorem wFs {st:List Stmt}{t:TS}{x:XS}(p:PSs X st t) (s:yBi (ckX X A) t x):ZFs X A st x:=⟨fun pins st σ H D I ⟨W0,W,ρ,ρ',h',eh,g,ex,q⟩=>by subst eh;exact p pins st σ _ D I (s W0 W ρ ρ' σ D h' g ex q)⟩
end
structure Nm (x:Str):Prop where
 d:(x == ("__debug__":Str))=false
 c:(x == ("__classdict__":Str))=false
 n:x≠"__name__"
section
variable {X:Cx}{A:Nat->Addr}{a b c o:Expr}{es:List Expr}{xa xb xc:XE}{xo:XO}{aa:XA}{pos p apos:Pos}{x:Str}{n k:Nat}
theorem yvr {j}:ZE X A (.Constant .none j pos) (xC .non):=wE yHp yFu
theorem yCC {b j}:ZE X A (.Constant (.bool b) j pos) (xC (.bl b)):=wE yJZ yHU
theorem z_int {i j}:ZE X A (.Constant (.int i) j pos) (xC (.int i)):=wE yHo yyU
theorem z_str {x j}:ZE X A (.Constant (.str x) j pos) (xC (.str x)):=wE yHq yyV
theorem yzM {i:Nat}(m:Nm x) (hN:X.N[i]?=some x) (hv:Vis X.env.scope x):ZE X A (.Name x pos) (yg i):=wE (ybx hN hv m.d m.c) (yFt i)
theorem z_v (i:Nat) (m:Nm x) (hN:X.N[i]?=some x:=by rfl) (hv:Vis X.env.scope x:=by exact Or.inl rfl):ZE X A (.Name x pos) (yg i):=yzM m hN hv
theorem yzN {n:Int}{t:Tok}(m:Nm x) (hg:Gl X x) (hm:X.mg x=some (.int n t)):ZE X A (.Name x pos) (xC (.int n)):=wE (yFp hg hm m.d) yyU
theorem yIR {n:Str}{t:Tok}(m:Nm x) (hg:Gl X x) (hm:X.mg x=some (.str n t)):ZE X A (.Name x pos) (xC (.str n)):=wE (yFq hg hm m.d) yyV
theorem ylJ {k:Nat}(m:Nm x) (hg:Gl X x) (hm:X.mg x=some (.ref (A k))):ZE X A (.Name x pos) (xC (.cls k)):=wE (yuS hg hm m.d) (yFv (K:=ckX X A))
theorem yts {n:String}(m:Nm x) (hg:Gl X x) (hm:X.mg x=none) (hv:bootBuiltins x=some (.type n)):ZE X A (.Name x pos) (xC (.ty n)):=wE (yHT hg hm hv m.n m.d) yHV
theorem ygY (h:ZO X A a xo):ZE X A a (xFz xo):=wE h.of (yIa sO)
theorem ygw (h:ZO X A a xo):ZE X A a (ykO xo):=wE h.of (yyX sO)
theorem ybL {op:Operator}{r:R2}{q:P2}(ho:OpR X (binaryOp op) r) (hq:ygt (ckX X A) r q) (ha:ZE X A a xa) (hb:ZE X A b xb):ZE X A (.BinOp a op b pos) (xOp q xa xb):=wE (yHH ho ha.of hb.of) (ywx hq sE sE)
theorem yCD {op:Operator}{r:R2}{q:P2O}(ho:OpR X (binaryOp op) r) (hq:yyT (ckX X A) r q) (ha:ZE X A a xa) (hb:ZE X A b xb):ZO X A (.BinOp a op b pos) (yFr q xa xb):=wO (yHH ho ha.of hb.of) (yFw hq sE sE)
theorem yMt {op:UnaryOp}{r} {q} (ho:UnR X (unaryOp op) r) (hq:yFs (ckX X A) r q) (ha:ZE X A a xa):ZE X A (.UnaryOp op a pos) (xUn q xa):=wE (yKh ho ha.of) (yHW hq sE)
theorem yLz (ha:ZE X A a xa):ZE X A (.UnaryOp .Not a pos) (yBE xa):=wE (yHz ha.of) (yBH sE)
theorem yxQ {op:CmpOp}{r:R2}{q:P2}(ho:OpR X (compareOp op) r) (hq:ygt (ckX X A) r q) (ha:ZE X A a xa) (hb:ZE X A b xb) (hm:behindInMarks op b=false):ZE X A (.Compare a [op] [b] pos) (xOp q xa xb):=wE (yEW ho ha.of hb.of hm) (ywx hq sE sE)
theorem yIS {op} (h:ZE X A a xa):ZE X A (.BoolOp op [a] pos) xa:=⟨yHx h.of⟩
theorem yGv (ha:ZE X A a xa) (hb:ZE X A (.BoolOp .And (b::es) pos) xb):ZE X A (.BoolOp .And (a::b::es) pos) (yxw xa xb):=wE (yHy ha.of hb.of) (yBG sE sE)
section
variable {ca cb:XT}
theorem yIT (hc:ZT X A c ca) (ha:ZE X A a xa) (hb:ZE X A b xb):ZE X A (.IfExp c a b pos) (xIf ca xa xb):=wE (yBo hc.of ha.of hb.of) (yHZ sT sE sE)
theorem yO {op:CmpOp}{r:R2}{q:P2}(ho:OpR X (compareOp op) r) (hq:ygt (ckX X A) r q) (ha:ZE X A a xa) (hb:ZE X A b xb) (hm:behindInMarks op b=false):ZT X A (.Compare a [op] [b] pos) (yG (xOp q xa xb)):=wT (yEX ho ha.of hb.of hm) (yog (ywx hq sE sE))
theorem ytt (ha:ZT X A a ca):ZT X A (.UnaryOp .Not a pos) (yDB ca):=wT (yHu ha.of) (yFy sT)
theorem yfy (h:ZE X A a xa) (he:∀ whole,isTrue a X.env whole=(do let v <- whole;standAt a.pos;holding [v] (truthy v))):ZT X A a (yG xa):=wT (yHr h.of he) (yHX sE)
theorem yJW (h:ZW X A a ca):ZT X A a ca:=⟨PW.pt h.of⟩
theorem yIU (ha:ZT X A a ca) (hb:ZW X A (.BoolOp .And (b::es) pos) cb):ZW X A (.BoolOp .And (a::b::es) pos) (yJN ca cb):=wW (yHt ha.of hb.of) (yFx sT sT)
theorem yCE (ha:ZT X A a ca) (hb:ZW X A (.BoolOp .Or (b::es) pos) cb):ZW X A (.BoolOp .Or (a::b::es) pos) (xOr ca cb):=wW (yKb ha.of hb.of) (yHY sT sT)
theorem yGw (ha:ZT X A a ca):ZW X A (.BoolOp .And [a] pos) ca:=⟨yER ha.of⟩
theorem yzO (ha:ZT X A a ca):ZW X A (.BoolOp .Or [a] pos) ca:=⟨yHs ha.of⟩
end
theorem yf:ZA X A [] 0 yr:=wA ysF yoy yve
theorem ya (ha:ZE X A a xa) (hr:ZA X A es n aa) (hs:starEach (a::es) X.env=(false,eval a X.env)::starEach es X.env):ZA X A (a::es) (n+1) (yc xa aa):=wA (ymu ha.of hr.of hs) (ywy sE sA) (yBK hr.len)
theorem ygh (h:ZA X A es n aa):ZO X A (.List es pos) (ylA aa):=wO (yHL h.of) (yFB sA)
theorem yeq {q} (h:ZA X A es n aa):ZE X A (.Tuple es q pos) (yiL aa):=wE (yHK h.of) (yFA sA)
theorem yGx:ZP X A none ymx:=wP yFh yxz
theorem yhf (h:ZE X A a xa):ZP X A (some a) (ylB xa):=wP (yFi h.of) (yBL sE)
section
variable {lo hi:Option Expr}{xl xh:PSt->AH->Option (Option Int×AH)}{p2:Pos}
theorem yMM {r} {q} (hr:SlR X r) (hq:yFD (ckX X A) r q) (ha:ZE X A a xa) (hl:ZP X A lo xl) (hh:ZP X A hi xh):ZE X A (.Subscript a (.Slice lo hi none p2) pos) (xSl q xa xl xh):=wE (ywt hr ha.of hl.of hh.of) (yIb hq sE sP sP)
theorem yxR {r} {q} (hr:SlR X r) (hq:yyZ (ckX X A) r q) (ha:ZE X A a xa) (hl:ZP X A lo xl) (hh:ZP X A hi xh):ZO X A (.Subscript a (.Slice lo hi none p2) pos) (yBF q xa xl xh):=wO (ywt hr ha.of hl.of hh.of) (yFE hq sE sP sP)
end
theorem ybM {r:R2}{q:P2}(hr:IxR X r) (hq:ygt (ckX X A) r q) (ha:ZE X A a xa) (hb:ZE X A b xb) (hs:yyM b):ZE X A (.Subscript a b pos) (xOp q xa xb):=wE (yKl hr ha.of hb.of hs) (ywx hq sE sE)
theorem ycc {cs:List Nat}{f:Str}(hc:∀ k∈cs,Cls X.K (A k)/\NoAttr X.K (A k) f) (ha:ZE X A a xa) (hb:attributeBase a f X.env (eval a X.env)=eval a X.env):ZE X A (.Attribute a f pos) (yfB cs f xa):=wE (yHJ ha.of hb) (yFT (K:=ckX X A) hc sE)
section
variable {f C:Addr}{fd:FuncData}{ps:List Str}{lv:Nat}{fn:Fn}
theorem ybn (F:FnOk X.prog X.w X.K X.mg X.base CX0 lv f fd ps (spE (ckX X A) (n+1) fn)) (hr:Room lv X.A) (m:Nm x) (hg:Gl X x) (hm:X.mg x=some (.ref f)) (hk:keepIn X.K (.ref f)=true) (hb:Binds X.K fd ps [])
  (ha:ZA X A (a::es) (n+1) aa) (he:starEach (a::es) X.env=(false,eval a X.env)::starEach es X.env) (hpl:(backTo pos (starEach es X.env)).any (·.1)=false):ZE X A (.Call (.Name x p) (a::es) [] pos) (ycm fn aa) :=
 wE (yFe F hr hg hm hk hb .nil yxt ha.of m.d he hpl) (yBJ sA ha.len)
theorem ylK {k:Nat}{fi} (M:Mk X.K (A k) f) (F:FnOk X.prog X.w X.K X.mg X.base CX0 lv f fd ps (spI (ckX X A) (n+1) k fi)) (hr:Room (lv+1) X.A) (m:Nm x) (hg:Gl X x) (hm:X.mg x=some (.ref (A k))) (hb:Binds X.K fd ps [])
  (ha:ZA X A (a::es) (n+1) aa) (he:starEach (a::es) X.env=(false,eval a X.env)::starEach es X.env) (hpl:(backTo pos (starEach es X.env)).any (·.1)=false):ZO X A (.Call (.Name x p) (a::es) [] pos) (ylD fi aa) :=
 wO (yFg M F hr hg hm hb .nil yxt ha.of m.d he hpl) (ywB (K:=ckX X A) (k:=k) sA ha.len)
theorem yGy {k:Nat}(hm:makesIn X.K (A k)=true) (hi:findIn X.K (.ref (A k)) "__init__" = some (some (.builtin "object.__init__"))) (hk:keepIn X.K (.ref (A k))=true) (m:Nm x) (hg:Gl X x) (hmg:X.mg x=some (.ref (A k))):ZO X A (.Call (.Name x p) [] [] pos) (ywC k) :=
 wO (yBC hm hi hk hg hmg m.d) (yzm (K:=ckX X A))
end
theorem ykI {id:String}{r} {q} (hc:ykN X (.builtin id) r) (hq:yri (ckX X A) r q) (m:Nm x) (hg:Gl X x) (hm:X.mg x=none) (hv:bootBuiltins x=some (.builtin id)) (ha:ZA X A (a::es) n aa) (he:starEach (a::es) X.env=(false,eval a X.env)::starEach es X.env) (hpl:(backTo pos (starEach es X.env)).any (·.1)=false):ZE X A (.Call (.Name x p) (a::es) [] pos) (xCB q aa) :=
 wE (yqZ hc hg hm hv ha.of m.n m.d he hpl) (yDC hq sA)
theorem yGz {T:String}{r} {q} (hc:ykN X (.type T) r) (hq:yri (ckX X A) r q) (m:Nm x) (hg:Gl X x) (hm:X.mg x=none) (hv:bootBuiltins x=some (.type T)) (ha:ZA X A (a::es) n aa) (he:starEach (a::es) X.env=(false,eval a X.env)::starEach es X.env) (hpl:(backTo pos (starEach es X.env)).any (·.1)=false):ZE X A (.Call (.Name x p) (a::es) [] pos) (xCB q aa) :=
 wE (ysK hc hg hm hv ha.of m.n m.d he hpl) (yDC hq sA)
theorem yem {T:String}{r} {q} (hc:ykN X (.type T) r) (hq:ytg (ckX X A) r q) (m:Nm x) (hg:Gl X x) (hm:X.mg x=none) (hv:bootBuiltins x=some (.type T)) (ha:ZA X A (a::es) n aa) (he:starEach (a::es) X.env=(false,eval a X.env)::starEach es X.env) (hpl:(backTo pos (starEach es X.env)).any (·.1)=false):ZO X A (.Call (.Name x p) (a::es) [] pos) (ymt q aa) :=
 wO (ysK hc hg hm hv ha.of m.n m.d he hpl) (yyY hq sA)
section
variable {name:Str}{cpos:Pos}{T id:String}{r:V->List V->Hp->VK->Prop}{cc:PV->AH->Bool}{q:PM}
theorem ytu (pa:PlainAttrs T) (slot:Slot T name id) (hty:typeOf (.builtin id)=pure (.type "method_descriptor")) (hm:MtR X id r) (hq:yth (ckX X A) T cc r q) (ho:ZE X A o xa) (ha:ZA X A (a::es) n aa)
  (hbase:attributeBase o name X.env (eval o X.env)=eval o X.env)
  (hfew:((backTo cpos (starEach (a::es) X.env)).all (fun x=>!x.1) && (backToKw cpos (keywordEach [] X.env)).all (fun x=>x.1.isSome)
   && decide ((a::es).length+([]:List Keyword).length+(if ([]:List Keyword).isEmpty then 0 else 1)<30))=true)
  (hline:(apos.endLine == cpos.line)=true) (hs:starEach (a::es) X.env=(false,eval a X.env)::starEach es X.env) (hplain:(backTo cpos (starEach es X.env)).any (·.1)=false) :
  ZE X A (.Call (.Attribute o name apos) (a::es) [] cpos) (xBM cc q xa aa):=wE (yHP pa slot hty hm ho.of ha.of hbase hfew hline hs hplain) (yDD (K:=ckX X A) hq sE sA)
theorem yIV (pa:PlainAttrs T) (slot:Slot T name id) (hty:typeOf (.builtin id)=pure (.type "method_descriptor")) (hm:MtR X id r) (hq:yth (ckX X A) T cc r q) (ho:ZE X A o xa)
  (hbase:attributeBase o name X.env (eval o X.env)=eval o X.env) (hline:(apos.endLine == cpos.line)=true) :
  ZE X A (.Call (.Attribute o name apos) [] [] cpos) (xBM cc q xa yr):=wE (yDx pa slot hty hm ho.of hbase hline) (yFC (K:=ckX X A) hq sE)
theorem yiB {i:Nat}(ho:PE X o (yDm i)) (ha:ZE X A a xa)
  (hbase:attributeBase o "append" X.env (eval o X.env)=eval o X.env)
  (hfew:((backTo cpos (starEach [a] X.env)).all (fun x=>!x.1) && (backToKw cpos (keywordEach [] X.env)).all (fun x=>x.1.isSome)
   && decide ([a].length+([]:List Keyword).length+(if ([]:List Keyword).isEmpty then 0 else 1)<30))=true)
  (hline:(apos.endLine == cpos.line)=true) (hs:starEach [a] X.env=(false,eval a X.env)::starEach [] X.env) (hplain:(backTo cpos (starEach [] X.env)).any (·.1)=false)
  (hsw:swapsWith (.Call (.Attribute o "append" apos) [a] [] cpos) none pos.line X.env=pure false) :
  ZS X A (.Expr (.Call (.Attribute o "append" apos) [a] [] cpos) pos) (yiM i xa) :=
 wS (yuJ (yHP PySem.F.plainAttrs_list PySem.F.slot_list_append PySem.F.type_list_append yhb ho (ymu ha.of ysF hs) hbase hfew hline hs hplain) hsw) (yBV (K:=ckX X A) i sE)
end
section
variable {tg:Expr}
theorem yru (h:ZE X A a xa):ZI X A tg a (xIL xa):=wI (yEU h.of) (yzd (K:=ckX X A) sE)
theorem yoI (hg:Gl X "range") (hm:X.mg "range" = none) (ha:ZA X A [a] n aa) (hs:starEach [a] X.env=[(false,eval a X.env)]):ZI X A tg (.Call (.Name "range" p) [a] [] pos) (yBW aa):=wI (yyx hg hm ha.of hs) (yze sA)
end
theorem yeO {i:Nat}(hN:X.N.Nodup) (hi:X.N[i]?=some x) (hx:Loc X.env.scope x) (hf:X.fn x=true\/X.env.scope.names.lookup x=some .local):ZG X A (.Name x pos) (yC i):=wG (yqX hN hi hx hf) (yoA i)
theorem yzP:ZGs X A [] yHe:=wGs yET yBS
theorem ykv {y:XG}{ys:XGs}(h1:ZG X A a y) (h2:ZGs X A es ys) (hs:(assignEach (a::es) X.env).map (·.2)=assign a X.env::(assignEach es X.env).map (·.2)):ZGs X A (a::es) (ynF y ys):=wGs (yBq h1.of h2.of hs) (yzb sG sGs)
theorem yDW {ys:XGs}{q:Nat}(hc:X.calm=true) (h:ZGs X A es ys) (hn:(assignEach es X.env).length=n) (hst:(assignEach es X.env).findIdx? (·.1)=none):ZG X A (.Tuple es q pos) (yFF n ys):=wG (yHD hc h.of hn hst) (yBT (K:=ckX X A) sGs)
theorem yIW {elt iter:Expr}{px:Pos}{scope:Scope}{cpos:Pos}{it:XA}{xe:XE}(ix:List Nat) (fr:List Str) (hc:X.calm=true) (hi:ZI X A (.Name x px) iter it) (hfr:FrOk X scope ix fr)
  (he:∀ (cl:List (Str×Addr)) (C:Addr) (s₃:Shared) (H₃:Hp) (fp:List Addr) (pins:List (Addr×Obj)),ZE (cxC X scope cl C (x::fr) s₃ H₃ fp pins) A elt xe)
  (hnd:(x::fr).Nodup) (hkind:scope.kind=.function) (hcell:∀ y∈scope.names,y.2≠.cell)
  (hnames:∀ y∈scope.names,y.2=.local->scope.names.lookup y.1=some .local) (hfree0:∀ y∈scope.names,y.2=.free->y.1∈fr) (hx:scope.names.lookup x=some .local)
  (hs:∀ v,foldedSetIterable iter X.env v=pure v):ZO X A (.ListComp elt [⟨.Name x px,iter,[],0⟩] scope cpos) (yxA it ix xe) :=
 wO (yFn ix fr hc hi.of hfr (te:=cE (ckX X A) xe) (fun cl C s₃ H₃ fp pins=>(he cl C s₃ H₃ fp pins).of) hnd hkind hcell hnames hfree0 hx hs) (ywz (K:=ckX X A) ix sI sE)
section
variable {st:Stmt}{rest:List Stmt}{s u:XS}
theorem yv (h:ZE X A a xa):ZS X A (.Return (some a) pos) (ycu xa):=wS (yHB h.of) (yFH sE)
theorem yco (h:ZE X A a xa) (hs:swapsWith a none pos.line X.env=pure false):ZS X A (.Expr a pos) (yfa xa):=wS (yuJ h.of hs) (yBQ sE)
theorem yz {i:Nat}{pos':Pos}(hN:X.N.Nodup) (hi:X.N[i]?=some x) (hx:Loc X.env.scope x) (h:ZE X A a xa) (hs:swapsWith a (some (.Name x pos')) pos.line X.env=pure false) (hf:X.fn x=true\/X.env.scope.names.lookup x=some .local):ZS X A (.Assign [.Name x pos'] a pos) (ydb xa (yC i)) :=
 wS (yDp hN hi hx h.of hs hf) (yvg sE (yoA i))
theorem yoJ {i:Nat}{pos':Pos}(hN:X.N.Nodup) (hi:X.N[i]?=some x) (hx:Loc X.env.scope x) (h:ZO X A a xo) (hs:swapsWith a (some (.Name x pos')) pos.line X.env=pure false) (hf:X.fn x=true\/X.env.scope.names.lookup x=some .local):ZS X A (.Assign [.Name x pos'] a pos) (yti xo i) :=
 wS (yDp hN hi hx h.of hs hf) (yBU i sO)
theorem yDX {tg:Expr}{y:XG}(h:ZE X A a xa) (hg:ZG X A tg y) (hs:swapsWithSole [tg] a pos.line X.env=pure false) (hw:swappedStores [tg] a X.env=pure none) (h1:(assignEach [tg] X.env).map (·.2)=[assign tg X.env]):ZS X A (.Assign [tg] a pos) (ydb xa y):=wS (yDo h.of hg.of hs hw h1) (yvg sE sG)
theorem ycV {cs:List Nat}{f:Str}{pos':Pos}{i:Nat}(hc:∀ k∈cs,Cls X.K (A k)/\NoAttr X.K (A k) f) (ho:PE X o (yDm i)) (h:ZE X A a xa) (hs:swapsWith a (some (.Attribute o f pos')) pos.line X.env=pure false):ZF X A (.Assign [.Attribute o f pos'] a pos) (yfb cs i f xa):=wF (yDv ho h.of hs) (yCg (K:=ckX X A) hc sE)
theorem ybg {ca:XT}{l m:List Stmt}(hc:ZT X A c ca) (ha:ZSs X A l s) (hb:ZSs X A m u):ZS X A (.If c l m pos) (ycR ca s u):=wS (yKd hc.of ha.of hb.of) (yFI sT sS sS)
theorem ynm {tg iter:Expr}{it:XA}{y:XG}(hp:PassesOwn (model X.prog X.w) X.A X.env X.xe) (hc:X.calm=true) (hi:ZI X A tg iter it) (hg:ZG X A tg y) (hb:ZSs X A rest s) (hs:∀ x,foldedSetIterable iter X.env x=pure x):ZS X A (.For tg iter rest [] pos) (yza it y s):=wS (yDr hp hc hi.of hg.of hb.of hs) (yFN sI sG sS)
theorem yCF {ca:XT}(fu:Nat) (hp:PassesOwn (model X.prog X.w) X.A X.env X.xe) (hc:ZT X A c ca) (hb:ZSs X A rest s):ZS X A (.While c rest [] pos) (ytj fu ca s):=wS (yBr hp hc.of hb.of) (yzf fu sT sS)
theorem yA:ZSs X A [] ybB:=wSs yES yBP
theorem yh (h:ZS X A st s):ZSs X A [st] s:=⟨yyu h.of⟩
theorem ye (h:ZS X A st s) (hr:ZSs X A rest u):ZSs X A (st::rest) (yu s u):=wSs (ywm h.of hr.of) (yFG sS sS)
theorem yoK (i:Nat) (h:ZSs X A rest s):ZSs X A rest (yDF i s):=wSs h.of (yFJ i sS)
theorem yhg (h:ZF X A st s):ZFs X A [st] s:=⟨yyu h.of⟩
theorem ycz (h:ZF X A st s) (hr:ZFs X A rest u):ZFs X A (st::rest) (yu s u):=wFs (ywm h.of hr.of) (yCh sF sF)
end
end
section
variable {P:Program}{w:World}{K:PySem.W.Frag}{mg:Str->Option Value}{base:Heap}{A:Nat->Addr}
theorem zfn {x qual:Str}{st:Stmt}{f:Addr}{fd:FuncData}{N ps:List Str}{k:Nat}{s:XS}(F:Fun K x qual st f fd) (S:yt N ps (yb st))
  (h:∀ (cdv:Value) (Ar:Around) (outer:List Env) (sh:Shared) (H:Hp) (E:XK),Room k (Ar.deeper (envOfC qual (yb st) sh.heap.objs.size f cdv))->ZSs (yBz CX0 P w K mg base N qual (yb st) f cdv Ar outer sh H E).nox A (yj st) s) :
  FnOk P w K mg base CX0 (k+1) f fd ps (spE ⟨K,A⟩ ps.length (ygX N.length s)) :=
 F.ok S (fun _ _ _ _ h=>yFO h) fun cdv Ar outer sh H vs Q E hr hq=>⟨_,(h cdv Ar outer sh H E hr).of,yBY (K:=⟨K,A⟩) sS hq⟩
theorem zin {x qual:Str}{st:Stmt}{f:Addr}{fd:FuncData}{N ps:List Str}{k kc n:Nat}{s:XS}(F:Fun K x qual st f fd) (S:yt N ps (yb st)) (hn:ps.length=n+1) (hN:n+1<=N.length)
  (h:∀ (cdv:Value) (Ar:Around) (outer:List Env) (sh:Shared) (H:Hp) (E:XK),Room k (Ar.deeper (envOfC qual (yb st) sh.heap.objs.size f cdv))->ZFs (yBz CX0 P w K mg base N qual (yb st) f cdv Ar outer sh H E).nox A (yj st) s) :
  FnOk P w K mg base CX0 (k+1) f fd ps (spI ⟨K,A⟩ n kc (ytk N.length kc s)) :=
 F.ok S (fun _ _ _ _ h=>(yFU h).trans hn.symm) fun cdv Ar outer sh H vs Q E hr hq=>⟨_,(h cdv Ar outer sh H E hr).of,yCi (K:=⟨K,A⟩) hN sF hq⟩
end
end PX
namespace PX
open PySem L2 PySem.Spec PyProof.Rows
section
variable {X:Cx}{A:Nat->Addr}{a b c o i:Expr}{es:List Expr}{xa xb xc xd xk xv:XE}{xo:XO}{aa:XA}{pos p apos cpos pos':Pos}{x:Str}{n k:Nat}
theorem yDY (hu:X.A.units+1<cLine) (ho:ZE X A o xd) (hi:ZE X A i xk) (hs:yLp i):ZE X A (.Subscript o i pos) (yvn xd xk):=wE (yGf hu ho.of hi.of hs) (yCp sE sE)
theorem yIX (hu:X.A.units+1<cLine) (hi:ZE X A i xk) (ho:ZE X A o xd) (hm:behindInMarks .In o=false):ZT X A (.Compare i [.In] [o] pos) (yG (yzy false xk xd)):=wT (yDn (yIH hu hi.of ho.of) hm) (yog (yGi sE sE))
theorem yzQ (hu:X.A.units+1<cLine) (hi:ZE X A i xk) (ho:ZE X A o xd) (hm:behindInMarks .NotIn o=false):ZT X A (.Compare i [.NotIn] [o] pos) (yG (yzy true xk xd)):=wT (yDn (yzt hu hi.of ho.of) hm) (yog (yxL sE sE))
theorem yrv (hu:X.A.units+1<cLine) (ho:ZE X A o xd) (hi:ZE X A i xk) (hv:ZE X A a xv) (hs:swapsWith a (some (.Subscript o i pos')) pos.line X.env=pure false):ZS X A (.Assign [.Subscript o i pos'] a pos) (yrn xd xk xv):=wS (yGg hu ho.of hi.of hv.of hs) (yCq sE sE sE)
theorem ytv:ZO X A (.Dict [] [] pos) ytn:=wO yCm yCr
theorem yGA (hu:X.A.units+1<cLine) (ho:ZE X A o xd) (hi:ZE X A i xk) (hb:ZE X A b xb) (m:M2 X o "get" apos i b cpos):ZE X A (.Call (.Attribute o "get" apos) [i,b] [] cpos) (yto xd xk xb):=wE (yCn hu ho.of hi.of hb.of m) (yzz sE sE sE)
theorem ykS (h:ZE X A a xv) (ho:ZE X A o xd) (hi:ZE X A i xk)
  (ha:∀ v,assign (.Subscript o i pos') X.env v=(do
   let ov <- holding [v] (eval o X.env)
   let iv <- holding [v,ov] (eval i X.env)
   standAt pos'
   holding [v,ov,iv] (setItem ov iv v)
   release [v,ov,iv] []))
  (hs:swapsWithSole [.Subscript o i pos'] a pos.line X.env=pure false) (hw:swappedStores [.Subscript o i pos'] a X.env=pure none) (h1:(assignEach [.Subscript o i pos'] X.env).map (·.2)=[assign (.Subscript o i pos') X.env]) :
  ZS X A (.Assign [.Subscript o i pos'] a pos) (ymB xd xk xv):=wS (yDo h.of (yHE ho.of hi.of set_list ha) hs hw h1) (yCo sE sE sE)
end
end PX
namespace PX
open PySem L2 PySem.Spec PyProof.Rows
theorem yIY:bootBuiltins "max" = some (.builtin "max"):=by rfl'
theorem yoL:bootBuiltins "sorted" = some (.builtin "sorted"):=by rfl'
theorem yvs:bootBuiltins "reversed" = some (.type "reversed"):=by rfl'
section
variable {X:Cx}{A:Nat->Addr}{a b c o:Expr}{es:List Expr}{xa xb xc:XE}{pos p apos cpos:Pos}{x:Str}{n k:Nat}
end
section
theorem yIZ {a b c:Int}(hc:0<c):Builtin.Range.rangeSize a b c=(szR a b c:Int):=by
 unfold Builtin.Range.rangeSize szR
 rw [if_pos hc]
 split
 .have:=Int.ediv_nonneg (a:=b-a-1) (b:=c) (by omega) (by omega)
  omega
 .rfl
theorem yCG {a b c:Int}(h:0<=a/\a<1000000000/\0<=b/\b<1000000000/\0<c/\c<1000000):Builtin.Range.small a b c=true:=by
 obtain ⟨h1,h2,h3,h4,h5,h6⟩:=h
 unfold Builtin.Range.small
 have hs:Builtin.Range.rangeSize a b c<=1000000000/\0<=Builtin.Range.rangeSize a b c:=by
  unfold Builtin.Range.rangeSize
  rw [if_pos h5]
  split
  .have:=Int.ediv_nonneg (a:=b-a-1) (b:=c) (by omega) (by omega)
   have:=Int.ediv_le_self c (show (0:Int)<=b-a-1 by omega)
   omega
  .omega
 simp only [Builtin.Range.rangeFitsLong,Bool.and_eq_true,Bool.or_eq_true,decide_eq_true_eq,beq_iff_eq,show c>0 from h5,if_true]
 omega
theorem yvt {P:Program}{w:World}{K:PySem.W.Frag}{tg:Expr}(it:Addr) (lo st:Int) (n:Nat):Turn P w K tg (yJU lo st n) [it] it (fun i h=>IsRangeIter h it (lo+(i:Nat)*st) ((n:Int)-(i:Nat)) st) where
 mem:=by simp
 obj:=fun i h st b hb=>by
  have e:b=it:=by simpa using hb
  subst e
  exact ⟨_,st,fun v z=>by
   have z':Data.fields _=Data.cell v:=z
   cases z'⟩
 keep:=fun i h h' st k=>k it (by simp) _ st
 item:=by
  intro X hP hw hK hc i pins s σ H E I hf st' hg
  subst hP hw hK
  obtain ⟨f0,f1,f2,f3,f4,f5⟩:=hf it (by simp)
  have W:=Walks.range (prog:=X.prog) (w:=X.w) (I.ok.hd hc) it lo st n
  refine W.item i s _ _ hg st' fun v h' tk hv st'' kk=>?_
  obtain ⟨t,rfl⟩:=hv
  have I1:Inv X pins σ H { s with heap:=h',toks:=tk }:=I.turned (fun b o hb e=>kk b o (by simpa using hb) e) f0 f1 f3 f4 f5
  exact ⟨_,rfl,yBs (s:={ s with heap:=h',toks:=tk }) (n:="range_iterator") st'' rfl rfl (by decide) ⟨.int (lo+i*st),H,I1,⟨t,rfl⟩,⟨rfl,rfl⟩,st'',fun b hb=>(hf b hb).1⟩⟩
 done:=by
  intro X hP hw hK hc i pins s σ H E I hf st hg
  subst hP hw hK
  obtain ⟨f0,f1,f2,f3,f4,f5⟩:=hf it (by simp)
  exact wpAny_pyNext_range_end (I.ok.hd hc) st (by have:n<=i:=hg;omega) fun h' eb=>⟨rfl,I.turned (t':=s.toks) (fun b o hb e=>eb b o hb e) f0 f1 f3 f4 f5⟩
 self:=fun _ _ _ _ _ st h=>wpAny_pyIter_rangeiter st h
variable {X:Cx}{A:Nat->Addr}{tg a b c:Expr}{p pos:Pos}{aa:XA}{n:Nat}
theorem yzR {pins:List (Addr×Obj)}{σ:L2.St}{H:Hp}{s:Shared}{R:It->Hp->Prop}{E:Value->Shared->Prop}{lo hi st:Int}{t u v:Tok}{tk:Nat}(I:Inv X pins σ H s) (h:0<=lo/\lo<1000000000/\0<=hi/\hi<1000000000/\0<st/\st<1000000)
  (q:R (yJU lo st (szR lo hi st)) H):wpAny (model X.prog X.w) X.A (pyIter (.ref s.heap.objs.size)) (PIE X pins σ tg R) E { s with heap:=s.heap.push { cls:=.type "range",data:=.fields #[.int lo t,.int hi u,.int st v] },toks:=tk }:=by
 refine wpAny_pyIter_range (IsRange.new ..) (yCG h) ?_
 have I1:Inv X pins σ H { s with heap:=s.heap.push { cls:=.type "range",data:=.fields #[.int lo t,.int hi u,.int st v] },toks:=tk }:=I.kept fun b o e=>Heap.get?_push_of_some _ e
 refine ⟨(s.heap.push { cls:=.type "range",data:=.fields #[.int lo t,.int hi u,.int st v] }).objs.size,[(s.heap.push { cls:=.type "range",data:=.fields #[.int lo t,.int hi u,.int st v] }).objs.size],_,_,H,rfl,
  I1.kept (t':=tk) fun b o e=>Heap.get?_push_of_some _ e,yvt _ lo st (szR lo hi st),?_,fun b hb=>?_,q⟩
 .have e1:lo+((0:Nat):Int)*st=lo:=by simp
  have e2:((szR lo hi st:Nat):Int)-((0:Nat):Int)=Builtin.Range.rangeSize lo hi st:=by rw [yIZ h.2.2.2.2.1];omega
  show IsRangeIter _ _ (lo+((0:Nat):Int)*st) (((szR lo hi st:Nat):Int)-((0:Nat):Int)) st
  rw [e1,e2]
  exact Heap.get?_push_size _ rfl
 .have e:b=(s.heap.push { cls:=.type "range",data:=.fields #[.int lo t,.int hi u,.int st v] }).objs.size:=by simpa using hb
  subst e
  exact I1.fpOk (Nat.le_refl _) (I1.hok.fresh (Nat.le_refl _))
theorem yzS {ta:TA}(hg:Gl X "range") (hm:X.mg "range" = none) (ha:PA X [a,b,c] ta) (hs:starEach [a,b,c] X.env=[(false,eval a X.env),(false,eval b X.env),(false,eval c X.env)]) (hs2:starEach [b,c] X.env=[(false,eval b X.env),(false,eval c X.env)]) :
  PI X tg (.Call (.Name "range" p) [a,b,c] [] pos) (yIN ta):=by
 intro pins s σ H R I h
 refine Call_ (yqA I hg hm boot_range (PyProof.Rows.callWith_type1 (thn (ha pos pins s σ H _ I h) fun us s1 ⟨vs,H1,I1,r1,q1⟩=>?_) (by rw [hs,hs2]) (by rw [hs2];rfl)))
 obtain ⟨i,j,k,e,hc,q⟩:=q1
 subst e
 cases r1 with
 | cons r rr =>
  cases rr with
  | cons r' rr =>
   cases rr with
   | cons r'' rr =>
    cases rr
    obtain ⟨t,rfl⟩:=r
    obtain ⟨t',rfl⟩:=r'
    obtain ⟨t'',rfl⟩:=r''
    exact call_range_3 (by omega) (yzR I1 hc q) (Or.inl (PyProof.noPylong_small (by omega)))
theorem yGB (hg:Gl X "range") (hm:X.mg "range" = none) (ha:ZA X A [a,b,c] n aa) (hs:starEach [a,b,c] X.env=[(false,eval a X.env),(false,eval b X.env),(false,eval c X.env)]) (hs2:starEach [b,c] X.env=[(false,eval b X.env),(false,eval c X.env)]):ZI X A tg (.Call (.Name "range" p) [a,b,c] [] pos) (yIO aa):=wI (yzS hg hm ha.of hs hs2) (yzC sA)
end
section
theorem ygx {xs:List V}{its:List Value}(r:Vals xs its) {j:Nat}(hj:j<its.toArray.size):∃ x,xs[j]?=some x/\RelV x its.toArray[j]:=by
 have hl:=r.length
 have j1:j<its.length:=by simpa using hj
 have x1:xs[j]?=some xs[j]:=List.getElem?_eq_getElem (by omega)
 obtain ⟨u1,q1,w1⟩:=r.get x1
 have g1:its.toArray[j]=u1:=by
  have:=List.getElem?_eq_getElem j1
  rw [q1] at this
  simpa using (Option.some.inj this).symm
 exact ⟨_,x1,by rw [g1];exact w1⟩
variable {X:Cx}
theorem ywQ {pins:List (Addr×Obj)}{σ:L2.St}{H:Hp}{s:Shared}(I:Inv X pins σ H s) {n:Nat}{x y:V}{b:Bool}(r:EqR X.K H n x y b):∀ {A:Around}{u v:Value},RelV x u->RelV y v->A.units+n<cLine->SeqAt.EqAt A s u v b:=by
 induction r with
 | flat fx fy=>exact fun rx ry _=>eqAt_V rx ry fx fy
 | same =>
  intro A u v rx ry _
  cases rx
  cases ry
  exact SeqAt.EqAt.same _
 | odd h =>
  obtain ⟨a,o,ob,h1,h2⟩:=h
  have:=(I.bs a ob (I.ok.mod.kin a ob h2)).2
  rw [h1] at this
  cases this
 | nt hb =>
  intro A u v rx ry hu
  cases rx
  cases ry
  obtain ⟨i2,r2,p2,z2⟩:=I.tuple hb
  exact SeqAt.EqAt.none_tuple p2 (by omega)
 | tn hb =>
  intro A u v rx ry hu
  cases rx
  cases ry
  obtain ⟨i2,r2,p2,z2⟩:=I.tuple hb
  exact SeqAt.EqAt.tuple_none p2 (by omega)
 | @lst n a b xs ys e ha hb hl hne he ih =>
  intro A u v rx ry hu
  cases rx
  cases ry
  obtain ⟨i1,n1,r1,e1,z1⟩:=I.lst ha
  obtain ⟨i2,n2,r2,e2,z2⟩:=I.lst hb
  have l1:=r1.length
  have l2:=r2.length
  rw [show xs.length=i1.toArray.size by simp only [List.size_toArray];omega]
  refine SeqAt.EqAt.of_refs hne (SeqAt.RcAt.lists ⟨_,e1,rfl,n1,rfl⟩ ⟨_,e2,rfl,n2,rfl⟩ (by simp only [List.size_toArray];omega) (by omega) fun j j1 j2=>?_)
  obtain ⟨x1,q1,w1⟩:=ygx r1 j1
  obtain ⟨y1,q2,w2⟩:=ygx r2 j2
  exact ih j x1 y1 q1 q2 w1 w2 (by show A.units+1+n<cLine;omega)
 | @lstN n a b xs ys ha hb hl =>
  intro A u v rx ry hu
  cases rx
  cases ry
  obtain ⟨i1,n1,r1,e1,z1⟩:=I.lst ha
  obtain ⟨i2,n2,r2,e2,z2⟩:=I.lst hb
  have l1:=r1.length
  have l2:=r2.length
  have hne:a≠b:=fun z=>by subst z;rw [ha] at hb;cases hb;exact hl rfl
  exact SeqAt.EqAt.of_refs hne (SeqAt.RcAt.lists_lengths ⟨_,e1,rfl,n1,rfl⟩ ⟨_,e2,rfl,n2,rfl⟩ (by simp only [List.size_toArray,bne_iff_ne];omega) (by omega))
 | @tup n a b xs ys e ha hb hne he ih =>
  intro A u v rx ry hu
  cases rx
  cases ry
  obtain ⟨i1,r1,p1,z1⟩:=I.tuple ha
  obtain ⟨i2,r2,p2,z2⟩:=I.tuple hb
  have l1:=r1.length
  have l2:=r2.length
  rw [show xs.length=i1.toArray.size by simp only [List.size_toArray];omega,show ys.length=i2.toArray.size by simp only [List.size_toArray];omega]
  refine SeqAt.EqAt.of_refs hne (SeqAt.RcAt.tuples p1 p2 (by omega) fun j j1 j2=>?_)
  obtain ⟨x1,q1,w1⟩:=ygx r1 j1
  obtain ⟨y1,q2,w2⟩:=ygx r2 j2
  exact ih j x1 y1 q1 q2 w1 w2 (by show A.units+1+n<cLine;omega)
theorem yzT (hu:X.A.units+60<cLine):OpR X (compareOp .Eq) (yMo X.K):=by
 intro pins s σ H x y v u Q I rx ry h
 obtain ⟨b,hb,q⟩:=h
 cases hb with
 | nt hb =>
  cases rx
  cases ry
  obtain ⟨i2,r2,p2,z2⟩:=I.tuple hb
  exact SeqAt.RcAt.none_tuple p2 (by omega) _ _ _ _ ⟨.bl _,H,I,rfl,q⟩
 | tn hb =>
  cases rx
  cases ry
  obtain ⟨i2,r2,p2,z2⟩:=I.tuple hb
  exact SeqAt.RcAt.tuple_none p2 (by omega) _ _ _ _ ⟨.bl _,H,I,rfl,q⟩
 | @lst a b xs ys e ha hb hl he =>
  cases rx
  cases ry
  obtain ⟨i1,n1,r1,e1,z1⟩:=I.lst ha
  obtain ⟨i2,n2,r2,e2,z2⟩:=I.lst hb
  have l1:=r1.length
  have l2:=r2.length
  rw [show xs.length=i1.toArray.size by simp only [List.size_toArray];omega] at q
  refine SeqAt.RcAt.lists ⟨_,e1,rfl,n1,rfl⟩ ⟨_,e2,rfl,n2,rfl⟩ (by simp only [List.size_toArray];omega) (by omega) (fun j j1 j2=>?_) _ _ _ _ ⟨.bl _,H,I,rfl,q⟩
  obtain ⟨x1,q1,w1⟩:=ygx r1 j1
  obtain ⟨y1,q2,w2⟩:=ygx r2 j2
  exact ywQ I (he j x1 y1 q1 q2) w1 w2 (by show X.A.units+1+40<cLine;omega)
 | @lstN a b xs ys ha hb hl =>
  cases rx
  cases ry
  obtain ⟨i1,n1,r1,e1,z1⟩:=I.lst ha
  obtain ⟨i2,n2,r2,e2,z2⟩:=I.lst hb
  have l1:=r1.length
  have l2:=r2.length
  exact SeqAt.RcAt.lists_lengths ⟨_,e1,rfl,n1,rfl⟩ ⟨_,e2,rfl,n2,rfl⟩ (by simp only [List.size_toArray,bne_iff_ne];omega) (by omega) _ _ _ _ ⟨.bl _,H,I,rfl,q⟩
 | @tup a b xs ys e ha hb he =>
  cases rx
  cases ry
  obtain ⟨i1,r1,p1,z1⟩:=I.tuple ha
  obtain ⟨i2,r2,p2,z2⟩:=I.tuple hb
  have l1:=r1.length
  have l2:=r2.length
  rw [show xs.length=i1.toArray.size by simp only [List.size_toArray];omega,show ys.length=i2.toArray.size by simp only [List.size_toArray];omega] at q
  refine SeqAt.RcAt.tuples p1 p2 (by omega) (fun j j1 j2=>?_) _ _ _ _ ⟨.bl _,H,I,rfl,q⟩
  obtain ⟨x1,q1,w1⟩:=ygx r1 j1
  obtain ⟨y1,q2,w2⟩:=ygx r2 j2
  exact ywQ I (he j x1 y1 q1 q2) w1 w2 (by show X.A.units+1+40<cLine;omega)
theorem yzU (hu:X.A.units+60<cLine):OpR X (compareOp .NotEq) (yMp X.K):=by
 intro pins s σ H x y v u Q I rx ry h
 obtain ⟨b,hb,q⟩:=h
 cases hb with
 | nt hb =>
  cases rx
  cases ry
  obtain ⟨i2,r2,p2,z2⟩:=I.tuple hb
  exact SeqAt.RcNeAt.none_tuple p2 (by omega) _ _ _ _ ⟨.bl _,H,I,rfl,q⟩
 | tn hb =>
  cases rx
  cases ry
  obtain ⟨i2,r2,p2,z2⟩:=I.tuple hb
  exact SeqAt.RcNeAt.tuple_none p2 (by omega) _ _ _ _ ⟨.bl _,H,I,rfl,q⟩
 | @lst a b xs ys e ha hb hl he =>
  cases rx
  cases ry
  obtain ⟨i1,n1,r1,e1,z1⟩:=I.lst ha
  obtain ⟨i2,n2,r2,e2,z2⟩:=I.lst hb
  have l1:=r1.length
  have l2:=r2.length
  rw [show xs.length=i1.toArray.size by simp only [List.size_toArray];omega] at q
  refine SeqAt.RcNeAt.lists ⟨_,e1,rfl,n1,rfl⟩ ⟨_,e2,rfl,n2,rfl⟩ (by simp only [List.size_toArray];omega) (by omega) (fun j j1 j2=>?_) _ _ _ _ ⟨.bl _,H,I,rfl,q⟩
  obtain ⟨x1,q1,w1⟩:=ygx r1 j1
  obtain ⟨y1,q2,w2⟩:=ygx r2 j2
  exact ywQ I (he j x1 y1 q1 q2) w1 w2 (by show X.A.units+1+40<cLine;omega)
 | @lstN a b xs ys ha hb hl =>
  cases rx
  cases ry
  obtain ⟨i1,n1,r1,e1,z1⟩:=I.lst ha
  obtain ⟨i2,n2,r2,e2,z2⟩:=I.lst hb
  have l1:=r1.length
  have l2:=r2.length
  exact SeqAt.RcNeAt.lists_lengths ⟨_,e1,rfl,n1,rfl⟩ ⟨_,e2,rfl,n2,rfl⟩ (by simp only [List.size_toArray,bne_iff_ne];omega) (by omega) _ _ _ _ ⟨.bl _,H,I,rfl,q⟩
 | @tup a b xs ys e ha hb he =>
  cases rx
  cases ry
  obtain ⟨i1,r1,p1,z1⟩:=I.tuple ha
  obtain ⟨i2,r2,p2,z2⟩:=I.tuple hb
  have l1:=r1.length
  have l2:=r2.length
  rw [show xs.length=i1.toArray.size by simp only [List.size_toArray];omega,show ys.length=i2.toArray.size by simp only [List.size_toArray];omega] at q
  refine SeqAt.RcNeAt.tuples p1 p2 (by omega) (fun j j1 j2=>?_) _ _ _ _ ⟨.bl _,H,I,rfl,q⟩
  obtain ⟨x1,q1,w1⟩:=ygx r1 j1
  obtain ⟨y1,q2,w2⟩:=ygx r2 j2
  exact ywQ I (he j x1 y1 q1 q2) w1 w2 (by show X.A.units+1+40<cLine;omega)
theorem yqM {k:Nat}{A:Around}(r:Room k A):A.units+60<cLine:=by have:=r.un;omega
end
end PX
namespace PX
open PySem L2 PySem.Spec PyProof.Rows
section
variable {X:Cx}{A:Nat->Addr}{o e:Expr}{es:List Expr}{xa xb:XE}{aa:XA}{pos apos pos':Pos}{m f:Str}{n k kc:Nat}{pl:Sem Bool}{p:Fn}{fa:Addr}{fd:FuncData}{ps:List Str}
theorem yW (ho:ZE X A o xa) (c:Cls X.K (A kc)) (hm:ylx X.K (A kc) m fa) (F:FnOk X.prog X.w X.K X.mg X.base CX0 k fa fd ps (spE (ckX X A) (n+1) p)) (hr:Room k X.A) (hb:Binds X.K fd ps []) (ha:ZA X A (e::es) n aa)
  (hst:starEach (e::es) X.env=(false,eval e X.env)::starEach es X.env) (hpl:(backTo pos (starEach es X.env)).any (·.1)=false)
  (ht:eval (.Call (.Attribute o m apos) (e::es) [] pos) X.env=(do
   let ov <- eval o X.env
   standAt apos.atName
   let (f,first) <- holding [ov] (getMethod ov m pl)
   callWith pos f first (backTo pos (starEach (e::es) X.env)) (backToKw pos (keywordEach [] X.env)))) :
  ZE X A (.Call (.Attribute o m apos) (e::es) [] pos) (yR kc m p xa aa):=wE (yFf ho.of c hm F hr hb .nil yxt ha.of hst hpl ht) (ytp (K:=ckX X A) sE sA ha.len)
theorem ykw (ho:ZE X A o xa) (c:Cls X.K (A kc)) (hm:ylx X.K (A kc) m fa) (F:FnOk X.prog X.w X.K X.mg X.base CX0 k fa fd ps (spE (ckX X A) 1 p)) (hr:Room k X.A) (hb:Binds X.K fd ps [])
  (ht:eval (.Call (.Attribute o m apos) [] [] pos) X.env=(do
   let ov <- eval o X.env
   standAt apos.atName
   let (f,first) <- holding [ov] (getMethod ov m pl)
   callWith pos f first (backTo pos (starEach [] X.env)) (backToKw pos (keywordEach [] X.env)))) :
  ZE X A (.Call (.Attribute o m apos) [] [] pos) (yR kc m p xa yr):=wE (yBx ho.of c hm F hr hb .nil yxt ht) (ytp (K:=ckX X A) (n:=0) sE yoy yve)
theorem yGC {cs:List Nat}{value:Expr}(hc:∀ k∈cs,Cls X.K (A k)/\NoAttr X.K (A k) f) (ho:ZE X A o xa) (hv:ZE X A value xb) (hs:swapsWith value (some (.Attribute o f pos')) pos.line X.env=pure false) :
  ZS X A (.Assign [.Attribute o f pos'] value pos) (yzD cs f xa xb):=wS (yDv ho.of hv.of hs) (yCv (K:=ckX X A) hc sE sE)
end
end PX
namespace KasS
open PySem PySem.W PyProof.Rows
def run {α:Type}(lt:Nat->Nat->Bool):KasT α->α
 | .ret a=>a
 | .ask i j k=>run lt (k (lt i j))
theorem ykx {α β:Type}(lt:Nat->Nat->Bool) (f:α->KasT β):∀ t:KasT α,run lt (t.bind f)=run lt (f (run lt t))
 | .ret _=>rfl
 | .ask i j k=>ykx lt f (k (lt i j))
section
variable (key:Nat->Int)
def ltK (i j:Nat):Bool:=decide (key i<key j)
def Kp (p:Array Nat) (i:Nat):Int:=key (p[i]?.getD 0)
def Up (p:Array Nat) (k:Nat):Prop:=∀ i j,i<=j->j<k->Kp key p i<=Kp key p j
def Dn (p:Array Nat) (k:Nat):Prop:=∀ i j,i<=j->j<k->Kp key p j<=Kp key p i
variable {key}
theorem yoM (p:Array Nat) (i:Nat):p.getD i 0=p[i]?.getD 0:=by simp [Array.getD_eq_getD_getElem?]
theorem yzV (p:Array Nat) (i j:Nat):ltK key (p.getD i 0) (p.getD j 0)=decide (Kp key p i<Kp key p j):=by rw [yoM,yoM];rfl
theorem Up.succ {p:Array Nat}{n:Nat}(h:Up key p n) (h1:1<=n) (hn:Kp key p (n-1)<=Kp key p n):Up key p (n+1):=fun i j hij hj=>by
 by_cases e:j=n
 .subst e
  by_cases e2:i=j
  .subst e2;exact Int.le_refl _
  .exact Int.le_trans (h i (j-1) (by omega) (by omega)) hn
 .exact h i j hij (by omega)
theorem Dn.succ {p:Array Nat}{n:Nat}(h:Dn key p n) (h1:1<=n) (hn:Kp key p n<=Kp key p (n-1)):Dn key p (n+1):=fun i j hij hj=>by
 by_cases e:j=n
 .subst e
  by_cases e2:i=j
  .subst e2;exact Int.le_refl _
  .exact Int.le_trans hn (h i (j-1) (by omega) (by omega))
 .exact h i j hij (by omega)
theorem yzW (p:Array Nat):∀ (f n:Nat),1<=n->Up key p n->n<=run (ltK key) (kas_asc p f n)/\run (ltK key) (kas_asc p f n)<=n+f/\Up key p (run (ltK key) (kas_asc p f n))/\(run (ltK key) (kas_asc p f n)<n+f->Kp key p (run (ltK key) (kas_asc p f n))<Kp key p (run (ltK key) (kas_asc p f n)-1))
 | 0,n,_,h=>⟨Nat.le_refl _,Nat.le_refl _,h,fun z=>by exact absurd z (Nat.lt_irrefl _)⟩
 | f+1,n,h1,h=>by
  have e:run (ltK key) (kas_asc p (f+1) n)=run (ltK key) (if ltK key (p.getD n 0) (p.getD (n-1) 0)=true then .ret n else kas_asc p f (n+1)):=rfl
  rw [e,yzV]
  by_cases hc:Kp key p n<Kp key p (n-1)
  .rw [decide_eq_true hc,if_pos rfl]
   exact ⟨Nat.le_refl _,by show n<=n+(f+1);omega,h,fun _=>hc⟩
  .rw [decide_eq_false hc,if_neg (by simp)]
   obtain ⟨a,b,c,d⟩:=yzW p f (n+1) (by omega) (h.succ h1 (by omega))
   exact ⟨by omega,by omega,c,fun z=>d (by omega)⟩
theorem yzX {p:Array Nat}{i j:Nat}(hj:j<=p.size) (k:Nat):Kp key (kas_rev p i j) k=if i<=k/\k<j then Kp key p (i+j-1-k) else Kp key p k:=by
 unfold Kp kas_rev
 rw [getElem?_mirror_all hj]
 split<;>rfl
theorem yiO (p:Array Nat) (i j:Nat):(kas_rev p i j).size=p.size:=mirror_size _ _ _ _
theorem ygL (p:Array Nat) (i j:Nat):(kas_rev p i j).Perm p:=mirror_perm _ _ _ _
theorem yoN {p:Array Nat}{i j:Nat}(hj:j<=p.size) (he:∀ k,i<=k->k<j->Kp key p k=Kp key p (j-1)) (k:Nat):Kp key (kas_rev p i j) k=Kp key p k:=by
 rw [yzX hj]
 split
 .rename_i h
  rw [he (i+j-1-k) (by omega) (by omega),he k h.1 h.2]
 .rfl
theorem yrw:∀ (f:Nat) (p:Array Nat) (n q:Nat),n+f<=p.size->q+1<=n->Dn key p n->(∀ k,n-(q+1)<=k->k<n->Kp key p k=Kp key p (n-1)) ->
  let r:=run (ltK key) (kas_desc f p n q)
  r.1.Perm p/\r.1.size=p.size/\n<=r.2.1/\r.2.1<=n+f/\r.2.2+1<=r.2.1/\Dn key r.1 r.2.1/\(∀ k,r.2.1-(r.2.2+1)<=k->k<r.2.1->Kp key r.1 k=Kp key r.1 (r.2.1-1))
 | 0,p,n,q,hs,hq,hd,he=>⟨Array.Perm.refl _,rfl,Nat.le_refl _,Nat.le_refl _,hq,hd,he⟩
 | f+1,p,n,q,hs,hq,hd,he=>by
  intro r
  have e:r=run (ltK key) (if ltK key (p.getD n 0) (p.getD (n-1) 0)=true then (if q>0 then kas_desc f (kas_rev p (n-(q+1)) n) (n+1) 0 else kas_desc f p (n+1) 0)
   else .ask (p.getD (n-1) 0) (p.getD n 0) fun d=>if d=true then .ret (p,n,q) else kas_desc f p (n+1) (q+1)):=rfl
  rw [yzV] at e
  by_cases hc:Kp key p n<Kp key p (n-1)
  .rw [decide_eq_true hc,if_pos rfl] at e
   by_cases h0:q>0
   .rw [if_pos h0] at e
    have kk:∀ k,Kp key (kas_rev p (n-(q+1)) n) k=Kp key p k:=fun k=>yoN (by omega) he k
    have hd':Dn key (kas_rev p (n-(q+1)) n) (n+1):=fun i j hij hj=>by
     rw [kk,kk]
     exact hd.succ (by omega) (by omega) i j hij hj
    obtain ⟨a1,a2,a3,a4,a5,a6,a7⟩:=yrw f (kas_rev p (n-(q+1)) n) (n+1) 0 (by rw [yiO];omega) (by omega) hd' (fun k h1 h2=>by rw [show k=n+1-1 by omega])
    rw [e]
    exact ⟨a1.trans (ygL _ _ _),a2.trans (yiO _ _ _),by omega,by omega,a5,a6,a7⟩
   .rw [if_neg h0] at e
    obtain ⟨a1,a2,a3,a4,a5,a6,a7⟩:=yrw f p (n+1) 0 (by omega) (by omega) (hd.succ (by omega) (by omega)) (fun k h1 h2=>by rw [show k=n+1-1 by omega])
    rw [e]
    exact ⟨a1,a2,by omega,by omega,a5,a6,a7⟩
  .rw [decide_eq_false hc,if_neg (by simp)] at e
   have e:r=run (ltK key) (if ltK key (p.getD (n-1) 0) (p.getD n 0)=true then .ret (p,n,q) else kas_desc f p (n+1) (q+1)):=e
   rw [yzV] at e
   by_cases hc2:Kp key p (n-1)<Kp key p n
   .rw [decide_eq_true hc2,if_pos rfl] at e
    rw [e]
    exact ⟨Array.Perm.refl _,rfl,Nat.le_refl _,by show n<=n+(f+1);omega,hq,hd,he⟩
   .rw [decide_eq_false hc2,if_neg (by simp)] at e
    have heq:Kp key p n=Kp key p (n-1):=by omega
    obtain ⟨a1,a2,a3,a4,a5,a6,a7⟩:=yrw f p (n+1) (q+1) (by omega) (by omega) (hd.succ (by omega) (by omega)) (fun k h1 h2=>by
     by_cases hk:k=n
     .rw [hk];rfl
     .rw [he k (by omega) (by omega),show n+1-1=n by omega,heq])
    rw [e]
    exact ⟨a1,a2,by omega,by omega,a5,a6,a7⟩
theorem Dn.rev {p:Array Nat}{n:Nat}(hn:n<=p.size) (h:Dn key p n):Up key (kas_rev p 0 n) n:=fun i j hij hj=>by
 rw [yzX hn,yzX hn,if_pos ⟨by omega,by omega⟩,if_pos ⟨by omega,by omega⟩]
 exact h _ _ (by omega) (by omega)
theorem ywR {p:Array Nat}{n nrem:Nat}(h1:1<=n) (hn:n<=nrem) (hs:nrem<=p.size) (h:Dn key p n) :
  let r:=run (ltK key) (kas_tail3 n nrem p)
  r.2.Perm p/\r.2.size=p.size/\1<=r.1/\r.1<=nrem/\Up key r.2 r.1:=by
 intro r
 have e:r=(run (ltK key) (kas_asc (kas_rev p 0 n) (nrem-n) n),kas_rev p 0 n):=by show run _ (KasT.bind _ _)=_;rw [ykx];rfl
 obtain ⟨a,b,c,_⟩:=yzW (kas_rev p 0 n) (nrem-n) n h1 (h.rev (by omega))
 rw [e]
 exact ⟨ygL _ _ _,yiO _ _ _,by omega,by omega,c⟩
theorem yoO {p:Array Nat}{n nrem:Nat}(h1:1<=n) (hn:n<nrem) (hs:nrem<=p.size) (h:Dn key p (n+1)) :
  let r:=run (ltK key) (kas_descPart n nrem p)
  r.2.Perm p/\r.2.size=p.size/\1<=r.1/\r.1<=nrem/\Up key r.2 r.1:=by
 intro r
 obtain ⟨a1,a2,a3,a4,a5,a6,a7⟩:=yrw (key:=key) (nrem-(n+1)) p (n+1) 0 (by omega) (by omega) h (fun k h1 h2=>by rw [show k=n+1-1 by omega])
 generalize hd:run (ltK key) (kas_desc (nrem-(n+1)) p (n+1) 0)=d at *
 have e:r=run (ltK key) (if d.2.2>0 then kas_tail3 d.2.1 nrem (kas_rev d.1 (d.2.1-(d.2.2+1)) d.2.1) else kas_tail3 d.2.1 nrem d.1):=by show run _ (KasT.bind _ _)=_;rw [ykx,hd]
 by_cases h0:d.2.2>0
 .rw [if_pos h0] at e
  have kk:∀ k,Kp key (kas_rev d.1 (d.2.1-(d.2.2+1)) d.2.1) k=Kp key d.1 k:=fun k=>yoN (by omega) a7 k
  obtain ⟨b1,b2,b3,b4,b5⟩:=ywR (key:=key) (p:=kas_rev d.1 (d.2.1-(d.2.2+1)) d.2.1) (n:=d.2.1) (nrem:=nrem) (by omega) (by omega) (by rw [yiO];omega) (fun i j hij hj=>by rw [kk,kk];exact a6 i j hij hj)
  rw [e]
  exact ⟨b1.trans ((ygL _ _ _).trans a1),b2.trans ((yiO _ _ _).trans a2),b3,b4,b5⟩
 .rw [if_neg h0] at e
  obtain ⟨b1,b2,b3,b4,b5⟩:=ywR (key:=key) (p:=d.1) (n:=d.2.1) (nrem:=nrem) (by omega) (by omega) (by omega) a6
  rw [e]
  exact ⟨b1.trans a1,b2.trans a2,b3,b4,b5⟩
theorem ywS {p:Array Nat}{nrem:Nat}(h1:1<=nrem) (hs:nrem<=p.size) :
  let r:=run (ltK key) (kas_count nrem p)
  r.2.Perm p/\r.2.size=p.size/\1<=r.1/\r.1<=nrem/\Up key r.2 r.1:=by
 intro r
 obtain ⟨a,b,c,d⟩:=yzW (key:=key) p (nrem-1) 1 (Nat.le_refl _) (fun i j hij hj=>by rw [show i=j by omega];exact Int.le_refl _)
 generalize hn:run (ltK key) (kas_asc p (nrem-1) 1)=n at *
 have e:r=run (ltK key) (if (n == nrem)=true then .ret (n,p) else if n>1 then .ask (p.getD 0 0) (p.getD (n-1) 0) fun c=>if c=true then .ret (n,p) else kas_descPart n nrem (kas_rev p 0 n)
  else kas_descPart n nrem p):=by show run _ (KasT.bind _ _)=_;rw [ykx,hn]
 by_cases e1:n=nrem
 .rw [if_pos (by simp [e1])] at e
  rw [e]
  exact ⟨Array.Perm.refl _,rfl,a,by show n<=nrem;omega,c⟩
 .rw [if_neg (by simp [e1])] at e
  have dn:=d (by omega)
  by_cases h2:n>1
  .rw [if_pos h2] at e
   have e:r=run (ltK key) (if ltK key (p.getD 0 0) (p.getD (n-1) 0)=true then .ret (n,p) else kas_descPart n nrem (kas_rev p 0 n)):=e
   rw [yzV] at e
   by_cases hc:Kp key p 0<Kp key p (n-1)
   .rw [decide_eq_true hc,if_pos rfl] at e
    rw [e]
    exact ⟨Array.Perm.refl _,rfl,a,by show n<=nrem;omega,c⟩
   .rw [decide_eq_false hc,if_neg (by simp)] at e
    have eqs:∀ k,0<=k->k<n->Kp key p k=Kp key p (n-1):=fun k _ hk=>by
     have u1:=c 0 k (by omega) hk
     have u2:=c k (n-1) (by omega) (by omega)
     omega
    have kk:∀ k,Kp key (kas_rev p 0 n) k=Kp key p k:=fun k=>yoN (by omega) eqs k
    have hdn:Dn key (kas_rev p 0 n) (n+1):=fun i j hij hj=>by
     rw [kk,kk]
     by_cases ej:j=n
     .subst ej
      by_cases ei:i=j
      .rw [ei];exact Int.le_refl _
      .rw [eqs i (by omega) (by omega)];omega
     .rw [eqs i (by omega) (by omega),eqs j (by omega) (by omega)];exact Int.le_refl _
    obtain ⟨b1,b2,b3,b4,b5⟩:=yoO (key:=key) (p:=kas_rev p 0 n) (n:=n) (nrem:=nrem) a (by omega) (by rw [yiO];omega) hdn
    rw [e]
    exact ⟨b1.trans (ygL _ _ _),b2.trans (yiO _ _ _),b3,b4,b5⟩
  .rw [if_neg h2] at e
   have hn1:n=1:=by omega
   subst hn1
   obtain ⟨b1,b2,b3,b4,b5⟩:=yoO (key:=key) (p:=p) (n:=1) (nrem:=nrem) (by omega) (by omega) hs (fun i j hij hj=>by
    by_cases e3:i=j
    .rw [e3];exact Int.le_refl _
    .rw [show i=0 by omega,show j=1 by omega]
     exact Int.le_of_lt dn)
   rw [e]
   exact ⟨b1,b2,b3,b4,b5⟩
theorem yrx {p:Array Nat}{k:Nat}(hu:Up key p k):∀ (f l r:Nat),r<=k->l<=r->r-l<=f->(∀ i,i<l->Kp key p i<=Kp key p k)->(∀ i,r<=i->i<k->Kp key p k<Kp key p i) ->
  let m:=run (ltK key) (kas_place p k f l r)
  m<=k/\(∀ i,i<m->Kp key p i<=Kp key p k)/\(∀ i,m<=i->i<k->Kp key p k<Kp key p i)
 | 0,l,r,hr,hl,hf,h1,h2=>by
  have:l=r:=by omega
  subst this
  exact ⟨hr,h1,h2⟩
 | f+1,l,r,hr,hl,hf,h1,h2=>by
  intro m
  have e:m=run (ltK key) (if l>=r then .ret l else .ask (p.getD k 0) (p.getD ((l+r)/2) 0) fun c=>if c=true then kas_place p k f l ((l+r)/2) else kas_place p k f ((l+r)/2+1) r):=rfl
  by_cases hlr:l>=r
  .rw [if_pos hlr] at e
   have:l=r:=by omega
   subst this
   rw [e]
   exact ⟨hr,h1,h2⟩
  .rw [if_neg hlr] at e
   have e:m=run (ltK key) (if ltK key (p.getD k 0) (p.getD ((l+r)/2) 0)=true then kas_place p k f l ((l+r)/2) else kas_place p k f ((l+r)/2+1) r):=e
   rw [yzV] at e
   by_cases hc:Kp key p k<Kp key p ((l+r)/2)
   .rw [decide_eq_true hc,if_pos rfl] at e
    rw [e]
    exact yrx hu f l ((l+r)/2) (by omega) (by omega) (by omega) h1 (fun i h3 h4=>by have:=hu ((l+r)/2) i h3 h4;omega)
   .rw [decide_eq_false hc,if_neg (by simp)] at e
    rw [e]
    exact yrx hu f ((l+r)/2+1) r hr (by omega) (by omega) (fun i h3=>by have:=hu i ((l+r)/2) (by omega) (by omega);omega) h2
theorem yzY {p:Array Nat}{src d:Nat}(hs:src<p.size) (hd:d<=src) (k:Nat):Kp key (bubble p src d) k=if k=src-d then Kp key p src else if src-d<k/\k<=src then Kp key p (k-1) else Kp key p k:=by
 unfold Kp
 rw [getElem?_bubble hs d hd]
 repeat' split
 all_goals rfl
theorem yDZ:∀ (f:Nat) (p:Array Nat) (k:Nat),k+f<=p.size->Up key p k->(run (ltK key) (kas_bin f p k)).Perm p/\Up key (run (ltK key) (kas_bin f p k)) (k+f)
 | 0,p,k,_,h=>⟨Array.Perm.refl _,h⟩
 | f+1,p,k,hs,h=>by
  obtain ⟨a1,a2,a3⟩:=yrx (key:=key) h k 0 k (Nat.le_refl _) (by omega) (by omega) (fun i hi=>by omega) (fun i h1 h2=>by omega)
  generalize hl:run (ltK key) (kas_place p k k 0 k)=l at *
  have e:run (ltK key) (kas_bin (f+1) p k)=run (ltK key) (kas_bin f (bubble p k (k-l)) (k+1)):=by show run _ (KasT.bind _ _)=_;rw [ykx,hl]
  have hk:∀ i,Kp key (bubble p k (k-l)) i=if i=l then Kp key p k else if l<i/\i<=k then Kp key p (i-1) else Kp key p i:=fun i=>by
   rw [yzY (by omega) (by omega),show k-(k-l)=l by omega]
  have hu:Up key (bubble p k (k-l)) (k+1):=fun i j hij hj=>by
   rw [hk,hk]
   by_cases i1:i=l
   .rw [if_pos i1]
    by_cases j1:j=l
    .rw [if_pos j1];exact Int.le_refl _
    .rw [if_neg j1,if_pos ⟨by omega,by omega⟩]
     have:=a3 (j-1) (by omega) (by omega);omega
   .rw [if_neg i1]
    by_cases i2:l<i/\i<=k
    .rw [if_pos i2,if_neg (by omega),if_pos ⟨by omega,by omega⟩]
     exact h _ _ (by omega) (by omega)
    .rw [if_neg i2]
     have il:i<l:=by omega
     by_cases j1:j=l
     .rw [if_pos j1];exact a2 i il
     .rw [if_neg j1]
      split
      .exact h _ _ (by omega) (by omega)
      .exact h _ _ (by omega) (by omega)
  obtain ⟨b1,b2⟩:=yDZ f (bubble p k (k-l)) (k+1) (by rw [bubble_size];omega) hu
  rw [e]
  exact ⟨b1.trans (bubble_perm _ _ _),by rw [show k+(f+1)=k+1+f by omega];exact b2⟩
theorem yzZ {n:Nat}(h1:1<=n):(run (ltK key) (kas_sort n)).Perm (List.toArray (List.range n))/\Up key (run (ltK key) (kas_sort n)) n:=by
 have hs:(List.toArray (List.range n)).size=n:=by simp
 obtain ⟨a1,a2,a3,a4,a5⟩:=ywS (key:=key) (p:=List.toArray (List.range n)) (nrem:=n) h1 (by omega)
 generalize hr:run (ltK key) (kas_count n (List.toArray (List.range n)))=r at *
 have e:run (ltK key) (kas_sort n)=run (ltK key) (if r.1<n then kas_bin (n-max r.1 1) r.2 (max r.1 1) else .ret r.2):=by show run _ (KasT.bind _ _)=_;rw [ykx,hr]
 by_cases h:r.1<n
 .rw [if_pos h] at e
  obtain ⟨b1,b2⟩:=yDZ (key:=key) (n-max r.1 1) r.2 (max r.1 1) (by omega) (by rw [Nat.max_eq_left a3];exact a5)
  rw [e]
  exact ⟨b1.trans a1,by rw [show max r.1 1+(n-max r.1 1)=n by omega] at b2;exact b2⟩
 .rw [if_neg h] at e
  rw [e]
  exact ⟨a1,by rw [show n=r.1 by omega];exact a5⟩
noncomputable def AskIn {α:Type}(P:Nat->Prop) (lt:Nat->Nat->Bool):KasT α->Prop
 | .ret _=>True
 | .ask i j k=>P i/\P j/\AskIn P lt (k (lt i j))
theorem AskIn.bind {α β:Type}{P:Nat->Prop}{lt:Nat->Nat->Bool}{f:α->KasT β}:∀ {t:KasT α},AskIn P lt t->AskIn P lt (f (run lt t))->AskIn P lt (t.bind f)
 | .ret _,_,h=>h
 | .ask _ _ _,⟨a,b,c⟩,h=>⟨a,b,AskIn.bind c h⟩
theorem yJa {α:Type}{P:Nat->Prop}{lt:Nat->Nat->Bool}{cmp:Nat->Nat->(Bool->Shared->Prop)->Shared->Prop}{s:Shared}(hc:∀ i j C,P i->P j->C (lt i j) s->cmp i j C s) {Q:α->Shared->Prop} :
  ∀ (t:KasT α),AskIn P lt t->Q (run lt t) s->t.kasWp cmp Q s
 | .ret _,_,h=>h
 | .ask i j k,⟨a,b,c⟩,h=>hc i j _ a b (yJa hc (k (lt i j)) c h)
section
variable {P:Nat->Prop}{lt:Nat->Nat->Bool}
def All (P:Nat->Prop) (p:Array Nat):Prop:=∀ i,P (p.getD i 0)
theorem All.of_perm {p q:Array Nat}(h0:P 0) (h:All P p) (e:q.Perm p):All P q:=fun i=>by
 rw [yoM]
 by_cases hi:i<q.size
 .rw [Array.getElem?_eq_getElem hi]
  show P q[i]
  have hm:q[i]∈p:=(e.mem_iff).mp (Array.getElem_mem hi)
  obtain ⟨j,hj,e2⟩:=Array.getElem_of_mem hm
  have:=h j
  rw [yoM,Array.getElem?_eq_getElem hj] at this
  rw [<- e2];exact this
 .rw [Array.getElem?_eq_none (by omega)];exact h0
theorem yAa {p:Array Nat}(h:All P p):∀ (f n:Nat),AskIn P lt (kas_asc p f n)
 | 0,_=>trivial
 | f+1,n=>⟨h _,h _,by show AskIn P lt (if _ then _ else _);split;trivial;exact yAa h f (n+1)⟩
theorem yry (h0:P 0):∀ (f:Nat) (p:Array Nat) (n q:Nat),All P p->AskIn P lt (kas_desc f p n q)
 | 0,_,_,_,_=>trivial
 | f+1,p,n,q,h=>by
  refine ⟨h _,h _,?_⟩
  show AskIn P lt (if _ then _ else _)
  split
  .split
   .exact yry h0 f _ _ _ (h.of_perm h0 (ygL _ _ _))
   .exact yry h0 f _ _ _ h
  .refine ⟨h _,h _,?_⟩
   show AskIn P lt (if _ then _ else _)
   split
   .trivial
   .exact yry h0 f _ _ _ h
theorem ylL:∀ (f:Nat) (p:Array Nat) (n q:Nat),(run lt (kas_desc f p n q)).1.Perm p
 | 0,_,_,_=>Array.Perm.refl _
 | f+1,p,n,q=>by
  show (run lt (if lt (p.getD n 0) (p.getD (n-1) 0)=true then (if q>0 then kas_desc f (kas_rev p (n-(q+1)) n) (n+1) 0 else kas_desc f p (n+1) 0)
   else .ask (p.getD (n-1) 0) (p.getD n 0) fun d=>if d=true then .ret (p,n,q) else kas_desc f p (n+1) (q+1))).1.Perm p
  split
  .split
   .exact (ylL f _ _ _).trans (ygL _ _ _)
   .exact ylL f _ _ _
  .show (run lt (if lt (p.getD (n-1) 0) (p.getD n 0)=true then .ret (p,n,q) else kas_desc f p (n+1) (q+1))).1.Perm p
   split
   .exact Array.Perm.refl _
   .exact ylL f _ _ _
theorem ywT (h0:P 0) {p:Array Nat}(h:All P p) (n nrem:Nat):AskIn P lt (kas_tail3 n nrem p):=AskIn.bind (yAa (h.of_perm h0 (ygL _ _ _)) _ _) trivial
theorem yoP (h0:P 0) {p:Array Nat}(h:All P p) (n nrem:Nat):AskIn P lt (kas_descPart n nrem p):=by
 refine AskIn.bind (yry h0 _ _ _ _ h) ?_
 have:=h.of_perm h0 (ylL (lt:=lt) (nrem-(n+1)) p (n+1) 0)
 split
 .exact ywT h0 (this.of_perm h0 (ygL _ _ _)) _ _
 .exact ywT h0 this _ _
theorem yCH (h0:P 0) {p:Array Nat}(h:All P p) (nrem:Nat):AskIn P lt (kas_count nrem p):=by
 refine AskIn.bind (yAa h _ _) ?_
 split
 .trivial
 .split
  .refine ⟨h _,h _,?_⟩
   show AskIn P lt (if _ then _ else _)
   split
   .trivial
   .exact yoP h0 (h.of_perm h0 (ygL _ _ _)) _ _
  .exact yoP h0 h _ _
theorem yrz {p:Array Nat}(h:All P p) (k:Nat):∀ (f l r:Nat),AskIn P lt (kas_place p k f l r)
 | 0,_,_=>trivial
 | f+1,l,r=>by
  show AskIn P lt (if _ then _ else _)
  split
  .trivial
  .refine ⟨h _,h _,?_⟩
   show AskIn P lt (if _ then _ else _)
   split
   .exact yrz h k f _ _
   .exact yrz h k f _ _
theorem yEa (h0:P 0):∀ (f:Nat) (p:Array Nat) (k:Nat),All P p->AskIn P lt (kas_bin f p k)
 | 0,_,_,_=>trivial
 | f+1,p,k,h=>AskIn.bind (yrz h k _ _ _) (yEa h0 f _ _ (h.of_perm h0 (bubble_perm _ _ _)))
end
theorem yGD {n:Nat}(h1:1<=n):AskIn (· < n) (ltK key) (kas_sort n):=by
 have h:All (· < n) (List.toArray (List.range n)):=fun i=>by
  rw [yoM]
  by_cases hi:i<n
  .simp [hi]
  .simp [hi];omega
 refine AskIn.bind (yCH (by omega) h n) ?_
 obtain ⟨a1,_⟩:=ywS (key:=key) (p:=List.toArray (List.range n)) (nrem:=n) h1 (by simp)
 split
 .exact yEa (by omega) _ _ _ (h.of_perm (by omega) a1)
 .trivial
end
end KasS
namespace KasS
open PySem PySem.W PyProof.Rows PySem.Calls
noncomputable def Tps (h:Heap):List Value->List (Int×Tok×Value)->Prop
 | [],[]=>True
 | v::vs,p::ps=>(∃ b o m,v=.ref b/\h.get? b=some o/\o.cls=.type "tuple"/\o.data=.seq #[.int p.1 p.2.1,p.2.2] m)/\Tps h vs ps
 | _,_=>False
theorem Tps.len {h:Heap}:∀ {vs:List Value}{ps:List (Int×Tok×Value)},Tps h vs ps->ps.length=vs.length
 | [],[],_=>rfl
 | _::_,_::_,⟨_,t⟩=>by rw [List.length_cons,List.length_cons,Tps.len t]
 | [],_::_,t=>t.elim
 | _::_,[],t=>t.elim
theorem Tps.get {h:Heap}:∀ {vs:List Value}{ps:List (Int×Tok×Value)},Tps h vs ps->∀ i,i<vs.length->∃ p b o m,ps[i]?=some p/\vs.getD i .none=.ref b/\h.get? b=some o/\o.cls=.type "tuple"/\o.data=.seq #[.int p.1 p.2.1,p.2.2] m
 | _::_,p::_,⟨⟨b,o,m,e1,e2,e3,e4⟩,_⟩,0,_=>⟨p,b,o,m,rfl,by rw [e1];rfl,e2,e3,e4⟩
 | _::vs,_::ps,⟨_,t⟩,i+1,hi=>by
  obtain ⟨p,b,o,m,e1,e2,e3⟩:=Tps.get t i (by simpa using hi)
  exact ⟨p,b,o,m,by simpa using e1,by simpa using e2,e3⟩
 | [],[],_,_,hi=>by simp at hi
 | [],_::_,t,_,_=>t.elim
 | _::_,[],t,_,_=>t.elim
theorem Tps.mono {h h':Heap}:∀ {vs:List Value}{ps:List (Int×Tok×Value)},Tps h vs ps->(∀ b o,Value.ref b∈vs->h.get? b=some o->h'.get? b=some o)->Tps h' vs ps
 | [],[],_,_=>trivial
 | _::_,_::_,⟨⟨b,o,m,e1,e2,e3⟩,t⟩,k=>⟨⟨b,o,m,e1,k b o (by rw [e1];exact List.mem_cons_self) e2,e3⟩,Tps.mono t fun b o hb=>k b o (List.mem_cons_of_mem _ hb)⟩
 | [],_::_,t,_=>t.elim
 | _::_,[],t,_=>t.elim
theorem Tps.kat {h:Heap}:∀ {vs:List Value}{ps:List (Int×Tok×Value)},Tps h vs ps->KatTups h vs (ps.map fun p=>Value.int p.1 p.2.1)
 | [],[],_=>trivial
 | _::_,p::_,⟨⟨b,o,m,e1,e2,e3,e4⟩,t⟩=>⟨⟨b,o,_,m,e1,e2,e3,e4,rfl⟩,Tps.kat t⟩
 | [],_::_,t=>t.elim
 | _::_,[],t=>t.elim
def ykT (ps:List (Int×Tok×Value)) (i:Nat):Int:=((ps[i]?).map (·.1)).getD 0
theorem yAb {ps:List (Int×Tok×Value)}(hn:(ps.map (·.1)).Nodup) {i j:Nat}(hi:i<ps.length) (hj:j<ps.length) (e:ykT ps i=ykT ps j):i=j:=by
 unfold ykT at e
 rw [List.getElem?_eq_getElem hi,List.getElem?_eq_getElem hj] at e
 have e:ps[i].1=ps[j].1:=e
 have h1:i<(ps.map (·.1)).length:=by simpa using hi
 have h2:j<(ps.map (·.1)).length:=by simpa using hj
 exact (List.getElem_inj (h₀:=h1) (h₁:=h2) hn).mp (by simpa using e)
section
variable {prog:Program}{w:World}{A:Around}{E:Value->Shared->Prop}{s:Shared}
theorem yGE {vs:List Value}{ps:List (Int×Tok×Value)}(tp:Tps s.heap vs ps) (hn:(ps.map (·.1)).Nodup) (i j:Nat) (C:Bool->Shared->Prop) (hi:i<vs.length) (hj:j<vs.length) (hC:C (ltK (ykT ps) i j) s) :
  kas_ask prog w A (tuples' true) vs i j C s:=by
 obtain ⟨p,b,o,m,e1,e2,e3,e4,e5⟩:=tp.get i hi
 obtain ⟨p',b',o',m',f1,f2,f3,f4,f5⟩:=tp.get j hj
 have k1:ykT ps i=p.1:=by unfold ykT;rw [e1];rfl
 have k2:ykT ps j=p'.1:=by unfold ykT;rw [f1];rfl
 unfold ltK at hC
 rw [k1,k2] at hC
 unfold kas_ask
 rw [e2,f2]
 refine kat_lt e3 e5 f3 f5 ?_
 show KatLex prog w A true (decide (2<2)) C [(Value.int p.1 p.2.1,Value.int p'.1 p'.2.1),(p.2.2,p'.2.2)] 0 s
 refine kat_cons (L2.eqAt_V (y:=.int p.1) (x:=.int p'.1) ⟨_,rfl⟩ ⟨_,rfl⟩ rfl rfl prog w _ _ ?_)
 show KatGo prog w A true _ C _ _ _ 0 (p.1 == p'.1) s
 by_cases e:p.1=p'.1
 .rw [beq_iff_eq.mpr e]
  have hij:i=j:=yAb hn (by rw [tp.len];exact hi) (by rw [tp.len];exact hj) (by rw [k1,k2,e])
  subst hij
  rw [e1] at f1
  cases f1
  refine kat_yes (kat_cons (SeqAt.EqAt.same _ prog w _ _ (kat_yes (kat_nil ?_))))
  rw [decide_eq_false (by omega)] at hC
  exact hC
 .rw [beq_eq_false_iff_ne.mpr e]
  exact kat_no (oneLt_int hC)
theorem yCI {a:Addr}{vs:List Value}{ps:List (Int×Tok×Value)}{n:Nat}{P:PySem.Fin->Shared->Prop}(ho:s.heap.get? a=some (seqObj "list" vs.toArray n)) (tp:Tps s.heap vs ps) (na:Value.ref a∉vs) (hn:(ps.map (·.1)).Nodup) (h64:vs.length<64)
  (h:∀ q:Array Nat,q.Perm (List.toArray (List.range vs.length))->Up (ykT ps) q vs.length->P (.done (.ret .none)) { s with heap:=sortedHeap s.heap a vs (List.toArray (q.toList.map fun i=>vs.getD i Value.none)) }) :
  wpAny (model prog w) A (Builtin.«list.sort» ⟨[.ref a],[]⟩) P E s:=by
 have ha:a<s.heap.objs.size:=Heap.lt_size ho
 have z64:vs.length<=sizeLine:=by rw [sizeLine_eq];omega
 rw [list_sort_plain]
 obtain ⟨e1,ho1⟩:∃ e1,(s.heap.update a (Obj.mapSeq fun _=>(#[]:Array Value))).get? a=some (seqObj "list" #[] e1):=⟨_,get?_update_seq ho _⟩
 refine wpAny_bind (listItems_at ho rfl (wpAny_bind (listUpdate_at ho rfl (wpAny_bind (seqEpoch_at ho1 rfl (wpAny_bind (wpAny_newTuple (wpAny_bind (wpAny_newList (wpAny_holding ?_) (Nat.zero_le _))) (by simpa using z64))))) (by simpa using z64) (Nat.zero_le _))))
 generalize hH:((s.heap.update a (Obj.mapSeq fun _=>(#[]:Array Value))).push (seqObj "tuple" vs.toArray 0)).push (seqObj "list" #[] 0)=H6
 have keep:∀ b o,b≠a->s.heap.get? b=some o->H6.get? b=some o:=fun b o hb e=>by
  rw [<- hH]
  exact Heap.get?_push_of_some _ (Heap.get?_push_of_some _ ((Heap.get?_update_other _ _ (Ne.symm hb)).trans e))
 have ho6:H6.get? a=some (seqObj "list" #[] e1):=by rw [<- hH];exact Heap.get?_push_of_some _ (Heap.get?_push_of_some _ ho1)
 have tp6:Tps H6 vs ps:=tp.mono fun b o hb e=>keep b o (fun z=>na (z ▸ hb)) e
 show wpAny (model prog w) A _ P E { s with heap:=H6 }
 dsimp only
 have fin:∀ q:Array Nat,q.Perm (List.toArray (List.range vs.length))->Up (ykT ps) q vs.length->P (.done (.ret .none)) { s with heap:=H6.update a (Obj.mapSeq fun _=>List.toArray (q.toList.map fun i=>vs.getD i Value.none)) }:=fun q h1 h2=>by
  have:=h q h1 h2
  unfold sortedHeap at this
  rw [show ((s.heap.update a (Obj.mapSeq fun _=>(#[]:Array Value))).push (seqObj "tuple" vs.toArray 0)).push (seqObj "list" #[] 0)=H6 from hH] at this
  exact this
 by_cases h2:vs.toArray.size<2
 .rw [if_pos h2,if_pos h2]
  refine wpAny_bind (wpAny_pure ?_)
  rw [StateT.run_pure]
  have hz:((arrOf (SortSt.mk' general' (vs.toArray.zip vs.toArray) #[] 7 none)).map (·.2))=List.toArray ((List.toArray (List.range vs.length)).toList.map fun i=>vs.getD i Value.none):=by
   show (vs.toArray.zip vs.toArray).map (·.2)=_
   apply Array.toList_inj.mp
   simp only [Array.toList_map,Array.toList_zip,List.map_snd_zip (Nat.le_refl _)]
   apply List.ext_getElem
   .simp
   .intro i h3 h4
    simp
    rw [List.getElem?_eq_getElem (by simpa using h3)];rfl
  refine wpAny_bind (wpAny_pure (wpAny_bind (seqEpoch_at ho6 rfl (wpAny_bind (listUpdate_at ho6 rfl ?_ (Nat.zero_le _) ?_)))))
  .dsimp only
   rw [hz]
   simp only [bne_self_eq_false,Bool.false_eq_true,if_false]
   exact wpAny_pure (fin _ (Array.Perm.refl _) fun i j hij hj=>by rw [show i=j by (simp at h2);omega];exact Int.le_refl _)
  .rw [hz];simp;omega
 .rw [if_neg h2,if_neg h2]
  have hv2:2<=vs.length:=by simp at h2;omega
  refine wpAny_bind (kat_kind (s:={ s with heap:=H6 }) (T:=.type "int") tp6.kat (by rw [List.length_map,tp.len];omega) (fun v hv=>?_) rfl ?_)
  .obtain ⟨p,_,rfl⟩:=List.mem_map.mp hv
   exact .now
  have run1:=kat_run (prog:=prog) (w:=w) (A:=A) (E:=E) (s:={ s with heap:=H6 }) (κ:=tuples' true) (ks:=vs) (vs:=vs)
   (Q:=fun st' s'=>s'={ s with heap:=H6 }/\∃ q:Array Nat,q.Perm (List.toArray (List.range vs.length))/\Up (ykT ps) q vs.length/\(arrOf st').map (·.2)=List.toArray (q.toList.map fun i=>vs.getD i Value.none)/\failedOf st'=none)
   (G:=fun q s'=>s'={ s with heap:=H6 }/\q.Perm (List.toArray (List.range vs.length))/\Up (ykT ps) q vs.length) rfl hv2 h64
   (fun q st' s' z1 z2 z3 z4=>⟨z4.1,q,z4.2.1,z4.2.2,kat_snds rfl z2,z3⟩)
   (yJa (P:=(· < vs.length)) (lt:=ltK (ykT ps)) (fun i j C hi hj hC=>yGE tp6 hn i j C hi hj hC) _ (yGD (by omega)) ⟨rfl,(yzZ (by omega)).1,(yzZ (by omega)).2⟩)
  refine wpAny_bind (wpAny_mono run1 ?_ fun _ _ x=>x)
  rintro ⟨⟨⟩,st'⟩ s' ⟨rfl,q,z1,z2,z3,z4⟩
  refine wpAny_bind (seqEpoch_at ho6 rfl (wpAny_bind (listUpdate_at ho6 rfl ?_ (Nat.zero_le _) ?_)))
  .dsimp only
   rw [z3,z4]
   simp only [bne_self_eq_false,Bool.false_eq_true,if_false]
   exact wpAny_pure (fin q z1 z2)
  .dsimp only
   rw [z3]
   have:=z1.size_eq
   simp at this ⊢
   omega
end
end KasS
namespace PXS
open PySem L2 PySem.Spec PyProof.Rows KasS PX
theorem ywU {P:Program}{w:World}{H:Hp}{h:Heap}{a:Addr}{o:HO}(x:ObjOk P w H h a o):∃ u,h.get? a=some u:=by
 cases o with
 | lst xs=>obtain ⟨_,_,_,_,e⟩:=x;exact ⟨_,e⟩
 | tup xs=>obtain ⟨_,_,_,ob,e,_⟩:=x;exact ⟨_,e⟩
 | dK kvs=>obtain ⟨_,_,_,_,o,_,_,e,_⟩:=x;exact ⟨_,e⟩
 | dT kvs=>obtain ⟨_,_,_,_,o,_,_,e,_⟩:=x;exact ⟨_,e⟩
 | set S n=>obtain ⟨o,_,_,_,e,_⟩:=x;exact ⟨_,e⟩
 | ins C dx fs=>obtain ⟨_,_,_,e,_⟩:=x;exact ⟨_,e⟩
 | own y=>obtain ⟨_,e⟩:=x;exact ⟨_,e⟩
 | xd fs=>obtain ⟨_,⟨_,_,_,e,_⟩,_⟩:=x;exact ⟨_,e⟩
 | rng lo hi=>obtain ⟨_,_,_,e⟩:=x;exact ⟨_,e⟩
 | frz ob u=>obtain ⟨e,_⟩:=x;exact ⟨_,e⟩
 | tbl ps=>exact ⟨_,show h.get? a=some _ from x⟩
 | met f y=>exact ⟨_,show h.get? a=some _ from x⟩
 | ext φ=>obtain ⟨_,⟨_,e⟩,_⟩:=x;exact ⟨_,e⟩
section
variable {X:Cx}
theorem yCJ:MtM X "dict.items" yDT:=by
 intro pins s σ H x vs v us Q I rx rv h
 obtain ⟨d,kvs,rfl,rfl,hH,q⟩:=h
 cases rx
 have hus:=rv.zero
 subst hus
 obtain ⟨z,sy,ws,kv,hD⟩:=I.hok d _ hH
 refine call_meetsIn PySem.F.slot_dict_items hD.typeIs PySem.F.entry_dict_items (PySem.F.args_dict_items_1 _) (meets_dict_items _ d sy) ⟨⟨ws,hD⟩,?_⟩
 refine ⟨.ref _,_,I.laid (t':=s.toks) (o:=yvq s.heap.objs.size d) (fun _ _ q=>Heap.get?_push_of_some _ q) (Nat.le_refl _) ⟨Heap.get?_push_size _ rfl,⟨_,Heap.get?_push_size _ rfl⟩,fun h1 h2 e k=>k _ e⟩,rfl,q _ I.fresh⟩
theorem yAc {pins:List (Addr×Obj)}{σ:L2.St}{H H':Hp}{s:Shared}{h':Heap}{t':Nat}(I:Inv X pins σ H s) (k:∀ b u,s.heap.get? b=some u->h'.get? b=some u) (sub:∀ b o,H b=some o->H' b=some o)
  (nw:∀ b o,H b=none->H' b=some o->s.heap.get? b=none/\ObjOk X.prog X.w H' h' b o):Inv X pins σ H' { s with heap:=h',toks:=t' }:=by
 refine I.un ⟨fun b u q _ _ _=>k b u q,fun b u q _ _ _=>⟨u.slots,k b u q⟩,fun b u q n _=>?_,fun b u q _=>⟨u,k b u q⟩,fun b xs q=>sub _ _ q,fun b u xs q=>sub _ _ q,fun b ps q=>⟨#[],by rw [sub _ _ q];simp⟩⟩ fun b o e=>?_
 .cases e:H' b with
  | none=>rfl
  | some o=>rw [(nw b o n e).1] at q;cases q
 .cases e2:H b with
  | none=>exact (nw b o e2 e).2
  | some u =>
   have:=sub _ _ e2
   rw [e] at this
   cases this
   exact (I.hok b o e2).stay (fun c v _ q=>k c v q) (fun c q=>sub _ _ q) fun c xs q=>sub _ _ q
theorem yEb {h:Heap}:∀ (as:List Addr) (ws:List (Key×Value)) (ns:List Int),as.length=ws.length->ws.map (·.1)=ns.map Sum.inl ->
  (∀ (j:Nat) (a:Addr),as[j]?=some a->∃ key k x,ws[j]?=some (k,x)/\yuF k key=true/\h.get? a=some { cls:=.type "tuple",data:=.seq #[key,x] }) ->
  ∃ ps,Tps h (as.map Value.ref) ps/\ps.map (·.1)=ns/\ps.map (·.2.2)=ws.map (·.2)
 | [],[],ns,_,e,_=>⟨[],trivial,by cases ns with|nil=>rfl|cons=>simp at e,rfl⟩
 | [],_::_,_,hl,_,_=>by simp at hl
 | _::_,[],_,hl,_,_=>by simp at hl
 | a::as,(k,x)::ws,ns,hl,e,hp=>by
  cases ns with
  | nil=>simp at e
  | cons n ns =>
   simp only [List.map_cons,List.cons.injEq] at e
   obtain ⟨ps,t,e1,e2⟩:=yEb as ws ns (by simpa using hl) e.2 fun j b hb=>by
    obtain ⟨key,k',x',f1,f2,f3⟩:=hp (j+1) b (by simpa using hb)
    exact ⟨key,k',x',by simpa using f1,f2,f3⟩
   obtain ⟨key,k',x',f1,f2,f3⟩:=hp 0 a rfl
   simp at f1
   obtain ⟨rfl,rfl⟩:=f1
   obtain ⟨j,tk,g1,rfl⟩:∃ j tk,k=Sum.inl j/\key=Value.int j tk:=by
    rcases yca f2 with ⟨j,tk,g1,g2⟩|⟨y,tk,g1,g2⟩
    .exact ⟨j,tk,g1,g2⟩
    .rw [g1] at e;cases e.1
   rw [g1] at e
   obtain rfl:j=n:=by injection e.1
   exact ⟨(j,tk,x)::ps,⟨⟨a,_,_,rfl,f3,rfl,rfl⟩,t⟩,by rw [List.map_cons,e1],by rw [List.map_cons,e2];rfl⟩
theorem yiP {α:Type}:∀ {as:List Addr}{ts:List α}{b:Addr}{t:α},(as.zip ts).lookup b=some t->∃ j:Nat,as[j]?=some b/\ts[j]?=some t
 | [],_,_,_,h=>by simp at h
 | _::_,[],_,_,h=>by simp at h
 | a::as,u::ts,b,t,h=>by
  rw [List.zip_cons_cons,List.lookup_cons] at h
  split at h
  .rename_i hb
   cases h
   exact ⟨0,by rw [eq_of_beq hb];rfl,rfl⟩
  .obtain ⟨j,h1,h2⟩:=yiP h
   exact ⟨j+1,by simpa using h1,by simpa using h2⟩
theorem yEc:∀ {kvs:List (Key×V)}{ws:List (Key×Value)},KV kvs ws->ws.map (·.1)=kvs.map (·.1)/\∀ i:Nat,i<kvs.length->RelV ((kvs.map (·.2)).getD i .non) ((ws.map (·.2)).getD i .none):=by
 intro kvs ws h
 induction h with
 | nil=>exact ⟨rfl,fun i hi=>by simp at hi⟩
 | @cons p q _ _ h1 _ ih =>
  refine ⟨by rw [List.map_cons,List.map_cons,ih.1,h1.1],fun i hi=>?_⟩
  cases i with
  | zero=>exact h1.2
  | succ i=>simpa using ih.2 i (by simpa using hi)
theorem ywV {α:Type}{f:α->V}{g:α->Value}:∀ {l:List α},(∀ i∈l,RelV (f i) (g i))->Vals (l.map f) (l.map g)
 | [],_=>.nil
 | i::l,h=>.cons (h i List.mem_cons_self) (ywV fun j hj=>h j (List.mem_cons_of_mem _ hj))
theorem ynJ (hc:X.calm=true):ykN X (.builtin "sorted") rSI:=by
 intro pins s σ H xs us Q I rr hh
 obtain ⟨r,d,kvs,ns,rfl,hr,hd,hk,h64,q⟩:=hh
 obtain ⟨u,rfl,rx⟩:=vals1 rr
 cases rx
 obtain ⟨hview,_,_⟩:=I.hok r _ hr
 obtain ⟨z,sy,ws,kv,hD⟩:=I.hok d _ hd
 obtain ⟨ep,hat⟩:=hD.dictAt
 obtain ⟨kv1,kv2⟩:=yEc kv
 have lw:ws.length=kvs.length:=by have:=congrArg List.length kv1;simpa using this
 have ln:ns.length=kvs.length:=by have:=congrArg List.length hk;simpa using this.symm
 have nd:ns.Nodup:=by
  obtain ⟨_,_,_,_,_,_,_,_,n⟩:=hD
  rw [kv1,hk] at n
  exact (List.pairwise_map.mp n).imp fun h e=>h (by rw [e])
 refine Calls.call_function_entry kind_sorted plain_sorted entry_sorted (args_sorted1 _) ?_
 unfold Builtin.«sorted»
 refine wpAny_bind (m:=checkCount "sorted" 1 1 _) (wpAny_pure ?_)
 refine wpAny_bind (PySem.W.kdx_collect (A:=X.A.in1) (knd:=ydz X.prog X.w) (kvs:=ws) (ep:=ep) (I.ok.hd hc) ⟨_,hview,rfl,rfl⟩ hat (by rw [lw];exact z) fun h' tk as keep hl hG=>wpAny_bind (wpAny_newList ?_ (by rw [List.length_map,hl,lw];exact z)))
 obtain ⟨ps,tp,e1,e2⟩:=yEb (h:=h') as ws ns hl (by rw [kv1,hk]) fun j a ha=>hG.pairs j a ha
 have la:as.length=ns.length:=by omega
 have above:∀ a∈as,s.heap.objs.size<a:=hG.above
 have there:∀ a∈as,a<h'.objs.size:=fun a ha=>hG.there ha
 generalize hB:h'.objs.size=B at *
 have noB:s.heap.get? B=none:=by
  cases e:s.heap.get? B with
  | none=>rfl
  | some o=>exact absurd (Heap.lt_size (keep B o e)) (by rw [hB];exact Nat.lt_irrefl _)
 have noA:∀ a∈as,s.heap.get? a=none:=fun a ha=>Heap.get?_none_of_le (Nat.le_of_lt (above a ha))
 have free:∀ b,s.heap.get? b=none->H b=none:=fun b e=>by
  cases e2:H b with
  | none=>rfl
  | some o=>obtain ⟨u,hu⟩:=ywU (I.hok b o e2);rw [e] at hu;cases hu
 have hoL:(h'.push { cls:=.type "list",data:=.seq (as.map Value.ref).toArray }).get? B=some (seqObj "list" (as.map Value.ref).toArray 0):=by rw [<- hB];exact Heap.get?_push_size _ rfl
 refine wpAny_bind (wpAny_holding (wpAny_call_entry PySem.F.slot_list_sort ⟨_,hoL,rfl⟩ PySem.F.entry_list_sort ?body (PySem.F.args_list_sort_1 _)))
 case body =>
  refine yCI (s:={ s with heap:=h'.push { cls:=.type "list",data:=.seq (as.map Value.ref).toArray },toks:=tk }) (ps:=ps) hoL (tp.mono fun b o _ e=>Heap.get?_push_of_some _ e) (fun z=>?_) (by rw [e1];exact nd) (by rw [List.length_map];omega) fun qa z1 z2=>?_
  .obtain ⟨a,ha,e⟩:=List.mem_map.mp z
   cases e
   exact absurd (there B ha) (Nat.lt_irrefl _)
  refine ⟨_,rfl,wpAny_pure ⟨_,rfl,?_⟩⟩
  have lq:qa.toList.length=ns.length:=by have:=z1.size_eq;simpa [la] using this
  have pq:qa.toList.Perm (List.range ns.length):=by have:=Array.perm_iff_toList_perm.mp z1;simpa [la] using this
  have inq:∀ i∈qa.toList,i<ns.length:=fun i hi=>by have:=pq.mem_iff.mp hi;simpa using this
  have nda:as.Nodup:=hG.rise.imp fun h=>Nat.ne_of_lt h
  have ndq:qa.toList.Nodup:=pq.nodup_iff.mpr List.nodup_range
  generalize hS:sortedHeap (h'.push { cls:=.type "list",data:=.seq (as.map Value.ref).toArray }) B (as.map Value.ref) (List.toArray (qa.toList.map fun i=>(as.map Value.ref).getD i Value.none))=S
  have hFa:∀ b o,b≠B->h'.get? b=some o->S.get? b=some o:=fun b o hb e=>by
   rw [<- hS]
   unfold sortedHeap
   exact (Heap.get?_update_other _ _ (Ne.symm hb)).trans (Heap.get?_push_of_some _ (Heap.get?_push_of_some _ ((Heap.get?_update_other _ _ (Ne.symm hb)).trans (Heap.get?_push_of_some _ e))))
  have hFB:∃ c,S.get? B=some (seqObj "list" (List.toArray (qa.toList.map fun i=>(as.map Value.ref).getD i Value.none)) c):=by
   rw [<- hS]
   unfold sortedHeap
   exact ⟨_,get?_update_seq (Heap.get?_push_of_some _ (Heap.get?_push_of_some _ (get?_update_seq hoL _))) _⟩
  have hF:∀ b o,s.heap.get? b=some o->S.get? b=some o:=fun b o e=>hFa b o (fun z=>by rw [z,noB] at e;cases e) (keep b o e)
  have aget:∀ i,i<ns.length->∃ a,as[i]?=some a/\as.getD i 0=a/\a∈as:=fun i hi=>by
   have h1:i<as.length:=by omega
   exact ⟨as[i],List.getElem?_eq_getElem h1,by simp [List.getD,List.getElem?_eq_getElem h1],List.getElem_mem h1⟩
  have mem:∀ a∈(qa.toList.map fun i=>as.getD i 0),a∈as:=fun a ha=>by
   obtain ⟨i,hi,rfl⟩:=List.mem_map.mp ha
   obtain ⟨a,_,e,m⟩:=aget i (inq i hi)
   rw [e];exact m
  have neB:∀ a∈as,a≠B:=fun a ha=>Nat.ne_of_lt (there a ha)
  have kat:∀ i,ykT ps i=ns.getD i 0:=fun i=>by
   unfold ykT
   rw [<- e1]
   simp [List.getD]
  refine ⟨.ref B,yJV H B (qa.toList.map fun i=>as.getD i 0) (qa.toList.map fun i=>[V.int (ns.getD i 0),(kvs.map (·.2)).getD i .non]),?_,rfl,q B _ qa.toList pq ?_ nd (by simp) ?_ ?_⟩
  .show L2.Inv X pins σ _ { s with heap:=S,toks:=tk }
   refine yAc I hF (fun b o e=>?_) fun b o e e2=>?_
   .unfold yJV upd ywN
    rw [if_neg fun z=>by rw [z,free _ noB] at e;cases e]
    cases e3:List.lookup b ((qa.toList.map fun i=>as.getD i 0).zip (qa.toList.map fun i=>[V.int (ns.getD i 0),(kvs.map (·.2)).getD i .non])) with
    | none=>exact e
    | some t =>
     obtain ⟨j,g1,_⟩:=yiP e3
     rw [free _ (noA b (mem b (List.mem_of_getElem? g1)))] at e
     cases e
   .unfold yJV upd ywN at e2
    split at e2
    .rename_i hb
     subst hb
     cases e2
     obtain ⟨c,hc⟩:=hFB
     refine ⟨noB,by simp [lq];rw [ln];exact z,_,c,?_,hc⟩
     rw [List.map_map]
     refine ywV fun i hi=>?_
     obtain ⟨a,f1,f2,_⟩:=aget i (inq i hi)
     show RelV (V.ref (as.getD i 0)) _
     rw [f2]
     simp [List.getD,f1]
     rfl
    .split at e2
     .rename_i t e3
      cases e2
      obtain ⟨j,g1,g2⟩:=yiP e3
      rw [List.getElem?_map] at g1 g2
      cases e4:qa.toList[j]? with
      | none=>rw [e4] at g1;cases g1
      | some i =>
       rw [e4] at g1 g2
       have hi:=inq i (List.mem_of_getElem? e4)
       obtain ⟨a,f1,f2,f3⟩:=aget i hi
       simp only [Option.map_some,Option.some.injEq] at g1 g2
       rw [f2] at g1
       subst g1
       subst g2
       obtain ⟨key,k,x,w1,w2,w3⟩:=hG.pairs i a f1
       have wk:k=Sum.inl (ns.getD i 0):=by
        have h1:(ws.map (·.1))[i]?=some k:=by rw [List.getElem?_map,w1];rfl
        rw [kv1,hk,List.getElem?_map] at h1
        rw [List.getElem?_eq_getElem hi] at h1
        simp [List.getD,List.getElem?_eq_getElem hi] at h1 ⊢
        exact h1.symm
       obtain ⟨tk2,rfl⟩:∃ tk,key=Value.int (ns.getD i 0) tk:=by
        rcases yca w2 with ⟨j,tk,g1,g2⟩|⟨y,tk,g1,g2⟩
        .rw [wk] at g1;cases g1;exact ⟨tk,g2⟩
        .rw [wk] at g1;cases g1
       have wx:(ws.map (·.2)).getD i .none=x:=by simp [List.getD,w1]
       refine ⟨noA a f3,by simp [sizeLine_eq],[_,x],.cons ⟨_,rfl⟩ (.cons ?_ .nil),_,hFa a _ (neB a f3) w3,rfl,_,rfl⟩
       rw [<- wx]
       exact kv2 i (by omega)
     .rw [e] at e2;cases e2
  .refine List.pairwise_iff_getElem.mpr fun i j hi hj hij=>?_
   have:=z2 i j (Nat.le_of_lt hij) (by simpa [la,lq] using hj)
   unfold Kp at this
   rw [kat,kat] at this
   have hi':i<qa.size:=by simpa using hi
   have hj':j<qa.size:=by simpa using hj
   rw [Array.getElem?_eq_getElem hi',Array.getElem?_eq_getElem hj'] at this
   simpa using this
  .intro a ha
   rcases List.mem_cons.mp ha with rfl|ha
   .exact free _ noB
   .exact free _ (noA a (mem a ha))
  .refine List.nodup_cons.mpr ⟨fun h=>neB _ (mem _ h) rfl,?_⟩
   refine List.pairwise_map.mpr (ndq.imp_of_mem fun {i j} hi hj hij e=>hij ?_)
   obtain ⟨a,f1,f2,_⟩:=aget i (inq i hi)
   obtain ⟨b,g1,g2,_⟩:=aget j (inq j hj)
   rw [f2,g2] at e
   subst e
   exact (List.getElem?_inj (by have:=inq i hi;omega) nda).mp (f1.trans g1.symm)
variable {A:Nat->Addr}{o:Expr}{xa:XE}{pos p apos cpos:Pos}{x:Str}
theorem z_sortI (hc:X.calm=true) (ho:ZE X A o xa) (m:Nm x) (hg:Gl X x) (hm:X.mg x=none) (hv:bootBuiltins x=some (.builtin "sorted"))
  (hbase:attributeBase o "items" X.env (eval o X.env)=eval o X.env) (hline:(apos.endLine == cpos.line)=true)
  (he:starEach [.Call (.Attribute o "items" apos) [] [] cpos] X.env=(false,eval (.Call (.Attribute o "items" apos) [] [] cpos) X.env)::starEach [] X.env) (hpl:(backTo pos (starEach [] X.env)).any (·.1)=false) :
  ZO X A (.Call (.Name x p) [.Call (.Attribute o "items" apos) [] [] cpos] [] pos) (yoG xa) :=
 wO (yqZ (ynJ hc) hg hm hv (ymu (yDx PySem.F.plainAttrs_dict PySem.F.slot_dict_items PySem.F.type_dict_items yCJ ho.of hbase hline) ysF he) m.n m.d he hpl) (yzF (K:=ckX X A) sE)
end
end PXS
namespace PX
open PySem L2 PySem.Spec PyProof.Rows
section
theorem yCK {P:Program}{w:World}{K:PySem.W.Frag}{tg:Expr}(a it:Addr) (m:Nat):Turn P w K tg (ItR K a m) [it] it (fun i h=>i<=m/\h.IsRevIter it a ((m:Int)-1-(i:Nat))) where
 mem:=by simp
 obj:=fun i h st b hb=>by
  have e:b=it:=by simpa using hb
  subst e
  obtain ⟨_,o,e,c,d⟩:=st
  exact ⟨o,e,fun v z=>by rw [d] at z;cases z⟩
 keep:=fun i h h' st k=>⟨st.1,st.2.at fun o e=>k it (by simp) o e⟩
 item:=by
  intro X hP hw hK hc i pins s σ H E I hf st hg
  subst hP hw hK
  obtain ⟨hi,xs,x,hq,hx⟩:=hg
  obtain ⟨its,rv,p,hz⟩:=I.list hq
  obtain ⟨u,hu,ru⟩:=rv.get hx
  obtain ⟨f0,f1,f2,f3,f4,f5⟩:=hf it (by simp)
  have e0:(m:Int)-1-(i:Nat)=((m-1-i:Nat):Int):=by omega
  have st2:=st.2
  rw [e0] at st2
  refine wpAny_pyNext_rev_item st2 p.isList (x:=u) (by simpa using hu) fun h' st' sb=>?_
  have I1:Inv X pins σ H { s with heap:=h' }:=I.turned (t':=s.toks) (fun b o hb e=>(sb.2 b hb).trans e) f0 f1 f3 f4 f5
  obtain ⟨o,e,c,d⟩:=id st'
  have e2:((m-1-i:Nat):Int)-1=(m:Int)-1-((i+1:Nat):Int):=by omega
  rw [e2] at st'
  exact ⟨u,rfl,yBs (s:={ s with heap:=h' }) e c d (by decide) ⟨x,H,I1,ru,⟨rfl,fun ys hy=>by rw [I.list_inj hy hq];exact hx⟩,⟨hi,st'⟩,fun b hb=>(hf b hb).1⟩⟩
 done:=by
  intro X hP hw hK hc i pins s σ H E I hf st hg
  subst hP hw hK
  obtain rfl:i=m:=hg
  obtain ⟨f0,f1,f2,f3,f4,f5⟩:=hf it (by simp)
  have st2:=st.2
  rw [show (i:Int)-1-(i:Nat)=-1 by omega] at st2
  exact wpAny_pyNext_rev_end (I.ok.hd hc) st2 fun h' eb=>⟨rfl,I.turned (t':=s.toks) (fun b o hb e=>eb b o hb e) f0 f1 f3 f4 f5⟩
 self:=fun _ _ _ _ _ st h=>wpAny_pyIter_revIter st.2 h
variable {X:Cx}{A:Nat->Addr}{tg a:Expr}{p pos:Pos}{xa:XE}
theorem yJb {ta:TE}(hg:Gl X "reversed") (hm:X.mg "reversed" = none) (ha:PE X a ta) (he:starEach [a] X.env=(false,eval a X.env)::starEach [] X.env) (hs:starEach [a] X.env=[(false,eval a X.env)]):PI X tg (.Call (.Name "reversed" p) [a] [] pos) (yMr X.K ta):=by
 intro pins s σ H R I h
 refine Call_ (yqA I hg hm yvs (PyProof.Rows.callWith_type1 (thn (ymu ha ysF he pos pins s σ H (fun vs H1=>match vs with|[x]=>∃ b xs,x=.ref b/\SqL X.K H1 b xs/\R (ItR X.K b xs.length) H1|_=>False) I h) fun us s1 ⟨vs,H1,I1,r1,q1⟩=>?_) hs rfl))
 cases r1 with
 | nil=>exact q1.elim
 | cons r rr =>
  cases rr with
  | cons=>exact q1.elim
  | nil =>
  obtain ⟨b,xs,e,hq,q⟩:=q1
  subst e
  cases r
  obtain ⟨its,rv,pp,hz⟩:=I1.list hq
  have hl:=rv.length
  refine call_reversed_list pp.isList (wpAny_pyIter_revIter (s:={ s1 with heap:=s1.heap.push (revObj b ((its.toArray.size:Int)-1)) }) (l:=b) (i:=(its.toArray.size:Int)-1) ⟨_,Heap.get?_push_size _ rfl,rfl,rfl⟩ ?_)
  refine ⟨s1.heap.objs.size,[s1.heap.objs.size],_,_,H1,rfl,I1.kept (t':=s1.toks) fun b o e=>Heap.get?_push_of_some _ e,yCK b _ xs.length,⟨Nat.zero_le _,_,Heap.get?_push_size _ rfl,rfl,?_⟩,fun b hb=>?_,q⟩
  .show Data.fields #[.ref b,rawInt ((its.toArray.size:Int)-1)]=Data.fields #[.ref b,rawInt ((xs.length:Int)-1-((0:Nat):Int))]
   rw [hl]
   simp
  .have e:b=s1.heap.objs.size:=by simpa using hb
   subst e
   exact I1.fpOk (Nat.le_refl _) (I1.hok.fresh (Nat.le_refl _))
theorem yGF {rest:List Stmt}{s:XS}{y:XG}{pos':Pos}(hp:PassesOwn (model X.prog X.w) X.A X.env X.xe) (hc:X.calm=true) (hgl:Gl X "reversed") (hm:X.mg "reversed" = none) (hi:ZE X A a xa) (he:starEach [a] X.env=(false,eval a X.env)::starEach [] X.env) (hs1:starEach [a] X.env=[(false,eval a X.env)])
  (hg:ZG X A tg y) (hb:ZSs X A rest s) (hs:∀ x,foldedSetIterable (.Call (.Name "reversed" p) [a] [] pos') X.env x=pure x):ZS X A (.For tg (.Call (.Name "reversed" p) [a] [] pos') rest [] pos) (yCx true xa y s) :=
 wS (yDr hp hc (yJb hgl hm hi.of he hs1) hg.of hb.of hs) (yCy (K:=ckX X A) sE sG sS)
end
end PX
namespace PX
open PySem L2 PySem.Spec PyProof.Rows
section
variable {X:Cx}{A:Nat->Addr}{a o:Expr}{xa xb:XE}{pos apos cpos:Pos}
theorem yJc:MtM X "dict.update" yMs:=by
 intro pins s σ H x vs v us Q I rx rv h
 obtain ⟨d,b,kvs,more,rfl,rfl,hne,hH,hB,hz,q⟩:=h
 cases rx
 obtain ⟨u,rfl,ru⟩:=rv.one
 cases ru
 obtain ⟨z,hd,vs,rel,dd⟩:=yGc I.hok hH
 obtain ⟨z2,hd2,vs2,rel2,dd2⟩:=yGc I.hok hB
 refine call_meetsIn PySem.F.slot_dict_update dd.typeIs PySem.F.entry_dict_update (PySem.F.args_dict_update_2 _ _) (meets_dict_update (ydz X.prog X.w) d b hne hd2) ⟨vs,vs2,dd,dd2,by rw [<- rel.length,<- rel2.length];exact hz,fun h' dd' _ hs=>?_⟩
 have he:∃ q,h'.get? d=some q:=let ⟨q,_,_,hq,_⟩:=dd';⟨q,hq⟩
 refine ⟨.non,_,yvl (t':=s.toks) I (by rw [hH];exact True.intro) hs he (yDN ?_ hd (rel2.merge rel) dd'),rfl,q⟩
 exact Nat.le_trans (ylE more kvs) hz
end
end PX
namespace L2
open PySem PySem.Spec PyProof.Rows PX
end L2
namespace PX
open PySem L2 PySem.Spec PyProof.Rows
variable {X:Cx}{A:Nat->Addr}{x:Str}
end PX
namespace L2
open PySem PySem.Spec PyProof.Rows PX
theorem yGG {y:Str}{py spos:Pos}{iy:Nat}{X:Cx}{elt iter:Expr}{x:Str}{px:Pos}{scope:Scope}{cpos:Pos}{wi:TI}{te:TE}(ix:List Nat) (fr:List Str) (hc:X.calm=true) (hi:PI X (.Name x px) iter wi) (hfr:FrOk X scope ix fr)
  (he:∀ (cl:List (Str×Addr)) (C:Addr) (s₃:Shared) (H₃:Hp) (fp:List Addr) (pins:List (Addr×Obj)),PE (cxC X scope cl C (x::fr) s₃ H₃ fp pins) elt te)
  (hnd:(x::fr).Nodup) (hkind:scope.kind=.function) (hcell:∀ y∈scope.names,y.2≠.cell)
  (hnames:∀ y∈scope.names,y.2=.local->scope.names.lookup y.1=some .local) (hfree0:∀ y∈scope.names,y.2=.free->y.1∈fr) (hx:scope.names.lookup x=some .local)
  (hs:∀ v,foldedSetIterable iter X.env v=pure v)
  (hN:X.N.Nodup) (hyi:X.N[iy]?=some y) (hyx:Loc X.env.scope y) (hyf:X.fn y=true\/X.env.scope.names.lookup y=some .local) (hsw:swapsWith (.ListComp elt [⟨.Name x px,iter,[],0⟩] scope cpos) (some (.Name y py)) spos.line X.env=pure true) :
  PS X (.Assign [.Name y py] (.ListComp elt [⟨.Name x px,iter,[],0⟩] scope cpos) spos) (yHc (yFk wi ix te) (yxj iy)):=by
 intro pins s σ H D0 I h
 have hfn:X.env.scope.kind=.function:=I.ok.kind
 have hfree:∀ y∈scope.names,y.2=.free->X.env.kindOf y.1=some .cell/\scope.names.lookup y.1=some .free:=fun y hy e=>by
  obtain ⟨j,hj,ej⟩:=List.getElem_of_mem (hfree0 y hy e)
  obtain ⟨i,_,_,h3,h4⟩:=hfr.get (j:=j) (y:=y.1) (by rw [List.getElem?_eq_getElem hj,ej])
  exact ⟨h4,h3⟩
 obtain ⟨cl,ecl,hcl1,hcl2⟩:=yhI (env:=X.env) scope.names [] fun n hn=>I.ok.has n (.inl (hfree _ hn rfl).1)
 have hclos:closureFor scope X.env=pure cl:=by
  unfold closureFor
  have:(forIn scope.names ([]:List (Str×Addr)) (fun (x:Str×NameKind) (r:List (Str×Addr))=>if (x.2 == NameKind.free)=true then do let c <- cellOf X.env x.1;pure (ForInStep.yield ((x.1,c)::r)) else pure (ForInStep.yield r)):Sem (List (Str×Addr)))=pure cl:=ecl
  first
   | exact (by simpa using congrArg (· >>= fun r=>pure r) this)
   | (rw [show (pure cl:Sem (List (Str×Addr)))=(pure cl >>= fun r=>pure r) from rfl,<- this];rfl)
 have hcle:∀ y c,cl.lookup y=some c->X.env.cells.lookup y=some c/\(y,NameKind.free)∈scope.names:=fun y c e=>by
  by_cases hy:(y,NameKind.free)∈scope.names
  .exact ⟨by rw [<- hcl1 y hy];exact e,hy⟩
  .rw [hcl2 y hy] at e;simp at e
 rw [exec_Assign_Name_used _ _ _ _ hsw]
 refine wpAny_bind (wpAny_standAt (wpAny_bind ?_))
 show wpAny _ X.A (do let _ <- comprehension (.ListComp elt [⟨.Name x px,iter,[],0⟩] scope cpos) scope X.env _ (newList []) false (eval iter X.env) (some (assign (.Name y py) X.env))) _ _ s
 refine wpAny_bind (wpAny_mono (wpAny_comprehension_free (use:=some (assign (.Name y py) X.env)) (Q:=fun _ s'=>SP X pins D0 .next s') rfl hs hclos hkind hnames ?_) (fun _ s' hq=>wpAny_pure (wpAny_pure hq)) fun _ _ e=>e)
 refine thn (hi pins s σ H _ I h) fun v s1 h1=>thn h1 fun itv s2 h2=>?_
 obtain ⟨it,fp,tn,J,H2,e,I2,T,st2,f2,q2⟩:=h2
 subst e
 refine wpAny_newObj_type ?_
 generalize hs3:({ s2 with heap:=s2.heap.push { cls:=.type "list",dict:=none,data:=.seq ([]:List Value).toArray } }:Shared)=s3
 generalize hD:s2.heap.objs.size=D
 have hDn:H2 D=none:=by rw [<- hD];exact I2.hok.fresh (Nat.le_refl _)
 have I3:Inv X pins σ (upd H2 D (.lst [])) s3:=by
  rw [<- hs3,<- hD]
  exact I2.lnew (t':=s2.toks) (ys:=[]) (its:=[]) .nil (Nat.zero_le _)
 have k3:∀ b o,s2.heap.get? b=some o->s3.heap.get? b=some o:=fun b o e=>by rw [<- hs3];exact Heap.get?_push_of_some _ e
 have st3:tn 0 s3.heap:=T.keep _ _ _ st2 fun b _ o e=>k3 b o e
 have fne:∀ b∈fp,b≠D:=fun b hb=>by
  obtain ⟨o,e,_⟩:=T.obj _ _ st2 b hb
  rw [<- hD]
  exact Nat.ne_of_lt (Heap.lt_size e)
 have f3:∀ b∈fp,yyv X pins (upd H2 D (.lst [])) b:=fun b hb=>⟨by rw [ybe (fne b hb)];exact (f2 b hb).1,(f2 b hb).2⟩
 have q3:=q2 D hDn
 generalize upd H2 D (.lst [])=H3 at I3 f3 q3
 obtain ⟨W,⟨m0,w0⟩,turn⟩:=q3
 refine wpAny_newFunctionEnv hcell (by intro y hy;simp at hy) (fun h4 hns hsb=>?_) hkind
 try dsimp only at hns hsb ⊢
 generalize hC:s3.heap.objs.size=C at hns hsb ⊢
 have k4:∀ b o,s3.heap.get? b=some o->h4.get? b=some o:=fun b o e=>(hsb.2 b (by rw [<- hC];exact Nat.ne_of_lt (Heap.lt_size e))).trans (Heap.get?_push_of_some _ e)
 have Cne:∀ b o,s3.heap.get? b=some o->b≠C:=fun b o e=>by rw [<- hC];exact Nat.ne_of_lt (Heap.lt_size e)
 have stk:=I3.stkSub
 have pinF:∀ p∈X.pn++pins,p.1∉frs X.stack:=fun p hp z=>by
  obtain ⟨_,_,n1,n2,_⟩:=I3.pin p hp
  rcases List.mem_cons.mp (stk _ z) with z|z
  .exact n1 z
  .exact n2 z
 have okC:(cxC X scope cl C (x::fr) s3 H3 fp pins).Ok:=by
  refine ⟨I3.ok.mod,by show (relabel scope X.env).kind=_;exact hkind,I3.ok.glob,I3.ok.blt,Nat.le_of_eq hC,fun y z c h1 h2=>I3.ok.inj y z c (hcle y c h1).1 (hcle z c h2).1,fun y hy=>?_,fun y c hf _=>(by cases hf),I3.ok.hd,I3.ok.frames,.inl rfl,fun b hb=>⟨?_,fun y c e z=>?_⟩,I3.bs,?_,fun b o e hb=>?_,fun b hb z=>?_,I3.stack,I3.stkFree⟩
  .have hy:((relabel scope X.env).names.lookup y=some .cell)\/((relabel scope X.env).names.lookup y=some .free):=hy
   rw [show (relabel scope X.env).names.lookup y=_ from yet y scope.names] at hy
   cases e:scope.names.lookup y with
   | none=>rw [e] at hy;simp at hy
   | some k =>
    have hm:(y,k)∈scope.names:=PySem.mem_of_lookup e
    have hkf:k=.free:=by
     rw [e] at hy
     cases k<;>simp at hy ⊢
     exact absurd rfl (hcell _ hm)
    subst hkf
    obtain ⟨c,hc'⟩:=I3.ok.has y (.inl (hfree _ hm rfl).1)
    exact ⟨c,by show cl.lookup y=_;rw [hcl1 y hm];exact hc'⟩
  .obtain ⟨o,e,_⟩:=T.obj _ _ st3 b hb
   exact Cne b o e
  .exact (f3 b hb).2.2.2.2.1 y c (hcle y c e).1 z
  .exact Nat.le_trans I3.ok.bsz I3.sz
  .rcases (f3 b hb).2.2.2.1 with z|z
   .exact I3.ok.noex b o e z
   .exact absurd (Nat.lt_of_lt_of_le (Heap.lt_size e) (Nat.le_trans I3.ok.bsz z)) (Nat.lt_irrefl _)
  .rcases List.mem_cons.mp (stk _ z) with z|z
   .exact (f3 b hb).2.1 z
   .exact (f3 b hb).2.2.1 z
 have inn:∀ v,(inner ix σ v)=some v::ix.map fun i=>(σ[i]?).getD none:=fun _=>rfl
 have I4:Inv (cxC X scope cl C (x::fr) s3 H3 fp pins) [] (none::ix.map fun i=>(σ[i]?).getD none) H3 { s3 with heap:=h4,toks:=s3.toks+([]:List (Str×Value)).length }:=by
  refine ⟨okC,rfl,I3.bare,Un.kept k4,⟨_,hns,fun j y v e1 e2 e3=>?_⟩,fun y c e=>?_,I3.hok.fresh (Nat.le_of_eq hC),fun y c e=>I3.freeC y c (hcle y c e).1,fun p hp=>?_,I3.hok.kept k4,?_⟩
  .match j,e1,e2 with
   | 0,e1,e2=>simp at e2
   | j+1,e1,e2 =>
    obtain ⟨i,hi1,hi2,hi3,hi4⟩:=hfr.get (j:=j) (y:=y) (by have e1':(x::fr)[j+1]?=some y:=e1;simpa using e1')
    have e2':σ[i]?=some (some v):=by
     have e2:(ix.map fun i=>(σ[i]?).getD none)[j]?=some (some v):=by simpa using e2
     rw [List.getElem?_map,hi1] at e2
     simp at e2
     cases z:σ[i]? with
     | none=>rw [z] at e2;simp at e2
     | some o=>rw [z] at e2;simp at e2;rw [e2]
    obtain ⟨m,_,hl⟩:=I3.loc
    obtain ⟨u,r,l⟩:=hl i y v hi2 e2' (.inr (.inl hi4))
    refine ⟨u,r,?_⟩
    rcases l with ⟨k,_⟩|⟨k,c,ec,z⟩
    .rw [hi4] at k;cases k
    .have hm:(y,NameKind.free)∈scope.names:=PySem.mem_of_lookup hi3
     refine .inr ⟨.inl ?_,c,by show cl.lookup y=_;rw [hcl1 y hm];exact ec,?_⟩
     .show (relabel scope X.env).names.lookup y=_
      rw [show (relabel scope X.env).names.lookup y=_ from yet y scope.names,hi3]
      simp [hfn,hi4]
     .obtain ⟨o,ho,hd⟩:=z
      exact ⟨o,k4 _ _ ho,hd⟩
  .obtain ⟨v,o,ho,hd⟩:=I3.cell y c (hcle y c e).1
   exact ⟨v,o,k4 _ _ ho,hd⟩
  .have hp:p∈X.pn++pins:=by simpa [cxC] using hp
   obtain ⟨e,n,ne,nf,d⟩:=I3.pin p hp
   exact ⟨k4 _ _ e,n,Cne _ _ e,pinF p hp,d⟩
  .show (none::ix.map fun i=>(σ[i]?).getD none).length=(x::fr).length
   rw [List.length_cons,List.length_cons,List.length_map,hfr.len]
 have st4:tn 0 h4:=T.keep _ _ _ st3 fun b _ o e=>k4 b o e
 have f4:∀ b∈fp,b≠C/\b∉frs X.stack/\(∀ y c,cl.lookup y=some c->c≠b)/\∀ p∈(X.pn++pins)++([]:List (Addr×Obj)),p.1≠b:=fun b hb=>by
  obtain ⟨o,e,_⟩:=T.obj _ _ st3 b hb
  refine ⟨Cne b o e,fun z=>?_,fun y c e=>(f3 b hb).2.2.2.2.1 y c (hcle y c e).1,fun p hp=>(f3 b hb).2.2.2.2.2 p (by simpa using hp)⟩
  rcases List.mem_cons.mp (stk _ z) with z|z
  .exact (f3 b hb).2.1 z
  .exact (f3 b hb).2.2.1 z
 have stat:∀ {H':Hp},(∀ b∈fp,H' b=none)->∀ b∈fp,yyv (cxC X scope cl C (x::fr) s3 H3 fp pins) [] H' b:=fun hn b hb=>⟨hn b hb,(f4 b hb).1,(f4 b hb).2.1,.inl hb,(f4 b hb).2.2.1,(f4 b hb).2.2.2⟩
 have fin:∀ {σ':St}{H':Hp}{s':Shared},Inv (cxC X scope cl C (x::fr) s3 H3 fp pins) [] σ' H' s'->yxj iy (.ref D) σ H' D0.nx->compPost (model X.prog X.w) X.A X.xe (some (assign (.Name y py) X.env)) (fun _ s'=>SP X pins D0 .next s') (.ref D) C (.ok .next) s':=fun {σ' H' s'} I' q'=>by
  obtain ⟨m,hn,_⟩:=I'.loc
  have hCn:H' C=none:=I'.free
  have U:=I'.base
  have U':Un (frs X.stack) fp H3 H' s3.heap s'.heap:=⟨U.keep,U.slot,U.free,U.there,U.tups,U.frzs,U.tbls⟩
  have IX:Inv X pins σ H' s':=I3.call' (s':=s') (by show s'.os=s3.os;exact I'.os) U' I'.hok I'.bare fun b hb=>⟨(f3 b hb).2.2.2.1,(f3 b hb).2.1,(f3 b hb).2.2.2.2.1,(f3 b hb).2.2.2.2.2⟩
  have hCf:yyv X pins H' C:=I3.fpOk (Nat.le_of_eq hC) hCn
  obtain ⟨o,es,ep,eo,r1,r2,r3⟩:=hn
  have IP:=IX.pinned (fp:=[C]) (fun b hb=>by have e:b=C:=(by simpa using hb);subst e;exact hCf) (fun b hb=>by have e:b=C:=(by simpa using hb);subst e;exact ⟨o,eo,fun v z=>by rw [r1] at z;cases z⟩)
  refine thn (yqX hN hyi hyx hyf _ s' σ H' (.ref D) (.ref D) D0.nx IP rfl q') fun _ s2 ⟨σ2,H2',I2',q2'⟩=>?_
  have pc:=I2'.pin (C,o) (List.mem_append_right _ (List.mem_append_right _ (yfA (by simp) eo)))
  exact ⟨m,⟨o,es,ep,pc.1,r1,r2,r3⟩,fun h' sb=>⟨σ2,H2',I2'.unpinned.turned (t':=s2.toks) (fun b ob hb e=>(sb.2 b hb).trans e) pc.2.1 hCf.2.1 hCf.2.2.2.1 hCf.2.2.2.2.1 hCf.2.2.2.2.2,q2'⟩⟩
 have loop:∀ s5:Shared,s5={ s3 with heap:=h4,toks:=s3.toks+([]:List (Str×Value)).length } ->
   codeAny (model X.prog X.w) X.A (.compLoop (.ListComp elt [⟨.Name x px,iter,[],0⟩] scope cpos) 0 (.ref it) (.ref D) (compEnvC scope cl C X.env)) (compPost (model X.prog X.w) X.A X.xe (some (assign (.Name y py) X.env)) (fun _ s'=>SP X pins D0 .next s') (.ref D) C) s5:=by
  rintro s5 rfl
  refine codeAny_loop rfl (fun n s'=>∃ i o H',Inv (cxC X scope cl C (x::fr) s3 H3 fp pins) [] (o::ix.map fun i=>(σ[i]?).getD none) H' s'/\tn i s'.heap/\(∀ b∈fp,H' b=none)/\W i n H') ?_ m0 ⟨0,none,H3,I4,st4,fun b hb=>(f3 b hb).1,w0⟩
  rintro n s6 ⟨i,o,H6,I6,st6,fr6,w6⟩
  show wpAny _ _ ((compTurn (.ListComp elt [⟨.Name x px,iter,[],0⟩] scope cpos) 0 (.ref it) (.ref D) (compEnvC scope cl C X.env)).onRaise (fun x=>do noteFrame x (compEnvC scope cl C X.env);theTreesLotGoes x)) _ _ s6
  refine wpAny_noted ?_
  rw [compTurn_list1]
  rcases turn i n H6 w6 with ⟨stop,qn⟩|⟨go,step⟩
  .refine wpAny_bind (wpAny_standAt (wpAny_bind (thn (T.done (cxC X scope cl C (x::fr) s3 H3 fp pins) rfl rfl rfl hc i [] s6 _ H6 _ I6 (stat fr6) st6 stop) fun r s7 ⟨hr,I7⟩=>?_)))
   subst hr
   exact wpAny_pure (fin I7 qn)
  .refine wpAny_bind (wpAny_standAt (wpAny_bind (thn (T.item (cxC X scope cl C (x::fr) s3 H3 fp pins) rfl rfl rfl hc i [] s6 _ H6 _ I6 (stat fr6) st6 go) fun r s7 ⟨u,hr,h7⟩=>?_)))
   subst hr
   refine wpAny_bind (thn h7 fun _ s8 ⟨y,H8,I8,r8,y8,st8,fr8⟩=>?_)
   have I8':=I8.pinned (stat fr8) (T.obj _ _ st8)
   have hx':Loc (cxC X scope cl C (x::fr) s3 H3 fp pins).env.scope x:=.inl (lookup_relabel_local hx)
   refine wpAny_bind (wpAny_mono (yqX (X:=cxC X scope cl C (x::fr) s3 H3 fp pins) (i:=0) (x:=x) (pos:=px) hnd rfl hx' (.inr (lookup_relabel_local hx)) _ s8 _ H8 y u (fun σ9 H9=>σ9=inner ix σ y/\H9=H8) I8' r8 ⟨rfl,rfl⟩) (fun _ s9 ⟨σ9,H9,I9,e9,e9'⟩=>?_) fun _ _ f=>f.elim)
   subst e9 e9'
   refine wpAny_bind (wpAny_bind (wpAny_mono (he cl C s3 H3 fp pins _ s9 _ _ _ I9 (step y _ y8)) (fun v s10 ⟨z,H10,I10,r10,acc,a10,l10,m',hm',w10⟩=>?_) fun _ _ f=>f.elim))
   refine wpAny_bind (wpAny_mono (yhb (X:=cxC X scope cl C (x::fr) s3 H3 fp pins) _ s10 _ H10 (.ref D) [z] (.ref D) [v] (fun _ H11=>H11=upd H10 D (.lst (acc++[z]))) I10 rfl (.cons r10 .nil) ⟨D,acc,z,rfl,rfl,a10,l10,rfl⟩) (fun _ s11 ⟨_,H11,I11,_,e11⟩=>?_) fun _ _ f=>f.elim)
   subst e11
   refine wpAny_pure (wpAny_pure ⟨rfl,m',hm',i+1,some y,_,I11.unpinned,T.keep _ _ _ st8 fun b hb o e=>(I11.pin (b,o) (List.mem_append_right _ (List.mem_append_right _ (yfA hb e)))).1,fun b hb=>?_,w10⟩)
   obtain ⟨o,e,d⟩:=T.obj _ _ st8 b hb
   exact (I11.pin (b,o) (List.mem_append_right _ (List.mem_append_right _ (yfA hb e)))).2.1
 exact codeAny_compStart_list (loop _ rfl) (T.self X.A 0 _ _ _ st4 (loop _ rfl))
end L2
namespace PX
open PySem L2 PySem.Spec PyProof.Rows
variable {X:Cx}{A:Nat->Addr}{x y:Str}{py spos:Pos}{iy:Nat}
theorem yCL {elt iter:Expr}{px:Pos}{scope:Scope}{cpos:Pos}{it:XA}{xe:XE}(ix:List Nat) (fr:List Str) (hc:X.calm=true) (hi:ZI X A (.Name x px) iter it) (hfr:FrOk X scope ix fr)
  (he:∀ (cl:List (Str×Addr)) (C:Addr) (s₃:Shared) (H₃:Hp) (fp:List Addr) (pins:List (Addr×Obj)),ZE (cxC X scope cl C (x::fr) s₃ H₃ fp pins) A elt xe)
  (hnd:(x::fr).Nodup) (hkind:scope.kind=.function) (hcell:∀ y∈scope.names,y.2≠.cell) (hnames:∀ y∈scope.names,y.2=.local->scope.names.lookup y.1=some .local) (hfree0:∀ y∈scope.names,y.2=.free->y.1∈fr) (hx:scope.names.lookup x=some .local) (hs:∀ v,foldedSetIterable iter X.env v=pure v)
  (hN:X.N.Nodup) (hyi:X.N[iy]?=some y) (hyx:Loc X.env.scope y) (hyf:X.fn y=true\/X.env.scope.names.lookup y=some .local) (hsw:swapsWith (.ListComp elt [⟨.Name x px,iter,[],0⟩] scope cpos) (some (.Name y py)) spos.line X.env=pure true):ZS X A (.Assign [.Name y py] (.ListComp elt [⟨.Name x px,iter,[],0⟩] scope cpos) spos) (ydb (ykO (yxA it ix xe)) (yC iy)) :=
 wS (yGG ix fr hc hi.of hfr (te:=cE (ckX X A) xe) (fun cl C s₃ H₃ fp pins=>(he cl C s₃ H₃ fp pins).of) hnd hkind hcell hnames hfree0 hx hs hN hyi hyx hyf hsw) (yvg (yyX (ywz (K:=ckX X A) ix sI sE)) (yoA iy))
theorem yGH {k lv:Nat}{f:Addr}{fd:FuncData}{ps:List Str}{p pos:Pos}{fi} (M:Mk X.K (A k) f) (F:FnOk X.prog X.w X.K X.mg X.base CX0 lv f fd ps (spI (ckX X A) 0 k fi)) (hr:Room (lv+1) X.A) (m:Nm x) (hg:Gl X x) (hm:X.mg x=some (.ref (A k))) (hb:Binds X.K fd ps []):ZO X A (.Call (.Name x p) [] [] pos) (ylD fi yr) :=
 wO (yBy M F hr hg hm hb .nil yxt m.d) (ywB (K:=ckX X A) (k:=k) yoy yve)
end PX
namespace PX
open PySem L2 PySem.Spec PyProof.Rows KasS PXS
section
variable {X:Cx}{A:Nat->Addr}
theorem yAd:∀ (vs:List Value) (ns:List Int),vs.length=ns.length->(∀ (j:Nat) (v:Value),vs[j]?=some v->∃ t n,ns[j]?=some n/\v=.int n t)->IntsAre vs ns
 | [],[],_,_=>IntsAre.nil
 | [],_::_,h,_=>by cases h
 | _::_,[],h,_=>by cases h
 | v::vs,n::ns,hl,h=>by
  obtain ⟨t,m,e1,e2⟩:=h 0 v rfl
  have e1:some n=some m:=e1
  cases e1
  subst e2
  have ih:=yAd vs ns (by simpa using hl) fun j v e=>by
   obtain ⟨t,n,e1,e2⟩:=h (j+1) v (by simpa using e)
   exact ⟨t,n,by simpa using e1,e2⟩
  exact .cons _ _ ih
theorem ylz {vs:List Value}{ns:List Int}(h:IntsAre vs ns):Vals (ns.map V.int) vs:=by
 induction h with
 | nil=>exact .nil
 | cons n t _ ih=>exact .cons ⟨t,rfl⟩ ih
theorem yoQ (hc:X.calm=true):ykN X (.builtin "sorted") rSK:=by
 intro pins s σ H xs us Q I rr hh
 obtain ⟨d,kvs,ns,rfl,hd,hk,h64,q⟩:=hh
 obtain ⟨u,rfl,rx⟩:=vals1 rr
 cases rx
 obtain ⟨z,sy,ws,kv,hD⟩:=I.hok d _ hd
 obtain ⟨ep,hat⟩:=hD.dictAt
 obtain ⟨kv1,kv2⟩:=yEc kv
 have lw:ws.length=kvs.length:=by have:=congrArg List.length kv1;simpa using this
 have ln:ns.length=kvs.length:=by have:=congrArg List.length hk;simpa using this.symm
 refine Calls.call_function_entry kind_sorted plain_sorted entry_sorted (args_sorted1 _) ?_
 unfold Builtin.«sorted»
 refine wpAny_bind (m:=checkCount "sorted" 1 1 _) (wpAny_pure ?_)
 refine wpAny_bind (PySem.W.kdu_collect (A:=X.A.in1) (PySem.W.kdl_dict (knd:=ydz X.prog X.w) (kvs:=ws) (ep:=ep) sy) (I.ok.hd hc) hat (by rw [lw];exact z) fun h' tk acc keep hacc=>?_)
 have hal:acc.toList.length=ns.length:=by rw [Array.length_toList,hacc.1];omega
 refine wpAny_bind (wpAny_newList ?_ (by rw [hal,ln];exact z))
 have ia:IntsAre acc.toList ns:=yAd _ _ hal fun j v e=>by
  obtain ⟨k,x,e1,e2⟩:=hacc.2 j v (by rw [<- Array.getElem?_toList];exact e)
  have hj:j<ns.length:=by have:=(List.getElem?_eq_some_iff.mp e).1;omega
  have h1:(ws.map (·.1))[j]?=some k:=by rw [List.getElem?_map,e1];rfl
  rw [kv1,hk,List.getElem?_map,List.getElem?_eq_getElem hj] at h1
  have h1:k=.inl ns[j]:=(Option.some.inj h1).symm
  rcases yca e2 with ⟨i,tk,g1,g2⟩|⟨y,tk,g1,g2⟩
  .rw [h1] at g1;cases g1;exact ⟨tk,_,List.getElem?_eq_getElem hj,g2⟩
  .rw [h1] at g1;cases g1
 generalize hB:h'.objs.size=B
 have noB:s.heap.get? B=none:=by
  cases e:s.heap.get? B with
  | none=>rfl
  | some o=>exact absurd (Heap.lt_size (keep B o e)) (by rw [hB];exact Nat.lt_irrefl _)
 have free:H B=none:=by
  cases e2:H B with
  | none=>rfl
  | some o=>obtain ⟨u,hu⟩:=ywU (I.hok B o e2);rw [noB] at hu;cases hu
 have hoL:(h'.push { cls:=.type "list",data:=.seq acc.toList.toArray }).get? B=some (seqObj "list" acc.toList.toArray 0):=by rw [<- hB];exact Heap.get?_push_size _ rfl
 refine wpAny_bind (wpAny_holding (wpAny_call_entry PySem.F.slot_list_sort ⟨_,hoL,rfl⟩ PySem.F.entry_list_sort ?body (PySem.F.args_list_sort_1 _)))
 case body =>
  refine list_sort_tree (s:={ s with heap:=h'.push { cls:=.type "list",data:=.seq acc.toList.toArray },toks:=tk }) hoL ia (by omega) fun out ms i1 i2 i3=>?_
  refine ⟨_,rfl,wpAny_pure ⟨_,rfl,?_⟩⟩
  generalize hS:sortedHeap (h'.push { cls:=.type "list",data:=.seq acc.toList.toArray }) B acc.toList out=S
  have hFa:∀ b o,b≠B->h'.get? b=some o->S.get? b=some o:=fun b o hb e=>by
   rw [<- hS]
   unfold sortedHeap
   exact (Heap.get?_update_other _ _ (Ne.symm hb)).trans (Heap.get?_push_of_some _ (Heap.get?_push_of_some _ ((Heap.get?_update_other _ _ (Ne.symm hb)).trans (Heap.get?_push_of_some _ e))))
  have hFB:∃ c,S.get? B=some (seqObj "list" out c):=by
   rw [<- hS]
   unfold sortedHeap
   exact ⟨_,get?_update_seq (Heap.get?_push_of_some _ (Heap.get?_push_of_some _ (get?_update_seq hoL _))) _⟩
  refine ⟨.ref B,_,?_,rfl,q B ms i2 i3 free⟩
  show L2.Inv X pins σ _ { s with heap:=S,toks:=tk }
  refine yAc I (fun b o e=>hFa b o (fun z=>by rw [z,noB] at e;cases e) (keep b o e)) (fun b o e=>?_) fun b o e e2=>?_
  .rw [ybe fun z=>by rw [z,free] at e;cases e];exact e
  .by_cases hb:b=B
   .subst hb
    rw [yX] at e2
    cases e2
    obtain ⟨c,hc⟩:=hFB
    refine ⟨noB,by rw [List.length_map,i2.length_eq,ln];exact z,out.toList,c,ylz i1,by simpa using hc⟩
   .rw [ybe hb,e] at e2;cases e2
variable {a:Expr}{xa:XE}{aa:XA}{pos p:Pos}{x:Str}{n:Nat}
theorem yGI (hc:X.calm=true) (ha:ZE X A a xa) (m:Nm x) (hg:Gl X x) (hm:X.mg x=none) (hv:bootBuiltins x=some (.builtin "sorted"))
  (he:starEach [a] X.env=(false,eval a X.env)::starEach [] X.env) (hpl:(backTo pos (starEach [] X.env)).any (·.1)=false):ZO X A (.Call (.Name x p) [a] [] pos) (ymt yqL (yc xa yr)) :=
 wO (yqZ (yoQ hc) hg hm hv (ymu ha.of ysF he) m.n m.d he hpl) (yyY (K:=ckX X A) yGs (ywy sE yoy))
end
end PX
namespace PX
open PySem L2 PySem.Spec PyProof.Rows KasS PXS
section
variable {X:Cx}{A:Nat->Addr}{tg a:Expr}{p pos:Pos}{xa:XE}
end
end PX
namespace PX
open PySem L2 PySem.Spec PyProof.Rows
section
variable {X:Cx}{A:Nat->Addr}
theorem ygy:MtR X "str.find" yyP:=by
 intro pins s σ H x xs v us Q I rx rv h
 obtain ⟨z,c,rfl,rfl,hz,hm,q⟩:=h
 obtain ⟨t,rfl⟩:=rx
 obtain ⟨u,rfl,tu,rfl⟩:=vals1 rv
 rcases yFl z c with ⟨_,h2⟩|⟨r,h1,_⟩
 .exact absurd hm h2
 .refine SC.find ?_
  have e:(Txt.find z ⟨#[c]⟩:Int)=((z.cps.toList.idxOf c:Nat):Int):=by
   unfold Txt.find
   rw [h1]
  rw [e]
  exact ⟨.int _,H,I.tok _,⟨_,rfl⟩,q⟩
variable {pos p apos:Pos}{x m:Str}{e:Expr}{es:List Expr}{aa:XA}{n:Nat}
theorem yoR {a:Addr}{ss:List Str}(nm:Nm x) (hg:Gl X x) (hm:X.mg x=some (.ref a)) (hk:KTp X.K a (ss.map V.str)):ZE X A (.Name x pos) (xC (.tup (ss.map PV.str))):=wE (yuS hg hm nm.d) (yCA (K:=ckX X A) hk)
structure yGJ (K:PySem.W.Frag) (C:Addr) (m:Str) (f:Addr):Prop where
 rd:PySem.W.readsIn K C (.type "type")=true
 fc:PySem.W.findCls K (.ref C) (.type "type") m=some (.val (.ref f))
 sp:PySem.W.specialIn K (.ref C) "__getattribute__" = some (some (.builtin "type.__getattribute__"))
 kp:keepIn K (.ref f)=true
theorem yGK {C f:Addr}{k:Nat}{fd:FuncData}{ps:List Str}{sp:Sp}{E:XK}{t:TA}{pl:Sem Bool}{CX:CXT}(c:yGJ X.K C m f) (hg:Gl X x) (hm:X.mg x=some (.ref C)) (F:FnOk X.prog X.w X.K X.mg X.base CX k f fd ps sp) (hr:Room k X.A) (hb:Binds X.K fd ps []) (hx:yly CX X E) (ha:PA X (e::es) t)
  (hd:(x == ("__debug__":Str))=false)
  (hst:starEach (e::es) X.env=(false,eval e X.env)::starEach es X.env) (hpl:(backTo pos (starEach es X.env)).any (·.1)=false)
  (ht:eval (.Call (.Attribute (.Name x p) m apos) (e::es) [] pos) X.env=(do
   let ov <- eval (.Name x p) X.env
   standAt apos.atName
   let (f,first) <- holding [ov] (getMethod ov m pl)
   callWith pos f first (backTo pos (starEach (e::es) X.env)) (backToKw pos (keywordEach [] X.env)))) :
  PE X (.Call (.Attribute (.Name x p) m apos) (e::es) [] pos) (yBw sp [] E t):=by
 intro pins s σ H Q I h
 refine PySem.W.methodCall_KW (pl:=pl) (thn (yuS (X:=X) hg hm hd pins s σ H (fun v H1=>v=.ref C/\H1=H) I ⟨rfl,rfl⟩) fun u s1 ⟨v,H1,I1,rx,ex,eh⟩=>?_) ht
 subst ex eh
 obtain rfl:u=Value.ref C:=rx
 refine PySem.W.method_cls I1.kIn c.sp (PySem.W.cls_value I1.kIn c.rd c.fc rfl ?_)
 have I1:=I1.tok (s1.toks+1)
 refine PySem.W.callWith_K (first:=[]) (h₀:=X.base) I.ok.mod.kin c.kp (thn (ha pos pins _ σ H1 _ I1 h) fun us s2 ⟨vs,H2,I2,r,q2⟩=>⟨I2.kIn,?_⟩) hst hpl
 exact ywq (us:=us) (vs:=vs) F hr hb .nil hx I2 r q2
theorem yGL {C f:Addr}{lv k:Nat}{fd:FuncData}{ps:List Str}{fi} {pl:Sem Bool}{o:Expr}{sp:Pos}(c:yGJ X.K C m f) (nm:Nm x) (hg:Gl X x) (hm:X.mg x=some (.ref C)) (F:FnOk X.prog X.w X.K X.mg X.base CX0 lv f fd ps (spJ (ckX X A) n k fi)) (hr:Room lv X.A) (hb:Binds X.K fd ps [])
  (ho:PE X o (yDm 0)) (ha:ZA X A es n aa) (hst:starEach (o::es) X.env=(false,eval o X.env)::starEach es X.env) (hpl:(backTo pos (starEach es X.env)).any (·.1)=false)
  (ht:eval (.Call (.Attribute (.Name x p) m apos) (o::es) [] pos) X.env=(do
   let ov <- eval (.Name x p) X.env
   standAt apos.atName
   let (f,first) <- holding [ov] (getMethod ov m pl)
   callWith pos f first (backTo pos (starEach (o::es) X.env)) (backToKw pos (keywordEach [] X.env))))
  (hq:swapsWith (.Call (.Attribute (.Name x p) m apos) (o::es) [] pos) none sp.line X.env=pure false):ZF X A (.Expr (.Call (.Attribute (.Name x p) m apos) (o::es) [] pos) sp) (xBI k fi aa) :=
 wF (yuJ (yGK (E:=fun _ _ _=>False) c hg hm F hr hb yxt (ymu ho ha.of hst) nm.d hst hpl ht) hq) (yGu (K:=ckX X A) sA ha.len)
end
section
variable {P:Program}{w:World}{K:PySem.W.Frag}{mg:Str->Option Value}{base:Heap}{A:Nat->Addr}
theorem yMN {x qual:Str}{st:Stmt}{f:Addr}{fd:FuncData}{N ps:List Str}{k kc n:Nat}{s:XS}(F:Fun K x qual st f fd) (S:yt N ps (yb st)) (hn:ps.length=n+1) (hN:n+1<=N.length)
  (h:∀ (cdv:Value) (Ar:Around) (outer:List Env) (sh:Shared) (H:Hp) (E:XK),Room k (Ar.deeper (envOfC qual (yb st) sh.heap.objs.size f cdv))->ZFs (yBz CX0 P w K mg base N qual (yb st) f cdv Ar outer sh H E).nox A (yj st) s) :
  FnOk P w K mg base CX0 (k+1) f fd ps (spJ ⟨K,A⟩ n kc (ytk N.length kc s)) :=
 F.ok S (fun _ _ _ _ h=>(yGt h).trans hn.symm) fun cdv Ar outer sh H vs Q E hr hq=>⟨_,(h cdv Ar outer sh H E hr).of,yzK (K:=⟨K,A⟩) hN sF hq⟩
end
end PX
namespace PX
open PySem L2 PySem.Spec PyProof.Rows
section
variable {X:Cx}{A:Nat->Addr}
theorem yjM:ykN X (.type "dict") yzL:=by
 intro pins s σ H xs us Q I r h
 obtain ⟨a,kvs,rfl,ha,q⟩:=h
 obtain ⟨u,rfl,rx⟩:=vals1 r
 cases rx
 obtain ⟨z,sy,ws,kv,hD⟩:=I.hok a _ ha
 have lw:ws.length=kvs.length:=kv.length.symm
 refine kt_call_dict sy hD (by rw [lw];exact z) fun h' hd sb=>?_
 have kp:∀ b o,s.heap.get? b=some o->h'.get? b=some o:=fun b o e=>(sb.2 b (Nat.ne_of_lt (Heap.lt_size e))).trans (Heap.get?_push_of_some _ e)
 refine ⟨.ref s.heap.objs.size,_,I.laid (t':=s.toks) kp (Nat.le_refl _) (show ObjOk X.prog X.w _ h' _ (.dK kvs) from ⟨z,?_,ws,kv,hd⟩),rfl,q _ (I.hok.fresh (Nat.le_refl _))⟩
 exact beq_eq_false_iff_ne.mpr (Nat.ne_of_gt I.big)
end
end PX
namespace PX
open PySem L2 PySem.Spec PyProof.Rows
section
variable {prog:Program}{w:World}{A:Around}{E:Value->Shared->Prop}{s:Shared}
end
section
variable {X:Cx}{A:Nat->Addr}
end
end PX
namespace PX
open PySem L2 PySem.Spec PyProof.Rows
open Builtin Builtin.Str in
section
variable {prog:Program}{w:World}{A:Around}{E:Value->Shared->Prop}{s:Shared}
end
section
variable {X:Cx}{A:Nat->Addr}
end
section
variable {X:Cx}{pins:List (Addr×Obj)}{σ:L2.St}{H:Hp}{s:Shared}{h':Heap}
end
section
variable {X:Cx}{A:Nat->Addr}{elts:List Expr}{x1:Nat}{tp p pos:Pos}{a b:Expr}{aa:XA}{n:Nat}
end
end PX
namespace My
open PySem L2 PX
theorem yJd:("abc":Str).length=3:=by rfl'
theorem yJe:("abcdefghijklmnopqrstuvwxyz":Str).length=26:=by rfl'
theorem yEd {v0 v1:PV}{h:AH}:yiy [0] "stack" (.ins 0 ["stack","last_seen"] [v0,v1]) h=some (v0,h):=ybN (by decide) (by rfl') (by rw [show List.idxOf ("stack":Str) ["stack","last_seen"]=0 by rfl'];rfl)
theorem yyp {v0 v1:PV}{h:AH}:yiy [0] "last_seen" (.ins 0 ["stack","last_seen"] [v0,v1]) h=some (v1,h):=ybN (by decide) (by rfl') (by rw [show List.idxOf ("last_seen":Str) ["stack","last_seen"]=1 by rfl'];rfl)
theorem ytw {x:PV}{ρ:PSt}{h:AH}:ylw [0] 0 "stack" (.own (.ins 0 [] [])::ρ) x h=some (.nx (.own (.ins 0 ["stack"] [x])::ρ),h):=ycU (by decide) (by decide) (by rfl')
theorem ynK {v0:PV}{x:PV}{ρ:PSt}{h:AH}:ylw [0] 0 "last_seen" (.own (.ins 0 ["stack"] [v0])::ρ) x h=some (.nx (.own (.ins 0 ["stack","last_seen"] [v0,x])::ρ),h):=ycU (by decide) (by decide) (by rfl')
theorem yCM {v0 v1 v2 v3:PV}{h:AH}:yiy [1] "held" (.ins 1 ["held","width","log","found"] [v0,v1,v2,v3]) h=some (v0,h):=ybN (by decide) (by rfl') (by rw [show List.idxOf ("held":Str) ["held","width","log","found"]=0 by rfl'];rfl)
theorem yBj {v0 v1 v2 v3:PV}{h:AH}:yiy [1] "width" (.ins 1 ["held","width","log","found"] [v0,v1,v2,v3]) h=some (v1,h):=ybN (by decide) (by rfl') (by rw [show List.idxOf ("width":Str) ["held","width","log","found"]=1 by rfl'];rfl)
theorem yEe {v0 v1 v2 v3:PV}{h:AH}:yiy [1] "log" (.ins 1 ["held","width","log","found"] [v0,v1,v2,v3]) h=some (v2,h):=ybN (by decide) (by rfl') (by rw [show List.idxOf ("log":Str) ["held","width","log","found"]=2 by rfl'];rfl)
theorem yBk {v0 v1 v2 v3:PV}{h:AH}:yiy [1] "found" (.ins 1 ["held","width","log","found"] [v0,v1,v2,v3]) h=some (v3,h):=ybN (by decide) (by rfl') (by rw [show List.idxOf ("found":Str) ["held","width","log","found"]=3 by rfl'];rfl)
theorem yrA {x:PV}{ρ:PSt}{h:AH}:ylw [1] 0 "held" (.own (.ins 1 [] [])::ρ) x h=some (.nx (.own (.ins 1 ["held"] [x])::ρ),h):=ycU (by decide) (by decide) (by rfl')
theorem ypW {v0:PV}{x:PV}{ρ:PSt}{h:AH}:ylw [1] 0 "width" (.own (.ins 1 ["held"] [v0])::ρ) x h=some (.nx (.own (.ins 1 ["held","width"] [v0,x])::ρ),h):=ycU (by decide) (by decide) (by rfl')
theorem ytx {v0 v1:PV}{x:PV}{ρ:PSt}{h:AH}:ylw [1] 0 "log" (.own (.ins 1 ["held","width"] [v0,v1])::ρ) x h=some (.nx (.own (.ins 1 ["held","width","log"] [v0,v1,x])::ρ),h):=ycU (by decide) (by decide) (by rfl')
theorem ypX {v0 v1 v2:PV}{x:PV}{ρ:PSt}{h:AH}:ylw [1] 0 "found" (.own (.ins 1 ["held","width","log"] [v0,v1,v2])::ρ) x h=some (.nx (.own (.ins 1 ["held","width","log","found"] [v0,v1,v2,x])::ρ),h):=ycU (by decide) (by decide) (by rfl')
theorem yvu {v0 v1:PV}{h:AH}:yiy [3,4,5,6,7,9,10] "slot" (.ins 3 ["slot","number"] [v0,v1]) h=some (v0,h):=ybN (by decide) (by rfl') (by rw [show List.idxOf ("slot":Str) ["slot","number"]=0 by rfl'];rfl)
theorem yrB {v0 v1:PV}{h:AH}:yiy [3] "number" (.ins 3 ["slot","number"] [v0,v1]) h=some (v1,h):=ybN (by decide) (by rfl') (by rw [show List.idxOf ("number":Str) ["slot","number"]=1 by rfl'];rfl)
theorem yvv {x:PV}{ρ:PSt}{h:AH}:ylw [3,4,5,6,7,9,10] 0 "slot" (.own (.ins 3 [] [])::ρ) x h=some (.nx (.own (.ins 3 ["slot"] [x])::ρ),h):=ycU (by decide) (by decide) (by rfl')
theorem yrC {v0:PV}{x:PV}{ρ:PSt}{h:AH}:ylw [3] 0 "number" (.own (.ins 3 ["slot"] [v0])::ρ) x h=some (.nx (.own (.ins 3 ["slot","number"] [v0,x])::ρ),h):=ycU (by decide) (by decide) (by rfl')
theorem ypY {v0 v1 v2 v3:PV}{h:AH}:yiy [4] "word" (.ins 4 ["word","slot","one","other"] [v0,v1,v2,v3]) h=some (v0,h):=ybN (by decide) (by rfl') (by rw [show List.idxOf ("word":Str) ["word","slot","one","other"]=0 by rfl'];rfl)
theorem ypZ {v0 v1 v2 v3:PV}{h:AH}:yiy [3,4,5,6,7,9,10] "slot" (.ins 4 ["word","slot","one","other"] [v0,v1,v2,v3]) h=some (v1,h):=ybN (by decide) (by rfl') (by rw [show List.idxOf ("slot":Str) ["word","slot","one","other"]=1 by rfl'];rfl)
theorem yrD {v0 v1 v2 v3:PV}{h:AH}:yiy [4] "one" (.ins 4 ["word","slot","one","other"] [v0,v1,v2,v3]) h=some (v2,h):=ybN (by decide) (by rfl') (by rw [show List.idxOf ("one":Str) ["word","slot","one","other"]=2 by rfl'];rfl)
theorem yoS {v0 v1 v2 v3:PV}{h:AH}:yiy [4] "other" (.ins 4 ["word","slot","one","other"] [v0,v1,v2,v3]) h=some (v3,h):=ybN (by decide) (by rfl') (by rw [show List.idxOf ("other":Str) ["word","slot","one","other"]=3 by rfl'];rfl)
theorem yqa {x:PV}{ρ:PSt}{h:AH}:ylw [4] 0 "word" (.own (.ins 4 [] [])::ρ) x h=some (.nx (.own (.ins 4 ["word"] [x])::ρ),h):=ycU (by decide) (by decide) (by rfl')
theorem yqb {v0:PV}{x:PV}{ρ:PSt}{h:AH}:ylw [3,4,5,6,7,9,10] 0 "slot" (.own (.ins 4 ["word"] [v0])::ρ) x h=some (.nx (.own (.ins 4 ["word","slot"] [v0,x])::ρ),h):=ycU (by decide) (by decide) (by rfl')
theorem yrE {v0 v1:PV}{x:PV}{ρ:PSt}{h:AH}:ylw [4] 0 "one" (.own (.ins 4 ["word","slot"] [v0,v1])::ρ) x h=some (.nx (.own (.ins 4 ["word","slot","one"] [v0,v1,x])::ρ),h):=ycU (by decide) (by decide) (by rfl')
theorem yoT {v0 v1 v2:PV}{x:PV}{ρ:PSt}{h:AH}:ylw [4] 0 "other" (.own (.ins 4 ["word","slot","one"] [v0,v1,v2])::ρ) x h=some (.nx (.own (.ins 4 ["word","slot","one","other"] [v0,v1,v2,x])::ρ),h):=ycU (by decide) (by decide) (by rfl')
theorem yty {v0 v1:PV}{h:AH}:yiy [3,4,5,6,7,9,10] "slot" (.ins 5 ["slot","place"] [v0,v1]) h=some (v0,h):=ybN (by decide) (by rfl') (by rw [show List.idxOf ("slot":Str) ["slot","place"]=0 by rfl'];rfl)
theorem yrF {v0 v1:PV}{h:AH}:yiy [5,6] "place" (.ins 5 ["slot","place"] [v0,v1]) h=some (v1,h):=ybN (by decide) (by rfl') (by rw [show List.idxOf ("place":Str) ["slot","place"]=1 by rfl'];rfl)
theorem ytz {x:PV}{ρ:PSt}{h:AH}:ylw [3,4,5,6,7,9,10] 0 "slot" (.own (.ins 5 [] [])::ρ) x h=some (.nx (.own (.ins 5 ["slot"] [x])::ρ),h):=ycU (by decide) (by decide) (by rfl')
theorem yrG {v0:PV}{x:PV}{ρ:PSt}{h:AH}:ylw [5,6] 0 "place" (.own (.ins 5 ["slot"] [v0])::ρ) x h=some (.nx (.own (.ins 5 ["slot","place"] [v0,x])::ρ),h):=ycU (by decide) (by decide) (by rfl')
theorem ytA {v0 v1:PV}{h:AH}:yiy [5,6] "place" (.ins 6 ["place","slot"] [v0,v1]) h=some (v0,h):=ybN (by decide) (by rfl') (by rw [show List.idxOf ("place":Str) ["place","slot"]=0 by rfl'];rfl)
theorem yvw {v0 v1:PV}{h:AH}:yiy [3,4,5,6,7,9,10] "slot" (.ins 6 ["place","slot"] [v0,v1]) h=some (v1,h):=ybN (by decide) (by rfl') (by rw [show List.idxOf ("slot":Str) ["place","slot"]=1 by rfl'];rfl)
theorem ytB {x:PV}{ρ:PSt}{h:AH}:ylw [5,6] 0 "place" (.own (.ins 6 [] [])::ρ) x h=some (.nx (.own (.ins 6 ["place"] [x])::ρ),h):=ycU (by decide) (by decide) (by rfl')
theorem yvx {v0:PV}{x:PV}{ρ:PSt}{h:AH}:ylw [3,4,5,6,7,9,10] 0 "slot" (.own (.ins 6 ["place"] [v0])::ρ) x h=some (.nx (.own (.ins 6 ["place","slot"] [v0,x])::ρ),h):=ycU (by decide) (by decide) (by rfl')
theorem yxS {v0 v1 v2:PV}{h:AH}:yiy [3,4,5,6,7,9,10] "slot" (.ins 7 ["slot","parts","others"] [v0,v1,v2]) h=some (v0,h):=ybN (by decide) (by rfl') (by rw [show List.idxOf ("slot":Str) ["slot","parts","others"]=0 by rfl'];rfl)
theorem yvy {v0 v1 v2:PV}{h:AH}:yiy [7,8,9] "parts" (.ins 7 ["slot","parts","others"] [v0,v1,v2]) h=some (v1,h):=ybN (by decide) (by rfl') (by rw [show List.idxOf ("parts":Str) ["slot","parts","others"]=1 by rfl'];rfl)
theorem ytC {v0 v1 v2:PV}{h:AH}:yiy [7,8,9] "others" (.ins 7 ["slot","parts","others"] [v0,v1,v2]) h=some (v2,h):=ybN (by decide) (by rfl') (by rw [show List.idxOf ("others":Str) ["slot","parts","others"]=2 by rfl'];rfl)
theorem yxT {x:PV}{ρ:PSt}{h:AH}:ylw [3,4,5,6,7,9,10] 0 "slot" (.own (.ins 7 [] [])::ρ) x h=some (.nx (.own (.ins 7 ["slot"] [x])::ρ),h):=ycU (by decide) (by decide) (by rfl')
theorem yvz {v0:PV}{x:PV}{ρ:PSt}{h:AH}:ylw [7,8,9] 0 "parts" (.own (.ins 7 ["slot"] [v0])::ρ) x h=some (.nx (.own (.ins 7 ["slot","parts"] [v0,x])::ρ),h):=ycU (by decide) (by decide) (by rfl')
theorem ytD {v0 v1:PV}{x:PV}{ρ:PSt}{h:AH}:ylw [7,8,9] 0 "others" (.own (.ins 7 ["slot","parts"] [v0,v1])::ρ) x h=some (.nx (.own (.ins 7 ["slot","parts","others"] [v0,v1,x])::ρ),h):=ycU (by decide) (by decide) (by rfl')
theorem yoU {v0 v1:PV}{h:AH}:yiy [7,8,9] "parts" (.ins 8 ["parts","others"] [v0,v1]) h=some (v0,h):=ybN (by decide) (by rfl') (by rw [show List.idxOf ("parts":Str) ["parts","others"]=0 by rfl'];rfl)
theorem ynL {v0 v1:PV}{h:AH}:yiy [7,8,9] "others" (.ins 8 ["parts","others"] [v0,v1]) h=some (v1,h):=ybN (by decide) (by rfl') (by rw [show List.idxOf ("others":Str) ["parts","others"]=1 by rfl'];rfl)
theorem yoV {x:PV}{ρ:PSt}{h:AH}:ylw [7,8,9] 0 "parts" (.own (.ins 8 [] [])::ρ) x h=some (.nx (.own (.ins 8 ["parts"] [x])::ρ),h):=ycU (by decide) (by decide) (by rfl')
theorem ynM {v0:PV}{x:PV}{ρ:PSt}{h:AH}:ylw [7,8,9] 0 "others" (.own (.ins 8 ["parts"] [v0])::ρ) x h=some (.nx (.own (.ins 8 ["parts","others"] [v0,x])::ρ),h):=ycU (by decide) (by decide) (by rfl')
theorem ytE {v0 v1 v2 v3:PV}{h:AH}:yiy [7,8,9] "parts" (.ins 9 ["parts","name","slot","others"] [v0,v1,v2,v3]) h=some (v0,h):=ybN (by decide) (by rfl') (by rw [show List.idxOf ("parts":Str) ["parts","name","slot","others"]=0 by rfl'];rfl)
theorem yvA {v0 v1 v2 v3:PV}{h:AH}:yiy [9,10] "name" (.ins 9 ["parts","name","slot","others"] [v0,v1,v2,v3]) h=some (v1,h):=ybN (by decide) (by rfl') (by rw [show List.idxOf ("name":Str) ["parts","name","slot","others"]=1 by rfl'];rfl)
theorem yvB {v0 v1 v2 v3:PV}{h:AH}:yiy [3,4,5,6,7,9,10] "slot" (.ins 9 ["parts","name","slot","others"] [v0,v1,v2,v3]) h=some (v2,h):=ybN (by decide) (by rfl') (by rw [show List.idxOf ("slot":Str) ["parts","name","slot","others"]=2 by rfl'];rfl)
theorem yrH {v0 v1 v2 v3:PV}{h:AH}:yiy [7,8,9] "others" (.ins 9 ["parts","name","slot","others"] [v0,v1,v2,v3]) h=some (v3,h):=ybN (by decide) (by rfl') (by rw [show List.idxOf ("others":Str) ["parts","name","slot","others"]=3 by rfl'];rfl)
theorem ytF {x:PV}{ρ:PSt}{h:AH}:ylw [7,8,9] 0 "parts" (.own (.ins 9 [] [])::ρ) x h=some (.nx (.own (.ins 9 ["parts"] [x])::ρ),h):=ycU (by decide) (by decide) (by rfl')
theorem yvC {v0:PV}{x:PV}{ρ:PSt}{h:AH}:ylw [9,10] 0 "name" (.own (.ins 9 ["parts"] [v0])::ρ) x h=some (.nx (.own (.ins 9 ["parts","name"] [v0,x])::ρ),h):=ycU (by decide) (by decide) (by rfl')
theorem yvD {v0 v1:PV}{x:PV}{ρ:PSt}{h:AH}:ylw [3,4,5,6,7,9,10] 0 "slot" (.own (.ins 9 ["parts","name"] [v0,v1])::ρ) x h=some (.nx (.own (.ins 9 ["parts","name","slot"] [v0,v1,x])::ρ),h):=ycU (by decide) (by decide) (by rfl')
theorem yrI {v0 v1 v2:PV}{x:PV}{ρ:PSt}{h:AH}:ylw [7,8,9] 0 "others" (.own (.ins 9 ["parts","name","slot"] [v0,v1,v2])::ρ) x h=some (.nx (.own (.ins 9 ["parts","name","slot","others"] [v0,v1,v2,x])::ρ),h):=ycU (by decide) (by decide) (by rfl')
theorem yrJ {v0 v1:PV}{h:AH}:yiy [9,10] "name" (.ins 10 ["name","slot"] [v0,v1]) h=some (v0,h):=ybN (by decide) (by rfl') (by rw [show List.idxOf ("name":Str) ["name","slot"]=0 by rfl'];rfl)
theorem yrK {v0 v1:PV}{h:AH}:yiy [3,4,5,6,7,9,10] "slot" (.ins 10 ["name","slot"] [v0,v1]) h=some (v1,h):=ybN (by decide) (by rfl') (by rw [show List.idxOf ("slot":Str) ["name","slot"]=1 by rfl'];rfl)
theorem yrL {x:PV}{ρ:PSt}{h:AH}:ylw [9,10] 0 "name" (.own (.ins 10 [] [])::ρ) x h=some (.nx (.own (.ins 10 ["name"] [x])::ρ),h):=ycU (by decide) (by decide) (by rfl')
theorem yrM {v0:PV}{x:PV}{ρ:PSt}{h:AH}:ylw [3,4,5,6,7,9,10] 0 "slot" (.own (.ins 10 ["name"] [v0])::ρ) x h=some (.nx (.own (.ins 10 ["name","slot"] [v0,x])::ρ),h):=ycU (by decide) (by decide) (by rfl')
section
local macro_rules | `(tactic| simp_all? only [$ls,*])=>`(tactic| simp only [yw,yKI,yCj,yIk,yIl,x_c,yJT,yKK,yMl,yDJ,yIm,yIn,yKL,yME,yKM,yMF,yzn,ywD,yIo,yKN,yKO,yKP,yKQ,yFV,x_call,yMG,yIp,yIq,yFW,yIr,yFX,yDK,ynG,yxH,yKR,yoC,yzo,yIs,yxI,yIt,yIu,yIv,yFY,yIw,yKS,yKT,yKU,yKV,yFZ,yKW,yKX,yKY,yKZ,yLa,x_i,yMH,ypV,yIx,yIy,yLb,yLc,yLd,yLe,yLf,yLg,yDL,yLh,yLi,yLj,yLk,yLl,yLm,yMI,yLn,yIz,yCk,yIA,yIB,yIC,yID,yGa,yGb,yDM,yKJ,Option.bind_some,Option.bind_none,List.set_cons_zero,List.set_cons_succ,List.length_cons,List.length_nil,decide_eq_true_eq,Bool.not_eq_true',decide_eq_false_iff_not,if_true,if_false,ite_true,ite_false,and_self,Int.reducePow,Int.reduceToNat,Int.reduceLT,Int.reduceLE,Int.reduceNeg,Int.reduceAdd,Int.reduceSub,Nat.reduceLT,Nat.reduceLeDiff,Nat.reduceAdd,true_and,and_true,reduceIte,Nat.reduceEqDiff,eq_self,yIL,yIM,yLv,yMn,yMK,yLr,yLs,yLt,yLu,Int.reduceEq,Bool.not_true,Bool.not_false,yJd,yJe,ytw,ynK,yrA,ypW,ytx,ypX,yvu,yrB,yvv,yrC,ypY,ypZ,yrD,yoS,yqa,yqb,yrE,yoT,yty,yrF,ytz,yrG,ytA,yvw,ytB,yvx,yxS,yvy,ytC,yxT,yvz,ytD,yoU,ynL,yoV,ynM,ytE,yvA,yvB,yrH,ytF,yvC,yvD,yrI,yrJ,yrK,yrL,yrM,yGl,yGm,$ls,*])
local macro_rules | `(tactic| walk_at "px")=>`(tactic| simp_all? only [yw])
noncomputable def yM:List (Nat×Nat×Bool):=[(3,3,true),(3,4,false),(3,5,false),(3,6,false),(3,7,false),(3,8,false),(3,9,false),(3,10,false),(3,11,false),(4,3,false),(4,4,true),(4,5,false),(4,6,false),(4,7,false),(4,8,false),(4,9,false),(4,10,false),(4,11,false),(5,3,false),(5,4,false),(5,5,true),(5,6,false),(5,7,false),(5,8,false),(5,9,false),(5,10,false),(5,11,false),(6,3,false),(6,4,false),(6,5,false),(6,6,true),(6,7,false),(6,8,false),(6,9,false),(6,10,false),(6,11,false),(7,3,false),(7,4,false),(7,5,false),(7,6,false),(7,7,true),(7,8,false),(7,9,false),(7,10,false),(7,11,false),(8,3,false),(8,4,false),(8,5,false),(8,6,false),(8,7,false),(8,8,true),(8,9,false),(8,10,false),(8,11,false),(9,3,false),(9,4,false),(9,5,false),(9,6,false),(9,7,false),(9,8,false),(9,9,true),(9,10,false),(9,11,false),(10,3,false),(10,4,false),(10,5,false),(10,6,false),(10,7,false),(10,8,false),(10,9,false),(10,10,true),(10,11,false),(11,3,false),(11,4,false),(11,5,false),(11,6,false),(11,7,false),(11,8,false),(11,9,false),(11,10,false),(11,11,true)]
structure Fa (ck:Ck):Prop where
 fl_stack:∀ k∈([0]:List Nat),Cls ck.K (ck.A k)/\NoAttr ck.K (ck.A k) "stack"
 fl_last_seen:∀ k∈([0]:List Nat),Cls ck.K (ck.A k)/\NoAttr ck.K (ck.A k) "last_seen"
 fl_held:∀ k∈([1]:List Nat),Cls ck.K (ck.A k)/\NoAttr ck.K (ck.A k) "held"
 fl_width:∀ k∈([1]:List Nat),Cls ck.K (ck.A k)/\NoAttr ck.K (ck.A k) "width"
 fl_log:∀ k∈([1]:List Nat),Cls ck.K (ck.A k)/\NoAttr ck.K (ck.A k) "log"
 fl_found:∀ k∈([1]:List Nat),Cls ck.K (ck.A k)/\NoAttr ck.K (ck.A k) "found"
 fl_slot:∀ k∈([3,4,5,6,7,9,10]:List Nat),Cls ck.K (ck.A k)/\NoAttr ck.K (ck.A k) "slot"
 fl_number:∀ k∈([3]:List Nat),Cls ck.K (ck.A k)/\NoAttr ck.K (ck.A k) "number"
 fl_word:∀ k∈([4]:List Nat),Cls ck.K (ck.A k)/\NoAttr ck.K (ck.A k) "word"
 fl_one:∀ k∈([4]:List Nat),Cls ck.K (ck.A k)/\NoAttr ck.K (ck.A k) "one"
 fl_other:∀ k∈([4]:List Nat),Cls ck.K (ck.A k)/\NoAttr ck.K (ck.A k) "other"
 fl_place:∀ k∈([5,6]:List Nat),Cls ck.K (ck.A k)/\NoAttr ck.K (ck.A k) "place"
 fl_parts:∀ k∈([7,8,9]:List Nat),Cls ck.K (ck.A k)/\NoAttr ck.K (ck.A k) "parts"
 fl_others:∀ k∈([7,8,9]:List Nat),Cls ck.K (ck.A k)/\NoAttr ck.K (ck.A k) "others"
 fl_name:∀ k∈([9,10]:List Nat),Cls ck.K (ck.A k)/\NoAttr ck.K (ck.A k) "name"
 isa:∀ r∈yM,∀ (H:Hp) (a dx:Addr) (fs:List (Str×V)),H a=some (.ins (ck.A r.1) dx fs)->IsI ck.K H (.ref a) (.ref (ck.A r.2.1)) r.2.2
noncomputable def yeu:List PV->AH->Option (Nd×AH):=ytk 1 0 (yu (yfb [0] 0 "stack" (ykO (ylA (yc (ykO (ytn)) (yr))))) (yfb [0] 0 "last_seen" (ykO (ytn))))
noncomputable def yhh:Fn:=ygX 4 (yu (ydb (xOp (ygv) (yfB [0] "stack" (yg 0)) (xUn yJQ (xC (.int 1)))) (yC 3)) (yrn (yg 3) (yg 1) (yg 2)))
noncomputable def ygi:Fn:=ygX 3 (yu (yCx true (yfB [0] "stack" (yg 0)) (yC 2) (ycR (yG (yzy false (yg 1) (yg 2))) (ycu (yvn (yg 2) (yg 1))) (ybB))) (ycu (xC .non)))
def yhi:Fn:=ygX 1 (yfa (xBM ynH (yrl) (yfB [0] "stack" (yg 0)) (yc (ykO (ytn)) (yr))))
noncomputable def ygj:Fn:=ygX 3 (yu (ydb (xBM ynH (yxK) (yfB [0] "stack" (yg 0)) (yr)) (yC 1)) (yu (ydb (xOp (ygv) (yfB [0] "stack" (yg 0)) (xUn yJQ (xC (.int 1)))) (yC 2)) (yfa (xBM yxP (yHh) (yg 2) (yc (yg 1) (yr))))))
def ygZ:Fn:=ygX 1 (yfa (xBM ynH (yxK) (yfB [0] "stack" (yg 0)) (yr)))
def yjN:Fn:=ygX 3 (yrn (yfB [0] "last_seen" (yg 0)) (yg 1) (yg 2))
def yhj:Fn:=ygX 1 (ycu (ykO (yoG (yfB [0] "last_seen" (yg 0)))))
def yhk:Fn:=ygX 2 (yu (ydb (xOp (ygv) (yfB [0] "stack" (yg 0)) (xC (.int 0))) (yC 1)) (ycu (ykO (yoG (yg 1)))))
noncomputable def ylM:Fn:=ygX 3 (yu (ycR (yG (xOp (oEq) (yg 0) (xC (.str "plus")))) (ycu (xOp oMod (xOp yoh (yg 1) (yg 2)) (xC (.int 18446744073709551616)))) (ybB)) (yu (ycR (yG (xOp (oEq) (yg 0) (xC (.str "minus")))) (ycu (xOp oMod (xOp yId (yg 1) (yg 2)) (xC (.int 18446744073709551616)))) (ybB)) (yu (ycR (yG (xOp (oEq) (yg 0) (xC (.str "times")))) (ycu (xOp oMod (xOp yDH (yg 1) (yg 2)) (xC (.int 18446744073709551616)))) (ybB)) (yu (ycR (yG (xOp (oEq) (yg 0) (xC (.str "less")))) (ycu (xIf (yG (xOp (oLt) (yg 1) (yg 2))) (xC (.int 1)) (xC (.int 0)))) (ybB)) (ycu (xIf (yG (xOp (oEq) (yg 1) (yg 2))) (xC (.int 1)) (xC (.int 0))))))))
def ydG:Fn:=ygX 1 (ycu (xBM isStr (yeo) (xC (.str "abcdefgh")) (yc (yg 0) (yr))))
noncomputable def ydH:List PV->AH->Option (Nd×AH):=ytk 3 1 (yu (yfb [1] 0 "held" (ykO (ymt (ybD) (yc (yg 1) (yr))))) (yu (yfb [1] 0 "width" (yg 2)) (yfb [1] 0 "log" (ykO (ylD yeu (yr))))))
def yY:Fn:=ygX 2 (ycu (xOp (ygv) (yfB [1] "held" (yg 0)) (ycm ydG (yc (yg 1) (yr)))))
def ybO:Fn:=ygX 3 (ymB (yfB [1] "held" (yg 0)) (ycm ydG (yc (yg 1) (yr))) (yg 2))
def ybE:Fn:=ygX 2 (ycu (xOp oMod (yR 1 "held_in" yY (yg 0) (yc (yg 1) (yr))) (yfB [1] "width" (yg 0))))
noncomputable def yds:Fn:=ygX 5 (yfa (yR 1 "hold" ybO (yg 0) (yc (yg 2) (yc (ycm ylM (yc (yg 1) (yc (yR 1 "held_in" yY (yg 0) (yc (yg 3) (yr))) (yc (yR 1 "held_in" yY (yg 0) (yc (yg 4) (yr))) (yr))))) (yr)))))
noncomputable def yfd:Fn:=ygX 3 (yfa (yR 0 "write" yhh (yfB [1] "log" (yg 0)) (yc (yR 1 "box_at" ybE (yg 0) (yc (yg 1) (yr))) (yc (yR 1 "held_in" yY (yg 0) (yc (yg 2) (yr))) (yr)))))
noncomputable def yev:Fn:=ygX 2 (ycu (xOp (yHf) (yR 0 "own" ygi (yfB [1] "log" (yg 0)) (yc (yR 1 "box_at" ybE (yg 0) (yc (yg 1) (yr))) (yr))) (xC .non)))
noncomputable def ydI:Fn:=ygX 3 (yfa (yR 1 "hold" ybO (yg 0) (yc (yg 1) (yc (yR 0 "own" ygi (yfB [1] "log" (yg 0)) (yc (yR 1 "box_at" ybE (yg 0) (yc (yg 2) (yr))) (yr))) (yr)))))
noncomputable def ydt:Fn:=ygX 5 (yu (ydb (yR 1 "box_at" ybE (yg 0) (yc (yg 2) (yr))) (yC 4)) (yu (yfa (yR 0 "see" yjN (yfB [1] "log" (yg 0)) (yc (yg 4) (yc (xOp (ygv) (yg 3) (yg 4)) (yr))))) (yfa (yR 1 "hold" ybO (yg 0) (yc (yg 1) (yc (xOp (ygv) (yg 3) (yg 4)) (yr)))))))
def yew:List PV->AH->Option (Nd×AH):=ytk 3 3 (yu (yfb [3,4,5,6,7,9,10] 0 "slot" (yg 1)) (yfb [3] 0 "number" (yg 2)))
noncomputable def ycW:List PV->AH->Option (Nd×AH):=ytk 5 4 (yu (yfb [4] 0 "word" (yg 1)) (yu (yfb [3,4,5,6,7,9,10] 0 "slot" (yg 2)) (yu (yfb [4] 0 "one" (yg 3)) (yfb [4] 0 "other" (yg 4)))))
def ydJ:List PV->AH->Option (Nd×AH):=ytk 3 5 (yu (yfb [3,4,5,6,7,9,10] 0 "slot" (yg 1)) (yfb [5,6] 0 "place" (yg 2)))
def yex:List PV->AH->Option (Nd×AH):=ytk 3 6 (yu (yfb [5,6] 0 "place" (yg 1)) (yfb [3,4,5,6,7,9,10] 0 "slot" (yg 2)))
noncomputable def ydu:List PV->AH->Option (Nd×AH):=ytk 3 1 (yu (xBI 1 ydH (yc (yg 2) (yc (xCB (yiN) (yc (yg 1) (yr))) (yr)))) (yfb [1] 0 "found" (xFz (ymt (ybD) (yc (yg 1) (yr))))))
noncomputable def ycX:Fn:=ygX 2 (ycR (yG (yR 1 "sees_at" yev (yg 0) (yc (yfB [5,6] "place" (yg 1)) (yr)))) (yfa (yR 1 "take_seen" ydt (yg 0) (yc (yfB [3,4,5,6,7,9,10] "slot" (yg 1)) (yc (yfB [5,6] "place" (yg 1)) (yc (yfB [1] "found" (yg 0)) (yr)))))) (yfa (yR 1 "take_own" ydI (yg 0) (yc (yfB [3,4,5,6,7,9,10] "slot" (yg 1)) (yc (yfB [5,6] "place" (yg 1)) (yr))))))
noncomputable def ycA:Fn:=ygX 2 (yu (ycR (yG (xCB (ycw yM) (yc (yg 1) (yc (xC (.cls 3)) (yr))))) (yfa (yR 1 "hold" ybO (yg 0) (yc (yfB [3,4,5,6,7,9,10] "slot" (yg 1)) (yc (yfB [3] "number" (yg 1)) (yr))))) (ybB)) (yu (ycR (yG (xCB (ycw yM) (yc (yg 1) (yc (xC (.cls 4)) (yr))))) (yfa (yR 1 "do_reckon" yds (yg 0) (yc (yfB [4] "word" (yg 1)) (yc (yfB [3,4,5,6,7,9,10] "slot" (yg 1)) (yc (yfB [4] "one" (yg 1)) (yc (yfB [4] "other" (yg 1)) (yr))))))) (ybB)) (yu (ycR (yG (xCB (ycw yM) (yc (yg 1) (yc (xC (.cls 5)) (yr))))) (yfa (yR 1 "take_done" ycX (yg 0) (yc (yg 1) (yr)))) (ybB)) (ycR (yG (xCB (ycw yM) (yc (yg 1) (yc (xC (.cls 6)) (yr))))) (yfa (yR 1 "do_put" yfd (yg 0) (yc (yfB [5,6] "place" (yg 1)) (yc (yfB [3,4,5,6,7,9,10] "slot" (yg 1)) (yr))))) (ybB)))))
mutual
noncomputable def ybc:Nat->Fn
 | 0=>fun _ _=>none
 | n+1=>ygX 4 (yu (yza (xIL (yg 1)) (yC 2) (yu (ydb (yR 1 "part_end" (yH n) (yg 0) (yc (yg 2) (yr))) (yC 3)) (ycR (yG (xOp (yuE) (yg 3) (xC (.tup [.str "done"])))) (ycu (yg 3)) (ybB)))) (ycu (xC (.tup [.str "done"]))))
noncomputable def yH:Nat->Fn
 | 0=>fun _ _=>none
 | n+1=>ygX 2 (yu (ycR (yG (xCB (ycw yM) (yc (yg 1) (yc (xC (.cls 7)) (yr))))) (ycu (yR 1 "if_end" (yfP n) (yg 0) (yc (yg 1) (yr)))) (ybB)) (yu (ycR (yG (xCB (ycw yM) (yc (yg 1) (yc (xC (.cls 8)) (yr))))) (ycu (yR 1 "either_end" (ydB n) (yg 0) (yc (yg 1) (yr)))) (ybB)) (yu (ycR (yG (xCB (ycw yM) (yc (yg 1) (yc (xC (.cls 9)) (yr))))) (ycu (yR 1 "try_end" (yfe n) (yg 0) (yc (yg 1) (yr)))) (ybB)) (yu (ycR (yG (xCB (ycw yM) (yc (yg 1) (yc (xC (.cls 10)) (yr))))) (ycu (yiL (yc (xC (.str "fell")) (yc (yfB [9,10] "name" (yg 1)) (yc (yR 1 "held_in" yY (yg 0) (yc (yfB [3,4,5,6,7,9,10] "slot" (yg 1)) (yr))) (yr)))))) (ybB)) (yu (ycR (yG (xCB (ycw yM) (yc (yg 1) (yc (xC (.cls 11)) (yr))))) (ycu (xC (.tup [.str "waits"]))) (ybB)) (yu (yfa (yR 1 "plain_done" ycA (yg 0) (yc (yg 1) (yr)))) (ycu (xC (.tup [.str "done"])))))))))
noncomputable def yfP:Nat->Fn
 | 0=>fun _ _=>none
 | n+1=>ygX 2 (yu (ycR (yG (xOp (oNe) (yR 1 "held_in" yY (yg 0) (yc (yfB [3,4,5,6,7,9,10] "slot" (yg 1)) (yr))) (xC (.int 0)))) (ycu (yR 1 "list_end" (ybc n) (yg 0) (yc (yfB [7,8,9] "parts" (yg 1)) (yr)))) (ybB)) (ycu (yR 1 "list_end" (ybc n) (yg 0) (yc (yfB [7,8,9] "others" (yg 1)) (yr)))))
noncomputable def ydB:Nat->Fn
 | 0=>fun _ _=>none
 | n+1=>ygX 3 (yu (ydb (yR 1 "layered_end" (ycp n) (yg 0) (yc (yfB [7,8,9] "parts" (yg 1)) (yr))) (yC 2)) (yu (ycR (yG (xOp (ywL) (yg 2) (xC (.tup [.str "waits"])))) (ycu (yR 1 "list_end" (ybc n) (yg 0) (yc (yfB [7,8,9] "others" (yg 1)) (yr)))) (ybB)) (ycu (yg 2))))
noncomputable def yfe:Nat->Fn
 | 0=>fun _ _=>none
 | n+1=>ygX 3 (yu (ydb (yR 1 "layered_end" (ycp n) (yg 0) (yc (yfB [7,8,9] "parts" (yg 1)) (yr))) (yC 2)) (yu (ycR (yJN (yG (xOp (oEq) (xOp (ydd) (yg 2) (xC (.int 0))) (xC (.str "fell")))) (yG (xOp (oEq) (xOp (ydd) (yg 2) (xC (.int 1))) (yfB [9,10] "name" (yg 1))))) (yu (yfa (yR 1 "hold" ybO (yg 0) (yc (yfB [3,4,5,6,7,9,10] "slot" (yg 1)) (yc (xOp (ydd) (yg 2) (xC (.int 2))) (yr))))) (ycu (yR 1 "list_end" (ybc n) (yg 0) (yc (yfB [7,8,9] "others" (yg 1)) (yr))))) (ybB)) (ycu (yg 2))))
noncomputable def ycp:Nat->Fn
 | 0=>fun _ _=>none
 | n+1=>ygX 4 (yu (ydb (ykO (ymt (ybD) (yc (yfB [1] "held" (yg 0)) (yr)))) (yC 2)) (yu (yfa (yR 0 "begin" yhi (yfB [1] "log" (yg 0)) (yr))) (yu (ydb (yR 1 "list_end" (ybc n) (yg 0) (yc (yg 1) (yr))) (yC 3)) (yu (ycR (yG (xOp (ywL) (yg 3) (xC (.tup [.str "done"])))) (yfa (yR 0 "settle" ygj (yfB [1] "log" (yg 0)) (yr))) (yu (yfa (yR 0 "drop" ygZ (yfB [1] "log" (yg 0)) (yr))) (yzD [1] "held" (yg 0) (yg 2)))) (ycu (yg 3))))))
end
noncomputable def ymF:Fn:=ygX 5 (yu (ydb (ykO (ylD ydu (yc (yg 1) (yc (yg 2) (yr))))) (yC 3)) (yu (ydb (yR 1 "list_end" (ybc 20) (yg 3) (yc (yg 0) (yr))) (yC 4)) (yu (ycR (yG (xOp (ywL) (yg 4) (xC (.tup [.str "done"])))) (ycu (yiL (yc (yg 4) (yc (yR 0 "saw" yhj (yfB [1] "log" (yg 3)) (yr)) (yc (yR 0 "wrote" yhk (yfB [1] "log" (yg 3)) (yr)) (yc (ykO (ymt (ybD) (yc (yfB [1] "held" (yg 3)) (yr)))) (yr))))))) (ybB)) (ycu (yiL (yc (yg 4) (yc (yR 0 "saw" yhj (yfB [1] "log" (yg 3)) (yr)) (yc (ykO (ylA (yr))) (yc (ykO (ymt (ybD) (yc (yg 2) (yr)))) (yr))))))))))
noncomputable def yff:List PV->AH->Option (Nd×AH):=ytk 4 7 (yu (yfb [3,4,5,6,7,9,10] 0 "slot" (yg 1)) (yu (yfb [7,8,9] 0 "parts" (xFz (ymt (ybD) (yc (yg 2) (yr))))) (yfb [7,8,9] 0 "others" (xFz (ymt (ybD) (yc (yg 3) (yr)))))))
noncomputable def ycY:List PV->AH->Option (Nd×AH):=ytk 3 8 (yu (yfb [7,8,9] 0 "parts" (xFz (ymt (ybD) (yc (yg 1) (yr))))) (yfb [7,8,9] 0 "others" (xFz (ymt (ybD) (yc (yg 2) (yr))))))
noncomputable def yey:List PV->AH->Option (Nd×AH):=ytk 5 9 (yu (yfb [7,8,9] 0 "parts" (xFz (ymt (ybD) (yc (yg 1) (yr))))) (yu (yfb [9,10] 0 "name" (yg 2)) (yu (yfb [3,4,5,6,7,9,10] 0 "slot" (yg 3)) (yfb [7,8,9] 0 "others" (xFz (ymt (ybD) (yc (yg 4) (yr))))))))
def ydv:List PV->AH->Option (Nd×AH):=ytk 3 10 (yu (yfb [9,10] 0 "name" (yg 1)) (yfb [3,4,5,6,7,9,10] 0 "slot" (yg 2)))
def ybK:Fn:=ygX 1 (ycu (xOp oMod (xOp yDH (yg 0) (xC (.int 48271))) (xC (.int 999999999989))))
def yde:Fn:=ygX 1 (ycu (xOp oMod (xOp yDH (yg 0) (xC (.int 982451653))) (xOp yIe (xC (.int 2)) (xC (.int 64)))))
noncomputable def yx:Nat->Fn
 | 0=>fun _ _=>none
 | n+1=>ygX 3 (yu (ycR (yG (xCB (ycw yM) (yc (yg 1) (yc (xC (.ty "int")) (yr))))) (ycu (yxw (xCB (ycw yM) (yc (yg 0) (yc (xC (.ty "int")) (yr)))) (yxw (yBE (xCB (ycw yM) (yc (yg 0) (yc (xC (.ty "bool")) (yr))))) (xOp (oEq) (yg 0) (yg 1))))) (ybB)) (yu (ycR (yG (xCB (ycw yM) (yc (yg 1) (yc (xC (.ty "str")) (yr))))) (ycu (yxw (xCB (ycw yM) (yc (yg 0) (yc (xC (.ty "str")) (yr)))) (xOp (oEq) (yg 0) (yg 1)))) (ybB)) (yu (ycR (yG (xCB (ycw yM) (yc (yg 1) (yc (xC (.ty "tuple")) (yr))))) (ycR (yDB (yG (xCB (ycw yM) (yc (yg 0) (yc (xC (.ty "tuple")) (yr)))))) (ycu (xC (.bl false))) (ybB)) (ycR (yDB (yG (xCB (ycw yM) (yc (yg 0) (yc (xC (.ty "list")) (yr)))))) (ycu (xC (.bl false))) (ybB))) (yu (ycR (yG (xOp (oNe) (xCB (yiN) (yc (yg 0) (yr))) (xCB (yiN) (yc (yg 1) (yr))))) (ycu (xC (.bl false))) (ybB)) (yu (yza (yBW (yc (xCB (yiN) (yc (yg 1) (yr))) (yr))) (yC 2) (ycR (yDB (yG (ycm (yx n) (yc (xOp (yxM) (yg 0) (yg 2)) (yc (xOp (yxM) (yg 1) (yg 2)) (yr)))))) (ycu (xC (.bl false))) (ybB))) (ycu (xC (.bl true))))))))
noncomputable def ygk:Fn:=ygX 10 (yu (ydb (xC (.str "abcdefghijklmnopqrstuvwxyz")) (yC 1)) (yu (ydb (ycm ybK (yc (yg 0) (yr))) (yC 2)) (yu (ydb (xOp yoh (xC (.int 1)) (xOp oMod (yg 2) (xC (.int 8)))) (yC 3)) (yu (ydb (xOp oMod (xOp oDiv (yg 2) (xC (.int 8))) (yg 3)) (yC 4)) (yu (yti (ylA (yr)) 5) (yu (yza (yBW (yc (xC (.int 3)) (yr))) (yC 6) (yu (ydb (xC (.str "")) (yC 7)) (yu (yza (yBW (yc (yg 3) (yr))) (yC 8) (yu (ydb (xOp yoh (xOp oDiv (xOp oDiv (yg 2) (xC (.int 64))) (xOp yoh (xOp yDH (yg 8) (yg 8)) (xC (.int 1)))) (yg 8)) (yC 9)) (yu (ycR (yG (xOp (oEq) (yg 8) (yg 4))) (ydb (xOp yoh (yg 9) (yg 6)) (yC 9)) (ybB)) (ydb (xOp yCd (yg 7) (xOp (yzj) (yg 1) (xOp oMod (yg 9) (xC (.int 26))))) (yC 7))))) (yiM 5 (yg 7))))) (yDF 5 (ycu (yg 5)))))))))
noncomputable def ygl:Fn:=ygX 11 (yu (ydb (xSl yJR (xC (.str "abcdefgh")) (ymx) (ylB (xOp (ygv) (xFz (ylA (yc (xC (.int 2)) (yc (xC (.int 3)) (yc (xC (.int 8)) (yr)))))) (xOp oMod (yg 0) (xC (.int 3)))))) (yC 2)) (yu (ydb (xCB (yCf) (yc (yg 2) (yr))) (yC 3)) (yu (ydb (xOp oDiv (yg 0) (xC (.int 33))) (yC 4)) (yu (ydb (xOp (yzj) (yg 2) (xOp oMod (yg 4) (yg 3))) (yC 5)) (yu (ydb (xOp (yzj) (yg 2) (xOp oMod (xOp oDiv (yg 4) (yg 3)) (yg 3))) (yC 6)) (yu (ydb (xOp (yzj) (yg 2) (xOp oMod (xOp oDiv (xOp oDiv (yg 4) (yg 3)) (yg 3)) (yg 3))) (yC 7)) (yu (ydb (xOp oMod (xOp oDiv (yg 0) (xC (.int 3))) (xC (.int 11))) (yC 8)) (yu (ycR (yG (xOp (oEq) (yg 8) (xC (.int 0)))) (ycu (xFz (ylA (yc (yiL (yc (xC (.str "let")) (yc (yg 5) (yc (ycm yde (yc (yg 1) (yr))) (yr))))) (yr))))) (ybB)) (yu (ycR (yG (xOp (oLt) (yg 8) (xC (.int 3)))) (ycu (xFz (ylA (yc (yiL (yc (xC (.str "let")) (yc (yg 5) (yc (xOp oMod (xOp oDiv (yg 4) (xC (.int 1000))) (xC (.int 4))) (yr))))) (yr))))) (ybB)) (yu (ycR (yG (xOp (oLt) (yg 8) (xC (.int 5)))) (yu (ydb (xOp (ygv) (xFz (ylA (yc (xC (.str "plus")) (yc (xC (.str "minus")) (yc (xC (.str "times")) (yc (xC (.str "less")) (yc (xC (.str "same")) (yr)))))))) (xOp oMod (xOp oDiv (yg 4) (xC (.int 1000))) (xC (.int 5)))) (yC 9)) (ycu (xFz (ylA (yc (yiL (yc (xC (.str "reckon")) (yc (yg 9) (yc (yg 5) (yc (yg 6) (yc (yg 7) (yr))))))) (yr)))))) (ybB)) (yu (ycR (yG (xOp (oLt) (yg 8) (xC (.int 7)))) (ycu (xFz (ylA (yc (yiL (yc (xC (.str "take")) (yc (yg 5) (yc (yg 6) (yr))))) (yr))))) (ybB)) (yu (ycR (yG (xOp (oLt) (yg 8) (xC (.int 9)))) (ycu (xFz (ylA (yc (yiL (yc (xC (.str "put")) (yc (yg 5) (yc (yg 6) (yr))))) (yr))))) (ybB)) (yu (ydb (xOp (ygv) (xFz (ylA (yc (xC (.str "plus")) (yc (xC (.str "minus")) (yc (xC (.str "times")) (yr)))))) (xOp oMod (xOp oDiv (yg 4) (xC (.int 1000))) (xC (.int 3)))) (yC 9)) (yu (ydb (xFz (ylA (yc (yiL (yc (xC (.str "let")) (yc (yg 5) (yc (xOp oMod (xOp oDiv (yg 4) (xC (.int 3000))) (xC (.int 3))) (yr))))) (yc (yiL (yc (xC (.str "take")) (yc (yg 6) (yc (yg 5) (yr))))) (yr))))) (yC 10)) (ycu (xFz (yFr yFQ (yg 10) (xFz (ylA (yc (yiL (yc (xC (.str "reckon")) (yc (yg 9) (yc (yg 6) (yc (yg 6) (yc (yg 7) (yr))))))) (yc (yiL (yc (xC (.str "put")) (yc (yg 5) (yc (yg 6) (yr))))) (yr))))))))))))))))))))))
noncomputable def ygm:Fn:=ygX 8 (yu (ydb (xC (.str "abc")) (yC 4)) (yu (ydb (xOp (yzj) (yg 4) (xOp oMod (xOp oDiv (yg 0) (xC (.int 9))) (xC (.int 3)))) (yC 5)) (yu (ydb (xOp oMod (yg 0) (xC (.int 3))) (yC 6)) (yu (ycR (yG (xOp (oEq) (yg 6) (xC (.int 0)))) (ycu (yiL (yc (xC (.str "if")) (yc (yg 5) (yc (yg 1) (yc (yg 2) (yr))))))) (ybB)) (yu (ydb (yiL (yc (xC (.str "wait")) (yr))) (yC 7)) (yu (ycR (yG (xOp (oEq) (yg 6) (xC (.int 2)))) (ydb (yiL (yc (xC (.str "throw")) (yc (xOp (ygv) (yg 3) (xOp oMod (xOp oDiv (yg 0) (xC (.int 27))) (xC (.int 3)))) (yc (yg 5) (yr))))) (yC 7)) (ybB)) (yu (ycR (yG (xOp (oEq) (xOp oMod (xOp oDiv (yg 0) (xC (.int 3))) (xC (.int 3))) (xC (.int 1)))) (ydb (xFz (yFr yFQ (yg 1) (xFz (ylA (yc (yg 7) (yr)))))) (yC 1)) (ybB)) (yu (ycR (yG (xOp (oEq) (xOp oMod (xOp oDiv (yg 0) (xC (.int 3))) (xC (.int 3))) (xC (.int 2)))) (ydb (xFz (yFr yFQ (yg 1) (xFz (ylA (yc (yiL (yc (xC (.str "if")) (yc (yg 5) (yc (xFz (ylA (yc (yg 7) (yr)))) (yc (xFz (ylA (yr))) (yr)))))) (yr)))))) (yC 1)) (ybB)) (yu (ycR (yG (xOp (oEq) (yg 6) (xC (.int 1)))) (ycu (yiL (yc (xC (.str "either")) (yc (yg 1) (yc (yg 2) (yr)))))) (ybB)) (ycu (yiL (yc (xC (.str "try")) (yc (yg 1) (yc (xOp (ygv) (yg 3) (xOp oMod (xOp oDiv (yg 0) (xC (.int 81))) (xC (.int 3)))) (yc (xOp (yzj) (yg 4) (xOp oMod (xOp oDiv (yg 0) (xC (.int 243))) (xC (.int 3)))) (yc (yg 2) (yr)))))))))))))))))
noncomputable def ydK:Nat->Fn
 | 0=>fun _ _=>none
 | n+1=>ygX 12 (yu (yti (ylA (yr)) 3) (yu (ydb (xC (.int 0)) (yC 4)) (yu (ytj 1000 (yG (xOp (oLt) (yg 4) (xCB (yiN) (yc (yg 0) (yr))))) (yu (ydb (xOp (ygv) (yg 0) (yg 4)) (yC 5)) (yu (ydb (ycm ybK (yc (yg 5) (yr))) (yC 6)) (yu (ydb (xOp yoh (yg 4) (xC (.int 1))) (yC 4)) (ycR (xOr (yG (xOp (oEq) (yg 1) (xC (.int 0)))) (yG (xOp (oLt) (xOp oMod (yg 6) (xC (.int 11))) (xC (.int 6))))) (yDF 3 (yti (yFr yFQ (yg 3) (ycm ygl (yc (xOp oDiv (yg 6) (xC (.int 11))) (yc (yg 5) (yr))))) 3)) (ycR (yG (xOp (oEq) (xOp oMod (yg 6) (xC (.int 11))) (xC (.int 6)))) (yu (ydb (xFz (ylA (yc (yiL (yc (xC (.str "wait")) (yr))) (yc (yiL (yc (xC (.str "throw")) (yc (xOp (ygv) (yg 2) (xOp oMod (xOp oDiv (yg 6) (xC (.int 33))) (xC (.int 3)))) (yc (xOp (yzj) (xC (.str "abc")) (xOp oMod (xOp oDiv (yg 6) (xC (.int 99))) (xC (.int 3)))) (yr))))) (yr))))) (yC 7)) (yiM 3 (xOp (ygv) (yg 7) (xOp oDiv (xOp oMod (xOp oDiv (yg 6) (xC (.int 11))) (xC (.int 3))) (xC (.int 2)))))) (yu (ydb (xOp oMod (xOp oDiv (yg 6) (xC (.int 11))) (xC (.int 4))) (yC 8)) (yu (ydb (xOp oMod (xOp oDiv (yg 6) (xC (.int 44))) (xC (.int 3))) (yC 9)) (yu (ydb (ycm (ydK n) (yc (xFz (yBF yBh (yg 0) (ylB (yg 4)) (ylB (xOp yoh (yg 4) (yg 8))))) (yc (xOp yId (yg 1) (xC (.int 1))) (yc (yg 2) (yr))))) (yC 10)) (yu (ydb (ycm (ydK n) (yc (xFz (yBF yBh (yg 0) (ylB (xOp yoh (yg 4) (yg 8))) (ylB (xOp yoh (xOp yoh (yg 4) (yg 8)) (yg 9))))) (yc (xOp yId (yg 1) (xC (.int 1))) (yc (yg 2) (yr))))) (yC 11)) (yu (ydb (xOp yoh (xOp yoh (yg 4) (yg 8)) (yg 9)) (yC 4)) (yiM 3 (ycm ygm (yc (xOp oDiv (yg 6) (xC (.int 132))) (yc (yg 10) (yc (yg 11) (yc (yg 2) (yr)))))))))))))))))) (yDF 3 (ycu (yg 3))))))
noncomputable def ycq:Nat->Fn
 | 0=>fun _ _=>none
 | n+1=>ygX 3 (yu (yti (ylA (yr)) 1) (yu (yza (xIL (yg 0)) (yC 2) (ycR (yG (xOp (oEq) (xOp (ydd) (yg 2) (xC (.int 0))) (xC (.str "let")))) (yiM 1 (xFz (ylD yew (yc (xOp (ydd) (yg 2) (xC (.int 1))) (yc (xOp (ydd) (yg 2) (xC (.int 2))) (yr)))))) (ycR (yG (xOp (oEq) (xOp (ydd) (yg 2) (xC (.int 0))) (xC (.str "reckon")))) (yiM 1 (xFz (ylD ycW (yc (xOp (ydd) (yg 2) (xC (.int 1))) (yc (xOp (ydd) (yg 2) (xC (.int 2))) (yc (xOp (ydd) (yg 2) (xC (.int 3))) (yc (xOp (ydd) (yg 2) (xC (.int 4))) (yr)))))))) (ycR (yG (xOp (oEq) (xOp (ydd) (yg 2) (xC (.int 0))) (xC (.str "take")))) (yiM 1 (xFz (ylD ydJ (yc (xOp (ydd) (yg 2) (xC (.int 1))) (yc (xOp (ydd) (yg 2) (xC (.int 2))) (yr)))))) (ycR (yG (xOp (oEq) (xOp (ydd) (yg 2) (xC (.int 0))) (xC (.str "put")))) (yiM 1 (xFz (ylD yex (yc (xOp (ydd) (yg 2) (xC (.int 1))) (yc (xOp (ydd) (yg 2) (xC (.int 2))) (yr)))))) (ycR (yG (xOp (oEq) (xOp (ydd) (yg 2) (xC (.int 0))) (xC (.str "if")))) (yiM 1 (xFz (ylD yff (yc (xOp (ydd) (yg 2) (xC (.int 1))) (yc (ycm (ycq n) (yc (xOp (ydd) (yg 2) (xC (.int 2))) (yr))) (yc (ycm (ycq n) (yc (xOp (ydd) (yg 2) (xC (.int 3))) (yr))) (yr))))))) (ycR (yG (xOp (oEq) (xOp (ydd) (yg 2) (xC (.int 0))) (xC (.str "either")))) (yiM 1 (xFz (ylD ycY (yc (ycm (ycq n) (yc (xOp (ydd) (yg 2) (xC (.int 1))) (yr))) (yc (ycm (ycq n) (yc (xOp (ydd) (yg 2) (xC (.int 2))) (yr))) (yr)))))) (ycR (yG (xOp (oEq) (xOp (ydd) (yg 2) (xC (.int 0))) (xC (.str "try")))) (yiM 1 (xFz (ylD yey (yc (ycm (ycq n) (yc (xOp (ydd) (yg 2) (xC (.int 1))) (yr))) (yc (xOp (ydd) (yg 2) (xC (.int 2))) (yc (xOp (ydd) (yg 2) (xC (.int 3))) (yc (ycm (ycq n) (yc (xOp (ydd) (yg 2) (xC (.int 4))) (yr))) (yr)))))))) (ycR (yG (xOp (oEq) (xOp (ydd) (yg 2) (xC (.int 0))) (xC (.str "throw")))) (yiM 1 (xFz (ylD ydv (yc (xOp (ydd) (yg 2) (xC (.int 1))) (yc (xOp (ydd) (yg 2) (xC (.int 2))) (yr)))))) (yiM 1 (xFz (ywC 11)))))))))))) (yDF 1 (ycu (yg 1)))))
noncomputable def ygn:Fn:=ygX 6 (yu (ydb (ycm ybK (yc (yg 0) (yr))) (yC 1)) (yu (ydb (xOp (ygv) (xFz (ylA (yc (xC (.int 1)) (yc (xC (.int 2)) (yc (xC (.int 3)) (yc (xOp yoh (xC (.int 1)) (xOp oMod (xOp oDiv (yg 1) (xC (.int 4))) (xC (.int 16)))) (yr))))))) (xOp oMod (yg 1) (xC (.int 4)))) (yC 2)) (yu (yti (ylA (yr)) 3) (yu (yza (yBW (yc (yg 2) (yr))) (yC 4) (yu (ydb (xFz (ylA (yc (xOp oMod (xOp oDiv (xOp oDiv (yg 1) (xC (.int 64))) (xOp yoh (yg 4) (xC (.int 1)))) (xC (.int 5))) (yc (ycm yde (yc (xOp yoh (yg 0) (xOp yDH (yg 4) (yg 4))) (yr))) (yr))))) (yC 5)) (yiM 3 (xOp (ygv) (yg 5) (xOp oMod (xOp yoh (xOp oDiv (yg 1) (xC (.int 1000))) (yg 4)) (xC (.int 2))))))) (yDF 3 (ycu (yg 3)))))))
noncomputable def ygo:Fn:=ygX 3 (yu (ydb (ycm ybK (yc (yg 0) (yr))) (yC 1)) (yu (ydb (ykO (yxA (yBW (yc (xC (.int 8)) (yr))) [1] (xOp oMod (xOp oDiv (yg 1) (xOp yoh (xOp yDH (yg 0) (yg 0)) (xC (.int 3)))) (xC (.int 4))))) (yC 2)) (yu (ymB (yg 2) (xOp oMod (yg 1) (xC (.int 8))) (ycm yde (yc (yg 0) (yr)))) (ycu (yg 2)))))
noncomputable def yiC:Fn:=ygX 3 (yu (ycR (yG (xOp (oEq) (yg 0) (xC (.str "less")))) (ycu (xCB (yxF) (yc (xOp (oLt) (yg 1) (yg 2)) (yr)))) (ybB)) (yu (ycR (yG (xOp (oEq) (yg 0) (xC (.str "same")))) (ycu (xCB (yxF) (yc (xOp (oEq) (yg 1) (yg 2)) (yr)))) (ybB)) (yu (ycR (yG (xOp (oEq) (yg 0) (xC (.str "plus")))) (ycu (xOp oMod (xOp yoh (yg 1) (yg 2)) (xOp yIe (xC (.int 2)) (xC (.int 64))))) (ybB)) (yu (ycR (yG (xOp (oEq) (yg 0) (xC (.str "minus")))) (ycu (xOp oMod (xOp yId (yg 1) (yg 2)) (xOp yIe (xC (.int 2)) (xC (.int 64))))) (ybB)) (ycu (xOp oMod (xOp yDH (yg 1) (yg 2)) (xOp yIe (xC (.int 2)) (xC (.int 64)))))))))
noncomputable def yez:Fn:=ygX 8 (ycR (yG (xOp (oEq) (xOp (ydd) (yg 0) (xC (.int 0))) (xC (.str "let")))) (ymB (yg 3) (xBM isStr (yeo) (xC (.str "abcdefgh")) (yc (xOp (ydd) (yg 0) (xC (.int 1))) (yr))) (xOp (ydd) (yg 0) (xC (.int 2)))) (ycR (yG (xOp (oEq) (xOp (ydd) (yg 0) (xC (.int 0))) (xC (.str "reckon")))) (yu (ydb (xOp (ygv) (yg 3) (xBM isStr (yeo) (xC (.str "abcdefgh")) (yc (xOp (ydd) (yg 0) (xC (.int 3))) (yr)))) (yC 5)) (yu (ydb (xOp (ygv) (yg 3) (xBM isStr (yeo) (xC (.str "abcdefgh")) (yc (xOp (ydd) (yg 0) (xC (.int 4))) (yr)))) (yC 6)) (ymB (yg 3) (xBM isStr (yeo) (xC (.str "abcdefgh")) (yc (xOp (ydd) (yg 0) (xC (.int 2))) (yr))) (ycm yiC (yc (xOp (ydd) (yg 0) (xC (.int 1))) (yc (yg 5) (yc (yg 6) (yr)))))))) (ycR (yG (xOp (oEq) (xOp (ydd) (yg 0) (xC (.int 0))) (xC (.str "put")))) (yu (ydb (xOp oMod (xOp (ygv) (yg 3) (xBM isStr (yeo) (xC (.str "abcdefgh")) (yc (xOp (ydd) (yg 0) (xC (.int 1))) (yr)))) (xCB (yiN) (yc (yg 1) (yr)))) (yC 7)) (yrn (yg 4) (yg 7) (xOp (ygv) (yg 3) (xBM isStr (yeo) (xC (.str "abcdefgh")) (yc (xOp (ydd) (yg 0) (xC (.int 2))) (yr)))))) (yu (ydb (xOp oMod (xOp (ygv) (yg 3) (xBM isStr (yeo) (xC (.str "abcdefgh")) (yc (xOp (ydd) (yg 0) (xC (.int 2))) (yr)))) (xCB (yiN) (yc (yg 1) (yr)))) (yC 7)) (yu (ycR (yG (yzy true (yg 7) (yg 4))) (yrn (yg 2) (yg 7) (xOp (ygv) (yg 1) (yg 7))) (ybB)) (ymB (yg 3) (xBM isStr (yeo) (xC (.str "abcdefgh")) (yc (xOp (ydd) (yg 0) (xC (.int 1))) (yr))) (yto (yg 4) (yg 7) (xOp (ygv) (yg 1) (yg 7)))))))))
noncomputable def ydL:Fn:=ygX 1 (ycu (xFz (yxA (xIL (xFz (ymt yqL (yc (yg 0) (yr))))) [0] (yiL (yc (yg 0) (yc (yvn (yg 1) (yg 0)) (yr)))))))
mutual
noncomputable def yeA:Nat->Fn
 | 0=>fun _ _=>none
 | n+1=>ygX 7 (yu (yza (xIL (yg 0)) (yC 5) (yu (ydb (ycm (ycr n) (yc (yg 5) (yc (yg 1) (yc (yg 2) (yc (yg 3) (yc (yg 4) (yr))))))) (yFF 3 (ynF (yC 6) (ynF (yC 3) (ynF (yC 4) (yHe)))))) (ycR (yG (xOp (yCc) (yg 6) (xC .non))) (ycu (yiL (yc (yg 6) (yc (yg 3) (yc (yg 4) (yr)))))) (ybB)))) (ycu (yiL (yc (xC .non) (yc (yg 3) (yc (yg 4) (yr)))))))
noncomputable def ycr:Nat->Fn
 | 0=>fun _ _=>none
 | n+1=>ygX 7 (yu (ycR (yG (xOp (oEq) (xOp (ydd) (yg 0) (xC (.int 0))) (xC (.str "wait")))) (ycu (yiL (yc (yiL (yc (xC (.str "waits")) (yr))) (yc (yg 3) (yc (yg 4) (yr)))))) (ybB)) (yu (ycR (yG (xOp (oEq) (xOp (ydd) (yg 0) (xC (.int 0))) (xC (.str "throw")))) (ycu (yiL (yc (yiL (yc (xC (.str "fell")) (yc (xOp (ydd) (yg 0) (xC (.int 1))) (yc (xOp (ygv) (yg 3) (xBM isStr (yeo) (xC (.str "abcdefgh")) (yc (xOp (ydd) (yg 0) (xC (.int 2))) (yr)))) (yr))))) (yc (yg 3) (yc (yg 4) (yr)))))) (ybB)) (yu (ycR (yG (xOp (oEq) (xOp (ydd) (yg 0) (xC (.int 0))) (xC (.str "if")))) (yu (ydb (xOp yoh (xC (.int 2)) (xCB (yxF) (yc (xOp (oEq) (xOp (ygv) (yg 3) (xBM isStr (yeo) (xC (.str "abcdefgh")) (yc (xOp (ydd) (yg 0) (xC (.int 1))) (yr)))) (xC (.int 0))) (yr)))) (yC 5)) (ycu (ycm (yeA n) (yc (xOp (ydd) (yg 0) (yg 5)) (yc (yg 1) (yc (yg 2) (yc (yg 3) (yc (yg 4) (yr))))))))) (ybB)) (yu (ycR (yG (xOp (oEq) (xOp (ydd) (yg 0) (xC (.int 0))) (xC (.str "either")))) (yu (ydb (ycm (yeA n) (yc (xOp (ydd) (yg 0) (xC (.int 1))) (yc (yg 1) (yc (yg 2) (yc (ykO (ymt (ybD) (yc (yg 3) (yr)))) (yc (ykO (ymt (yjL) (yc (yg 4) (yr)))) (yr))))))) (yC 6)) (yu (ycR (yG (xOp (yuE) (xOp (ydd) (yg 6) (xC (.int 0))) (yiL (yc (xC (.str "waits")) (yr))))) (ycu (yg 6)) (ybB)) (ycu (ycm (yeA n) (yc (xOp (ydd) (yg 0) (xC (.int 2))) (yc (yg 1) (yc (yg 2) (yc (yg 3) (yc (yg 4) (yr)))))))))) (ybB)) (yu (ycR (yG (xOp (oEq) (xOp (ydd) (yg 0) (xC (.int 0))) (xC (.str "try")))) (yu (ydb (ycm (yeA n) (yc (xOp (ydd) (yg 0) (xC (.int 1))) (yc (yg 1) (yc (yg 2) (yc (ykO (ymt (ybD) (yc (yg 3) (yr)))) (yc (ykO (ymt (yjL) (yc (yg 4) (yr)))) (yr))))))) (yC 6)) (yu (ycR (xOr (yG (xOp (yHf) (xOp (ydd) (yg 6) (xC (.int 0))) (xC .non))) (xOr (yG (xOp (oNe) (xOp (yxM) (xOp (ydd) (yg 6) (xC (.int 0))) (xC (.int 0))) (xC (.str "fell")))) (yG (xOp (oNe) (xOp (yxM) (xOp (ydd) (yg 6) (xC (.int 0))) (xC (.int 1))) (xOp (ydd) (yg 0) (xC (.int 2))))))) (ycu (yg 6)) (ybB)) (yu (ydb (ykO (ymt (ybD) (yc (yg 3) (yr)))) (yC 3)) (yu (ymB (yg 3) (xBM isStr (yeo) (xC (.str "abcdefgh")) (yc (xOp (ydd) (yg 0) (xC (.int 3))) (yr))) (xOp (yxM) (xOp (ydd) (yg 6) (xC (.int 0))) (xC (.int 2)))) (ycu (ycm (yeA n) (yc (xOp (ydd) (yg 0) (xC (.int 4))) (yc (yg 1) (yc (yg 2) (yc (yg 3) (yc (yg 4) (yr)))))))))))) (ybB)) (yu (ydb (ykO (ymt (ybD) (yc (yg 3) (yr)))) (yC 3)) (yu (ydb (ykO (ymt (yjL) (yc (yg 4) (yr)))) (yC 4)) (yu (yfa (ycm yez (yc (yg 0) (yc (yg 1) (yc (yg 2) (yc (yg 3) (yc (yg 4) (yr)))))))) (ycu (yiL (yc (xC .non) (yc (yg 3) (yc (yg 4) (yr))))))))))))))
end
noncomputable def yiD:Fn:=ygX 7 (yu (ydb (ykO (ytn)) (yC 3)) (yu (ydb (ycm (yeA 20) (yc (yg 0) (yc (yg 1) (yc (yg 3) (yc (ykO (ymt (ybD) (yc (yg 2) (yr)))) (yc (ykO (ytn)) (yr))))))) (yFF 3 (ynF (yC 4) (ynF (yC 5) (ynF (yC 6) (yHe)))))) (yu (ycR (yG (xOp (yHf) (yg 4) (xC .non))) (ycu (yiL (yc (yiL (yc (xC (.str "done")) (yr))) (yc (ycm ydL (yc (yg 3) (yr))) (yc (ycm ydL (yc (yg 6) (yr))) (yc (yg 5) (yr))))))) (ybB)) (ycu (yiL (yc (yg 4) (yc (ycm ydL (yc (yg 3) (yr))) (yc (xFz (ylA (yr))) (yc (xFz (ymt (ybD) (yc (yg 2) (yr)))) (yr))))))))))
noncomputable def yCN:Fn:=ygX 11 (yu (ydb (ycm ygk (yc (xCB (yFR) (yc (xFz (yBF yBh (yg 0) (ymx) (ylB (xC (.int 1))))) (yr))) (yr))) (yC 1)) (yu (yza (yIO (yc (xC (.int 0)) (yc (xCB (yzA) (yc (xC (.int 1)) (yc (xCB (yiN) (yc (yg 0) (yr))) (yr)))) (yc (xC (.int 12)) (yr))))) (yC 2) (yu (ydb (xFz (yBF yBh (yg 0) (ylB (yg 2)) (ylB (xOp yoh (yg 2) (xC (.int 12)))))) (yC 3)) (yu (ydb (ycm (ydK 5) (yc (yg 3) (yc (xC (.int 3)) (yc (yg 1) (yr))))) (yC 4)) (yu (ydb (ycm ygn (yc (xOp yoh (xCB (yFR) (yc (xFz (yBF yBh (yg 3) (ylB (xC (.int 1))) (ylB (xC (.int 2))))) (yr))) (yg 2)) (yr))) (yC 5)) (yu (ydb (ycm ygo (yc (xOp yoh (xCB (yFR) (yc (xFz (yBF yBh (yg 3) (ymx) (ylB (xC (.int 1))))) (yr))) (yg 2)) (yr))) (yC 6)) (yu (ydb (xFz (ylA (yc (ykO (ymt (ybD) (yc (yg 5) (yr)))) (yc (ykO (ymt (ybD) (yc (yg 6) (yr)))) (yr))))) (yC 7)) (yu (ydb (ycm (ycq 7) (yc (yg 4) (yr))) (yC 8)) (yu (ydb (ycm yiD (yc (yg 4) (yc (yg 5) (yc (yg 6) (yr))))) (yC 9)) (yu (ydb (ycm ymF (yc (yg 8) (yc (xOp (ygv) (yg 7) (xC (.int 0))) (yc (xOp (ygv) (yg 7) (xC (.int 1))) (yr))))) (yC 10)) (yu (ycR (yDB (yG (ycm (yx 5) (yc (yg 10) (yc (yg 9) (yr)))))) (ycu (xC (.bl false))) (ybB)) (yu (yfa (xBM ynH (yrl) (xOp (ydd) (yg 10) (xC (.int 3))) (yc (xC (.int 7)) (yr)))) (yu (yfa (xBM ynH (yrl) (xOp (ydd) (yg 10) (xC (.int 1))) (yc (yiL (yc (xC (.int 0)) (yc (xC (.int 0)) (yr)))) (yr)))) (yu (ycR (xOr (yG (xOp (yuE) (yg 7) (xFz (ylA (yc (yg 5) (yc (yg 6) (yr))))))) (yG (xOp (oNe) (xCB (yiN) (yc (yg 8) (yr))) (xCB (yiN) (yc (yg 4) (yr)))))) (ycu (xC (.bl false))) (ybB)) (yu (ydb (ycm ymF (yc (yg 8) (yc (xOp (ygv) (yg 7) (xC (.int 0))) (yc (xOp (ygv) (yg 7) (xC (.int 1))) (yr))))) (yC 10)) (yu (yfa (xBM ynH (yrl) (xOp (ygv) (yg 7) (xC (.int 0))) (yc (xC (.int 5)) (yr)))) (yu (ymB (xOp (ygv) (yg 7) (xC (.int 1))) (xC (.int 0)) (xOp yoh (xOp (ygv) (xOp (ygv) (yg 7) (xC (.int 1))) (xC (.int 0))) (xC (.int 1)))) (ycR (yDB (yG (ycm (yx 5) (yc (yg 10) (yc (yg 9) (yr)))))) (ycu (xC (.bl false))) (ybB)))))))))))))))))) (ycu (xC (.bl true)))))
def yEf:Prop:=True
def yLA:Prop:=True
section
variable {h:AH}
noncomputable def Stk (h:AH):List Nat->List (List Key×List PV)->Prop
 | [],[]=>True
 | l::ls,d::ds=>h[l]?=some (.dct d.1 d.2)/\Stk h ls ds
 | _,_=>False
theorem Stk.len {h:AH}:∀ {ls:List Nat}{ds:List (List Key×List PV)},Stk h ls ds->ds.length=ls.length
 | [],[],_=>rfl
 | _::_,_::_,s=>by rw [List.length_cons,List.length_cons,Stk.len s.2]
 | [],_::_,s=>s.elim
 | _::_,[],s=>s.elim
theorem Stk.mono {h h':AH}:∀ {ls:List Nat}{ds:List (List Key×List PV)},Stk h ls ds->(∀ l∈ls,∀ d,h[l]?=some d->h'[l]?=some d)->Stk h' ls ds
 | [],[],_,_=>trivial
 | l::ls,_::_,s,k=>⟨k l List.mem_cons_self _ s.1,Stk.mono s.2 fun l hl=>k l (List.mem_cons_of_mem _ hl)⟩
 | [],_::_,s,_=>s.elim
 | _::_,[],s,_=>s.elim
theorem Stk.app {h:AH}:∀ {ls ms:List Nat}{ds es:List (List Key×List PV)},Stk h ls ds->Stk h ms es->Stk h (ls++ms) (ds++es)
 | [],_,[],_,_,t=>t
 | _::_,_,_::_,_,s,t=>⟨s.1,Stk.app s.2 t⟩
 | [],_,_::_,_,s,_=>s.elim
 | _::_,_,[],_,s,_=>s.elim
theorem Stk.get {h:AH}:∀ {ls:List Nat}{ds:List (List Key×List PV)}(k:Nat),Stk h ls ds->k<ls.length->∃ l d,ls[k]?=some l/\ds[k]?=some d/\h[l]?=some (.dct d.1 d.2)
 | l::ls,d::ds,0,s,_=>⟨l,d,rfl,rfl,s.1⟩
 | l::ls,d::ds,k+1,s,hk=>by
  obtain ⟨l',d',e1,e2,e3⟩:=Stk.get k s.2 (by simpa using hk)
  exact ⟨l',d',by simpa using e1,by simpa using e2,e3⟩
 | [],[],_,_,hk=>by simp at hk
 | [],_::_,_,s,_=>s.elim
 | _::_,[],_,s,_=>s.elim
theorem Stk.split {h:AH}:∀ {ls:List Nat}{t:Nat}{ds:List (List Key×List PV)},Stk h (ls++[t]) ds->∃ es d,ds=es++[d]/\Stk h ls es/\h[t]?=some (.dct d.1 d.2)
 | [],t,[d],s=>⟨[],d,rfl,trivial,s.1⟩
 | [],t,[],s=>s.elim
 | [],t,_::_::_,s=>s.2.elim
 | l::ls,t,[],s=>s.elim
 | l::ls,t,d::ds,s=>by
  obtain ⟨es,d',e,s1,s2⟩:=Stk.split (ls:=ls) s.2
  exact ⟨d::es,d',by rw [e];rfl,⟨s.1,s1⟩,s2⟩
noncomputable def yHi (ds:List (List Key×List PV)) (j:Key):Nat->PV
 | 0=>.non
 | k+1=>match ds[k]? with|some d=>(match yik d.1 d.2 j with|some x=>x|none=>yHi ds j k)|none=>.non
structure LG (h:AH) (o s b:Nat) (ls:List Nat) (ds:List (List Key×List PV)) (ks:List Key) (xs:List PV):Prop where
 ob:h[o]?=some (.ins 0 ["stack","last_seen"] [.loc s,.loc b])
 st:h[s]?=some (.lst (ls.map .loc))
 sn:h[b]?=some (.dct ks xs)
 dl:Stk h ls ds
theorem ykU {o s b:Nat}(e:h[o]?=some (.ins 0 ["stack","last_seen"] [.loc s,.loc b])):yiy [0] "stack" (.loc o) h=some (.loc s,h):=by
 unfold yiy ykQ
 simp only [e]
 rw [if_pos (by rfl'),show List.idxOf ("stack":Str) ["stack","last_seen"]=0 by rfl']
 rfl
theorem yAe {o s b:Nat}(e:h[o]?=some (.ins 0 ["stack","last_seen"] [.loc s,.loc b])):yiy [0] "last_seen" (.loc o) h=some (.loc b,h):=by
 unfold yiy ykQ
 simp only [e]
 rw [if_pos (by rfl'),show List.idxOf ("last_seen":Str) ["stack","last_seen"]=1 by rfl']
 rfl
theorem yAf {n:Nat}{l:List Nat}{t:Nat}(e:h[n]?=some (.lst ((l++[t]).map PV.loc))):ygv (.loc n) (.int (-1)) h=some (.loc t,h):=by
 unfold ygv
 simp only [e]
 have:atI ((l++[t]).map PV.loc) (-1)=some (.loc t):=by
  unfold atI ixN
  simp
  rw [if_pos (by omega),Option.bind_some,show (-1+((l.length:Int)+1)).toNat=l.length by omega]
  simp
 rw [this]
theorem yil {o s b:Nat}{m:Str}{f:Fn}{ys:List PV}{a:XE}{aa:XA}{ρ:PSt}{h0 h2:AH}(e:h[o]?=some (.ins 0 ["stack","last_seen"] [.loc s,.loc b])) (ea:a ρ h0=some (.loc o,h)) (hm:m∉(["stack","last_seen"]:List Str)) (eb:aa ρ h=some (ys,h2)):yR 0 m f a aa ρ h0=f (.loc o::ys) h2:=by
 unfold yR ykQ
 rw [ea,yw]
 simp only [e]
 rw [if_pos ⟨trivial,hm⟩,eb,yw]
theorem yGM {n:Nat}{ks:List Key}{xs:List PV}{i:Int}{ek ed:XE}{ρ:PSt}(ek':ek ρ h=some (.int i,h)) (ed':ed ρ h=some (.loc n,h)) (e:h[n]?=some (.dct ks xs)):yzy false ek ed ρ h=some (.bl (yik ks xs (.inl i)).isSome,h):=by
 unfold yzy
 rw [ek',yw,ed',yw]
 unfold yzx
 simp only [e,keyOf]
 rfl
theorem ywW {n:Nat}{ks:List Key}{xs:List PV}{i:Int}{x:PV}{ek ed:XE}{ρ:PSt}(ed':ed ρ h=some (.loc n,h)) (ek':ek ρ h=some (.int i,h)) (e:h[n]?=some (.dct ks xs)) (hx:yik ks xs (.inl i)=some x):yvn ed ek ρ h=some (x,h):=by
 unfold yvn
 rw [ed',yw,ek',yw]
 unfold yzx
 simp only [e,keyOf,hx]
theorem yok {n:Nat}{ks:List Key}{xs:List PV}{i:Int}{x:PV}{ed ek ev:XE}{ρ:PSt}(ev':ev ρ h=some (x,h)) (ed':ed ρ h=some (.loc n,h)) (ek':ek ρ h=some (.int i,h)) (e:h[n]?=some (.dct ks xs)) (hl:ks.length<1000) :
  yrn ed ek ev ρ h=some (.nx ρ,h.set n (.dct (yep ks xs (.inl i) x).1 (yep ks xs (.inl i) x).2)):=by
 unfold yrn
 rw [ev',yw,ed',yw,ek',yw]
 simp only [e,keyOf]
 rw [if_pos hl]
end
section
variable {h:AH}{o s b:Nat}{ls:List Nat}{ds:List (List Key×List PV)}{ks:List Key}{xs:List PV}
theorem yCO {i:Int}(g:LG h o s b ls ds ks xs):∀ (k:Nat),k<=ls.length->∀ c:PVar,
  ob (yzG s true (yC 2) (ycR (yG (yzy false (yg 1) (yg 2))) (ycu (yvn (yg 2) (yg 1))) (ybB)) k (ls.length-k) [.val (.loc o),.val (.int i),c] h) (fun o h1=>ob (sqK (ycu (xC .non)) o h1) fnK)=some (yHi ds (.inl i) k,h):=by
 intro k
 induction k with
 | zero =>
  intro _ c
  unfold yzG
  simp only [g.st]
  rw [if_pos (by simp),yw,yxH]
  rfl
 | succ k ih =>
  intro hk c
  unfold yzG
  simp only [g.st]
  obtain ⟨l,d,e1,e2,e3⟩:=g.dl.get k (by omega)
  have e4:(ls.map PV.loc)[k]?=some (.loc l):=by rw [List.getElem?_map,e1];rfl
  simp only [if_true,e4]
  have er:yC 2 (.loc l) [.val (.loc o),.val (.int i),c]=some [.val (.loc o),.val (.int i),.val (.loc l)]:=rfl
  rw [er,Option.bind_some,yIs,yDJ,yGM (n:=l) rfl rfl e3,yw,yMl,yw]
  have ek:ls.length-(k+1)+1=ls.length-k:=by omega
  unfold yHi
  simp only [e2]
  cases hg:yik d.1 d.2 (.inl i) with
  | none =>
   rw [if_neg (by simp),yDK,yw]
   dsimp only
   rw [ek]
   exact ih (by omega) _
  | some x =>
   rw [if_pos (show (some x).isSome=true from rfl),yzo,ywW (n:=l) rfl rfl e3 hg,yw,yw]
   rfl
theorem yJf {i:Int}(g:LG h o s b ls ds ks xs):ygi [.loc o,.int i] h=some (yHi ds (.inl i) ls.length,h):=by
 unfold ygi
 rw [yD]
 show ob (yu _ _ [.val (.loc o),.val (.int i),.no] h) fnK=_
 rw [ynG]
 have:=yCO (i:=i) g ls.length (Nat.le_refl _) .no
 rw [Nat.sub_self] at this
 rw [yCj,<- this]
 unfold yCx
 rw [ypV,show yg 0 [PVar.val (.loc o),.val (.int i),.no] h=some (.loc o,h) from rfl,yw,ykU g.ob,yw]
 simp only [g.st,List.length_map]
theorem yCP {i:Int}{v:PV}{t:Nat}{d:List Key×List PV}(g:LG h o s b (ls++[t]) ds ks xs) (ht:h[t]?=some (.dct d.1 d.2)) (hl:d.1.length<1000):yhh [.loc o,.int i,v] h=some (.non,h.set t (.dct (yep d.1 d.2 (.inl i) v).1 (yep d.1 d.2 (.inl i) v).2)):=by
 unfold yhh
 rw [yD,ynG,yxI,yJT,ypV,show yg 0 ([PV.loc o,.int i,v].map .val++List.replicate (4-[PV.loc o,.int i,v].length) .no) h=some (.loc o,h) from rfl,yw,ykU g.ob,yw]
 show ob (ob (ob (ygv (.loc s) (.int (-1)) h) _) _) _=_
 rw [yAf g.st,yw]
 show ob (yrn (yg 3) (yg 1) (yg 2) [.val (.loc o),.val (.int i),.val v,.val (.loc t)] h) fnK=_
 rw [yok (n:=t) (i:=i) (x:=v) rfl rfl rfl ht hl,yw]
 rfl
theorem yCQ (g:LG h o s b ls ds ks xs) (hl:ls.length<1000):yhi [.loc o] h=some (.non,(h++[Nd.dct [] []]).set s (.lst ((ls++[h.length]).map .loc))):=by
 have hs:(h++[Nd.dct [] []])[s]?=some (.lst (ls.map .loc)):=by rw [List.getElem?_append_left (List.getElem?_eq_some_iff.mp g.st).1];exact g.st
 unfold yhi
 rw [yD,yoC,yIq,ypV,show yg 0 ([PV.loc o].map .val++List.replicate (1-[PV.loc o].length) .no) h=some (.loc o,h) from rfl,yw,ykU g.ob,yw,if_pos (yiA g.st)]
 show ob (ob (yrl (.loc s) [.loc h.length] (h++[Nd.dct [] []])) _) fnK=_
 rw [yrp hs (by rw [List.length_map];omega),yw,yw,List.map_append]
 rfl
theorem yAg {n:Nat}{l:List Nat}{t:Nat}(e:h[n]?=some (.lst ((l++[t]).map PV.loc))):yxK (.loc n) [] h=some (.loc t,h.set n (.lst (l.map .loc))):=by
 unfold yxK
 simp only [e]
 have:((l++[t]).map PV.loc)[((l++[t]).map PV.loc).length-1]?=some (.loc t):=by simp
 rw [this]
 simp
theorem yGN {t:Nat}(g:LG h o s b (ls++[t]) ds ks xs):ygZ [.loc o] h=some (.non,h.set s (.lst (ls.map .loc))):=by
 unfold ygZ
 rw [yD,yoC,yIq,ypV,show yg 0 ([PV.loc o].map .val++List.replicate (1-[PV.loc o].length) .no) h=some (.loc o,h) from rfl,yw,ykU g.ob,yw,if_pos (yiA g.st),yzn,yw,yAg g.st,yw,yw]
 rfl
theorem yEg {L:List PV}(g:LG h o s b ls ds ks xs) (e:sortI ks xs=some L):yhj [.loc o] h=some (.loc h.length,h++[.lst L]):=by
 unfold yhj
 rw [yD,yzo,yFV]
 unfold yoG
 rw [ypV,show yg 0 ([PV.loc o].map .val++List.replicate (1-[PV.loc o].length) .no) h=some (.loc o,h) from rfl,yw,yAe g.ob,yw]
 unfold ynI
 simp only [g.sn,e]
 rfl
end
section
variable {h:AH}{o s b:Nat}{ls:List Nat}{ds:List (List Key×List PV)}{ks:List Key}{xs:List PV}
theorem yJg {i:Int}{v:PV}(g:LG h o s b ls ds ks xs) (hl:ks.length<1000):yjN [.loc o,.int i,v] h=some (.non,h.set b (.dct (yep ks xs (.inl i) v).1 (yep ks xs (.inl i) v).2)):=by
 unfold yjN
 rw [yD]
 rw [yok (n:=b) (i:=i) (x:=v) rfl (by rw [ypV];show ob (some (PV.loc o,h)) _=_;rw [yw,yAe g.ob]) rfl g.sn hl,yw]
 rfl
end
section
variable {h:AH}{o s b:Nat}{ls:List Nat}{ds:List (List Key×List PV)}{ks:List Key}{xs:List PV}
theorem yAh {t u:Nat}{dt du:List Key×List PV}(g:LG h o s b (ls++[u]++[t]) ds ks xs) (ho:o≠s) (hus:u≠s) (hts:t≠s) (hut:u≠t) (eu:h[u]?=some (.dct du.1 du.2)) (et:h[t]?=some (.dct dt.1 dt.2)) (hl:du.1.length+dt.1.length<1000) :
  ygj [.loc o] h=some (.non,(h.set s (.lst ((ls++[u]).map .loc))).set u (.dct (ytr dt.1 dt.2 du.1 du.2).1 (ytr dt.1 dt.2 du.1 du.2).2)):=by
 have hs:s<h.length:=(List.getElem?_eq_some_iff.mp g.st).1
 have e1:(h.set s (.lst ((ls++[u]).map PV.loc)))[s]?=some (.lst ((ls++[u]).map PV.loc)):=List.getElem?_set_self hs
 have e2:(h.set s (.lst ((ls++[u]).map PV.loc)))[o]?=some (.ins 0 ["stack","last_seen"] [.loc s,.loc b]):=(List.getElem?_set_ne (Ne.symm ho)).trans g.ob
 have e3:(h.set s (.lst ((ls++[u]).map PV.loc)))[u]?=some (.dct du.1 du.2):=(List.getElem?_set_ne (Ne.symm hus)).trans eu
 have e4:(h.set s (.lst ((ls++[u]).map PV.loc)))[t]?=some (.dct dt.1 dt.2):=(List.getElem?_set_ne (Ne.symm hts)).trans et
 unfold ygj
 rw [yD,ynG,yxI,yIq,ypV,show yg 0 ([PV.loc o].map .val++List.replicate (3-[PV.loc o].length) .no) h=some (.loc o,h) from rfl,yw,ykU g.ob,yw,if_pos (yiA g.st),yzn,yw,yAg g.st,yw]
 generalize hh:h.set s (.lst ((ls++[u]).map PV.loc))=h1 at *
 show ob (yu _ _ [.val (.loc o),.val (.loc t),.no] h1) fnK=_
 rw [ynG,yxI,yJT,ypV,show yg 0 [PVar.val (.loc o),.val (.loc t),.no] h1=some (.loc o,h1) from rfl,yw,ykU e2,yw]
 show ob (ob (ob (ygv (.loc s) (.int (-1)) h1) _) _) _=_
 rw [yAf e1,yw]
 show ob (yfa (xBM yxP yHh (yg 2) (yc (yg 1) yr)) [.val (.loc o),.val (.loc t),.val (.loc u)] h1) fnK=_
 rw [yoC,yIq]
 show ob (ob (if yxP (.loc u) h1=true then yHh (.loc u) [.loc t] h1 else none) _) fnK=_
 rw [if_pos (by unfold yxP ynI;simp only [e3];rfl)]
 unfold yHh
 simp only [e3,e4]
 rw [if_pos ⟨hut,hl⟩,yw,yw]
 rfl
end
section
variable {h:AH}
def Tl (L:List PV):Prop:=L.length<=1000/\∀ x∈L,∃ a b,x=.tup [.int a,.int b]
theorem yLB {i:Int}:ycw yM [.int i,.ty "int"] h=some (.bl true,h):=rfl
theorem yLC {i:Int}:ycw yM [.int i,.ty "bool"] h=some (.bl false,h):=rfl
theorem yLD {xs}:ycw yM [.tup xs,.ty "int"] h=some (.bl false,h):=rfl
theorem yLE {xs}:ycw yM [.tup xs,.ty "str"] h=some (.bl false,h):=rfl
theorem yLF {xs}:ycw yM [.tup xs,.ty "tuple"] h=some (.bl true,h):=rfl
theorem yLG {xs}:ycw yM [.lst xs,.ty "int"] h=some (.bl false,h):=rfl
theorem yLH {xs}:ycw yM [.lst xs,.ty "str"] h=some (.bl false,h):=rfl
theorem yGO {xs}:ycw yM [.lst xs,.ty "tuple"] h=some (.bl false,h):=rfl
theorem yLI {n:Nat}{xs:List PV}(e:h[n]?=some (.lst xs)):ycw yM [.loc n,.ty "list"] h=some (.bl true,h):=by
 unfold ycw yxG ydA
 simp only [e]
 rfl
theorem yrN {n:Nat}{xs:List PV}{i:Nat}(e:h[n]?=some (.lst xs)) (hi:i<xs.length):yxM (.loc n) (.int i) h=some (xs[i],h):=by
 unfold yxM ygv
 simp only [e]
 rw [yen (List.getElem?_eq_getElem hi)]
local macro_rules | `(tactic| walk_at "pt")=>`(tactic| simp_all? only [yLB,yLC,yLD,yLE,yLF,yLG,yLH,yGO,ne_eq,not_true_eq_false])
theorem yoW {n:Nat}{i:Int}:yx (n+1) [.int i,.int i] h=some (.bl true,h):=by
 unfold yx
 rw [yD]
 show ob (yu _ _ [.val (.int i),.val (.int i),.no] h) fnK=_
 walk_at "pt"
theorem yGP {n:Nat}{a b:Int}:yx (n+2) [.tup [.int a,.int b],.tup [.int a,.int b]] h=some (.bl true,h):=by
 unfold yx
 rw [yD]
 show ob (yu _ _ [.val (.tup [.int a,.int b]),.val (.tup [.int a,.int b]),.no] h) fnK=_
 walk_at "pt"
 rw [ylH (j:=2) (h1:=h) (by walk_at "pt";rfl) (by omega) (by omega),yw]
 refine yiz (fun i ρ h1=>h1=h/\∃ c,ρ=[.val (.tup [.int a,.int b]),.val (.tup [.int a,.int b]),c]) ⟨rfl,.no,rfl⟩ ?_ ?_
 .rintro i x ρ h1 hx ⟨rfl,c,rfl⟩
  obtain ⟨hi,rfl⟩:=yjK hx
  rw [Int.zero_add]
  refine ⟨_,[.val (.tup [.int a,.int b]),.val (.tup [.int a,.int b]),.val (.int i)],h1,rfl,.inl ?_,rfl,_,rfl⟩
  have hi:i<2:=by simpa using hi
  walk_at "pt"
  rw [yen (List.getElem?_eq_getElem (show i<[PV.int a,.int b].length by simpa using hi))]
  walk_at "pt"
  match i,hi with
  | 0,_=>show ob (yx (n+1) [.int a,.int a] h1) _=_;rw [yoW];walk_at "pt"
  | 1,_=>show ob (yx (n+1) [.int b,.int b] h1) _=_;rw [yoW];walk_at "pt"
 .rintro ρ' h' ⟨rfl,c,rfl⟩
  walk_at "pt"
theorem yAi {f:Nat}{L:List PV}(e:h[f]?=some (.lst L)) (hL:Tl L):yx 4 [.loc f,.lst L] h=some (.bl true,h):=by
 unfold yx
 rw [yD]
 show ob (yu _ _ [.val (.loc f),.val (.lst L),.no] h) fnK=_
 walk_at "pt"
 rw [yLI e]
 walk_at "pt"
 rw [ymC e]
 walk_at "pt"
 rw [ylH (j:=(L.length:Int)) (h1:=h) (by walk_at "pt") (by omega) (by have:=hL.1;omega),yw]
 refine yiz (fun i ρ h1=>h1=h/\∃ c,ρ=[.val (.loc f),.val (.lst L),c]) ⟨rfl,.no,rfl⟩ ?_ ?_
 .rintro i x ρ h1 hx ⟨rfl,c,rfl⟩
  obtain ⟨hi,rfl⟩:=yjK hx
  rw [Int.zero_add]
  have hi:i<L.length:=by omega
  refine ⟨_,[.val (.loc f),.val (.lst L),.val (.int i)],h1,rfl,.inl ?_,rfl,_,rfl⟩
  walk_at "pt"
  rw [yrN e hi]
  walk_at "pt"
  rw [yen (List.getElem?_eq_getElem hi)]
  obtain ⟨a,b,eq⟩:=hL.2 _ (List.getElem_mem hi)
  rw [eq]
  walk_at "pt"
  rw [yGP]
  walk_at "pt"
 .rintro ρ' h' ⟨rfl,c,rfl⟩
  walk_at "pt"
end
theorem ynn:∀ {l₁ l₂:List (Int×PV)},l₁.Pairwise (fun a b=>a.1<b.1)->l₂.Pairwise (fun a b=>a.1<b.1)->(∀ a,a∈l₁ ↔ a∈l₂)->l₁=l₂
 | [],[],_,_,_=>rfl
 | [],b::_,_,_,h=>absurd ((h b).mpr List.mem_cons_self) (by simp)
 | a::_,[],_,_,h=>absurd ((h a).mp List.mem_cons_self) (by simp)
 | a::r,b::t,h1,h2,h=>by
  obtain ⟨p1,p2⟩:=List.pairwise_cons.mp h1
  obtain ⟨q1,q2⟩:=List.pairwise_cons.mp h2
  have e:a=b:=by
   rcases List.mem_cons.mp ((h a).mp List.mem_cons_self) with e|e
   .exact e
   rcases List.mem_cons.mp ((h b).mpr List.mem_cons_self) with e'|e'
   .exact e'.symm
   have:=q1 a e
   have:=p1 b e'
   omega
  subst e
  rw [ynn p2 q2 fun x=>⟨fun hx=>?_,fun hx=>?_⟩]
  .rcases List.mem_cons.mp ((h x).mp (List.mem_cons_of_mem _ hx)) with e|e
   .subst e;exact absurd (p1 _ hx) (Int.lt_irrefl _)
   .exact e
  .rcases List.mem_cons.mp ((h x).mpr (List.mem_cons_of_mem _ hx)) with e|e
   .subst e;exact absurd (q1 _ hx) (Int.lt_irrefl _)
   .exact e
theorem ylN {j:Int}{x:PV}:∀ {js:List Int}{xs:List PV},js.Nodup->xs.length=js.length->((j,x)∈js.zip xs ↔ yik (js.map .inl) xs (.inl j)=some x)
 | [],[],_,_=>by simp [yik]
 | [],_::_,_,h=>by cases h
 | _::_,[],_,h=>by cases h
 | i::js,y::xs,hn,hl=>by
  obtain ⟨n1,n2⟩:=List.nodup_cons.mp hn
  have ih:=ylN (j:=j) (x:=x) n2 (by simpa using hl)
  rw [List.zip_cons_cons,List.mem_cons]
  show _ ↔ (if (Sum.inl i:Key)=.inl j then some y else yik (js.map .inl) xs (.inl j))=some x
  by_cases e:i=j
  .subst e
   rw [if_pos rfl]
   constructor
   .rintro (z|z)
    .cases z;rfl
    .exact absurd (List.of_mem_zip z).1 n1
   .intro z;cases z;exact .inl rfl
  .rw [if_neg fun z=>e (by cases z;rfl),<- ih]
   constructor
   .rintro (z|z)
    .cases z;exact absurd rfl e
    .exact z
   .exact .inr
theorem hasK_int {j:Int}:∀ {js:List Int},yqJ (js.map .inl) (.inl j)=true ↔ j∈js
 | []=>by simp [yqJ]
 | i::js=>by
  show (if (Sum.inl i:Key)=.inl j then true else yqJ (js.map .inl) (.inl j))=true ↔ _
  by_cases e:i=j
  .subst e;simp
  .rw [if_neg fun z=>e (by cases z;rfl),hasK_int,List.mem_cons]
   exact ⟨.inr,fun z=>z.elim (fun z=>absurd z.symm e) id⟩
theorem ywX {k:Key}{v:Int}:∀ (ks:List Key) (vs:List Int),∃ ws:List Int,setK ks (vs.map PV.int) k (.int v)=ws.map .int/\ws.length=vs.length
 | [],vs=>⟨vs,by cases vs<;>rfl,rfl⟩
 | _::_,[]=>⟨[],rfl,rfl⟩
 | i::ks,w::vs=>by
  obtain ⟨ws,e,l⟩:=ywX (k:=k) (v:=v) ks vs
  show ∃ ws:List Int,(if i=k then PV.int v::setK ks (vs.map PV.int) k (.int v) else .int w::setK ks (vs.map PV.int) k (.int v))=ws.map .int/\_
  split
  .exact ⟨v::ws,by rw [e];rfl,by simp [l]⟩
  .exact ⟨w::ws,by rw [e];rfl,by simp [l]⟩
structure ID (js vs:List Int):Prop where
 nd:js.Nodup
 rg:∀ j∈js,0<=j/\j<16
 ln:vs.length=js.length
theorem ID.put {js vs:List Int}(d:ID js vs) {j v:Int}(hj:0<=j/\j<16):∃ js' vs',yep (js.map .inl) (vs.map PV.int) (.inl j) (.int v)=(js'.map .inl,vs'.map .int)/\ID js' vs'/\js'.length<=js.length+1:=by
 unfold yep
 by_cases h:j∈js
 .rw [if_pos (hasK_int.mpr h)]
  obtain ⟨ws,e,l⟩:=ywX (k:=.inl j) (v:=v) (js.map .inl) vs
  exact ⟨js,ws,by rw [e],⟨d.nd,d.rg,by rw [l,d.ln]⟩,Nat.le_succ _⟩
 .rw [if_neg fun z=>h (hasK_int.mp z)]
  refine ⟨js++[j],vs++[v],by simp,⟨?_,?_,by simp [d.ln]⟩,by simp⟩
  .rw [List.nodup_append]
   exact ⟨d.nd,by simp,fun a ha b hb z=>by
    have:b=j:=by simpa using hb
    subst this;subst z;exact h ha⟩
  .intro i hi
   rcases List.mem_append.mp hi with hi|hi
   .exact d.rg i hi
   .have:i=j:=by simpa using hi
    subst this;exact hj
theorem yoX:∀ (js:List Int),yxO (js.map .inl)=some js
 | []=>rfl
 | j::js=>by
  show (yxO (js.map .inl)).map (j::·)=_
  rw [yoX js];rfl
def iv16:List Int:=(List.range 16).map fun (k:Nat)=>(0:Int)+(k:Int)
def pk (js vs:List Int) (i:Int):Option (Int×PV):=(yik (js.map .inl) (vs.map PV.int) (.inl i)).map fun x=>(i,x)
theorem yAj {js vs:List Int}(d:ID js vs):yrr (js.zip (vs.map PV.int))=iv16.filterMap (pk js vs):=by
 have hl:(vs.map PV.int).length=js.length:=by simp [d.ln]
 have hk:(js.zip (vs.map PV.int)).map (·.1)=js:=List.map_fst_zip (by omega)
 refine ynn ?_ ?_ fun a=>?_
 .have h1:=yoj (js.zip (vs.map PV.int))
  have h2:((yrr (js.zip (vs.map PV.int))).map (·.1)).Nodup:=by
   have:=((yfC (js.zip (vs.map PV.int))).map (·.1))
   rw [hk] at this
   exact this.nodup_iff.mpr d.nd
  exact (h1.and (List.pairwise_map.mp h2)).imp fun ⟨a,b⟩=>by omega
 .refine List.Pairwise.filterMap (R:=fun a b=>a<b) (pk js vs) (fun a a' hlt b hb b' hb'=>?_) (by decide)
  unfold pk at hb hb'
  obtain ⟨x,_,rfl⟩:=Option.map_eq_some_iff.mp hb
  obtain ⟨x',_,rfl⟩:=Option.map_eq_some_iff.mp hb'
  exact hlt
 .obtain ⟨j,x⟩:=a
  rw [(yfC _).mem_iff,ylN d.nd hl,List.mem_filterMap]
  constructor
  .intro e
   have hj:j∈js:=(List.of_mem_zip ((ylN d.nd hl).mpr e)).1
   obtain ⟨r1,r2⟩:=d.rg j hj
   refine ⟨j,?_,by unfold pk;rw [e];rfl⟩
   unfold iv16
   exact List.mem_map.mpr ⟨j.toNat,List.mem_range.mpr (by omega),by omega⟩
  .rintro ⟨i,_,e⟩
   unfold pk at e
   obtain ⟨y,e1,e2⟩:=Option.map_eq_some_iff.mp e
   cases e2
   exact e1
def yvE (js vs:List Int):List PV:=(iv16.filterMap (pk js vs)).map fun p=>.tup [.int p.1,p.2]
theorem ywY {js vs:List Int}(d:ID js vs) (h64:js.length<64):sortI (js.map .inl) (vs.map PV.int)=some (yvE js vs):=by
 unfold sortI
 rw [yoX]
 dsimp only
 rw [if_pos h64,yAj d]
 rfl
theorem yCR {ks:List Key}{j:Key}:∀ {vs:List Int}{x:PV},yik ks (vs.map PV.int) j=some x->∃ v,x=.int v:=by
 induction ks with
 | nil=>intro vs x e;cases vs<;>cases e
 | cons k ks ih =>
  intro vs x e
  cases vs with
  | nil=>cases e
  | cons v vs =>
   have e:(if k=j then some (PV.int v) else yik ks (vs.map PV.int) j)=some x:=e
   split at e
   .cases e;exact ⟨v,rfl⟩
   .exact ih e
inductive T where
 | let_ (r:Str) (n:Int)
 | reckon (w r s t:Str)
 | take (r s:Str)
 | put (s t:Str)
 | if_ (r:Str) (a b:List T)
 | either (a b:List T)
 | try_ (a:List T) (nm r:Str) (b:List T)
 | throw (nm r:Str)
 | wait
mutual
noncomputable def ypU:T->Nat
 | .if_ _ a b=>1+max (ycS a) (ycS b)
 | .either a b=>1+max (ycS a) (ycS b)
 | .try_ a _ _ b=>1+max (ycS a) (ycS b)
 | _=>0
noncomputable def ycS:List T->Nat
 | []=>0
 | t::r=>max (ypU t) (ycS r)
end
mutual
noncomputable def ydM:T->PV
 | .let_ r n=>.ins 3 ["slot","number"] [.str r,.int n]
 | .reckon w r s t=>.ins 4 ["word","slot","one","other"] [.str w,.str r,.str s,.str t]
 | .take r s=>.ins 5 ["slot","place"] [.str r,.str s]
 | .put s t=>.ins 6 ["place","slot"] [.str s,.str t]
 | .if_ r a b=>.ins 7 ["slot","parts","others"] [.str r,.lst (ybf a),.lst (ybf b)]
 | .either a b=>.ins 8 ["parts","others"] [.lst (ybf a),.lst (ybf b)]
 | .try_ a nm r b=>.ins 9 ["parts","name","slot","others"] [.lst (ybf a),.str nm,.str r,.lst (ybf b)]
 | .throw nm r=>.ins 10 ["name","slot"] [.str nm,.str r]
 | .wait=>.ins 11 [] []
noncomputable def ybf:List T->List PV
 | []=>[]
 | t::r=>ydM t::ybf r
end
theorem ymG:∀ ts:List T,ybf ts=ts.map ydM
 | []=>rfl
 | t::r=>by show ydM t::ybf r=_;rw [ymG r];rfl
def SL:List Str:=["a","b","c","d","e","f","g","h"]
def okS (r:Str):Prop:=r∈SL
def sx (r:Str):Nat:=SL.idxOf r
def WDS:List Str:=["plus","minus","times","less","same"]
def okW (w:Str):Prop:=w∈WDS
def N64 (v:Int):Prop:=0<=v/\v<18446744073709551616
mutual
noncomputable def okT:T->Prop
 | .let_ r n=>okS r/\N64 n
 | .reckon w r s t=>okW w/\okS r/\okS s/\okS t
 | .take r s=>okS r/\okS s
 | .put s t=>okS s/\okS t
 | .if_ r a b=>okS r/\okL a/\okL b
 | .either a b=>yLA/\okL a/\okL b
 | .try_ a _ r b=>yEf/\okS r/\okL a/\okL b
 | .throw _ r=>yEf/\okS r
 | .wait=>True
noncomputable def okL:List T->Prop
 | []=>True
 | t::r=>okT t/\okL r
end
theorem yoY {r:Str}(h:okS r):sx r<8:=List.idxOf_lt_length_of_mem h
inductive En where|done|waits|fell (nm:Str) (v:Int)
def enV:En->PV
 | .done=>.tup [.str "done"]
 | .waits=>.tup [.str "waits"]
 | .fell nm v=>.tup [.str "fell",.str nm,.int v]
abbrev Vw:=Int->Option Int
def upV (f:Vw) (j v:Int):Vw:=fun i=>if i=j then some v else f i
structure AS where
 hs:List Int
 v:Vw
 s:Vw
noncomputable def rk (w:Str) (a b:Int):Int :=
 if w = "plus" then (a+b)%18446744073709551616 else if w = "minus" then (a-b)%18446744073709551616 else if w = "times" then a*b%18446744073709551616 else if w = "less" then (if a<b then 1 else 0) else if a=b then 1 else 0
def AS.at_ (σ:AS) (r:Str):Int:=σ.hs.getD (sx r) 0
def AS.put_ (σ:AS) (r:Str) (v:Int):AS:=⟨σ.hs.set (sx r) v,σ.v,σ.s⟩
def AS.box (σ:AS) (bx:List Int) (r:Str):Int:=σ.at_ r%bx.length
noncomputable def tkV (bx:List Int) (σ:AS) (r:Str) (j:Int):Option Int->AS
 | some v=>σ.put_ r v
 | none=>(⟨σ.hs,σ.v,upV σ.s j (bx.getD j.toNat 0)⟩:AS).put_ r (bx.getD j.toNat 0)
noncomputable def evP (bx:List Int):T->AS->AS
 | .let_ r n,σ=>σ.put_ r n
 | .reckon w r s t,σ=>σ.put_ r (rk w (σ.at_ s) (σ.at_ t))
 | .take r s,σ=>tkV bx σ r (σ.box bx s) (σ.v (σ.box bx s))
 | .put s t,σ=>⟨σ.hs,upV σ.v (σ.box bx s) (σ.at_ t),σ.s⟩
 | _,σ=>σ
mutual
noncomputable def evT (bx:List Int):T->AS->En×AS
 | .if_ r a b,σ=>if σ.at_ r≠0 then evL bx a σ else evL bx b σ
 | .either a b,σ=>(match evL bx a σ with
  | (.waits,τ)=>evL bx b ⟨σ.hs,σ.v,τ.s⟩
  | (.fell nm v,τ)=>(.fell nm v,⟨σ.hs,σ.v,τ.s⟩)
  | (.done,τ)=>(.done,τ))
 | .try_ a nm r b,σ=>(match evL bx a σ with
  | (.fell m v,τ)=>if m=nm then evL bx b ((⟨σ.hs,σ.v,τ.s⟩:AS).put_ r v) else (.fell m v,⟨σ.hs,σ.v,τ.s⟩)
  | (.waits,τ)=>(.waits,⟨σ.hs,σ.v,τ.s⟩)
  | (.done,τ)=>(.done,τ))
 | .throw nm r,σ=>(.fell nm (σ.at_ r),σ)
 | .wait,σ=>(.waits,σ)
 | .let_ r n,σ=>(.done,evP bx (.let_ r n) σ)
 | .reckon w r s t,σ=>(.done,evP bx (.reckon w r s t) σ)
 | .take r s,σ=>(.done,evP bx (.take r s) σ)
 | .put s t,σ=>(.done,evP bx (.put s t) σ)
noncomputable def evL (bx:List Int):List T->AS->En×AS
 | [],σ=>(.done,σ)
 | t::r,σ=>(match evT bx t σ with
  | (.done,τ)=>evL bx r τ
  | (.waits,τ)=>(.waits,τ)
  | (.fell nm v,τ)=>(.fell nm v,τ))
end
def gI (d:List Key×List PV) (j:Int):Option Int:=match yik d.1 d.2 (.inl j) with|some (.int v)=>some v|_=>none
def orV:Option Int->Option Int->Option Int
 | some v,_=>some v
 | none,b=>b
noncomputable def vwN (ds:List (List Key×List PV)) (j:Int):Nat->Option Int
 | 0=>none
 | k+1=>match ds[k]? with|some d=>orV (gI d j) (vwN ds j k)|none=>none
def ofO:Option Int->PV|none=>.non|some v=>.int v
section
variable {h h':AH}
theorem yhG {i:Nat}{d:Nd}(e:h[i]?=some d):i<h.length:=(List.getElem?_eq_some_iff.mp e).1
theorem ycZ {i:Nat}{d x:Nd}(e:h[i]?=some d):(h++[x])[i]?=some d:=by rw [List.getElem?_append_left (yhG e)];exact e
theorem yy {i t:Nat}{d x:Nd}(hi:i≠t) (e:h[i]?=some d):(h.set t x)[i]?=some d:=(List.getElem?_set_ne (Ne.symm hi)).trans e
theorem set_same {t:Nat}{d x:Nd}(e:h[t]?=some d):(h.set t x)[t]?=some x:=List.getElem?_set_self (yhG e)
theorem Stk.lt:∀ {ls:List Nat}{ds:List (List Key×List PV)},Stk h ls ds->∀ l∈ls,l<h.length
 | _::_,_::_,s,l,hl=>by
  rcases List.mem_cons.mp hl with rfl|hl
  .exact yhG s.1
  .exact Stk.lt s.2 l hl
 | [],_,_,l,hl=>by simp at hl
 | _::_,[],s,_,_=>s.elim
def Frm (X:Nat->Prop) (h h':AH):Prop:=h.length<=h'.length/\∀ n,n<h.length->X n->h'[n]?=h[n]?
theorem Frm.refl {X:Nat->Prop}:Frm X h h:=⟨Nat.le_refl _,fun _ _ _=>rfl⟩
theorem Frm.trans {X:Nat->Prop}{h1 h2:AH}(a:Frm X h h1) (b:Frm X h1 h2):Frm X h h2:=⟨Nat.le_trans a.1 b.1,fun n hn hx=>(b.2 n (Nat.lt_of_lt_of_le hn a.1) hx).trans (a.2 n hn hx)⟩
theorem Frm.set {X:Nat->Prop}{t:Nat}{x:Nd}(a:Frm X h h') (ht:¬ X t):Frm X h (h'.set t x):=⟨by rw [List.length_set];exact a.1,fun n hn hx=>(List.getElem?_set_ne (fun (z:t=n)=>ht (by rw [z];exact hx))).trans (a.2 n hn hx)⟩
theorem Frm.app {X:Nat->Prop}{x:Nd}(a:Frm X h h'):Frm X h (h'++[x]):=by
 refine ⟨by rw [List.length_append];exact Nat.le_trans a.1 (Nat.le_add_right _ _),fun n hn hx=>?_⟩
 rw [List.getElem?_append_left (by have:=a.1;omega),a.2 n hn hx]
theorem Frm.imp {X Y:Nat->Prop}(a:Frm X h h') (k:∀ n,Y n->X n):Frm Y h h':=⟨a.1,fun n hn hy=>a.2 n hn (k n hy)⟩
theorem Frm.get {X:Nat->Prop}{n:Nat}{d:Nd}(a:Frm X h h') (hx:X n) (e:h[n]?=some d):h'[n]?=some d:=(a.2 n (yhG e) hx).trans e
def isID (d:List Key×List PV):Prop:=∃ js vs,d=(js.map .inl,vs.map .int)/\ID js vs
theorem ID.le {js vs:List Int}(d:ID js vs):js.length<=16:=by
 have:js.length<=iv16.length:=List.Nodup.length_le_of_subset d.nd fun j hj=>by
  obtain ⟨r1,r2⟩:=d.rg j hj
  unfold iv16
  exact List.mem_map.mpr ⟨j.toNat,List.mem_range.mpr (by omega),by omega⟩
 exact this
theorem isID.put {d:List Key×List PV}(hd:isID d) {j v:Int}(hj:0<=j/\j<16):isID (yep d.1 d.2 (.inl j) (.int v)):=by
 obtain ⟨js,vs,rfl,d⟩:=hd
 obtain ⟨js',vs',e,d',_⟩:=d.put (v:=v) hj
 exact ⟨js',vs',e,d'⟩
theorem isID.mrg:∀ (js us:List Int) {d:List Key×List PV},isID d->(∀ j∈js,0<=j/\j<16)->isID (ytr (js.map .inl) (us.map PV.int) d.1 d.2)
 | [],us,d,hd,_=>by
  have:ytr (([]:List Int).map .inl) (us.map PV.int) d.1 d.2=d:=by cases us<;>rfl
  rw [this];exact hd
 | j::js,[],d,hd,_=>by
  have:ytr ((j::js).map .inl) (([]:List Int).map PV.int) d.1 d.2=d:=rfl
  rw [this];exact hd
 | j::js,u::us,d,hd,hr=>isID.mrg js us (hd.put (v:=u) (hr j List.mem_cons_self)) fun i hi=>hr i (List.mem_cons_of_mem _ hi)
theorem isID.len {d:List Key×List PV}(hd:isID d):d.1.length<=16:=by
 obtain ⟨js,vs,rfl,d⟩:=hd
 show (js.map _).length<=16
 rw [List.length_map];exact d.le
theorem isID.nil:isID ([],[]):=⟨[],[],rfl,by simp,by simp,rfl⟩
theorem yCS {ks:List Key}{xs:List PV}{k j:Key}{x:PV}(hl:xs.length=ks.length):yik (yep ks xs k x).1 (yep ks xs k x).2 j=if k=j then some x else yik ks xs j:=by
 unfold yep
 have app:∀ (ks:List Key) (xs:List PV),xs.length=ks.length->yqJ ks k=false->yik (ks++[k]) (xs++[x]) j=if k=j then some x else yik ks xs j:=by
  intro ks
  induction ks with
  | nil=>intro xs hl _;have:xs=[]:=(by simpa using hl);subst this;show (if k=j then some x else none)=_;split<;>rfl
  | cons i ks ih =>
   intro xs hl hh
   cases xs with
   | nil=>simp at hl
   | cons y xs =>
    have hh:(if i=k then true else yqJ ks k)=false:=hh
    have hik:¬ i=k:=fun z=>by rw [if_pos z] at hh;cases hh
    rw [if_neg hik] at hh
    show (if i=j then some y else yik (ks++[k]) (xs++[x]) j)=if k=j then some x else if i=j then some y else yik ks xs j
    rw [ih xs (by simpa using hl) hh]
    by_cases h1:i=j
    .rw [if_pos h1,if_neg fun z=>hik (h1.trans z.symm),if_pos h1]
    .rw [if_neg h1,if_neg h1]
 have st:∀ (ks:List Key) (xs:List PV),xs.length=ks.length->yqJ ks k=true->yik ks (setK ks xs k x) j=if k=j then some x else yik ks xs j:=by
  intro ks
  induction ks with
  | nil=>intro xs hl hh;cases hh
  | cons i ks ih =>
   intro xs hl hh
   cases xs with
   | nil=>simp at hl
   | cons y xs =>
    by_cases hik:i=k
    .subst hik
     have e:setK (i::ks) (y::xs) i x=x::setK ks xs i x:=if_pos rfl
     rw [e]
     show (if i=j then some x else yik ks (setK ks xs i x) j)=if i=j then some x else if i=j then some y else yik ks xs j
     by_cases h1:i=j
     .rw [if_pos h1,if_pos h1]
     .rw [if_neg h1,if_neg h1,if_neg h1]
      by_cases h2:yqJ ks i=true
      .rw [ih xs (by simpa using hl) h2,if_neg h1]
      .have:∀ (ks:List Key) (xs:List PV),yqJ ks i=false->setK ks xs i x=xs:=by
        intro ks
        induction ks with
        | nil=>intro xs _;cases xs<;>rfl
        | cons a ks ih2 =>
         intro xs hh
         have hh:(if a=i then true else yqJ ks i)=false:=hh
         have hai:¬ a=i:=fun z=>by rw [if_pos z] at hh;cases hh
         rw [if_neg hai] at hh
         cases xs with
         | nil=>rfl
         | cons b xs =>
          show (if a=i then x::setK ks xs i x else b::setK ks xs i x)=_
          rw [if_neg hai,ih2 xs hh]
       rw [this ks xs (by simpa using h2)]
    .have hh:(if i=k then true else yqJ ks k)=true:=hh
     rw [if_neg hik] at hh
     have e:setK (i::ks) (y::xs) k x=y::setK ks xs k x:=if_neg hik
     rw [e]
     show (if i=j then some y else yik ks (setK ks xs k x) j)=if k=j then some x else if i=j then some y else yik ks xs j
     rw [ih xs (by simpa using hl) hh]
     by_cases h1:i=j
     .rw [if_pos h1,if_neg fun z=>hik (h1.trans z.symm),if_pos h1]
     .rw [if_neg h1,if_neg h1]
 by_cases hh:yqJ ks k=true
 .rw [if_pos hh];exact st ks xs hl hh
 .rw [if_neg hh];exact app ks xs hl (by simpa using hh)
theorem isID.ln {d:List Key×List PV}(hd:isID d):d.2.length=d.1.length:=by
 obtain ⟨js,vs,rfl,d⟩:=hd
 simp [d.ln]
theorem isID.get {d:List Key×List PV}(hd:isID d) (j:Int):yik d.1 d.2 (.inl j)=(gI d j).map .int:=by
 obtain ⟨js,vs,rfl,_⟩:=hd
 unfold gI
 cases e:yik (js.map .inl) (vs.map PV.int) (.inl j) with
 | none=>rfl
 | some x=>obtain ⟨v,rfl⟩:=yCR e;rfl
theorem ytG {d:List Key×List PV}(hd:isID d) {k j v:Int}:gI (yep d.1 d.2 (.inl k) (.int v)) j=if j=k then some v else gI d j:=by
 unfold gI
 rw [yCS hd.ln]
 by_cases h:j=k
 .subst h;rw [if_pos rfl,if_pos rfl]
 .rw [if_neg fun z=>h (by cases z;rfl),if_neg h]
theorem yJh {j:Int}:gI ([],[]) j=none:=rfl
theorem yEh:∀ (js us:List Int) {d:List Key×List PV},isID d->(∀ j∈js,0<=j/\j<16)->js.Nodup->us.length=js.length->∀ j,gI (ytr (js.map .inl) (us.map PV.int) d.1 d.2) j=orV (gI (js.map .inl,us.map PV.int) j) (gI d j)
 | [],us,d,hd,_,_,hl,j=>by
  have:us=[]:=by simpa using hl
  subst this
  rfl
 | i::js,[],d,hd,_,_,hl,j=>by simp at hl
 | i::js,u::us,d,hd,hr,hn,hl,j=>by
  obtain ⟨n1,n2⟩:=List.nodup_cons.mp hn
  have ih:=yEh js us (hd.put (v:=u) (hr i List.mem_cons_self)) (fun i hi=>hr i (List.mem_cons_of_mem _ hi)) n2 (by simpa using hl) j
  show gI (ytr (js.map .inl) (us.map PV.int) (yep d.1 d.2 (.inl i) (.int u)).1 (yep d.1 d.2 (.inl i) (.int u)).2) j=_
  rw [ih,ytG hd]
  have e:gI ((i::js).map .inl,(u::us).map PV.int) j=if j=i then some u else gI (js.map .inl,us.map PV.int) j:=by
   unfold gI
   show (match (if (Sum.inl i:Key)=.inl j then some (PV.int u) else yik (js.map .inl) (us.map PV.int) (.inl j)) with|some (.int v)=>some v|_=>none)=_
   by_cases h:j=i
   .subst h;rw [if_pos rfl,if_pos rfl]
   .rw [if_neg fun z=>h (by cases z;rfl),if_neg h]
  rw [e]
  by_cases h:j=i
  .subst h
   rw [if_pos rfl,if_pos rfl]
   have:gI (js.map .inl,us.map PV.int) j=none:=by
    unfold gI
    have:yik (js.map .inl) (us.map PV.int) (.inl j)=none:=by
     cases e:yik (js.map .inl) (us.map PV.int) (.inl j) with
     | none=>rfl
     | some x=>exact absurd (List.of_mem_zip ((ylN n2 (by simpa using hl)).mpr e)).1 n1
    simp only [this]
   rw [this]
   rfl
  .rw [if_neg h,if_neg h]
theorem yAk {ds:List (List Key×List PV)}(hi:∀ d∈ds,isID d) {j:Int}:∀ k,yHi ds (.inl j) k=ofO (vwN ds j k)
 | 0=>rfl
 | k+1=>by
  unfold yHi vwN
  cases e:ds[k]? with
  | none=>rfl
  | some d =>
   have:=(hi d (List.mem_of_getElem? e)).get j
   simp only [this]
   cases gI d j with
   | none=>exact yAk hi k
   | some v=>rfl
theorem yAl {es fs:List (List Key×List PV)}{j:Int}:∀ k,k<=es.length->vwN (es++fs) j k=vwN es j k
 | 0,_=>rfl
 | k+1,hk=>by
  unfold vwN
  rw [List.getElem?_append_left (by omega),yAl k (by omega)]
theorem yAm {es:List (List Key×List PV)}{d:List Key×List PV}{j:Int}:vwN (es++[d]) j (es++[d]).length=orV (gI d j) (vwN es j es.length):=by
 rw [List.length_append]
 show vwN (es++[d]) j (es.length+1)=_
 rw [vwN]
 rw [List.getElem?_append_right (Nat.le_refl _),Nat.sub_self,yAl es.length (Nat.le_refl _)]
 rfl
end
theorem yrO:(("minus":Str) = "plus")=False:=eq_false (by rfl')
theorem yrP:(("plus":Str) = "minus")=False:=eq_false (by rfl')
theorem yrQ:(("times":Str) = "plus")=False:=eq_false (by rfl')
theorem yrR:(("plus":Str) = "times")=False:=eq_false (by rfl')
theorem yqc:(("times":Str) = "minus")=False:=eq_false (by rfl')
theorem yqd:(("minus":Str) = "times")=False:=eq_false (by rfl')
theorem ytH:(("less":Str) = "plus")=False:=eq_false (by rfl')
theorem ytI:(("plus":Str) = "less")=False:=eq_false (by rfl')
theorem yrS:(("less":Str) = "minus")=False:=eq_false (by rfl')
theorem yrT:(("minus":Str) = "less")=False:=eq_false (by rfl')
theorem yrU:(("less":Str) = "times")=False:=eq_false (by rfl')
theorem yrV:(("times":Str) = "less")=False:=eq_false (by rfl')
theorem ytJ:(("same":Str) = "plus")=False:=eq_false (by rfl')
theorem ytK:(("plus":Str) = "same")=False:=eq_false (by rfl')
theorem yrW:(("same":Str) = "minus")=False:=eq_false (by rfl')
theorem yrX:(("minus":Str) = "same")=False:=eq_false (by rfl')
theorem yrY:(("same":Str) = "times")=False:=eq_false (by rfl')
theorem yrZ:(("times":Str) = "same")=False:=eq_false (by rfl')
theorem ytL:(("same":Str) = "less")=False:=eq_false (by rfl')
local macro_rules | `(tactic| walk_at "pw")=>`(tactic| simp_all? only [yrO,yrP,yrQ,yrR,yqc,yqd,ytH,ytI,yrS,yrT,yrU,yrV,ytJ,ytK,yrW,yrX,yrY,yrZ,ytL,if_true,if_false])
section
variable {h:AH}
structure DG (h:AH) (X:Nat->Prop) (d hl o s b:Nat) (l:List Nat) (t:Nat) (es:List (List Key×List PV)) (bx hs:List Int) (top:List Key×List PV) (sj sv:List Int):Prop where
 ob:h[d]?=some (.ins 1 ["held","width","log","found"] [.loc hl,.int bx.length,.loc o,.lst (bx.map .int)])
 hh:h[hl]?=some (.lst (hs.map .int))
 g:LG h o s b (l++[t]) (es++[top]) (sj.map .inl) (sv.map .int)
 st:Stk h l es
 tp:h[t]?=some (.dct top.1 top.2)
 nd:(d::hl::o::s::b::(l++[t])).Nodup
 ge:∀ x∈d::hl::o::s::b::(l++[t]),¬ X x
 idT:isID top
 idE:∀ e∈es,isID e
 idS:ID sj sv
 h8:hs.length=8
 b1:1<=bx.length
 b16:bx.length<=16
 xl:∀ n,X n->n<h.length
variable {X:Nat->Prop}{d hl o s b t:Nat}{l:List Nat}{es:List (List Key×List PV)}{bx hs:List Int}{top:List Key×List PV}{sj sv:List Int}
theorem ywZ {u1 u2 u3 u4:PV}(e:h[d]?=some (.ins 1 ["held","width","log","found"] [u1,u2,u3,u4])):yiy [1] "held" (.loc d) h=some (u1,h):=by
 unfold yiy ykQ
 simp only [e]
 rw [if_pos (by rfl'),show List.idxOf ("held":Str) ["held","width","log","found"]=0 by rfl']
 rfl
theorem yGQ {u1 u2 u3 u4:PV}(e:h[d]?=some (.ins 1 ["held","width","log","found"] [u1,u2,u3,u4])):yiy [1] "width" (.loc d) h=some (u2,h):=by
 unfold yiy ykQ
 simp only [e]
 rw [if_pos (by rfl'),show List.idxOf ("width":Str) ["held","width","log","found"]=1 by rfl']
 rfl
theorem yqe {u1 u2 u3 u4:PV}(e:h[d]?=some (.ins 1 ["held","width","log","found"] [u1,u2,u3,u4])):yiy [1] "log" (.loc d) h=some (u3,h):=by
 unfold yiy ykQ
 simp only [e]
 rw [if_pos (by rfl'),show List.idxOf ("log":Str) ["held","width","log","found"]=2 by rfl']
 rfl
theorem yGR {u1 u2 u3 u4:PV}(e:h[d]?=some (.ins 1 ["held","width","log","found"] [u1,u2,u3,u4])):yiy [1] "found" (.loc d) h=some (u4,h):=by
 unfold yiy ykQ
 simp only [e]
 rw [if_pos (by rfl'),show List.idxOf ("found":Str) ["held","width","log","found"]=3 by rfl']
 rfl
theorem yjB {u1 u2 u3 u4:PV}{m:Str}{f:Fn}{ys:List PV}{a:XE}{aa:XA}{ρ:PSt}{h0 h2:AH}(e:h[d]?=some (.ins 1 ["held","width","log","found"] [u1,u2,u3,u4])) (ea:a ρ h0=some (.loc d,h)) (hm:m∉(["held","width","log","found"]:List Str)) (eb:aa ρ h=some (ys,h2)):yR 1 m f a aa ρ h0=f (.loc d::ys) h2:=by
 unfold yR ykQ
 rw [ea,yw]
 simp only [e]
 rw [if_pos ⟨trivial,hm⟩,eb,yw]
theorem yfD {r:Str}(hr:okS r):yeo (.str "abcdefgh") [.str r] h=some (.int (sx r),h):=by
 unfold okS SL at hr
 simp only [List.mem_cons,List.not_mem_nil,or_false] at hr
 rcases hr with rfl|rfl|rfl|rfl|rfl|rfl|rfl|rfl<;>(unfold yeo;simp only [];rfl)
theorem ylO {r:Str}(hr:okS r):ydG [.str r] h=some (.int (sx r),h):=by
 unfold ydG
 rw [yD]
 show ob (ycu _ [.val (.str r)] h) fnK=_
 walk_at "px"
 rw [yfD hr,yw]
theorem yoZ {n:Nat}{xs:List Int}{i:Nat}(e:h[n]?=some (.lst (xs.map .int))) (hi:i<xs.length):ygv (.loc n) (.int i) h=some (.int (xs.getD i 0),h):=by
 unfold ygv
 simp only [e]
 have:(xs.map PV.int)[i]?=some (.int (xs.getD i 0)):=by
  rw [List.getElem?_map,List.getElem?_eq_getElem hi,List.getD_eq_getElem?_getD,List.getElem?_eq_getElem hi];rfl
 rw [yen this]
theorem DG.nx (D:DG h X d hl o s b l t es bx hs top sj sv):d≠hl/\d≠o/\d≠s/\d≠b/\d∉l++[t]/\hl≠o/\hl≠s/\hl≠b/\hl∉l++[t]/\o≠s/\o≠b/\o∉l++[t]/\s≠b/\s∉l++[t]/\b∉l++[t]/\(l++[t]).Nodup:=by
 obtain ⟨n1,r⟩:=List.nodup_cons.mp D.nd
 obtain ⟨n2,r⟩:=List.nodup_cons.mp r
 obtain ⟨n3,r⟩:=List.nodup_cons.mp r
 obtain ⟨n4,r⟩:=List.nodup_cons.mp r
 obtain ⟨n5,r⟩:=List.nodup_cons.mp r
 simp only [List.mem_cons,not_or] at n1 n2 n3 n4 n5
 exact ⟨n1.1,n1.2.1,n1.2.2.1,n1.2.2.2.1,n1.2.2.2.2,n2.1,n2.2.1,n2.2.2.1,n2.2.2.2,n3.1,n3.2.1,n3.2.2,n4.1,n4.2,n5,r⟩
theorem yfE {r:Str}(D:DG h X d hl o s b l t es bx hs top sj sv) (hr:okS r):yY [.loc d,.str r] h=some (.int (hs.getD (sx r) 0),h):=by
 unfold yY
 rw [yD]
 show ob (ycu _ [.val (.loc d),.val (.str r)] h) fnK=_
 walk_at "px"
 rw [ywZ D.ob,yw,ylO hr,yw,yoZ D.hh (by rw [D.h8];exact yoY hr),yw]
theorem ypa {r:Str}{v:Int}(D:DG h X d hl o s b l t es bx hs top sj sv) (hr:okS r):ybO [.loc d,.str r,.int v] h=some (.non,h.set hl (.lst ((hs.set (sx r) v).map .int))):=by
 unfold ybO
 rw [yD]
 show ob (ymB _ _ _ [.val (.loc d),.val (.str r),.val (.int v)] h) fnK=_
 unfold ymB
 show ob (ob (some (PV.int v,h)) _) _=_
 rw [yw]
 walk_at "px"
 rw [ywZ D.ob,yw,ylO hr,yw]
 have hi:sx r<hs.length:=by rw [D.h8];exact yoY hr
 have e:ixN (hs.map PV.int).length (sx r:Nat)=some (sx r):=by
  unfold ixN
  simp [hi]
 simp only [D.hh,e]
 rw [yw,List.map_set]
 rfl
theorem ylP {r:Str}(D:DG h X d hl o s b l t es bx hs top sj sv) (hr:okS r):ybE [.loc d,.str r] h=some (.int (hs.getD (sx r) 0%bx.length),h):=by
 unfold ybE
 rw [yD]
 show ob (ycu _ [.val (.loc d),.val (.str r)] h) fnK=_
 walk_at "px"
 rw [yjB D.ob rfl (by rfl') rfl,yfE D hr,yw,yGQ D.ob,yw]
 have:=D.b1
 walk_at "px"
 rw [if_pos (by omega)]
theorem yLJ {w:Str}{x y:Int}(hw:okW w) (hx:N64 x):ylM [.str w,.int x,.int y] h=some (.int (rk w x y),h):=by
 have hm:MulOk x y:=.inl ⟨by have:=hx.1;omega,hx.2⟩
 unfold ylM
 rw [yD]
 show ob (yu _ _ [.val (.str w),.val (.int x),.val (.int y)] h) fnK=_
 unfold okW WDS at hw
 simp only [List.mem_cons,List.not_mem_nil,or_false] at hw
 unfold rk
 rcases hw with rfl|rfl|rfl|rfl|rfl
 .walk_at "pw"
 .walk_at "pw"
 .walk_at "pw"
  rw [if_pos hm]
 .walk_at "pw"
  split<;>rfl
 .walk_at "pw"
  split<;>rfl
theorem ytM {w r p q:Str}(D:DG h X d hl o s b l t es bx hs top sj sv) (hw:okW w) (hr:okS r) (hp:okS p) (hq:okS q) (hN:∀ v∈hs,N64 v):yds [.loc d,.str w,.str r,.str p,.str q] h=some (.non,h.set hl (.lst ((hs.set (sx r) (rk w (hs.getD (sx p) 0) (hs.getD (sx q) 0))).map .int))):=by
 have hi:sx p<hs.length:=by rw [D.h8];exact yoY hp
 have hv:N64 (hs.getD (sx p) 0):=hN _ (by rw [List.getD_eq_getElem?_getD,List.getElem?_eq_getElem hi];exact List.getElem_mem hi)
 unfold yds
 rw [yD]
 show ob (yfa _ [.val (.loc d),.val (.str w),.val (.str r),.val (.str p),.val (.str q)] h) fnK=_
 rw [yoC,yjB (h2:=h) (ys:=[.str r,.int (rk w (hs.getD (sx p) 0) (hs.getD (sx q) 0))]) D.ob rfl (by rfl') (by
  walk_at "px"
  rw [yjB D.ob rfl (by rfl') rfl,yfE D hp,yw,yjB D.ob rfl (by rfl') rfl,yfE D hq,yw,yLJ hw hv]
  walk_at "px"),ypa D hr,yw,yw]
 rfl
theorem yAn {p q:Str}(D:DG h X d hl o s b l t es bx hs top sj sv) (hp:okS p) (hq:okS q):yfd [.loc d,.str p,.str q] h=some (.non,h.set t (.dct (yep top.1 top.2 (.inl (hs.getD (sx p) 0%bx.length)) (.int (hs.getD (sx q) 0))).1 (yep top.1 top.2 (.inl (hs.getD (sx p) 0%bx.length)) (.int (hs.getD (sx q) 0))).2)):=by
 unfold yfd
 rw [yD]
 show ob (yfa _ [.val (.loc d),.val (.str p),.val (.str q)] h) fnK=_
 have hl':=D.idT.len
 rw [yoC,yil (h:=h) (h2:=h) (ys:=[.int (hs.getD (sx p) 0%bx.length),.int (hs.getD (sx q) 0)]) D.g.ob (by
  walk_at "px"
  rw [yqe D.ob]) (by rfl') (by
  walk_at "px"
  rw [yjB D.ob rfl (by rfl') rfl,ylP D hp,yw,yjB D.ob rfl (by rfl') rfl,yfE D hq,yw]),yCP D.g D.tp (by omega),yw,yw]
 rfl
theorem yEi {p:Str}(D:DG h X d hl o s b l t es bx hs top sj sv) (j:Int):ygi [.loc o,.int j] h=some (ofO (orV (gI top j) (vwN es j es.length)),h):=by
 rw [yJf D.g,yAk (fun e he=>by
  rcases List.mem_append.mp he with he|he
  .exact D.idE e he
  .rw [List.mem_singleton.mp he];exact D.idT),show (l++[t]).length=(es++[top]).length by rw [List.length_append,List.length_append,D.st.len];rfl,yAm]
theorem yxU {p:Str}(D:DG h X d hl o s b l t es bx hs top sj sv) (hp:okS p):yev [.loc d,.str p] h=some (.bl (isN (ofO (orV (gI top (hs.getD (sx p) 0%bx.length)) (vwN es (hs.getD (sx p) 0%bx.length) es.length)))),h):=by
 unfold yev
 rw [yD]
 show ob (ycu _ [.val (.loc d),.val (.str p)] h) fnK=_
 walk_at "px"
 rw [yil (h:=h) (h2:=h) (ys:=[.int (hs.getD (sx p) 0%bx.length)]) D.g.ob (by
  walk_at "px"
  rw [yqe D.ob]) (by rfl') (by
  walk_at "px"
  rw [yjB D.ob rfl (by rfl') rfl,ylP D hp,yw]),yEi (p:=p) D]
 walk_at "px"
theorem yvF {r p:Str}{v:Int}(D:DG h X d hl o s b l t es bx hs top sj sv) (hr:okS r) (hp:okS p) (hv:(orV (gI top (hs.getD (sx p) 0%bx.length)) (vwN es (hs.getD (sx p) 0%bx.length) es.length))=some v):ydI [.loc d,.str r,.str p] h=some (.non,h.set hl (.lst ((hs.set (sx r) v).map .int))):=by
 unfold ydI
 rw [yD]
 show ob (yfa _ [.val (.loc d),.val (.str r),.val (.str p)] h) fnK=_
 rw [yoC,yjB (h2:=h) (ys:=[.str r,.int v]) D.ob rfl (by rfl') (by
  walk_at "px"
  rw [yil (h:=h) (h2:=h) (ys:=[.int (hs.getD (sx p) 0%bx.length)]) D.g.ob (by
   walk_at "px"
   rw [yqe D.ob]) (by rfl') (by
   walk_at "px"
   rw [yjB D.ob rfl (by rfl') rfl,ylP D hp,yw]),yEi (p:=p) D,hv]
  walk_at "px"
  rfl),ypa D hr,yw,yw]
 rfl
end
section
variable {h:AH}{X:Nat->Prop}{d hl o s b t:Nat}{l:List Nat}{es:List (List Key×List PV)}{bx hs:List Int}{top:List Key×List PV}{sj sv:List Int}
theorem DG.hold {hs':List Int}(D:DG h X d hl o s b l t es bx hs top sj sv) (h8:hs'.length=8):DG (h.set hl (.lst (hs'.map .int))) X d hl o s b l t es bx hs' top sj sv:=by
 obtain ⟨n1,n2,n3,n4,n5,n6,n7,n8,n9,n10,n11,n12,n13,n14,n15,n16⟩:=D.nx
 have ne:∀ x∈l++[t],x≠hl:=fun x hx z=>n9 (z ▸ hx)
 exact { D with
  ob:=yy n1 D.ob
  hh:=set_same D.hh
  g:=⟨yy (Ne.symm n6) D.g.ob,yy (Ne.symm n7) D.g.st,yy (Ne.symm n8) D.g.sn,D.g.dl.mono fun x hx d e=>yy (ne x hx) e⟩
  st:=D.st.mono fun x hx d e=>yy (ne x (List.mem_append_left _ hx)) e
  tp:=yy (ne t (by simp)) D.tp
  h8:=h8
  xl:=fun n hn=>by rw [List.length_set];exact D.xl n hn }
theorem DG.write {top':List Key×List PV}(D:DG h X d hl o s b l t es bx hs top sj sv) (hi:isID top'):DG (h.set t (.dct top'.1 top'.2)) X d hl o s b l t es bx hs top' sj sv:=by
 obtain ⟨n1,n2,n3,n4,n5,n6,n7,n8,n9,n10,n11,n12,n13,n14,n15,n16⟩:=D.nx
 have m:t∈l++[t]:=by simp
 have ne:∀ x∈l,x≠t:=fun x hx=>(List.nodup_append.mp n16).2.2 x hx t (by simp)
 have st':Stk (h.set t (.dct top'.1 top'.2)) l es:=D.st.mono fun x hx d e=>yy (ne x hx) e
 exact { D with
  ob:=yy (fun z=>n5 (z ▸ m)) D.ob
  hh:=yy (fun z=>n9 (z ▸ m)) D.hh
  g:=⟨yy (fun z=>n12 (z ▸ m)) D.g.ob,yy (fun z=>n14 (z ▸ m)) D.g.st,yy (fun z=>n15 (z ▸ m)) D.g.sn,st'.app ⟨set_same D.tp,trivial⟩⟩
  st:=st'
  tp:=set_same D.tp
  idT:=hi
  xl:=fun n hn=>by rw [List.length_set];exact D.xl n hn }
theorem DG.see {sj' sv':List Int}(D:DG h X d hl o s b l t es bx hs top sj sv) (hi:ID sj' sv'):DG (h.set b (.dct (sj'.map .inl) (sv'.map .int))) X d hl o s b l t es bx hs top sj' sv':=by
 obtain ⟨n1,n2,n3,n4,n5,n6,n7,n8,n9,n10,n11,n12,n13,n14,n15,n16⟩:=D.nx
 have ne:∀ x∈l++[t],x≠b:=fun x hx z=>n15 (z ▸ hx)
 exact { D with
  ob:=yy n4 D.ob
  hh:=yy n8 D.hh
  g:=⟨yy n11 D.g.ob,yy n13 D.g.st,set_same D.g.sn,D.g.dl.mono fun x hx d e=>yy (ne x hx) e⟩
  st:=D.st.mono fun x hx d e=>yy (ne x (List.mem_append_left _ hx)) e
  tp:=yy (ne t (by simp)) D.tp
  idS:=hi
  xl:=fun n hn=>by rw [List.length_set];exact D.xl n hn }
theorem ixF {i:Int}(h0:0<=i) (h1:i<bx.length):atI (bx.map PV.int) i=some (.int (bx.getD i.toNat 0)):=by
 obtain ⟨n,rfl⟩:=Int.eq_ofNat_of_zero_le h0
 have hi:n<bx.length:=by omega
 have:(bx.map PV.int)[n]?=some (.int (bx.getD n 0)):=by
  rw [List.getElem?_map,List.getElem?_eq_getElem hi,List.getD_eq_getElem?_getD,List.getElem?_eq_getElem hi];rfl
 exact yen this
theorem ytN (x:Int) (h1:1<=bx.length) (h16:bx.length<=16):0<=x%bx.length/\x%bx.length<bx.length/\x%bx.length<16:=by
 have a:=Int.emod_nonneg x (b:=(bx.length:Int)) (by omega)
 have c:=Int.emod_lt_of_pos x (b:=(bx.length:Int)) (by omega)
 exact ⟨a,c,by omega⟩
theorem ytO {r p:Str}{sj' sv':List Int}(D:DG h X d hl o s b l t es bx hs top sj sv) (hr:okS r) (hp:okS p)
  (hput:yep (sj.map .inl) (sv.map PV.int) (.inl (hs.getD (sx p) 0%bx.length)) (.int (bx.getD (hs.getD (sx p) 0%bx.length).toNat 0))=(sj'.map .inl,sv'.map .int)) (hi:ID sj' sv') :
  ydt [.loc d,.str r,.str p,.lst (bx.map .int)] h=some (.non,(h.set b (.dct (sj'.map .inl) (sv'.map .int))).set hl (.lst ((hs.set (sx r) (bx.getD (hs.getD (sx p) 0%bx.length).toNat 0)).map .int))):=by
 obtain ⟨i1,i2,i3⟩:=ytN (bx:=bx) (hs.getD (sx p) 0) D.b1 D.b16
 have sl:=D.idS.le
 unfold ydt
 rw [yD]
 show ob (yu _ _ [.val (.loc d),.val (.str r),.val (.str p),.val (.lst (bx.map .int)),.no] h) fnK=_
 walk_at "px"
 rw [yjB D.ob rfl (by rfl') rfl,ylP D hp,yw]
 rw [yil (h:=h) (h2:=h) (ys:=[.int (hs.getD (sx p) 0%bx.length),.int (bx.getD (hs.getD (sx p) 0%bx.length).toNat 0)]) D.g.ob (by
  walk_at "px"
  rw [yqe D.ob]) (by rfl') (by
  walk_at "px"
  rw [ixF i1 i2]
  rfl),yJg D.g (by rw [List.length_map];omega),hput,yw]
 have D1:=D.see hi
 rw [yjB (h2:=h.set b (.dct (sj'.map .inl) (sv'.map .int))) (ys:=[.str r,.int (bx.getD (hs.getD (sx p) 0%bx.length).toNat 0)]) D1.ob rfl (by rfl') (by
  walk_at "px"
  rw [ixF i1 i2]
  rfl),ypa D1 hr,yw]
structure PR (h:AH) (X:Nat->Prop) (d o s b:Nat) (l:List Nat) (t:Nat) (es:List (List Key×List PV)) (bx:List Int) (σ:AS):Prop where
 ex:∃ hl top sj sv,DG h X d hl o s b l t es bx σ.hs top sj sv/\(∀ j,orV (gI top j) (vwN es j es.length)=σ.v j)/\∀ j,gI (sj.map .inl,sv.map PV.int) j=σ.s j
 nh:∀ v∈σ.hs,N64 v
 nv:∀ j v,σ.v j=some v->N64 v
 nb:∀ v∈bx,N64 v
theorem yMu {w:Str}{x y:Int}:N64 (rk w x y):=by
 unfold rk N64
 repeat' split
 all_goals omega
theorem yAo {hs:List Int}{i:Nat}{v:Int}(hN:∀ v∈hs,N64 v) (hv:N64 v):∀ u∈hs.set i v,N64 u:=fun u hu=>by
 rcases List.mem_or_eq_of_mem_set hu with z|z
 .exact hN u z
 .rw [z];exact hv
theorem ytP {hs:List Int}{i:Nat}(hN:∀ v∈hs,N64 v):N64 (hs.getD i 0):=by
 rw [List.getD_eq_getElem?_getD]
 cases e:hs[i]? with
 | none=>exact ⟨Int.le_refl _,by decide⟩
 | some v=>exact hN v (List.mem_of_getElem? e)
end
theorem yJi {ns:List Str}{xs:List PV}{h:AH}:ycw yM [.ins 3 ns xs,.cls 3] h=some (.bl true,h):=id rfl
theorem yJj {ns:List Str}{xs:List PV}{h:AH}:ycw yM [.ins 3 ns xs,.cls 4] h=some (.bl false,h):=id rfl
theorem yJk {ns:List Str}{xs:List PV}{h:AH}:ycw yM [.ins 3 ns xs,.cls 5] h=some (.bl false,h):=id rfl
theorem yJl {ns:List Str}{xs:List PV}{h:AH}:ycw yM [.ins 3 ns xs,.cls 6] h=some (.bl false,h):=id rfl
theorem yEj {ns:List Str}{xs:List PV}{h:AH}:ycw yM [.ins 3 ns xs,.cls 7] h=some (.bl false,h):=id rfl
theorem yEk {ns:List Str}{xs:List PV}{h:AH}:ycw yM [.ins 3 ns xs,.cls 8] h=some (.bl false,h):=id rfl
theorem yEl {ns:List Str}{xs:List PV}{h:AH}:ycw yM [.ins 3 ns xs,.cls 9] h=some (.bl false,h):=id rfl
theorem yAp {ns:List Str}{xs:List PV}{h:AH}:ycw yM [.ins 3 ns xs,.cls 10] h=some (.bl false,h):=id rfl
theorem yAq {ns:List Str}{xs:List PV}{h:AH}:ycw yM [.ins 3 ns xs,.cls 11] h=some (.bl false,h):=id rfl
theorem yEm {ns:List Str}{xs:List PV}{h:AH}:ycw yM [.ins 4 ns xs,.cls 3] h=some (.bl false,h):=id rfl
theorem yJm {ns:List Str}{xs:List PV}{h:AH}:ycw yM [.ins 4 ns xs,.cls 4] h=some (.bl true,h):=id rfl
theorem yJn {ns:List Str}{xs:List PV}{h:AH}:ycw yM [.ins 4 ns xs,.cls 5] h=some (.bl false,h):=id rfl
theorem yJo {ns:List Str}{xs:List PV}{h:AH}:ycw yM [.ins 4 ns xs,.cls 6] h=some (.bl false,h):=id rfl
theorem yEn {ns:List Str}{xs:List PV}{h:AH}:ycw yM [.ins 4 ns xs,.cls 7] h=some (.bl false,h):=id rfl
theorem yEo {ns:List Str}{xs:List PV}{h:AH}:ycw yM [.ins 4 ns xs,.cls 8] h=some (.bl false,h):=id rfl
theorem yEp {ns:List Str}{xs:List PV}{h:AH}:ycw yM [.ins 4 ns xs,.cls 9] h=some (.bl false,h):=id rfl
theorem yAr {ns:List Str}{xs:List PV}{h:AH}:ycw yM [.ins 4 ns xs,.cls 10] h=some (.bl false,h):=id rfl
theorem yAs {ns:List Str}{xs:List PV}{h:AH}:ycw yM [.ins 4 ns xs,.cls 11] h=some (.bl false,h):=id rfl
theorem yEq {ns:List Str}{xs:List PV}{h:AH}:ycw yM [.ins 5 ns xs,.cls 3] h=some (.bl false,h):=id rfl
theorem yEr {ns:List Str}{xs:List PV}{h:AH}:ycw yM [.ins 5 ns xs,.cls 4] h=some (.bl false,h):=id rfl
theorem yJp {ns:List Str}{xs:List PV}{h:AH}:ycw yM [.ins 5 ns xs,.cls 5] h=some (.bl true,h):=id rfl
theorem yJq {ns:List Str}{xs:List PV}{h:AH}:ycw yM [.ins 5 ns xs,.cls 6] h=some (.bl false,h):=id rfl
theorem yEs {ns:List Str}{xs:List PV}{h:AH}:ycw yM [.ins 5 ns xs,.cls 7] h=some (.bl false,h):=id rfl
theorem yEt {ns:List Str}{xs:List PV}{h:AH}:ycw yM [.ins 5 ns xs,.cls 8] h=some (.bl false,h):=id rfl
theorem yEu {ns:List Str}{xs:List PV}{h:AH}:ycw yM [.ins 5 ns xs,.cls 9] h=some (.bl false,h):=id rfl
theorem yAt {ns:List Str}{xs:List PV}{h:AH}:ycw yM [.ins 5 ns xs,.cls 10] h=some (.bl false,h):=id rfl
theorem yAu {ns:List Str}{xs:List PV}{h:AH}:ycw yM [.ins 5 ns xs,.cls 11] h=some (.bl false,h):=id rfl
theorem yEv {ns:List Str}{xs:List PV}{h:AH}:ycw yM [.ins 6 ns xs,.cls 3] h=some (.bl false,h):=id rfl
theorem yEw {ns:List Str}{xs:List PV}{h:AH}:ycw yM [.ins 6 ns xs,.cls 4] h=some (.bl false,h):=id rfl
theorem yEx {ns:List Str}{xs:List PV}{h:AH}:ycw yM [.ins 6 ns xs,.cls 5] h=some (.bl false,h):=id rfl
theorem yJr {ns:List Str}{xs:List PV}{h:AH}:ycw yM [.ins 6 ns xs,.cls 6] h=some (.bl true,h):=id rfl
theorem yEy {ns:List Str}{xs:List PV}{h:AH}:ycw yM [.ins 6 ns xs,.cls 7] h=some (.bl false,h):=id rfl
theorem yEz {ns:List Str}{xs:List PV}{h:AH}:ycw yM [.ins 6 ns xs,.cls 8] h=some (.bl false,h):=id rfl
theorem yEA {ns:List Str}{xs:List PV}{h:AH}:ycw yM [.ins 6 ns xs,.cls 9] h=some (.bl false,h):=id rfl
theorem yAv {ns:List Str}{xs:List PV}{h:AH}:ycw yM [.ins 6 ns xs,.cls 10] h=some (.bl false,h):=id rfl
theorem yAw {ns:List Str}{xs:List PV}{h:AH}:ycw yM [.ins 6 ns xs,.cls 11] h=some (.bl false,h):=id rfl
theorem yJs {ns:List Str}{xs:List PV}{h:AH}:ycw yM [.ins 7 ns xs,.cls 7] h=some (.bl true,h):=id rfl
theorem yEB {ns:List Str}{xs:List PV}{h:AH}:ycw yM [.ins 8 ns xs,.cls 7] h=some (.bl false,h):=id rfl
theorem yJt {ns:List Str}{xs:List PV}{h:AH}:ycw yM [.ins 8 ns xs,.cls 8] h=some (.bl true,h):=id rfl
theorem yEC {ns:List Str}{xs:List PV}{h:AH}:ycw yM [.ins 9 ns xs,.cls 7] h=some (.bl false,h):=id rfl
theorem yED {ns:List Str}{xs:List PV}{h:AH}:ycw yM [.ins 9 ns xs,.cls 8] h=some (.bl false,h):=id rfl
theorem yJu {ns:List Str}{xs:List PV}{h:AH}:ycw yM [.ins 9 ns xs,.cls 9] h=some (.bl true,h):=id rfl
theorem yvG {ns:List Str}{xs:List PV}{h:AH}:ycw yM [.ins 10 ns xs,.cls 7] h=some (.bl false,h):=id rfl
theorem yvH {ns:List Str}{xs:List PV}{h:AH}:ycw yM [.ins 10 ns xs,.cls 8] h=some (.bl false,h):=id rfl
theorem yvI {ns:List Str}{xs:List PV}{h:AH}:ycw yM [.ins 10 ns xs,.cls 9] h=some (.bl false,h):=id rfl
theorem yCT {ns:List Str}{xs:List PV}{h:AH}:ycw yM [.ins 10 ns xs,.cls 10] h=some (.bl true,h):=id rfl
theorem yvJ {ns:List Str}{xs:List PV}{h:AH}:ycw yM [.ins 11 ns xs,.cls 7] h=some (.bl false,h):=id rfl
theorem yvK {ns:List Str}{xs:List PV}{h:AH}:ycw yM [.ins 11 ns xs,.cls 8] h=some (.bl false,h):=id rfl
theorem yvL {ns:List Str}{xs:List PV}{h:AH}:ycw yM [.ins 11 ns xs,.cls 9] h=some (.bl false,h):=id rfl
theorem ysa {ns:List Str}{xs:List PV}{h:AH}:ycw yM [.ins 11 ns xs,.cls 10] h=some (.bl false,h):=id rfl
theorem yCU {ns:List Str}{xs:List PV}{h:AH}:ycw yM [.ins 11 ns xs,.cls 11] h=some (.bl true,h):=id rfl
local macro_rules | `(tactic| walk_at "pi")=>`(tactic| simp_all? only [yJi,yJj,yJk,yJl,yEj,yEk,yEl,yAp,yAq,yEm,yJm,yJn,yJo,yEn,yEo,yEp,yAr,yAs,yEq,yEr,yJp,yJq,yEs,yEt,yEu,yAt,yAu,yEv,yEw,yEx,yJr,yEy,yEz,yEA,yAv,yAw,yJs,yEB,yJt,yEC,yED,yJu,yvG,yvH,yvI,yCT,yvJ,yvK,yvL,ysa,yCU,if_true,if_false])
section
variable {h:AH}{β:Type}{k:Out->AH->Option β}{a b s:XS}{ρ:PSt}{z w:Str}{r:List PV}{c0 c1:PVar}{i j:Nat}{ns:List Str}{xs:List PV}
theorem yxa {t:XT}{ρ:PSt}(e:t ρ h=some (false,h)):ycR t a b ρ h=b ρ h:=by unfold ycR;rw [e];rfl
theorem yMv (n:(z=w)=False):yG (xOp (oEq) (xOp (ydd) (yg 0) (xC (.int 0))) (xC (.str w))) (.val (.tup (.str z::r))::ρ) h=some (false,h):=by
 walk_at "px"
 simp only [n,decide_false]
theorem yMO (n:(z=w)=False):yG (xOp (oEq) (xOp (ydd) (yg 2) (xC (.int 0))) (xC (.str w))) (c0::c1::.val (.tup (.str z::r))::ρ) h=some (false,h):=by
 walk_at "px"
 simp only [n,decide_false]
theorem ycv (n:(z=w)=False):ob (yu (ycR (yG (xOp (oEq) (xOp (ydd) (yg 0) (xC (.int 0))) (xC (.str w)))) a ybB) s (.val (.tup (.str z::r))::ρ) h) k=ob (s (.val (.tup (.str z::r))::ρ) h) k:=by
 rw [ynG,yxa (yMv n)];rfl
theorem yqN (n:(z=w)=False):ob (ycR (yG (xOp (oEq) (xOp (ydd) (yg 0) (xC (.int 0))) (xC (.str w)))) a b (.val (.tup (.str z::r))::ρ) h) k=ob (b (.val (.tup (.str z::r))::ρ) h) k:=by
 rw [yxa (yMv n)]
theorem ybP (n:(z=w)=False):ycR (yG (xOp (oEq) (xOp (ydd) (yg 2) (xC (.int 0))) (xC (.str w)))) a b (c0::c1::.val (.tup (.str z::r))::ρ) h=b (c0::c1::.val (.tup (.str z::r))::ρ) h:=yxa (yMO n)
theorem ycN (n:ycw yM [.ins i ns xs,.cls j] h=some (.bl false,h)):ob (yu (ycR (yG (xCB (ycw yM) (yc (yg 1) (yc (xC (.cls j)) (yr))))) a ybB) s (c0::.val (.ins i ns xs)::ρ) h) k=ob (s (c0::.val (.ins i ns xs)::ρ) h) k:=by
 rw [ynG,yxa]
 .rfl
 .show ob (ycw yM [.ins i ns xs,.cls j] h) _=_
  rw [n];rfl
end
section
variable {h:AH}{X:Nat->Prop}{d o s b t:Nat}{l:List Nat}{es:List (List Key×List PV)}{bx:List Int}{σ:AS}
def yxb:T->Prop
 | .let_ ..=>True
 | .reckon ..=>True
 | .take ..=>True
 | .put ..=>True
 | _=>False
theorem yCV {u:T}(hp:yxb u) (hu:okT u) (R:PR h X d o s b l t es bx σ):∃ h',ycA [.loc d,ydM u] h=some (.non,h')/\PR h' X d o s b l t es bx (evP bx u σ)/\Frm X h h':=by
 obtain ⟨⟨hl,top,sj,sv,D,hv,hs⟩,nh,nv,nb⟩:=R
 have gh:¬ X hl:=D.ge hl (by simp)
 have gb:¬ X b:=D.ge b (by simp)
 have gt:¬ X t:=D.ge t (by simp)
 have len8:∀ {i:Nat}{v:Int},(σ.hs.set i v).length=8:=by intro i v;rw [List.length_set];exact D.h8
 unfold ycA
 cases u with
 | let_ r n =>
  obtain ⟨k1,k2⟩:=hu
  refine ⟨_,?_,⟨⟨hl,top,sj,sv,D.hold (hs':=σ.hs.set (sx r) n) len8,hv,hs⟩,yAo nh k2,nv,nb⟩,Frm.refl.set gh⟩
  rw [yD]
  show ob (yu _ _ [.val (.loc d),.val (.ins 3 ["slot","number"] [.str r,.int n])] h) fnK=_
  walk_at "pi"
  rw [yjB (h2:=h) (ys:=[.str r,.int n]) D.ob rfl (by rfl') (by walk_at "pi"),ypa D k1,yw]
 | reckon w r p q =>
  obtain ⟨k0,k1,k2,k3⟩:=hu
  refine ⟨_,?_,⟨⟨hl,top,sj,sv,D.hold (hs':=σ.hs.set (sx r) (rk w (σ.hs.getD (sx p) 0) (σ.hs.getD (sx q) 0))) len8,hv,hs⟩,yAo nh yMu,nv,nb⟩,Frm.refl.set gh⟩
  rw [yD]
  show ob (yu _ _ [.val (.loc d),.val (.ins 4 ["word","slot","one","other"] [.str w,.str r,.str p,.str q])] h) fnK=_
  rw [ycN yEm]
  walk_at "pi"
  rw [yjB (h2:=h) (ys:=[.str w,.str r,.str p,.str q]) D.ob rfl (by rfl') (by walk_at "pi"),ytM D k0 k1 k2 k3 nh,yw]
 | take r p =>
  obtain ⟨k1,k2⟩:=hu
  obtain ⟨i1,i2,i3⟩:=ytN (bx:=bx) (σ.hs.getD (sx p) 0) D.b1 D.b16
  have hj:=hv (σ.hs.getD (sx p) 0%bx.length)
  have key:∃ h',ycX [.loc d,.ins 5 ["slot","place"] [.str r,.str p]] h=some (.non,h')/\PR h' X d o s b l t es bx (evP bx (.take r p) σ)/\Frm X h h':=by
   unfold ycX
   rw [yD]
   show ∃ h',ob (ycR _ _ _ [.val (.loc d),.val (.ins 5 ["slot","place"] [.str r,.str p])] h) fnK=_/\_
   walk_at "pi"
   rw [yjB (h2:=h) (ys:=[.str p]) D.ob rfl (by rfl') (by walk_at "pi"),yxU D k2,yw]
   cases e:orV (gI top (σ.hs.getD (sx p) 0%bx.length)) (vwN es (σ.hs.getD (sx p) 0%bx.length) es.length) with
   | some v =>
    rw [e] at hj
    have ev:evP bx (.take r p) σ=⟨σ.hs.set (sx r) v,σ.v,σ.s⟩:=by
     show tkV bx σ r (σ.hs.getD (sx p) 0%bx.length) (σ.v (σ.hs.getD (sx p) 0%bx.length))=_
     rw [<- hj]
     rfl
    refine ⟨_,?_,by rw [ev];exact ⟨⟨hl,top,sj,sv,D.hold (hs':=σ.hs.set (sx r) v) len8,hv,hs⟩,yAo nh (nv _ _ hj.symm),nv,nb⟩,Frm.refl.set gh⟩
    show ob (oB (.bl false) h) _=_
    walk_at "pi"
    rw [yjB (h2:=h) (ys:=[.str r,.str p]) D.ob rfl (by rfl') (by walk_at "pi"),yvF D k1 k2 e,yw]
   | none =>
    rw [e] at hj
    obtain ⟨sj',sv',hput,hi,_⟩:=D.idS.put (v:=bx.getD (σ.hs.getD (sx p) 0%bx.length).toNat 0) ⟨i1,i3⟩
    have ev:evP bx (.take r p) σ=⟨σ.hs.set (sx r) (bx.getD (σ.hs.getD (sx p) 0%bx.length).toNat 0),σ.v,upV σ.s (σ.hs.getD (sx p) 0%bx.length) (bx.getD (σ.hs.getD (sx p) 0%bx.length).toNat 0)⟩:=by
     show tkV bx σ r (σ.hs.getD (sx p) 0%bx.length) (σ.v (σ.hs.getD (sx p) 0%bx.length))=_
     rw [<- hj]
     rfl
    have D2:=(D.see hi).hold (hs':=σ.hs.set (sx r) (bx.getD (σ.hs.getD (sx p) 0%bx.length).toNat 0)) len8
    rw [ev]
    refine ⟨_,?_,⟨⟨hl,top,sj',sv',D2,hv,fun j=>?_⟩,yAo nh (ytP nb),nv,nb⟩,(Frm.refl.set gb).set gh⟩
    .show ob (oB (.bl true) h) _=_
     walk_at "pi"
     rw [yjB (h2:=h) (ys:=[.str r,.str p,.lst (bx.map .int)]) D.ob rfl (by rfl') (by
      walk_at "pi"
      rw [yGR D.ob]
      rfl),ytO D k1 k2 hput hi,yw]
    .have hd:isID (sj.map .inl,sv.map PV.int):=⟨sj,sv,rfl,D.idS⟩
     have:=ytG hd (k:=σ.hs.getD (sx p) 0%bx.length) (j:=j) (v:=bx.getD (σ.hs.getD (sx p) 0%bx.length).toNat 0)
     rw [hput] at this
     rw [this,hs]
     rfl
  obtain ⟨h',e1,R',F⟩:=key
  refine ⟨h',?_,R',F⟩
  rw [yD]
  show ob (yu _ _ [.val (.loc d),.val (.ins 5 ["slot","place"] [.str r,.str p])] h) fnK=_
  rw [ycN yEq,ycN yEr]
  walk_at "pi"
  rw [yjB (h2:=h) (ys:=[.ins 5 ["slot","place"] [.str r,.str p]]) D.ob rfl (by rfl') (by walk_at "pi"),e1,yw]
 | put p q =>
  obtain ⟨k1,k2⟩:=hu
  obtain ⟨i1,i2,i3⟩:=ytN (bx:=bx) (σ.hs.getD (sx p) 0) D.b1 D.b16
  have D2:=D.write (D.idT.put (v:=σ.hs.getD (sx q) 0) ⟨i1,i3⟩)
  refine ⟨_,?_,⟨⟨hl,_,sj,sv,D2,fun j=>?_,hs⟩,nh,fun j v e=>?_,nb⟩,Frm.refl.set gt⟩
  .rw [yD]
   show ob (yu _ _ [.val (.loc d),.val (.ins 6 ["place","slot"] [.str p,.str q])] h) fnK=_
   rw [ycN yEv,ycN yEw,ycN yEx]
   walk_at "pi"
   rw [yjB (h2:=h) (ys:=[.str p,.str q]) D.ob rfl (by rfl') (by walk_at "pi"),yAn D k1 k2,yw]
  .rw [ytG D.idT]
   show _=upV σ.v (σ.hs.getD (sx p) 0%bx.length) (σ.hs.getD (sx q) 0) j
   unfold upV
   by_cases hj:j=σ.hs.getD (sx p) 0%bx.length
   .rw [if_pos hj,if_pos hj];rfl
   .rw [if_neg hj,if_neg hj];exact hv j
  .have e:(if j=σ.hs.getD (sx p) 0%bx.length then some (σ.hs.getD (sx q) 0) else σ.v j)=some v:=e
   split at e
   .cases e;exact ytP nh
   .exact nv j v e
 | if_ _ _ _=>exact hp.elim
 | either _ _=>exact hp.elim
 | try_ _ _ _ _=>exact hp.elim
 | throw _ _=>exact hp.elim
 | wait=>exact hp.elim
end
section
variable {h:AH}{X:Nat->Prop}{d o s b t:Nat}{l:List Nat}{es:List (List Key×List PV)}{bx hs:List Int}{σ:AS}
theorem PR.ob (R:PR h X d o s b l t es bx σ):∃ hl,h[d]?=some (.ins 1 ["held","width","log","found"] [.loc hl,.int bx.length,.loc o,.lst (bx.map .int)]):=let ⟨hl,_,_,_,D,_⟩:=R.ex;⟨hl,D.ob⟩
theorem yxV (e:En):yuE (enV e) (.tup [.str "done"]) h=some (.bl (match e with|.done=>false|_=>true),h):=by
 cases e with
 | done =>
  unfold yuE enV pairE
  simp [ylI,eqP,sv,eqV]
 | waits =>
  have z:¬ ("waits":Str) = "done":=by rfl'
  unfold yuE enV pairE
  simp [ylI,eqP,sv,eqV,z]
 | fell nm v =>
  have z:¬ ("fell":Str) = "done":=by rfl'
  unfold yuE enV pairE
  simp [ylI,eqP,sv,eqV,z]
theorem yqO (e:En):ywL (enV e) (.tup [.str "done"]) h=some (.bl (match e with|.done=>true|_=>false),h):=by
 cases e with
 | done =>
  unfold ywL enV pairE
  simp [ylI,eqP,sv,eqV]
 | waits =>
  have z:¬ ("waits":Str) = "done":=by rfl'
  unfold ywL enV pairE
  simp [ylI,eqP,sv,eqV,z]
 | fell nm v =>
  have z:¬ ("fell":Str) = "done":=by rfl'
  unfold ywL enV pairE
  simp [ylI,eqP,sv,eqV,z]
theorem ypb (e:En):ywL (enV e) (.tup [.str "waits"]) h=some (.bl (match e with|.waits=>true|_=>false),h):=by
 cases e with
 | done =>
  have z:¬ ("done":Str) = "waits":=by rfl'
  unfold ywL enV pairE
  simp [ylI,eqP,sv,eqV,z]
 | waits =>
  unfold ywL enV pairE
  simp [ylI,eqP,sv,eqV]
 | fell nm v =>
  have z:¬ ("fell":Str) = "waits":=by rfl'
  unfold ywL enV pairE
  simp [ylI,eqP,sv,eqV,z]
theorem yeW {n:Nat}{u:T}(hp:yxb u) (hu:okT u) (R:PR h X d o s b l t es bx σ):∃ h',yH (n+1) [.loc d,ydM u] h=some (.tup [.str "done"],h')/\PR h' X d o s b l t es bx (evP bx u σ)/\Frm X h h':=by
 obtain ⟨h',e,R',F⟩:=yCV hp hu R
 obtain ⟨hl,eo⟩:=R.ob
 refine ⟨h',?_,R',F⟩
 unfold yH
 rw [yD]
 cases u with
 | let_ r n =>
  show ob (yu _ _ [.val (.loc d),.val (.ins 3 ["slot","number"] [.str r,.int n])] h) fnK=_
  rw [ycN yEj,ycN yEk,ycN yEl,ycN yAp,ycN yAq]
  walk_at "pi"
  rw [yjB (h2:=h) (ys:=[ydM (.let_ r n)]) eo rfl (by rfl') rfl,e,yw]
 | reckon w r p q =>
  show ob (yu _ _ [.val (.loc d),.val (.ins 4 ["word","slot","one","other"] [.str w,.str r,.str p,.str q])] h) fnK=_
  rw [ycN yEn,ycN yEo,ycN yEp,ycN yAr,ycN yAs]
  walk_at "pi"
  rw [yjB (h2:=h) (ys:=[ydM (.reckon w r p q)]) eo rfl (by rfl') rfl,e,yw]
 | take r p =>
  show ob (yu _ _ [.val (.loc d),.val (.ins 5 ["slot","place"] [.str r,.str p])] h) fnK=_
  rw [ycN yEs,ycN yEt,ycN yEu,ycN yAt,ycN yAu]
  walk_at "pi"
  rw [yjB (h2:=h) (ys:=[ydM (.take r p)]) eo rfl (by rfl') rfl,e,yw]
 | put p q =>
  show ob (yu _ _ [.val (.loc d),.val (.ins 6 ["place","slot"] [.str p,.str q])] h) fnK=_
  rw [ycN yEy,ycN yEz,ycN yEA,ycN yAv,ycN yAw]
  walk_at "pi"
  rw [yjB (h2:=h) (ys:=[ydM (.put p q)]) eo rfl (by rfl') rfl,e,yw]
 | if_ _ _ _=>exact hp.elim
 | either _ _=>exact hp.elim
 | try_ _ _ _ _=>exact hp.elim
 | throw _ _=>exact hp.elim
 | wait=>exact hp.elim
def EnN:En->Prop
 | .fell _ v=>N64 v
 | _=>True
noncomputable def yxc (n:Nat):Prop:=∀ (X:Nat->Prop) (d o s b t:Nat) (l:List Nat) (es:List (List Key×List PV)) (bx:List Int) (us:List T) (h:AH) (σ:AS),4*ycS us+2<=n->okL us->l.length+ycS us<=60->PR h X d o s b l t es bx σ ->
 ∃ h',ybc n [.loc d,.lst (ybf us)] h=some (enV (evL bx us σ).1,h')/\PR h' X d o s b l t es bx (evL bx us σ).2/\Frm X h h'/\EnN (evL bx us σ).1
noncomputable def yEE (n:Nat):Prop:=∀ (X:Nat->Prop) (d o s b t:Nat) (l:List Nat) (es:List (List Key×List PV)) (bx:List Int) (u:T) (h:AH) (σ:AS),4*ypU u+1<=n->okT u->l.length+ypU u<=60->PR h X d o s b l t es bx σ ->
 ∃ h',yH n [.loc d,ydM u] h=some (enV (evT bx u σ).1,h')/\PR h' X d o s b l t es bx (evT bx u σ).2/\Frm X h h'/\EnN (evT bx u σ).1
theorem yno {n:Nat}(G:yEE n):yxc (n+1):=by
 intro X d o s b t l es bx us h σ hd hu hl R
 have key:∀ (ds:List PV) (us:List T) (h:AH) (σ:AS) (c2 c3:PVar),4*ycS us+1<=n->okL us->l.length+ycS us<=60->PR h X d o s b l t es bx σ->∃ h',
   ob (yoz (yC 2) (yu (ydb (yR 1 "part_end" (yH n) (yg 0) (yc (yg 2) (yr))) (yC 3)) (ycR (yG (xOp (yuE) (yg 3) (xC (.tup [.str "done"])))) (ycu (yg 3)) (ybB))) (ybf us) [.val (.loc d),.val (.lst ds),c2,c3] h)
    (fun o h1=>ob (sqK (ycu (xC (.tup [.str "done"]))) o h1) fnK)=some (enV (evL bx us σ).1,h')/\PR h' X d o s b l t es bx (evL bx us σ).2/\Frm X h h'/\EnN (evL bx us σ).1:=by
  intro ds us
  induction us with
  | nil =>
   intro h σ c2 c3 _ _ _ R
   exact ⟨h,rfl,R,Frm.refl,trivial⟩
  | cons u us ih =>
   intro h σ c2 c3 hd hu hl R
   have hd:4*max (ypU u) (ycS us)+1<=n:=hd
   have hl:l.length+max (ypU u) (ycS us)<=60:=hl
   obtain ⟨h1,e1,R1,F1,E1⟩:=G X d o s b t l es bx u h σ (by omega) hu.1 (by omega) R
   obtain ⟨hl0,eo⟩:=R.ob
   show ∃ h',ob (yoz _ _ (ydM u::ybf us) _ h) _=some (enV (match evT bx u σ with|(.done,τ)=>evL bx us τ|(.waits,τ)=>(.waits,τ)|(.fell nm v,τ)=>(.fell nm v,τ)).1,h')/\PR h' X d o s b l t es bx (match evT bx u σ with|(.done,τ)=>evL bx us τ|(.waits,τ)=>(.waits,τ)|(.fell nm v,τ)=>(.fell nm v,τ)).2/\Frm X h h'/\EnN (match evT bx u σ with|(.done,τ)=>evL bx us τ|(.waits,τ)=>(.waits,τ)|(.fell nm v,τ)=>(.fell nm v,τ)).1
   rw [yzp,show yC 2 (ydM u) [.val (.loc d),.val (.lst ds),c2,c3]=some [.val (.loc d),.val (.lst ds),.val (ydM u),c3] from rfl,Option.bind_some,ynG,yxI,yjB (h2:=h) (ys:=[ydM u]) eo rfl (by rfl') rfl,e1,yw]
   generalize evT bx u σ=r at *
   obtain ⟨e,τ⟩:=r
   rw [show yC 3 (enV e) [.val (.loc d),.val (.lst ds),.val (ydM u),c3]=some [.val (.loc d),.val (.lst ds),.val (ydM u),.val (enV e)] from rfl,Option.bind_some,yw,yxH]
   walk_at "pi"
   rw [yxV]
   cases e with
   | done =>
    obtain ⟨h2,e2,R2,F2,E2⟩:=ih h1 τ (.val (ydM u)) (.val (enV .done)) (by omega) hu.2 (by omega) R1
    exact ⟨h2,e2,R2,F1.trans F2,E2⟩
   | waits=>exact ⟨h1,rfl,R1,F1,trivial⟩
   | fell nm v=>exact ⟨h1,rfl,R1,F1,E1⟩
 obtain ⟨h',e,R',F,E'⟩:=key (ybf us) us h σ .no .no (by omega) hu hl R
 refine ⟨h',?_,R',F,E'⟩
 unfold ybc
 rw [yD]
 show ob (yu _ _ [.val (.loc d),.val (.lst (ybf us)),.no,.no] h) fnK=_
 rw [ynG,yFZ,show xIL (yg 1) [.val (.loc d),.val (.lst (ybf us)),.no,.no] h=some (ybf us,h) from rfl,yw,yCj]
 exact e
end
section
variable {h:AH}{X:Nat->Prop}{d hl o s b t:Nat}{l:List Nat}{es:List (List Key×List PV)}{bx hs:List Int}{top:List Key×List PV}{sj sv:List Int}{σ:AS}
theorem DG.ext {x:Nd}(D:DG h X d hl o s b l t es bx hs top sj sv):DG (h++[x]) X d hl o s b l t es bx hs top sj sv :=
 { D with
  ob:=ycZ D.ob
  hh:=ycZ D.hh
  g:=⟨ycZ D.g.ob,ycZ D.g.st,ycZ D.g.sn,D.g.dl.mono fun _ _ _ e=>ycZ e⟩
  st:=D.st.mono fun _ _ _ e=>ycZ e
  tp:=ycZ D.tp
  xl:=fun n hn=>by rw [List.length_append];exact Nat.lt_add_right _ (D.xl n hn) }
theorem DG.begin {B:Nat}{nb:Nd}(D:DG h X d hl o s b l t es bx hs top sj sv) (hB:h[B]?=some nb) (nB:B∉d::hl::o::s::b::(l++[t])) :
  DG ((h++[Nd.dct [] []]).set s (.lst ((l++[t]++[h.length]).map .loc))) (fun n=>X n\/n=B) d hl o s b (l++[t]) h.length (es++[top]) bx hs ([],[]) sj sv:=by
 obtain ⟨n1,n2,n3,n4,n5,n6,n7,n8,n9,n10,n11,n12,n13,n14,n15,n16⟩:=D.nx
 have new:∀ {i y},h[i]?=some y->i≠h.length:=fun e=>Nat.ne_of_lt (yhG e)
 have lm:∀ x∈l++[t],x≠h.length:=fun x hx=>Nat.ne_of_lt (D.g.dl.lt x hx)
 have up:∀ {x y},x≠s->h[x]?=some y->((h++[Nd.dct [] []]).set s (.lst ((l++[t]++[h.length]).map .loc)))[x]?=some y:=fun hx e=>yy hx (ycZ e)
 have st':Stk ((h++[Nd.dct [] []]).set s (.lst ((l++[t]++[h.length]).map .loc))) (l++[t]) (es++[top]):=D.g.dl.mono fun x hx y e=>up (fun z=>n14 (z ▸ hx)) e
 have tp':((h++[Nd.dct [] []]).set s (.lst ((l++[t]++[h.length]).map .loc)))[h.length]?=some (.dct [] []):=yy (Ne.symm (new D.g.st)) (by simp)
 refine ⟨up n3 D.ob,up n7 D.hh,⟨up n10 D.g.ob,set_same (ycZ D.g.st),up (Ne.symm n13) D.g.sn,st'.app ⟨tp',trivial⟩⟩,st',tp',?_,?_,isID.nil,fun e he=>?_,D.idS,D.h8,D.b1,D.b16,fun n hn=>?_⟩
 .have nd:=D.nd
  have q:∀ x∈d::hl::o::s::b::(l++[t]),x≠h.length:=fun x hx=>by
   simp only [List.mem_cons] at hx
   rcases hx with rfl|rfl|rfl|rfl|rfl|hx
   .exact new D.ob
   .exact new D.hh
   .exact new D.g.ob
   .exact new D.g.st
   .exact new D.g.sn
   .exact lm x hx
  rw [show d::hl::o::s::b::(l++[t]++[h.length])=(d::hl::o::s::b::(l++[t]))++[h.length] by simp,List.nodup_append]
  exact ⟨nd,by simp,fun x hx y hy=>by rw [List.mem_singleton.mp hy];exact q x hx⟩
 .intro x hx
  rw [show d::hl::o::s::b::(l++[t]++[h.length])=(d::hl::o::s::b::(l++[t]))++[h.length] by simp] at hx
  rcases List.mem_append.mp hx with hx|hx
  .rintro (z|z)
   .exact D.ge x hx z
   .exact nB (z ▸ hx)
  .rw [List.mem_singleton.mp hx]
   rintro (z|z)
   .exact Nat.lt_irrefl _ (D.xl _ z)
   .exact new hB z.symm
 .rcases List.mem_append.mp he with he|he
  .exact D.idE e he
  .rw [List.mem_singleton.mp he];exact D.idT
 .rw [List.length_set,List.length_append]
  rcases hn with hn|hn
  .exact Nat.lt_add_right _ (D.xl n hn)
  .rw [hn];exact Nat.lt_add_right _ (yhG hB)
theorem DG.drop {Y:Nat->Prop}{t':Nat}{inn:List Key×List PV}(D:DG h Y d hl o s b (l++[t]) t' (es++[top]) bx hs inn sj sv) (hX:∀ n,X n->Y n):DG (h.set s (.lst ((l++[t]).map .loc))) X d hl o s b l t es bx hs top sj sv:=by
 obtain ⟨n1,n2,n3,n4,n5,n6,n7,n8,n9,n10,n11,n12,n13,n14,n15,n16⟩:=D.nx
 have m:∀ x∈l++[t],x∈l++[t]++[t']:=fun x hx=>List.mem_append_left _ hx
 have up:∀ {x y},x≠s->h[x]?=some y->(h.set s (.lst ((l++[t]).map .loc)))[x]?=some y:=fun hx e=>yy hx e
 obtain ⟨fs,f,ef,s1,s2⟩:=D.st.split
 obtain ⟨e1,e2⟩:=List.append_inj' ef rfl
 cases e2
 subst e1
 have st':Stk (h.set s (.lst ((l++[t]).map .loc))) (l++[t]) (es++[top]):=D.st.mono fun x hx y e=>up (fun z=>n14 (z ▸ m x hx)) e
 refine ⟨up n3 D.ob,up n7 D.hh,⟨up n10 D.g.ob,set_same D.g.st,up (Ne.symm n13) D.g.sn,st'⟩,s1.mono fun x hx y e=>up (fun z=>n14 (m _ (by rw [<- z];exact List.mem_append_left _ hx))) e,up (fun z=>n14 (m _ (by rw [<- z];simp))) s2,?_,fun x hx z=>?_,D.idE top (by simp),fun e he=>D.idE e (List.mem_append_left _ he),D.idS,D.h8,D.b1,D.b16,fun n hn=>by rw [List.length_set];exact D.xl n (hX n hn)⟩
 .have nd:=D.nd
  rw [show d::hl::o::s::b::(l++[t]++[t'])=(d::hl::o::s::b::(l++[t]))++[t'] by simp] at nd
  exact (List.nodup_append.mp nd).1
 .refine D.ge x ?_ (hX x z)
  rw [show d::hl::o::s::b::(l++[t]++[t'])=(d::hl::o::s::b::(l++[t]))++[t'] by simp]
  exact List.mem_append_left _ hx
end
section
variable {h:AH}{X:Nat->Prop}{d hl o s b t:Nat}{l:List Nat}{es:List (List Key×List PV)}{bx hs:List Int}{top:List Key×List PV}{sj sv:List Int}{σ:AS}
theorem DG.reheld {B:Nat}{hs':List Int}(D:DG h X d hl o s b l t es bx hs top sj sv) (hB:h[B]?=some (.lst (hs'.map .int))) (h8:hs'.length=8) (nB:B∉d::o::s::b::(l++[t])) (xB:¬ X B) :
  DG (h.set d (.ins 1 ["held","width","log","found"] [.loc B,.int bx.length,.loc o,.lst (bx.map .int)])) X d B o s b l t es bx hs' top sj sv:=by
 obtain ⟨n1,n2,n3,n4,n5,n6,n7,n8,n9,n10,n11,n12,n13,n14,n15,n16⟩:=D.nx
 simp only [List.mem_cons,not_or] at nB
 obtain ⟨m1,m2,m3,m4,m5⟩:=nB
 have ne:∀ x∈l++[t],x≠d:=fun x hx z=>n5 (z ▸ hx)
 refine ⟨set_same D.ob,yy m1 hB,⟨yy (Ne.symm n2) D.g.ob,yy (Ne.symm n3) D.g.st,yy (Ne.symm n4) D.g.sn,D.g.dl.mono fun x hx y e=>yy (ne x hx) e⟩,D.st.mono fun x hx y e=>yy (ne x (List.mem_append_left _ hx)) e,yy (ne t (by simp)) D.tp,?_,fun x hx=>?_,D.idT,D.idE,D.idS,h8,D.b1,D.b16,fun n hn=>by rw [List.length_set];exact D.xl n hn⟩
 .simp only [List.nodup_cons,List.mem_cons,not_or]
  exact ⟨⟨Ne.symm m1,n2,n3,n4,n5⟩,⟨m2,m3,m4,m5⟩,⟨n10,n11,n12⟩,⟨n13,n14⟩,n15,n16⟩
 .simp only [List.mem_cons] at hx
  rcases hx with rfl|rfl|rfl|rfl|rfl|hx
  .exact D.ge _ (by simp)
  .exact xB
  .exact D.ge _ (by simp)
  .exact D.ge _ (by simp)
  .exact D.ge _ (by simp)
  .exact D.ge x (by simp only [List.mem_cons];simp [hx])
def yMP (σ:AS):En×AS->AS
 | (.done,τ)=>τ
 | (.waits,τ)=>⟨σ.hs,σ.v,τ.s⟩
 | (.fell _ _,τ)=>⟨σ.hs,σ.v,τ.s⟩
theorem yAx {a b c:Option Int}:orV (orV a b) c=orV a (orV b c):=by cases a<;>rfl
theorem yEF {n:Nat}(G:yxc n) {us:List T}(hd:4*ycS us+2<=n) (hu:okL us) (hl':l.length+1+ycS us<=60) (R:PR h X d o s b l t es bx σ) :
  ∃ h',ycp (n+1) [.loc d,.lst (ybf us)] h=some (enV (evL bx us σ).1,h')/\PR h' X d o s b l t es bx (yMP σ (evL bx us σ))/\Frm X h h'/\EnN (evL bx us σ).1:=by
 obtain ⟨⟨hl,top,sj,sv,D,hv,hs⟩,nh,nv,nb⟩:=R
 have gs:¬ X s:=D.ge s (by simp)
 have gt:¬ X t:=D.ge t (by simp)
 have gd:¬ X d:=D.ge d (by simp)
 have D0:=D.ext (x:=.lst (σ.hs.map .int))
 have hB:(h++[Nd.lst (σ.hs.map .int)])[h.length]?=some (.lst (σ.hs.map .int)):=by simp
 have nB:h.length∉d::hl::o::s::b::(l++[t]):=fun z=>by
  simp only [List.mem_cons] at z
  rcases z with z|z|z|z|z|z
  .exact absurd (yhG D.ob) (by omega)
  .exact absurd (yhG D.hh) (by omega)
  .exact absurd (yhG D.g.ob) (by omega)
  .exact absurd (yhG D.g.st) (by omega)
  .exact absurd (yhG D.g.sn) (by omega)
  .exact absurd (D.g.dl.lt _ z) (by omega)
 have xB:¬ X h.length:=fun z=>Nat.lt_irrefl _ (D.xl _ z)
 have D1:=D0.begin hB nB
 have ll:(l++[t]).length<1000:=by simp;omega
 have be:=yCQ D0.g ll
 have F1:Frm X h (((h++[Nd.lst (σ.hs.map .int)])++[Nd.dct [] []]).set s (.lst ((l++[t]++[(h++[Nd.lst (σ.hs.map .int)]).length]).map .loc))):=((Frm.refl.app).app).set gs
 have hB1:(((h++[Nd.lst (σ.hs.map .int)])++[Nd.dct [] []]).set s (.lst ((l++[t]++[(h++[Nd.lst (σ.hs.map .int)]).length]).map .loc)))[h.length]?=some (.lst (σ.hs.map .int)):=yy (fun z=>nB (by rw [z];simp)) (ycZ hB)
 generalize ((h++[Nd.lst (σ.hs.map .int)])++[Nd.dct [] []]).set s (.lst ((l++[t]++[(h++[Nd.lst (σ.hs.map .int)]).length]).map .loc))=h1 at *
 generalize (h++[Nd.lst (σ.hs.map .int)]).length=t' at *
 have R1:PR h1 (fun n=>X n\/n=h.length) d o s b (l++[t]) t' (es++[top]) bx σ:=⟨⟨hl,([],[]),sj,sv,D1,fun j=>by rw [yJh,yAm];exact hv j,hs⟩,nh,nv,nb⟩
 obtain ⟨h2,e2,R2,F2,E2⟩:=G _ d o s b t' (l++[t]) (es++[top]) bx us h1 σ hd hu (by simp;omega) R1
 have hB2:h2[h.length]?=some (.lst (σ.hs.map .int)):=F2.get (.inr rfl) hB1
 have F12:Frm X h h2:=F1.trans (F2.imp fun n hn=>.inl hn)
 generalize hev:evL bx us σ=r at *
 obtain ⟨e,τ⟩:=r
 obtain ⟨⟨hl2,inn,sj2,sv2,D2,hv2,hs2⟩,nh2,nv2,_⟩:=R2
 obtain ⟨n1,n2,n3,n4,n5,n6,n7,n8,n9,n10,n11,n12,n13,n14,n15,n16⟩:=D2.nx
 have D3:=D2.drop (X:=X) fun n hn=>.inl hn
 unfold ycp
 rw [yD]
 show ∃ h',ob (yu _ _ [.val (.loc d),.val (.lst (ybf us)),.no,.no] h) fnK=_/\_
 walk_at "pi"
 rw [ywZ D.ob,yw,yfO D.hh]
 walk_at "pi"
 rw [yil (h:=h++[Nd.lst (σ.hs.map .int)]) D0.g.ob (by
  walk_at "pi"
  rw [yqe D0.ob]) (by rfl') rfl,be,yw]
 rw [yjB (h2:=h1) (ys:=[.lst (ybf us)]) D1.ob rfl (by rfl') rfl,e2,yw,yqO,yw]
 have stop:∀ (τ':AS),τ'=⟨σ.hs,σ.v,τ.s⟩->∃ h',(ob (yR 0 "drop" ygZ (yfB [1] "log" (yg 0)) yr [.val (.loc d),.val (.lst (ybf us)),.val (.loc h.length),.val (enV e)] h2) fun x k=>ob (yzD [1] "held" (yg 0) (yg 2) [.val (.loc d),.val (.lst (ybf us)),.val (.loc h.length),.val (enV e)] k) fun x k=>ob (sqK (ycu (yg 3)) x k) fnK)=some (enV e,h')/\PR h' X d o s b l t es bx τ'/\Frm X h h':=by
  rintro τ' rfl
  have D4:=D3.reheld (hs':=σ.hs) (yy (fun z=>nB (by rw [z];simp)) hB2) D.h8 (fun z=>nB (by
   simp only [List.mem_cons] at z ⊢
   rcases z with z|z|z|z|z<;>simp [z])) xB
  refine ⟨_,?_,⟨⟨h.length,top,sj2,sv2,D4,hv,hs2⟩,nh,nv,nb⟩,?_⟩
  .rw [yil (h:=h2) D2.g.ob (by
    walk_at "pi"
    rw [yqe D2.ob]) (by rfl') rfl,yGN D2.g,yw]
   unfold yzD
   show ob (ob (some (PV.loc h.length,_)) _) _=_
   rw [yw]
   show ob (ob (some (PV.loc d,_)) _) _=_
   rw [yw]
   simp only [D3.ob]
   rw [if_pos (by rfl'),show putN "held" (PV.loc h.length) ["held","width","log","found"] [PV.loc hl2,.int bx.length,.loc o,.lst (bx.map .int)]=(((["held","width","log","found"]:List Str)),[PV.loc h.length,.int bx.length,.loc o,.lst (bx.map .int)]) from by unfold putN;rw [if_pos (by rfl')];rfl,yw,yxH]
   rfl
  .exact (F12.set gs).set gd
 cases e with
 | done =>
  obtain ⟨ij,iv,rfl,iID⟩:=D2.idT
  have tID:isID top:=D.idT
  have hl1:=tID.len
  have hl2':=iID.le
  have ut:t≠t':=(List.nodup_append.mp n16).2.2 t (by simp) t' (by simp)
  have us_:t≠s:=fun z=>n14 (by rw [<- z];simp)
  have ts_:t'≠s:=fun z=>n14 (by rw [<- z];simp)
  obtain ⟨fs,f,ef,s1,s2⟩:=D2.st.split
  obtain ⟨q1,q2⟩:=List.append_inj' ef rfl
  cases q2
  subst q1
  have hM:isID (ytr (ij.map .inl) (iv.map PV.int) top.1 top.2):=isID.mrg ij iv tID iID.rg
  have D4:=D3.write hM
  refine ⟨_,?_,⟨⟨hl2,_,sj2,sv2,D4,fun j=>?_,hs2⟩,nh2,nv2,nb⟩,(F12.set gs).set gt,E2⟩
  .show ob (oB (.bl true) h2) _=_
   walk_at "pi"
   rw [yil (h:=h2) D2.g.ob (by
    walk_at "pi"
    rw [yqe D2.ob]) (by rfl') rfl,yAh D2.g n10 us_ ts_ ut s2 D2.tp (by rw [List.length_map];omega),yw]
  .rw [yEh ij iv tID iID.rg iID.nd iID.ln,yAx]
   have:=hv2 j
   rw [yAm] at this
   exact this
 | waits =>
  obtain ⟨h',q1,q2,q3⟩:=stop _ rfl
  refine ⟨h',?_,q2,q3,E2⟩
  show ob (oB (.bl false) h2) _=_
  walk_at "pi"
  exact q1
 | fell nm v =>
  obtain ⟨h',q1,q2,q3⟩:=stop _ rfl
  refine ⟨h',?_,q2,q3,E2⟩
  show ob (oB (.bl false) h2) _=_
  walk_at "pi"
  exact q1
theorem yGS {n:Nat}(G:∀ m,m<=n->yxc m):yEE (n+2):=by
 intro X d o s b t l es bx u h σ hd hu hl R
 obtain ⟨hl0,eo⟩:=R.ob
 obtain ⟨hlR,topR,sjR,svR,DR,hvR,hsR⟩:=R.ex
 have pp:∀ {P:AH->Prop}{Q:AH->Prop}{S:AH->Prop},(∃ h',P h'/\Q h'/\S h')->∃ h',P h'/\Q h'/\S h'/\True:=fun ⟨h',p,q,r⟩=>⟨h',p,q,r,trivial⟩
 cases u with
 | let_ r n=>exact pp (yeW (u:=.let_ r n) trivial hu R)
 | reckon w r p q=>exact pp (yeW (u:=.reckon w r p q) trivial hu R)
 | take r p=>exact pp (yeW (u:=.take r p) trivial hu R)
 | put p q=>exact pp (yeW (u:=.put p q) trivial hu R)
 | wait =>
  refine ⟨h,?_,R,Frm.refl,trivial⟩
  unfold yH
  rw [yD]
  show ob (yu _ _ [.val (.loc d),.val (.ins 11 [] [])] h) fnK=_
  rw [ycN yvJ,ycN yvK,ycN yvL,ycN ysa]
  walk_at "pi"
  rfl
 | throw nm r =>
  refine ⟨h,?_,R,Frm.refl,ytP R.nh⟩
  unfold yH
  rw [yD]
  show ob (yu _ _ [.val (.loc d),.val (.ins 10 ["name","slot"] [.str nm,.str r])] h) fnK=_
  rw [ycN yvG,ycN yvH,ycN yvI]
  walk_at "pi"
  rw [yjB (h2:=h) (ys:=[.str r]) eo rfl (by rfl') (by walk_at "pi"),yfE DR hu.2,yw]
  (try walk_at "pi")
  rfl
 | if_ r x y =>
  have hd:4*(1+max (ycS x) (ycS y))+1<=n+2:=hd
  have hl:l.length+(1+max (ycS x) (ycS y))<=60:=hl
  obtain ⟨k1,k2,k3⟩:=hu
  obtain ⟨m,rfl⟩:∃ m,n=m+1:=⟨n-1,by omega⟩
  have key:∃ h',yfP (m+2) [.loc d,ydM (.if_ r x y)] h=some (enV (evT bx (.if_ r x y) σ).1,h')/\PR h' X d o s b l t es bx (evT bx (.if_ r x y) σ).2/\Frm X h h'/\EnN (evT bx (.if_ r x y) σ).1:=by
   unfold yfP
   rw [yD]
   show ∃ h',ob (yu _ _ [.val (.loc d),.val (.ins 7 ["slot","parts","others"] [.str r,.lst (ybf x),.lst (ybf y)])] h) fnK=some (enV (if σ.at_ r≠0 then evL bx x σ else evL bx y σ).1,h')/\PR h' X d o s b l t es bx (if σ.at_ r≠0 then evL bx x σ else evL bx y σ).2/\_/\EnN (if σ.at_ r≠0 then evL bx x σ else evL bx y σ).1
   walk_at "pi"
   rw [yjB (h2:=h) (ys:=[.str r]) eo rfl (by rfl') (by walk_at "pi"),yfE DR k1,yw]
   walk_at "pi"
   by_cases hz:σ.hs.getD (sx r) 0=0
   .obtain ⟨h',e,R',F,E'⟩:=G (m+1) (Nat.le_refl _) X d o s b t l es bx y h σ (by omega) k3 (by omega) R
    rw [if_neg (show ¬ σ.at_ r≠0 from fun z=>z hz)]
    refine ⟨h',?_,R',F,E'⟩
    rw [if_neg (fun z=>z hz),yjB (h2:=h) (ys:=[.lst (ybf y)]) eo rfl (by rfl') (by walk_at "pi"),e,yw]
   .obtain ⟨h',e,R',F,E'⟩:=G (m+1) (Nat.le_refl _) X d o s b t l es bx x h σ (by omega) k2 (by omega) R
    rw [if_pos (show σ.at_ r≠0 from hz)]
    refine ⟨h',?_,R',F,E'⟩
    rw [if_pos hz,yjB (h2:=h) (ys:=[.lst (ybf x)]) eo rfl (by rfl') (by walk_at "pi"),e,yw]
  obtain ⟨h',e,R',F,E'⟩:=key
  refine ⟨h',?_,R',F,E'⟩
  unfold yH
  rw [yD]
  show ob (yu _ _ [.val (.loc d),.val (.ins 7 ["slot","parts","others"] [.str r,.lst (ybf x),.lst (ybf y)])] h) fnK=_
  walk_at "pi"
  rw [yjB (h2:=h) (ys:=[ydM (.if_ r x y)]) eo rfl (by rfl') rfl,e,yw]
 | either x y =>
  have hd:4*(1+max (ycS x) (ycS y))+1<=n+2:=hd
  have hl:l.length+(1+max (ycS x) (ycS y))<=60:=hl
  obtain ⟨-,k2,k3⟩:=hu
  obtain ⟨m,rfl⟩:∃ m,n=m+1:=⟨n-1,by omega⟩
  obtain ⟨h1,e1,R1,F1,E1⟩:=yEF (G m (by omega)) (us:=x) (by omega) k2 (by omega) R
  obtain ⟨hl1,eo1⟩:=R1.ob
  have key:∃ h',ydB (m+2) [.loc d,ydM (.either x y)] h=some (enV (evT bx (.either x y) σ).1,h')/\PR h' X d o s b l t es bx (evT bx (.either x y) σ).2/\Frm X h h'/\EnN (evT bx (.either x y) σ).1:=by
   unfold ydB
   rw [yD]
   show ∃ h',ob (yu _ _ [.val (.loc d),.val (.ins 8 ["parts","others"] [.lst (ybf x),.lst (ybf y)]),.no] h) fnK=some (enV (match evL bx x σ with|(.waits,τ)=>evL bx y ⟨σ.hs,σ.v,τ.s⟩|(.fell nm v,τ)=>(.fell nm v,⟨σ.hs,σ.v,τ.s⟩)|(.done,τ)=>(.done,τ)).1,h')/\PR h' X d o s b l t es bx (match evL bx x σ with|(.waits,τ)=>evL bx y ⟨σ.hs,σ.v,τ.s⟩|(.fell nm v,τ)=>(.fell nm v,⟨σ.hs,σ.v,τ.s⟩)|(.done,τ)=>(.done,τ)).2/\_/\EnN (match evL bx x σ with|(.waits,τ)=>evL bx y ⟨σ.hs,σ.v,τ.s⟩|(.fell nm v,τ)=>(.fell nm v,⟨σ.hs,σ.v,τ.s⟩)|(.done,τ)=>(.done,τ)).1
   walk_at "pi"
   rw [yjB (h2:=h) (ys:=[.lst (ybf x)]) eo rfl (by rfl') (by walk_at "pi"),e1,yw]
   generalize evL bx x σ=r at *
   obtain ⟨e,τ⟩:=r
   rw [ypb,yw]
   cases e with
   | waits =>
    obtain ⟨h',e',R',F',E'⟩:=G (m+1) (Nat.le_refl _) X d o s b t l es bx y h1 ⟨σ.hs,σ.v,τ.s⟩ (by omega) k3 (by omega) R1
    refine ⟨h',?_,R',F1.trans F',E'⟩
    show ob (oB (.bl true) h1) _=_
    walk_at "pi"
    rw [yjB (h2:=h1) (ys:=[.lst (ybf y)]) eo1 rfl (by rfl') (by walk_at "pi"),e',yw]
   | done =>
    refine ⟨h1,?_,R1,F1,trivial⟩
    show ob (oB (.bl false) h1) _=_
    walk_at "pi"
   | fell nm v =>
    refine ⟨h1,?_,R1,F1,E1⟩
    show ob (oB (.bl false) h1) _=_
    walk_at "pi"
  obtain ⟨h',e,R',F,E'⟩:=key
  refine ⟨h',?_,R',F,E'⟩
  unfold yH
  rw [yD]
  show ob (yu _ _ [.val (.loc d),.val (.ins 8 ["parts","others"] [.lst (ybf x),.lst (ybf y)])] h) fnK=_
  rw [ycN yEB]
  walk_at "pi"
  rw [yjB (h2:=h) (ys:=[ydM (.either x y)]) eo rfl (by rfl') rfl,e,yw]
 | try_ x nm r y =>
  have hd:4*(1+max (ycS x) (ycS y))+1<=n+2:=hd
  have hl:l.length+(1+max (ycS x) (ycS y))<=60:=hl
  obtain ⟨-,k1,k2,k3⟩:=hu
  obtain ⟨m,rfl⟩:∃ m,n=m+1:=⟨n-1,by omega⟩
  obtain ⟨h1,e1,R1,F1,E1⟩:=yEF (G m (by omega)) (us:=x) (by omega) k2 (by omega) R
  obtain ⟨hl1,eo1⟩:=R1.ob
  have key:∃ h',yfe (m+2) [.loc d,ydM (.try_ x nm r y)] h=some (enV (evT bx (.try_ x nm r y) σ).1,h')/\PR h' X d o s b l t es bx (evT bx (.try_ x nm r y) σ).2/\Frm X h h'/\EnN (evT bx (.try_ x nm r y) σ).1:=by
   unfold yfe
   rw [yD]
   show ∃ h',ob (yu _ _ [.val (.loc d),.val (.ins 9 ["parts","name","slot","others"] [.lst (ybf x),.str nm,.str r,.lst (ybf y)]),.no] h) fnK=some (enV (match evL bx x σ with|(.fell m v,τ)=>if m=nm then evL bx y ((⟨σ.hs,σ.v,τ.s⟩:AS).put_ r v) else (.fell m v,⟨σ.hs,σ.v,τ.s⟩)|(.waits,τ)=>(.waits,⟨σ.hs,σ.v,τ.s⟩)|(.done,τ)=>(.done,τ)).1,h')/\PR h' X d o s b l t es bx (match evL bx x σ with|(.fell m v,τ)=>if m=nm then evL bx y ((⟨σ.hs,σ.v,τ.s⟩:AS).put_ r v) else (.fell m v,⟨σ.hs,σ.v,τ.s⟩)|(.waits,τ)=>(.waits,⟨σ.hs,σ.v,τ.s⟩)|(.done,τ)=>(.done,τ)).2/\_/\EnN (match evL bx x σ with|(.fell m v,τ)=>if m=nm then evL bx y ((⟨σ.hs,σ.v,τ.s⟩:AS).put_ r v) else (.fell m v,⟨σ.hs,σ.v,τ.s⟩)|(.waits,τ)=>(.waits,⟨σ.hs,σ.v,τ.s⟩)|(.done,τ)=>(.done,τ)).1
   walk_at "pi"
   rw [yjB (h2:=h) (ys:=[.lst (ybf x)]) eo rfl (by rfl') (by walk_at "pi"),e1,yw]
   generalize evL bx x σ=q at *
   obtain ⟨e,τ⟩:=q
   have wf:¬ ("waits":Str) = "fell":=by rfl'
   have df:¬ ("done":Str) = "fell":=by rfl'
   cases e with
   | waits =>
    refine ⟨h1,?_,R1,F1,trivial⟩
    show ob (ydd (.tup [.str "waits"]) (.int 0) h1) _=_
    walk_at "pi"
    rw [if_neg wf]
   | done =>
    refine ⟨h1,?_,R1,F1,trivial⟩
    show ob (ydd (.tup [.str "done"]) (.int 0) h1) _=_
    walk_at "pi"
    rw [if_neg df]
   | fell q v =>
    by_cases hq:q=nm
    .subst hq
     obtain ⟨hl2,top2,sj2,sv2,D2,hv2,hs2⟩:=R1.ex
     have R2:PR (h1.set hl2 (.lst ((σ.hs.set (sx r) v).map .int))) X d o s b l t es bx ((⟨σ.hs,σ.v,τ.s⟩:AS).put_ r v):=⟨⟨hl2,top2,sj2,sv2,D2.hold (by rw [List.length_set];exact D2.h8),hv2,hs2⟩,yAo R1.nh E1,R1.nv,R1.nb⟩
     obtain ⟨hl3,eo3⟩:=R2.ob
     obtain ⟨h',e',R',F',E'⟩:=G (m+1) (Nat.le_refl _) X d o s b t l es bx y _ _ (by omega) k3 (by omega) R2
     dsimp only
     rw [if_pos rfl]
     refine ⟨h',?_,R',(F1.set (D2.ge hl2 (by simp))).trans F',E'⟩
     simp only [show enV (.fell q v)=.tup [.str "fell",.str q,.int v] from rfl]
     walk_at "pi"
     have ea:yc (yfB [3,4,5,6,7,9,10] "slot" (yg 1)) (yc (xOp ydd (yg 2) (xC (.int 2))) yr) [.val (.loc d),.val (.ins 9 ["parts","name","slot","others"] [.lst (ybf x),.str q,.str r,.lst (ybf y)]),.val (.tup [.str "fell",.str q,.int v])] h1=some ([.str r,.int v],h1):=by
      walk_at "pi"
     rw [yjB D2.ob rfl (by rfl') ea,ypa D2 k1,yw]
     rw [yjB (h2:=h1.set hl2 (.lst ((σ.hs.set (sx r) v).map .int))) (ys:=[.lst (ybf y)]) eo3 rfl (by rfl') (by walk_at "pi"),e',yw]
    .dsimp only
     rw [if_neg hq]
     refine ⟨h1,?_,R1,F1,E1⟩
     simp only [show enV (.fell q v)=.tup [.str "fell",.str q,.int v] from rfl]
     walk_at "pi"
     rw [if_neg hq]
  obtain ⟨h',e,R',F,E'⟩:=key
  refine ⟨h',?_,R',F,E'⟩
  unfold yH
  rw [yD]
  show ob (yu _ _ [.val (.loc d),.val (.ins 9 ["parts","name","slot","others"] [.lst (ybf x),.str nm,.str r,.lst (ybf y)])] h) fnK=_
  rw [ycN yEC,ycN yED]
  walk_at "pi"
  rw [yjB (h2:=h) (ys:=[ydM (.try_ x nm r y)]) eo rfl (by rfl') rfl,e,yw]
theorem yAy:∀ n,yxc n
 | 0=>fun X d o s b t l es bx us h σ hd=>by omega
 | 1=>fun X d o s b t l es bx us h σ hd=>by omega
 | 2=>yno (n:=1) (by
  intro X d o s b t l es bx u h σ hd hu hl R
  obtain ⟨hlR,topR,sjR,svR,DR,hvR,hsR⟩:=R.ex
  have pp:∀ {P:AH->Prop}{Q:AH->Prop}{S:AH->Prop},(∃ h',P h'/\Q h'/\S h')->∃ h',P h'/\Q h'/\S h'/\True:=fun ⟨h',p,q,r⟩=>⟨h',p,q,r,trivial⟩
  cases u with
  | let_ r n=>exact pp (yeW (n:=0) (u:=.let_ r n) trivial hu R)
  | reckon w r p q=>exact pp (yeW (n:=0) (u:=.reckon w r p q) trivial hu R)
  | take r p=>exact pp (yeW (n:=0) (u:=.take r p) trivial hu R)
  | put p q=>exact pp (yeW (n:=0) (u:=.put p q) trivial hu R)
  | wait =>
   refine ⟨h,?_,R,Frm.refl,trivial⟩
   unfold yH
   rw [yD]
   show ob (yu _ _ [.val (.loc d),.val (.ins 11 [] [])] h) fnK=_
   rw [ycN yvJ,ycN yvK,ycN yvL,ycN ysa]
   walk_at "pi"
   rfl
  | throw nm r =>
   refine ⟨h,?_,R,Frm.refl,ytP R.nh⟩
   unfold yH
   rw [yD]
   show ob (yu _ _ [.val (.loc d),.val (.ins 10 ["name","slot"] [.str nm,.str r])] h) fnK=_
   rw [ycN yvG,ycN yvH,ycN yvI]
   walk_at "pi"
   rw [yjB (h2:=h) (ys:=[.str r]) DR.ob rfl (by rfl') (by walk_at "pi"),yfE DR hu.2,yw]
   (try walk_at "pi")
   rfl
  | if_ r x y=>exact absurd (show 4*(1+max (ycS x) (ycS y))+1<=1 from hd) (by omega)
  | either x y=>exact absurd (show 4*(1+max (ycS x) (ycS y))+1<=1 from hd) (by omega)
  | try_ x nm r y=>exact absurd (show 4*(1+max (ycS x) (ycS y))+1<=1 from hd) (by omega))
 | n+3=>yno (yGS fun m hm=>yAy m)
end
section
variable {h:AH}
def yjO (f:Vw):List PV:=(iv16.filterMap fun i=>(f i).map fun v=>(i,PV.int v)).map fun p=>.tup [.int p.1,p.2]
theorem yvM {js vs:List Int}(d:ID js vs) {f:Vw}(hf:∀ j,gI (js.map .inl,vs.map PV.int) j=f j):yvE js vs=yjO f:=by
 unfold yvE yjO
 congr 2
 funext i
 unfold pk
 rw [(show isID (js.map .inl,vs.map PV.int) from ⟨js,vs,rfl,d⟩).get i,hf]
 cases f i<;>rfl
theorem yol (f:Vw):Tl (yjO f):=by
 refine ⟨?_,fun x hx=>?_⟩
 .unfold yjO
  rw [List.length_map]
  have:=List.length_filterMap_le (fun i=>(f i).map fun v=>(i,PV.int v)) iv16
  have h:iv16.length=16:=rfl
  omega
 .unfold yjO at hx
  obtain ⟨⟨i,y⟩,h1,rfl⟩:=List.mem_map.mp hx
  obtain ⟨a,_,h2⟩:=List.mem_filterMap.mp h1
  obtain ⟨z,h3,h4⟩:=Option.map_eq_some_iff.mp h2
  cases h4
  exact ⟨_,z,rfl⟩
theorem yAz {ρ:PSt}:ytn ρ h=some (.dct [] [],h):=id rfl
theorem yGT:yeu [] h=some (.ins 0 ["stack","last_seen"] [.loc (h.length+1),.loc (h.length+2)],h++[Nd.dct [] []]++[Nd.lst [.loc h.length]]++[Nd.dct [] []]):=by
 unfold yeu
 rw [yhe]
 show ob (yu _ _ [.own (.ins 0 [] [])] h) inK=_
 walk_at "px"
 simp only [yAz,yw]
 simp
end
section
variable {h:AH}{X:Nat->Prop}{d o s b t:Nat}{l:List Nat}{es:List (List Key×List PV)}{bx hs:List Int}{σ:AS}
noncomputable def LV (h:AH) (x:PV) (xs:List PV):Prop:=∀ e:List Nd,ybD [x] (h++e)=some (.lst xs,h++e)/\yiN [x] (h++e)=some (.int xs.length,h++e)
theorem LV.loc {n:Nat}{xs:List PV}(e1:h[n]?=some (.lst xs)):LV h (.loc n) xs:=fun e=>by
 have:(h++e)[n]?=some (.lst xs):=by rw [List.getElem?_append_left (yhG e1)];exact e1
 exact ⟨yfO this,ymC this⟩
theorem LV.at_ {x:PV}{xs:List PV}(v:LV h x xs):ybD [x] h=some (.lst xs,h)/\yiN [x] h=some (.int xs.length,h):=by have:=v [];rwa [List.append_nil] at this
local macro_rules | `(tactic| walk_at "pj")=>`(tactic| simp_all? only [yGT])
theorem yAA {y:PV}{w:Int}(v:LV h y (hs.map .int)):ydH [y,.int w] h=some (.ins 1 ["held","width","log"] [.loc h.length,.int w,.loc (h.length+4)],
  h++[Nd.lst (hs.map .int),.dct [] [],.lst [.loc (h.length+1)],.dct [] [],.ins 0 ["stack","last_seen"] [.loc (h.length+2),.loc (h.length+3)]]):=by
 unfold ydH
 rw [yhe]
 show ob (yu _ _ [.own (.ins 1 [] []),.val y,.val (.int w)] h) inK=_
 walk_at "pj"
 rw [v.at_.1]
 walk_at "pj"
 simp
theorem yxW {x y:PV}(vx:LV h x (bx.map .int)) (vy:LV h y (hs.map .int)):ydu [x,y] h=some (.ins 1 ["held","width","log","found"] [.loc h.length,.int bx.length,.loc (h.length+4),.lst (bx.map .int)],
  h++[Nd.lst (hs.map .int),.dct [] [],.lst [.loc (h.length+1)],.dct [] [],.ins 0 ["stack","last_seen"] [.loc (h.length+2),.loc (h.length+3)]]):=by
 unfold ydu
 rw [yhe]
 show ob (yu _ _ [.own (.ins 1 [] []),.val x,.val y] h) inK=_
 rw [ynG,yML rfl]
 walk_at "pj"
 rw [vx.at_.2,yw,yAA vy,yw,List.length_map]
 walk_at "pj"
 rw [(vx _).1]
 walk_at "pj"
theorem yCW (h8:hs.length=8) (b1:1<=bx.length) (b16:bx.length<=16) (nh:∀ v∈hs,N64 v) (nb:∀ v∈bx,N64 v) :
  PR (h++[Nd.lst (hs.map .int),.dct [] [],.lst [.loc (h.length+1)],.dct [] [],.ins 0 ["stack","last_seen"] [.loc (h.length+2),.loc (h.length+3)]]++[.ins 1 ["held","width","log","found"] [.loc h.length,.int bx.length,.loc (h.length+4),.lst (bx.map .int)]])
   (· < h.length) (h.length+5) (h.length+4) (h.length+2) (h.length+3) [] (h.length+1) [] bx ⟨hs,fun _=>none,fun _=>none⟩:=by
 have gx:∀ (X:List Nd) (k:Nat),(h++X)[h.length+k]?=X[k]?:=fun X k=>by rw [List.getElem?_append_right (Nat.le_add_right _ _),Nat.add_sub_cancel_left]
 rw [List.append_assoc]
 refine ⟨⟨h.length,([],[]),[],[],⟨gx _ 5,gx _ 0,⟨gx _ 4,gx _ 2,gx _ 3,⟨gx _ 1,trivial⟩⟩,trivial,gx _ 1,by simp,by simp,isID.nil,by simp,⟨by simp,by simp,rfl⟩,h8,b1,b16,fun n hn=>by simp only [List.length_append];omega⟩,fun j=>rfl,fun j=>rfl⟩,nh,(fun j v e=>nomatch e),nb⟩
theorem yCX {l:Nat}{r:List Nat}{ds:List (List Key×List PV)}{ks:List Key}{xs:List PV}{js vs:List Int}(g:LG h o s b (l::r) ds ks xs) (e:h[l]?=some (.dct (js.map .inl) (vs.map PV.int))) (d:ID js vs):yhk [.loc o] h=some (.loc h.length,h++[.lst (yvE js vs)]):=by
 have ix:ygv (.loc s) (.int 0) h=some (.loc l,h):=by
  unfold ygv
  simp only [g.st]
  have:atI ((l::r).map PV.loc) 0=some (.loc l):=yen (j:=0) rfl
  rw [this]
 unfold yhk
 rw [yD,ynG,yxI,yJT,ypV,show yg 0 ([PV.loc o].map .val++List.replicate (2-[PV.loc o].length) .no) h=some (.loc o,h) from rfl,yw,ykU g.ob,yw]
 show ob (ob (ob (ygv (.loc s) (.int 0) h) _) _) _=_
 rw [ix,yw]
 show ob (ycu (ykO (yoG (yg 1))) [.val (.loc o),.val (.loc l)] h) fnK=_
 rw [yzo,yFV]
 unfold yoG
 show ob (ob (ob (ob (some (PV.loc l,h)) _) _) _) _=_
 rw [yw]
 unfold ynI
 have:=d.le
 simp only [e,ywY d (by omega)]
 rfl
def wrE:En->AS->List PV
 | .done,τ=>yjO τ.v
 | _,_=>[]
def hsE:En->AS->List Int->List Int
 | .done,τ,_=>τ.hs
 | _,_,hs=>hs
structure Res (h h2:AH) (r:PV) (e:En) (τ:AS) (hs:List Int):Prop where
 ex:∃ a,r=.tup [enV e,.loc a,.loc (a+1),.loc (a+2)]/\h.length<=a/\h2[a]?=some (.lst (yjO τ.s))/\h2[a+1]?=some (.lst (wrE e τ))/\h2[a+2]?=some (.lst ((hsE e τ hs).map .int))
 fr:Frm (· < h.length) h h2
 h8:(hsE e τ hs).length=8
theorem yAB {us:List T}{x y:PV}(hu:okL us) (hd:ycS us<=4) (vx:LV h x (bx.map .int)) (vy:LV h y (hs.map .int)) (vy2:∀ h2:AH,Frm (· < h.length) h h2->ybD [y] h2=some (.lst (hs.map .int),h2)) (h8:hs.length=8) (b1:1<=bx.length) (b16:bx.length<=16) (nh:∀ v∈hs,N64 v) (nb:∀ v∈bx,N64 v) :
  ∃ h2 r,ymF [.lst (ybf us),x,y] h=some (r,h2)/\Res h h2 r (evL bx us ⟨hs,fun _=>none,fun _=>none⟩).1 (evL bx us ⟨hs,fun _=>none,fun _=>none⟩).2 hs:=by
 have R0:=yCW (h:=h) h8 b1 b16 nh nb
 obtain ⟨h2,e,R,F,_⟩:=yAy 20 _ _ _ _ _ _ _ _ _ us _ _ (by omega) hu (by simp;omega) R0
 obtain ⟨hl0,eo0⟩:=R0.ob
 have FF:Frm (· < h.length) h h2:=by
  refine ⟨Nat.le_trans (by simp) F.1,fun n hn hx=>(F.2 n (by simp only [List.length_append];omega) hx).trans ?_⟩
  rw [List.append_assoc,List.getElem?_append_left hn]
 unfold ymF
 rw [yD]
 show ∃ h2 r,ob (yu _ _ [.val (.lst (ybf us)),.val x,.val y,.no,.no] h) fnK=_/\_
 walk_at "pj"
 rw [yxW vx vy,yw]
 rw [show (h++[Nd.lst (hs.map .int),.dct [] [],.lst [.loc (h.length+1)],.dct [] [],.ins 0 ["stack","last_seen"] [.loc (h.length+2),.loc (h.length+3)]]).length=h.length+5 by simp]
 rw [yjB eo0 rfl (by rfl') rfl,e,yw,yqO,yw]
 generalize evL bx us ⟨hs,fun _=>none,fun _=>none⟩=q at *
 obtain ⟨en,τ⟩:=q
 obtain ⟨⟨hl,top,sj,sv,D,hv,hs'⟩,_⟩:=R
 obtain ⟨js,vs,rfl,hID⟩:=D.idT
 have sl:=D.idS.le
 have so:=ywY D.idS (by omega)
 rw [yvM D.idS hs'] at so
 have D1:=D.ext (x:=.lst (yjO τ.s))
 have hlen:=FF.1
 have get:∀ (x1 x2 x3:Nd),(h2++[x1]++[x2]++[x3])[h2.length]?=some x1/\(h2++[x1]++[x2]++[x3])[h2.length+1]?=some x2/\(h2++[x1]++[x2]++[x3])[h2.length+2]?=some x3:=fun x1 x2 x3=>by
  refine ⟨?_,?_,?_⟩<;>simp
 have stop:en≠.done->∃ h3 r,(ob (yR 0 "saw" yhj (yfB [1] "log" (yg 3)) (yr) [.val (.lst (ybf us)),.val x,.val y,.val (.loc (h.length+5)),.val (enV en)] h2) fun x h=>ob (ybD [y] (h++[Nd.lst []])) fun x_1 h_1=>some (PV.tup [enV en,x,.loc h.length,.loc h_1.length],h_1++[x_1]))=some (r,h3)/\Res h h3 r en τ hs:=by
  intro ne
  refine ⟨_,_,?_,⟨⟨h2.length,rfl,FF.1,(get _ _ _).1,(get _ _ _).2.1,(get _ _ _).2.2⟩,FF.app.app.app,?_⟩⟩
  .rw [yil (h:=h2) D.g.ob (by
    walk_at "pj"
    rw [yqe D.ob]) (by rfl') rfl,yEg D.g so,yw]
   rw [vy2 _ FF.app.app,yw]
   have w1:wrE en τ=[]:=by cases en<;>first|rfl|exact absurd rfl ne
   have w2:hsE en τ hs=hs:=by cases en<;>first|rfl|exact absurd rfl ne
   rw [w1,w2]
   simp
  .have w2:hsE en τ hs=hs:=by cases en<;>first|rfl|exact absurd rfl ne
   rw [w2];exact h8
 cases en with
 | done =>
  refine ⟨_,_,?_,⟨⟨h2.length,rfl,FF.1,(get _ _ _).1,(get _ _ _).2.1,(get _ _ _).2.2⟩,FF.app.app.app,D.h8⟩⟩
  show ob (oB (.bl true) h2) _=_
  walk_at "pj"
  rw [yil (h:=h2) D.g.ob (by
   walk_at "pj"
   rw [yqe D.ob]) (by rfl') rfl,yEg D.g so,yw]
  rw [yil D1.g.ob (by
   walk_at "pj"
   rw [yqe D1.ob]) (by rfl') rfl,yCX D1.g D1.tp hID,yw]
  have e2:yvE js vs=yjO τ.v:=yvM hID fun j=>by
   rw [<- hv j]
   show _=orV _ none
   cases gI (js.map .inl,vs.map PV.int) j<;>rfl
  rw [e2]
  have D2:=D1.ext (x:=.lst (yjO τ.v))
  rw [ywZ D2.ob,yw,yfO D2.hh,yw]
  show _=some (PV.tup [enV .done,.loc h2.length,.loc (h2.length+1),.loc (h2.length+2)],h2++[Nd.lst (yjO τ.s)]++[Nd.lst (yjO τ.v)]++[Nd.lst (τ.hs.map .int)])
  simp
 | waits =>
  obtain ⟨h3,r,q1,q2⟩:=stop (by simp)
  refine ⟨h3,r,?_,q2⟩
  show ob (oB (.bl false) h2) _=_
  walk_at "pj"
  exact q1
 | fell nm v =>
  obtain ⟨h3,r,q1,q2⟩:=stop (by simp)
  refine ⟨h3,r,?_,q2⟩
  show ob (oB (.bl false) h2) _=_
  walk_at "pj"
  exact q1
end
theorem ylQ:(("let":Str) = "reckon")=False:=eq_false (by rfl')
theorem ypc:(("let":Str) = "take")=False:=eq_false (by rfl')
theorem yqP:(("let":Str) = "put")=False:=eq_false (by rfl')
theorem ypd:(("let":Str) = "if")=False:=eq_false (by rfl')
theorem yiQ:(("let":Str) = "either")=False:=eq_false (by rfl')
theorem ymH:(("let":Str) = "try")=False:=eq_false (by rfl')
theorem yjP:(("let":Str) = "throw")=False:=eq_false (by rfl')
theorem ykV:(("let":Str) = "wait")=False:=eq_false (by rfl')
theorem ygM:(("reckon":Str) = "let")=False:=eq_false (by rfl')
theorem ykJ:(("reckon":Str) = "take")=False:=eq_false (by rfl')
theorem ylR:(("reckon":Str) = "put")=False:=eq_false (by rfl')
theorem yjQ:(("reckon":Str) = "if")=False:=eq_false (by rfl')
theorem ygz:(("reckon":Str) = "either")=False:=eq_false (by rfl')
theorem yiR:(("reckon":Str) = "try")=False:=eq_false (by rfl')
theorem yhl:(("reckon":Str) = "throw")=False:=eq_false (by rfl')
theorem yim:(("reckon":Str) = "wait")=False:=eq_false (by rfl')
theorem yiS:(("take":Str) = "let")=False:=eq_false (by rfl')
theorem yfQ:(("take":Str) = "reckon")=False:=eq_false (by rfl')
theorem ykW:(("take":Str) = "put")=False:=eq_false (by rfl')
theorem ymI:(("take":Str) = "if")=False:=eq_false (by rfl')
theorem yin:(("take":Str) = "either")=False:=eq_false (by rfl')
theorem ykX:(("take":Str) = "try")=False:=eq_false (by rfl')
theorem yiT:(("take":Str) = "throw")=False:=eq_false (by rfl')
theorem yjR:(("take":Str) = "wait")=False:=eq_false (by rfl')
theorem yky:(("put":Str) = "let")=False:=eq_false (by rfl')
theorem ygN:(("put":Str) = "reckon")=False:=eq_false (by rfl')
theorem ykY:(("put":Str) = "take")=False:=eq_false (by rfl')
theorem ype:(("put":Str) = "if")=False:=eq_false (by rfl')
theorem yiU:(("put":Str) = "either")=False:=eq_false (by rfl')
theorem ymJ:(("put":Str) = "try")=False:=eq_false (by rfl')
theorem yjS:(("put":Str) = "throw")=False:=eq_false (by rfl')
theorem ykZ:(("put":Str) = "wait")=False:=eq_false (by rfl')
theorem ypf:(("if":Str) = "let")=False:=eq_false (by rfl')
theorem yjT:(("if":Str) = "reckon")=False:=eq_false (by rfl')
theorem ymK:(("if":Str) = "take")=False:=eq_false (by rfl')
theorem ypg:(("if":Str) = "put")=False:=eq_false (by rfl')
theorem ynp:(("if":Str) = "either")=False:=eq_false (by rfl')
theorem ytQ:(("if":Str) = "try")=False:=eq_false (by rfl')
theorem yla:(("if":Str) = "throw")=False:=eq_false (by rfl')
theorem ymL:(("if":Str) = "wait")=False:=eq_false (by rfl')
theorem yiV:(("either":Str) = "let")=False:=eq_false (by rfl')
theorem ygA:(("either":Str) = "reckon")=False:=eq_false (by rfl')
theorem yio:(("either":Str) = "take")=False:=eq_false (by rfl')
theorem yiW:(("either":Str) = "put")=False:=eq_false (by rfl')
theorem yhJ:(("either":Str) = "if")=False:=eq_false (by rfl')
theorem ylS:(("either":Str) = "try")=False:=eq_false (by rfl')
theorem yhm:(("either":Str) = "throw")=False:=eq_false (by rfl')
theorem yip:(("either":Str) = "wait")=False:=eq_false (by rfl')
theorem ymM:(("try":Str) = "let")=False:=eq_false (by rfl')
theorem yiX:(("try":Str) = "reckon")=False:=eq_false (by rfl')
theorem ylb:(("try":Str) = "take")=False:=eq_false (by rfl')
theorem ymN:(("try":Str) = "put")=False:=eq_false (by rfl')
theorem ylT:(("try":Str) = "if")=False:=eq_false (by rfl')
theorem ygO:(("try":Str) = "either")=False:=eq_false (by rfl')
theorem yjU:(("try":Str) = "throw")=False:=eq_false (by rfl')
theorem ylc:(("try":Str) = "wait")=False:=eq_false (by rfl')
theorem yjV:(("throw":Str) = "let")=False:=eq_false (by rfl')
theorem yhn:(("throw":Str) = "reckon")=False:=eq_false (by rfl')
theorem yiY:(("throw":Str) = "take")=False:=eq_false (by rfl')
theorem yjW:(("throw":Str) = "put")=False:=eq_false (by rfl')
theorem yle:(("throw":Str) = "if")=False:=eq_false (by rfl')
theorem yho:(("throw":Str) = "either")=False:=eq_false (by rfl')
theorem yjX:(("throw":Str) = "try")=False:=eq_false (by rfl')
theorem yiZ:(("throw":Str) = "wait")=False:=eq_false (by rfl')
theorem ylf:(("wait":Str) = "let")=False:=eq_false (by rfl')
theorem yiq:(("wait":Str) = "reckon")=False:=eq_false (by rfl')
theorem yjY:(("wait":Str) = "take")=False:=eq_false (by rfl')
theorem ylg:(("wait":Str) = "put")=False:=eq_false (by rfl')
theorem ymO:(("wait":Str) = "if")=False:=eq_false (by rfl')
theorem yir:(("wait":Str) = "either")=False:=eq_false (by rfl')
theorem ylh:(("wait":Str) = "try")=False:=eq_false (by rfl')
theorem yja:(("wait":Str) = "throw")=False:=eq_false (by rfl')
section
variable {h:AH}
mutual
noncomputable def yph:T->PV
 | .let_ r n=>.tup [.str "let",.str r,.int n]
 | .reckon w r s t=>.tup [.str "reckon",.str w,.str r,.str s,.str t]
 | .take r s=>.tup [.str "take",.str r,.str s]
 | .put s t=>.tup [.str "put",.str s,.str t]
 | .if_ r a b=>.tup [.str "if",.str r,.lst (ybQ a),.lst (ybQ b)]
 | .either a b=>.tup [.str "either",.lst (ybQ a),.lst (ybQ b)]
 | .try_ a nm r b=>.tup [.str "try",.lst (ybQ a),.str nm,.str r,.lst (ybQ b)]
 | .throw nm r=>.tup [.str "throw",.str nm,.str r]
 | .wait=>.tup [.str "wait"]
noncomputable def ybQ:List T->List PV
 | []=>[]
 | t::r=>yph t::ybQ r
end
theorem yjZ:∀ ts:List T,ybQ ts=ts.map yph
 | []=>rfl
 | t::r=>by show yph t::ybQ r=_;rw [yjZ r];rfl
theorem yGU {z:Str}:isStr (.str z) h=true:=rfl
theorem yJv {w:Str}{x y:Int}(hw:okW w) (hx:N64 x):yiC [.str w,.int x,.int y] h=some (.int (rk w x y),h):=by
 have hm:MulOk x y:=.inl ⟨by have:=hx.1;omega,hx.2⟩
 unfold yiC
 rw [yD]
 show ob (yu _ _ [.val (.str w),.val (.int x),.val (.int y)] h) fnK=_
 unfold okW WDS at hw
 simp only [List.mem_cons,List.not_mem_nil,or_false] at hw
 unfold rk
 rcases hw with rfl|rfl|rfl|rfl|rfl
 .walk_at "pw"
 .walk_at "pw"
 .walk_at "pw"
  rw [if_pos hm]
 .walk_at "pw"
 .walk_at "pw"
end
local macro_rules | `(tactic| walk_at "pk")=>`(tactic| simp_all? only [ylQ,ypc,yqP,ypd,yiQ,ymH,yjP,ykV,ygM,ykJ,ylR,yjQ,ygz,yiR,yhl,yim,yiS,yfQ,ykW,ymI,yin,ykX,yiT,yjR,yky,ygN,ykY,ype,yiU,ymJ,yjS,ykZ,ypf,yjT,ymK,ypg,ynp,ytQ,yla,ymL,yiV,ygA,yio,yiW,yhJ,ylS,yhm,yip,ymM,yiX,ylb,ymN,ylT,ygO,yjU,ylc,yjV,yhn,yiY,yjW,yle,yho,yjX,yiZ,ylf,yiq,yjY,ylg,ymO,yir,ylh,yja,if_true,if_false,yGU])
section
variable {h:AH}
theorem yjb {n:Nat}{xs:List Int}{i:Nat}{v:Int}{eo ei ev:XE}{ρ:PSt}(e1:ev ρ h=some (.int v,h)) (e2:eo ρ h=some (.loc n,h)) (e3:ei ρ h=some (.int i,h)) (e:h[n]?=some (.lst (xs.map .int))) (hi:i<xs.length):ymB eo ei ev ρ h=some (.nx ρ,h.set n (.lst ((xs.set i v).map .int))):=by
 unfold ymB
 rw [e1,yw,e2,yw,e3,yw]
 have e4:ixN (xs.map PV.int).length (i:Nat)=some i:=by
  unfold ixN
  simp [hi]
 simp only [e,e4]
 rw [List.map_set]
theorem yxX {n:Nat}{ks:List Key}{xs:List PV}{i:Int}{ek ed:XE}{ρ:PSt}(ek':ek ρ h=some (.int i,h)) (ed':ed ρ h=some (.loc n,h)) (e:h[n]?=some (.dct ks xs)):yzy true ek ed ρ h=some (.bl (!(yik ks xs (.inl i)).isSome),h):=by
 unfold yzy
 rw [ek',yw,ed',yw]
 unfold yzx
 simp only [e,keyOf]
 rfl
theorem ytR {n:Nat}{ks:List Key}{xs:List PV}{i:Int}{y:PV}{ek ed ey:XE}{ρ:PSt}(ed':ed ρ h=some (.loc n,h)) (ek':ek ρ h=some (.int i,h)) (ey':ey ρ h=some (y,h)) (e:h[n]?=some (.dct ks xs)):yto ed ek ey ρ h=some ((yik ks xs (.inl i)).getD y,h):=by
 have hd:yzx (.loc n) h=some (ks,xs):=by unfold yzx;simp only [e]
 unfold yto
 rw [ed',yw,hd,if_pos (show (some (ks,xs)).isSome=true from rfl),ek',yw,ey',yw,hd]
 rfl
structure LS (h:AH) (a c w:Nat) (σ:AS):Prop where
 ex:∃ sj sv wj wv,h[c]?=some (.dct (sj.map .inl) (sv.map PV.int))/\h[w]?=some (.dct (wj.map .inl) (wv.map PV.int))/\ID sj sv/\ID wj wv/\(∀ j,gI (sj.map .inl,sv.map PV.int) j=σ.s j)/\∀ j,gI (wj.map .inl,wv.map PV.int) j=σ.v j
 hh:h[a]?=some (.lst (σ.hs.map .int))
 ne:a≠c/\a≠w/\c≠w
 h8:σ.hs.length=8
 nh:∀ v∈σ.hs,N64 v
 nv:∀ j v,σ.v j=some v->N64 v
def Fr3 (a c w:Nat) (h h':AH):Prop:=h'.length=h.length/\∀ n,n≠a->n≠c->n≠w->h'[n]?=h[n]?
theorem Fr3.refl {a c w:Nat}:Fr3 a c w h h:=⟨rfl,fun _ _ _ _=>rfl⟩
theorem Fr3.set {a c w t:Nat}{h':AH}{x:Nd}(f:Fr3 a c w h h') (ht:t=a\/t=c\/t=w):Fr3 a c w h (h'.set t x):=⟨by rw [List.length_set];exact f.1,fun n h1 h2 h3=>(List.getElem?_set_ne (by rcases ht with rfl|rfl|rfl<;>exact fun z=>(by first|exact h1 z.symm|exact h2 z.symm|exact h3 z.symm))).trans (f.2 n h1 h2 h3)⟩
variable {a c w:Nat}{σ:AS}{bx:List Int}
theorem yxY {u:T}(hp:yxb u) (hu:okT u) (b1:1<=bx.length) (b16:bx.length<=16) (nb:∀ v∈bx,N64 v) (L:LS h a c w σ):∃ h',yez [yph u,.lst (bx.map .int),.loc c,.loc a,.loc w] h=some (.non,h')/\LS h' a c w (evP bx u σ)/\Fr3 a c w h h':=by
 obtain ⟨⟨sj,sv,wj,wv,e1,e2,i1,i2,f1,f2⟩,hh,⟨n1,n2,n3⟩,h8,nh,nv⟩:=L
 have ix:∀ {r:Str},okS r->ygv (.loc a) (.int (sx r)) h=some (.int (σ.hs.getD (sx r) 0),h):=fun hr=>yoZ hh (by rw [h8];exact yoY hr)
 have len8:∀ {i:Nat}{v:Int},(σ.hs.set i v).length=8:=by intro i v;rw [List.length_set];exact h8
 unfold yez
 cases u with
 | let_ r n =>
  obtain ⟨k1,k2⟩:=hu
  refine ⟨_,?_,⟨⟨sj,sv,wj,wv,yy (Ne.symm n1) e1,yy (Ne.symm n2) e2,i1,i2,f1,f2⟩,set_same hh,⟨n1,n2,n3⟩,len8,yAo nh k2,nv⟩,Fr3.refl.set (.inl rfl)⟩
  rw [yD]
  show ob (ycR _ _ _ [.val (.tup [.str "let",.str r,.int n]),.val (.lst (bx.map .int)),.val (.loc c),.val (.loc a),.val (.loc w),.no,.no,.no] h) fnK=_
  walk_at "pk"
  rw [yjb (n:=a) (i:=sx r) (v:=n) rfl rfl (by
   walk_at "pk"
   rw [yfD k1]) hh (by rw [h8];exact yoY k1),yw]
  rfl
 | reckon q r x y =>
  obtain ⟨k0,k1,k2,k3⟩:=hu
  refine ⟨_,?_,⟨⟨sj,sv,wj,wv,yy (Ne.symm n1) e1,yy (Ne.symm n2) e2,i1,i2,f1,f2⟩,set_same hh,⟨n1,n2,n3⟩,len8,yAo nh yMu,nv⟩,Fr3.refl.set (.inl rfl)⟩
  rw [yD]
  show ob (ycR _ _ _ [.val (.tup [.str "reckon",.str q,.str r,.str x,.str y]),.val (.lst (bx.map .int)),.val (.loc c),.val (.loc a),.val (.loc w),.no,.no,.no] h) fnK=_
  rw [yqN ygM]
  walk_at "pk"
  rw [yfD k2,yw,ix k2,yw,yfD k3,yw,ix k3,yw]
  rw [yjb (n:=a) (i:=sx r) (v:=rk q (σ.hs.getD (sx x) 0) (σ.hs.getD (sx y) 0)) (by
   walk_at "pk"
   rw [yJv k0 (ytP nh)]) rfl (by
   walk_at "pk"
   rw [yfD k1]) hh (by rw [h8];exact yoY k1),yw]
  rfl
 | take r p =>
  obtain ⟨k1,k2⟩:=hu
  obtain ⟨b2,b3,b4⟩:=ytN (bx:=bx) (σ.hs.getD (sx p) 0) b1 b16
  have hj:=f2 (σ.hs.getD (sx p) 0%bx.length)
  have hg:=(show isID (wj.map .inl,wv.map PV.int) from ⟨wj,wv,rfl,i2⟩).get (σ.hs.getD (sx p) 0%bx.length)
  rw [yD]
  show ∃ h',ob (ycR _ _ _ [.val (.tup [.str "take",.str r,.str p]),.val (.lst (bx.map .int)),.val (.loc c),.val (.loc a),.val (.loc w),.no,.no,.no] h) fnK=_/\_
  rw [yqN yiS,yqN yfQ,yqN ykW]
  walk_at "pk"
  rw [yfD k2,yw,ix k2,yw]
  rw [List.length_map]
  walk_at "pk"
  rw [if_pos (by omega)]
  rw [yxX (n:=w) (i:=σ.hs.getD (sx p) 0%bx.length) rfl rfl e2,yw,hg,hj]
  cases hv:σ.v (σ.hs.getD (sx p) 0%bx.length) with
  | some v =>
   rw [hv] at hj
   have ev:evP bx (.take r p) σ=⟨σ.hs.set (sx r) v,σ.v,σ.s⟩:=by
    show tkV bx σ r (σ.hs.getD (sx p) 0%bx.length) (σ.v (σ.hs.getD (sx p) 0%bx.length))=_
    rw [hv]
    rfl
   rw [ev]
   refine ⟨_,?_,⟨⟨sj,sv,wj,wv,yy (Ne.symm n1) e1,yy (Ne.symm n2) e2,i1,i2,f1,f2⟩,set_same hh,⟨n1,n2,n3⟩,len8,yAo nh (nv _ _ hv),nv⟩,Fr3.refl.set (.inl rfl)⟩
   show ob (oB (.bl false) h) _=_
   walk_at "pk"
   rw [yjb (n:=a) (i:=sx r) (v:=v) (by
    rw [ytR (n:=w) (i:=σ.hs.getD (sx p) 0%bx.length) (y:=.int (bx.getD (σ.hs.getD (sx p) 0%bx.length).toNat 0)) rfl rfl (by
     walk_at "pk"
     rw [ixF b2 b3]
     rfl) e2,hg,hj]
    rfl) rfl (by
    walk_at "pk"
    rw [yfD k1]) hh (by rw [h8];exact yoY k1),yw]
   rfl
  | none =>
   rw [hv] at hj
   obtain ⟨sj',sv',hput,hi,_⟩:=i1.put (v:=bx.getD (σ.hs.getD (sx p) 0%bx.length).toNat 0) ⟨b2,b4⟩
   have ev:evP bx (.take r p) σ=⟨σ.hs.set (sx r) (bx.getD (σ.hs.getD (sx p) 0%bx.length).toNat 0),σ.v,upV σ.s (σ.hs.getD (sx p) 0%bx.length) (bx.getD (σ.hs.getD (sx p) 0%bx.length).toNat 0)⟩:=by
    show tkV bx σ r (σ.hs.getD (sx p) 0%bx.length) (σ.v (σ.hs.getD (sx p) 0%bx.length))=_
    rw [hv]
    rfl
   rw [ev]
   have hd:isID (sj.map .inl,sv.map PV.int):=⟨sj,sv,rfl,i1⟩
   have sl:=i1.le
   refine ⟨(h.set c (.dct (sj'.map .inl) (sv'.map .int))).set a (.lst ((σ.hs.set (sx r) (bx.getD (σ.hs.getD (sx p) 0%bx.length).toNat 0)).map .int)),?_,⟨⟨sj',sv',wj,wv,yy (Ne.symm n1) (set_same e1),yy (Ne.symm n2) (yy (Ne.symm n3) e2),hi,i2,fun j=>?_,f2⟩,set_same (yy n1 hh),⟨n1,n2,n3⟩,len8,yAo nh (ytP nb),nv⟩,(Fr3.refl.set (.inr (.inl rfl))).set (.inl rfl)⟩
   .show ob (oB (.bl true) h) _=_
    walk_at "pk"
    rw [yok (n:=c) (i:=σ.hs.getD (sx p) 0%bx.length) (x:=.int (bx.getD (σ.hs.getD (sx p) 0%bx.length).toNat 0)) (by
     walk_at "pk"
     rw [ixF b2 b3]
     rfl) rfl rfl e1 (by rw [List.length_map];omega),hput,yw,yxH]
    rw [yjb (n:=a) (i:=sx r) (v:=bx.getD (σ.hs.getD (sx p) 0%bx.length).toNat 0) (by
     rw [ytR (n:=w) (i:=σ.hs.getD (sx p) 0%bx.length) (y:=.int (bx.getD (σ.hs.getD (sx p) 0%bx.length).toNat 0)) rfl rfl (by
      walk_at "pk"
      rw [ixF b2 b3]
      rfl) (yy (Ne.symm n3) e2),hg,hj]
     rfl) rfl (by
     walk_at "pk"
     rw [yfD k1]) (yy n1 hh) (by rw [h8];exact yoY k1),yw]
    rfl
   .have:=ytG hd (k:=σ.hs.getD (sx p) 0%bx.length) (j:=j) (v:=bx.getD (σ.hs.getD (sx p) 0%bx.length).toNat 0)
    rw [hput] at this
    rw [this,f1]
    rfl
 | put p q =>
  obtain ⟨k1,k2⟩:=hu
  obtain ⟨b2,b3,b4⟩:=ytN (bx:=bx) (σ.hs.getD (sx p) 0) b1 b16
  obtain ⟨wj',wv',hput,hi,_⟩:=i2.put (v:=σ.hs.getD (sx q) 0) ⟨b2,b4⟩
  have hd:isID (wj.map .inl,wv.map PV.int):=⟨wj,wv,rfl,i2⟩
  have sl:=i2.le
  refine ⟨h.set w (.dct (wj'.map .inl) (wv'.map .int)),?_,⟨⟨sj,sv,wj',wv',yy n3 e1,set_same e2,i1,hi,f1,fun j=>?_⟩,yy n2 hh,⟨n1,n2,n3⟩,h8,nh,fun j v e=>?_⟩,Fr3.refl.set (.inr (.inr rfl))⟩
  .rw [yD]
   show ob (ycR _ _ _ [.val (.tup [.str "put",.str p,.str q]),.val (.lst (bx.map .int)),.val (.loc c),.val (.loc a),.val (.loc w),.no,.no,.no] h) fnK=_
   rw [yqN yky,yqN ygN]
   walk_at "pk"
   rw [yfD k1,yw,ix k1,yw,List.length_map]
   walk_at "pk"
   rw [if_pos (by omega)]
   rw [yok (n:=w) (i:=σ.hs.getD (sx p) 0%bx.length) (x:=.int (σ.hs.getD (sx q) 0)) (by
    walk_at "pk"
    rw [yfD k2,yw,ix k2]) rfl rfl e2 (by rw [List.length_map];omega),hput,yw]
   rfl
  .have:=ytG hd (k:=σ.hs.getD (sx p) 0%bx.length) (j:=j) (v:=σ.hs.getD (sx q) 0)
   rw [hput] at this
   rw [this,f2]
   rfl
  .have e:(if j=σ.hs.getD (sx p) 0%bx.length then some (σ.hs.getD (sx q) 0) else σ.v j)=some v:=e
   split at e
   .cases e;exact ytP nh
   .exact nv j v e
 | if_ _ _ _=>exact hp.elim
 | either _ _=>exact hp.elim
 | try_ _ _ _ _=>exact hp.elim
 | throw _ _=>exact hp.elim
 | wait=>exact hp.elim
end
section
variable {h:AH}
theorem yAC {js vs:List Int}(d:ID js vs):(yrr (js.zip (vs.map PV.int))).map (·.1)=yoH js:=by
 have hl:(vs.map PV.int).length=js.length:=by simp [d.ln]
 have hk:(js.zip (vs.map PV.int)).map (·.1)=js:=List.map_fst_zip (by omega)
 refine ywP ?_ ?_
 .have:=(yfC (js.zip (vs.map PV.int))).map (·.1)
  rw [hk] at this
  exact this
 .exact List.pairwise_map.mpr (yoj _)
theorem yAD {js vs:List Int}{e:XE}{inn:PV->PSt}(d:ID js vs) (he:∀ (j:Int) (x:PV),yik (js.map .inl) (vs.map PV.int) (.inl j)=some x->e (inn (.int j)) h=some (.tup [.int j,x],h)) :
  yBO e inn ((yoH js).map .int) h=some (yvE js vs,h):=by
 have hl:(vs.map PV.int).length=js.length:=by simp [d.ln]
 have e1:(yoH js).map PV.int=(yrr (js.zip (vs.map PV.int))).map fun p=>.int p.1:=by
  rw [<- yAC d,List.map_map];rfl
 rw [e1,yvp (fun p:Int×PV=>.int p.1) (fun p=>.tup [.int p.1,p.2]) fun p hp=>he p.1 p.2 ?_]
 .unfold yvE
  rw [yAj d]
 .exact (ylN d.nd hl).mp ((yfC _).mem_iff.mp hp)
theorem yom {n:Nat}{js vs:List Int}(e:h[n]?=some (.dct (js.map .inl) (vs.map PV.int))) (d:ID js vs) {f:Vw}(hf:∀ j,gI (js.map .inl,vs.map PV.int) j=f j):ydL [.loc n] h=some (.lst (yjO f),h):=by
 have hl:=d.le
 rw [<- yvM d hf]
 unfold ydL
 rw [yD]
 show ob (ycu _ [.val (.loc n)] h) fnK=_
 rw [yzo,yKO,yDM]
 have il:xIL (xFz (ymt yqL (yc (yg 0) yr))) [.val (.loc n)] h=some ((yoH js).map .int,h):=by
  unfold xIL
  rw [yKO,yIp,ywD,show yg 0 [PVar.val (.loc n)] h=some (.loc n,h) from rfl,yw,yzn,yw,yw]
  unfold yqL ynI
  simp only [e,yoX]
  rw [if_pos (by omega),yw]
  rfl
 have sl:((yoH js).map PV.int).length<=100000:=by rw [List.length_map,(ymE js).length_eq];omega
 rw [il,yw,if_pos sl,yAD d fun j x hx=>?_]
 .rfl
 .show yiL _ [.val (.int j),.val (.loc n)] h=_
  rw [yIo,ywD,show yg 0 [PVar.val (.int j),.val (.loc n)] h=some (.int j,h) from rfl,yw,ywD,ywW (n:=n) (i:=j) rfl rfl e hx,yw,yzn,yw,yw,yw,if_pos (by simp)]
theorem yJw {r n:PV}:yew [r,n] h=some (.ins 3 ["slot","number"] [r,n],h):=by
 unfold yew
 rw [yhe]
 show ob (yu _ _ [.own (.ins 3 [] []),.val r,.val n] h) inK=_
 walk_at "px"
theorem yAE {w r s t:PV}:ycW [w,r,s,t] h=some (.ins 4 ["word","slot","one","other"] [w,r,s,t],h):=by
 unfold ycW
 rw [yhe]
 show ob (yu _ _ [.own (.ins 4 [] []),.val w,.val r,.val s,.val t] h) inK=_
 walk_at "px"
theorem yGV {r s:PV}:ydJ [r,s] h=some (.ins 5 ["slot","place"] [r,s],h):=by
 unfold ydJ
 rw [yhe]
 show ob (yu _ _ [.own (.ins 5 [] []),.val r,.val s] h) inK=_
 walk_at "px"
theorem yJx {r s:PV}:yex [r,s] h=some (.ins 6 ["place","slot"] [r,s],h):=by
 unfold yex
 rw [yhe]
 show ob (yu _ _ [.own (.ins 6 [] []),.val r,.val s] h) inK=_
 walk_at "px"
mutual
noncomputable def wT:T->Nat
 | .if_ _ a b=>1+wL a+wL b
 | .either a b=>1+wL a+wL b
 | .try_ a _ _ b=>1+wL a+wL b
 | _=>1
noncomputable def wL:List T->Nat
 | []=>0
 | t::r=>wT t+wL r
end
theorem yJy (t:T):1<=wT t:=by cases t<;>(simp only [wT];omega)
theorem yxZ:∀ ts:List T,ts.length<=wL ts
 | []=>Nat.le_refl _
 | t::r=>by
  have:=yxZ r
  have:=yJy t
  show r.length+1<=wT t+wL r
  omega
theorem yqQ:∀ (a b:List T),wL (a++b)=wL a+wL b
 | [],b=>by simp [wL]
 | t::r,b=>by
  show wT t+wL (r++b)=wT t+wL r+wL b
  rw [yqQ r b];omega
theorem ykz:∀ (a b:List T),ycS (a++b)=max (ycS a) (ycS b)
 | [],b=>by simp [ycS]
 | t::r,b=>by
  show max (ypU t) (ycS (r++b))=max (max (ypU t) (ycS r)) (ycS b)
  rw [ykz r b];omega
theorem ymP:∀ {a b:List T},okL a->okL b->okL (a++b)
 | [],_,_,k=>k
 | _::_,_,h,k=>⟨h.1,ymP h.2 k⟩
theorem yAF {t:T}:∀ {ts:List T},t∈ts->wT t<=wL ts/\ypU t<=ycS ts/\(okL ts->okT t)
 | u::r,hm=>by
  show wT t<=wT u+wL r/\ypU t<=max (ypU u) (ycS r)/\(okT u/\okL r->okT t)
  rcases List.mem_cons.mp hm with rfl|hm
  .exact ⟨by omega,by omega,fun k=>k.1⟩
  .obtain ⟨a,b,c⟩:=yAF hm
   exact ⟨by omega,by omega,fun k=>c k.2⟩
 | [],hm=>by simp at hm
theorem yhp {a b:List T}:ybQ (a++b)=ybQ a++ybQ b:=by simp only [yjZ,List.map_append]
theorem ypi {a:List T}:(ybQ a).length=a.length:=by rw [yjZ,List.length_map]
theorem yLK {r:PV}{xs ys:List PV}:yff [r,.lst xs,.lst ys] h=some (.ins 7 ["slot","parts","others"] [r,.lst xs,.lst ys],h):=by
 unfold yff
 rw [yhe]
 show ob (yu _ _ [.own (.ins 7 [] []),.val r,.val (.lst xs),.val (.lst ys)] h) inK=_
 walk_at "px"
theorem yAG {xs ys:List PV}:ycY [.lst xs,.lst ys] h=some (.ins 8 ["parts","others"] [.lst xs,.lst ys],h):=by
 unfold ycY
 rw [yhe]
 show ob (yu _ _ [.own (.ins 8 [] []),.val (.lst xs),.val (.lst ys)] h) inK=_
 walk_at "px"
theorem yJz {nm r:PV}{xs ys:List PV}:yey [.lst xs,nm,r,.lst ys] h=some (.ins 9 ["parts","name","slot","others"] [.lst xs,nm,r,.lst ys],h):=by
 unfold yey
 rw [yhe]
 show ob (yu _ _ [.own (.ins 9 [] []),.val (.lst xs),.val nm,.val r,.val (.lst ys)] h) inK=_
 walk_at "px"
theorem yCY {r s:PV}:ydv [r,s] h=some (.ins 10 ["name","slot"] [r,s],h):=by
 unfold ydv
 rw [yhe]
 show ob (yu _ _ [.own (.ins 10 [] []),.val r,.val s] h) inK=_
 walk_at "px"
local macro_rules | `(tactic| walk_at "pm")=>`(tactic| simp_all? only [yJw,yAE,yGV,yJx,yLK,yAG,yJz,yCY,ylQ,ypc,yqP,ypd,yiQ,ymH,yjP,ykV,ygM,ykJ,ylR,yjQ,ygz,yiR,yhl,yim,yiS,yfQ,ykW,ymI,yin,ykX,yiT,yjR,yky,ygN,ykY,ype,yiU,ymJ,yjS,ykZ,ypf,yjT,ymK,ypg,ynp,ytQ,yla,ymL,yiV,ygA,yio,yiW,yhJ,ylS,yhm,yip,ymM,yiX,ylb,ymN,ylT,ygO,yjU,ylc,yjV,yhn,yiY,yjW,yle,yho,yjX,yiZ,ylf,yiq,yjY,ylg,ymO,yir,ylh,yja,if_true,if_false])
theorem yAH:∀ (n:Nat) (us:List T),ycS us+1<=n->wL us<=1000->okL us->ycq n [.lst (ybQ us)] h=some (.lst (ybf us),h)
 | 0,us,hn,_,_=>by omega
 | n+1,us,hn,hw,hu=>by
  have G:=yAH n
  have wl:=yxZ us
  unfold ycq
  rw [yD,yjZ,ymG]
  show ob (yu _ _ [.val (.lst (us.map yph)),.no,.no] h) fnK=_
  walk_at "pm"
  rw [show xIL (yg 0) [PVar.val (.lst (us.map yph)),.own (.lst []),.no] h=some (us.map yph,h) from rfl,yw]
  refine yiz (fun i ρ h1=>h1=h/\∃ c,ρ=[.val (.lst (us.map yph)),.own (.lst ((us.take i).map ydM)),c]) ⟨rfl,.no,rfl⟩ ?_ ?_
  .rintro i x ρ h1 hx ⟨rfl,c,rfl⟩
   rw [List.getElem?_map] at hx
   obtain ⟨u,hu1,rfl⟩:=Option.map_eq_some_iff.mp hx
   have hi:=(List.getElem?_eq_some_iff.mp hu1).1
   obtain ⟨k1,k2,k3⟩:=yAF (List.mem_of_getElem? hu1)
   replace k3:=k3 hu
   have ht:us.take (i+1)=us.take i++[u]:=by
    rw [List.take_add_one,hu1];rfl
   refine ⟨_,[.val (.lst (us.map yph)),.own (.lst ((us.take (i+1)).map ydM)),.val (yph u)],h1,rfl,.inl ?_,rfl,_,rfl⟩
   have hb:((us.take i).map ydM).length<100000:=by rw [List.length_map,List.length_take];omega
   rw [ht,List.map_append]
   cases u<;>simp only [yph,List.set_cons_succ,List.set_cons_zero]
   case if_ r a b =>
    have hd:1+max (ycS a) (ycS b)<=ycS us:=k2
    have hw':1+wL a+wL b<=wL us:=k1
    rw [ybP ypf,ybP yjT,ybP ymK,ybP ypg]
    walk_at "pm"
    rw [yjA (xs:=(us.take i).map ydM) rfl]
    walk_at "pm"
    rw [G a (by omega) (by omega) k3.2.1,yw,G b (by omega) (by omega) k3.2.2,yw]
    walk_at "pm"
    rw [if_pos hb]
    rfl
   case either a b =>
    have hd:1+max (ycS a) (ycS b)<=ycS us:=k2
    have hw':1+wL a+wL b<=wL us:=k1
    rw [ybP yiV,ybP ygA,ybP yio,ybP yiW,ybP yhJ]
    walk_at "pm"
    rw [yjA (xs:=(us.take i).map ydM) rfl]
    walk_at "pm"
    rw [G a (by omega) (by omega) k3.2.1,yw,G b (by omega) (by omega) k3.2.2,yw]
    walk_at "pm"
    rw [if_pos hb]
    rfl
   case try_ a nm r b =>
    have hd:1+max (ycS a) (ycS b)<=ycS us:=k2
    have hw':1+wL a+wL b<=wL us:=k1
    rw [ybP ymM,ybP yiX,ybP ylb,ybP ymN,ybP ylT,ybP ygO]
    walk_at "pm"
    rw [yjA (xs:=(us.take i).map ydM) rfl]
    walk_at "pm"
    rw [G a (by omega) (by omega) k3.2.2.1,yw,G b (by omega) (by omega) k3.2.2.2,yw]
    walk_at "pm"
    rw [if_pos hb]
    rfl
   case let_ =>
    (try walk_at "pm")
    rw [yjA (xs:=(us.take i).map ydM) rfl]
    walk_at "pm"
    rw [if_pos hb]
    rfl
   case reckon =>
    rw [ybP ygM]
    (try walk_at "pm")
    rw [yjA (xs:=(us.take i).map ydM) rfl]
    walk_at "pm"
    rw [if_pos hb]
    rfl
   case take =>
    rw [ybP yiS,ybP yfQ]
    (try walk_at "pm")
    rw [yjA (xs:=(us.take i).map ydM) rfl]
    walk_at "pm"
    rw [if_pos hb]
    rfl
   case put =>
    rw [ybP yky,ybP ygN,ybP ykY]
    (try walk_at "pm")
    rw [yjA (xs:=(us.take i).map ydM) rfl]
    walk_at "pm"
    rw [if_pos hb]
    rfl
   case throw =>
    rw [ybP yjV,ybP yhn,ybP yiY,ybP yjW,ybP yle,ybP yho,ybP yjX]
    (try walk_at "pm")
    rw [yjA (xs:=(us.take i).map ydM) rfl]
    walk_at "pm"
    rw [if_pos hb]
    rfl
   case wait =>
    rw [ybP ylf,ybP yiq,ybP yjY,ybP ylg,ybP ymO,ybP yir,ybP ylh,ybP yja]
    (try walk_at "pm")
    rw [yjA (xs:=(us.take i).map ydM) rfl]
    walk_at "pm"
    rw [if_pos hb]
    rfl
  .rintro ρ' h' ⟨rfl,c,rfl⟩
   rw [List.length_map,List.take_length]
   walk_at "pm"
end
section
variable {h:AH}
theorem yfz (a:Int) {b:Int}(h:0<b):0<=a%b/\a%b<b:=⟨Int.emod_nonneg a (by omega),Int.emod_lt_of_pos a h⟩
def yHj (c:Int):Int:=c*48271%999999999989
theorem yon (c:Int):ybK [.int c] h=some (.int (yHj c),h):=by
 unfold ybK
 rw [yD]
 show ob (ycu _ [.val (.int c)] h) fnK=_
 walk_at "px"
 rfl
def yvN (c:Int):Int:=c*982451653%18446744073709551616
theorem yvO (c:Int):yde [.int c] h=some (.int (yvN c),h):=by
 unfold yde
 rw [yD]
 show ob (ycu _ [.val (.int c)] h) fnK=_
 walk_at "px"
 rfl
theorem yAI (c:Int):N64 (yvN c):=yfz _ (by decide)
theorem yya {α:Type}(xs:List α) (i n:Int) (hn:xs.length=n) (h0:0<=i) (h1:i<n):∃ x,atI xs i=some x/\x∈xs:=by
 obtain ⟨j,rfl⟩:∃ j:Nat,i=(j:Int):=⟨i.toNat,by omega⟩
 have hj:j<xs.length:=by omega
 exact ⟨xs[j],yen (List.getElem?_eq_getElem hj),List.getElem_mem hj⟩
theorem yyb (m:Int):∃ (L:Int) (z:Str),atI [PV.int 2,PV.int 3,PV.int 8] (m%3)=some (.int L)/\yJR (.str "abcdefgh") none (some L) h=some (.str z,h)/\(z.length:Int)=L/\0<L/\L<=8/\(z.cps.toList.length:Int)=L/\∀ n∈z.cps.toList,(⟨#[n]⟩:Str)∈SL:=by
 have b:m%3=0\/m%3=1\/m%3=2:=by omega
 rcases b with e|e|e
 .exact ⟨2,"ab",by rw [e];exact yIL,rfl,by rfl',by decide,by decide,by rfl',by rfl'⟩
 .exact ⟨3,"abc",by rw [e];exact yIM,rfl,by rfl',by decide,by decide,by rfl',by rfl'⟩
 .exact ⟨8,"abcdefgh",by rw [e];exact yLv,rfl,by rfl',by decide,by decide,by rfl',by rfl'⟩
theorem yEG {c:XT}{s:XS}(I:Nat->PSt->AH->Prop) (E:PSt->AH->Prop)
  (step:∀ m ρ h,I m ρ h->(c ρ h=some (false,h)/\E ρ h)\/∃ ρ' m',c ρ h=some (true,h)/\s ρ h=some (.nx ρ',h)/\m'<m/\I m' ρ' h) :
  ∀ (fuel m:Nat) (ρ:PSt) (h:AH),m<fuel->I m ρ h->∃ ρ',whl c s fuel ρ h=some (.nx ρ',h)/\E ρ' h
 | 0,_,_,_,hm,_=>by omega
 | fuel+1,m,ρ,h,hm,hI=>by
  rw [yCs]
  rcases step m ρ h hI with ⟨e1,e2⟩|⟨ρ',m',e1,e2,e3,e4⟩
  .rw [e1,yw]
   exact ⟨ρ,rfl,e2⟩
  .obtain ⟨ρ2,q1,q2⟩:=yEG I E step fuel m' ρ' h (by omega) e4
   rw [e1,yw,if_pos rfl,e2,yw]
   exact ⟨ρ2,q1,q2⟩
theorem yJA {c:XT}{s:XS}{β:Type}{P:Option β->Prop}{k:Out->AH->Option β}{ρ:PSt}{h:AH}{fuel:Nat}(I:Nat->PSt->AH->Prop) (E:PSt->AH->Prop) (m:Nat) (hm:m<fuel) (h0:I m ρ h)
  (step:∀ m ρ h,I m ρ h->(c ρ h=some (false,h)/\E ρ h)\/∃ ρ' m',c ρ h=some (true,h)/\s ρ h=some (.nx ρ',h)/\m'<m/\I m' ρ' h)
  (fin:∀ ρ',E ρ' h->P (k (.nx ρ') h)):P (ob (ytj fuel c s ρ h) k):=by
 obtain ⟨ρ',e,q⟩:=yEG I E step fuel m ρ h hm h0
 rw [show ytj fuel c s ρ h=_ from e,yw]
 exact fin ρ' q
structure Pl (ts:List T) (w d:Nat):Prop where
 w:wL ts<=w
 d:ycS ts<=d
 ok:okL ts
theorem pl1 {t:T}(h1:wT t=1) (h2:ypU t=0) (h3:okT t):Pl [t] 4 0:=⟨by show wT t+0<=4;omega,by show max (ypU t) 0<=0;omega,h3,trivial⟩
theorem yCZ (m c:Int):∃ ts,Pl ts 4 0/\ygl [.int m,.int c] h=some (.lst (ybQ ts),h):=by
 unfold ygl
 rw [yD]
 show ∃ ts,Pl ts 4 0/\ob (yu _ _ [.val (.int m),.val (.int c),.no,.no,.no,.no,.no,.no,.no,.no,.no] h) fnK=_
 obtain ⟨L,z,e1,e2,e3,e4,e5,e6,e7⟩:=yyb (h:=h) m
 have ix:∀ k:Int,∃ n,atI z.cps.toList (k%L)=some n/\okS ⟨#[n]⟩:=fun k=>by
  obtain ⟨x,hx,hm⟩:=yya z.cps.toList (k%L) L e6 (yfz k e4).1 (yfz k e4).2
  exact ⟨x,hx,e7 x hm⟩
 have hz:z.length<=100000:=by omega
 have hL:0<L/\L<1073741824:=by omega
 obtain ⟨n1,i1,o1⟩:=ix (m/33)
 obtain ⟨n2,i2,o2⟩:=ix (m/33/L)
 obtain ⟨n3,i3,o3⟩:=ix (m/33/L/L)
 have m5:=yfz (m/33/1000) (show (0:Int)<5 by decide)
 have m3:=yfz (m/33/1000) (show (0:Int)<3 by decide)
 obtain ⟨x5,a5,j5⟩:=yya (WDS.map PV.str) (m/33/1000%5) 5 rfl m5.1 m5.2
 obtain ⟨w5',hw5,rfl⟩:=List.mem_map.mp j5
 obtain ⟨x3,a3,j3⟩:=yya ((["plus","minus","times"]:List Str).map PV.str) (m/33/1000%3) 3 rfl m3.1 m3.2
 obtain ⟨w3',hw3,rfl⟩:=List.mem_map.mp j3
 have hw3:okW w3':=by
  simp only [List.mem_cons,List.not_mem_nil,or_false] at hw3
  rcases hw3 with rfl|rfl|rfl<;>simp [okW,WDS]
 have a5:atI [PV.str "plus",PV.str "minus",PV.str "times",PV.str "less",PV.str "same"] (m/33/1000%5)=some (.str w5'):=a5
 have a3:atI [PV.str "plus",PV.str "minus",PV.str "times"] (m/33/1000%3)=some (.str w3'):=a3
 have sm4:N64 (m/33/1000%4):=by have:=yfz (m/33/1000) (show (0:Int)<4 by decide);exact ⟨this.1,by omega⟩
 have sm3:N64 (m/33/3000%3):=by have:=yfz (m/33/3000) (show (0:Int)<3 by decide);exact ⟨this.1,by omega⟩
 (try walk_at "px")
 rw [e1]
 (try walk_at "px")
 rw [e2]
 (try walk_at "px")
 rw [if_pos hz]
 (try walk_at "px")
 rw [e3]
 (try simp only [e4,hL,and_self,if_true])
 rw [i1,i2,i3]
 simp only [Option.bind_some,hz,if_true,yw,yvO,a5,a3]
 (try walk_at "px")
 simp only [sgn]
 generalize (⟨#[n1]⟩:Str)=s1 at *
 generalize (⟨#[n2]⟩:Str)=s2 at *
 generalize (⟨#[n3]⟩:Str)=s3 at *
 split
 .exact ⟨[.let_ s1 (yvN c)],pl1 rfl rfl ⟨o1,yAI c⟩,rfl⟩
 split
 .exact ⟨[.let_ s1 _],pl1 rfl rfl ⟨o1,sm4⟩,rfl⟩
 split
 .exact ⟨[.reckon w5' s1 s2 s3],pl1 rfl rfl ⟨hw5,o1,o2,o3⟩,rfl⟩
 split
 .exact ⟨[.take s1 s2],pl1 rfl rfl ⟨o1,o2⟩,rfl⟩
 split
 .exact ⟨[.put s1 s2],pl1 rfl rfl ⟨o1,o2⟩,rfl⟩
 .exact ⟨[.let_ s1 _,.take s2 s1,.reckon w3' s2 s2 s3,.put s1 s2],⟨by show 1+(1+(1+(1+0)))<=4;omega,by show max 0 (max 0 (max 0 (max 0 0)))<=0;omega,⟨o1,sm3⟩,⟨o2,o1⟩,⟨hw3,o2,o2,o3⟩,⟨o1,o2⟩,trivial⟩,rfl⟩
theorem yDa (c:Int):∃ bx:List Int,1<=bx.length/\bx.length<=16/\(∀ v∈bx,N64 v)/\ygn [.int c] h=some (.lst (bx.map .int),h):=by
 unfold ygn
 rw [yD]
 show ∃ bx:List Int,1<=bx.length/\bx.length<=16/\(∀ v∈bx,N64 v)/\ob (yu _ _ [.val (.int c),.no,.no,.no,.no,.no] h) fnK=_
 walk_at "px"
 rw [yon]
 walk_at "px"
 generalize yHj c=m
 have b16:=yfz (m/4) (show (0:Int)<16 by decide)
 obtain ⟨n,en,n1,n16⟩:∃ n:Nat,atI [PV.int 1,.int 2,.int 3,.int (1+m/4%16)] (m%4)=some (.int n)/\1<=n/\n<=16:=by
  have b4:m%4=0\/m%4=1\/m%4=2\/m%4=3:=by omega
  rcases b4 with e|e|e|e<;>rw [e]
  .exact ⟨1,yIL,by omega,by omega⟩
  .exact ⟨2,yIM,by omega,by omega⟩
  .exact ⟨3,yLv,by omega,by omega⟩
  .exact ⟨(1+m/4%16).toNat,by rw [yMn];congr 2;omega,by omega,by omega⟩
 rw [en,Option.bind_some,yw]
 rw [ylH (j:=(n:Int)) (h1:=h) (by walk_at "px") (by omega) (by omega),yw]
 refine yro (P:=fun (q:Option (PV×AH))=>∃ bx:List Int,1<=bx.length/\bx.length<=16/\(∀ v∈bx,N64 v)/\q=some (.lst (bx.map .int),h)) (fun i ρ h1=>h1=h/\∃ bx:List Int,bx.length=i/\(∀ v∈bx,N64 v)/\∃ c4 c5:PVar,ρ=[.val (.int c),.val (.int m),.val (.int n),.own (.lst (bx.map .int)),c4,c5]) (fun _ _=>False) ⟨rfl,[],rfl,by simp,.no,.no,rfl⟩ ?_ ?_ (fun _ _ z=>z.elim)
 .rintro i x ρ h1 hx ⟨rfl,bx,hb,hN,c4,c5,rfl⟩
  obtain ⟨hi,rfl⟩:=yjK hx
  rw [Int.zero_add]
  have hi:i<n:=by simpa using hi
  have m5:=yfz (m/64/((i:Int)+1)) (show (0:Int)<5 by decide)
  obtain ⟨v,ev,hv⟩:∃ v:Int,atI [PV.int (m/64/((i:Int)+1)%5),.int (yvN (c+(i:Int)*i))] ((m/1000+i)%2)=some (.int v)/\N64 v:=by
   have b2:(m/1000+i)%2=0\/(m/1000+i)%2=1:=by omega
   rcases b2 with e|e<;>rw [e]
   .exact ⟨_,yIL,m5.1,by omega⟩
   .exact ⟨_,yIM,yAI _⟩
  refine ⟨_,.nx [.val (.int c),.val (.int m),.val (.int n),.own (.lst ((bx++[v]).map .int)),.val (.int i),.val (.lst [.int (m/64/((i:Int)+1)%5),.int (yvN (c+(i:Int)*i))])],h1,rfl,?_,rfl,bx++[v],by simp [hb],fun u hu=>?_,_,_,rfl⟩
  .walk_at "px"
   rw [if_pos (by omega),if_pos (show MulOk i i from .inl ⟨by omega,by omega⟩),yvO,yw,yjA (xs:=bx.map .int) rfl]
   walk_at "px"
   rw [ev,Option.bind_some,yw,if_pos (by rw [List.length_map];omega),List.map_append]
   rfl
  .rcases List.mem_append.mp hu with hu|hu
   .exact hN u hu
   .rw [List.mem_singleton.mp hu];exact hv
 .rintro ρ' h' ⟨rfl,bx,hb,hN,c4,c5,rfl⟩
  walk_at "px"
  have hb:bx.length=n:=by rw [hb];simp [yxC]
  exact ⟨bx,by omega,by omega,hN,rfl⟩
theorem yDb (c:Int):∃ hs:List Int,hs.length=8/\(∀ v∈hs,N64 v)/\ygo [.int c] h=some (.loc h.length,h++[.lst (hs.map .int)]):=by
 unfold ygo
 rw [yD]
 show ∃ hs:List Int,hs.length=8/\(∀ v∈hs,N64 v)/\ob (yu _ _ [.val (.int c),.no,.no] h) fnK=_
 walk_at "px"
 rw [yon]
 walk_at "px"
 generalize yHj c=m
 rw [ylH (j:=8) (h1:=h) (by walk_at "px") (by omega) (by omega),yw]
 have e8:yxC 0 (8:Int).toNat=([0,1,2,3,4,5,6,7]:List Int).map .int:=rfl
 rw [e8,if_pos (by decide),yvp (fun k:Int=>PV.int k) (fun k:Int=>.int (m/(k*k+3)%4)) fun k hk=>?_]
 .have m8:=yfz m (show (0:Int)<8 by decide)
  obtain ⟨i,hi⟩:=Int.eq_ofNat_of_zero_le m8.1
  have hN:∀ v∈([0,1,2,3,4,5,6,7]:List Int).map (fun k=>m/(k*k+3)%4),N64 v:=fun v hv=>by
   obtain ⟨k,_,rfl⟩:=List.mem_map.mp hv
   have:=yfz (m/(k*k+3)) (show (0:Int)<4 by decide)
   exact ⟨this.1,by omega⟩
  refine ⟨(([0,1,2,3,4,5,6,7]:List Int).map (fun k=>m/(k*k+3)%4)).set i (yvN c),by simp,yAo hN (yAI c),?_⟩
  rw [show ([0,1,2,3,4,5,6,7]:List Int).map (fun k:Int=>PV.int (m/(k*k+3)%4))=(([0,1,2,3,4,5,6,7]:List Int).map (fun k=>m/(k*k+3)%4)).map .int by rw [List.map_map];rfl]
  generalize hl:([0,1,2,3,4,5,6,7]:List Int).map (fun k=>m/(k*k+3)%4)=hs0
  have h8:hs0.length=8:=by rw [<- hl];rfl
  walk_at "px"
  rw [yjb (n:=h.length) (xs:=hs0) (i:=i) (v:=yvN c) (by
   walk_at "px"
   rw [yvO]) rfl (by
   walk_at "px"
   rw [hi]) (by simp) (by omega),yw,yxH]
  walk_at "px"
  simp
 .show xOp _ _ _ [.val (.int k),.val (.int m)] h=_
  simp only [List.mem_cons,List.not_mem_nil,or_false] at hk
  rcases hk with rfl|rfl|rfl|rfl|rfl|rfl|rfl|rfl<;>(walk_at "px";rfl)
theorem yAJ (k:Int):∃ n,atI ("abc":Str).cps.toList (k%3)=some n/\okS ⟨#[n]⟩:=by
 obtain ⟨x,hx,hm⟩:=yya ("abc":Str).cps.toList (k%3) 3 (by rfl') (yfz k (by decide)).1 (yfz k (by decide)).2
 exact ⟨x,hx,(show ∀ n∈("abc":Str).cps.toList,(⟨#[n]⟩:Str)∈SL by rfl') x hm⟩
theorem yJX:("abc":Str).length=3:=by rfl'
theorem ysb (cs:List Int) (lo hi:Option Int):ysD (cs.map PV.int) lo hi=(ysD cs lo hi).map .int:=by
 unfold ysD
 rw [List.length_map,List.map_take,List.map_drop]
theorem yvP (cs:List Int) (i j:Nat) (hij:i<=j):(ysD cs (some (i:Int)) (some (j:Int))).length=min j cs.length-min i cs.length:=by
 unfold ysD
 rw [HT.sIx_nat,HT.sIx_nat,List.length_take,List.length_drop]
 omega
theorem yAK {s:Str}{u:T}(hs:okS s) (h1:wT u=1) (h2:ypU u=0) (h3:okT u):(wL [u]<=2/\ycS [u]<=1/\okL [u])/\wL [.if_ s [u] []]<=2/\ycS [.if_ s [u] []]<=1/\okL [.if_ s [u] []] :=
 ⟨⟨by show wT u+0<=2;omega,by show max (ypU u) 0<=1;omega,h3,trivial⟩,by show 1+(wT u+0)+0+0<=2;omega,by show max (1+max (max (ypU u) 0) 0) 0<=1;omega,⟨hs,⟨h3,trivial⟩,trivial⟩,trivial⟩
end
section
variable {h:AH}
theorem ysc (a b d:Str) (k:Int):∃ s:Str,atI [PV.str a,PV.str b,PV.str d] (k%3)=some (.str s):=by
 obtain ⟨x,hx,hm⟩:=yya [PV.str a,PV.str b,PV.str d] (k%3) 3 rfl (yfz k (by decide)).1 (yfz k (by decide)).2
 simp only [List.mem_cons,List.not_mem_nil,or_false] at hm
 rcases hm with rfl|rfl|rfl<;>exact ⟨_,hx⟩
theorem yDc (m:Int) (one other:List T) (a b d:Str) (ho:wL one<=1000) (io:okL one) (ir:okL other):∃ t,wT t<=4+wL one+wL other/\ypU t<=1+max (max (ycS one) 1) (ycS other)/\okT t /\
  ygm [.int m,.lst (ybQ one),.lst (ybQ other),.lst [.str a,.str b,.str d]] h=some (yph t,h):=by
 unfold ygm
 rw [yD]
 show ∃ t,_/\_/\_/\ob (yu _ _ [.val (.int m),.val (.lst (ybQ one)),.val (.lst (ybQ other)),.val (.lst [.str a,.str b,.str d]),.no,.no,.no,.no] h) fnK=_
 obtain ⟨n1,i1,o1⟩:=yAJ (m/9)
 obtain ⟨n2,i2,o2⟩:=yAJ (m/243)
 obtain ⟨s3,i3⟩:=ysc a b d (m/27)
 obtain ⟨s4,i4⟩:=ysc a b d (m/81)
 have l1:=yxZ one
 have q1:(ybQ one).length<=99999:=by rw [ypi];omega
 have b3:m%3=0\/m%3=1\/m%3=2:=by omega
 have c3:m/3%3=0\/m/3%3=1\/m/3%3=2:=by omega
 have nil:wL []<=2/\ycS []<=1/\okL []:=⟨by decide,by decide,trivial⟩
 rcases b3 with e|e|e
 .simp_all? only [i1,e,yJX,sgn,Option.bind_some,↓reduceIte]
  exact ⟨.if_ ⟨#[n1]⟩ one other,by show 1+wL one+wL other<=_;omega,by show 1+max (ycS one) (ycS other)<=_;omega,⟨o1,io,ir⟩,rfl⟩
 .have fin:∀ b1:List T,wL b1<=2/\ycS b1<=1/\okL b1->∃ t,wT t<=4+wL one+wL other/\ypU t<=1+max (max (ycS one) 1) (ycS other)/\okT t/\yph t=.tup [.str "either",.lst (ybQ (one++b1)),.lst (ybQ other)]:=by
   rintro b1 ⟨w1,d1,k1⟩
   refine ⟨.either (one++b1) other,?_,?_,⟨trivial,ymP io k1,ir⟩,rfl⟩
   .show 1+wL (one++b1)+wL other<=_
    rw [yqQ];omega
   .show 1+max (ycS (one++b1)) (ycS other)<=_
    rw [ykz];omega
  obtain ⟨u,v⟩:=yAK (u:=.wait) o1 rfl rfl trivial
  rcases c3 with f|f|f<;>simp_all? only [i1,e,f,q1,yJX,sgn,Option.bind_some,Int.reduceEq,if_true,if_false,↓reduceIte]
  .obtain ⟨t,t1,t2,t3,t4⟩:=fin [] nil
   exact ⟨t,t1,t2,t3,by rw [t4];simp only [List.append_nil]⟩
  .obtain ⟨t,t1,t2,t3,t4⟩:=fin _ u
   exact ⟨t,t1,t2,t3,by rw [t4];simp only [yhp];rfl⟩
  .obtain ⟨t,t1,t2,t3,t4⟩:=fin _ v
   exact ⟨t,t1,t2,t3,by rw [t4];simp only [yhp];rfl⟩
 .have fin:∀ b1:List T,wL b1<=2/\ycS b1<=1/\okL b1->∃ t,wT t<=4+wL one+wL other/\ypU t<=1+max (max (ycS one) 1) (ycS other)/\okT t/\yph t=.tup [.str "try",.lst (ybQ (one++b1)),.str s4,.str ⟨#[n2]⟩,.lst (ybQ other)]:=by
   rintro b1 ⟨w1,d1,k1⟩
   refine ⟨.try_ (one++b1) s4 ⟨#[n2]⟩ other,?_,?_,⟨trivial,o2,ymP io k1,ir⟩,rfl⟩
   .show 1+wL (one++b1)+wL other<=_
    rw [yqQ];omega
   .show 1+max (ycS (one++b1)) (ycS other)<=_
    rw [ykz];omega
  obtain ⟨u,v⟩:=yAK (u:=.throw s3 ⟨#[n1]⟩) o1 rfl rfl ⟨trivial,o1⟩
  rcases c3 with f|f|f<;>simp_all? only [i1,i2,i3,i4,e,f,q1,yJX,sgn,Option.bind_some,Int.reduceEq,if_true,if_false,↓reduceIte]
  .obtain ⟨t,t1,t2,t3,t4⟩:=fin [] nil
   exact ⟨t,t1,t2,t3,by rw [t4];simp only [List.append_nil]⟩
  .obtain ⟨t,t1,t2,t3,t4⟩:=fin _ u
   exact ⟨t,t1,t2,t3,by rw [t4];simp only [yhp];rfl⟩
  .obtain ⟨t,t1,t2,t3,t4⟩:=fin _ v
   exact ⟨t,t1,t2,t3,by rw [t4];simp only [yhp];rfl⟩
theorem yEH {e:XE}{c0 c1 c2:PVar}{xs:List PV}{ρ:PSt}:yiM 3 e (c0::c1::c2::.own (.lst xs)::ρ) h=ob (e (c0::c1::c2::.own (.lst xs)::ρ) h) fun x h1=>if xs.length<100000 then some (.nx (c0::c1::c2::.own (.lst (xs++[x]))::ρ),h1) else none:=by rw [yjA rfl];rfl
theorem yMw {k n w p:Nat}(h1:w<=4*min k n) (h2:p<=4) (h3:k<n):w+p<=4*min (k+1) n:=by omega
theorem yMQ {k n u v w p a b l1 l2:Nat}(h1:w<=4*min k n) (h3:k<n) (e1:l1=min (k+1+u) n-min (k+1) n) (e2:l2=min (k+1+u+v) n-min (k+1+u) n) (ha:a<=4*l1) (hb:b<=4*l2) (hp:p<=4+a+b):w+(p+0)<=4*min (k+1+u+v) n:=by
 subst e1 e2
 have:min (k+1) n=k+1:=by omega
 have:min k n=k:=by omega
 omega
theorem yMR {k n u v:Nat}(hn:n<=12):min (k+1+u) n-min (k+1) n<=12/\min (k+1+u+v) n-min (k+1+u) n<=12:=by omega
theorem yMS {d e f g m:Nat}(h1:d<=m+2) (h2:e<=m+1) (h3:f<=m+1) (h4:g<=1+max (max e 1) f):max d (max g 0)<=m+2:=by omega
theorem yMT {k n m u v:Nat}(hm:m=n-k) (hk:k<n):n-(k+1+u+v)<m:=by omega
theorem yMx {k n m:Nat}(hm:m=n-k) (hk:k<n):n-(k+1)<m:=by omega
theorem yAL (a b c:Str):∀ (n d:Nat) (h:AH) (cells:List Int),d+1<=n->cells.length<=12->∃ ts,Pl ts (4*cells.length) (d+1)/\ydK n [.lst (cells.map .int),.int (d:Int),.lst [.str a,.str b,.str c]] h=some (.lst (ybQ ts),h)
 | 0,_,_,_,hn,_=>by omega
 | n+1,d,h,cells,hn,hl=>by
  have G:=yAL a b c n
  unfold ydK
  rw [yD]
  show ∃ ts,Pl ts (4*cells.length) (d+1)/\ob (yu _ _ [.val (.lst (cells.map .int)),.val (.int (d:Int)),.val (.lst [.str a,.str b,.str c]),.no,.no,.no,.no,.no,.no,.no,.no,.no] h) fnK=_
  walk_at "px"
  refine yJA (fuel:=1000) (P:=fun (q:Option (PV×AH))=>∃ ts,Pl ts (4*cells.length) (d+1)/\q=some (.lst (ybQ ts),h)) (fun m ρ h1=>h1=h/\∃ (k:Nat) (ts:List T) (c5 c6 c7 c8 c9 c10 c11:PVar),m=cells.length-k/\wL ts<=4*min k cells.length/\ycS ts<=d+1/\okL ts/\ρ=[.val (.lst (cells.map .int)),.val (.int (d:Int)),.val (.lst [.str a,.str b,.str c]),.own (.lst (ybQ ts)),.val (.int (k:Int)),c5,c6,c7,c8,c9,c10,c11]) (fun ρ h1=>∃ (k:Nat) (ts:List T) (c5 c6 c7 c8 c9 c10 c11:PVar),wL ts<=4*cells.length/\ycS ts<=d+1/\okL ts/\ρ=[.val (.lst (cells.map .int)),.val (.int (d:Int)),.val (.lst [.str a,.str b,.str c]),.own (.lst (ybQ ts)),.val (.int (k:Int)),c5,c6,c7,c8,c9,c10,c11]) cells.length (by omega) ⟨rfl,0,[],.no,.no,.no,.no,.no,.no,.no,rfl,by show 0<=_;omega,by show 0<=_;omega,trivial,rfl⟩ ?_ ?_
  .rintro m ρ h1 ⟨rfl,k,ts,c5,c6,c7,c8,c9,c10,c11,hm,q1,q2,q3,rfl⟩
   by_cases hk:k<cells.length
   .right
    obtain ⟨cell,hcell⟩:∃ cell,cells[k]?=some cell:=⟨_,List.getElem?_eq_getElem hk⟩
    have r0:atI (cells.map PV.int) (k:Int)=some (.int cell):=yen (by rw [List.getElem?_map,hcell];rfl)
    have wc:=yxZ ts
    have hlen:(ybQ ts).length<50000:=by rw [ypi];omega
    have hc:decide ((k:Int)<((cells.map PV.int).length:Int))=true:=by rw [List.length_map,decide_eq_true (by omega)]
    generalize hx:yHj cell=x
    have e0:ybK [.int cell] h1=some (.int x,h1):=by rw [yon,hx]
    by_cases b1:d=0\/x%11<6
    .obtain ⟨ps,pp,ep⟩:=yCZ (h:=h1) (x/11) cell
     have hpl:=yxZ ps
     have hpw:=pp.w
     have hpd:=pp.d
     refine ⟨[.val (.lst (cells.map .int)),.val (.int (d:Int)),.val (.lst [.str a,.str b,.str c]),.own (.lst (ybQ (ts++ps))),.val (.int ((k+1:Nat):Int)),.val (.int cell),.val (.int x),c7,c8,c9,c10,c11],cells.length-(k+1),?_,?_,yMx hm hk,rfl,k+1,ts++ps,_,_,_,_,_,_,_,rfl,?_,?_,ymP q3 pp.ok,rfl⟩
     .walk_at "px"
      rw [hc]
     .have hle:(ybQ ts).length+(ybQ ps).length<=100000:=by rw [ypi (a:=ps)];omega
      rw [yhp]
      by_cases hd0:(d:Int)=0
      .simp_all? only [r0,e0,ep,hd0,hle,if_true,↓reduceIte]
       rfl
      .have b1':x%11<6:=by rcases b1 with b1|b1;exact absurd (by omega) hd0;exact b1
       simp_all? only [r0,e0,ep,hd0,b1',hle,if_true,if_false,decide_false,decide_true,↓reduceIte]
       rfl
     .rw [yqQ];exact yMw q1 hpw hk
     .rw [ykz];omega
    .have hd0:¬ (d:Int)=0:=fun z=>b1 (.inl (by omega))
     have hb6:¬ x%11<6:=fun z=>b1 (.inr z)
     by_cases b2:x%11=6
     .obtain ⟨s1,i1⟩:=ysc a b c (x/33)
      obtain ⟨n2,i2,o2⟩:=yAJ (x/99)
      obtain ⟨t,ht,ht1,ht2,ht3⟩:∃ t:T,atI [PV.tup [PV.str "wait"],PV.tup [PV.str "throw",PV.str s1,sgn n2]] (x/11%3/2)=some (yph t)/\wT t=1/\ypU t=0/\okT t:=by
       have:x/11%3/2=0\/x/11%3/2=1:=by omega
       rcases this with e|e
       .exact ⟨.wait,by rw [e];exact yIL,rfl,rfl,trivial⟩
       .exact ⟨.throw s1 ⟨#[n2]⟩,by rw [e];exact yIM,rfl,rfl,⟨trivial,o2⟩⟩
      refine ⟨[.val (.lst (cells.map .int)),.val (.int (d:Int)),.val (.lst [.str a,.str b,.str c]),.own (.lst (ybQ (ts++[t]))),.val (.int ((k+1:Nat):Int)),.val (.int cell),.val (.int x),.val (.lst [.tup [.str "wait"],.tup [.str "throw",.str s1,sgn n2]]),c8,c9,c10,c11],cells.length-(k+1),?_,?_,yMx hm hk,rfl,k+1,ts++[t],_,_,_,_,_,_,_,rfl,?_,?_,ymP q3 ⟨ht3,trivial⟩,rfl⟩
      .walk_at "px"
       rw [hc]
      .have hlen':(ybQ ts).length<100000:=by omega
       rw [yhp]
       simp_all? only [yEH,r0,e0,hd0,hb6,b2,i1,i2,ht,yJX,hlen',Option.bind_some,if_true,if_false,decide_false,decide_true,↓reduceIte]
       rfl
      .rw [yqQ]
       exact yMw q1 (by show wT t+0<=4;omega) hk
      .rw [ykz]
       show max (ycS ts) (max (ypU t) 0)<=_
       omega
     .obtain ⟨d',rfl⟩:∃ d',d=d'+1:=⟨d-1,by omega⟩
      obtain ⟨u,hu⟩:∃ u:Nat,x/11%4=(u:Int):=⟨(x/11%4).toNat,by omega⟩
      obtain ⟨v,hv⟩:∃ v:Nat,x/44%3=(v:Int):=⟨(x/44%3).toNat,by omega⟩
      have l1:=yvP cells (k+1) (k+1+u) (by omega)
      have l2:=yvP cells (k+1+u) (k+1+u+v) (by omega)
      have g3:=yMR (k:=k) (u:=u) (v:=v) hl
      rw [<- l1,<- l2] at g3
      have hn':d'+1<=n:=Nat.le_of_succ_le_succ hn
      obtain ⟨one,p1,g1⟩:=G d' h1 (ysD cells (some ((k+1:Nat):Int)) (some ((k+1+u:Nat):Int))) hn' g3.1
      obtain ⟨oth,p2,g2⟩:=G d' h1 (ysD cells (some ((k+1+u:Nat):Int)) (some ((k+1+u+v:Nat):Int))) hn' g3.2
      have w1:=p1.w
      have w2:=p2.w
      obtain ⟨t,t1,t2,t3,t4⟩:=yDc (h:=h1) (x/132) one oth a b c (Nat.le_trans w1 (Nat.le_trans (Nat.mul_le_mul_left 4 g3.1) (by decide))) p1.ok p2.ok
      have dd1:=p1.d
      have dd2:=p2.d
      refine ⟨[.val (.lst (cells.map .int)),.val (.int ((d'+1:Nat):Int)),.val (.lst [.str a,.str b,.str c]),.own (.lst (ybQ (ts++[t]))),.val (.int ((k+1+u+v:Nat):Int)),.val (.int cell),.val (.int x),c7,.val (.int (u:Int)),.val (.int (v:Int)),.val (.lst (ybQ one)),.val (.lst (ybQ oth))],cells.length-(k+1+u+v),?_,?_,yMT hm hk,rfl,k+1+u+v,ts++[t],_,_,_,_,_,_,_,rfl,?_,?_,ymP q3 ⟨t3,trivial⟩,rfl⟩
      .walk_at "px"
       rw [hc]
      .have hlen':(ybQ ts).length<100000:=by omega
       have z1:((d'+1:Nat):Int)-1=(d':Int):=by omega
       have z2:((k+1+u:Nat):Int)+(v:Int)=((k+1+u+v:Nat):Int):=by omega
       have z3:((k+1:Nat):Int)+(u:Int)=((k+1+u:Nat):Int):=by omega
       have z4:(k:Int)+1=((k+1:Nat):Int):=by omega
       rw [yhp]
       simp_all? only [yEH,r0,e0,hd0,hb6,b2,hu,hv,z1,z4,z3,z2,ysb,g1,g2,t4,hlen',Option.bind_some,if_true,if_false,decide_false,decide_true,↓reduceIte]
       rfl
      .rw [yqQ]
       exact yMQ q1 hk l1 l2 w1 w2 t1
      .rw [ykz]
       exact yMS q2 dd1 dd2 t2
   .left
    refine ⟨?_,k,ts,c5,c6,c7,c8,c9,c10,c11,by omega,q2,q3,rfl⟩
    walk_at "px"
    rw [List.length_map,decide_eq_false (by omega)]
  .rintro ρ' ⟨k,ts,c5,c6,c7,c8,c9,c10,c11,q1,q2,q3,rfl⟩
   refine ⟨ts,⟨q1,q2,q3⟩,?_⟩
   walk_at "px"
end
theorem yvQ {g:XG}{x:PV}{ρ ρ1:PSt}{s:XS}{h:AH}{M:Out->AH->Prop}(e:g x ρ=some ρ1) (q:∃ r,s ρ1 h=some r/\M r.1 r.2):∃ ρ1 o h',g x ρ=some ρ1/\s ρ1 h=some (o,h')/\M o h' :=
 let ⟨r,q1,q2⟩:=q;⟨ρ1,r.1,r.2,e,q1,q2⟩
section
variable {h:AH}
theorem yAM (a b:Str):(a++b).length=a.length+b.length:=by
 show (a.cps++b.cps).size=_
 simp [Str.length]
theorem yLL (k:Int):∃ n,atI ("abcdefghijklmnopqrstuvwxyz":Str).cps.toList (k%26)=some n:=by
 obtain ⟨x,hx,_⟩:=yya ("abcdefghijklmnopqrstuvwxyz":Str).cps.toList (k%26) 26 (by rfl') (yfz k (by decide)).1 (yfz k (by decide)).2
 exact ⟨x,hx⟩
theorem yGW {g:XG}{s:XS}{xs:List PV}(I:Nat->PSt->AH->Prop) {ρ:PSt}{h:AH}{f:Out->AH->Option (Out×AH)}{M:Out×AH->Prop}(h0:I 0 ρ h)
  (step:∀ (i:Nat) (x:PV) (ρ:PSt) (h:AH),xs[i]?=some x->I i ρ h->∃ ρ1 o h',g x ρ=some ρ1/\s ρ1 h=some (o,h')/\(match o with|.nx ρ'=>I (i+1) ρ' h'|.ct ρ'=>I (i+1) ρ' h'|.bk _=>False|.rt _=>False))
  (fin:∀ ρ' h',I xs.length ρ' h'->∃ r,f (.nx ρ') h'=some r/\M r):∃ r,ob (yoz g s xs ρ h) f=some r/\M r :=
 yro (P:=fun q=>∃ r,q=some r/\M r) I (fun _ _=>False) h0 step fin (fun _ _ z=>z.elim)
theorem yDd (c:Int):∃ a b d:Str,ygk [.int c] h=some (.lst [.str a,.str b,.str d],h):=by
 unfold ygk
 rw [yD]
 show ∃ a b d:Str,ob (yu _ _ [.val (.int c),.no,.no,.no,.no,.no,.no,.no,.no,.no] h) fnK=_
 have b:=yfz (yHj c) (show (0:Int)<8 by decide)
 walk_at "px"
 simp only [yon]
 walk_at "px"
 generalize hm:yHj c=m at *
 rw [if_pos (by omega)]
 generalize hz:1+m%8=sz at *
 rw [ylH (j:=3) (h1:=h) (by walk_at "px") (by omega) (by omega),yw]
 refine yro (P:=fun (q:Option (PV×AH))=>∃ a b d:Str,q=some (.lst [.str a,.str b,.str d],h)) (fun i ρ h1=>h1=h/\∃ zs:List Str,zs.length=i/\∃ c6 c7 c8 c9:PVar,ρ=[.val (.int c),.val (.str "abcdefghijklmnopqrstuvwxyz"),.val (.int m),.val (.int sz),.val (.int (m/8%sz)),.own (.lst (zs.map .str)),c6,c7,c8,c9]) (fun _ _=>False) ⟨rfl,[],rfl,.no,.no,.no,.no,rfl⟩ ?_ ?_ (fun _ _ q=>q.elim)
 .rintro t x ρ h1 hx ⟨rfl,zs,hzs,c6,c7,c8,c9,rfl⟩
  obtain ⟨ht,rfl⟩:=yjK hx
  have ht:t<3:=by simpa using ht
  rw [Int.zero_add]
  refine yvQ rfl ?_
  walk_at "px"
  rw [ylH (j:=sz) (h1:=h1) (by walk_at "px") (by omega) (by omega),yw]
  refine yGW (fun i ρ h2=>h2=h1/\∃ z:Str,z.length<=i/\∃ d8 d9:PVar,ρ=[.val (.int c),.val (.str "abcdefghijklmnopqrstuvwxyz"),.val (.int m),.val (.int sz),.val (.int (m/8%sz)),.own (.lst (zs.map .str)),.val (.int t),.val (.str z),d8,d9]) ⟨rfl,"",by rfl',c8,c9,rfl⟩ ?_ ?_
  .rintro i x ρ h2 hx ⟨rfl,z,hz2,d8,d9,rfl⟩
   obtain ⟨hi,rfl⟩:=yjK hx
   rw [Int.zero_add]
   have hmu:MulOk (i:Int) (i:Int):=.inl ⟨by omega,by omega⟩
   have hp:0<(i:Int)*i+1:=by have:=Int.mul_nonneg (show (0:Int)<=i by omega) (show (0:Int)<=i by omega);omega
   have hq:(i:Int)*i<=7*7:=Int.mul_le_mul (by omega) (by omega) (by omega) (by omega)
   refine yvQ rfl ?_
   walk_at "px"
   rw [if_pos hmu,if_pos ⟨hp,by omega⟩]
   have go:∀ k:Int,∃ n,atI ("abcdefghijklmnopqrstuvwxyz":Str).cps.toList (k%26)=some n/\(z++(⟨#[n]⟩:Str)).length<=i+1:=fun k=>by
    obtain ⟨n,hn⟩:=yLL k
    exact ⟨n,hn,by rw [yAM];show z.length+1<=i+1;omega⟩
   split
   all_goals
    obtain ⟨n,hn,hl⟩:=go _
    rw [hn,Option.bind_some]
    simp only [yw,yDL,sgn]
    rw [if_pos (by rw [yAM] at hl;show z.length+1<=100000;omega)]
    exact ⟨_,rfl,rfl,_,hl,_,_,rfl⟩
  .rintro ρ' h' ⟨rfl,z,hz2,d8,d9,rfl⟩
   walk_at "px"
   rw [yjA (xs:=zs.map .str) rfl]
   walk_at "px"
   rw [if_pos (by rw [List.length_map];omega)]
   exact ⟨_,rfl,rfl,zs++[z],by simp [hzs],_,_,_,_,by rw [List.map_append];rfl⟩
 .rintro ρ' h' ⟨rfl,zs,hzs,c6,c7,c8,c9,rfl⟩
  walk_at "px"
  match zs,hzs with
  | [a,b,d],_=>exact ⟨a,b,d,rfl⟩
end
section
variable {h:AH}
theorem yJB {z:Str}:ycw yM [.str z,.ty "int"] h=some (.bl false,h):=rfl
theorem yJC {z:Str}:ycw yM [.str z,.ty "str"] h=some (.bl true,h):=rfl
theorem yLM {n:Nat}{xs:List PV}(e:h[n]?=some (.lst xs)):ycw yM [.loc n,.ty "int"] h=some (.bl false,h):=by
 unfold ycw yxG ydA
 simp only [e]
 rfl
theorem yLN {n:Nat}{xs:List PV}(e:h[n]?=some (.lst xs)):ycw yM [.loc n,.ty "str"] h=some (.bl false,h):=by
 unfold ycw yxG ydA
 simp only [e]
 rfl
theorem yLO {n:Nat}{xs:List PV}(e:h[n]?=some (.lst xs)):ycw yM [.loc n,.ty "tuple"] h=some (.bl false,h):=by
 unfold ycw yxG ydA
 simp only [e]
 rfl
local macro_rules | `(tactic| walk_at "pt")=>`(tactic| simp_all? only [yLB,yLC,yLD,yLE,yLF,yLG,yLH,yGO,yJB,yJC,ne_eq,not_true_eq_false])
theorem ysd {n:Nat}{z:Str}:yx (n+1) [.str z,.str z] h=some (.bl true,h):=by
 unfold yx
 rw [yD]
 show ob (yu _ _ [.val (.str z),.val (.str z),.no] h) fnK=_
 walk_at "pt"
theorem yoo {n:Nat}{xs ys:List PV}(hl:xs.length=ys.length) (hs:ys.length<=1000) (k:∀ (i:Nat) (x y:PV),xs[i]?=some x->ys[i]?=some y->yx n [x,y] h=some (.bl true,h)):yx (n+1) [.tup xs,.tup ys] h=some (.bl true,h):=by
 unfold yx
 rw [yD]
 show ob (yu _ _ [.val (.tup xs),.val (.tup ys),.no] h) fnK=_
 walk_at "pt"
 rw [hl]
 walk_at "pt"
 rw [ylH (j:=(ys.length:Int)) (h1:=h) (by walk_at "pt") (by omega) (by omega),yw]
 refine yiz (fun i ρ h1=>h1=h/\∃ c,ρ=[.val (.tup xs),.val (.tup ys),c]) ⟨rfl,.no,rfl⟩ ?_ ?_
 .rintro i x ρ h1 hx ⟨rfl,c,rfl⟩
  obtain ⟨hi,rfl⟩:=yjK hx
  rw [Int.zero_add]
  have hi:i<ys.length:=by omega
  refine ⟨_,[.val (.tup xs),.val (.tup ys),.val (.int i)],h1,rfl,.inl ?_,rfl,_,rfl⟩
  walk_at "pt"
  rw [yen (List.getElem?_eq_getElem (show i<xs.length by omega)),yen (List.getElem?_eq_getElem hi)]
  walk_at "pt"
  rw [k i _ _ (List.getElem?_eq_getElem (show i<xs.length by omega)) (List.getElem?_eq_getElem hi)]
  walk_at "pt"
 .rintro ρ' h' ⟨rfl,c,rfl⟩
  walk_at "pt"
theorem yDe {n f g:Nat}{xs:List Int}(e1:h[f]?=some (.lst (xs.map .int))) (e2:h[g]?=some (.lst (xs.map .int))) (hs:xs.length<=1000):yx (n+2) [.loc f,.loc g] h=some (.bl true,h):=by
 unfold yx
 rw [yD]
 show ob (yu _ _ [.val (.loc f),.val (.loc g),.no] h) fnK=_
 walk_at "pt"
 rw [yLM e2]
 walk_at "pt"
 rw [yLN e2]
 walk_at "pt"
 rw [yLO e2]
 walk_at "pt"
 rw [yLI e1]
 walk_at "pt"
 rw [ymC e1]
 walk_at "pt"
 rw [ymC e2]
 walk_at "pt"
 rw [ylH (j:=(xs.length:Int)) (h1:=h) (by walk_at "pt";rw [ymC e2,List.length_map];walk_at "pt") (by omega) (by omega),yw]
 refine yiz (fun i ρ h1=>h1=h/\∃ c,ρ=[.val (.loc f),.val (.loc g),c]) ⟨rfl,.no,rfl⟩ ?_ ?_
 .rintro i x ρ h1 hx ⟨rfl,c,rfl⟩
  obtain ⟨hi,rfl⟩:=yjK hx
  rw [Int.zero_add]
  have hi:i<(xs.map PV.int).length:=by rw [List.length_map];omega
  refine ⟨_,[.val (.loc f),.val (.loc g),.val (.int i)],h1,rfl,.inl ?_,rfl,_,rfl⟩
  walk_at "pt"
  rw [yrN e1 hi,yw,yrN e2 hi,yw,List.getElem_map,yoW]
  walk_at "pt"
 .rintro ρ' h' ⟨rfl,c,rfl⟩
  walk_at "pt"
theorem yJD:Tl []:=⟨by simp,fun x hx=>by simp at hx⟩
theorem yEI (e:En) (τ:AS):Tl (wrE e τ):=by cases e<;>first|exact yol _|exact yJD
theorem yDf {n:Nat}(e:En):yx (n+2) [enV e,enV e] h=some (.bl true,h):=by
 cases e with
 | done =>
  refine yoo rfl (by simp) fun i x y hx hy=>?_
  match i,hx,hy with
  | 0,hx,hy=>cases hx;cases hy;exact ysd
 | waits =>
  refine yoo rfl (by simp) fun i x y hx hy=>?_
  match i,hx,hy with
  | 0,hx,hy=>cases hx;cases hy;exact ysd
 | fell nm v =>
  refine yoo rfl (by simp) fun i x y hx hy=>?_
  match i,hx,hy with
  | 0,hx,hy=>cases hx;cases hy;exact ysd
  | 1,hx,hy=>cases hx;cases hy;exact ysd
  | 2,hx,hy=>cases hx;cases hy;exact yoW
end
section
variable {h:AH}{a c w:Nat}{σ:AS}{bx:List Int}
noncomputable def yxd (h:AH) (c:Nat) (s:Vw):Prop:=∃ sj sv,h[c]?=some (.dct (sj.map .inl) (sv.map PV.int))/\ID sj sv/\∀ j,gI (sj.map .inl,sv.map PV.int) j=s j
theorem LS.seen (L:LS h a c w σ):yxd h c σ.s:=by
 obtain ⟨⟨sj,sv,_,_,e1,_,i1,_,f1,_⟩,_⟩:=L
 exact ⟨sj,sv,e1,i1,f1⟩
theorem LS.re {h':AH}{s:Vw}(L:LS h a c w σ) (F:Frm (·≠c) h h') (S:yxd h' c s):LS h' a c w ⟨σ.hs,σ.v,s⟩:=by
 obtain ⟨⟨sj,sv,wj,wv,e1,e2,i1,i2,f1,f2⟩,hh,⟨n1,n2,n3⟩,h8,nh,nv⟩:=L
 obtain ⟨sj',sv',g1,g2,g3⟩:=S
 exact ⟨⟨sj',sv',wj,wv,g1,F.get (Ne.symm n3) e2,g2,i2,g3,f2⟩,F.get n1 hh,⟨n1,n2,n3⟩,h8,nh,nv⟩
theorem LS.copy (L:LS h a c w σ):∃ d:Nd,ybD [.loc a] h=some (.lst (σ.hs.map .int),h)/\yjL [.loc w] (h++[Nd.lst (σ.hs.map .int)])=some (d,h++[Nd.lst (σ.hs.map .int)])/\LS (h++[Nd.lst (σ.hs.map .int)]++[d]) h.length c (h.length+1) σ:=by
 obtain ⟨⟨sj,sv,wj,wv,e1,e2,i1,i2,f1,f2⟩,hh,⟨n1,n2,n3⟩,h8,nh,nv⟩:=L
 have lc:=yhG e1
 exact ⟨_,yfO hh,yCB (ycZ e2),⟨⟨sj,sv,wj,wv,ycZ (ycZ e1),by simp,i1,i2,f1,f2⟩,by simp,⟨by omega,by omega,by omega⟩,h8,nh,nv⟩⟩
end
section
variable {h:AH}{a c w:Nat}{σ:AS}{bx:List Int}
theorem ypj (e:En):yuE (enV e) (.tup [.str "waits"]) h=some (.bl (match e with|.waits=>false|_=>true),h):=by
 have:=ypb (h:=h) e
 unfold ywL at this
 unfold yuE
 cases q:pairE (eqP 40 h) h (enV e) (.tup [.str "waits"]) with
 | none=>rw [q] at this;cases this
 | some b =>
  rw [q] at this
  cases e<;>cases b<;>first|rfl|cases this
theorem ytS:yuE .non (.tup [.str "waits"]) h=some (.bl true,h):=by
 unfold yuE pairE
 simp [eqP,sv,eqV]
theorem LS.hold {r:Str}{v:Int}(L:LS h a c w σ) (hv:N64 v):LS ((h++[Nd.lst (σ.hs.map .int)]).set h.length (.lst ((σ.hs.set (sx r) v).map .int))) h.length c w (σ.put_ r v)/\Frm (·≠c) h ((h++[Nd.lst (σ.hs.map .int)]).set h.length (.lst ((σ.hs.set (sx r) v).map .int))):=by
 obtain ⟨⟨sj,sv,wj,wv,e1,e2,i1,i2,f1,f2⟩,hh,⟨n1,n2,n3⟩,h8,nh,nv⟩:=L
 have l1:=yhG e1
 have l2:=yhG e2
 refine ⟨⟨⟨sj,sv,wj,wv,yy (by omega) (ycZ e1),yy (by omega) (ycZ e2),i1,i2,f1,f2⟩,set_same (d:=Nd.lst (σ.hs.map .int)) (by simp),⟨by omega,by omega,n3⟩,(List.length_set ..).trans h8,yAo nh hv,nv⟩,by simp,fun n hn _=>?_⟩
 rw [List.getElem?_set_ne (by omega),List.getElem?_append_left hn]
noncomputable def yGX (lo:Nat) (h:AH) (c:Nat) (y:PV):En×AS->Prop
 | (.done,τ)=>∃ a w,y=.tup [.non,.loc a,.loc w]/\LS h a c w τ/\lo<=a
 | (.waits,τ)=>∃ p q,y=.tup [enV .waits,p,q]/\yxd h c τ.s
 | (.fell nm v,τ)=>∃ p q,y=.tup [enV (.fell nm v),p,q]/\yxd h c τ.s/\N64 v
noncomputable def yLP (bx:List Int) (c n:Nat):Prop:=∀ (us:List T) (h:AH) (a w:Nat) (σ:AS) (lo:Nat),2*ycS us+2<=n->okL us->LS h a c w σ->lo<=a->lo<=h.length ->
 ∃ h' y,yeA n [.lst (ybQ us),.lst (bx.map .int),.loc c,.loc a,.loc w] h=some (y,h')/\yGX lo h' c y (evL bx us σ)/\Frm (·≠c) h h'
noncomputable def yMy (bx:List Int) (c n:Nat):Prop:=∀ (u:T) (h:AH) (a w:Nat) (σ:AS) (lo:Nat),2*ypU u+1<=n->okT u->LS h a c w σ->lo<=a->lo<=h.length ->
 ∃ h' y,ycr n [yph u,.lst (bx.map .int),.loc c,.loc a,.loc w] h=some (y,h')/\yGX lo h' c y (evT bx u σ)/\Frm (·≠c) h h'
theorem yLQ {n:Nat}(G:yMy bx c n):yLP bx c (n+1):=by
 intro us h a w σ lo hd hu L lo1 lo2
 have key:∀ (ds:List PV) (us:List T) (h:AH) (a w:Nat) (σ:AS) (c5 c6:PVar),2*ycS us+1<=n->okL us->LS h a c w σ->lo<=a->lo<=h.length->∃ h' y,
   ob (yoz (yC 5) (yu (ydb (ycm (ycr n) (yc (yg 5) (yc (yg 1) (yc (yg 2) (yc (yg 3) (yc (yg 4) (yr))))))) (yFF 3 (ynF (yC 6) (ynF (yC 3) (ynF (yC 4) (yHe)))))) (ycR (yG (xOp (yCc) (yg 6) (xC .non))) (ycu (yiL (yc (yg 6) (yc (yg 3) (yc (yg 4) (yr)))))) (ybB))) (ybQ us) [.val (.lst ds),.val (.lst (bx.map .int)),.val (.loc c),.val (.loc a),.val (.loc w),c5,c6] h)
    (fun o h1=>ob (sqK (ycu (yiL (yc (xC .non) (yc (yg 3) (yc (yg 4) (yr)))))) o h1) fnK)=some (y,h')/\yGX lo h' c y (evL bx us σ)/\Frm (·≠c) h h':=by
  intro ds us
  induction us with
  | nil =>
   intro h a w σ c5 c6 _ _ L lo1 lo2
   exact ⟨h,_,rfl,⟨a,w,rfl,L,lo1⟩,Frm.refl⟩
  | cons u us ih =>
   intro h a w σ c5 c6 hd hu L lo1 lo2
   have hd:2*max (ypU u) (ycS us)+1<=n:=hd
   obtain ⟨h1,y,e1,O,F1⟩:=G u h a w σ lo (by omega) hu.1 L lo1 lo2
   show ∃ h' y,ob (yoz _ _ (yph u::ybQ us) _ h) _=some (y,h')/\yGX lo h' c y (match evT bx u σ with|(.done,τ)=>evL bx us τ|(.waits,τ)=>(.waits,τ)|(.fell nm v,τ)=>(.fell nm v,τ))/\_
   rw [yzp,show yC 5 (yph u) [.val (.lst ds),.val (.lst (bx.map .int)),.val (.loc c),.val (.loc a),.val (.loc w),c5,c6]=some [.val (.lst ds),.val (.lst (bx.map .int)),.val (.loc c),.val (.loc a),.val (.loc w),.val (yph u),c6] from rfl,Option.bind_some]
   walk_at "pk"
   rw [e1,yw]
   generalize evT bx u σ=r at *
   obtain ⟨e,τ⟩:=r
   cases e with
   | done =>
    obtain ⟨a',w',rfl,L1,lo3⟩:=O
    obtain ⟨h2,y2,e2,O2,F2⟩:=ih h1 a' w' τ (.val (yph u)) (.val .non) (by omega) hu.2 L1 lo3 (Nat.le_trans lo2 F1.1)
    refine ⟨h2,y2,?_,O2,F1.trans F2⟩
    exact e2
   | waits =>
    obtain ⟨p,q,rfl,S⟩:=O
    exact ⟨h1,_,rfl,⟨p,q,rfl,S⟩,F1⟩
   | fell nm v =>
    obtain ⟨p,q,rfl,S⟩:=O
    exact ⟨h1,_,rfl,⟨p,q,rfl,S⟩,F1⟩
 obtain ⟨h',y,e,O,F⟩:=key (ybQ us) us h a w σ .no .no (by omega) hu L lo1 lo2
 refine ⟨h',y,?_,O,F⟩
 unfold yeA
 rw [yD]
 show ob (yu _ _ [.val (.lst (ybQ us)),.val (.lst (bx.map .int)),.val (.loc c),.val (.loc a),.val (.loc w),.no,.no] h) fnK=_
 rw [ynG,yFZ,show xIL (yg 0) [PVar.val (.lst (ybQ us)),.val (.lst (bx.map .int)),.val (.loc c),.val (.loc a),.val (.loc w),.no,.no] h=some (ybQ us,h) from rfl,yw,yCj]
 exact e
theorem yhK {n:Nat}{u:T}(hp:yxb u) (hu:okT u) (b1:1<=bx.length) (b16:bx.length<=16) (nb:∀ v∈bx,N64 v) (L:LS h a c w σ) {lo:Nat}(lo2:lo<=h.length):∃ h' y,ycr (n+1) [yph u,.lst (bx.map .int),.loc c,.loc a,.loc w] h=some (y,h')/\(∃ a w,y=.tup [.non,.loc a,.loc w]/\LS h' a c w (evP bx u σ)/\lo<=a)/\Frm (·≠c) h h':=by
 obtain ⟨d,k1,k2,L1⟩:=L.copy
 obtain ⟨h',e,L2,F⟩:=yxY hp hu b1 b16 nb L1
 have F':Frm (·≠c) h h':=by
  refine ⟨by rw [F.1];simp,fun n hn hx=>(F.2 n (by omega) hx (by omega)).trans ?_⟩
  rw [List.append_assoc,List.getElem?_append_left hn]
 refine ⟨h',_,?_,⟨_,_,rfl,L2,lo2⟩,F'⟩
 unfold ycr
 rw [yD]
 show ob (yu _ _ [.val (yph u),.val (.lst (bx.map .int)),.val (.loc c),.val (.loc a),.val (.loc w),.no,.no] h) fnK=_
 cases u<;>first|exact hp.elim|skip
 all_goals
  simp only [yph] at e ⊢
  first|rw [ycv ykV,ycv yjP,ycv ypd,ycv yiQ,ycv ymH]|rw [ycv yim,ycv yhl,ycv yjQ,ycv ygz,ycv yiR]|rw [ycv yjR,ycv yiT,ycv ymI,ycv yin,ycv ykX]|rw [ycv ykZ,ycv yjS,ycv ype,ycv yiU,ycv ymJ]
  walk_at "pk"
  rw [k1,yw,k2]
  walk_at "pk"
  rw [List.length_append]
  rw [show h.length+[Nd.lst (σ.hs.map .int)].length=h.length+1 from rfl,e,yw]
theorem yLR {n:Nat}(G:yLP bx c n) (b1:1<=bx.length) (b16:bx.length<=16) (nb:∀ v∈bx,N64 v):yMy bx c (n+1):=by
 intro u h a w σ lo hd hu L lo1 lo2
 cases u with
 | let_ r n=>exact yhK (u:=.let_ r n) trivial hu b1 b16 nb L lo2
 | reckon v r p q=>exact yhK (u:=.reckon v r p q) trivial hu b1 b16 nb L lo2
 | take r p=>exact yhK (u:=.take r p) trivial hu b1 b16 nb L lo2
 | put p q=>exact yhK (u:=.put p q) trivial hu b1 b16 nb L lo2
 | throw nm r =>
  have ix:=yoZ L.hh (show sx r<σ.hs.length by rw [L.h8];exact yoY hu.2)
  refine ⟨h,_,?_,⟨.loc a,.loc w,rfl,L.seen,ytP L.nh⟩,Frm.refl⟩
  unfold ycr
  rw [yD]
  show ob (yu _ _ [.val (.tup [.str "throw",.str nm,.str r]),.val (.lst (bx.map .int)),.val (.loc c),.val (.loc a),.val (.loc w),.no,.no] h) fnK=_
  rw [ycv yiZ]
  walk_at "pk"
  rw [yfD hu.2,yw,ix]
  walk_at "pk"
  rfl
 | wait =>
  refine ⟨h,_,?_,⟨.loc a,.loc w,rfl,L.seen⟩,Frm.refl⟩
  unfold ycr
  rw [yD]
  show ob (yu _ _ [.val (.tup [.str "wait"]),.val (.lst (bx.map .int)),.val (.loc c),.val (.loc a),.val (.loc w),.no,.no] h) fnK=_
  walk_at "pk"
  rfl
 | if_ r x y =>
  have hd:2*(1+max (ycS x) (ycS y))+1<=n+1:=hd
  obtain ⟨k1,k2,k3⟩:=hu
  have ix:=yoZ L.hh (show sx r<σ.hs.length by rw [L.h8];exact yoY k1)
  unfold ycr
  rw [yD]
  show ∃ h' z,ob (yu _ _ [.val (.tup [.str "if",.str r,.lst (ybQ x),.lst (ybQ y)]),.val (.lst (bx.map .int)),.val (.loc c),.val (.loc a),.val (.loc w),.no,.no] h) fnK=some (z,h')/\yGX lo h' c z (if σ.at_ r≠0 then evL bx x σ else evL bx y σ)/\_
  rw [ycv ymL,ycv yla]
  walk_at "pk"
  rw [yfD k1,yw,ix]
  walk_at "pk"
  by_cases hz:σ.hs.getD (sx r) 0=0
  .obtain ⟨h',z,e,O,F⟩:=G y h a w σ lo (by omega) k3 L lo1 lo2
   rw [if_neg (show ¬ σ.at_ r≠0 from fun q=>q hz)]
   refine ⟨h',z,?_,O,F⟩
   simp only [hz]
   walk_at "pk"
   rw [e,yw]
  .obtain ⟨h',z,e,O,F⟩:=G x h a w σ lo (by omega) k2 L lo1 lo2
   rw [if_pos (show σ.at_ r≠0 from hz)]
   refine ⟨h',z,?_,O,F⟩
   simp only [hz]
   walk_at "pk"
   rw [e,yw]
 | either x y =>
  have hd:2*(1+max (ycS x) (ycS y))+1<=n+1:=hd
  obtain ⟨-,k2,k3⟩:=hu
  obtain ⟨d,c1,c2,L1⟩:=L.copy
  obtain ⟨h1,z,e1,O1,F1⟩:=G x _ _ _ σ lo (by omega) k2 L1 lo2 (by simp only [List.length_append];omega)
  have F0:Frm (·≠c) h h1:=(Frm.refl.app.app).trans F1
  unfold ycr
  rw [yD]
  show ∃ h' z,ob (yu _ _ [.val (.tup [.str "either",.lst (ybQ x),.lst (ybQ y)]),.val (.lst (bx.map .int)),.val (.loc c),.val (.loc a),.val (.loc w),.no,.no] h) fnK=some (z,h')/\yGX lo h' c z (match evL bx x σ with|(.waits,τ)=>evL bx y ⟨σ.hs,σ.v,τ.s⟩|(.fell nm v,τ)=>(.fell nm v,⟨σ.hs,σ.v,τ.s⟩)|(.done,τ)=>(.done,τ))/\_
  rw [ycv yip,ycv yhm,ycv yhJ]
  walk_at "pk"
  rw [c1,yw,c2]
  walk_at "pk"
  rw [List.length_append,show h.length+[Nd.lst (σ.hs.map .int)].length=h.length+1 from rfl,e1,yw]
  generalize evL bx x σ=r at *
  obtain ⟨e,τ⟩:=r
  cases e with
  | done =>
   obtain ⟨a',w',rfl,L2,lo3⟩:=O1
   refine ⟨h1,_,?_,⟨a',w',rfl,L2,lo3⟩,F0⟩
   walk_at "pk"
   rw [ytS]
   walk_at "pk"
  | waits =>
   obtain ⟨p,q,rfl,S⟩:=O1
   obtain ⟨h',z,e,O,F⟩:=G y h1 a w _ lo (by omega) k3 (L.re F0 S) lo1 (Nat.le_trans lo2 F0.1)
   refine ⟨h',z,?_,O,F0.trans F⟩
   walk_at "pk"
   rw [ypj]
   walk_at "pk"
   rw [e,yw]
  | fell nm v =>
   obtain ⟨p,q,rfl,S,hv⟩:=O1
   refine ⟨h1,_,?_,⟨p,q,rfl,S,hv⟩,F0⟩
   walk_at "pk"
   rw [ypj]
   walk_at "pk"
 | try_ x nm r y =>
  have hd:2*(1+max (ycS x) (ycS y))+1<=n+1:=hd
  obtain ⟨-,k1,k2,k3⟩:=hu
  obtain ⟨d,c1,c2,L1⟩:=L.copy
  obtain ⟨h1,z,e1,O1,F1⟩:=G x _ _ _ σ lo (by omega) k2 L1 lo2 (by simp only [List.length_append];omega)
  have F0:Frm (·≠c) h h1:=(Frm.refl.app.app).trans F1
  unfold ycr
  rw [yD]
  show ∃ h' z,ob (yu _ _ [.val (.tup [.str "try",.lst (ybQ x),.str nm,.str r,.lst (ybQ y)]),.val (.lst (bx.map .int)),.val (.loc c),.val (.loc a),.val (.loc w),.no,.no] h) fnK=some (z,h')/\yGX lo h' c z (match evL bx x σ with|(.fell m v,τ)=>if m=nm then evL bx y ((⟨σ.hs,σ.v,τ.s⟩:AS).put_ r v) else (.fell m v,⟨σ.hs,σ.v,τ.s⟩)|(.waits,τ)=>(.waits,⟨σ.hs,σ.v,τ.s⟩)|(.done,τ)=>(.done,τ))/\_
  rw [ycv ylc,ycv yjU,ycv ylT,ycv ygO]
  walk_at "pk"
  rw [c1,yw,c2]
  walk_at "pk"
  rw [List.length_append,show h.length+[Nd.lst (σ.hs.map .int)].length=h.length+1 from rfl,e1,yw]
  generalize evL bx x σ=t at *
  obtain ⟨e,τ⟩:=t
  cases e with
  | done =>
   obtain ⟨a',w',rfl,L2,lo3⟩:=O1
   refine ⟨h1,_,?_,⟨a',w',rfl,L2,lo3⟩,F0⟩
   walk_at "pk"
   rw [if_pos (show isN PV.non=true from rfl)]
  | waits =>
   obtain ⟨p,q,rfl,S⟩:=O1
   refine ⟨h1,_,?_,⟨p,q,rfl,S⟩,F0⟩
   walk_at "pk"
   rw [if_neg (show ¬ isN (enV .waits)=true from fun z=>by cases z),show enV .waits=.tup [.str "waits"] from rfl]
   walk_at "pk"
   rw [if_pos (show ¬ ("waits":Str) = "fell" by rfl')]
  | fell m v =>
   obtain ⟨p,q,rfl,S,hv⟩:=O1
   dsimp only
   walk_at "pk"
   rw [if_neg (show ¬ isN (enV (.fell m v))=true from fun z=>by cases z),show enV (.fell m v)=.tup [.str "fell",.str m,.int v] from rfl]
   walk_at "pk"
   by_cases hq:m=nm
   .subst hq
    have L2:=L.re F0 S
    obtain ⟨L3,F3⟩:=L2.hold (r:=r) hv
    obtain ⟨h',z,e,O,F⟩:=G y _ _ _ _ lo (by omega) k3 L3 (Nat.le_trans lo2 F0.1) (by have:=F0.1;have:=F3.1;omega)
    rw [if_pos rfl]
    refine ⟨h',z,?_,O,(F0.trans F3).trans F⟩
    rw [if_neg (fun z=>z rfl),yfO L2.hh,yw,yjb (n:=h1.length) (xs:=σ.hs) (i:=sx r) (v:=v) (by walk_at "pk") rfl (by
     walk_at "pk"
     rw [yfD k1]) (by simp) (by rw [L.h8];exact yoY k1),yw]
    walk_at "pk"
    rw [e,yw]
   .rw [if_neg hq]
    refine ⟨h1,_,?_,⟨p,q,rfl,S,hv⟩,F0⟩
    rw [if_pos hq]
    rfl
theorem yJE (b1:1<=bx.length) (b16:bx.length<=16) (nb:∀ v∈bx,N64 v):∀ n,yLP bx c n
 | 0=>fun us h a w σ lo hd=>by omega
 | 1=>fun us h a w σ lo hd=>by omega
 | n+2=>yLQ (yLR (yJE b1 b16 nb n) b1 b16 nb)
end
section
variable {h:AH}
local macro_rules | `(tactic| walk_at "pt")=>`(tactic| simp_all? only [yLB,yLC,yLD,yLE,yLF,yLG,yLH,yGO,yJB,yJC,ne_eq,not_true_eq_false])
theorem yDg {n f:Nat}{xs:List Int}(e1:h[f]?=some (.lst (xs.map .int))) (hs:xs.length<=1000):yx (n+2) [.loc f,.lst (xs.map .int)] h=some (.bl true,h):=by
 unfold yx
 rw [yD]
 show ob (yu _ _ [.val (.loc f),.val (.lst (xs.map .int)),.no] h) fnK=_
 walk_at "pt"
 rw [yLI e1]
 walk_at "pt"
 rw [ymC e1]
 walk_at "pt"
 rw [ylH (j:=(xs.length:Int)) (h1:=h) (by walk_at "pt";rw [List.length_map]) (by omega) (by omega),yw]
 refine yiz (fun i ρ h1=>h1=h/\∃ c,ρ=[.val (.loc f),.val (.lst (xs.map .int)),c]) ⟨rfl,.no,rfl⟩ ?_ ?_
 .rintro i x ρ h1 hx ⟨rfl,c,rfl⟩
  obtain ⟨hi,rfl⟩:=yjK hx
  rw [Int.zero_add]
  have hi:i<(xs.map PV.int).length:=by rw [List.length_map];omega
  refine ⟨_,[.val (.loc f),.val (.lst (xs.map .int)),.val (.int i)],h1,rfl,.inl ?_,rfl,_,rfl⟩
  walk_at "pt"
  rw [yrN e1 hi,yw,yen (List.getElem?_eq_getElem hi)]
  walk_at "pt"
  rw [List.getElem_map,yoW]
  walk_at "pt"
 .rintro ρ' h' ⟨rfl,c,rfl⟩
  walk_at "pt"
noncomputable def LD (lo:Nat) (h:AH) (D:PV) (hs:List Int):Prop:=(∃ a,D=.loc a/\lo<=a/\h[a]?=some (.lst (hs.map .int)))\/D=.lst (hs.map .int)
theorem ytT {a:Nat}{e:En}{xs ys:List PV}{hs:List Int}{D:PV}{lo:Nat}(e1:h[a]?=some (.lst xs)) (e2:h[a+1]?=some (.lst ys)) (e3:h[a+2]?=some (.lst (hs.map .int))) (e4:LD lo h D hs) (h8:hs.length=8) (t1:Tl xs) (t2:Tl ys) :
  yx 5 [.tup [enV e,.loc a,.loc (a+1),.loc (a+2)],.tup [enV e,.lst xs,.lst ys,D]] h=some (.bl true,h):=by
 refine yoo rfl (by simp) fun i x y hx hy=>?_
 match i,hx,hy with
 | 0,hx,hy=>cases hx;cases hy;exact yDf e
 | 1,hx,hy=>cases hx;cases hy;exact yAi e1 t1
 | 2,hx,hy=>cases hx;cases hy;exact yAi e2 t2
 | 3,hx,hy =>
  cases hx;cases hy
  rcases e4 with ⟨f,rfl,_,e4⟩|rfl
  .exact yDe e3 e4 (by omega)
  .exact yDg e3 (by omega)
theorem yJF {n:Nat}{us:List T}{bx sl:List Int}(hu:okL us) (hd:ycS us<=4) (eS:h[n]?=some (.lst (sl.map .int))) (h8:sl.length=8) (b1:1<=bx.length) (b16:bx.length<=16) (nh:∀ v∈sl,N64 v) (nb:∀ v∈bx,N64 v) :
  ∃ h' D,yiD [.lst (ybQ us),.lst (bx.map .int),.loc n] h=some (.tup [enV (evL bx us ⟨sl,fun _=>none,fun _=>none⟩).1,.lst (yjO (evL bx us ⟨sl,fun _=>none,fun _=>none⟩).2.s),.lst (wrE (evL bx us ⟨sl,fun _=>none,fun _=>none⟩).1 (evL bx us ⟨sl,fun _=>none,fun _=>none⟩).2),D],h') /\
   LD h.length h' D (hsE (evL bx us ⟨sl,fun _=>none,fun _=>none⟩).1 (evL bx us ⟨sl,fun _=>none,fun _=>none⟩).2 sl)/\Frm (fun _=>True) h h':=by
 have gx:∀ (X:List Nd) (k:Nat),(h++X)[h.length+k]?=X[k]?:=fun X k=>by rw [List.getElem?_append_right (Nat.le_add_right _ _),Nat.add_sub_cancel_left]
 have L0:LS (h++[Nd.dct [] []]++[Nd.lst (sl.map .int)]++[Nd.dct [] []]) (h.length+1) h.length (h.length+2) ⟨sl,fun _=>none,fun _=>none⟩:=by
  rw [show h++[Nd.dct [] []]++[Nd.lst (sl.map .int)]++[Nd.dct [] []]=h++[Nd.dct [] [],.lst (sl.map .int),.dct [] []] by simp]
  exact ⟨⟨[],[],[],[],gx _ 0,gx _ 2,⟨by simp,by simp,rfl⟩,⟨by simp,by simp,rfl⟩,fun _=>rfl,fun _=>rfl⟩,gx _ 1,by omega,h8,nh,fun j v e=>nomatch e⟩
 obtain ⟨h6,y,e6,O,F6⟩:=yJE b1 b16 nb 20 us _ _ _ _ h.length (by omega) hu L0 (by omega) (by simp only [List.length_append];omega)
 have F:Frm (fun _=>True) h h6:=⟨Nat.le_trans (by simp only [List.length_append];omega) F6.1,fun k hk _=>(F6.2 k (by simp only [List.length_append];omega) (by omega)).trans (by rw [List.append_assoc,List.append_assoc,List.getElem?_append_left hk])⟩
 have eS6:=F.get trivial eS
 unfold yiD
 rw [yD]
 show ∃ h' D,ob (yu _ _ [.val (.lst (ybQ us)),.val (.lst (bx.map .int)),.val (.loc n),.no,.no,.no,.no] h) fnK=_/\_
 walk_at "px"
 simp only [yAz,yw]
 rw [yfO (ycZ eS)]
 simp only [yAz,yw]
 simp only [List.length_append,List.length_cons,List.length_nil,Nat.zero_add,Nat.add_assoc,Nat.reduceAdd]
 rw [e6]
 generalize evL bx us ⟨sl,fun _=>none,fun _=>none⟩=q at *
 obtain ⟨e,τ⟩:=q
 cases e with
 | done =>
  obtain ⟨a,w,rfl,⟨⟨sj,sv,wj,wv,q1,q2,i1,i2,f1,f2⟩,hh,_⟩,lo⟩:=O
  refine ⟨h6,.loc a,?_,.inl ⟨a,rfl,lo,hh⟩,F⟩
  walk_at "px"
  rw [if_pos (show isN PV.non=true from rfl),yom q1 i1 f1,yw,yom q2 i2 f2,yw]
  rfl
 | waits =>
  obtain ⟨p,q,rfl,sj,sv,q1,i1,f1⟩:=O
  refine ⟨h6,_,?_,.inr rfl,F⟩
  walk_at "px"
  rw [if_neg (show ¬ isN (enV .waits)=true from fun z=>by cases z),yom q1 i1 f1,yw,yfO eS6]
  rfl
 | fell nm v =>
  obtain ⟨p,q,rfl,⟨sj,sv,q1,i1,f1⟩,_⟩:=O
  refine ⟨h6,_,?_,.inr rfl,F⟩
  walk_at "px"
  rw [if_neg (show ¬ isN (enV (.fell nm v))=true from fun z=>by cases z),yom q1 i1 f1,yw,yfO eS6]
  rfl
end
section
variable {h:AH}
theorem LD.mono {lo:Nat}{h':AH}{D:PV}{hs:List Int}(d:LD lo h D hs) (k:∀ n x,lo<=n->h[n]?=some x->h'[n]?=some x):LD lo h' D hs:=by
 rcases d with ⟨a,rfl,l,e⟩|rfl
 .exact .inl ⟨a,rfl,l,k a _ l e⟩
 .exact .inr rfl
theorem LD.lt {lo:Nat}{h':AH}{D:PV}{hs:List Int}(d:LD lo h D hs) (k:∀ n x,lo<=n->n<h.length->h[n]?=some x->h'[n]?=some x):LD lo h' D hs:=d.mono fun n x l e=>k n x l (yhG e) e
theorem yGY {xs ys:List Int}{n p q:Nat}(e1:h[p]?=some (.lst (xs.map .int))) (e2:h[q]?=some (.lst (ys.map .int))) (e:h[n]?=some (.lst (ys.map .int))):yuE (.lst [.loc p,.loc q]) (.lst [.lst (xs.map .int),.loc n]) h=some (.bl false,h):=by
 have hi:∀ (m:Nat) (zs:List Int),ylI (eqP (m+1) h) (zs.map .int) (zs.map .int)=some true:=by
  intro m zs
  induction zs with
  | nil=>rfl
  | cons z zs ih =>
   rw [List.map_cons]
   unfold ylI
   rw [ih,show eqP (m+1) h (.int z) (.int z)=some true by simp [eqP,sv,eqV]]
   rfl
 have h1:eqP 40 h (.loc p) (.lst (xs.map .int))=some true:=by
  show pairE (eqP 39 h) h (.loc p) (.lst (xs.map .int))=_
  unfold pairE ydA
  simp only [e1,if_true]
  exact hi 38 xs
 have h2:eqP 40 h (.loc q) (.loc n)=some true:=by
  show pairE (eqP 39 h) h (.loc q) (.loc n)=_
  unfold pairE ydA
  simp only [e,e2,if_true]
  exact hi 38 ys
 have h3:pairE (eqP 40 h) h (.lst [.loc p,.loc q]) (.lst [.lst (xs.map .int),.loc n])=some true:=by
  unfold pairE ydA
  simp only [List.length_cons,List.length_nil,if_true]
  unfold ylI
  rw [h1]
  unfold ylI
  rw [h2]
  rfl
 unfold yuE
 rw [h3]
 rfl
theorem yJG (ns:List Int) (hl:ns.length<=63):∃ h',yCN [.scr ns] h=some (.bl true,h'):=by
 unfold yCN
 rw [yD]
 show ∃ h',ob (yu _ _ [.val (.scr ns),.no,.no,.no,.no,.no,.no,.no,.no,.no,.no] h) fnK=_
 walk_at "px"
 have hs0:∀ (cs:List Int) (h:AH) lo hi,yFR [.lst (ysD (cs.map PV.int) lo hi)] h=some (.int (ysD cs lo hi).sum,h):=fun cs h lo hi=>by
  rw [ysb]
  unfold yFR ydA
  simp only [yqF]
 obtain ⟨na,nb',nc,en⟩:=yDd (h:=h) (ysD ns none (some 1)).sum
 rw [hs0,yw,en,yw]
 have hmax:yzA [.int 1,.int (ns.length:Int)] h=some (.int (max 1 (ns.length:Int)),h):=by
  unfold yzA
  show some (PV.int (if (ns.length:Int)>1 then (ns.length:Int) else 1),h)=_
  congr 3
  split<;>omega
 rw [yIP (i:=0) (j:=max 1 (ns.length:Int)) (c:=12) (h1:=h) (by walk_at "px";rw [hmax];walk_at "px") (by omega),yw]
 refine yro (P:=fun (q:Option (PV×AH))=>∃ h',q=some (.bl true,h')) (fun i ρ h1=>∃ c2 c3 c4 c5 c6 c7 c8 c9 c10:PVar,ρ=[.val (.scr ns),.val (.lst [.str na,.str nb',.str nc]),c2,c3,c4,c5,c6,c7,c8,c9,c10]) (fun _ _=>False) ⟨.no,.no,.no,.no,.no,.no,.no,.no,.no,rfl⟩ ?_ ?_ (fun _ _ z=>z.elim)
 .rintro i x ρ h1 hx ⟨c2,c3,c4,c5,c6,c7,c8,c9,c10,rfl⟩
  obtain ⟨k,rfl⟩:∃ k:Nat,x=.int (k:Int):=by
   unfold yDR at hx
   rw [List.getElem?_map] at hx
   obtain ⟨j,hj,rfl⟩:=Option.map_eq_some_iff.mp hx
   exact ⟨j*12,by simp⟩
  have hcl:(ysD ns (some (k:Int)) (some ((k:Int)+12))).length<=12:=by
   have:=yvP ns k (k+12) (by omega)
   rw [show (k:Int)+12=((k+12:Nat):Int) by omega]
   omega
  generalize hcs:ysD ns (some (k:Int)) (some ((k:Int)+12))=cs at hcl
  obtain ⟨ts,pl,et⟩:=yAL na nb' nc 5 3 h1 cs (by omega) hcl
  have wl:=pl.w
  have dl:=pl.d
  have tl:=yxZ ts
  obtain ⟨bx,b1,b16,nb,eb⟩:=yDa (h:=h1) ((ysD cs (some 1) (some 2)).sum+k)
  obtain ⟨sl,h8,nh,es⟩:=yDb (h:=h1) ((ysD cs none (some 1)).sum+k)
  refine yvQ rfl ?_
  walk_at "px"
  rw [ysb,hcs,show ydK 5 [.lst (cs.map .int),.int 3,.lst [.str na,.str nb',.str nc]] h1=_ from et]
  walk_at "px"
  rw [hs0]
  walk_at "px"
  rw [eb]
  walk_at "px"
  rw [hs0]
  walk_at "px"
  rw [es]
  walk_at "px"
  have p0:(h1++[Nd.lst (sl.map .int)]++[Nd.lst (bx.map .int)])[h1.length]?=some (.lst (sl.map .int)):=ycZ (by simp)
  rw [yfO p0,yw]
  simp only [List.length_append,List.length_cons,List.length_nil,Nat.zero_add,Nat.add_assoc,Nat.reduceAdd]
  have p1:(h1++[Nd.lst (sl.map .int)]++[Nd.lst (bx.map .int)]++[Nd.lst (sl.map .int)])[h1.length]?=some (.lst (sl.map .int)):=ycZ p0
  have p2:(h1++[Nd.lst (sl.map .int)]++[Nd.lst (bx.map .int)]++[Nd.lst (sl.map .int)])[h1.length+1]?=some (.lst (bx.map .int)):=ycZ (by simp)
  have p3:(h1++[Nd.lst (sl.map .int)]++[Nd.lst (bx.map .int)]++[Nd.lst (sl.map .int)])[h1.length+2]?=some (.lst (sl.map .int)):=by simp
  have hl3:(h1++[Nd.lst (sl.map .int)]++[Nd.lst (bx.map .int)]++[Nd.lst (sl.map .int)]).length=h1.length+3:=by simp
  generalize h1++[Nd.lst (sl.map .int)]++[Nd.lst (bx.map .int)]++[Nd.lst (sl.map .int)]=h3 at *
  generalize h1.length=n0 at *
  rw [yAH 7 ts (by omega) (by omega) pl.ok,yw]
  obtain ⟨h4,D,e4,ld,F4⟩:=yJF (h:=h3) pl.ok dl p1 h8 b1 b16 nh nb
  rw [e4,yw]
  have p1:=F4.get trivial p1
  have p2:=F4.get trivial p2
  have p3:=F4.get trivial p3
  have f4:=F4.1
  have al:∀ h4:AH,h4[n0+1]?=some (.lst (bx.map .int))->h4[n0+2]?=some (.lst (sl.map .int))->_:=fun h4 p2 p3=>yAB (h:=h4) (us:=ts) (x:=.loc (n0+1)) (y:=.loc (n0+2)) pl.ok dl (LV.loc p2) (LV.loc p3) (fun h2 F=>yfO (F.get (yhG p3) p3)) h8 b1 b16 nh nb
  generalize evL bx ts ⟨sl,fun _=>none,fun _=>none⟩=q at *
  obtain ⟨e,τ⟩:=q
  dsimp only at ld al
  obtain ⟨h5,r,e5,⟨a1,rfl,ha,g1,g2,g3⟩,F5,g8⟩:=al h4 p2 p3
  have t1:=(yol τ.s).1
  rw [e5,yw]
  have ld5:LD h3.length h5 D (hsE e τ sl):=ld.lt fun n x _ l e=>F5.get l e
  rw [ytT g1 g2 g3 ld5 g8 (yol _) (yEI _ _)]
  walk_at "px"
  rw [if_pos (yiA g3),yrp g3 (by rw [List.length_map];omega),yw]
  have g1':=yy (x:=.lst ((hsE e τ sl).map .int++[.int 7])) (show a1≠a1+2 by omega) g1
  rw [if_pos (yiA g1'),yrp g1' (by omega),yw]
  have k6:∀ n x,n<h4.length->h4[n]?=some x->((h5.set (a1+2) (.lst ((hsE e τ sl).map .int++[.int 7]))).set a1 (.lst (yjO τ.s++[.tup [.int 0,.int 0]])))[n]?=some x:=fun n x l e=>yy (by omega) (yy (by omega) (F5.get l e))
  have l6:((h5.set (a1+2) (.lst ((hsE e τ sl).map .int++[.int 7]))).set a1 (.lst (yjO τ.s++[.tup [.int 0,.int 0]]))).length=h5.length:=by rw [List.length_set,List.length_set]
  generalize (h5.set (a1+2) (.lst ((hsE e τ sl).map .int++[.int 7]))).set a1 (.lst (yjO τ.s++[.tup [.int 0,.int 0]]))=h6 at *
  have ld6:LD h3.length h6 D (hsE e τ sl):=ld.lt fun n x _ l e=>k6 n x l e
  have l2:=yhG p2
  have l3:=yhG p3
  have p1:=k6 _ _ (yhG p1) p1
  have p2:=k6 _ _ l2 p2
  have p3:=k6 _ _ l3 p3
  rw [yGY p2 p3 p1]
  walk_at "px"
  rw [if_neg (show ¬ ¬ (((ybf ts).length:Nat):Int)=((ybQ ts).length:Nat) from fun z=>z (by rw [ymG,yjZ,List.length_map,List.length_map]))]
  obtain ⟨h7,r,e7,⟨a2,rfl,ha2,g1,g2,g3⟩,F7,g8⟩:=al h6 p2 p3
  rw [e7,yw]
  have l4:=F5.1
  have p2:=F7.get (yhG p2) p2
  have p3:=F7.get (yhG p3) p3
  rw [if_pos (yiA p2),yrp p2 (by rw [List.length_map];omega),yw]
  have p3:=yy (x:=.lst (bx.map .int++[.int 5])) (show n0+2≠n0+1 by omega) p3
  have kk:∀ (v:Int) n x,n0+3<=n->h7[n]?=some x->((h7.set (n0+1) (.lst (bx.map .int++[.int 5]))).set (n0+2) (.lst ((sl.set 0 v).map .int)))[n]?=some x:=fun v n x l e=>yy (by omega) (yy (by omega) e)
  have ld7:LD h3.length h7 D (hsE e τ sl):=ld6.lt fun n x _ l e=>F7.get l e
  rw [yjb (n:=n0+2) (xs:=sl) (i:=0) (v:=sl.getD 0 0+1) (by
   walk_at "px"
   have:=yoZ (i:=0) p3 (by omega)
   rw [show ygv (.loc (n0+2)) (.int 0) _=_ from this]
   walk_at "px") (by walk_at "px") rfl p3 (by omega),yw]
  walk_at "px"
  rw [ytT (kk _ _ _ (by omega) g1) (kk _ _ _ (by omega) g2) (kk _ _ _ (by omega) g3) (ld7.mono fun n x l e=>kk _ n x (by omega) e) g8 (yol _) (yEI _ _)]
  walk_at "px"
  exact ⟨_,rfl,_,_,_,_,_,_,_,_,_,rfl⟩
 .rintro ρ' h' ⟨c2,c3,c4,c5,c6,c7,c8,c9,c10,rfl⟩
  (try walk_at "px")
  exact ⟨_,rfl⟩
end
end
def top (i:Nat):Stmt:=PySem.Challenge.pw_retryhall_k19_whole_alone_plain_model.main.body.getD i (.Pass ⟨0,0,0,0⟩)
abbrev ybR:Stmt:=inClass (top 2) 0
abbrev ydf:Stmt:=inClass (top 2) 1
abbrev yfg:Stmt:=inClass (top 2) 2
abbrev ydg:Stmt:=inClass (top 2) 3
abbrev ycB:Stmt:=inClass (top 2) 4
abbrev yea:Stmt:=inClass (top 2) 5
abbrev yfh:Stmt:=inClass (top 2) 7
abbrev yfi:Stmt:=inClass (top 2) 8
abbrev ydh:Stmt:=inClass (top 2) 9
abbrev ygP:Stmt:=top 6
abbrev ycC:Stmt:=top 7
abbrev ybF:Stmt:=inClass (top 9) 0
abbrev ybS:Stmt:=inClass (top 9) 1
abbrev ydi:Stmt:=inClass (top 9) 2
abbrev ycd:Stmt:=inClass (top 9) 3
abbrev ybo:Stmt:=inClass (top 9) 4
abbrev yce:Stmt:=inClass (top 9) 5
abbrev ybT:Stmt:=inClass (top 9) 6
abbrev ybG:Stmt:=inClass (top 9) 7
abbrev ybp:Stmt:=inClass (top 9) 8
abbrev ybU:Stmt:=inClass (top 12) 0
abbrev ybh:Stmt:=inClass (top 13) 0
abbrev ybH:Stmt:=inClass (top 14) 0
abbrev ybV:Stmt:=inClass (top 15) 0
abbrev ybq:Stmt:=inClass (top 25) 0
abbrev ybi:Stmt:=inClass (top 25) 8
abbrev yZ:Stmt:=inClass (top 25) 7
abbrev ybr:Stmt:=inClass (top 25) 1
abbrev ybs:Stmt:=inClass (top 25) 2
abbrev ybW:Stmt:=inClass (top 25) 3
abbrev yba:Stmt:=inClass (top 25) 4
abbrev ybI:Stmt:=inClass (top 25) 5
abbrev yT:Stmt:=inClass (top 25) 6
abbrev yjc:Stmt:=top 24
abbrev ycf:Stmt:=inClass (top 16) 0
abbrev ybj:Stmt:=inClass (top 17) 0
abbrev ybX:Stmt:=inClass (top 18) 0
abbrev ybt:Stmt:=inClass (top 19) 0
abbrev ycD:Stmt:=top 27
abbrev ydj:Stmt:=top 28
abbrev ycE:Stmt:=top 29
abbrev ycF:Stmt:=top 30
abbrev ycG:Stmt:=top 31
abbrev ycH:Stmt:=top 32
abbrev ydk:Stmt:=top 33
abbrev ydl:Stmt:=top 34
abbrev ycI:Stmt:=top 35
abbrev ycJ:Stmt:=top 36
abbrev yeb:Stmt:=top 37
abbrev ybY:Stmt:=top 38
abbrev ycK:Stmt:=top 39
abbrev yfj:Stmt:=top 40
abbrev ydm:Stmt:=top 41
abbrev yec:Stmt:=top 42
abbrev ynN:Stmt:=top 43
theorem ypk:yt ["self"] ["self"] (yb ybR):=⟨rfl,rfl,rfl,by rfl',rfl,by rfl',by rfl'⟩
theorem ynq:yt ["self","box","number","top"] ["self","box","number"] (yb ydf):=⟨rfl,rfl,rfl,by rfl',rfl,by rfl',by rfl'⟩
theorem yqR:yt ["self","box","layer"] ["self","box"] (yb yfg):=⟨rfl,rfl,rfl,by rfl',rfl,by rfl',by rfl'⟩
theorem ytU:yt ["self"] ["self"] (yb ydg):=⟨rfl,rfl,rfl,by rfl',rfl,by rfl',by rfl'⟩
theorem yjd:yt ["self","top","beneath"] ["self"] (yb ycB):=⟨rfl,rfl,rfl,by rfl',rfl,by rfl',by rfl'⟩
theorem yvR:yt ["self"] ["self"] (yb yea):=⟨rfl,rfl,rfl,by rfl',rfl,by rfl',by rfl'⟩
theorem yyc:yt ["self","box","number"] ["self","box","number"] (yb yfh):=⟨rfl,rfl,rfl,by rfl',rfl,by rfl',by rfl'⟩
theorem yyd:yt ["self"] ["self"] (yb yfi):=⟨rfl,rfl,rfl,by rfl',rfl,by rfl',by rfl'⟩
theorem ynr:yt ["self","lowest"] ["self"] (yb ydh):=⟨rfl,rfl,rfl,by rfl',rfl,by rfl',by rfl'⟩
theorem yAN:yt ["word","one","other"] ["word","one","other"] (yb ygP):=⟨rfl,rfl,rfl,by rfl',rfl,by rfl',by rfl'⟩
theorem yse:yt ["slot"] ["slot"] (yb ycC):=⟨rfl,rfl,rfl,by rfl',rfl,by rfl',by rfl'⟩
theorem ynO:yt ["self","slots","width"] ["self","slots","width"] (yb ybF):=⟨rfl,rfl,rfl,by rfl',rfl,by rfl',by rfl'⟩
theorem ypl:yt ["self","slot"] ["self","slot"] (yb ybS):=⟨rfl,rfl,rfl,by rfl',rfl,by rfl',by rfl'⟩
theorem ytV:yt ["self","slot","number"] ["self","slot","number"] (yb ydi):=⟨rfl,rfl,rfl,by rfl',rfl,by rfl',by rfl'⟩
theorem yqf:yt ["self","place"] ["self","place"] (yb ycd):=⟨rfl,rfl,rfl,by rfl',rfl,by rfl',by rfl'⟩
theorem ymQ:yt ["self","word","slot","one","other"] ["self","word","slot","one","other"] (yb ybo):=⟨rfl,rfl,rfl,by rfl',rfl,by rfl',by rfl'⟩
theorem yqg:yt ["self","place","slot"] ["self","place","slot"] (yb yce):=⟨rfl,rfl,rfl,by rfl',rfl,by rfl',by rfl'⟩
theorem ypm:yt ["self","place"] ["self","place"] (yb ybT):=⟨rfl,rfl,rfl,by rfl',rfl,by rfl',by rfl'⟩
theorem ynP:yt ["self","slot","place"] ["self","slot","place"] (yb ybG):=⟨rfl,rfl,rfl,by rfl',rfl,by rfl',by rfl'⟩
theorem yiE:yt ["self","slot","place","numbers","box"] ["self","slot","place","numbers"] (yb ybp):=⟨rfl,rfl,rfl,by rfl',rfl,by rfl',by rfl'⟩
theorem ypn:yt ["self","slot","number"] ["self","slot","number"] (yb ybU):=⟨rfl,rfl,rfl,by rfl',rfl,by rfl',by rfl'⟩
theorem ylU:yt ["self","word","slot","one","other"] ["self","word","slot","one","other"] (yb ybh):=⟨rfl,rfl,rfl,by rfl',rfl,by rfl',by rfl'⟩
theorem ynQ:yt ["self","slot","place"] ["self","slot","place"] (yb ybH):=⟨rfl,rfl,rfl,by rfl',rfl,by rfl',by rfl'⟩
theorem ypo:yt ["self","place","slot"] ["self","place","slot"] (yb ybV):=⟨rfl,rfl,rfl,by rfl',rfl,by rfl',by rfl'⟩
theorem ymR:yt ["self","boxes","slots"] ["self","boxes","slots"] (yb ybq):=⟨rfl,rfl,rfl,by rfl',rfl,by rfl',by rfl'⟩
theorem ylV:yt ["self","part"] ["self","part"] (yb ybi):=⟨rfl,rfl,rfl,by rfl',rfl,by rfl',by rfl'⟩
theorem yli:yt ["self","part"] ["self","part"] (yb yZ):=⟨rfl,rfl,rfl,by rfl',rfl,by rfl',by rfl'⟩
theorem yfF:yt ["self","parts","part","end"] ["self","parts"] (yb ybr):=⟨rfl,rfl,rfl,by rfl',rfl,by rfl',by rfl'⟩
theorem ymS:yt ["self","part"] ["self","part"] (yb ybs):=⟨rfl,rfl,rfl,by rfl',rfl,by rfl',by rfl'⟩
theorem ypp:yt ["self","part"] ["self","part"] (yb ybW):=⟨rfl,rfl,rfl,by rfl',rfl,by rfl',by rfl'⟩
theorem yhq:yt ["self","part","end"] ["self","part"] (yb yba):=⟨rfl,rfl,rfl,by rfl',rfl,by rfl',by rfl'⟩
theorem yjC:yt ["self","part","end"] ["self","part"] (yb ybI):=⟨rfl,rfl,rfl,by rfl',rfl,by rfl',by rfl'⟩
theorem yer:yt ["self","parts","before","end"] ["self","parts"] (yb yT):=⟨rfl,rfl,rfl,by rfl',rfl,by rfl',by rfl'⟩
theorem sc_alone:yt ["deed","boxes","slots","doing","end"] ["deed","boxes","slots"] (yb yjc):=⟨rfl,rfl,rfl,by rfl',rfl,by rfl',by rfl'⟩
theorem yqh:yt ["self","slot","parts","others"] ["self","slot","parts","others"] (yb ycf):=⟨rfl,rfl,rfl,by rfl',rfl,by rfl',by rfl'⟩
theorem ylW:yt ["self","parts","others"] ["self","parts","others"] (yb ybj):=⟨rfl,rfl,rfl,by rfl',rfl,by rfl',by rfl'⟩
theorem ypq:yt ["self","parts","name","slot","others"] ["self","parts","name","slot","others"] (yb ybX):=⟨rfl,rfl,rfl,by rfl',rfl,by rfl',by rfl'⟩
theorem ymT:yt ["self","name","slot"] ["self","name","slot"] (yb ybt):=⟨rfl,rfl,rfl,by rfl',rfl,by rfl',by rfl'⟩
theorem ysf:yt ["_law_cell"] ["_law_cell"] (yb ycD):=⟨rfl,rfl,rfl,by rfl',rfl,by rfl',by rfl'⟩
theorem ytW:yt ["_law_cell"] ["_law_cell"] (yb ydj):=⟨rfl,rfl,rfl,by rfl',rfl,by rfl',by rfl'⟩
theorem ylX:yt ["_law_found","_law_due_here","_law_k"] ["_law_found","_law_due_here"] (yb ycE):=⟨rfl,rfl,rfl,by rfl',rfl,by rfl',by rfl'⟩
theorem ybu:yt ["_law_cell","_law_letters","_law_mixed_here","_law_size","_law_at","_law_names_here","_law_turn","_law_name","_law_k","_law_sign"] ["_law_cell"] (yb ycF):=⟨rfl,rfl,rfl,by rfl',rfl,by rfl',by rfl'⟩
theorem ybJ:yt ["_law_mixed_here","_law_cell","_law_letters","_law_many","_law_rest","_law_one","_law_other","_law_third","_law_way","_law_word","_law_tree_here"] ["_law_mixed_here","_law_cell"] (yb ycG):=⟨rfl,rfl,rfl,by rfl',rfl,by rfl',by rfl'⟩
theorem ycL:yt ["_law_mixed_here","_law_one","_law_other","_law_names_here","_law_letters","_law_slot","_law_way","_law_stop"] ["_law_mixed_here","_law_one","_law_other","_law_names_here"] (yb ycH):=⟨rfl,rfl,rfl,by rfl',rfl,by rfl',by rfl'⟩
theorem ybz:yt ["_law_cells","_law_depth","_law_names_here","_law_tree_here","_law_at","_law_cell","_law_mixed_here","_law_stops","_law_many","_law_more","_law_one","_law_other"] ["_law_cells","_law_depth","_law_names_here"] (yb ydk):=⟨rfl,rfl,rfl,by rfl',rfl,by rfl',by rfl'⟩
theorem yka:yt ["_law_tree_here","_law_made_here","_law_part_here"] ["_law_tree_here"] (yb ydl):=⟨rfl,rfl,rfl,by rfl',rfl,by rfl',by rfl'⟩
theorem yed:yt ["_law_cell","_law_mixed_here","_law_many","_law_boxes_here","_law_k","_law_some"] ["_law_cell"] (yb ycI):=⟨rfl,rfl,rfl,by rfl',rfl,by rfl',by rfl'⟩
theorem yje:yt ["_law_cell","_law_mixed_here","_law_slots_here"] ["_law_cell"] (yb ycJ):=⟨rfl,rfl,rfl,by rfl',rfl,by rfl',by rfl'⟩
theorem yvS:yt ["_law_word","_law_one","_law_other"] ["_law_word","_law_one","_law_other"] (yb yeb):=⟨rfl,rfl,rfl,by rfl',rfl,by rfl',by rfl'⟩
theorem ydN:yt ["_law_part_here","_law_boxes_here","_law_saw","_law_slots_here","_law_written","_law_one","_law_other","_law_box"] ["_law_part_here","_law_boxes_here","_law_saw","_law_slots_here","_law_written"] (yb ybY):=⟨rfl,rfl,rfl,by rfl',rfl,by rfl',by rfl'⟩
theorem ysg:yt ["_law_found"] ["_law_found"] (yb ycK):=⟨rfl,rfl,rfl,by rfl',rfl,by rfl',by rfl'⟩
theorem yiF:yt ["_law_tree_here","_law_boxes_here","_law_saw","_law_slots_here","_law_written","_law_part_here","_law_end"] ["_law_tree_here","_law_boxes_here","_law_saw","_law_slots_here","_law_written"] (yb yfj):=⟨rfl,rfl,rfl,by rfl',rfl,by rfl',by rfl'⟩
theorem ydO:yt ["_law_part_here","_law_boxes_here","_law_saw","_law_slots_here","_law_written","_law_side","_law_tried"] ["_law_part_here","_law_boxes_here","_law_saw","_law_slots_here","_law_written"] (yb ydm):=⟨rfl,rfl,rfl,by rfl',rfl,by rfl',by rfl'⟩
theorem yhr:yt ["_law_tree_here","_law_boxes_here","_law_slots_here","_law_saw","_law_end","_law_left","_law_written"] ["_law_tree_here","_law_boxes_here","_law_slots_here"] (yb yec):=⟨rfl,rfl,rfl,by rfl',rfl,by rfl',by rfl'⟩
theorem sc_law:yt ["_law_script","_law_names_here","_law_at","_law_cells","_law_tree_here","_law_boxes_here","_law_slots_here","_law_handed","_law_deed","_law_due_here","_law_found"] ["_law_script"] (yb ynN):=⟨rfl,rfl,rfl,by rfl',rfl,by rfl',by rfl'⟩
theorem ml1 {α:Type}{P:List α->Prop}(h:∀ a,P [a]):∀ us:List α,us.length=1->P us
 | [_],_=>h _
theorem ml2 {α:Type}{P:List α->Prop}(h:∀ a b,P [a,b]):∀ us:List α,us.length=2->P us
 | [_,_],_=>h _ _
theorem ml3 {α:Type}{P:List α->Prop}(h:∀ a b c,P [a,b,c]):∀ us:List α,us.length=3->P us
 | [_,_,_],_=>h _ _ _
theorem ml4 {α:Type}{P:List α->Prop}(h:∀ a b c d,P [a,b,c,d]):∀ us:List α,us.length=4->P us
 | [_,_,_,_],_=>h _ _ _ _
theorem ml5 {α:Type}{P:List α->Prop}(h:∀ a b c d e,P [a,b,c,d,e]):∀ us:List α,us.length=5->P us
 | [_,_,_,_,_],_=>h _ _ _ _ _
set_option genInjectivity false in
set_option genSizeOf false in
structure Ads where
 A:Nat->Addr
 yfR:Addr
 yfS:FuncData
 yjf:Addr
 yjg:FuncData
 ykb:Addr
 ykc:FuncData
 yjh:Addr
 yji:FuncData
 yhL:Addr
 yhM:FuncData
 ykA:Addr
 ykB:FuncData
 ylY:Addr
 ylZ:FuncData
 yma:Addr
 ymb:FuncData
 yjj:Addr
 yjk:FuncData
 a_reckon:Addr
 d_reckon:FuncData
 ygp:Addr
 ygq:FuncData
 ydP:Addr
 yfk:FuncData
 ycO:Addr
 ycP:FuncData
 ydQ:Addr
 ydR:FuncData
 ydn:Addr
 ydo:FuncData
 yeC:Addr
 yeD:FuncData
 ygQ:Addr
 ygR:FuncData
 yfT:Addr
 yfU:FuncData
 yfl:Addr
 yfm:FuncData
 yeE:Addr
 yeF:FuncData
 yfV:Addr
 yfW:FuncData
 yee:Addr
 yef:FuncData
 yfn:Addr
 yfo:FuncData
 yfX:Addr
 yfY:FuncData
 yeG:Addr
 yeH:FuncData
 yeg:Addr
 yeh:FuncData
 ydC:Addr
 ydD:FuncData
 yeI:Addr
 yeJ:FuncData
 ygB:Addr
 ygC:FuncData
 yis:Addr
 yit:FuncData
 yfp:Addr
 yfq:FuncData
 yhs:Addr
 yht:FuncData
 yeP:Addr
 yeQ:FuncData
 a_alone:Addr
 d_alone:FuncData
 ygS:Addr
 ygT:FuncData
 yei:Addr
 yej:FuncData
 yfZ:Addr
 yga:FuncData
 yeK:Addr
 yeL:FuncData
 ydS:Addr
 ydT:FuncData
 yfG:Addr
 yfH:FuncData
 yhN:Addr
 yhO:FuncData
 yhP:Addr
 yhQ:FuncData
 yhR:Addr
 yhS:FuncData
 yhT:Addr
 yhU:FuncData
 yjl:Addr
 yjm:FuncData
 yjn:Addr
 yjo:FuncData
 yhV:Addr
 yhW:FuncData
 yhX:Addr
 yhY:FuncData
 ykC:Addr
 ykD:FuncData
 ygb:Addr
 ygc:FuncData
 yhZ:Addr
 yia:FuncData
 ymc:Addr
 ymd:FuncData
 ylj:Addr
 ylk:FuncData
 ykE:Addr
 ykF:FuncData
 a_law:Addr
 d_law:FuncData
 k_DONE:Addr
 k_SLOTS:Tok
 k_WAITS:Addr
 k_WIDE:Tok
abbrev ybC (K:PySem.W.Frag) (t:Ads):Ck:=⟨K,t.A⟩
structure Txt (K:PySem.W.Frag) (mg:Str->Option Value) (t:Ads):Prop where
 yqi:Fun K "__init__" "Log.__init__" ybR t.yfR t.yfS
 yqj:Binds K t.yfS ["self"] []
 yvT:Fun K "write" "Log.write" ydf t.yjf t.yjg
 yvU:Binds K t.yjg ["self","box","number"] []
 yAO:Fun K "own" "Log.own" yfg t.ykb t.ykc
 ytX:Binds K t.ykc ["self","box"] []
 yvV:Fun K "begin" "Log.begin" ydg t.yjh t.yji
 yvW:Binds K t.yji ["self"] []
 ytY:Fun K "settle" "Log.settle" ycB t.yhL t.yhM
 ytZ:Binds K t.yhM ["self"] []
 yye:Fun K "drop" "Log.drop" yea t.ykA t.ykB
 yyf:Binds K t.ykB ["self"] []
 yAP:Fun K "see" "Log.see" yfh t.ylY t.ylZ
 yAQ:Binds K t.ylZ ["self","box","number"] []
 yAR:Fun K "saw" "Log.saw" yfi t.yma t.ymb
 yua:Binds K t.ymb ["self"] []
 yvX:Fun K "wrote" "Log.wrote" ydh t.yjj t.yjk
 yvY:Binds K t.yjk ["self"] []
 F_reckon:Fun K "reckon" "reckon" ygP t.a_reckon t.d_reckon
 b_reckon:Binds K t.d_reckon ["word","one","other"] []
 m_reckon:mg "reckon" = some (.ref t.a_reckon)
 ykd:Fun K "slot_index" "slot_index" ycC t.ygp t.ygq
 yns:Binds K t.ygq ["slot"] []
 ynt:mg "slot_index" = some (.ref t.ygp)
 ypr:Fun K "__init__" "Doer.__init__" ybF t.ydP t.yfk
 yps:Binds K t.yfk ["self","slots","width"] []
 yqk:Fun K "held_in" "Doer.held_in" ybS t.ycO t.ycP
 ydy:Binds K t.ycP ["self","slot"] []
 yvZ:Fun K "hold" "Doer.hold" ydi t.ydQ t.ydR
 yhu:Binds K t.ydR ["self","slot","number"] []
 ysh:Fun K "box_at" "Doer.box_at" ycd t.ydn t.ydo
 ygU:Binds K t.ydo ["self","place"] []
 ynR:Fun K "do_reckon" "Doer.do_reckon" ybo t.yeC t.yeD
 ynS:Binds K t.yeD ["self","word","slot","one","other"] []
 ysi:Fun K "do_put" "Doer.do_put" yce t.ygQ t.ygR
 ysj:Binds K t.ygR ["self","place","slot"] []
 yql:Fun K "sees_at" "Doer.sees_at" ybT t.yfT t.yfU
 yqm:Binds K t.yfU ["self","place"] []
 ypt:Fun K "take_own" "Doer.take_own" ybG t.yfl t.yfm
 ypu:Binds K t.yfm ["self","slot","place"] []
 ynT:Fun K "take_seen" "Doer.take_seen" ybp t.yeE t.yeF
 ynU:Binds K t.yeF ["self","slot","place","numbers"] []
 yqn:Fun K "__init__" "Let.__init__" ybU t.yfV t.yfW
 yqo:Binds K t.yfW ["self","slot","number"] []
 ymU:Fun K "__init__" "Reckon.__init__" ybh t.yee t.yef
 ymV:Binds K t.yef ["self","word","slot","one","other"] []
 ypv:Fun K "__init__" "Take.__init__" ybH t.yfn t.yfo
 ypw:Binds K t.yfo ["self","slot","place"] []
 yqp:Fun K "__init__" "Put.__init__" ybV t.yfX t.yfY
 yqq:Binds K t.yfY ["self","place","slot"] []
 ynV:Fun K "__init__" "Doing.__init__" ybq t.yeG t.yeH
 ynW:Binds K t.yeH ["self","boxes","slots"] []
 ymW:Fun K "take_done" "Doing.take_done" ybi t.yeg t.yeh
 ymX:Binds K t.yeh ["self","part"] []
 yme:Fun K "plain_done" "Doing.plain_done" yZ t.ydC t.ydD
 ymf:Binds K t.ydD ["self","part"] []
 ynX:Fun K "list_end" "Doing.list_end" ybr t.yeI t.yeJ
 ycy:Binds K t.yeJ ["self","parts"] []
 ynY:Fun K "part_end" "Doing.part_end" ybs t.ygB t.ygC
 ynZ:Binds K t.ygC ["self","part"] []
 yqr:Fun K "if_end" "Doing.if_end" ybW t.yis t.yit
 yqs:Binds K t.yit ["self","part"] []
 ymg:Fun K "either_end" "Doing.either_end" yba t.yfp t.yfq
 ymh:Binds K t.yfq ["self","part"] []
 ypx:Fun K "try_end" "Doing.try_end" ybI t.yhs t.yht
 ypy:Binds K t.yht ["self","part"] []
 yll:Fun K "layered_end" "Doing.layered_end" yT t.yeP t.yeQ
 yhv:Binds K t.yeQ ["self","parts"] []
 F_alone:Fun K "alone" "alone" yjc t.a_alone t.d_alone
 b_alone:Binds K t.d_alone ["deed","boxes","slots"] []
 m_alone:mg "alone" = some (.ref t.a_alone)
 ysk:Fun K "__init__" "If.__init__" ycf t.ygS t.ygT
 ysl:Binds K t.ygT ["self","slot","parts","others"] []
 ymY:Fun K "__init__" "Either.__init__" ybj t.yei t.yej
 ymZ:Binds K t.yej ["self","parts","others"] []
 yqt:Fun K "__init__" "Try.__init__" ybX t.yfZ t.yga
 yqu:Binds K t.yga ["self","parts","name","slot","others"] []
 yoa:Fun K "__init__" "Throw.__init__" ybt t.yeK t.yeL
 yob:Binds K t.yeL ["self","name","slot"] []
 ygr:Fun K "_law_mixed" "_law_mixed" ycD t.ydS t.ydT
 yib:Binds K t.ydT ["_law_cell"] []
 yic:mg "_law_mixed" = some (.ref t.ydS)
 yjp:Fun K "_law_wide" "_law_wide" ydj t.yfG t.yfH
 ylm:Binds K t.yfH ["_law_cell"] []
 yln:mg "_law_wide" = some (.ref t.yfG)
 yid:Fun K "_law_alike" "_law_alike" ycE t.yhN t.yhO
 yke:Binds K t.yhO ["_law_found","_law_due_here"] []
 ykf:mg "_law_alike" = some (.ref t.yhN)
 ynu:Fun K "_law_names" "_law_names" ycF t.yhP t.yhQ
 yub:Binds K t.yhQ ["_law_cell"] []
 yuc:mg "_law_names" = some (.ref t.yhP)
 ynv:Fun K "_law_plain" "_law_plain" ycG t.yhR t.yhS
 yud:Binds K t.yhS ["_law_mixed_here","_law_cell"] []
 yue:mg "_law_plain" = some (.ref t.yhR)
 ynw:Fun K "_law_sided" "_law_sided" ycH t.yhT t.yhU
 yuf:Binds K t.yhU ["_law_mixed_here","_law_one","_law_other","_law_names_here"] []
 yug:mg "_law_sided" = some (.ref t.yhT)
 yjq:Fun K "_law_tree" "_law_tree" ydk t.yjl t.yjm
 ylo:Binds K t.yjm ["_law_cells","_law_depth","_law_names_here"] []
 ylp:mg "_law_tree" = some (.ref t.yjl)
 ydU:Fun K "_law_made" "_law_made" ydl t.yjn t.yjo
 yeR:Binds K t.yjo ["_law_tree_here"] []
 yeS:mg "_law_made" = some (.ref t.yjn)
 ynx:Fun K "_law_boxes" "_law_boxes" ycI t.yhV t.yhW
 yuh:Binds K t.yhW ["_law_cell"] []
 yui:mg "_law_boxes" = some (.ref t.yhV)
 yny:Fun K "_law_slots" "_law_slots" ycJ t.yhX t.yhY
 yuj:Binds K t.yhY ["_law_cell"] []
 yuk:mg "_law_slots" = some (.ref t.yhX)
 yqS:Fun K "_law_sum" "_law_sum" yeb t.ykC t.ykD
 yyg:Binds K t.ykD ["_law_word","_law_one","_law_other"] []
 yyh:mg "_law_sum" = some (.ref t.ykC)
 ykK:Fun K "_law_plainly" "_law_plainly" ybY t.ygb t.ygc
 yqv:Binds K t.ygc ["_law_part_here","_law_boxes_here","_law_saw","_law_slots_here","_law_written"] []
 yqw:mg "_law_plainly" = some (.ref t.ygb)
 yie:Fun K "_law_pairs" "_law_pairs" ycK t.yhZ t.yia
 ykg:Binds K t.yia ["_law_found"] []
 ykh:mg "_law_pairs" = some (.ref t.yhZ)
 yhw:Fun K "_law_do" "_law_do" yfj t.ymc t.ymd
 yiG:Binds K t.ymd ["_law_tree_here","_law_boxes_here","_law_saw","_law_slots_here","_law_written"] []
 yiH:mg "_law_do" = some (.ref t.ymc)
 ypz:Fun K "_law_part" "_law_part" ydm t.ylj t.ylk
 ywa:Binds K t.ylk ["_law_part_here","_law_boxes_here","_law_saw","_law_slots_here","_law_written"] []
 ywb:mg "_law_part" = some (.ref t.ylj)
 yqT:Fun K "_law_due" "_law_due" yec t.ykE t.ykF
 yyi:Binds K t.ykF ["_law_tree_here","_law_boxes_here","_law_slots_here"] []
 yyj:mg "_law_due" = some (.ref t.ykE)
 F_law:Fun K "law" "law" ynN t.a_law t.d_law
 b_law:Binds K t.d_law ["_law_script"] []
 m_law:mg "law" = some (.ref t.a_law)
 m_Log:mg "Log" = some (.ref (t.A 0))
 mk_Log:Mk K (t.A 0) t.yfR
 m_Doing:mg "Doing" = some (.ref (t.A 1))
 mk_Doing:Mk K (t.A 1) t.yeG
 m_Doer:mg "Doer" = some (.ref (t.A 2))
 mk_Doer:Mk K (t.A 2) t.ydP
 m_Let:mg "Let" = some (.ref (t.A 3))
 mk_Let:Mk K (t.A 3) t.yfV
 m_Reckon:mg "Reckon" = some (.ref (t.A 4))
 mk_Reckon:Mk K (t.A 4) t.yee
 m_Take:mg "Take" = some (.ref (t.A 5))
 mk_Take:Mk K (t.A 5) t.yfn
 m_Put:mg "Put" = some (.ref (t.A 6))
 mk_Put:Mk K (t.A 6) t.yfX
 m_If:mg "If" = some (.ref (t.A 7))
 mk_If:Mk K (t.A 7) t.ygS
 m_Either:mg "Either" = some (.ref (t.A 8))
 mk_Either:Mk K (t.A 8) t.yei
 m_Try:mg "Try" = some (.ref (t.A 9))
 mk_Try:Mk K (t.A 9) t.yfZ
 m_Throw:mg "Throw" = some (.ref (t.A 10))
 mk_Throw:Mk K (t.A 10) t.yeK
 m_Wait:mg "Wait" = some (.ref (t.A 11))
 mk_Wait:makesIn K (t.A 11)=true
 io_Wait:findIn K (.ref (t.A 11)) "__init__" = some (some (.builtin "object.__init__"))
 kp_Wait:keepIn K (.ref (t.A 11))=true
 yul:ylx K (t.A 0) "write" t.yjf
 yqU:ylx K (t.A 0) "own" t.ykb
 yum:ylx K (t.A 0) "begin" t.yjh
 ysm:ylx K (t.A 0) "settle" t.yhL
 ywc:ylx K (t.A 0) "drop" t.ykA
 yyk:ylx K (t.A 0) "see" t.ylY
 yqV:ylx K (t.A 0) "saw" t.yma
 yun:ylx K (t.A 0) "wrote" t.yjj
 ms_Doing_held_in:ylx K (t.A 1) "held_in" t.ycO
 ms_Doing_hold:ylx K (t.A 1) "hold" t.ydQ
 ms_Doing_box_at:ylx K (t.A 1) "box_at" t.ydn
 ms_Doing_do_reckon:ylx K (t.A 1) "do_reckon" t.yeC
 ms_Doing_do_put:ylx K (t.A 1) "do_put" t.ygQ
 ms_Doing_sees_at:ylx K (t.A 1) "sees_at" t.yfT
 ms_Doing_take_own:ylx K (t.A 1) "take_own" t.yfl
 ms_Doing_take_seen:ylx K (t.A 1) "take_seen" t.yeE
 ymi:ylx K (t.A 1) "take_done" t.yeg
 ylq:ylx K (t.A 1) "plain_done" t.ydC
 yck:ylx K (t.A 1) "list_end" t.yeI
 yna:ylx K (t.A 1) "part_end" t.ygB
 ypA:ylx K (t.A 1) "if_end" t.yis
 ylr:ylx K (t.A 1) "either_end" t.yfp
 yoc:ylx K (t.A 1) "try_end" t.yhs
 ygJ:ylx K (t.A 1) "layered_end" t.yeP
 cf_Doer:yGJ K (t.A 2) "__init__" t.ydP
 cl:∀ k,Cls K (t.A k)
 fa:Fa (ybC K t)
 z_bool:mg "bool" = none
 z_dict:mg "dict" = none
 z_int:mg "int" = none
 z_isinstance:mg "isinstance" = none
 z_len:mg "len" = none
 z_list:mg "list" = none
 z_max:mg "max" = none
 z_range:mg "range" = none
 z_reversed:mg "reversed" = none
 z_sorted:mg "sorted" = none
 z_str:mg "str" = none
 z_sum:mg "sum" = none
 z_tuple:mg "tuple" = none
 m_DONE:mg "DONE" = some (.ref t.k_DONE)
 kt_DONE:KTp K t.k_DONE ((["done"]:List Str).map V.str)
 m_SLOTS:mg "SLOTS" = some (.str "abcdefgh" t.k_SLOTS)
 m_WAITS:mg "WAITS" = some (.ref t.k_WAITS)
 kt_WAITS:KTp K t.k_WAITS ((["waits"]:List Str).map V.str)
 m_WIDE:mg "WIDE" = some (.int 18446744073709551616 t.k_WIDE)
theorem ypB:Nm "DONE":=⟨by rfl',by rfl',by rfl'⟩
theorem yGZ:Nm "Doer":=⟨by rfl',by rfl',by rfl'⟩
theorem yDh:Nm "Doing":=⟨by rfl',by rfl',by rfl'⟩
theorem yuo:Nm "Either":=⟨by rfl',by rfl',by rfl'⟩
theorem yJH:Nm "If":=⟨by rfl',by rfl',by rfl'⟩
theorem yEJ:Nm "Let":=⟨by rfl',by rfl',by rfl'⟩
theorem yJI:Nm "Log":=⟨by rfl',by rfl',by rfl'⟩
theorem yEK:Nm "Put":=⟨by rfl',by rfl',by rfl'⟩
theorem yup:Nm "Reckon":=⟨by rfl',by rfl',by rfl'⟩
theorem yDi:Nm "SLOTS":=⟨by rfl',by rfl',by rfl'⟩
theorem yAS:Nm "Take":=⟨by rfl',by rfl',by rfl'⟩
theorem yxe:Nm "Throw":=⟨by rfl',by rfl',by rfl'⟩
theorem yEL:Nm "Try":=⟨by rfl',by rfl',by rfl'⟩
theorem yxf:Nm "WAITS":=⟨by rfl',by rfl',by rfl'⟩
theorem ywd:Nm "WIDE":=⟨by rfl',by rfl',by rfl'⟩
theorem yAT:Nm "Wait":=⟨by rfl',by rfl',by rfl'⟩
theorem yjr:Nm "_law_alike":=⟨by rfl',by rfl',by rfl'⟩
theorem ycl:Nm "_law_at":=⟨by rfl',by rfl',by rfl'⟩
theorem ydV:Nm "_law_box":=⟨by rfl',by rfl',by rfl'⟩
theorem ysn:Nm "_law_boxes":=⟨by rfl',by rfl',by rfl'⟩
theorem yp:Nm "_law_boxes_here":=⟨by rfl',by rfl',by rfl'⟩
theorem yci:Nm "_law_cell":=⟨by rfl',by rfl',by rfl'⟩
theorem ydp:Nm "_law_cells":=⟨by rfl',by rfl',by rfl'⟩
theorem yki:Nm "_law_deed":=⟨by rfl',by rfl',by rfl'⟩
theorem yjs:Nm "_law_depth":=⟨by rfl',by rfl',by rfl'⟩
theorem yha:Nm "_law_do":=⟨by rfl',by rfl',by rfl'⟩
theorem ywe:Nm "_law_due":=⟨by rfl',by rfl',by rfl'⟩
theorem ybd:Nm "_law_due_here":=⟨by rfl',by rfl',by rfl'⟩
theorem yjt:Nm "_law_end":=⟨by rfl',by rfl',by rfl'⟩
theorem yU:Nm "_law_found":=⟨by rfl',by rfl',by rfl'⟩
theorem ycj:Nm "_law_handed":=⟨by rfl',by rfl',by rfl'⟩
theorem ydw:Nm "_law_k":=⟨by rfl',by rfl',by rfl'⟩
theorem yuq:Nm "_law_left":=⟨by rfl',by rfl',by rfl'⟩
theorem ycs:Nm "_law_letters":=⟨by rfl',by rfl',by rfl'⟩
theorem ydW:Nm "_law_made":=⟨by rfl',by rfl',by rfl'⟩
theorem yq:Nm "_law_made_here":=⟨by rfl',by rfl',by rfl'⟩
theorem ybZ:Nm "_law_many":=⟨by rfl',by rfl',by rfl'⟩
theorem ygV:Nm "_law_mixed":=⟨by rfl',by rfl',by rfl'⟩
theorem ym:Nm "_law_mixed_here":=⟨by rfl',by rfl',by rfl'⟩
theorem ynz:Nm "_law_more":=⟨by rfl',by rfl',by rfl'⟩
theorem ynA:Nm "_law_name":=⟨by rfl',by rfl',by rfl'⟩
theorem yso:Nm "_law_names":=⟨by rfl',by rfl',by rfl'⟩
theorem yS:Nm "_law_names_here":=⟨by rfl',by rfl',by rfl'⟩
theorem yQ:Nm "_law_one":=⟨by rfl',by rfl',by rfl'⟩
theorem yK:Nm "_law_other":=⟨by rfl',by rfl',by rfl'⟩
theorem yju:Nm "_law_pairs":=⟨by rfl',by rfl',by rfl'⟩
theorem yur:Nm "_law_part":=⟨by rfl',by rfl',by rfl'⟩
theorem yd:Nm "_law_part_here":=⟨by rfl',by rfl',by rfl'⟩
theorem ysp:Nm "_law_plain":=⟨by rfl',by rfl',by rfl'⟩
theorem ypC:Nm "_law_plainly":=⟨by rfl',by rfl',by rfl'⟩
theorem ydX:Nm "_law_rest":=⟨by rfl',by rfl',by rfl'⟩
theorem yct:Nm "_law_saw":=⟨by rfl',by rfl',by rfl'⟩
theorem yiu:Nm "_law_script":=⟨by rfl',by rfl',by rfl'⟩
theorem yus:Nm "_law_side":=⟨by rfl',by rfl',by rfl'⟩
theorem ysq:Nm "_law_sided":=⟨by rfl',by rfl',by rfl'⟩
theorem ynB:Nm "_law_sign":=⟨by rfl',by rfl',by rfl'⟩
theorem ynC:Nm "_law_size":=⟨by rfl',by rfl',by rfl'⟩
theorem ykj:Nm "_law_slot":=⟨by rfl',by rfl',by rfl'⟩
theorem ysr:Nm "_law_slots":=⟨by rfl',by rfl',by rfl'⟩
theorem yi:Nm "_law_slots_here":=⟨by rfl',by rfl',by rfl'⟩
theorem yut:Nm "_law_some":=⟨by rfl',by rfl',by rfl'⟩
theorem ynD:Nm "_law_stop":=⟨by rfl',by rfl',by rfl'⟩
theorem yss:Nm "_law_stops":=⟨by rfl',by rfl',by rfl'⟩
theorem ywf:Nm "_law_sum":=⟨by rfl',by rfl',by rfl'⟩
theorem ymj:Nm "_law_third":=⟨by rfl',by rfl',by rfl'⟩
theorem ykk:Nm "_law_tree":=⟨by rfl',by rfl',by rfl'⟩
theorem yE:Nm "_law_tree_here":=⟨by rfl',by rfl',by rfl'⟩
theorem ydq:Nm "_law_tried":=⟨by rfl',by rfl',by rfl'⟩
theorem yuu:Nm "_law_turn":=⟨by rfl',by rfl',by rfl'⟩
theorem ydY:Nm "_law_way":=⟨by rfl',by rfl',by rfl'⟩
theorem ykl:Nm "_law_wide":=⟨by rfl',by rfl',by rfl'⟩
theorem yeX:Nm "_law_word":=⟨by rfl',by rfl',by rfl'⟩
theorem yB:Nm "_law_written":=⟨by rfl',by rfl',by rfl'⟩
theorem yxg:Nm "alone":=⟨by rfl',by rfl',by rfl'⟩
theorem yAU:Nm "before":=⟨by rfl',by rfl',by rfl'⟩
theorem yyl:Nm "beneath":=⟨by rfl',by rfl',by rfl'⟩
theorem yHa:Nm "bool":=⟨by rfl',by rfl',by rfl'⟩
theorem ypD:Nm "box":=⟨by rfl',by rfl',by rfl'⟩
theorem yst:Nm "boxes":=⟨by rfl',by rfl',by rfl'⟩
theorem yHb:Nm "deed":=⟨by rfl',by rfl',by rfl'⟩
theorem ywg:Nm "dict":=⟨by rfl',by rfl',by rfl'⟩
theorem ymk:Nm "doing":=⟨by rfl',by rfl',by rfl'⟩
theorem yiI:Nm "end":=⟨by rfl',by rfl',by rfl'⟩
theorem yuv:Nm "int":=⟨by rfl',by rfl',by rfl'⟩
theorem yL:Nm "isinstance":=⟨by rfl',by rfl',by rfl'⟩
theorem yxh:Nm "layer":=⟨by rfl',by rfl',by rfl'⟩
theorem ykm:Nm "len":=⟨by rfl',by rfl',by rfl'⟩
theorem yda:Nm "list":=⟨by rfl',by rfl',by rfl'⟩
theorem yAV:Nm "lowest":=⟨by rfl',by rfl',by rfl'⟩
theorem yJJ:Nm "max":=⟨by rfl',by rfl',by rfl'⟩
theorem yAW:Nm "name":=⟨by rfl',by rfl',by rfl'⟩
theorem yml:Nm "number":=⟨by rfl',by rfl',by rfl'⟩
theorem yqW:Nm "numbers":=⟨by rfl',by rfl',by rfl'⟩
theorem ypE:Nm "one":=⟨by rfl',by rfl',by rfl'⟩
theorem yjv:Nm "other":=⟨by rfl',by rfl',by rfl'⟩
theorem ypF:Nm "others":=⟨by rfl',by rfl',by rfl'⟩
theorem yV:Nm "part":=⟨by rfl',by rfl',by rfl'⟩
theorem ymm:Nm "parts":=⟨by rfl',by rfl',by rfl'⟩
theorem yjw:Nm "place":=⟨by rfl',by rfl',by rfl'⟩
theorem yAX:Nm "reckon":=⟨by rfl',by rfl',by rfl'⟩
theorem yl:Nm "self":=⟨by rfl',by rfl',by rfl'⟩
theorem yfr:Nm "slot":=⟨by rfl',by rfl',by rfl'⟩
theorem ymn:Nm "slot_index":=⟨by rfl',by rfl',by rfl'⟩
theorem yop:Nm "slots":=⟨by rfl',by rfl',by rfl'⟩
theorem ypG:Nm "sorted":=⟨by rfl',by rfl',by rfl'⟩
theorem yEM:Nm "str":=⟨by rfl',by rfl',by rfl'⟩
theorem yAY:Nm "sum":=⟨by rfl',by rfl',by rfl'⟩
theorem yEN:Nm "top":=⟨by rfl',by rfl',by rfl'⟩
theorem yxi:Nm "tuple":=⟨by rfl',by rfl',by rfl'⟩
theorem yDj:Nm "width":=⟨by rfl',by rfl',by rfl'⟩
theorem ynb:Nm "word":=⟨by rfl',by rfl',by rfl'⟩
section
variable {P:Program}{w:World}{K:PySem.W.Frag}{mg:Str->Option Value}{base:Heap}{t:Ads}
theorem yAZ {n:Nat}{ck:Ck}{vs:List V}{H:Hp}{Q:VK}{E:XK}(h:spE ck n (fun _ _=>none) vs H Q E):False:=by
 obtain ⟨_,_,_,_,_,_,_,_,q,_⟩:=h
 cases q
theorem yhx {f:Addr}{fd:FuncData}{ps:List Str}{k n:Nat}{ck:Ck}:FnOk P w K mg base CX0 k f fd ps (spE ck n fun _ _=>none):=⟨fun vs H Q E h=>(yAZ h).elim,fun A outer s H args us vs Q E _ _ _ _ h=>(yAZ h).elim⟩
theorem ypH (T:Txt K mg t) :FnOk P w K mg base CX0 (0+1) t.yfR t.yfS ["self"] (spI (ybC K t) 0 0 yeu):=by
 have fa:=T.fa
 exact zin T.yqi ypk rfl (by decide) fun cdv Ar outer sh H E hr=>(ycz (ycV fa.fl_stack (ybx (i:=0) rfl (Or.inl rfl) yl.d yl.c) (ygw (ygh (ya (ygw ytv) yf rfl))) rfl) (yhg (ycV fa.fl_last_seen (ybx (i:=0) rfl (Or.inl rfl) yl.d yl.c) (ygw ytv) rfl)))
theorem yuw (T:Txt K mg t) :FnOk P w K mg base CX0 (0+1) t.yjf t.yjg ["self","box","number"] (spE (ybC K t) 3 yhh):=by
 have fa:=T.fa
 exact zfn T.yvT ynq fun cdv Ar outer sh H E hr=>(ye (yz (i:=3) ynq.nd rfl (Or.inl rfl) (ybM ix_list ydZ (ycc fa.fl_stack (z_v 0 yl) rfl) (yMt yDs yIf z_int) (fun _ _=>rfl)) rfl (Or.inl rfl)) (yh (yrv (yrb hr) (z_v 3 yEN) (z_v 1 ypD) (z_v 2 yml) rfl)))
theorem yym (T:Txt K mg t) :FnOk P w K mg base CX0 (0+1) t.ykb t.ykc ["self","box"] (spE (ybC K t) 2 ygi):=by
 have fa:=T.fa
 exact zfn T.yAO yqR fun cdv Ar outer sh H E hr=>(ye (yGF PassesOwn.never rfl rfl T.z_reversed (ycc fa.fl_stack (z_v 0 yl) rfl) rfl rfl (yeO (i:=2) yqR.nd rfl (Or.inl rfl) (Or.inl rfl)) (yh (ybg (yIX (yrb hr) (z_v 1 ypD) (z_v 2 yxh) (by with_unfolding_all rfl)) (yh (yv (yDY (yrb hr) (z_v 2 yxh) (z_v 1 ypD) (fun _ _=>rfl)))) yA)) (fun _=>rfl)) (yh (yv yvr)))
theorem yux (T:Txt K mg t) :FnOk P w K mg base CX0 (0+1) t.yjh t.yji ["self"] (spE (ybC K t) 1 yhi):=by
 have fa:=T.fa
 exact zfn T.yvV ytU fun cdv Ar outer sh H E hr=>(yh (yco (ytu PySem.F.plainAttrs_list PySem.F.slot_list_append PySem.F.type_list_append yhb ywH (ycc fa.fl_stack (z_v 0 yl) rfl) (ya (ygw ytv) yf rfl) rfl rfl rfl rfl rfl) rfl))
theorem ysu (T:Txt K mg t) :FnOk P w K mg base CX0 (0+1) t.yhL t.yhM ["self"] (spE (ybC K t) 1 ygj):=by
 have fa:=T.fa
 exact zfn T.ytY yjd fun cdv Ar outer sh H E hr=>(ye (yz (i:=1) yjd.nd rfl (Or.inl rfl) (yIV PySem.F.plainAttrs_list PySem.F.slot_list_pop PySem.F.type_list_pop yDy yDQ (ycc fa.fl_stack (z_v 0 yl) rfl) rfl rfl) rfl (Or.inl rfl)) (ye (yz (i:=2) yjd.nd rfl (Or.inl rfl) (ybM ix_list ydZ (ycc fa.fl_stack (z_v 0 yl) rfl) (yMt yDs yIf z_int) (fun _ _=>rfl)) rfl (Or.inl rfl)) (yh (yco (ytu PySem.F.plainAttrs_dict PySem.F.slot_dict_update PySem.F.type_dict_update yJc yLy (z_v 2 yyl) (ya (z_v 1 yEN) yf rfl) rfl rfl rfl rfl rfl) rfl))))
theorem ywh (T:Txt K mg t) :FnOk P w K mg base CX0 (0+1) t.ykA t.ykB ["self"] (spE (ybC K t) 1 ygZ):=by
 have fa:=T.fa
 exact zfn T.yye yvR fun cdv Ar outer sh H E hr=>(yh (yco (yIV PySem.F.plainAttrs_list PySem.F.slot_list_pop PySem.F.type_list_pop yDy yDQ (ycc fa.fl_stack (z_v 0 yl) rfl) rfl rfl) rfl))
theorem yyn (T:Txt K mg t) :FnOk P w K mg base CX0 (0+1) t.ylY t.ylZ ["self","box","number"] (spE (ybC K t) 3 yjN):=by
 have fa:=T.fa
 exact zfn T.yAP yyc fun cdv Ar outer sh H E hr=>(yh (yrv (yrb hr) (ycc fa.fl_last_seen (z_v 0 yl) rfl) (z_v 1 ypD) (z_v 2 yml) rfl))
theorem yyo (T:Txt K mg t) :FnOk P w K mg base CX0 (0+1) t.yma t.ymb ["self"] (spE (ybC K t) 1 yhj):=by
 have fa:=T.fa
 exact zfn T.yAR yyd fun cdv Ar outer sh H E hr=>(yh (yv (ygw (PXS.z_sortI rfl (ycc fa.fl_last_seen (z_v 0 yl) rfl) ypG rfl T.z_sorted yoL rfl rfl rfl rfl))))
theorem yuy (T:Txt K mg t) :FnOk P w K mg base CX0 (0+1) t.yjj t.yjk ["self"] (spE (ybC K t) 1 yhk):=by
 have fa:=T.fa
 exact zfn T.yvX ynr fun cdv Ar outer sh H E hr=>(ye (yz (i:=1) ynr.nd rfl (Or.inl rfl) (ybM ix_list ydZ (ycc fa.fl_stack (z_v 0 yl) rfl) z_int (fun _ _=>rfl)) rfl (Or.inl rfl)) (yh (yv (ygw (PXS.z_sortI rfl (z_v 1 yAV) ypG rfl T.z_sorted yoL rfl rfl rfl rfl)))))
theorem yBa (T:Txt K mg t) :FnOk P w K mg base CX0 (0+1) t.a_reckon t.d_reckon ["word","one","other"] (spE (ybC K t) 3 ylM):=by
 have fa:=T.fa
 exact zfn T.F_reckon yAN fun cdv Ar outer sh H E hr=>(ye (ybg (yO ydc yiK (z_v 0 ynb) z_str (yF _)) (yh (yv (ybL ybm ycM (ybL ydF yhd (z_v 1 ypE) (z_v 2 yjv)) (yzN ywd rfl T.m_WIDE)))) yA) (ye (ybg (yO ydc yiK (z_v 0 ynb) z_str (yF _)) (yh (yv (ybL ybm ycM (ybL ywo yCa (z_v 1 ypE) (z_v 2 yjv)) (yzN ywd rfl T.m_WIDE)))) yA) (ye (ybg (yO ydc yiK (z_v 0 ynb) z_str (yF _)) (yh (yv (ybL ybm ycM (ybL yor yvh (z_v 1 ypE) (z_v 2 yjv)) (yzN ywd rfl T.m_WIDE)))) yA) (ye (ybg (yO ydc yiK (z_v 0 ynb) z_str (yF _)) (yh (yv (yIT (yO ysE yDI (z_v 1 ypE) (z_v 2 yjv) (yF _)) z_int z_int))) yA) (yh (yv (yIT (yO ydc yiK (z_v 1 ypE) (z_v 2 yjv) (yF _)) z_int z_int)))))))
theorem ysv (T:Txt K mg t) :FnOk P w K mg base CX0 (0+1) t.ygp t.ygq ["slot"] (spE (ybC K t) 1 ydG):=by
 have fa:=T.fa
 exact zfn T.ykd yse fun cdv Ar outer sh H E hr=>(yh (yv (ytu PySem.F.plainAttrs_str PySem.F.slot_str_find PySem.F.type_str_find ygy yeB (yIR yDi rfl T.m_SLOTS) (ya (z_v 0 yfr) yf rfl) rfl rfl rfl rfl rfl)))
theorem ypI (T:Txt K mg t) (yeY:FnOk P w K mg base CX0 (1) t.ygp t.ygq ["slot"] (spE (ybC K t) 1 ydG)):FnOk P w K mg base CX0 (1+1) t.ycO t.ycP ["self","slot"] (spE (ybC K t) 2 yY):=by
 have fa:=T.fa
 exact zfn T.yqk ypl fun cdv Ar outer sh H E hr=>(yh (yv (ybM ix_list ydZ (ycc fa.fl_held (z_v 0 yl) rfl) (ybn yeY (hr.mono (by omega)) ymn rfl T.ynt T.ykd.kp T.yns (ya (z_v 1 yfr) yf rfl) rfl rfl) (fun _ _=>rfl))))
theorem yuz (T:Txt K mg t) (yeY:FnOk P w K mg base CX0 (1) t.ygp t.ygq ["slot"] (spE (ybC K t) 1 ydG)):FnOk P w K mg base CX0 (1+1) t.ydQ t.ydR ["self","slot","number"] (spE (ybC K t) 3 ybO):=by
 have fa:=T.fa
 exact zfn T.yvZ ytV fun cdv Ar outer sh H E hr=>(yh (ykS (z_v 2 yml) (ycc fa.fl_held (z_v 0 yl) rfl) (ybn yeY (hr.mono (by omega)) ymn rfl T.ynt T.ykd.kp T.yns (ya (z_v 1 yfr) yf rfl) rfl rfl) (fun _=>rfl) rfl rfl rfl))
theorem yqx (T:Txt K mg t) (yN:FnOk P w K mg base CX0 (2) t.ycO t.ycP ["self","slot"] (spE (ybC K t) 2 yY)):FnOk P w K mg base CX0 (2+1) t.ydn t.ydo ["self","place"] (spE (ybC K t) 2 ybE):=by
 have fa:=T.fa
 exact zfn T.ysh yqf fun cdv Ar outer sh H E hr=>(yh (yv (ybL ybm ycM (yW (z_v 0 yl) (T.cl 1) T.ms_Doing_held_in yN (hr.mono (by omega)) T.ydy (ya (z_v 1 yjw) yf rfl) rfl rfl rfl) (ycc fa.fl_width (z_v 0 yl) rfl))))
theorem yod (T:Txt K mg t) (yiv:FnOk P w K mg base CX0 (1) t.yfR t.yfS ["self"] (spI (ybC K t) 0 0 yeu)):FnOk P w K mg base CX0 (2+1) t.ydP t.yfk ["self","slots","width"] (spJ (ybC K t) 2 1 ydH):=by
 have fa:=T.fa
 exact yMN T.ypr ynO rfl (by decide) fun cdv Ar outer sh H E hr=>(ycz (ycV fa.fl_held (ybx (i:=0) rfl (Or.inl rfl) yl.d yl.c) (ygw (yem yI ycb yda rfl T.z_list ycT (ya (z_v 1 yop) yf rfl) rfl rfl)) rfl) (ycz (ycV fa.fl_width (ybx (i:=0) rfl (Or.inl rfl) yl.d yl.c) (z_v 2 yDj) rfl) (yhg (ycV fa.fl_log (ybx (i:=0) rfl (Or.inl rfl) yl.d yl.c) (ygw (yGH T.mk_Log yiv (hr.mono (by omega)) yJI rfl T.m_Log T.yqj)) rfl))))
theorem ync (T:Txt K mg t) (yN:FnOk P w K mg base CX0 (2) t.ycO t.ycP ["self","slot"] (spE (ybC K t) 2 yY)) (ybl:FnOk P w K mg base CX0 (2) t.ydQ t.ydR ["self","slot","number"] (spE (ybC K t) 3 ybO)) (G_reckon:FnOk P w K mg base CX0 (1) t.a_reckon t.d_reckon ["word","one","other"] (spE (ybC K t) 3 ylM)):FnOk P w K mg base CX0 (2+1) t.yeC t.yeD ["self","word","slot","one","other"] (spE (ybC K t) 5 yds):=by
 have fa:=T.fa
 exact zfn T.ynR ymQ fun cdv Ar outer sh H E hr=>(yh (yco (yW (z_v 0 yl) (T.cl 1) T.ms_Doing_hold ybl (hr.mono (by omega)) T.yhu (ya (z_v 2 yfr) (ya (ybn G_reckon (hr.mono (by omega)) yAX rfl T.m_reckon T.F_reckon.kp T.b_reckon (ya (z_v 1 ynb) (ya (yW (z_v 0 yl) (T.cl 1) T.ms_Doing_held_in yN (hr.mono (by omega)) T.ydy (ya (z_v 3 ypE) yf rfl) rfl rfl rfl) (ya (yW (z_v 0 yl) (T.cl 1) T.ms_Doing_held_in yN (hr.mono (by omega)) T.ydy (ya (z_v 4 yjv) yf rfl) rfl rfl rfl) yf rfl) rfl) rfl) rfl rfl) yf rfl) rfl) rfl rfl rfl) rfl))
theorem yqy (T:Txt K mg t) (ybv:FnOk P w K mg base CX0 (3) t.ydn t.ydo ["self","place"] (spE (ybC K t) 2 ybE)) (yN:FnOk P w K mg base CX0 (2) t.ycO t.ycP ["self","slot"] (spE (ybC K t) 2 yY)) (yls:FnOk P w K mg base CX0 (1) t.yjf t.yjg ["self","box","number"] (spE (ybC K t) 3 yhh)):FnOk P w K mg base CX0 (3+1) t.ygQ t.ygR ["self","place","slot"] (spE (ybC K t) 3 yfd):=by
 have fa:=T.fa
 exact zfn T.ysi yqg fun cdv Ar outer sh H E hr=>(yh (yco (yW (ycc fa.fl_log (z_v 0 yl) rfl) (T.cl 0) T.yul yls (hr.mono (by omega)) T.yvU (ya (yW (z_v 0 yl) (T.cl 1) T.ms_Doing_box_at ybv (hr.mono (by omega)) T.ygU (ya (z_v 1 yjw) yf rfl) rfl rfl rfl) (ya (yW (z_v 0 yl) (T.cl 1) T.ms_Doing_held_in yN (hr.mono (by omega)) T.ydy (ya (z_v 2 yfr) yf rfl) rfl rfl rfl) yf rfl) rfl) rfl rfl rfl) rfl))
theorem ypJ (T:Txt K mg t) (ybv:FnOk P w K mg base CX0 (3) t.ydn t.ydo ["self","place"] (spE (ybC K t) 2 ybE)) (yiJ:FnOk P w K mg base CX0 (1) t.ykb t.ykc ["self","box"] (spE (ybC K t) 2 ygi)):FnOk P w K mg base CX0 (3+1) t.yfT t.yfU ["self","place"] (spE (ybC K t) 2 yev):=by
 have fa:=T.fa
 exact zfn T.yql ypm fun cdv Ar outer sh H E hr=>(yh (yv (yxQ yyD yFP (yW (ycc fa.fl_log (z_v 0 yl) rfl) (T.cl 0) T.yqU yiJ (hr.mono (by omega)) T.ytX (ya (yW (z_v 0 yl) (T.cl 1) T.ms_Doing_box_at ybv (hr.mono (by omega)) T.ygU (ya (z_v 1 yjw) yf rfl) rfl rfl rfl) yf rfl) rfl rfl rfl) yvr (yF _))))
theorem yoe (T:Txt K mg t) (ybv:FnOk P w K mg base CX0 (3) t.ydn t.ydo ["self","place"] (spE (ybC K t) 2 ybE)) (ybl:FnOk P w K mg base CX0 (2) t.ydQ t.ydR ["self","slot","number"] (spE (ybC K t) 3 ybO)) (yiJ:FnOk P w K mg base CX0 (1) t.ykb t.ykc ["self","box"] (spE (ybC K t) 2 ygi)):FnOk P w K mg base CX0 (3+1) t.yfl t.yfm ["self","slot","place"] (spE (ybC K t) 3 ydI):=by
 have fa:=T.fa
 exact zfn T.ypt ynP fun cdv Ar outer sh H E hr=>(yh (yco (yW (z_v 0 yl) (T.cl 1) T.ms_Doing_hold ybl (hr.mono (by omega)) T.yhu (ya (z_v 1 yfr) (ya (yW (ycc fa.fl_log (z_v 0 yl) rfl) (T.cl 0) T.yqU yiJ (hr.mono (by omega)) T.ytX (ya (yW (z_v 0 yl) (T.cl 1) T.ms_Doing_box_at ybv (hr.mono (by omega)) T.ygU (ya (z_v 2 yjw) yf rfl) rfl rfl rfl) yf rfl) rfl rfl rfl) yf rfl) rfl) rfl rfl rfl) rfl))
theorem ynd (T:Txt K mg t) (ybv:FnOk P w K mg base CX0 (3) t.ydn t.ydo ["self","place"] (spE (ybC K t) 2 ybE)) (ybl:FnOk P w K mg base CX0 (2) t.ydQ t.ydR ["self","slot","number"] (spE (ybC K t) 3 ybO)) (ypK:FnOk P w K mg base CX0 (1) t.ylY t.ylZ ["self","box","number"] (spE (ybC K t) 3 yjN)):FnOk P w K mg base CX0 (3+1) t.yeE t.yeF ["self","slot","place","numbers"] (spE (ybC K t) 4 ydt):=by
 have fa:=T.fa
 exact zfn T.ynT yiE fun cdv Ar outer sh H E hr=>(ye (yz (i:=4) yiE.nd rfl (Or.inl rfl) (yW (z_v 0 yl) (T.cl 1) T.ms_Doing_box_at ybv (hr.mono (by omega)) T.ygU (ya (z_v 2 yjw) yf rfl) rfl rfl rfl) rfl (Or.inl rfl)) (ye (yco (yW (ycc fa.fl_log (z_v 0 yl) rfl) (T.cl 0) T.yyk ypK (hr.mono (by omega)) T.yAQ (ya (z_v 4 ypD) (ya (ybM ix_list ydZ (z_v 3 yqW) (z_v 4 ypD) (fun _ _=>rfl)) yf rfl) rfl) rfl rfl rfl) rfl) (yh (yco (yW (z_v 0 yl) (T.cl 1) T.ms_Doing_hold ybl (hr.mono (by omega)) T.yhu (ya (z_v 1 yfr) (ya (ybM ix_list ydZ (z_v 3 yqW) (z_v 4 ypD) (fun _ _=>rfl)) yf rfl) rfl) rfl rfl rfl) rfl))))
theorem ypL (T:Txt K mg t) :FnOk P w K mg base CX0 (0+1) t.yfV t.yfW ["self","slot","number"] (spI (ybC K t) 2 3 yew):=by
 have fa:=T.fa
 exact zin T.yqn ypn rfl (by decide) fun cdv Ar outer sh H E hr=>(ycz (ycV fa.fl_slot (ybx (i:=0) rfl (Or.inl rfl) yl.d yl.c) (z_v 1 yfr) rfl) (yhg (ycV fa.fl_number (ybx (i:=0) rfl (Or.inl rfl) yl.d yl.c) (z_v 2 yml) rfl)))
theorem ymo (T:Txt K mg t) :FnOk P w K mg base CX0 (0+1) t.yee t.yef ["self","word","slot","one","other"] (spI (ybC K t) 4 4 ycW):=by
 have fa:=T.fa
 exact zin T.ymU ylU rfl (by decide) fun cdv Ar outer sh H E hr=>(ycz (ycV fa.fl_word (ybx (i:=0) rfl (Or.inl rfl) yl.d yl.c) (z_v 1 ynb) rfl) (ycz (ycV fa.fl_slot (ybx (i:=0) rfl (Or.inl rfl) yl.d yl.c) (z_v 2 yfr) rfl) (ycz (ycV fa.fl_one (ybx (i:=0) rfl (Or.inl rfl) yl.d yl.c) (z_v 3 ypE) rfl) (yhg (ycV fa.fl_other (ybx (i:=0) rfl (Or.inl rfl) yl.d yl.c) (z_v 4 yjv) rfl)))))
theorem yof (T:Txt K mg t) :FnOk P w K mg base CX0 (0+1) t.yfn t.yfo ["self","slot","place"] (spI (ybC K t) 2 5 ydJ):=by
 have fa:=T.fa
 exact zin T.ypv ynQ rfl (by decide) fun cdv Ar outer sh H E hr=>(ycz (ycV fa.fl_slot (ybx (i:=0) rfl (Or.inl rfl) yl.d yl.c) (z_v 1 yfr) rfl) (yhg (ycV fa.fl_place (ybx (i:=0) rfl (Or.inl rfl) yl.d yl.c) (z_v 2 yjw) rfl)))
theorem ypM (T:Txt K mg t) :FnOk P w K mg base CX0 (0+1) t.yfX t.yfY ["self","place","slot"] (spI (ybC K t) 2 6 yex):=by
 have fa:=T.fa
 exact zin T.yqp ypo rfl (by decide) fun cdv Ar outer sh H E hr=>(ycz (ycV fa.fl_place (ybx (i:=0) rfl (Or.inl rfl) yl.d yl.c) (z_v 1 yjw) rfl) (yhg (ycV fa.fl_slot (ybx (i:=0) rfl (Or.inl rfl) yl.d yl.c) (z_v 2 yfr) rfl)))
theorem yqz (T:Txt K mg t) :FnOk P w K mg base CX0 (0+1) t.ygS t.ygT ["self","slot","parts","others"] (spI (ybC K t) 3 7 yff):=by
 have fa:=T.fa
 exact zin T.ysk yqh rfl (by decide) fun cdv Ar outer sh H E hr=>(ycz (ycV fa.fl_slot (ybx (i:=0) rfl (Or.inl rfl) yl.d yl.c) (z_v 1 yfr) rfl) (ycz (ycV fa.fl_parts (ybx (i:=0) rfl (Or.inl rfl) yl.d yl.c) (ygY (yem yI ycb yda rfl T.z_list ycT (ya (z_v 2 ymm) yf rfl) rfl rfl)) rfl) (yhg (ycV fa.fl_others (ybx (i:=0) rfl (Or.inl rfl) yl.d yl.c) (ygY (yem yI ycb yda rfl T.z_list ycT (ya (z_v 3 ypF) yf rfl) rfl rfl)) rfl))))
theorem ymp (T:Txt K mg t) :FnOk P w K mg base CX0 (0+1) t.yei t.yej ["self","parts","others"] (spI (ybC K t) 2 8 ycY):=by
 have fa:=T.fa
 exact zin T.ymY ylW rfl (by decide) fun cdv Ar outer sh H E hr=>(ycz (ycV fa.fl_parts (ybx (i:=0) rfl (Or.inl rfl) yl.d yl.c) (ygY (yem yI ycb yda rfl T.z_list ycT (ya (z_v 1 ymm) yf rfl) rfl rfl)) rfl) (yhg (ycV fa.fl_others (ybx (i:=0) rfl (Or.inl rfl) yl.d yl.c) (ygY (yem yI ycb yda rfl T.z_list ycT (ya (z_v 2 ypF) yf rfl) rfl rfl)) rfl)))
theorem ypN (T:Txt K mg t) :FnOk P w K mg base CX0 (0+1) t.yfZ t.yga ["self","parts","name","slot","others"] (spI (ybC K t) 4 9 yey):=by
 have fa:=T.fa
 exact zin T.yqt ypq rfl (by decide) fun cdv Ar outer sh H E hr=>(ycz (ycV fa.fl_parts (ybx (i:=0) rfl (Or.inl rfl) yl.d yl.c) (ygY (yem yI ycb yda rfl T.z_list ycT (ya (z_v 1 ymm) yf rfl) rfl rfl)) rfl) (ycz (ycV fa.fl_name (ybx (i:=0) rfl (Or.inl rfl) yl.d yl.c) (z_v 2 yAW) rfl) (ycz (ycV fa.fl_slot (ybx (i:=0) rfl (Or.inl rfl) yl.d yl.c) (z_v 3 yfr) rfl) (yhg (ycV fa.fl_others (ybx (i:=0) rfl (Or.inl rfl) yl.d yl.c) (ygY (yem yI ycb yda rfl T.z_list ycT (ya (z_v 4 ypF) yf rfl) rfl rfl)) rfl)))))
theorem yne (T:Txt K mg t) :FnOk P w K mg base CX0 (0+1) t.yeK t.yeL ["self","name","slot"] (spI (ybC K t) 2 10 ydv):=by
 have fa:=T.fa
 exact zin T.yoa ymT rfl (by decide) fun cdv Ar outer sh H E hr=>(ycz (ycV fa.fl_name (ybx (i:=0) rfl (Or.inl rfl) yl.d yl.c) (z_v 1 yAW) rfl) (yhg (ycV fa.fl_slot (ybx (i:=0) rfl (Or.inl rfl) yl.d yl.c) (z_v 2 yfr) rfl)))
theorem ynf (T:Txt K mg t) (yhy:FnOk P w K mg base CX0 (3) t.ydP t.yfk ["self","slots","width"] (spJ (ybC K t) 2 1 ydH)):FnOk P w K mg base CX0 (4+1) t.yeG t.yeH ["self","boxes","slots"] (spI (ybC K t) 2 1 ydu):=by
 have fa:=T.fa
 exact zin T.ynV ymR rfl (by decide) fun cdv Ar outer sh H E hr=>(ycz (yGL T.cf_Doer yGZ rfl T.m_Doer yhy (hr.mono (by omega)) T.yps (ybx (i:=0) rfl (Or.inl rfl) yl.d yl.c) (ya (z_v 2 yop) (ya (ykI ych ykH ykm rfl T.z_len yjG (ya (z_v 1 yst) yf rfl) rfl rfl) yf rfl) rfl) rfl rfl rfl rfl) (yhg (ycV fa.fl_found (ybx (i:=0) rfl (Or.inl rfl) yl.d yl.c) (ygY (yem yI ycb yda rfl T.z_list ycT (ya (z_v 1 yst) yf rfl) rfl rfl)) rfl)))
theorem ymq (T:Txt K mg t) (yiw:FnOk P w K mg base CX0 (4) t.yfT t.yfU ["self","place"] (spE (ybC K t) 2 yev)) (yhz:FnOk P w K mg base CX0 (4) t.yfl t.yfm ["self","slot","place"] (spE (ybC K t) 3 ydI)) (ygD:FnOk P w K mg base CX0 (4) t.yeE t.yeF ["self","slot","place","numbers"] (spE (ybC K t) 4 ydt)):FnOk P w K mg base CX0 (4+1) t.yeg t.yeh ["self","part"] (spE (ybC K t) 2 ycX):=by
 have fa:=T.fa
 exact zfn T.ymW ylV fun cdv Ar outer sh H E hr=>(yh (ybg (yfy (yW (z_v 0 yl) (T.cl 1) T.ms_Doing_sees_at yiw (hr.mono (by omega)) T.yqm (ya (ycc fa.fl_place (z_v 1 yV) rfl) yf rfl) rfl rfl rfl) (fun _=>rfl)) (yh (yco (yW (z_v 0 yl) (T.cl 1) T.ms_Doing_take_seen ygD (hr.mono (by omega)) T.ynU (ya (ycc fa.fl_slot (z_v 1 yV) rfl) (ya (ycc fa.fl_place (z_v 1 yV) rfl) (ya (ycc fa.fl_found (z_v 0 yl) rfl) yf rfl) rfl) rfl) rfl rfl rfl) rfl)) (yh (yco (yW (z_v 0 yl) (T.cl 1) T.ms_Doing_take_own yhz (hr.mono (by omega)) T.ypu (ya (ycc fa.fl_slot (z_v 1 yV) rfl) (ya (ycc fa.fl_place (z_v 1 yV) rfl) yf rfl) rfl) rfl rfl rfl) rfl))))
theorem ylt (T:Txt K mg t) (yjx:FnOk P w K mg base CX0 (4) t.ygQ t.ygR ["self","place","slot"] (spE (ybC K t) 3 yfd)) (ygE:FnOk P w K mg base CX0 (3) t.yeC t.yeD ["self","word","slot","one","other"] (spE (ybC K t) 5 yds)) (ybl:FnOk P w K mg base CX0 (2) t.ydQ t.ydR ["self","slot","number"] (spE (ybC K t) 3 ybO)) (yfI:FnOk P w K mg base CX0 (5) t.yeg t.yeh ["self","part"] (spE (ybC K t) 2 ycX)):FnOk P w K mg base CX0 (5+1) t.ydC t.ydD ["self","part"] (spE (ybC K t) 2 ycA):=by
 have fa:=T.fa
 exact zfn T.yme yli fun cdv Ar outer sh H E hr=>(ye (ybg (yfy (ykI ybb (yjI (K:=ckX _ _) fa.isa) yL rfl T.z_isinstance yJ (ya (z_v 1 yV) (ya (ylJ yEJ rfl T.m_Let) yf rfl) rfl) rfl rfl) (fun _=>rfl)) (yh (yco (yW (z_v 0 yl) (T.cl 1) T.ms_Doing_hold ybl (hr.mono (by omega)) T.yhu (ya (ycc fa.fl_slot (z_v 1 yV) rfl) (ya (ycc fa.fl_number (z_v 1 yV) rfl) yf rfl) rfl) rfl rfl rfl) rfl)) yA) (ye (ybg (yfy (ykI ybb (yjI (K:=ckX _ _) fa.isa) yL rfl T.z_isinstance yJ (ya (z_v 1 yV) (ya (ylJ yup rfl T.m_Reckon) yf rfl) rfl) rfl rfl) (fun _=>rfl)) (yh (yco (yW (z_v 0 yl) (T.cl 1) T.ms_Doing_do_reckon ygE (hr.mono (by omega)) T.ynS (ya (ycc fa.fl_word (z_v 1 yV) rfl) (ya (ycc fa.fl_slot (z_v 1 yV) rfl) (ya (ycc fa.fl_one (z_v 1 yV) rfl) (ya (ycc fa.fl_other (z_v 1 yV) rfl) yf rfl) rfl) rfl) rfl) rfl rfl rfl) rfl)) yA) (ye (ybg (yfy (ykI ybb (yjI (K:=ckX _ _) fa.isa) yL rfl T.z_isinstance yJ (ya (z_v 1 yV) (ya (ylJ yAS rfl T.m_Take) yf rfl) rfl) rfl rfl) (fun _=>rfl)) (yh (yco (yW (z_v 0 yl) (T.cl 1) T.ymi yfI (hr.mono (by omega)) T.ymX (ya (z_v 1 yV) yf rfl) rfl rfl rfl) rfl)) yA) (yh (ybg (yfy (ykI ybb (yjI (K:=ckX _ _) fa.isa) yL rfl T.z_isinstance yJ (ya (z_v 1 yV) (ya (ylJ yEK rfl T.m_Put) yf rfl) rfl) rfl rfl) (fun _=>rfl)) (yh (yco (yW (z_v 0 yl) (T.cl 1) T.ms_Doing_do_put yjx (hr.mono (by omega)) T.ysj (ya (ycc fa.fl_place (z_v 1 yV) rfl) (ya (ycc fa.fl_slot (z_v 1 yV) rfl) yf rfl) rfl) rfl rfl rfl) rfl)) yA)))))
structure yMU (P:Program) (w:World) (K:PySem.W.Frag) (mg:Str->Option Value) (base:Heap) (t:Ads) (n:Nat):Prop where
 yjD:FnOk P w K mg base CX0 (n+8) t.yeI t.yeJ ["self","parts"] (spE (ybC K t) 2 (ybc n))
 yjE:FnOk P w K mg base CX0 (n+8) t.ygB t.ygC ["self","part"] (spE (ybC K t) 2 (yH n))
 ykL:FnOk P w K mg base CX0 (n+8) t.yis t.yit ["self","part"] (spE (ybC K t) 2 (yfP n))
 yif:FnOk P w K mg base CX0 (n+8) t.yfp t.yfq ["self","part"] (spE (ybC K t) 2 (ydB n))
 ykn:FnOk P w K mg base CX0 (n+8) t.yhs t.yht ["self","part"] (spE (ybC K t) 2 (yfe n))
 yhA:FnOk P w K mg base CX0 (n+8) t.yeP t.yeQ ["self","parts"] (spE (ybC K t) 2 (ycp n))
theorem yBb (T:Txt K mg t) (yN:FnOk P w K mg base CX0 (2) t.ycO t.ycP ["self","slot"] (spE (ybC K t) 2 yY)) (ybl:FnOk P w K mg base CX0 (2) t.ydQ t.ydR ["self","slot","number"] (spE (ybC K t) 3 ybO)) (ydE:FnOk P w K mg base CX0 (6) t.ydC t.ydD ["self","part"] (spE (ybC K t) 2 ycA)) (yjy:FnOk P w K mg base CX0 (1) t.yjh t.yji ["self"] (spE (ybC K t) 1 yhi)) (ykG:FnOk P w K mg base CX0 (1) t.ykA t.ykB ["self"] (spE (ybC K t) 1 ygZ)) (yig:FnOk P w K mg base CX0 (1) t.yhL t.yhM ["self"] (spE (ybC K t) 1 ygj)) :∀ n,yMU P w K mg base t n
 | 0=>⟨yhx,yhx,yhx,yhx,yhx,yhx⟩
 | n+1=>by
  have fa:=T.fa
  have I:=yBb T yN ybl ydE yjy ykG yig n
  have ybw:=I.yjD
  have yjF:=I.yjE
  have ykM:=I.ykL
  have yih:=I.yif
  have yko:=I.ykn
  have yeT:=I.yhA
  exact ⟨zfn T.ynX yfF fun cdv Ar outer sh H E hr=>(ye (ynm PassesOwn.never rfl (yru (z_v 1 ymm)) (yeO (i:=2) yfF.nd rfl (Or.inl rfl) (Or.inl rfl)) (ye (yz (i:=3) yfF.nd rfl (Or.inl rfl) (yW (z_v 0 yl) (T.cl 1) T.yna yjF (hr.mono (by omega)) T.ynZ (ya (z_v 2 yV) yf rfl) rfl rfl rfl) rfl (Or.inl rfl)) (yh (ybg (yO (yzU (yqM hr)) yGq (z_v 3 yiI) (yoR (ss:=["done"]) ypB rfl T.m_DONE T.kt_DONE) (yF _)) (yh (yv (z_v 3 yiI))) yA))) (fun _=>rfl)) (yh (yv (yoR (ss:=["done"]) ypB rfl T.m_DONE T.kt_DONE)))),
   zfn T.ynY ymS fun cdv Ar outer sh H E hr=>(ye (ybg (yfy (ykI ybb (yjI (K:=ckX _ _) fa.isa) yL rfl T.z_isinstance yJ (ya (z_v 1 yV) (ya (ylJ yJH rfl T.m_If) yf rfl) rfl) rfl rfl) (fun _=>rfl)) (yh (yv (yW (z_v 0 yl) (T.cl 1) T.ypA ykM (hr.mono (by omega)) T.yqs (ya (z_v 1 yV) yf rfl) rfl rfl rfl))) yA) (ye (ybg (yfy (ykI ybb (yjI (K:=ckX _ _) fa.isa) yL rfl T.z_isinstance yJ (ya (z_v 1 yV) (ya (ylJ yuo rfl T.m_Either) yf rfl) rfl) rfl rfl) (fun _=>rfl)) (yh (yv (yW (z_v 0 yl) (T.cl 1) T.ylr yih (hr.mono (by omega)) T.ymh (ya (z_v 1 yV) yf rfl) rfl rfl rfl))) yA) (ye (ybg (yfy (ykI ybb (yjI (K:=ckX _ _) fa.isa) yL rfl T.z_isinstance yJ (ya (z_v 1 yV) (ya (ylJ yEL rfl T.m_Try) yf rfl) rfl) rfl rfl) (fun _=>rfl)) (yh (yv (yW (z_v 0 yl) (T.cl 1) T.yoc yko (hr.mono (by omega)) T.ypy (ya (z_v 1 yV) yf rfl) rfl rfl rfl))) yA) (ye (ybg (yfy (ykI ybb (yjI (K:=ckX _ _) fa.isa) yL rfl T.z_isinstance yJ (ya (z_v 1 yV) (ya (ylJ yxe rfl T.m_Throw) yf rfl) rfl) rfl rfl) (fun _=>rfl)) (yh (yv (yeq (ya z_str (ya (ycc fa.fl_name (z_v 1 yV) rfl) (ya (yW (z_v 0 yl) (T.cl 1) T.ms_Doing_held_in yN (hr.mono (by omega)) T.ydy (ya (ycc fa.fl_slot (z_v 1 yV) rfl) yf rfl) rfl rfl rfl) yf rfl) rfl) rfl)))) yA) (ye (ybg (yfy (ykI ybb (yjI (K:=ckX _ _) fa.isa) yL rfl T.z_isinstance yJ (ya (z_v 1 yV) (ya (ylJ yAT rfl T.m_Wait) yf rfl) rfl) rfl rfl) (fun _=>rfl)) (yh (yv (yoR (ss:=["waits"]) yxf rfl T.m_WAITS T.kt_WAITS))) yA) (ye (yco (yW (z_v 0 yl) (T.cl 1) T.ylq ydE (hr.mono (by omega)) T.ymf (ya (z_v 1 yV) yf rfl) rfl rfl rfl) rfl) (yh (yv (yoR (ss:=["done"]) ypB rfl T.m_DONE T.kt_DONE))))))))),
   zfn T.yqr ypp fun cdv Ar outer sh H E hr=>(ye (ybg (yO yyC yIg (yW (z_v 0 yl) (T.cl 1) T.ms_Doing_held_in yN (hr.mono (by omega)) T.ydy (ya (ycc fa.fl_slot (z_v 1 yV) rfl) yf rfl) rfl rfl rfl) z_int (yF _)) (yh (yv (yW (z_v 0 yl) (T.cl 1) T.yck ybw (hr.mono (by omega)) T.ycy (ya (ycc fa.fl_parts (z_v 1 yV) rfl) yf rfl) rfl rfl rfl))) yA) (yh (yv (yW (z_v 0 yl) (T.cl 1) T.yck ybw (hr.mono (by omega)) T.ycy (ya (ycc fa.fl_others (z_v 1 yV) rfl) yf rfl) rfl rfl rfl)))),
   zfn T.ymg yhq fun cdv Ar outer sh H E hr=>(ye (yz (i:=2) yhq.nd rfl (Or.inl rfl) (yW (z_v 0 yl) (T.cl 1) T.ygJ yeT (hr.mono (by omega)) T.yhv (ya (ycc fa.fl_parts (z_v 1 yV) rfl) yf rfl) rfl rfl rfl) rfl (Or.inl rfl)) (ye (ybg (yO (yzT (yqM hr)) yGp (z_v 2 yiI) (yoR (ss:=["waits"]) yxf rfl T.m_WAITS T.kt_WAITS) (yF _)) (yh (yv (yW (z_v 0 yl) (T.cl 1) T.yck ybw (hr.mono (by omega)) T.ycy (ya (ycc fa.fl_others (z_v 1 yV) rfl) yf rfl) rfl rfl rfl))) yA) (yh (yv (z_v 2 yiI))))),
   zfn T.ypx yjC fun cdv Ar outer sh H E hr=>(ye (yz (i:=2) yjC.nd rfl (Or.inl rfl) (yW (z_v 0 yl) (T.cl 1) T.ygJ yeT (hr.mono (by omega)) T.yhv (ya (ycc fa.fl_parts (z_v 1 yV) rfl) yf rfl) rfl rfl rfl) rfl (Or.inl rfl)) (ye (ybg (yJW (yIU (yO ydc yiK (ybM ix_tup ybk (z_v 2 yiI) z_int (fun _ _=>rfl)) z_str (yF _)) (yGw (yO ydc yiK (ybM ix_tup ybk (z_v 2 yiI) z_int (fun _ _=>rfl)) (ycc fa.fl_name (z_v 1 yV) rfl) (yF _))))) (ye (yco (yW (z_v 0 yl) (T.cl 1) T.ms_Doing_hold ybl (hr.mono (by omega)) T.yhu (ya (ycc fa.fl_slot (z_v 1 yV) rfl) (ya (ybM ix_tup ybk (z_v 2 yiI) z_int (fun _ _=>rfl)) yf rfl) rfl) rfl rfl rfl) rfl) (yh (yv (yW (z_v 0 yl) (T.cl 1) T.yck ybw (hr.mono (by omega)) T.ycy (ya (ycc fa.fl_others (z_v 1 yV) rfl) yf rfl) rfl rfl rfl)))) yA) (yh (yv (z_v 2 yiI))))),
   zfn T.yll yer fun cdv Ar outer sh H E hr=>(ye (yz (i:=2) yer.nd rfl (Or.inl rfl) (ygw (yem yI ycb yda rfl T.z_list ycT (ya (ycc fa.fl_held (z_v 0 yl) rfl) yf rfl) rfl rfl)) rfl (Or.inl rfl)) (ye (yco (ykw (ycc fa.fl_log (z_v 0 yl) rfl) (T.cl 0) T.yum yjy (hr.mono (by omega)) T.yvW rfl) rfl) (ye (yz (i:=3) yer.nd rfl (Or.inl rfl) (yW (z_v 0 yl) (T.cl 1) T.yck ybw (hr.mono (by omega)) T.ycy (ya (z_v 1 ymm) yf rfl) rfl rfl rfl) rfl (Or.inl rfl)) (ye (ybg (yO (yzT (yqM hr)) yGp (z_v 3 yiI) (yoR (ss:=["done"]) ypB rfl T.m_DONE T.kt_DONE) (yF _)) (yh (yco (ykw (ycc fa.fl_log (z_v 0 yl) rfl) (T.cl 0) T.ysm yig (hr.mono (by omega)) T.ytZ rfl) rfl)) (ye (yco (ykw (ycc fa.fl_log (z_v 0 yl) rfl) (T.cl 0) T.ywc ykG (hr.mono (by omega)) T.yyf rfl) rfl) (yh (yGC fa.fl_held (z_v 0 yl) (z_v 2 yAU) rfl)))) (yh (yv (z_v 3 yiI)))))))⟩
theorem yDk (T:Txt K mg t) (ygF:FnOk P w K mg base CX0 (5) t.yeG t.yeH ["self","boxes","slots"] (spI (ybC K t) 2 1 ydu)) (ybw:FnOk P w K mg base CX0 (28) t.yeI t.yeJ ["self","parts"] (spE (ybC K t) 2 (ybc 20))) (ymr:FnOk P w K mg base CX0 (1) t.yma t.ymb ["self"] (spE (ybC K t) 1 yhj)) (ylu:FnOk P w K mg base CX0 (1) t.yjj t.yjk ["self"] (spE (ybC K t) 1 yhk)):FnOk P w K mg base CX0 (28+1) t.a_alone t.d_alone ["deed","boxes","slots"] (spE (ybC K t) 3 ymF):=by
 have fa:=T.fa
 exact zfn T.F_alone sc_alone fun cdv Ar outer sh H E hr=>(ye (yz (i:=3) sc_alone.nd rfl (Or.inl rfl) (ygw (ylK T.mk_Doing ygF (hr.mono (by omega)) yDh rfl T.m_Doing T.ynW (ya (z_v 1 yst) (ya (z_v 2 yop) yf rfl) rfl) rfl rfl)) rfl (Or.inl rfl)) (ye (yz (i:=4) sc_alone.nd rfl (Or.inl rfl) (yW (z_v 3 ymk) (T.cl 1) T.yck ybw (hr.mono (by omega)) T.ycy (ya (z_v 0 yHb) yf rfl) rfl rfl rfl) rfl (Or.inl rfl)) (ye (ybg (yO (yzT (yqM hr)) yGp (z_v 4 yiI) (yoR (ss:=["done"]) ypB rfl T.m_DONE T.kt_DONE) (yF _)) (yh (yv (yeq (ya (z_v 4 yiI) (ya (ykw (ycc fa.fl_log (z_v 3 ymk) rfl) (T.cl 0) T.yqV ymr (hr.mono (by omega)) T.yua rfl) (ya (ykw (ycc fa.fl_log (z_v 3 ymk) rfl) (T.cl 0) T.yun ylu (hr.mono (by omega)) T.yvY rfl) (ya (ygw (yem yI ycb yda rfl T.z_list ycT (ya (ycc fa.fl_held (z_v 3 ymk) rfl) yf rfl) rfl rfl)) yf rfl) rfl) rfl) rfl)))) yA) (yh (yv (yeq (ya (z_v 4 yiI) (ya (ykw (ycc fa.fl_log (z_v 3 ymk) rfl) (T.cl 0) T.yqV ymr (hr.mono (by omega)) T.yua rfl) (ya (ygw (ygh yf)) (ya (ygw (yem yI ycb yda rfl T.z_list ycT (ya (z_v 2 yop) yf rfl) rfl rfl)) yf rfl) rfl) rfl) rfl)))))))
theorem ysw (T:Txt K mg t) :FnOk P w K mg base CX0 (0+1) t.ydS t.ydT ["_law_cell"] (spE (ybC K t) 1 ybK):=by
 have fa:=T.fa
 exact zfn T.ygr ysf fun cdv Ar outer sh H E hr=>(yh (yv (ybL ybm ycM (ybL yor yvh (z_v 0 yci) z_int) z_int)))
theorem yuA (T:Txt K mg t) :FnOk P w K mg base CX0 (0+1) t.yfG t.yfH ["_law_cell"] (spE (ybC K t) 1 yde):=by
 have fa:=T.fa
 exact zfn T.yjp ytW fun cdv Ar outer sh H E hr=>(yh (yv (ybL ybm ycM (ybL yor yvh (z_v 0 yci) z_int) (ybL ywp yCb z_int z_int))))
structure yMV (P:Program) (w:World) (K:PySem.W.Frag) (mg:Str->Option Value) (base:Heap) (t:Ads) (n:Nat):Prop where
 ynE:FnOk P w K mg base CX0 (n+3) t.yhN t.yhO ["_law_found","_law_due_here"] (spE (ybC K t) 2 (yx n))
theorem yBc (T:Txt K mg t)  :∀ n,yMV P w K mg base t n
 | 0=>⟨yhx⟩
 | n+1=>by
  have fa:=T.fa
  have I:=yBc T  n
  have yeZ:=I.ynE
  exact ⟨zfn T.yid ylX fun cdv Ar outer sh H E hr=>(ye (ybg (yfy (ykI ybb (yjI (K:=ckX _ _) fa.isa) yL rfl T.z_isinstance yJ (ya (z_v 1 ybd) (ya (yts yuv rfl T.z_int ysR) yf rfl) rfl) rfl rfl) (fun _=>rfl)) (yh (yv (yGv (ykI ybb (yjI (K:=ckX _ _) fa.isa) yL rfl T.z_isinstance yJ (ya (z_v 0 yU) (ya (yts yuv rfl T.z_int ysR) yf rfl) rfl) rfl rfl) (yGv (yLz (ykI ybb (yjI (K:=ckX _ _) fa.isa) yL rfl T.z_isinstance yJ (ya (z_v 0 yU) (ya (yts yHa rfl T.z_bool yFo) yf rfl) rfl) rfl rfl)) (yIS (yxQ ydc yiK (z_v 0 yU) (z_v 1 ybd) (yF _))))))) yA) (ye (ybg (yfy (ykI ybb (yjI (K:=ckX _ _) fa.isa) yL rfl T.z_isinstance yJ (ya (z_v 1 ybd) (ya (yts yEM rfl T.z_str yDA) yf rfl) rfl) rfl rfl) (fun _=>rfl)) (yh (yv (yGv (ykI ybb (yjI (K:=ckX _ _) fa.isa) yL rfl T.z_isinstance yJ (ya (z_v 0 yU) (ya (yts yEM rfl T.z_str yDA) yf rfl) rfl) rfl rfl) (yIS (yxQ ydc yiK (z_v 0 yU) (z_v 1 ybd) (yF _)))))) yA) (ye (ybg (yfy (ykI ybb (yjI (K:=ckX _ _) fa.isa) yL rfl T.z_isinstance yJ (ya (z_v 1 ybd) (ya (yts yxi rfl T.z_tuple ywv) yf rfl) rfl) rfl rfl) (fun _=>rfl)) (yh (ybg (ytt (yfy (ykI ybb (yjI (K:=ckX _ _) fa.isa) yL rfl T.z_isinstance yJ (ya (z_v 0 yU) (ya (yts yxi rfl T.z_tuple ywv) yf rfl) rfl) rfl rfl) (fun _=>rfl))) (yh (yv yCC)) yA)) (yh (ybg (ytt (yfy (ykI ybb (yjI (K:=ckX _ _) fa.isa) yL rfl T.z_isinstance yJ (ya (z_v 0 yU) (ya (yts yda rfl T.z_list ycT) yf rfl) rfl) rfl rfl) (fun _=>rfl))) (yh (yv yCC)) yA))) (ye (ybg (yO yyC yIg (ykI ych ykH ykm rfl T.z_len yjG (ya (z_v 0 yU) yf rfl) rfl rfl) (ykI ych ykH ykm rfl T.z_len yjG (ya (z_v 1 ybd) yf rfl) rfl rfl) (yF _)) (yh (yv yCC)) yA) (ye (ynm PassesOwn.never rfl (yoI rfl T.z_range (ya (ykI ych ykH ykm rfl T.z_len yjG (ya (z_v 1 ybd) yf rfl) rfl rfl) yf rfl) rfl) (yeO (i:=2) ylX.nd rfl (Or.inl rfl) (Or.inl rfl)) (yh (ybg (ytt (yfy (ybn yeZ (hr.mono (by omega)) yjr rfl T.ykf T.yid.kp T.yke (ya (ybM ysL yzB (z_v 0 yU) (z_v 2 ydw) (fun _ _=>rfl)) (ya (ybM ysL yzB (z_v 1 ybd) (z_v 2 ydw) (fun _ _=>rfl)) yf rfl) rfl) rfl rfl) (fun _=>rfl))) (yh (yv yCC)) yA)) (fun _=>rfl)) (yh (yv yCC)))))))⟩
theorem ysx (T:Txt K mg t) (ybA:FnOk P w K mg base CX0 (1) t.ydS t.ydT ["_law_cell"] (spE (ybC K t) 1 ybK)):FnOk P w K mg base CX0 (1+1) t.yhP t.yhQ ["_law_cell"] (spE (ybC K t) 1 ygk):=by
 have fa:=T.fa
 exact zfn T.ynu ybu fun cdv Ar outer sh H E hr=>(ye (yz (i:=1) ybu.nd rfl (Or.inl rfl) z_str rfl (Or.inl rfl)) (ye (yz (i:=2) ybu.nd rfl (Or.inl rfl) (ybn ybA (hr.mono (by omega)) ygV rfl T.yic T.ygr.kp T.yib (ya (z_v 0 yci) yf rfl) rfl rfl) rfl (Or.inl rfl)) (ye (yz (i:=3) ybu.nd rfl (Or.inl rfl) (ybL ydF yhd z_int (ybL ybm ycM (z_v 2 ym) z_int)) rfl (Or.inl rfl)) (ye (yz (i:=4) ybu.nd rfl (Or.inl rfl) (ybL ybm ycM (ybL yby yeN (z_v 2 ym) z_int) (z_v 3 ynC)) rfl (Or.inl rfl)) (ye (yoJ (i:=5) ybu.nd rfl (Or.inl rfl) (ygh yf) rfl (Or.inl rfl)) (ye (ynm PassesOwn.never rfl (yoI rfl T.z_range (ya z_int yf rfl) rfl) (yeO (i:=6) ybu.nd rfl (Or.inl rfl) (Or.inl rfl)) (ye (yz (i:=7) ybu.nd rfl (Or.inl rfl) z_str rfl (Or.inl rfl)) (ye (ynm PassesOwn.never rfl (yoI rfl T.z_range (ya (z_v 3 ynC) yf rfl) rfl) (yeO (i:=8) ybu.nd rfl (Or.inl rfl) (Or.inl rfl)) (ye (yz (i:=9) ybu.nd rfl (Or.inl rfl) (ybL ydF yhd (ybL yby yeN (ybL yby yeN (z_v 2 ym) z_int) (ybL ydF yhd (ybL yor yvh (z_v 8 ydw) (z_v 8 ydw)) z_int)) (z_v 8 ydw)) rfl (Or.inl rfl)) (ye (ybg (yO ydc yiK (z_v 8 ydw) (z_v 4 ycl) (yF _)) (yh (yz (i:=9) ybu.nd rfl (Or.inl rfl) (ybL ydF yhd (z_v 9 ynB) (z_v 6 yuu)) rfl (Or.inl rfl))) yA) (yh (yz (i:=7) ybu.nd rfl (Or.inl rfl) (ybL yxl yIi (z_v 7 ynA) (ybM ynl yvi (z_v 1 ycs) (ybL ybm ycM (z_v 9 ynB) z_int) (fun _ _=>rfl))) rfl (Or.inl rfl))))) (fun _=>rfl)) (yh (yiB (ybx (i:=5) rfl (Or.inl rfl) yS.d yS.c) (z_v 7 ynA) rfl rfl rfl rfl rfl rfl)))) (fun _=>rfl)) (yoK 5 (yh (yv (z_v 5 yS))))))))))
theorem ysy (T:Txt K mg t) (ydr:FnOk P w K mg base CX0 (1) t.yfG t.yfH ["_law_cell"] (spE (ybC K t) 1 yde)):FnOk P w K mg base CX0 (1+1) t.yhR t.yhS ["_law_mixed_here","_law_cell"] (spE (ybC K t) 2 ygl):=by
 have fa:=T.fa
 exact zfn T.ynv ybJ fun cdv Ar outer sh H E hr=>(ye (yz (i:=2) ybJ.nd rfl (Or.inl rfl) (yMM yHS yKH z_str yGx (yhf (ybM ix_list ydZ (ygY (ygh (ya z_int (ya z_int (ya z_int yf rfl) rfl) rfl))) (ybL ybm ycM (z_v 0 ym) z_int) (fun _ _=>rfl)))) rfl (Or.inl rfl)) (ye (yz (i:=3) ybJ.nd rfl (Or.inl rfl) (ykI ysN yIj ykm rfl T.z_len yjG (ya (z_v 2 ycs) yf rfl) rfl rfl) rfl (Or.inl rfl)) (ye (yz (i:=4) ybJ.nd rfl (Or.inl rfl) (ybL yby yeN (z_v 0 ym) z_int) rfl (Or.inl rfl)) (ye (yz (i:=5) ybJ.nd rfl (Or.inl rfl) (ybM ynl yvi (z_v 2 ycs) (ybL ybm ycM (z_v 4 ydX) (z_v 3 ybZ)) (fun _ _=>rfl)) rfl (Or.inl rfl)) (ye (yz (i:=6) ybJ.nd rfl (Or.inl rfl) (ybM ynl yvi (z_v 2 ycs) (ybL ybm ycM (ybL yby yeN (z_v 4 ydX) (z_v 3 ybZ)) (z_v 3 ybZ)) (fun _ _=>rfl)) rfl (Or.inl rfl)) (ye (yz (i:=7) ybJ.nd rfl (Or.inl rfl) (ybM ynl yvi (z_v 2 ycs) (ybL ybm ycM (ybL yby yeN (ybL yby yeN (z_v 4 ydX) (z_v 3 ybZ)) (z_v 3 ybZ)) (z_v 3 ybZ)) (fun _ _=>rfl)) rfl (Or.inl rfl)) (ye (yz (i:=8) ybJ.nd rfl (Or.inl rfl) (ybL ybm ycM (ybL yby yeN (z_v 0 ym) z_int) z_int) rfl (Or.inl rfl)) (ye (ybg (yO ydc yiK (z_v 8 ydY) z_int (yF _)) (yh (yv (ygY (ygh (ya (yeq (ya z_str (ya (z_v 5 yQ) (ya (ybn ydr (hr.mono (by omega)) ykl rfl T.yln T.yjp.kp T.ylm (ya (z_v 1 yci) yf rfl) rfl rfl) yf rfl) rfl) rfl)) yf rfl))))) yA) (ye (ybg (yO ysE yDI (z_v 8 ydY) z_int (yF _)) (yh (yv (ygY (ygh (ya (yeq (ya z_str (ya (z_v 5 yQ) (ya (ybL ybm ycM (ybL yby yeN (z_v 4 ydX) z_int) z_int) yf rfl) rfl) rfl)) yf rfl))))) yA) (ye (ybg (yO ysE yDI (z_v 8 ydY) z_int (yF _)) (ye (yz (i:=9) ybJ.nd rfl (Or.inl rfl) (ybM ix_list ydZ (ygY (ygh (ya z_str (ya z_str (ya z_str (ya z_str (ya z_str yf rfl) rfl) rfl) rfl) rfl))) (ybL ybm ycM (ybL yby yeN (z_v 4 ydX) z_int) z_int) (fun _ _=>rfl)) rfl (Or.inl rfl)) (yh (yv (ygY (ygh (ya (yeq (ya z_str (ya (z_v 9 yeX) (ya (z_v 5 yQ) (ya (z_v 6 yK) (ya (z_v 7 ymj) yf rfl) rfl) rfl) rfl) rfl)) yf rfl)))))) yA) (ye (ybg (yO ysE yDI (z_v 8 ydY) z_int (yF _)) (yh (yv (ygY (ygh (ya (yeq (ya z_str (ya (z_v 5 yQ) (ya (z_v 6 yK) yf rfl) rfl) rfl)) yf rfl))))) yA) (ye (ybg (yO ysE yDI (z_v 8 ydY) z_int (yF _)) (yh (yv (ygY (ygh (ya (yeq (ya z_str (ya (z_v 5 yQ) (ya (z_v 6 yK) yf rfl) rfl) rfl)) yf rfl))))) yA) (ye (yz (i:=9) ybJ.nd rfl (Or.inl rfl) (ybM ix_list ydZ (ygY (ygh (ya z_str (ya z_str (ya z_str yf rfl) rfl) rfl))) (ybL ybm ycM (ybL yby yeN (z_v 4 ydX) z_int) z_int) (fun _ _=>rfl)) rfl (Or.inl rfl)) (ye (yz (i:=10) ybJ.nd rfl (Or.inl rfl) (ygY (ygh (ya (yeq (ya z_str (ya (z_v 5 yQ) (ya (ybL ybm ycM (ybL yby yeN (z_v 4 ydX) z_int) z_int) yf rfl) rfl) rfl)) (ya (yeq (ya z_str (ya (z_v 6 yK) (ya (z_v 5 yQ) yf rfl) rfl) rfl)) yf rfl) rfl))) rfl (Or.inl rfl)) (yh (yv (ygY (yCD ywu yCe (z_v 10 yE) (ygY (ygh (ya (yeq (ya z_str (ya (z_v 9 yeX) (ya (z_v 6 yK) (ya (z_v 6 yK) (ya (z_v 7 ymj) yf rfl) rfl) rfl) rfl) rfl)) (ya (yeq (ya z_str (ya (z_v 5 yQ) (ya (z_v 6 yK) yf rfl) rfl) rfl)) yf rfl) rfl)))))))))))))))))))))
theorem ysz (T:Txt K mg t) :FnOk P w K mg base CX0 (0+1) t.yhT t.yhU ["_law_mixed_here","_law_one","_law_other","_law_names_here"] (spE (ybC K t) 4 ygm):=by
 have fa:=T.fa
 exact zfn T.ynw ycL fun cdv Ar outer sh H E hr=>(ye (yz (i:=4) ycL.nd rfl (Or.inl rfl) z_str rfl (Or.inl rfl)) (ye (yz (i:=5) ycL.nd rfl (Or.inl rfl) (ybM ynl yvi (z_v 4 ycs) (ybL ybm ycM (ybL yby yeN (z_v 0 ym) z_int) z_int) (fun _ _=>rfl)) rfl (Or.inl rfl)) (ye (yz (i:=6) ycL.nd rfl (Or.inl rfl) (ybL ybm ycM (z_v 0 ym) z_int) rfl (Or.inl rfl)) (ye (ybg (yO ydc yiK (z_v 6 ydY) z_int (yF _)) (yh (yv (yeq (ya z_str (ya (z_v 5 ykj) (ya (z_v 1 yQ) (ya (z_v 2 yK) yf rfl) rfl) rfl) rfl)))) yA) (ye (yz (i:=7) ycL.nd rfl (Or.inl rfl) (yeq (ya z_str yf rfl)) rfl (Or.inl rfl)) (ye (ybg (yO ydc yiK (z_v 6 ydY) z_int (yF _)) (yh (yz (i:=7) ycL.nd rfl (Or.inl rfl) (yeq (ya z_str (ya (ybM ix_list ydZ (z_v 3 yS) (ybL ybm ycM (ybL yby yeN (z_v 0 ym) z_int) z_int) (fun _ _=>rfl)) (ya (z_v 5 ykj) yf rfl) rfl) rfl)) rfl (Or.inl rfl))) yA) (ye (ybg (yO ydc yiK (ybL ybm ycM (ybL yby yeN (z_v 0 ym) z_int) z_int) z_int (yF _)) (yh (yz (i:=1) ycL.nd rfl (Or.inl rfl) (ygY (yCD ywu yCe (z_v 1 yQ) (ygY (ygh (ya (z_v 7 ynD) yf rfl))))) rfl (Or.inl rfl))) yA) (ye (ybg (yO ydc yiK (ybL ybm ycM (ybL yby yeN (z_v 0 ym) z_int) z_int) z_int (yF _)) (yh (yz (i:=1) ycL.nd rfl (Or.inl rfl) (ygY (yCD ywu yCe (z_v 1 yQ) (ygY (ygh (ya (yeq (ya z_str (ya (z_v 5 ykj) (ya (ygY (ygh (ya (z_v 7 ynD) yf rfl))) (ya (ygY (ygh yf)) yf rfl) rfl) rfl) rfl)) yf rfl))))) rfl (Or.inl rfl))) yA) (ye (ybg (yO ydc yiK (z_v 6 ydY) z_int (yF _)) (yh (yv (yeq (ya z_str (ya (z_v 1 yQ) (ya (z_v 2 yK) yf rfl) rfl) rfl)))) yA) (yh (yv (yeq (ya z_str (ya (z_v 1 yQ) (ya (ybM ix_list ydZ (z_v 3 yS) (ybL ybm ycM (ybL yby yeN (z_v 0 ym) z_int) z_int) (fun _ _=>rfl)) (ya (ybM ynl yvi (z_v 4 ycs) (ybL ybm ycM (ybL yby yeN (z_v 0 ym) z_int) z_int) (fun _ _=>rfl)) (ya (z_v 2 yK) yf rfl) rfl) rfl) rfl) rfl)))))))))))))
structure yMW (P:Program) (w:World) (K:PySem.W.Frag) (mg:Str->Option Value) (base:Heap) (t:Ads) (n:Nat):Prop where
 ypO:FnOk P w K mg base CX0 (n+3) t.yjl t.yjm ["_law_cells","_law_depth","_law_names_here"] (spE (ybC K t) 3 (ydK n))
theorem yBd (T:Txt K mg t) (ybA:FnOk P w K mg base CX0 (1) t.ydS t.ydT ["_law_cell"] (spE (ybC K t) 1 ybK)) (yii:FnOk P w K mg base CX0 (2) t.yhR t.yhS ["_law_mixed_here","_law_cell"] (spE (ybC K t) 2 ygl)) (yij:FnOk P w K mg base CX0 (1) t.yhT t.yhU ["_law_mixed_here","_law_one","_law_other","_law_names_here"] (spE (ybC K t) 4 ygm)) :∀ n,yMW P w K mg base t n
 | 0=>⟨yhx⟩
 | n+1=>by
  have fa:=T.fa
  have I:=yBd T ybA yii yij n
  have yfJ:=I.ypO
  exact ⟨zfn T.yjq ybz fun cdv Ar outer sh H E hr=>(ye (yoJ (i:=3) ybz.nd rfl (Or.inl rfl) (ygh yf) rfl (Or.inl rfl)) (ye (yz (i:=4) ybz.nd rfl (Or.inl rfl) z_int rfl (Or.inl rfl)) (ye (yCF 1000 PassesOwn.never (yO ysE yDI (z_v 4 ycl) (ykI ych ykH ykm rfl T.z_len yjG (ya (z_v 0 ydp) yf rfl) rfl rfl) (yF _)) (ye (yz (i:=5) ybz.nd rfl (Or.inl rfl) (ybM ix_list ydZ (z_v 0 ydp) (z_v 4 ycl) (fun _ _=>rfl)) rfl (Or.inl rfl)) (ye (yz (i:=6) ybz.nd rfl (Or.inl rfl) (ybn ybA (hr.mono (by omega)) ygV rfl T.yic T.ygr.kp T.yib (ya (z_v 5 yci) yf rfl) rfl rfl) rfl (Or.inl rfl)) (ye (yz (i:=4) ybz.nd rfl (Or.inl rfl) (ybL ydF yhd (z_v 4 ycl) z_int) rfl (Or.inl rfl)) (yh (ybg (yJW (yCE (yO ydc yiK (z_v 1 yjs) z_int (yF _)) (yzO (yO ysE yDI (ybL ybm ycM (z_v 6 ym) z_int) z_int (yF _))))) (yoK 3 (yh (yoJ (i:=3) ybz.nd rfl (Or.inl rfl) (yCD ywu yCe (z_v 3 yE) (ybn yii (hr.mono (by omega)) ysp rfl T.yue T.ynv.kp T.yud (ya (ybL yby yeN (z_v 6 ym) z_int) (ya (z_v 5 yci) yf rfl) rfl) rfl rfl)) rfl (Or.inl rfl)))) (yh (ybg (yO ydc yiK (ybL ybm ycM (z_v 6 ym) z_int) z_int (yF _)) (ye (yz (i:=7) ybz.nd rfl (Or.inl rfl) (ygY (ygh (ya (yeq (ya z_str yf rfl)) (ya (yeq (ya z_str (ya (ybM ix_list ydZ (z_v 2 yS) (ybL ybm ycM (ybL yby yeN (z_v 6 ym) z_int) z_int) (fun _ _=>rfl)) (ya (ybM ynl yvi z_str (ybL ybm ycM (ybL yby yeN (z_v 6 ym) z_int) z_int) (fun _ _=>rfl)) yf rfl) rfl) rfl)) yf rfl) rfl))) rfl (Or.inl rfl)) (yh (yiB (ybx (i:=3) rfl (Or.inl rfl) yE.d yE.c) (ybM ix_list ydZ (z_v 7 yss) (ybL yby yeN (ybL ybm ycM (ybL yby yeN (z_v 6 ym) z_int) z_int) z_int) (fun _ _=>rfl)) rfl rfl rfl rfl rfl rfl))) (ye (yz (i:=8) ybz.nd rfl (Or.inl rfl) (ybL ybm ycM (ybL yby yeN (z_v 6 ym) z_int) z_int) rfl (Or.inl rfl)) (ye (yz (i:=9) ybz.nd rfl (Or.inl rfl) (ybL ybm ycM (ybL yby yeN (z_v 6 ym) z_int) z_int) rfl (Or.inl rfl)) (ye (yz (i:=10) ybz.nd rfl (Or.inl rfl) (ybn yfJ (hr.mono (by omega)) ykk rfl T.ylp T.yjq.kp T.ylo (ya (ygY (yxR ymv yxD (z_v 0 ydp) (yhf (z_v 4 ycl)) (yhf (ybL ydF yhd (z_v 4 ycl) (z_v 8 ybZ))))) (ya (ybL ywo yCa (z_v 1 yjs) z_int) (ya (z_v 2 yS) yf rfl) rfl) rfl) rfl rfl) rfl (Or.inl rfl)) (ye (yz (i:=11) ybz.nd rfl (Or.inl rfl) (ybn yfJ (hr.mono (by omega)) ykk rfl T.ylp T.yjq.kp T.ylo (ya (ygY (yxR ymv yxD (z_v 0 ydp) (yhf (ybL ydF yhd (z_v 4 ycl) (z_v 8 ybZ))) (yhf (ybL ydF yhd (ybL ydF yhd (z_v 4 ycl) (z_v 8 ybZ)) (z_v 9 ynz))))) (ya (ybL ywo yCa (z_v 1 yjs) z_int) (ya (z_v 2 yS) yf rfl) rfl) rfl) rfl rfl) rfl (Or.inl rfl)) (ye (yz (i:=4) ybz.nd rfl (Or.inl rfl) (ybL ydF yhd (ybL ydF yhd (z_v 4 ycl) (z_v 8 ybZ)) (z_v 9 ynz)) rfl (Or.inl rfl)) (yh (yiB (ybx (i:=3) rfl (Or.inl rfl) yE.d yE.c) (ybn yij (hr.mono (by omega)) ysq rfl T.yug T.ynw.kp T.yuf (ya (ybL yby yeN (z_v 6 ym) z_int) (ya (z_v 10 yQ) (ya (z_v 11 yK) (ya (z_v 2 yS) yf rfl) rfl) rfl) rfl) rfl rfl) rfl rfl rfl rfl rfl rfl))))))))))))))) (yoK 3 (yh (yv (z_v 3 yE)))))))⟩
structure yMX (P:Program) (w:World) (K:PySem.W.Frag) (mg:Str->Option Value) (base:Heap) (t:Ads) (n:Nat):Prop where
 ypP:FnOk P w K mg base CX0 (n+3) t.yjn t.yjo ["_law_tree_here"] (spE (ybC K t) 1 (ycq n))
theorem yBe (T:Txt K mg t) (yek:FnOk P w K mg base CX0 (1) t.yei t.yej ["self","parts","others"] (spI (ybC K t) 2 8 ycY)) (ygW:FnOk P w K mg base CX0 (1) t.ygS t.ygT ["self","slot","parts","others"] (spI (ybC K t) 3 7 yff)) (ygd:FnOk P w K mg base CX0 (1) t.yfV t.yfW ["self","slot","number"] (spI (ybC K t) 2 3 yew)) (yge:FnOk P w K mg base CX0 (1) t.yfX t.yfY ["self","place","slot"] (spI (ybC K t) 2 6 yex)) (yel:FnOk P w K mg base CX0 (1) t.yee t.yef ["self","word","slot","one","other"] (spI (ybC K t) 4 4 ycW)) (yfs:FnOk P w K mg base CX0 (1) t.yfn t.yfo ["self","slot","place"] (spI (ybC K t) 2 5 ydJ)) (yeM:FnOk P w K mg base CX0 (1) t.yeK t.yeL ["self","name","slot"] (spI (ybC K t) 2 10 ydv)) (ygf:FnOk P w K mg base CX0 (1) t.yfZ t.yga ["self","parts","name","slot","others"] (spI (ybC K t) 4 9 yey)) :∀ n,yMX P w K mg base t n
 | 0=>⟨yhx⟩
 | n+1=>by
  have fa:=T.fa
  have I:=yBe T yek ygW ygd yge yel yfs yeM ygf n
  have ycQ:=I.ypP
  exact ⟨zfn T.ydU yka fun cdv Ar outer sh H E hr=>(ye (yoJ (i:=1) yka.nd rfl (Or.inl rfl) (ygh yf) rfl (Or.inl rfl)) (ye (ynm PassesOwn.never rfl (yru (z_v 0 yE)) (yeO (i:=2) yka.nd rfl (Or.inl rfl) (Or.inl rfl)) (yh (ybg (yO ydc yiK (ybM ix_tup ybk (z_v 2 yd) z_int (fun _ _=>rfl)) z_str (yF _)) (yh (yiB (ybx (i:=1) rfl (Or.inl rfl) yq.d yq.c) (ygY (ylK T.mk_Let ygd (hr.mono (by omega)) yEJ rfl T.m_Let T.yqo (ya (ybM ix_tup ybk (z_v 2 yd) z_int (fun _ _=>rfl)) (ya (ybM ix_tup ybk (z_v 2 yd) z_int (fun _ _=>rfl)) yf rfl) rfl) rfl rfl)) rfl rfl rfl rfl rfl rfl)) (yh (ybg (yO ydc yiK (ybM ix_tup ybk (z_v 2 yd) z_int (fun _ _=>rfl)) z_str (yF _)) (yh (yiB (ybx (i:=1) rfl (Or.inl rfl) yq.d yq.c) (ygY (ylK T.mk_Reckon yel (hr.mono (by omega)) yup rfl T.m_Reckon T.ymV (ya (ybM ix_tup ybk (z_v 2 yd) z_int (fun _ _=>rfl)) (ya (ybM ix_tup ybk (z_v 2 yd) z_int (fun _ _=>rfl)) (ya (ybM ix_tup ybk (z_v 2 yd) z_int (fun _ _=>rfl)) (ya (ybM ix_tup ybk (z_v 2 yd) z_int (fun _ _=>rfl)) yf rfl) rfl) rfl) rfl) rfl rfl)) rfl rfl rfl rfl rfl rfl)) (yh (ybg (yO ydc yiK (ybM ix_tup ybk (z_v 2 yd) z_int (fun _ _=>rfl)) z_str (yF _)) (yh (yiB (ybx (i:=1) rfl (Or.inl rfl) yq.d yq.c) (ygY (ylK T.mk_Take yfs (hr.mono (by omega)) yAS rfl T.m_Take T.ypw (ya (ybM ix_tup ybk (z_v 2 yd) z_int (fun _ _=>rfl)) (ya (ybM ix_tup ybk (z_v 2 yd) z_int (fun _ _=>rfl)) yf rfl) rfl) rfl rfl)) rfl rfl rfl rfl rfl rfl)) (yh (ybg (yO ydc yiK (ybM ix_tup ybk (z_v 2 yd) z_int (fun _ _=>rfl)) z_str (yF _)) (yh (yiB (ybx (i:=1) rfl (Or.inl rfl) yq.d yq.c) (ygY (ylK T.mk_Put yge (hr.mono (by omega)) yEK rfl T.m_Put T.yqq (ya (ybM ix_tup ybk (z_v 2 yd) z_int (fun _ _=>rfl)) (ya (ybM ix_tup ybk (z_v 2 yd) z_int (fun _ _=>rfl)) yf rfl) rfl) rfl rfl)) rfl rfl rfl rfl rfl rfl)) (yh (ybg (yO ydc yiK (ybM ix_tup ybk (z_v 2 yd) z_int (fun _ _=>rfl)) z_str (yF _)) (yh (yiB (ybx (i:=1) rfl (Or.inl rfl) yq.d yq.c) (ygY (ylK T.mk_If ygW (hr.mono (by omega)) yJH rfl T.m_If T.ysl (ya (ybM ix_tup ybk (z_v 2 yd) z_int (fun _ _=>rfl)) (ya (ybn ycQ (hr.mono (by omega)) ydW rfl T.yeS T.ydU.kp T.yeR (ya (ybM ix_tup ybk (z_v 2 yd) z_int (fun _ _=>rfl)) yf rfl) rfl rfl) (ya (ybn ycQ (hr.mono (by omega)) ydW rfl T.yeS T.ydU.kp T.yeR (ya (ybM ix_tup ybk (z_v 2 yd) z_int (fun _ _=>rfl)) yf rfl) rfl rfl) yf rfl) rfl) rfl) rfl rfl)) rfl rfl rfl rfl rfl rfl)) (yh (ybg (yO ydc yiK (ybM ix_tup ybk (z_v 2 yd) z_int (fun _ _=>rfl)) z_str (yF _)) (yh (yiB (ybx (i:=1) rfl (Or.inl rfl) yq.d yq.c) (ygY (ylK T.mk_Either yek (hr.mono (by omega)) yuo rfl T.m_Either T.ymZ (ya (ybn ycQ (hr.mono (by omega)) ydW rfl T.yeS T.ydU.kp T.yeR (ya (ybM ix_tup ybk (z_v 2 yd) z_int (fun _ _=>rfl)) yf rfl) rfl rfl) (ya (ybn ycQ (hr.mono (by omega)) ydW rfl T.yeS T.ydU.kp T.yeR (ya (ybM ix_tup ybk (z_v 2 yd) z_int (fun _ _=>rfl)) yf rfl) rfl rfl) yf rfl) rfl) rfl rfl)) rfl rfl rfl rfl rfl rfl)) (yh (ybg (yO ydc yiK (ybM ix_tup ybk (z_v 2 yd) z_int (fun _ _=>rfl)) z_str (yF _)) (yh (yiB (ybx (i:=1) rfl (Or.inl rfl) yq.d yq.c) (ygY (ylK T.mk_Try ygf (hr.mono (by omega)) yEL rfl T.m_Try T.yqu (ya (ybn ycQ (hr.mono (by omega)) ydW rfl T.yeS T.ydU.kp T.yeR (ya (ybM ix_tup ybk (z_v 2 yd) z_int (fun _ _=>rfl)) yf rfl) rfl rfl) (ya (ybM ix_tup ybk (z_v 2 yd) z_int (fun _ _=>rfl)) (ya (ybM ix_tup ybk (z_v 2 yd) z_int (fun _ _=>rfl)) (ya (ybn ycQ (hr.mono (by omega)) ydW rfl T.yeS T.ydU.kp T.yeR (ya (ybM ix_tup ybk (z_v 2 yd) z_int (fun _ _=>rfl)) yf rfl) rfl rfl) yf rfl) rfl) rfl) rfl) rfl rfl)) rfl rfl rfl rfl rfl rfl)) (yh (ybg (yO ydc yiK (ybM ix_tup ybk (z_v 2 yd) z_int (fun _ _=>rfl)) z_str (yF _)) (yh (yiB (ybx (i:=1) rfl (Or.inl rfl) yq.d yq.c) (ygY (ylK T.mk_Throw yeM (hr.mono (by omega)) yxe rfl T.m_Throw T.yob (ya (ybM ix_tup ybk (z_v 2 yd) z_int (fun _ _=>rfl)) (ya (ybM ix_tup ybk (z_v 2 yd) z_int (fun _ _=>rfl)) yf rfl) rfl) rfl rfl)) rfl rfl rfl rfl rfl rfl)) (yh (yiB (ybx (i:=1) rfl (Or.inl rfl) yq.d yq.c) (ygY (yGy T.mk_Wait T.io_Wait T.kp_Wait yAT rfl T.m_Wait)) rfl rfl rfl rfl rfl rfl)))))))))))))))))) (fun _=>rfl)) (yoK 1 (yh (yv (z_v 1 yq))))))⟩
theorem ysA (T:Txt K mg t) (ybA:FnOk P w K mg base CX0 (1) t.ydS t.ydT ["_law_cell"] (spE (ybC K t) 1 ybK)) (ydr:FnOk P w K mg base CX0 (1) t.yfG t.yfH ["_law_cell"] (spE (ybC K t) 1 yde)):FnOk P w K mg base CX0 (1+1) t.yhV t.yhW ["_law_cell"] (spE (ybC K t) 1 ygn):=by
 have fa:=T.fa
 exact zfn T.ynx yed fun cdv Ar outer sh H E hr=>(ye (yz (i:=1) yed.nd rfl (Or.inl rfl) (ybn ybA (hr.mono (by omega)) ygV rfl T.yic T.ygr.kp T.yib (ya (z_v 0 yci) yf rfl) rfl rfl) rfl (Or.inl rfl)) (ye (yz (i:=2) yed.nd rfl (Or.inl rfl) (ybM ix_list ydZ (ygY (ygh (ya z_int (ya z_int (ya z_int (ya (ybL ydF yhd z_int (ybL ybm ycM (ybL yby yeN (z_v 1 ym) z_int) z_int)) yf rfl) rfl) rfl) rfl))) (ybL ybm ycM (z_v 1 ym) z_int) (fun _ _=>rfl)) rfl (Or.inl rfl)) (ye (yoJ (i:=3) yed.nd rfl (Or.inl rfl) (ygh yf) rfl (Or.inl rfl)) (ye (ynm PassesOwn.never rfl (yoI rfl T.z_range (ya (z_v 2 ybZ) yf rfl) rfl) (yeO (i:=4) yed.nd rfl (Or.inl rfl) (Or.inl rfl)) (ye (yz (i:=5) yed.nd rfl (Or.inl rfl) (ygY (ygh (ya (ybL ybm ycM (ybL yby yeN (ybL yby yeN (z_v 1 ym) z_int) (ybL ydF yhd (z_v 4 ydw) z_int)) z_int) (ya (ybn ydr (hr.mono (by omega)) ykl rfl T.yln T.yjp.kp T.ylm (ya (ybL ydF yhd (z_v 0 yci) (ybL yor yvh (z_v 4 ydw) (z_v 4 ydw))) yf rfl) rfl rfl) yf rfl) rfl))) rfl (Or.inl rfl)) (yh (yiB (ybx (i:=3) rfl (Or.inl rfl) yp.d yp.c) (ybM ix_list ydZ (z_v 5 yut) (ybL ybm ycM (ybL ydF yhd (ybL yby yeN (z_v 1 ym) z_int) (z_v 4 ydw)) z_int) (fun _ _=>rfl)) rfl rfl rfl rfl rfl rfl))) (fun _=>rfl)) (yoK 3 (yh (yv (z_v 3 yp))))))))
theorem ysB (T:Txt K mg t) (ybA:FnOk P w K mg base CX0 (1) t.ydS t.ydT ["_law_cell"] (spE (ybC K t) 1 ybK)) (ydr:FnOk P w K mg base CX0 (1) t.yfG t.yfH ["_law_cell"] (spE (ybC K t) 1 yde)):FnOk P w K mg base CX0 (1+1) t.yhX t.yhY ["_law_cell"] (spE (ybC K t) 1 ygo):=by
 have fa:=T.fa
 exact zfn T.yny yje fun cdv Ar outer sh H E hr=>(ye (yz (i:=1) yje.nd rfl (Or.inr rfl) (ybn ybA (hr.mono (by omega)) ygV rfl T.yic T.ygr.kp T.yib (ya (z_v 0 yci) yf rfl) rfl rfl) rfl (Or.inl rfl)) (ye (yCL (iy:=2) [1] ["_law_mixed_here"] rfl (yoI rfl T.z_range (ya z_int yf rfl) rfl) ⟨rfl,rfl,rfl,True.intro⟩ (fun _ _ _ _ _ _=>(ybL ybm ycM (ybL yby yeN (yzM (i:=1) ym rfl (Or.inr (Or.inl rfl))) (ybL ydF yhd (ybL yor yvh (z_v 0 ydw) (z_v 0 ydw)) z_int)) z_int)) (by rfl') rfl (by rfl') (by rfl') (by rfl') rfl (fun _=>rfl) yje.nd rfl (Or.inl rfl) (Or.inl rfl) rfl) (ye (ykS (ybn ydr (hr.mono (by omega)) ykl rfl T.yln T.yjp.kp T.ylm (ya (z_v 0 yci) yf rfl) rfl rfl) (z_v 2 yi) (ybL ybm ycM (yzM (i:=1) ym rfl (Or.inr (Or.inl rfl))) z_int) (fun _=>rfl) rfl rfl rfl) (yh (yv (z_v 2 yi))))))
theorem ywi (T:Txt K mg t) :FnOk P w K mg base CX0 (0+1) t.ykC t.ykD ["_law_word","_law_one","_law_other"] (spE (ybC K t) 3 yiC):=by
 have fa:=T.fa
 exact zfn T.yqS yvS fun cdv Ar outer sh H E hr=>(ye (ybg (yO ydc yiK (z_v 0 yeX) z_str (yF _)) (yh (yv (yGz yos yzl yuv rfl T.z_int ysR (ya (yxQ ysE yDI (z_v 1 yQ) (z_v 2 yK) (yF _)) yf rfl) rfl rfl))) yA) (ye (ybg (yO ydc yiK (z_v 0 yeX) z_str (yF _)) (yh (yv (yGz yos yzl yuv rfl T.z_int ysR (ya (yxQ ydc yiK (z_v 1 yQ) (z_v 2 yK) (yF _)) yf rfl) rfl rfl))) yA) (ye (ybg (yO ydc yiK (z_v 0 yeX) z_str (yF _)) (yh (yv (ybL ybm ycM (ybL ydF yhd (z_v 1 yQ) (z_v 2 yK)) (ybL ywp yCb z_int z_int)))) yA) (ye (ybg (yO ydc yiK (z_v 0 yeX) z_str (yF _)) (yh (yv (ybL ybm ycM (ybL ywo yCa (z_v 1 yQ) (z_v 2 yK)) (ybL ywp yCb z_int z_int)))) yA) (yh (yv (ybL ybm ycM (ybL yor yvh (z_v 1 yQ) (z_v 2 yK)) (ybL ywp yCb z_int z_int))))))))
theorem ypQ (T:Txt K mg t) (yng:FnOk P w K mg base CX0 (1) t.ykC t.ykD ["_law_word","_law_one","_law_other"] (spE (ybC K t) 3 yiC)):FnOk P w K mg base CX0 (1+1) t.ygb t.ygc ["_law_part_here","_law_boxes_here","_law_saw","_law_slots_here","_law_written"] (spE (ybC K t) 5 yez):=by
 have fa:=T.fa
 exact zfn T.ykK ydN fun cdv Ar outer sh H E hr=>(yh (ybg (yO ydc yiK (ybM ix_tup ybk (z_v 0 yd) z_int (fun _ _=>rfl)) z_str (yF _)) (yh (ykS (ybM ix_tup ybk (z_v 0 yd) z_int (fun _ _=>rfl)) (z_v 3 yi) (ytu PySem.F.plainAttrs_str PySem.F.slot_str_find PySem.F.type_str_find ygy yeB z_str (ya (ybM ix_tup ybk (z_v 0 yd) z_int (fun _ _=>rfl)) yf rfl) rfl rfl rfl rfl rfl) (fun _=>rfl) rfl rfl rfl)) (yh (ybg (yO ydc yiK (ybM ix_tup ybk (z_v 0 yd) z_int (fun _ _=>rfl)) z_str (yF _)) (ye (yz (i:=5) ydN.nd rfl (Or.inl rfl) (ybM ix_list ydZ (z_v 3 yi) (ytu PySem.F.plainAttrs_str PySem.F.slot_str_find PySem.F.type_str_find ygy yeB z_str (ya (ybM ix_tup ybk (z_v 0 yd) z_int (fun _ _=>rfl)) yf rfl) rfl rfl rfl rfl rfl) (fun _ _=>rfl)) rfl (Or.inl rfl)) (ye (yz (i:=6) ydN.nd rfl (Or.inl rfl) (ybM ix_list ydZ (z_v 3 yi) (ytu PySem.F.plainAttrs_str PySem.F.slot_str_find PySem.F.type_str_find ygy yeB z_str (ya (ybM ix_tup ybk (z_v 0 yd) z_int (fun _ _=>rfl)) yf rfl) rfl rfl rfl rfl rfl) (fun _ _=>rfl)) rfl (Or.inl rfl)) (yh (ykS (ybn yng (hr.mono (by omega)) ywf rfl T.yyh T.yqS.kp T.yyg (ya (ybM ix_tup ybk (z_v 0 yd) z_int (fun _ _=>rfl)) (ya (z_v 5 yQ) (ya (z_v 6 yK) yf rfl) rfl) rfl) rfl rfl) (z_v 3 yi) (ytu PySem.F.plainAttrs_str PySem.F.slot_str_find PySem.F.type_str_find ygy yeB z_str (ya (ybM ix_tup ybk (z_v 0 yd) z_int (fun _ _=>rfl)) yf rfl) rfl rfl rfl rfl rfl) (fun _=>rfl) rfl rfl rfl)))) (yh (ybg (yO ydc yiK (ybM ix_tup ybk (z_v 0 yd) z_int (fun _ _=>rfl)) z_str (yF _)) (ye (yz (i:=7) ydN.nd rfl (Or.inl rfl) (ybL ybm ycM (ybM ix_list ydZ (z_v 3 yi) (ytu PySem.F.plainAttrs_str PySem.F.slot_str_find PySem.F.type_str_find ygy yeB z_str (ya (ybM ix_tup ybk (z_v 0 yd) z_int (fun _ _=>rfl)) yf rfl) rfl rfl rfl rfl rfl) (fun _ _=>rfl)) (ykI ych ykH ykm rfl T.z_len yjG (ya (z_v 1 yp) yf rfl) rfl rfl)) rfl (Or.inl rfl)) (yh (yrv (yrb hr) (z_v 4 yB) (z_v 7 ydV) (ybM ix_list ydZ (z_v 3 yi) (ytu PySem.F.plainAttrs_str PySem.F.slot_str_find PySem.F.type_str_find ygy yeB z_str (ya (ybM ix_tup ybk (z_v 0 yd) z_int (fun _ _=>rfl)) yf rfl) rfl rfl rfl rfl rfl) (fun _ _=>rfl)) rfl))) (ye (yz (i:=7) ydN.nd rfl (Or.inl rfl) (ybL ybm ycM (ybM ix_list ydZ (z_v 3 yi) (ytu PySem.F.plainAttrs_str PySem.F.slot_str_find PySem.F.type_str_find ygy yeB z_str (ya (ybM ix_tup ybk (z_v 0 yd) z_int (fun _ _=>rfl)) yf rfl) rfl rfl rfl rfl rfl) (fun _ _=>rfl)) (ykI ych ykH ykm rfl T.z_len yjG (ya (z_v 1 yp) yf rfl) rfl rfl)) rfl (Or.inl rfl)) (ye (ybg (yzQ (yrb hr) (z_v 7 ydV) (z_v 4 yB) (by with_unfolding_all rfl)) (yh (yrv (yrb hr) (z_v 2 yct) (z_v 7 ydV) (ybM ix_list ydZ (z_v 1 yp) (z_v 7 ydV) (fun _ _=>rfl)) rfl)) yA) (yh (ykS (yGA (yrb hr) (z_v 4 yB) (z_v 7 ydV) (ybM ix_list ydZ (z_v 1 yp) (z_v 7 ydV) (fun _ _=>rfl)) ⟨rfl,rfl,rfl,rfl⟩) (z_v 3 yi) (ytu PySem.F.plainAttrs_str PySem.F.slot_str_find PySem.F.type_str_find ygy yeB z_str (ya (ybM ix_tup ybk (z_v 0 yd) z_int (fun _ _=>rfl)) yf rfl) rfl rfl rfl rfl rfl) (fun _=>rfl) rfl rfl rfl))))))))))
theorem ysC (T:Txt K mg t) :FnOk P w K mg base CX0 (0+1) t.yhZ t.yia ["_law_found"] (spE (ybC K t) 1 ydL):=by
 have fa:=T.fa
 exact zfn T.yie ysg fun cdv Ar outer sh H E hr=>(yh (yv (ygY (yIW [0] ["_law_found"] rfl (yru (ygY (yGI rfl (yzM (i:=0) yU rfl (Or.inr (Or.inl rfl))) ypG rfl T.z_sorted yoL rfl rfl))) ⟨rfl,rfl,rfl,True.intro⟩ (fun _ _ _ _ _ _=>(yeq (ya (z_v 0 ydV) (ya (yDY (yrb hr) (yzM (i:=1) yU rfl (Or.inr (Or.inl rfl))) (z_v 0 ydV) (fun _ _=>rfl)) yf rfl) rfl))) (by rfl') rfl (by rfl') (by rfl') (by rfl') rfl (fun _=>rfl)))))
structure yMY (P:Program) (w:World) (K:PySem.W.Frag) (mg:Str->Option Value) (base:Heap) (t:Ads) (n:Nat):Prop where
 yuB:FnOk P w K mg base CX0 (n+4) t.ymc t.ymd ["_law_tree_here","_law_boxes_here","_law_saw","_law_slots_here","_law_written"] (spE (ybC K t) 5 (yeA n))
 ypR:FnOk P w K mg base CX0 (n+4) t.ylj t.ylk ["_law_part_here","_law_boxes_here","_law_saw","_law_slots_here","_law_written"] (spE (ybC K t) 5 (ycr n))
theorem yBf (T:Txt K mg t) (ygg:FnOk P w K mg base CX0 (2) t.ygb t.ygc ["_law_part_here","_law_boxes_here","_law_saw","_law_slots_here","_law_written"] (spE (ybC K t) 5 yez)) :∀ n,yMY P w K mg base t n
 | 0=>⟨yhx,yhx⟩
 | n+1=>by
  have fa:=T.fa
  have I:=yBf T ygg n
  have yft:=I.yuB
  have ypS:=I.ypR
  exact ⟨zfn T.yhw yiF fun cdv Ar outer sh H E hr=>(ye (ynm PassesOwn.never rfl (yru (z_v 0 yE)) (yeO (i:=5) yiF.nd rfl (Or.inl rfl) (Or.inl rfl)) (ye (yDX (ybn ypS (hr.mono (by omega)) yur rfl T.ywb T.ypz.kp T.ywa (ya (z_v 5 yd) (ya (z_v 1 yp) (ya (z_v 2 yct) (ya (z_v 3 yi) (ya (z_v 4 yB) yf rfl) rfl) rfl) rfl) rfl) rfl rfl) (yDW rfl (ykv (yeO (i:=6) yiF.nd rfl (Or.inl rfl) (Or.inl rfl)) (ykv (yeO (i:=3) yiF.nd rfl (Or.inl rfl) (Or.inl rfl)) (ykv (yeO (i:=4) yiF.nd rfl (Or.inl rfl) (Or.inl rfl)) yzP rfl) rfl) rfl) rfl rfl) rfl rfl rfl) (yh (ybg (yO yEV yIh (z_v 6 yjt) yvr (yF _)) (yh (yv (yeq (ya (z_v 6 yjt) (ya (z_v 3 yi) (ya (z_v 4 yB) yf rfl) rfl) rfl)))) yA))) (fun _=>rfl)) (yh (yv (yeq (ya yvr (ya (z_v 3 yi) (ya (z_v 4 yB) yf rfl) rfl) rfl))))),
   zfn T.ypz ydO fun cdv Ar outer sh H E hr=>(ye (ybg (yO ydc yiK (ybM ix_tup ybk (z_v 0 yd) z_int (fun _ _=>rfl)) z_str (yF _)) (yh (yv (yeq (ya (yeq (ya z_str yf rfl)) (ya (z_v 3 yi) (ya (z_v 4 yB) yf rfl) rfl) rfl)))) yA) (ye (ybg (yO ydc yiK (ybM ix_tup ybk (z_v 0 yd) z_int (fun _ _=>rfl)) z_str (yF _)) (yh (yv (yeq (ya (yeq (ya z_str (ya (ybM ix_tup ybk (z_v 0 yd) z_int (fun _ _=>rfl)) (ya (ybM ix_list ydZ (z_v 3 yi) (ytu PySem.F.plainAttrs_str PySem.F.slot_str_find PySem.F.type_str_find ygy yeB z_str (ya (ybM ix_tup ybk (z_v 0 yd) z_int (fun _ _=>rfl)) yf rfl) rfl rfl rfl rfl rfl) (fun _ _=>rfl)) yf rfl) rfl) rfl)) (ya (z_v 3 yi) (ya (z_v 4 yB) yf rfl) rfl) rfl)))) yA) (ye (ybg (yO ydc yiK (ybM ix_tup ybk (z_v 0 yd) z_int (fun _ _=>rfl)) z_str (yF _)) (ye (yz (i:=5) ydO.nd rfl (Or.inl rfl) (ybL ydF yhd z_int (yGz yos yzl yuv rfl T.z_int ysR (ya (yxQ ydc yiK (ybM ix_list ydZ (z_v 3 yi) (ytu PySem.F.plainAttrs_str PySem.F.slot_str_find PySem.F.type_str_find ygy yeB z_str (ya (ybM ix_tup ybk (z_v 0 yd) z_int (fun _ _=>rfl)) yf rfl) rfl rfl rfl rfl rfl) (fun _ _=>rfl)) z_int (yF _)) yf rfl) rfl rfl)) rfl (Or.inl rfl)) (yh (yv (ybn yft (hr.mono (by omega)) yha rfl T.yiH T.yhw.kp T.yiG (ya (ybM ix_tup ybk (z_v 0 yd) (z_v 5 yus) (fun _ _=>rfl)) (ya (z_v 1 yp) (ya (z_v 2 yct) (ya (z_v 3 yi) (ya (z_v 4 yB) yf rfl) rfl) rfl) rfl) rfl) rfl rfl)))) yA) (ye (ybg (yO ydc yiK (ybM ix_tup ybk (z_v 0 yd) z_int (fun _ _=>rfl)) z_str (yF _)) (ye (yz (i:=6) ydO.nd rfl (Or.inl rfl) (ybn yft (hr.mono (by omega)) yha rfl T.yiH T.yhw.kp T.yiG (ya (ybM ix_tup ybk (z_v 0 yd) z_int (fun _ _=>rfl)) (ya (z_v 1 yp) (ya (z_v 2 yct) (ya (ygw (yem yI ycb yda rfl T.z_list ycT (ya (z_v 3 yi) yf rfl) rfl rfl)) (ya (ygw (yem yjM yrt ywg rfl T.z_dict yuR (ya (z_v 4 yB) yf rfl) rfl rfl)) yf rfl) rfl) rfl) rfl) rfl) rfl rfl) rfl (Or.inl rfl)) (ye (ybg (yO (yzU (yqM hr)) yGq (ybM ix_tup ybk (z_v 6 ydq) z_int (fun _ _=>rfl)) (yeq (ya z_str yf rfl)) (yF _)) (yh (yv (z_v 6 ydq))) yA) (yh (yv (ybn yft (hr.mono (by omega)) yha rfl T.yiH T.yhw.kp T.yiG (ya (ybM ix_tup ybk (z_v 0 yd) z_int (fun _ _=>rfl)) (ya (z_v 1 yp) (ya (z_v 2 yct) (ya (z_v 3 yi) (ya (z_v 4 yB) yf rfl) rfl) rfl) rfl) rfl) rfl rfl))))) yA) (ye (ybg (yO ydc yiK (ybM ix_tup ybk (z_v 0 yd) z_int (fun _ _=>rfl)) z_str (yF _)) (ye (yz (i:=6) ydO.nd rfl (Or.inl rfl) (ybn yft (hr.mono (by omega)) yha rfl T.yiH T.yhw.kp T.yiG (ya (ybM ix_tup ybk (z_v 0 yd) z_int (fun _ _=>rfl)) (ya (z_v 1 yp) (ya (z_v 2 yct) (ya (ygw (yem yI ycb yda rfl T.z_list ycT (ya (z_v 3 yi) yf rfl) rfl rfl)) (ya (ygw (yem yjM yrt ywg rfl T.z_dict yuR (ya (z_v 4 yB) yf rfl) rfl rfl)) yf rfl) rfl) rfl) rfl) rfl) rfl rfl) rfl (Or.inl rfl)) (ye (ybg (yJW (yCE (yO yyD yFP (ybM ix_tup ybk (z_v 6 ydq) z_int (fun _ _=>rfl)) yvr (yF _)) (yCE (yO yyC yIg (ybM ysL yzB (ybM ix_tup ybk (z_v 6 ydq) z_int (fun _ _=>rfl)) z_int (fun _ _=>rfl)) z_str (yF _)) (yzO (yO yyC yIg (ybM ysL yzB (ybM ix_tup ybk (z_v 6 ydq) z_int (fun _ _=>rfl)) z_int (fun _ _=>rfl)) (ybM ix_tup ybk (z_v 0 yd) z_int (fun _ _=>rfl)) (yF _)))))) (yh (yv (z_v 6 ydq))) yA) (ye (yz (i:=3) ydO.nd rfl (Or.inl rfl) (ygw (yem yI ycb yda rfl T.z_list ycT (ya (z_v 3 yi) yf rfl) rfl rfl)) rfl (Or.inl rfl)) (ye (ykS (ybM ysL yzB (ybM ix_tup ybk (z_v 6 ydq) z_int (fun _ _=>rfl)) z_int (fun _ _=>rfl)) (z_v 3 yi) (ytu PySem.F.plainAttrs_str PySem.F.slot_str_find PySem.F.type_str_find ygy yeB z_str (ya (ybM ix_tup ybk (z_v 0 yd) z_int (fun _ _=>rfl)) yf rfl) rfl rfl rfl rfl rfl) (fun _=>rfl) rfl rfl rfl) (yh (yv (ybn yft (hr.mono (by omega)) yha rfl T.yiH T.yhw.kp T.yiG (ya (ybM ix_tup ybk (z_v 0 yd) z_int (fun _ _=>rfl)) (ya (z_v 1 yp) (ya (z_v 2 yct) (ya (z_v 3 yi) (ya (z_v 4 yB) yf rfl) rfl) rfl) rfl) rfl) rfl rfl))))))) yA) (ye (yz (i:=3) ydO.nd rfl (Or.inl rfl) (ygw (yem yI ycb yda rfl T.z_list ycT (ya (z_v 3 yi) yf rfl) rfl rfl)) rfl (Or.inl rfl)) (ye (yz (i:=4) ydO.nd rfl (Or.inl rfl) (ygw (yem yjM yrt ywg rfl T.z_dict yuR (ya (z_v 4 yB) yf rfl) rfl rfl)) rfl (Or.inl rfl)) (ye (yco (ybn ygg (hr.mono (by omega)) ypC rfl T.yqw T.ykK.kp T.yqv (ya (z_v 0 yd) (ya (z_v 1 yp) (ya (z_v 2 yct) (ya (z_v 3 yi) (ya (z_v 4 yB) yf rfl) rfl) rfl) rfl) rfl) rfl rfl) rfl) (yh (yv (yeq (ya yvr (ya (z_v 3 yi) (ya (z_v 4 yB) yf rfl) rfl) rfl))))))))))))⟩
theorem ywj (T:Txt K mg t) (yft:FnOk P w K mg base CX0 (24) t.ymc t.ymd ["_law_tree_here","_law_boxes_here","_law_saw","_law_slots_here","_law_written"] (spE (ybC K t) 5 (yeA 20))) (ygs:FnOk P w K mg base CX0 (1) t.yhZ t.yia ["_law_found"] (spE (ybC K t) 1 ydL)):FnOk P w K mg base CX0 (24+1) t.ykE t.ykF ["_law_tree_here","_law_boxes_here","_law_slots_here"] (spE (ybC K t) 3 yiD):=by
 have fa:=T.fa
 exact zfn T.yqT yhr fun cdv Ar outer sh H E hr=>(ye (yz (i:=3) yhr.nd rfl (Or.inl rfl) (ygw ytv) rfl (Or.inl rfl)) (ye (yDX (ybn yft (hr.mono (by omega)) yha rfl T.yiH T.yhw.kp T.yiG (ya (z_v 0 yE) (ya (z_v 1 yp) (ya (z_v 3 yct) (ya (ygw (yem yI ycb yda rfl T.z_list ycT (ya (z_v 2 yi) yf rfl) rfl rfl)) (ya (ygw ytv) yf rfl) rfl) rfl) rfl) rfl) rfl rfl) (yDW rfl (ykv (yeO (i:=4) yhr.nd rfl (Or.inl rfl) (Or.inl rfl)) (ykv (yeO (i:=5) yhr.nd rfl (Or.inl rfl) (Or.inl rfl)) (ykv (yeO (i:=6) yhr.nd rfl (Or.inl rfl) (Or.inl rfl)) yzP rfl) rfl) rfl) rfl rfl) rfl rfl rfl) (ye (ybg (yO yyD yFP (z_v 4 yjt) yvr (yF _)) (yh (yv (yeq (ya (yeq (ya z_str yf rfl)) (ya (ybn ygs (hr.mono (by omega)) yju rfl T.ykh T.yie.kp T.ykg (ya (z_v 3 yct) yf rfl) rfl rfl) (ya (ybn ygs (hr.mono (by omega)) yju rfl T.ykh T.yie.kp T.ykg (ya (z_v 6 yB) yf rfl) rfl rfl) (ya (z_v 5 yuq) yf rfl) rfl) rfl) rfl)))) yA) (yh (yv (yeq (ya (z_v 4 yjt) (ya (ybn ygs (hr.mono (by omega)) yju rfl T.ykh T.yie.kp T.ykg (ya (z_v 3 yct) yf rfl) rfl rfl) (ya (ygY (ygh yf)) (ya (ygY (yem yI ycb yda rfl T.z_list ycT (ya (z_v 2 yi) yf rfl) rfl rfl)) yf rfl) rfl) rfl) rfl)))))))
theorem yJK (T:Txt K mg t) (yeZ:FnOk P w K mg base CX0 (8) t.yhN t.yhO ["_law_found","_law_due_here"] (spE (ybC K t) 2 (yx 5))) (ykp:FnOk P w K mg base CX0 (2) t.yhV t.yhW ["_law_cell"] (spE (ybC K t) 1 ygn)) (ynh:FnOk P w K mg base CX0 (25) t.ykE t.ykF ["_law_tree_here","_law_boxes_here","_law_slots_here"] (spE (ybC K t) 3 yiD)) (ycQ:FnOk P w K mg base CX0 (10) t.yjn t.yjo ["_law_tree_here"] (spE (ybC K t) 1 (ycq 7))) (ykq:FnOk P w K mg base CX0 (2) t.yhP t.yhQ ["_law_cell"] (spE (ybC K t) 1 ygk)) (ykr:FnOk P w K mg base CX0 (2) t.yhX t.yhY ["_law_cell"] (spE (ybC K t) 1 ygo)) (yfJ:FnOk P w K mg base CX0 (8) t.yjl t.yjm ["_law_cells","_law_depth","_law_names_here"] (spE (ybC K t) 3 (ydK 5))) (G_alone:FnOk P w K mg base CX0 (29) t.a_alone t.d_alone ["deed","boxes","slots"] (spE (ybC K t) 3 ymF)):FnOk P w K mg base CX0 (29+1) t.a_law t.d_law ["_law_script"] (spE (ybC K t) 1 yCN):=by
 have fa:=T.fa
 exact zfn T.F_law sc_law fun cdv Ar outer sh H E hr=>(ye (yz (i:=1) sc_law.nd rfl (Or.inl rfl) (ybn ykq (hr.mono (by omega)) yso rfl T.yuc T.ynu.kp T.yub (ya (ykI (yrc rfl) yFS yAY rfl T.z_sum yyS (ya (ygY (yxR ymv yxD (z_v 0 yiu) yGx (yhf z_int))) yf rfl) rfl rfl) yf rfl) rfl rfl) rfl (Or.inl rfl)) (ye (ynm PassesOwn.never rfl (yGB rfl T.z_range (ya z_int (ya (ykI (yyE rfl) yIK yJJ rfl T.z_max yIY (ya z_int (ya (ykI ych ykH ykm rfl T.z_len yjG (ya (z_v 0 yiu) yf rfl) rfl rfl) yf rfl) rfl) rfl rfl) (ya z_int yf rfl) rfl) rfl) rfl rfl) (yeO (i:=2) sc_law.nd rfl (Or.inl rfl) (Or.inl rfl)) (ye (yz (i:=3) sc_law.nd rfl (Or.inl rfl) (ygY (yxR ymv yxD (z_v 0 yiu) (yhf (z_v 2 ycl)) (yhf (ybL ydF yhd (z_v 2 ycl) z_int)))) rfl (Or.inl rfl)) (ye (yz (i:=4) sc_law.nd rfl (Or.inl rfl) (ybn yfJ (hr.mono (by omega)) ykk rfl T.ylp T.yjq.kp T.ylo (ya (z_v 3 ydp) (ya z_int (ya (z_v 1 yS) yf rfl) rfl) rfl) rfl rfl) rfl (Or.inl rfl)) (ye (yz (i:=5) sc_law.nd rfl (Or.inl rfl) (ybn ykp (hr.mono (by omega)) ysn rfl T.yui T.ynx.kp T.yuh (ya (ybL ydF yhd (ykI (yrc rfl) yFS yAY rfl T.z_sum yyS (ya (ygY (yxR ymv yxD (z_v 3 ydp) (yhf z_int) (yhf z_int))) yf rfl) rfl rfl) (z_v 2 ycl)) yf rfl) rfl rfl) rfl (Or.inl rfl)) (ye (yz (i:=6) sc_law.nd rfl (Or.inl rfl) (ybn ykr (hr.mono (by omega)) ysr rfl T.yuk T.yny.kp T.yuj (ya (ybL ydF yhd (ykI (yrc rfl) yFS yAY rfl T.z_sum yyS (ya (ygY (yxR ymv yxD (z_v 3 ydp) yGx (yhf z_int))) yf rfl) rfl rfl) (z_v 2 ycl)) yf rfl) rfl rfl) rfl (Or.inl rfl)) (ye (yz (i:=7) sc_law.nd rfl (Or.inl rfl) (ygY (ygh (ya (ygw (yem yI ycb yda rfl T.z_list ycT (ya (z_v 5 yp) yf rfl) rfl rfl)) (ya (ygw (yem yI ycb yda rfl T.z_list ycT (ya (z_v 6 yi) yf rfl) rfl rfl)) yf rfl) rfl))) rfl (Or.inl rfl)) (ye (yz (i:=8) sc_law.nd rfl (Or.inl rfl) (ybn ycQ (hr.mono (by omega)) ydW rfl T.yeS T.ydU.kp T.yeR (ya (z_v 4 yE) yf rfl) rfl rfl) rfl (Or.inl rfl)) (ye (yz (i:=9) sc_law.nd rfl (Or.inl rfl) (ybn ynh (hr.mono (by omega)) ywe rfl T.yyj T.yqT.kp T.yyi (ya (z_v 4 yE) (ya (z_v 5 yp) (ya (z_v 6 yi) yf rfl) rfl) rfl) rfl rfl) rfl (Or.inl rfl)) (ye (yz (i:=10) sc_law.nd rfl (Or.inl rfl) (ybn G_alone (hr.mono (by omega)) yxg rfl T.m_alone T.F_alone.kp T.b_alone (ya (z_v 8 yki) (ya (ybM ix_list ydZ (z_v 7 ycj) z_int (fun _ _=>rfl)) (ya (ybM ix_list ydZ (z_v 7 ycj) z_int (fun _ _=>rfl)) yf rfl) rfl) rfl) rfl rfl) rfl (Or.inl rfl)) (ye (ybg (ytt (yfy (ybn yeZ (hr.mono (by omega)) yjr rfl T.ykf T.yid.kp T.yke (ya (z_v 10 yU) (ya (z_v 9 ybd) yf rfl) rfl) rfl rfl) (fun _=>rfl))) (yh (yv yCC)) yA) (ye (yco (ytu PySem.F.plainAttrs_list PySem.F.slot_list_append PySem.F.type_list_append yhb ywH (ybM ix_tup ybk (z_v 10 yU) z_int (fun _ _=>rfl)) (ya z_int yf rfl) rfl rfl rfl rfl rfl) rfl) (ye (yco (ytu PySem.F.plainAttrs_list PySem.F.slot_list_append PySem.F.type_list_append yhb ywH (ybM ix_tup ybk (z_v 10 yU) z_int (fun _ _=>rfl)) (ya (yeq (ya z_int (ya z_int yf rfl) rfl)) yf rfl) rfl rfl rfl rfl rfl) rfl) (ye (ybg (yJW (yCE (yO (yzU (yqM hr)) yGq (z_v 7 ycj) (ygY (ygh (ya (z_v 5 yp) (ya (z_v 6 yi) yf rfl) rfl))) (yF _)) (yzO (yO yyC yIg (ykI ych ykH ykm rfl T.z_len yjG (ya (z_v 8 yki) yf rfl) rfl rfl) (ykI ych ykH ykm rfl T.z_len yjG (ya (z_v 4 yE) yf rfl) rfl rfl) (yF _))))) (yh (yv yCC)) yA) (ye (yz (i:=10) sc_law.nd rfl (Or.inl rfl) (ybn G_alone (hr.mono (by omega)) yxg rfl T.m_alone T.F_alone.kp T.b_alone (ya (z_v 8 yki) (ya (ybM ix_list ydZ (z_v 7 ycj) z_int (fun _ _=>rfl)) (ya (ybM ix_list ydZ (z_v 7 ycj) z_int (fun _ _=>rfl)) yf rfl) rfl) rfl) rfl rfl) rfl (Or.inl rfl)) (ye (yco (ytu PySem.F.plainAttrs_list PySem.F.slot_list_append PySem.F.type_list_append yhb ywH (ybM ix_list ydZ (z_v 7 ycj) z_int (fun _ _=>rfl)) (ya z_int yf rfl) rfl rfl rfl rfl rfl) rfl) (ye (ykS (ybL ydF yhd (ybM ix_list ydZ (ybM ix_list ydZ (z_v 7 ycj) z_int (fun _ _=>rfl)) z_int (fun _ _=>rfl)) z_int) (ybM ix_list ydZ (z_v 7 ycj) z_int (fun _ _=>rfl)) z_int (fun _=>rfl) rfl rfl rfl) (yh (ybg (ytt (yfy (ybn yeZ (hr.mono (by omega)) yjr rfl T.ykf T.yid.kp T.yke (ya (z_v 10 yU) (ya (z_v 9 ybd) yf rfl) rfl) rfl rfl) (fun _=>rfl))) (yh (yv yCC)) yA))))))))))))))))) (fun _=>rfl)) (yh (yv yCC))))
noncomputable def yDl (K:PySem.W.Frag):Sp:=fun vs H Q _=>∃ (a:Addr) (ns:List Int),vs=[.ref a]/\SqL K H a (ns.map V.int)/\ns.length<=63/\∀ H',Q (.bl true) H'
theorem yJL {A:Nat->Addr}:∀ vs H Q E,yDl K vs H Q E->spE ⟨K,A⟩ 1 yCN vs H Q E:=by
 rintro _ H Q E ⟨a,ns,rfl,hS,hl,q⟩
 obtain ⟨h',e⟩:=yJG (h:=[]) ns hl
 exact ⟨⟨H,H,[],[]⟩,[.scr ns],.bl true,h',rfl,⟨Same.refl _,rfl,List.nodup_nil,fun n d a e=>by simp at e⟩,⟨.ref a,[],rfl,⟨a,rfl,hS⟩,rfl⟩,rfl,e,fun v W' _ _ rv=>by rw [show v=_ from rv];exact q _⟩
end
theorem all_mk {l:PySem.W.OpenLaw}{w:World}{K:PySem.W.Frag}{h:Heap}{mg:Str->Option Value}{fa CLog CDoing CDoer CLet CReckon CTake CPut CIf CEither CTry CThrow CWait f1 f2 f3 f4 f5 f6 f7 f8 f9 f10 f11 f12 f13 f14 f15 f16 f17 f18 f19 f20 f21 f22 f23 f24 f25 f26 f27 f28 f29 f30 f31 f32 f33 f34 f35 f36 f37 f38 f39 f40 f41 f42 f43 f44 f45 f46 f47 f48 f49 f50 f51 f52 f53 f54 f55 u1 u3:Addr}{u2 u4:Tok}(X:K.In h) (G:h.Ns mainGlobals mg) (hfa:mg "law" = some (.ref fa))
  {od1 an1 od2 an2 od3 an3 od4 an4 od5 an5 od6 an6 od7 an7 od8 an8 od9 an9 od10 an10 od11 an11 od12 an12 od13 an13 od14 an14 od15 an15 od16 an16 od17 an17 od18 an18 od19 an19 od20 an20 od21 an21 od22 an22 od23 an23 od24 an24 od25 an25 od26 an26 od27 an27 od28 an28 od29 an29 od30 an30 od31 an31 od32 an32 od33 an33 od34 an34 od35 an35 od36 an36 od37 an37 od38 an38 od39 an39 od40 an40 od41 an41 od42 an42 od43 an43 od44 an44 od45 an45 od46 an46 od47 an47 od48 an48 od49 an49 od50 an50 od51 an51 od52 an52 od53 an53 od54 an54 od55 an55:Option Addr}{sl1 sl2 sl3 sl4 sl5 sl6 sl7 sl8 sl9 sl10 sl11 sl12 sl13 sl14 sl15 sl16 sl17 sl18 sl19 sl20 sl21 sl22 sl23 sl24 sl25 sl26 sl27 sl28 sl29 sl30 sl31 sl32 sl33 sl34 sl35 sl36 sl37 sl38 sl39 sl40 sl41 sl42 sl43 sl44 sl45 sl46 sl47 sl48 sl49 sl50 sl51 sl52 sl53 sl54 sl55:Array (Option Value)}{oc1 kV1 dc1 pm1 cd1 ct1 oc2 kV2 dc2 pm2 cd2 ct2 oc3 kV3 dc3 pm3 cd3 ct3 oc4 kV4 dc4 pm4 cd4 ct4 oc5 kV5 dc5 pm5 cd5 ct5 oc6 kV6 dc6 pm6 cd6 ct6 oc7 kV7 dc7 pm7 cd7 ct7 oc8 kV8 dc8 pm8 cd8 ct8 oc9 kV9 dc9 pm9 cd9 ct9 oc10 kV10 dc10 pm10 cd10 ct10 oc11 kV11 dc11 pm11 cd11 ct11 oc12 kV12 dc12 pm12 cd12 ct12 oc13 kV13 dc13 pm13 cd13 ct13 oc14 kV14 dc14 pm14 cd14 ct14 oc15 kV15 dc15 pm15 cd15 ct15 oc16 kV16 dc16 pm16 cd16 ct16 oc17 kV17 dc17 pm17 cd17 ct17 oc18 kV18 dc18 pm18 cd18 ct18 oc19 kV19 dc19 pm19 cd19 ct19 oc20 kV20 dc20 pm20 cd20 ct20 oc21 kV21 dc21 pm21 cd21 ct21 oc22 kV22 dc22 pm22 cd22 ct22 oc23 kV23 dc23 pm23 cd23 ct23 oc24 kV24 dc24 pm24 cd24 ct24 oc25 kV25 dc25 pm25 cd25 ct25 oc26 kV26 dc26 pm26 cd26 ct26 oc27 kV27 dc27 pm27 cd27 ct27 oc28 kV28 dc28 pm28 cd28 ct28 oc29 kV29 dc29 pm29 cd29 ct29 oc30 kV30 dc30 pm30 cd30 ct30 oc31 kV31 dc31 pm31 cd31 ct31 oc32 kV32 dc32 pm32 cd32 ct32 oc33 kV33 dc33 pm33 cd33 ct33 oc34 kV34 dc34 pm34 cd34 ct34 oc35 kV35 dc35 pm35 cd35 ct35 oc36 kV36 dc36 pm36 cd36 ct36 oc37 kV37 dc37 pm37 cd37 ct37 oc38 kV38 dc38 pm38 cd38 ct38 oc39 kV39 dc39 pm39 cd39 ct39 oc40 kV40 dc40 pm40 cd40 ct40 oc41 kV41 dc41 pm41 cd41 ct41 oc42 kV42 dc42 pm42 cd42 ct42 oc43 kV43 dc43 pm43 cd43 ct43 oc44 kV44 dc44 pm44 cd44 ct44 oc45 kV45 dc45 pm45 cd45 ct45 oc46 kV46 dc46 pm46 cd46 ct46 oc47 kV47 dc47 pm47 cd47 ct47 oc48 kV48 dc48 pm48 cd48 ct48 oc49 kV49 dc49 pm49 cd49 ct49 oc50 kV50 dc50 pm50 cd50 ct50 oc51 kV51 dc51 pm51 cd51 ct51 oc52 kV52 dc52 pm52 cd52 ct52 oc53 kV53 dc53 pm53 cd53 ct53 oc54 kV54 dc54 pm54 cd54 ct54 oc55 kV55 dc55 pm55 cd55 ct55:Value}{qd1:Option Addr}{qn1:Nat}{qs1:Array (Option Value)}{qt1_0:Tok}{qd3:Option Addr}{qn3:Nat}{qs3:Array (Option Value)}{qt3_0:Tok}
  (nCLog:nsIn K mainGlobals "Log" = some (some (.ref CLog)))
  (nCDoing:nsIn K mainGlobals "Doing" = some (some (.ref CDoing)))
  (nCDoer:nsIn K mainGlobals "Doer" = some (some (.ref CDoer)))
  (nCLet:nsIn K mainGlobals "Let" = some (some (.ref CLet)))
  (nCReckon:nsIn K mainGlobals "Reckon" = some (some (.ref CReckon)))
  (nCTake:nsIn K mainGlobals "Take" = some (some (.ref CTake)))
  (nCPut:nsIn K mainGlobals "Put" = some (some (.ref CPut)))
  (nCIf:nsIn K mainGlobals "If" = some (some (.ref CIf)))
  (nCEither:nsIn K mainGlobals "Either" = some (some (.ref CEither)))
  (nCTry:nsIn K mainGlobals "Try" = some (some (.ref CTry)))
  (nCThrow:nsIn K mainGlobals "Throw" = some (some (.ref CThrow)))
  (nCWait:nsIn K mainGlobals "Wait" = some (some (.ref CWait)))
  (yhB:findIn K (.ref CLog) "__init__" = some (some (.ref f1)))
  (yfK:findIn K (.ref CDoing) "__init__" = some (some (.ref f25)))
  (ygG:findIn K (.ref CDoer) "__init__" = some (some (.ref f12)))
  (yhC:findIn K (.ref CLet) "__init__" = some (some (.ref f21)))
  (yfu:findIn K (.ref CReckon) "__init__" = some (some (.ref f22)))
  (ygH:findIn K (.ref CTake) "__init__" = some (some (.ref f23)))
  (yhD:findIn K (.ref CPut) "__init__" = some (some (.ref f24)))
  (yix:findIn K (.ref CIf) "__init__" = some (some (.ref f35)))
  (yfv:findIn K (.ref CEither) "__init__" = some (some (.ref f36)))
  (yhE:findIn K (.ref CTry) "__init__" = some (some (.ref f37)))
  (yfL:findIn K (.ref CThrow) "__init__" = some (some (.ref f38)))
  (yks:findIn K (.ref CLog) "write" = some (some (.ref f2)))
  (yni:findIn K (.ref CLog) "own" = some (some (.ref f3)))
  (ykt:findIn K (.ref CLog) "begin" = some (some (.ref f4)))
  (yjz:findIn K (.ref CLog) "settle" = some (some (.ref f5)))
  (ylv:findIn K (.ref CLog) "drop" = some (some (.ref f6)))
  (ynj:findIn K (.ref CLog) "see" = some (some (.ref f7)))
  (ynk:findIn K (.ref CLog) "saw" = some (some (.ref f8)))
  (yku:findIn K (.ref CLog) "wrote" = some (some (.ref f9)))
  (fs_Doing_held_in:findIn K (.ref CDoing) "held_in" = some (some (.ref f13)))
  (fs_Doing_hold:findIn K (.ref CDoing) "hold" = some (some (.ref f14)))
  (fs_Doing_box_at:findIn K (.ref CDoing) "box_at" = some (some (.ref f15)))
  (fs_Doing_do_reckon:findIn K (.ref CDoing) "do_reckon" = some (some (.ref f16)))
  (fs_Doing_do_put:findIn K (.ref CDoing) "do_put" = some (some (.ref f17)))
  (fs_Doing_sees_at:findIn K (.ref CDoing) "sees_at" = some (some (.ref f18)))
  (fs_Doing_take_own:findIn K (.ref CDoing) "take_own" = some (some (.ref f19)))
  (fs_Doing_take_seen:findIn K (.ref CDoing) "take_seen" = some (some (.ref f20)))
  (yfw:findIn K (.ref CDoing) "take_done" = some (some (.ref f26)))
  (yeU:findIn K (.ref CDoing) "plain_done" = some (some (.ref f27)))
  (yfM:findIn K (.ref CDoing) "list_end" = some (some (.ref f28)))
  (yfN:findIn K (.ref CDoing) "part_end" = some (some (.ref f29)))
  (yhF:findIn K (.ref CDoing) "if_end" = some (some (.ref f30)))
  (yeV:findIn K (.ref CDoing) "either_end" = some (some (.ref f31)))
  (ygI:findIn K (.ref CDoing) "try_end" = some (some (.ref f32)))
  (yes:findIn K (.ref CDoing) "layered_end" = some (some (.ref f33)))
  (cr_Doer:PySem.W.readsIn K CDoer (.type "type")=true)
  (cc_Doer:PySem.W.findCls K (.ref CDoer) (.type "type") "__init__" = some (.val (.ref f12)))
  (cs_Doer:PySem.W.specialIn K (.ref CDoer) "__getattribute__" = some (some (.builtin "type.__getattribute__")))
  (i1:isFn K (.ref f1)=true)
  (l1:K.lookup f1=some ⟨oc1,od1,.func (fnOf "__init__" "Log.__init__" (yk ybR) (yj ybR) (yb ybR) .none kV1 dc1 pm1 an1 cd1 ct1),sl1⟩)
  (c1:codeIn K cd1 "Log.__init__" = true)
  (k1:keepIn K (.ref f1)=true)
  (i2:isFn K (.ref f2)=true)
  (l2:K.lookup f2=some ⟨oc2,od2,.func (fnOf "write" "Log.write" (yk ydf) (yj ydf) (yb ydf) .none kV2 dc2 pm2 an2 cd2 ct2),sl2⟩)
  (c2:codeIn K cd2 "Log.write" = true)
  (k2:keepIn K (.ref f2)=true)
  (i3:isFn K (.ref f3)=true)
  (l3:K.lookup f3=some ⟨oc3,od3,.func (fnOf "own" "Log.own" (yk yfg) (yj yfg) (yb yfg) .none kV3 dc3 pm3 an3 cd3 ct3),sl3⟩)
  (c3:codeIn K cd3 "Log.own" = true)
  (k3:keepIn K (.ref f3)=true)
  (i4:isFn K (.ref f4)=true)
  (l4:K.lookup f4=some ⟨oc4,od4,.func (fnOf "begin" "Log.begin" (yk ydg) (yj ydg) (yb ydg) .none kV4 dc4 pm4 an4 cd4 ct4),sl4⟩)
  (c4:codeIn K cd4 "Log.begin" = true)
  (k4:keepIn K (.ref f4)=true)
  (i5:isFn K (.ref f5)=true)
  (l5:K.lookup f5=some ⟨oc5,od5,.func (fnOf "settle" "Log.settle" (yk ycB) (yj ycB) (yb ycB) .none kV5 dc5 pm5 an5 cd5 ct5),sl5⟩)
  (c5:codeIn K cd5 "Log.settle" = true)
  (k5:keepIn K (.ref f5)=true)
  (i6:isFn K (.ref f6)=true)
  (l6:K.lookup f6=some ⟨oc6,od6,.func (fnOf "drop" "Log.drop" (yk yea) (yj yea) (yb yea) .none kV6 dc6 pm6 an6 cd6 ct6),sl6⟩)
  (c6:codeIn K cd6 "Log.drop" = true)
  (k6:keepIn K (.ref f6)=true)
  (i7:isFn K (.ref f7)=true)
  (l7:K.lookup f7=some ⟨oc7,od7,.func (fnOf "see" "Log.see" (yk yfh) (yj yfh) (yb yfh) .none kV7 dc7 pm7 an7 cd7 ct7),sl7⟩)
  (c7:codeIn K cd7 "Log.see" = true)
  (k7:keepIn K (.ref f7)=true)
  (i8:isFn K (.ref f8)=true)
  (l8:K.lookup f8=some ⟨oc8,od8,.func (fnOf "saw" "Log.saw" (yk yfi) (yj yfi) (yb yfi) .none kV8 dc8 pm8 an8 cd8 ct8),sl8⟩)
  (c8:codeIn K cd8 "Log.saw" = true)
  (k8:keepIn K (.ref f8)=true)
  (i9:isFn K (.ref f9)=true)
  (l9:K.lookup f9=some ⟨oc9,od9,.func (fnOf "wrote" "Log.wrote" (yk ydh) (yj ydh) (yb ydh) .none kV9 dc9 pm9 an9 cd9 ct9),sl9⟩)
  (c9:codeIn K cd9 "Log.wrote" = true)
  (k9:keepIn K (.ref f9)=true)
  (a10:nsIn K mainGlobals "reckon" = some (some (.ref f10)))
  (l10:K.lookup f10=some ⟨oc10,od10,.func (fnOf "reckon" "reckon" (yk ygP) (yj ygP) (yb ygP) .none kV10 dc10 pm10 an10 cd10 ct10),sl10⟩)
  (c10:codeIn K cd10 "reckon" = true)
  (k10:keepIn K (.ref f10)=true)
  (a11:nsIn K mainGlobals "slot_index" = some (some (.ref f11)))
  (l11:K.lookup f11=some ⟨oc11,od11,.func (fnOf "slot_index" "slot_index" (yk ycC) (yj ycC) (yb ycC) .none kV11 dc11 pm11 an11 cd11 ct11),sl11⟩)
  (c11:codeIn K cd11 "slot_index" = true)
  (k11:keepIn K (.ref f11)=true)
  (i12:isFn K (.ref f12)=true)
  (l12:K.lookup f12=some ⟨oc12,od12,.func (fnOf "__init__" "Doer.__init__" (yk ybF) (yj ybF) (yb ybF) .none kV12 dc12 pm12 an12 cd12 ct12),sl12⟩)
  (c12:codeIn K cd12 "Doer.__init__" = true)
  (k12:keepIn K (.ref f12)=true)
  (i13:isFn K (.ref f13)=true)
  (l13:K.lookup f13=some ⟨oc13,od13,.func (fnOf "held_in" "Doer.held_in" (yk ybS) (yj ybS) (yb ybS) .none kV13 dc13 pm13 an13 cd13 ct13),sl13⟩)
  (c13:codeIn K cd13 "Doer.held_in" = true)
  (k13:keepIn K (.ref f13)=true)
  (i14:isFn K (.ref f14)=true)
  (l14:K.lookup f14=some ⟨oc14,od14,.func (fnOf "hold" "Doer.hold" (yk ydi) (yj ydi) (yb ydi) .none kV14 dc14 pm14 an14 cd14 ct14),sl14⟩)
  (c14:codeIn K cd14 "Doer.hold" = true)
  (k14:keepIn K (.ref f14)=true)
  (i15:isFn K (.ref f15)=true)
  (l15:K.lookup f15=some ⟨oc15,od15,.func (fnOf "box_at" "Doer.box_at" (yk ycd) (yj ycd) (yb ycd) .none kV15 dc15 pm15 an15 cd15 ct15),sl15⟩)
  (c15:codeIn K cd15 "Doer.box_at" = true)
  (k15:keepIn K (.ref f15)=true)
  (i16:isFn K (.ref f16)=true)
  (l16:K.lookup f16=some ⟨oc16,od16,.func (fnOf "do_reckon" "Doer.do_reckon" (yk ybo) (yj ybo) (yb ybo) .none kV16 dc16 pm16 an16 cd16 ct16),sl16⟩)
  (c16:codeIn K cd16 "Doer.do_reckon" = true)
  (k16:keepIn K (.ref f16)=true)
  (i17:isFn K (.ref f17)=true)
  (l17:K.lookup f17=some ⟨oc17,od17,.func (fnOf "do_put" "Doer.do_put" (yk yce) (yj yce) (yb yce) .none kV17 dc17 pm17 an17 cd17 ct17),sl17⟩)
  (c17:codeIn K cd17 "Doer.do_put" = true)
  (k17:keepIn K (.ref f17)=true)
  (i18:isFn K (.ref f18)=true)
  (l18:K.lookup f18=some ⟨oc18,od18,.func (fnOf "sees_at" "Doer.sees_at" (yk ybT) (yj ybT) (yb ybT) .none kV18 dc18 pm18 an18 cd18 ct18),sl18⟩)
  (c18:codeIn K cd18 "Doer.sees_at" = true)
  (k18:keepIn K (.ref f18)=true)
  (i19:isFn K (.ref f19)=true)
  (l19:K.lookup f19=some ⟨oc19,od19,.func (fnOf "take_own" "Doer.take_own" (yk ybG) (yj ybG) (yb ybG) .none kV19 dc19 pm19 an19 cd19 ct19),sl19⟩)
  (c19:codeIn K cd19 "Doer.take_own" = true)
  (k19:keepIn K (.ref f19)=true)
  (i20:isFn K (.ref f20)=true)
  (l20:K.lookup f20=some ⟨oc20,od20,.func (fnOf "take_seen" "Doer.take_seen" (yk ybp) (yj ybp) (yb ybp) .none kV20 dc20 pm20 an20 cd20 ct20),sl20⟩)
  (c20:codeIn K cd20 "Doer.take_seen" = true)
  (k20:keepIn K (.ref f20)=true)
  (i21:isFn K (.ref f21)=true)
  (l21:K.lookup f21=some ⟨oc21,od21,.func (fnOf "__init__" "Let.__init__" (yk ybU) (yj ybU) (yb ybU) .none kV21 dc21 pm21 an21 cd21 ct21),sl21⟩)
  (c21:codeIn K cd21 "Let.__init__" = true)
  (k21:keepIn K (.ref f21)=true)
  (i22:isFn K (.ref f22)=true)
  (l22:K.lookup f22=some ⟨oc22,od22,.func (fnOf "__init__" "Reckon.__init__" (yk ybh) (yj ybh) (yb ybh) .none kV22 dc22 pm22 an22 cd22 ct22),sl22⟩)
  (c22:codeIn K cd22 "Reckon.__init__" = true)
  (k22:keepIn K (.ref f22)=true)
  (i23:isFn K (.ref f23)=true)
  (l23:K.lookup f23=some ⟨oc23,od23,.func (fnOf "__init__" "Take.__init__" (yk ybH) (yj ybH) (yb ybH) .none kV23 dc23 pm23 an23 cd23 ct23),sl23⟩)
  (c23:codeIn K cd23 "Take.__init__" = true)
  (k23:keepIn K (.ref f23)=true)
  (i24:isFn K (.ref f24)=true)
  (l24:K.lookup f24=some ⟨oc24,od24,.func (fnOf "__init__" "Put.__init__" (yk ybV) (yj ybV) (yb ybV) .none kV24 dc24 pm24 an24 cd24 ct24),sl24⟩)
  (c24:codeIn K cd24 "Put.__init__" = true)
  (k24:keepIn K (.ref f24)=true)
  (i25:isFn K (.ref f25)=true)
  (l25:K.lookup f25=some ⟨oc25,od25,.func (fnOf "__init__" "Doing.__init__" (yk ybq) (yj ybq) (yb ybq) .none kV25 dc25 pm25 an25 cd25 ct25),sl25⟩)
  (c25:codeIn K cd25 "Doing.__init__" = true)
  (k25:keepIn K (.ref f25)=true)
  (i26:isFn K (.ref f26)=true)
  (l26:K.lookup f26=some ⟨oc26,od26,.func (fnOf "take_done" "Doing.take_done" (yk ybi) (yj ybi) (yb ybi) .none kV26 dc26 pm26 an26 cd26 ct26),sl26⟩)
  (c26:codeIn K cd26 "Doing.take_done" = true)
  (k26:keepIn K (.ref f26)=true)
  (i27:isFn K (.ref f27)=true)
  (l27:K.lookup f27=some ⟨oc27,od27,.func (fnOf "plain_done" "Doing.plain_done" (yk yZ) (yj yZ) (yb yZ) .none kV27 dc27 pm27 an27 cd27 ct27),sl27⟩)
  (c27:codeIn K cd27 "Doing.plain_done" = true)
  (k27:keepIn K (.ref f27)=true)
  (i28:isFn K (.ref f28)=true)
  (l28:K.lookup f28=some ⟨oc28,od28,.func (fnOf "list_end" "Doing.list_end" (yk ybr) (yj ybr) (yb ybr) .none kV28 dc28 pm28 an28 cd28 ct28),sl28⟩)
  (c28:codeIn K cd28 "Doing.list_end" = true)
  (k28:keepIn K (.ref f28)=true)
  (i29:isFn K (.ref f29)=true)
  (l29:K.lookup f29=some ⟨oc29,od29,.func (fnOf "part_end" "Doing.part_end" (yk ybs) (yj ybs) (yb ybs) .none kV29 dc29 pm29 an29 cd29 ct29),sl29⟩)
  (c29:codeIn K cd29 "Doing.part_end" = true)
  (k29:keepIn K (.ref f29)=true)
  (i30:isFn K (.ref f30)=true)
  (l30:K.lookup f30=some ⟨oc30,od30,.func (fnOf "if_end" "Doing.if_end" (yk ybW) (yj ybW) (yb ybW) .none kV30 dc30 pm30 an30 cd30 ct30),sl30⟩)
  (c30:codeIn K cd30 "Doing.if_end" = true)
  (k30:keepIn K (.ref f30)=true)
  (i31:isFn K (.ref f31)=true)
  (l31:K.lookup f31=some ⟨oc31,od31,.func (fnOf "either_end" "Doing.either_end" (yk yba) (yj yba) (yb yba) .none kV31 dc31 pm31 an31 cd31 ct31),sl31⟩)
  (c31:codeIn K cd31 "Doing.either_end" = true)
  (k31:keepIn K (.ref f31)=true)
  (i32:isFn K (.ref f32)=true)
  (l32:K.lookup f32=some ⟨oc32,od32,.func (fnOf "try_end" "Doing.try_end" (yk ybI) (yj ybI) (yb ybI) .none kV32 dc32 pm32 an32 cd32 ct32),sl32⟩)
  (c32:codeIn K cd32 "Doing.try_end" = true)
  (k32:keepIn K (.ref f32)=true)
  (i33:isFn K (.ref f33)=true)
  (l33:K.lookup f33=some ⟨oc33,od33,.func (fnOf "layered_end" "Doing.layered_end" (yk yT) (yj yT) (yb yT) .none kV33 dc33 pm33 an33 cd33 ct33),sl33⟩)
  (c33:codeIn K cd33 "Doing.layered_end" = true)
  (k33:keepIn K (.ref f33)=true)
  (a34:nsIn K mainGlobals "alone" = some (some (.ref f34)))
  (l34:K.lookup f34=some ⟨oc34,od34,.func (fnOf "alone" "alone" (yk yjc) (yj yjc) (yb yjc) .none kV34 dc34 pm34 an34 cd34 ct34),sl34⟩)
  (c34:codeIn K cd34 "alone" = true)
  (k34:keepIn K (.ref f34)=true)
  (i35:isFn K (.ref f35)=true)
  (l35:K.lookup f35=some ⟨oc35,od35,.func (fnOf "__init__" "If.__init__" (yk ycf) (yj ycf) (yb ycf) .none kV35 dc35 pm35 an35 cd35 ct35),sl35⟩)
  (c35:codeIn K cd35 "If.__init__" = true)
  (k35:keepIn K (.ref f35)=true)
  (i36:isFn K (.ref f36)=true)
  (l36:K.lookup f36=some ⟨oc36,od36,.func (fnOf "__init__" "Either.__init__" (yk ybj) (yj ybj) (yb ybj) .none kV36 dc36 pm36 an36 cd36 ct36),sl36⟩)
  (c36:codeIn K cd36 "Either.__init__" = true)
  (k36:keepIn K (.ref f36)=true)
  (i37:isFn K (.ref f37)=true)
  (l37:K.lookup f37=some ⟨oc37,od37,.func (fnOf "__init__" "Try.__init__" (yk ybX) (yj ybX) (yb ybX) .none kV37 dc37 pm37 an37 cd37 ct37),sl37⟩)
  (c37:codeIn K cd37 "Try.__init__" = true)
  (k37:keepIn K (.ref f37)=true)
  (i38:isFn K (.ref f38)=true)
  (l38:K.lookup f38=some ⟨oc38,od38,.func (fnOf "__init__" "Throw.__init__" (yk ybt) (yj ybt) (yb ybt) .none kV38 dc38 pm38 an38 cd38 ct38),sl38⟩)
  (c38:codeIn K cd38 "Throw.__init__" = true)
  (k38:keepIn K (.ref f38)=true)
  (a39:nsIn K mainGlobals "_law_mixed" = some (some (.ref f39)))
  (l39:K.lookup f39=some ⟨oc39,od39,.func (fnOf "_law_mixed" "_law_mixed" (yk ycD) (yj ycD) (yb ycD) .none kV39 dc39 pm39 an39 cd39 ct39),sl39⟩)
  (c39:codeIn K cd39 "_law_mixed" = true)
  (k39:keepIn K (.ref f39)=true)
  (a40:nsIn K mainGlobals "_law_wide" = some (some (.ref f40)))
  (l40:K.lookup f40=some ⟨oc40,od40,.func (fnOf "_law_wide" "_law_wide" (yk ydj) (yj ydj) (yb ydj) .none kV40 dc40 pm40 an40 cd40 ct40),sl40⟩)
  (c40:codeIn K cd40 "_law_wide" = true)
  (k40:keepIn K (.ref f40)=true)
  (a41:nsIn K mainGlobals "_law_alike" = some (some (.ref f41)))
  (l41:K.lookup f41=some ⟨oc41,od41,.func (fnOf "_law_alike" "_law_alike" (yk ycE) (yj ycE) (yb ycE) .none kV41 dc41 pm41 an41 cd41 ct41),sl41⟩)
  (c41:codeIn K cd41 "_law_alike" = true)
  (k41:keepIn K (.ref f41)=true)
  (a42:nsIn K mainGlobals "_law_names" = some (some (.ref f42)))
  (l42:K.lookup f42=some ⟨oc42,od42,.func (fnOf "_law_names" "_law_names" (yk ycF) (yj ycF) (yb ycF) .none kV42 dc42 pm42 an42 cd42 ct42),sl42⟩)
  (c42:codeIn K cd42 "_law_names" = true)
  (k42:keepIn K (.ref f42)=true)
  (a43:nsIn K mainGlobals "_law_plain" = some (some (.ref f43)))
  (l43:K.lookup f43=some ⟨oc43,od43,.func (fnOf "_law_plain" "_law_plain" (yk ycG) (yj ycG) (yb ycG) .none kV43 dc43 pm43 an43 cd43 ct43),sl43⟩)
  (c43:codeIn K cd43 "_law_plain" = true)
  (k43:keepIn K (.ref f43)=true)
  (a44:nsIn K mainGlobals "_law_sided" = some (some (.ref f44)))
  (l44:K.lookup f44=some ⟨oc44,od44,.func (fnOf "_law_sided" "_law_sided" (yk ycH) (yj ycH) (yb ycH) .none kV44 dc44 pm44 an44 cd44 ct44),sl44⟩)
  (c44:codeIn K cd44 "_law_sided" = true)
  (k44:keepIn K (.ref f44)=true)
  (a45:nsIn K mainGlobals "_law_tree" = some (some (.ref f45)))
  (l45:K.lookup f45=some ⟨oc45,od45,.func (fnOf "_law_tree" "_law_tree" (yk ydk) (yj ydk) (yb ydk) .none kV45 dc45 pm45 an45 cd45 ct45),sl45⟩)
  (c45:codeIn K cd45 "_law_tree" = true)
  (k45:keepIn K (.ref f45)=true)
  (a46:nsIn K mainGlobals "_law_made" = some (some (.ref f46)))
  (l46:K.lookup f46=some ⟨oc46,od46,.func (fnOf "_law_made" "_law_made" (yk ydl) (yj ydl) (yb ydl) .none kV46 dc46 pm46 an46 cd46 ct46),sl46⟩)
  (c46:codeIn K cd46 "_law_made" = true)
  (k46:keepIn K (.ref f46)=true)
  (a47:nsIn K mainGlobals "_law_boxes" = some (some (.ref f47)))
  (l47:K.lookup f47=some ⟨oc47,od47,.func (fnOf "_law_boxes" "_law_boxes" (yk ycI) (yj ycI) (yb ycI) .none kV47 dc47 pm47 an47 cd47 ct47),sl47⟩)
  (c47:codeIn K cd47 "_law_boxes" = true)
  (k47:keepIn K (.ref f47)=true)
  (a48:nsIn K mainGlobals "_law_slots" = some (some (.ref f48)))
  (l48:K.lookup f48=some ⟨oc48,od48,.func (fnOf "_law_slots" "_law_slots" (yk ycJ) (yj ycJ) (yb ycJ) .none kV48 dc48 pm48 an48 cd48 ct48),sl48⟩)
  (c48:codeIn K cd48 "_law_slots" = true)
  (k48:keepIn K (.ref f48)=true)
  (a49:nsIn K mainGlobals "_law_sum" = some (some (.ref f49)))
  (l49:K.lookup f49=some ⟨oc49,od49,.func (fnOf "_law_sum" "_law_sum" (yk yeb) (yj yeb) (yb yeb) .none kV49 dc49 pm49 an49 cd49 ct49),sl49⟩)
  (c49:codeIn K cd49 "_law_sum" = true)
  (k49:keepIn K (.ref f49)=true)
  (a50:nsIn K mainGlobals "_law_plainly" = some (some (.ref f50)))
  (l50:K.lookup f50=some ⟨oc50,od50,.func (fnOf "_law_plainly" "_law_plainly" (yk ybY) (yj ybY) (yb ybY) .none kV50 dc50 pm50 an50 cd50 ct50),sl50⟩)
  (c50:codeIn K cd50 "_law_plainly" = true)
  (k50:keepIn K (.ref f50)=true)
  (a51:nsIn K mainGlobals "_law_pairs" = some (some (.ref f51)))
  (l51:K.lookup f51=some ⟨oc51,od51,.func (fnOf "_law_pairs" "_law_pairs" (yk ycK) (yj ycK) (yb ycK) .none kV51 dc51 pm51 an51 cd51 ct51),sl51⟩)
  (c51:codeIn K cd51 "_law_pairs" = true)
  (k51:keepIn K (.ref f51)=true)
  (a52:nsIn K mainGlobals "_law_do" = some (some (.ref f52)))
  (l52:K.lookup f52=some ⟨oc52,od52,.func (fnOf "_law_do" "_law_do" (yk yfj) (yj yfj) (yb yfj) .none kV52 dc52 pm52 an52 cd52 ct52),sl52⟩)
  (c52:codeIn K cd52 "_law_do" = true)
  (k52:keepIn K (.ref f52)=true)
  (a53:nsIn K mainGlobals "_law_part" = some (some (.ref f53)))
  (l53:K.lookup f53=some ⟨oc53,od53,.func (fnOf "_law_part" "_law_part" (yk ydm) (yj ydm) (yb ydm) .none kV53 dc53 pm53 an53 cd53 ct53),sl53⟩)
  (c53:codeIn K cd53 "_law_part" = true)
  (k53:keepIn K (.ref f53)=true)
  (a54:nsIn K mainGlobals "_law_due" = some (some (.ref f54)))
  (l54:K.lookup f54=some ⟨oc54,od54,.func (fnOf "_law_due" "_law_due" (yk yec) (yj yec) (yb yec) .none kV54 dc54 pm54 an54 cd54 ct54),sl54⟩)
  (c54:codeIn K cd54 "_law_due" = true)
  (k54:keepIn K (.ref f54)=true)
  (a55:nsIn K mainGlobals "law" = some (some (.ref f55)))
  (l55:K.lookup f55=some ⟨oc55,od55,.func (fnOf "law" "law" (yk ynN) (yj ynN) (yb ynN) .none kV55 dc55 pm55 an55 cd55 ct55),sl55⟩)
  (c55:codeIn K cd55 "law" = true)
  (k55:keepIn K (.ref f55)=true)
  (pgLog:plainGet K CLog Str.empty=true)
  (hdLog:hasDictIn K CLog=true)
  (poLog:plainOver K CLog=true)
  (saLog:findIn K (.ref CLog) "__setattr__" = some (some (.builtin "object.__setattr__")))
  (mkLog:makesIn K CLog=true)
  (kcLog:keepIn K (.ref CLog)=true)
  (pgDoing:plainGet K CDoing Str.empty=true)
  (hdDoing:hasDictIn K CDoing=true)
  (poDoing:plainOver K CDoing=true)
  (saDoing:findIn K (.ref CDoing) "__setattr__" = some (some (.builtin "object.__setattr__")))
  (mkDoing:makesIn K CDoing=true)
  (kcDoing:keepIn K (.ref CDoing)=true)
  (pgDoer:plainGet K CDoer Str.empty=true)
  (hdDoer:hasDictIn K CDoer=true)
  (poDoer:plainOver K CDoer=true)
  (saDoer:findIn K (.ref CDoer) "__setattr__" = some (some (.builtin "object.__setattr__")))
  (mkDoer:makesIn K CDoer=true)
  (kcDoer:keepIn K (.ref CDoer)=true)
  (pgLet:plainGet K CLet Str.empty=true)
  (hdLet:hasDictIn K CLet=true)
  (poLet:plainOver K CLet=true)
  (saLet:findIn K (.ref CLet) "__setattr__" = some (some (.builtin "object.__setattr__")))
  (mkLet:makesIn K CLet=true)
  (kcLet:keepIn K (.ref CLet)=true)
  (haLet:findIn K (.ref CLet) "__class__" = some (some (.builtin "object.__class__")))
  (hmLet:mroIn K CLet (.type "object")=some true)
  (pgReckon:plainGet K CReckon Str.empty=true)
  (hdReckon:hasDictIn K CReckon=true)
  (poReckon:plainOver K CReckon=true)
  (saReckon:findIn K (.ref CReckon) "__setattr__" = some (some (.builtin "object.__setattr__")))
  (mkReckon:makesIn K CReckon=true)
  (kcReckon:keepIn K (.ref CReckon)=true)
  (haReckon:findIn K (.ref CReckon) "__class__" = some (some (.builtin "object.__class__")))
  (hmReckon:mroIn K CReckon (.type "object")=some true)
  (pgTake:plainGet K CTake Str.empty=true)
  (hdTake:hasDictIn K CTake=true)
  (poTake:plainOver K CTake=true)
  (saTake:findIn K (.ref CTake) "__setattr__" = some (some (.builtin "object.__setattr__")))
  (mkTake:makesIn K CTake=true)
  (kcTake:keepIn K (.ref CTake)=true)
  (haTake:findIn K (.ref CTake) "__class__" = some (some (.builtin "object.__class__")))
  (hmTake:mroIn K CTake (.type "object")=some true)
  (pgPut:plainGet K CPut Str.empty=true)
  (hdPut:hasDictIn K CPut=true)
  (poPut:plainOver K CPut=true)
  (saPut:findIn K (.ref CPut) "__setattr__" = some (some (.builtin "object.__setattr__")))
  (mkPut:makesIn K CPut=true)
  (kcPut:keepIn K (.ref CPut)=true)
  (haPut:findIn K (.ref CPut) "__class__" = some (some (.builtin "object.__class__")))
  (hmPut:mroIn K CPut (.type "object")=some true)
  (pgIf:plainGet K CIf Str.empty=true)
  (hdIf:hasDictIn K CIf=true)
  (poIf:plainOver K CIf=true)
  (saIf:findIn K (.ref CIf) "__setattr__" = some (some (.builtin "object.__setattr__")))
  (mkIf:makesIn K CIf=true)
  (kcIf:keepIn K (.ref CIf)=true)
  (haIf:findIn K (.ref CIf) "__class__" = some (some (.builtin "object.__class__")))
  (hmIf:mroIn K CIf (.type "object")=some true)
  (pgEither:plainGet K CEither Str.empty=true)
  (hdEither:hasDictIn K CEither=true)
  (poEither:plainOver K CEither=true)
  (saEither:findIn K (.ref CEither) "__setattr__" = some (some (.builtin "object.__setattr__")))
  (mkEither:makesIn K CEither=true)
  (kcEither:keepIn K (.ref CEither)=true)
  (haEither:findIn K (.ref CEither) "__class__" = some (some (.builtin "object.__class__")))
  (hmEither:mroIn K CEither (.type "object")=some true)
  (pgTry:plainGet K CTry Str.empty=true)
  (hdTry:hasDictIn K CTry=true)
  (poTry:plainOver K CTry=true)
  (saTry:findIn K (.ref CTry) "__setattr__" = some (some (.builtin "object.__setattr__")))
  (mkTry:makesIn K CTry=true)
  (kcTry:keepIn K (.ref CTry)=true)
  (haTry:findIn K (.ref CTry) "__class__" = some (some (.builtin "object.__class__")))
  (hmTry:mroIn K CTry (.type "object")=some true)
  (pgThrow:plainGet K CThrow Str.empty=true)
  (hdThrow:hasDictIn K CThrow=true)
  (poThrow:plainOver K CThrow=true)
  (saThrow:findIn K (.ref CThrow) "__setattr__" = some (some (.builtin "object.__setattr__")))
  (mkThrow:makesIn K CThrow=true)
  (kcThrow:keepIn K (.ref CThrow)=true)
  (haThrow:findIn K (.ref CThrow) "__class__" = some (some (.builtin "object.__class__")))
  (hmThrow:mroIn K CThrow (.type "object")=some true)
  (pgWait:plainGet K CWait Str.empty=true)
  (hdWait:hasDictIn K CWait=true)
  (poWait:plainOver K CWait=true)
  (saWait:findIn K (.ref CWait) "__setattr__" = some (some (.builtin "object.__setattr__")))
  (mkWait:makesIn K CWait=true)
  (kcWait:keepIn K (.ref CWait)=true)
  (ioWait:findIn K (.ref CWait) "__init__" = some (some (.builtin "object.__init__")))
  (haWait:findIn K (.ref CWait) "__class__" = some (some (.builtin "object.__class__")))
  (hmWait:mroIn K CWait (.type "object")=some true)
  (naLog_stack:findIn K (.ref CLog) "stack" = some none)
  (naLog_last_seen:findIn K (.ref CLog) "last_seen" = some none)
  (naDoing_held:findIn K (.ref CDoing) "held" = some none)
  (naDoing_width:findIn K (.ref CDoing) "width" = some none)
  (naDoing_log:findIn K (.ref CDoing) "log" = some none)
  (naDoing_found:findIn K (.ref CDoing) "found" = some none)
  (naLet_slot:findIn K (.ref CLet) "slot" = some none)
  (naReckon_slot:findIn K (.ref CReckon) "slot" = some none)
  (naTake_slot:findIn K (.ref CTake) "slot" = some none)
  (naPut_slot:findIn K (.ref CPut) "slot" = some none)
  (naIf_slot:findIn K (.ref CIf) "slot" = some none)
  (naTry_slot:findIn K (.ref CTry) "slot" = some none)
  (naThrow_slot:findIn K (.ref CThrow) "slot" = some none)
  (naLet_number:findIn K (.ref CLet) "number" = some none)
  (naReckon_word:findIn K (.ref CReckon) "word" = some none)
  (naReckon_one:findIn K (.ref CReckon) "one" = some none)
  (naReckon_other:findIn K (.ref CReckon) "other" = some none)
  (naTake_place:findIn K (.ref CTake) "place" = some none)
  (naPut_place:findIn K (.ref CPut) "place" = some none)
  (naIf_parts:findIn K (.ref CIf) "parts" = some none)
  (naEither_parts:findIn K (.ref CEither) "parts" = some none)
  (naTry_parts:findIn K (.ref CTry) "parts" = some none)
  (naIf_others:findIn K (.ref CIf) "others" = some none)
  (naEither_others:findIn K (.ref CEither) "others" = some none)
  (naTry_others:findIn K (.ref CTry) "others" = some none)
  (naTry_name:findIn K (.ref CTry) "name" = some none)
  (naThrow_name:findIn K (.ref CThrow) "name" = some none)
  (sb3_4:subIn K (.ref CLet) (.ref CReckon)=some false)
  (ne3_4:(CLet == CReckon)=false)
  (sb3_5:subIn K (.ref CLet) (.ref CTake)=some false)
  (ne3_5:(CLet == CTake)=false)
  (sb3_6:subIn K (.ref CLet) (.ref CPut)=some false)
  (ne3_6:(CLet == CPut)=false)
  (sb3_7:subIn K (.ref CLet) (.ref CIf)=some false)
  (ne3_7:(CLet == CIf)=false)
  (sb3_8:subIn K (.ref CLet) (.ref CEither)=some false)
  (ne3_8:(CLet == CEither)=false)
  (sb3_9:subIn K (.ref CLet) (.ref CTry)=some false)
  (ne3_9:(CLet == CTry)=false)
  (sb3_10:subIn K (.ref CLet) (.ref CThrow)=some false)
  (ne3_10:(CLet == CThrow)=false)
  (sb3_11:subIn K (.ref CLet) (.ref CWait)=some false)
  (ne3_11:(CLet == CWait)=false)
  (sb4_3:subIn K (.ref CReckon) (.ref CLet)=some false)
  (ne4_3:(CReckon == CLet)=false)
  (sb4_5:subIn K (.ref CReckon) (.ref CTake)=some false)
  (ne4_5:(CReckon == CTake)=false)
  (sb4_6:subIn K (.ref CReckon) (.ref CPut)=some false)
  (ne4_6:(CReckon == CPut)=false)
  (sb4_7:subIn K (.ref CReckon) (.ref CIf)=some false)
  (ne4_7:(CReckon == CIf)=false)
  (sb4_8:subIn K (.ref CReckon) (.ref CEither)=some false)
  (ne4_8:(CReckon == CEither)=false)
  (sb4_9:subIn K (.ref CReckon) (.ref CTry)=some false)
  (ne4_9:(CReckon == CTry)=false)
  (sb4_10:subIn K (.ref CReckon) (.ref CThrow)=some false)
  (ne4_10:(CReckon == CThrow)=false)
  (sb4_11:subIn K (.ref CReckon) (.ref CWait)=some false)
  (ne4_11:(CReckon == CWait)=false)
  (sb5_3:subIn K (.ref CTake) (.ref CLet)=some false)
  (ne5_3:(CTake == CLet)=false)
  (sb5_4:subIn K (.ref CTake) (.ref CReckon)=some false)
  (ne5_4:(CTake == CReckon)=false)
  (sb5_6:subIn K (.ref CTake) (.ref CPut)=some false)
  (ne5_6:(CTake == CPut)=false)
  (sb5_7:subIn K (.ref CTake) (.ref CIf)=some false)
  (ne5_7:(CTake == CIf)=false)
  (sb5_8:subIn K (.ref CTake) (.ref CEither)=some false)
  (ne5_8:(CTake == CEither)=false)
  (sb5_9:subIn K (.ref CTake) (.ref CTry)=some false)
  (ne5_9:(CTake == CTry)=false)
  (sb5_10:subIn K (.ref CTake) (.ref CThrow)=some false)
  (ne5_10:(CTake == CThrow)=false)
  (sb5_11:subIn K (.ref CTake) (.ref CWait)=some false)
  (ne5_11:(CTake == CWait)=false)
  (sb6_3:subIn K (.ref CPut) (.ref CLet)=some false)
  (ne6_3:(CPut == CLet)=false)
  (sb6_4:subIn K (.ref CPut) (.ref CReckon)=some false)
  (ne6_4:(CPut == CReckon)=false)
  (sb6_5:subIn K (.ref CPut) (.ref CTake)=some false)
  (ne6_5:(CPut == CTake)=false)
  (sb6_7:subIn K (.ref CPut) (.ref CIf)=some false)
  (ne6_7:(CPut == CIf)=false)
  (sb6_8:subIn K (.ref CPut) (.ref CEither)=some false)
  (ne6_8:(CPut == CEither)=false)
  (sb6_9:subIn K (.ref CPut) (.ref CTry)=some false)
  (ne6_9:(CPut == CTry)=false)
  (sb6_10:subIn K (.ref CPut) (.ref CThrow)=some false)
  (ne6_10:(CPut == CThrow)=false)
  (sb6_11:subIn K (.ref CPut) (.ref CWait)=some false)
  (ne6_11:(CPut == CWait)=false)
  (sb7_3:subIn K (.ref CIf) (.ref CLet)=some false)
  (ne7_3:(CIf == CLet)=false)
  (sb7_4:subIn K (.ref CIf) (.ref CReckon)=some false)
  (ne7_4:(CIf == CReckon)=false)
  (sb7_5:subIn K (.ref CIf) (.ref CTake)=some false)
  (ne7_5:(CIf == CTake)=false)
  (sb7_6:subIn K (.ref CIf) (.ref CPut)=some false)
  (ne7_6:(CIf == CPut)=false)
  (sb7_8:subIn K (.ref CIf) (.ref CEither)=some false)
  (ne7_8:(CIf == CEither)=false)
  (sb7_9:subIn K (.ref CIf) (.ref CTry)=some false)
  (ne7_9:(CIf == CTry)=false)
  (sb7_10:subIn K (.ref CIf) (.ref CThrow)=some false)
  (ne7_10:(CIf == CThrow)=false)
  (sb7_11:subIn K (.ref CIf) (.ref CWait)=some false)
  (ne7_11:(CIf == CWait)=false)
  (sb8_3:subIn K (.ref CEither) (.ref CLet)=some false)
  (ne8_3:(CEither == CLet)=false)
  (sb8_4:subIn K (.ref CEither) (.ref CReckon)=some false)
  (ne8_4:(CEither == CReckon)=false)
  (sb8_5:subIn K (.ref CEither) (.ref CTake)=some false)
  (ne8_5:(CEither == CTake)=false)
  (sb8_6:subIn K (.ref CEither) (.ref CPut)=some false)
  (ne8_6:(CEither == CPut)=false)
  (sb8_7:subIn K (.ref CEither) (.ref CIf)=some false)
  (ne8_7:(CEither == CIf)=false)
  (sb8_9:subIn K (.ref CEither) (.ref CTry)=some false)
  (ne8_9:(CEither == CTry)=false)
  (sb8_10:subIn K (.ref CEither) (.ref CThrow)=some false)
  (ne8_10:(CEither == CThrow)=false)
  (sb8_11:subIn K (.ref CEither) (.ref CWait)=some false)
  (ne8_11:(CEither == CWait)=false)
  (sb9_3:subIn K (.ref CTry) (.ref CLet)=some false)
  (ne9_3:(CTry == CLet)=false)
  (sb9_4:subIn K (.ref CTry) (.ref CReckon)=some false)
  (ne9_4:(CTry == CReckon)=false)
  (sb9_5:subIn K (.ref CTry) (.ref CTake)=some false)
  (ne9_5:(CTry == CTake)=false)
  (sb9_6:subIn K (.ref CTry) (.ref CPut)=some false)
  (ne9_6:(CTry == CPut)=false)
  (sb9_7:subIn K (.ref CTry) (.ref CIf)=some false)
  (ne9_7:(CTry == CIf)=false)
  (sb9_8:subIn K (.ref CTry) (.ref CEither)=some false)
  (ne9_8:(CTry == CEither)=false)
  (sb9_10:subIn K (.ref CTry) (.ref CThrow)=some false)
  (ne9_10:(CTry == CThrow)=false)
  (sb9_11:subIn K (.ref CTry) (.ref CWait)=some false)
  (ne9_11:(CTry == CWait)=false)
  (sb10_3:subIn K (.ref CThrow) (.ref CLet)=some false)
  (ne10_3:(CThrow == CLet)=false)
  (sb10_4:subIn K (.ref CThrow) (.ref CReckon)=some false)
  (ne10_4:(CThrow == CReckon)=false)
  (sb10_5:subIn K (.ref CThrow) (.ref CTake)=some false)
  (ne10_5:(CThrow == CTake)=false)
  (sb10_6:subIn K (.ref CThrow) (.ref CPut)=some false)
  (ne10_6:(CThrow == CPut)=false)
  (sb10_7:subIn K (.ref CThrow) (.ref CIf)=some false)
  (ne10_7:(CThrow == CIf)=false)
  (sb10_8:subIn K (.ref CThrow) (.ref CEither)=some false)
  (ne10_8:(CThrow == CEither)=false)
  (sb10_9:subIn K (.ref CThrow) (.ref CTry)=some false)
  (ne10_9:(CThrow == CTry)=false)
  (sb10_11:subIn K (.ref CThrow) (.ref CWait)=some false)
  (ne10_11:(CThrow == CWait)=false)
  (sb11_3:subIn K (.ref CWait) (.ref CLet)=some false)
  (ne11_3:(CWait == CLet)=false)
  (sb11_4:subIn K (.ref CWait) (.ref CReckon)=some false)
  (ne11_4:(CWait == CReckon)=false)
  (sb11_5:subIn K (.ref CWait) (.ref CTake)=some false)
  (ne11_5:(CWait == CTake)=false)
  (sb11_6:subIn K (.ref CWait) (.ref CPut)=some false)
  (ne11_6:(CWait == CPut)=false)
  (sb11_7:subIn K (.ref CWait) (.ref CIf)=some false)
  (ne11_7:(CWait == CIf)=false)
  (sb11_8:subIn K (.ref CWait) (.ref CEither)=some false)
  (ne11_8:(CWait == CEither)=false)
  (sb11_9:subIn K (.ref CWait) (.ref CTry)=some false)
  (ne11_9:(CWait == CTry)=false)
  (sb11_10:subIn K (.ref CWait) (.ref CThrow)=some false)
  (ne11_10:(CWait == CThrow)=false)
  (ty3:typeIn K (.ref CLet)=some (.type "type"))
  (ty4:typeIn K (.ref CReckon)=some (.type "type"))
  (ty5:typeIn K (.ref CTake)=some (.type "type"))
  (ty6:typeIn K (.ref CPut)=some (.type "type"))
  (ty7:typeIn K (.ref CIf)=some (.type "type"))
  (ty8:typeIn K (.ref CEither)=some (.type "type"))
  (ty9:typeIn K (.ref CTry)=some (.type "type"))
  (ty10:typeIn K (.ref CThrow)=some (.type "type"))
  (ty11:typeIn K (.ref CWait)=some (.type "type"))
  (hn:PySem.W.specialIn K (.builtin "object.__class__") "__get__" = some (some (.builtin "getset_descriptor.__get__")))
  (htk:PySem.W.takesIn K (.builtin "object.__class__")=some true)
  (z1:nsIn K mainGlobals "bool" = some none)
  (z2:nsIn K mainGlobals "dict" = some none)
  (z3:nsIn K mainGlobals "int" = some none)
  (z4:nsIn K mainGlobals "isinstance" = some none)
  (z5:nsIn K mainGlobals "len" = some none)
  (z6:nsIn K mainGlobals "list" = some none)
  (z7:nsIn K mainGlobals "max" = some none)
  (z8:nsIn K mainGlobals "range" = some none)
  (z9:nsIn K mainGlobals "reversed" = some none)
  (z10:nsIn K mainGlobals "sorted" = some none)
  (z11:nsIn K mainGlobals "str" = some none)
  (z12:nsIn K mainGlobals "sum" = some none)
  (z13:nsIn K mainGlobals "tuple" = some none)
  (q1:nsIn K mainGlobals "DONE" = some (some (.ref u1)))
  (qk1:K.lookup u1=some ⟨.type "tuple",qd1,.seq #[.str "done" qt1_0] qn1,qs1⟩)
  (q2:nsIn K mainGlobals "SLOTS" = some (some (.str "abcdefgh" u2)))
  (q3:nsIn K mainGlobals "WAITS" = some (some (.ref u3)))
  (qk3:K.lookup u3=some ⟨.type "tuple",qd3,.seq #[.str "waits" qt3_0] qn3,qs3⟩)
  (q4:nsIn K mainGlobals "WIDE" = some (some (.int 18446744073709551616 u4))) :
  ∃ fd:FuncData,(∀ (s:Shared) (v:Value),BindsTo s fd ⟨[v],[]⟩ [("_law_script",v)])/\∀ base:Heap,K.In base->base.Ns mainGlobals mg->FnOk l.prog w K mg base CX0 30 fa fd ["_law_script"] (yDl K):=by
 have e:=hfa.symm.trans (mg_of X G a55)
 cases e
 have F1:=yP (st:=ybR) l1 c1 k1
 have b1:=F1.binds (ps:=["self"]) fun _ _ _ _ _ _=>ml1 fun _=>rfl
 have F2:=yP (st:=ydf) l2 c2 k2
 have b2:=F2.binds (ps:=["self","box","number"]) fun _ _ _ _ _ _=>ml3 fun _ _ _=>rfl
 have F3:=yP (st:=yfg) l3 c3 k3
 have b3:=F3.binds (ps:=["self","box"]) fun _ _ _ _ _ _=>ml2 fun _ _=>rfl
 have F4:=yP (st:=ydg) l4 c4 k4
 have b4:=F4.binds (ps:=["self"]) fun _ _ _ _ _ _=>ml1 fun _=>rfl
 have F5:=yP (st:=ycB) l5 c5 k5
 have b5:=F5.binds (ps:=["self"]) fun _ _ _ _ _ _=>ml1 fun _=>rfl
 have F6:=yP (st:=yea) l6 c6 k6
 have b6:=F6.binds (ps:=["self"]) fun _ _ _ _ _ _=>ml1 fun _=>rfl
 have F7:=yP (st:=yfh) l7 c7 k7
 have b7:=F7.binds (ps:=["self","box","number"]) fun _ _ _ _ _ _=>ml3 fun _ _ _=>rfl
 have F8:=yP (st:=yfi) l8 c8 k8
 have b8:=F8.binds (ps:=["self"]) fun _ _ _ _ _ _=>ml1 fun _=>rfl
 have F9:=yP (st:=ydh) l9 c9 k9
 have b9:=F9.binds (ps:=["self"]) fun _ _ _ _ _ _=>ml1 fun _=>rfl
 have F10:=yP (st:=ygP) l10 c10 k10
 have b10:=F10.binds (ps:=["word","one","other"]) fun _ _ _ _ _ _=>ml3 fun _ _ _=>rfl
 have F11:=yP (st:=ycC) l11 c11 k11
 have b11:=F11.binds (ps:=["slot"]) fun _ _ _ _ _ _=>ml1 fun _=>rfl
 have F12:=yP (st:=ybF) l12 c12 k12
 have b12:=F12.binds (ps:=["self","slots","width"]) fun _ _ _ _ _ _=>ml3 fun _ _ _=>rfl
 have F13:=yP (st:=ybS) l13 c13 k13
 have b13:=F13.binds (ps:=["self","slot"]) fun _ _ _ _ _ _=>ml2 fun _ _=>rfl
 have F14:=yP (st:=ydi) l14 c14 k14
 have b14:=F14.binds (ps:=["self","slot","number"]) fun _ _ _ _ _ _=>ml3 fun _ _ _=>rfl
 have F15:=yP (st:=ycd) l15 c15 k15
 have b15:=F15.binds (ps:=["self","place"]) fun _ _ _ _ _ _=>ml2 fun _ _=>rfl
 have F16:=yP (st:=ybo) l16 c16 k16
 have b16:=F16.binds (ps:=["self","word","slot","one","other"]) fun _ _ _ _ _ _=>ml5 fun _ _ _ _ _=>rfl
 have F17:=yP (st:=yce) l17 c17 k17
 have b17:=F17.binds (ps:=["self","place","slot"]) fun _ _ _ _ _ _=>ml3 fun _ _ _=>rfl
 have F18:=yP (st:=ybT) l18 c18 k18
 have b18:=F18.binds (ps:=["self","place"]) fun _ _ _ _ _ _=>ml2 fun _ _=>rfl
 have F19:=yP (st:=ybG) l19 c19 k19
 have b19:=F19.binds (ps:=["self","slot","place"]) fun _ _ _ _ _ _=>ml3 fun _ _ _=>rfl
 have F20:=yP (st:=ybp) l20 c20 k20
 have b20:=F20.binds (ps:=["self","slot","place","numbers"]) fun _ _ _ _ _ _=>ml4 fun _ _ _ _=>rfl
 have F21:=yP (st:=ybU) l21 c21 k21
 have b21:=F21.binds (ps:=["self","slot","number"]) fun _ _ _ _ _ _=>ml3 fun _ _ _=>rfl
 have F22:=yP (st:=ybh) l22 c22 k22
 have b22:=F22.binds (ps:=["self","word","slot","one","other"]) fun _ _ _ _ _ _=>ml5 fun _ _ _ _ _=>rfl
 have F23:=yP (st:=ybH) l23 c23 k23
 have b23:=F23.binds (ps:=["self","slot","place"]) fun _ _ _ _ _ _=>ml3 fun _ _ _=>rfl
 have F24:=yP (st:=ybV) l24 c24 k24
 have b24:=F24.binds (ps:=["self","place","slot"]) fun _ _ _ _ _ _=>ml3 fun _ _ _=>rfl
 have F25:=yP (st:=ybq) l25 c25 k25
 have b25:=F25.binds (ps:=["self","boxes","slots"]) fun _ _ _ _ _ _=>ml3 fun _ _ _=>rfl
 have F26:=yP (st:=ybi) l26 c26 k26
 have b26:=F26.binds (ps:=["self","part"]) fun _ _ _ _ _ _=>ml2 fun _ _=>rfl
 have F27:=yP (st:=yZ) l27 c27 k27
 have b27:=F27.binds (ps:=["self","part"]) fun _ _ _ _ _ _=>ml2 fun _ _=>rfl
 have F28:=yP (st:=ybr) l28 c28 k28
 have b28:=F28.binds (ps:=["self","parts"]) fun _ _ _ _ _ _=>ml2 fun _ _=>rfl
 have F29:=yP (st:=ybs) l29 c29 k29
 have b29:=F29.binds (ps:=["self","part"]) fun _ _ _ _ _ _=>ml2 fun _ _=>rfl
 have F30:=yP (st:=ybW) l30 c30 k30
 have b30:=F30.binds (ps:=["self","part"]) fun _ _ _ _ _ _=>ml2 fun _ _=>rfl
 have F31:=yP (st:=yba) l31 c31 k31
 have b31:=F31.binds (ps:=["self","part"]) fun _ _ _ _ _ _=>ml2 fun _ _=>rfl
 have F32:=yP (st:=ybI) l32 c32 k32
 have b32:=F32.binds (ps:=["self","part"]) fun _ _ _ _ _ _=>ml2 fun _ _=>rfl
 have F33:=yP (st:=yT) l33 c33 k33
 have b33:=F33.binds (ps:=["self","parts"]) fun _ _ _ _ _ _=>ml2 fun _ _=>rfl
 have F34:=yP (st:=yjc) l34 c34 k34
 have b34:=F34.binds (ps:=["deed","boxes","slots"]) fun _ _ _ _ _ _=>ml3 fun _ _ _=>rfl
 have F35:=yP (st:=ycf) l35 c35 k35
 have b35:=F35.binds (ps:=["self","slot","parts","others"]) fun _ _ _ _ _ _=>ml4 fun _ _ _ _=>rfl
 have F36:=yP (st:=ybj) l36 c36 k36
 have b36:=F36.binds (ps:=["self","parts","others"]) fun _ _ _ _ _ _=>ml3 fun _ _ _=>rfl
 have F37:=yP (st:=ybX) l37 c37 k37
 have b37:=F37.binds (ps:=["self","parts","name","slot","others"]) fun _ _ _ _ _ _=>ml5 fun _ _ _ _ _=>rfl
 have F38:=yP (st:=ybt) l38 c38 k38
 have b38:=F38.binds (ps:=["self","name","slot"]) fun _ _ _ _ _ _=>ml3 fun _ _ _=>rfl
 have F39:=yP (st:=ycD) l39 c39 k39
 have b39:=F39.binds (ps:=["_law_cell"]) fun _ _ _ _ _ _=>ml1 fun _=>rfl
 have F40:=yP (st:=ydj) l40 c40 k40
 have b40:=F40.binds (ps:=["_law_cell"]) fun _ _ _ _ _ _=>ml1 fun _=>rfl
 have F41:=yP (st:=ycE) l41 c41 k41
 have b41:=F41.binds (ps:=["_law_found","_law_due_here"]) fun _ _ _ _ _ _=>ml2 fun _ _=>rfl
 have F42:=yP (st:=ycF) l42 c42 k42
 have b42:=F42.binds (ps:=["_law_cell"]) fun _ _ _ _ _ _=>ml1 fun _=>rfl
 have F43:=yP (st:=ycG) l43 c43 k43
 have b43:=F43.binds (ps:=["_law_mixed_here","_law_cell"]) fun _ _ _ _ _ _=>ml2 fun _ _=>rfl
 have F44:=yP (st:=ycH) l44 c44 k44
 have b44:=F44.binds (ps:=["_law_mixed_here","_law_one","_law_other","_law_names_here"]) fun _ _ _ _ _ _=>ml4 fun _ _ _ _=>rfl
 have F45:=yP (st:=ydk) l45 c45 k45
 have b45:=F45.binds (ps:=["_law_cells","_law_depth","_law_names_here"]) fun _ _ _ _ _ _=>ml3 fun _ _ _=>rfl
 have F46:=yP (st:=ydl) l46 c46 k46
 have b46:=F46.binds (ps:=["_law_tree_here"]) fun _ _ _ _ _ _=>ml1 fun _=>rfl
 have F47:=yP (st:=ycI) l47 c47 k47
 have b47:=F47.binds (ps:=["_law_cell"]) fun _ _ _ _ _ _=>ml1 fun _=>rfl
 have F48:=yP (st:=ycJ) l48 c48 k48
 have b48:=F48.binds (ps:=["_law_cell"]) fun _ _ _ _ _ _=>ml1 fun _=>rfl
 have F49:=yP (st:=yeb) l49 c49 k49
 have b49:=F49.binds (ps:=["_law_word","_law_one","_law_other"]) fun _ _ _ _ _ _=>ml3 fun _ _ _=>rfl
 have F50:=yP (st:=ybY) l50 c50 k50
 have b50:=F50.binds (ps:=["_law_part_here","_law_boxes_here","_law_saw","_law_slots_here","_law_written"]) fun _ _ _ _ _ _=>ml5 fun _ _ _ _ _=>rfl
 have F51:=yP (st:=ycK) l51 c51 k51
 have b51:=F51.binds (ps:=["_law_found"]) fun _ _ _ _ _ _=>ml1 fun _=>rfl
 have F52:=yP (st:=yfj) l52 c52 k52
 have b52:=F52.binds (ps:=["_law_tree_here","_law_boxes_here","_law_saw","_law_slots_here","_law_written"]) fun _ _ _ _ _ _=>ml5 fun _ _ _ _ _=>rfl
 have F53:=yP (st:=ydm) l53 c53 k53
 have b53:=F53.binds (ps:=["_law_part_here","_law_boxes_here","_law_saw","_law_slots_here","_law_written"]) fun _ _ _ _ _ _=>ml5 fun _ _ _ _ _=>rfl
 have F54:=yP (st:=yec) l54 c54 k54
 have b54:=F54.binds (ps:=["_law_tree_here","_law_boxes_here","_law_slots_here"]) fun _ _ _ _ _ _=>ml3 fun _ _ _=>rfl
 have F55:=yP (st:=ynN) l55 c55 k55
 have b55:=F55.binds (ps:=["_law_script"]) fun _ _ _ _ _ _=>ml1 fun _=>rfl
 let AA:Nat->Addr:=fun k=>match k with|0=>CLog|1=>CDoing|2=>CDoer|3=>CLet|4=>CReckon|5=>CTake|6=>CPut|7=>CIf|8=>CEither|9=>CTry|10=>CThrow|11=>CWait|_=>CLog
 have CL:∀ k,Cls K (AA k):=fun k=>match k with|0=>⟨pgLog,hdLog,poLog,saLog⟩|1=>⟨pgDoing,hdDoing,poDoing,saDoing⟩|2=>⟨pgDoer,hdDoer,poDoer,saDoer⟩|3=>⟨pgLet,hdLet,poLet,saLet⟩|4=>⟨pgReckon,hdReckon,poReckon,saReckon⟩|5=>⟨pgTake,hdTake,poTake,saTake⟩|6=>⟨pgPut,hdPut,poPut,saPut⟩|7=>⟨pgIf,hdIf,poIf,saIf⟩|8=>⟨pgEither,hdEither,poEither,saEither⟩|9=>⟨pgTry,hdTry,poTry,saTry⟩|10=>⟨pgThrow,hdThrow,poThrow,saThrow⟩|11=>⟨pgWait,hdWait,poWait,saWait⟩|_+12=>⟨pgLog,hdLog,poLog,saLog⟩
 have TY3:∀ (H:Hp) (a dx:Addr) (fs:List (Str×V)),H a=some (.ins CLet dx fs)->yow K H (.ref a) (.ref CLet):=fun H a dx fs e=>.ins e (CL 3) haLet hn htk hmLet
 have TY4:∀ (H:Hp) (a dx:Addr) (fs:List (Str×V)),H a=some (.ins CReckon dx fs)->yow K H (.ref a) (.ref CReckon):=fun H a dx fs e=>.ins e (CL 4) haReckon hn htk hmReckon
 have TY5:∀ (H:Hp) (a dx:Addr) (fs:List (Str×V)),H a=some (.ins CTake dx fs)->yow K H (.ref a) (.ref CTake):=fun H a dx fs e=>.ins e (CL 5) haTake hn htk hmTake
 have TY6:∀ (H:Hp) (a dx:Addr) (fs:List (Str×V)),H a=some (.ins CPut dx fs)->yow K H (.ref a) (.ref CPut):=fun H a dx fs e=>.ins e (CL 6) haPut hn htk hmPut
 have TY7:∀ (H:Hp) (a dx:Addr) (fs:List (Str×V)),H a=some (.ins CIf dx fs)->yow K H (.ref a) (.ref CIf):=fun H a dx fs e=>.ins e (CL 7) haIf hn htk hmIf
 have TY8:∀ (H:Hp) (a dx:Addr) (fs:List (Str×V)),H a=some (.ins CEither dx fs)->yow K H (.ref a) (.ref CEither):=fun H a dx fs e=>.ins e (CL 8) haEither hn htk hmEither
 have TY9:∀ (H:Hp) (a dx:Addr) (fs:List (Str×V)),H a=some (.ins CTry dx fs)->yow K H (.ref a) (.ref CTry):=fun H a dx fs e=>.ins e (CL 9) haTry hn htk hmTry
 have TY10:∀ (H:Hp) (a dx:Addr) (fs:List (Str×V)),H a=some (.ins CThrow dx fs)->yow K H (.ref a) (.ref CThrow):=fun H a dx fs e=>.ins e (CL 10) haThrow hn htk hmThrow
 have TY11:∀ (H:Hp) (a dx:Addr) (fs:List (Str×V)),H a=some (.ins CWait dx fs)->yow K H (.ref a) (.ref CWait):=fun H a dx fs e=>.ins e (CL 11) haWait hn htk hmWait
 have T:Txt K mg ⟨AA,f1,fnOf "__init__" "Log.__init__" (yk ybR) (yj ybR) (yb ybR) .none kV1 dc1 pm1 an1 cd1 ct1,f2,fnOf "write" "Log.write" (yk ydf) (yj ydf) (yb ydf) .none kV2 dc2 pm2 an2 cd2 ct2,f3,fnOf "own" "Log.own" (yk yfg) (yj yfg) (yb yfg) .none kV3 dc3 pm3 an3 cd3 ct3,f4,fnOf "begin" "Log.begin" (yk ydg) (yj ydg) (yb ydg) .none kV4 dc4 pm4 an4 cd4 ct4,f5,fnOf "settle" "Log.settle" (yk ycB) (yj ycB) (yb ycB) .none kV5 dc5 pm5 an5 cd5 ct5,f6,fnOf "drop" "Log.drop" (yk yea) (yj yea) (yb yea) .none kV6 dc6 pm6 an6 cd6 ct6,f7,fnOf "see" "Log.see" (yk yfh) (yj yfh) (yb yfh) .none kV7 dc7 pm7 an7 cd7 ct7,f8,fnOf "saw" "Log.saw" (yk yfi) (yj yfi) (yb yfi) .none kV8 dc8 pm8 an8 cd8 ct8,f9,fnOf "wrote" "Log.wrote" (yk ydh) (yj ydh) (yb ydh) .none kV9 dc9 pm9 an9 cd9 ct9,f10,fnOf "reckon" "reckon" (yk ygP) (yj ygP) (yb ygP) .none kV10 dc10 pm10 an10 cd10 ct10,f11,fnOf "slot_index" "slot_index" (yk ycC) (yj ycC) (yb ycC) .none kV11 dc11 pm11 an11 cd11 ct11,f12,fnOf "__init__" "Doer.__init__" (yk ybF) (yj ybF) (yb ybF) .none kV12 dc12 pm12 an12 cd12 ct12,f13,fnOf "held_in" "Doer.held_in" (yk ybS) (yj ybS) (yb ybS) .none kV13 dc13 pm13 an13 cd13 ct13,f14,fnOf "hold" "Doer.hold" (yk ydi) (yj ydi) (yb ydi) .none kV14 dc14 pm14 an14 cd14 ct14,f15,fnOf "box_at" "Doer.box_at" (yk ycd) (yj ycd) (yb ycd) .none kV15 dc15 pm15 an15 cd15 ct15,f16,fnOf "do_reckon" "Doer.do_reckon" (yk ybo) (yj ybo) (yb ybo) .none kV16 dc16 pm16 an16 cd16 ct16,f17,fnOf "do_put" "Doer.do_put" (yk yce) (yj yce) (yb yce) .none kV17 dc17 pm17 an17 cd17 ct17,f18,fnOf "sees_at" "Doer.sees_at" (yk ybT) (yj ybT) (yb ybT) .none kV18 dc18 pm18 an18 cd18 ct18,f19,fnOf "take_own" "Doer.take_own" (yk ybG) (yj ybG) (yb ybG) .none kV19 dc19 pm19 an19 cd19 ct19,f20,fnOf "take_seen" "Doer.take_seen" (yk ybp) (yj ybp) (yb ybp) .none kV20 dc20 pm20 an20 cd20 ct20,f21,fnOf "__init__" "Let.__init__" (yk ybU) (yj ybU) (yb ybU) .none kV21 dc21 pm21 an21 cd21 ct21,f22,fnOf "__init__" "Reckon.__init__" (yk ybh) (yj ybh) (yb ybh) .none kV22 dc22 pm22 an22 cd22 ct22,f23,fnOf "__init__" "Take.__init__" (yk ybH) (yj ybH) (yb ybH) .none kV23 dc23 pm23 an23 cd23 ct23,f24,fnOf "__init__" "Put.__init__" (yk ybV) (yj ybV) (yb ybV) .none kV24 dc24 pm24 an24 cd24 ct24,f25,fnOf "__init__" "Doing.__init__" (yk ybq) (yj ybq) (yb ybq) .none kV25 dc25 pm25 an25 cd25 ct25,f26,fnOf "take_done" "Doing.take_done" (yk ybi) (yj ybi) (yb ybi) .none kV26 dc26 pm26 an26 cd26 ct26,f27,fnOf "plain_done" "Doing.plain_done" (yk yZ) (yj yZ) (yb yZ) .none kV27 dc27 pm27 an27 cd27 ct27,f28,fnOf "list_end" "Doing.list_end" (yk ybr) (yj ybr) (yb ybr) .none kV28 dc28 pm28 an28 cd28 ct28,f29,fnOf "part_end" "Doing.part_end" (yk ybs) (yj ybs) (yb ybs) .none kV29 dc29 pm29 an29 cd29 ct29,f30,fnOf "if_end" "Doing.if_end" (yk ybW) (yj ybW) (yb ybW) .none kV30 dc30 pm30 an30 cd30 ct30,f31,fnOf "either_end" "Doing.either_end" (yk yba) (yj yba) (yb yba) .none kV31 dc31 pm31 an31 cd31 ct31,f32,fnOf "try_end" "Doing.try_end" (yk ybI) (yj ybI) (yb ybI) .none kV32 dc32 pm32 an32 cd32 ct32,f33,fnOf "layered_end" "Doing.layered_end" (yk yT) (yj yT) (yb yT) .none kV33 dc33 pm33 an33 cd33 ct33,f34,fnOf "alone" "alone" (yk yjc) (yj yjc) (yb yjc) .none kV34 dc34 pm34 an34 cd34 ct34,f35,fnOf "__init__" "If.__init__" (yk ycf) (yj ycf) (yb ycf) .none kV35 dc35 pm35 an35 cd35 ct35,f36,fnOf "__init__" "Either.__init__" (yk ybj) (yj ybj) (yb ybj) .none kV36 dc36 pm36 an36 cd36 ct36,f37,fnOf "__init__" "Try.__init__" (yk ybX) (yj ybX) (yb ybX) .none kV37 dc37 pm37 an37 cd37 ct37,f38,fnOf "__init__" "Throw.__init__" (yk ybt) (yj ybt) (yb ybt) .none kV38 dc38 pm38 an38 cd38 ct38,f39,fnOf "_law_mixed" "_law_mixed" (yk ycD) (yj ycD) (yb ycD) .none kV39 dc39 pm39 an39 cd39 ct39,f40,fnOf "_law_wide" "_law_wide" (yk ydj) (yj ydj) (yb ydj) .none kV40 dc40 pm40 an40 cd40 ct40,f41,fnOf "_law_alike" "_law_alike" (yk ycE) (yj ycE) (yb ycE) .none kV41 dc41 pm41 an41 cd41 ct41,f42,fnOf "_law_names" "_law_names" (yk ycF) (yj ycF) (yb ycF) .none kV42 dc42 pm42 an42 cd42 ct42,f43,fnOf "_law_plain" "_law_plain" (yk ycG) (yj ycG) (yb ycG) .none kV43 dc43 pm43 an43 cd43 ct43,f44,fnOf "_law_sided" "_law_sided" (yk ycH) (yj ycH) (yb ycH) .none kV44 dc44 pm44 an44 cd44 ct44,f45,fnOf "_law_tree" "_law_tree" (yk ydk) (yj ydk) (yb ydk) .none kV45 dc45 pm45 an45 cd45 ct45,f46,fnOf "_law_made" "_law_made" (yk ydl) (yj ydl) (yb ydl) .none kV46 dc46 pm46 an46 cd46 ct46,f47,fnOf "_law_boxes" "_law_boxes" (yk ycI) (yj ycI) (yb ycI) .none kV47 dc47 pm47 an47 cd47 ct47,f48,fnOf "_law_slots" "_law_slots" (yk ycJ) (yj ycJ) (yb ycJ) .none kV48 dc48 pm48 an48 cd48 ct48,f49,fnOf "_law_sum" "_law_sum" (yk yeb) (yj yeb) (yb yeb) .none kV49 dc49 pm49 an49 cd49 ct49,f50,fnOf "_law_plainly" "_law_plainly" (yk ybY) (yj ybY) (yb ybY) .none kV50 dc50 pm50 an50 cd50 ct50,f51,fnOf "_law_pairs" "_law_pairs" (yk ycK) (yj ycK) (yb ycK) .none kV51 dc51 pm51 an51 cd51 ct51,f52,fnOf "_law_do" "_law_do" (yk yfj) (yj yfj) (yb yfj) .none kV52 dc52 pm52 an52 cd52 ct52,f53,fnOf "_law_part" "_law_part" (yk ydm) (yj ydm) (yb ydm) .none kV53 dc53 pm53 an53 cd53 ct53,f54,fnOf "_law_due" "_law_due" (yk yec) (yj yec) (yb yec) .none kV54 dc54 pm54 an54 cd54 ct54,fa,fnOf "law" "law" (yk ynN) (yj ynN) (yb ynN) .none kV55 dc55 pm55 an55 cd55 ct55,u1,u2,u3,u4⟩:=⟨F1,b1,F2,b2,F3,b3,F4,b4,F5,b5,F6,b6,F7,b7,F8,b8,F9,b9,F10,b10,mg_of X G a10,F11,b11,mg_of X G a11,F12,b12,F13,b13,F14,b14,F15,b15,F16,b16,F17,b17,F18,b18,F19,b19,F20,b20,F21,b21,F22,b22,F23,b23,F24,b24,F25,b25,F26,b26,F27,b27,F28,b28,F29,b29,F30,b30,F31,b31,F32,b32,F33,b33,F34,b34,mg_of X G a34,F35,b35,F36,b36,F37,b37,F38,b38,F39,b39,mg_of X G a39,F40,b40,mg_of X G a40,F41,b41,mg_of X G a41,F42,b42,mg_of X G a42,F43,b43,mg_of X G a43,F44,b44,mg_of X G a44,F45,b45,mg_of X G a45,F46,b46,mg_of X G a46,F47,b47,mg_of X G a47,F48,b48,mg_of X G a48,F49,b49,mg_of X G a49,F50,b50,mg_of X G a50,F51,b51,mg_of X G a51,F52,b52,mg_of X G a52,F53,b53,mg_of X G a53,F54,b54,mg_of X G a54,F55,b55,mg_of X G a55,mg_of X G nCLog,⟨mkLog,yhB,i1,kcLog⟩,mg_of X G nCDoing,⟨mkDoing,yfK,i25,kcDoing⟩,mg_of X G nCDoer,⟨mkDoer,ygG,i12,kcDoer⟩,mg_of X G nCLet,⟨mkLet,yhC,i21,kcLet⟩,mg_of X G nCReckon,⟨mkReckon,yfu,i22,kcReckon⟩,mg_of X G nCTake,⟨mkTake,ygH,i23,kcTake⟩,mg_of X G nCPut,⟨mkPut,yhD,i24,kcPut⟩,mg_of X G nCIf,⟨mkIf,yix,i35,kcIf⟩,mg_of X G nCEither,⟨mkEither,yfv,i36,kcEither⟩,mg_of X G nCTry,⟨mkTry,yhE,i37,kcTry⟩,mg_of X G nCThrow,⟨mkThrow,yfL,i38,kcThrow⟩,mg_of X G nCWait,mkWait,ioWait,kcWait,⟨yks,i2,k2⟩,⟨yni,i3,k3⟩,⟨ykt,i4,k4⟩,⟨yjz,i5,k5⟩,⟨ylv,i6,k6⟩,⟨ynj,i7,k7⟩,⟨ynk,i8,k8⟩,⟨yku,i9,k9⟩,⟨fs_Doing_held_in,i13,k13⟩,⟨fs_Doing_hold,i14,k14⟩,⟨fs_Doing_box_at,i15,k15⟩,⟨fs_Doing_do_reckon,i16,k16⟩,⟨fs_Doing_do_put,i17,k17⟩,⟨fs_Doing_sees_at,i18,k18⟩,⟨fs_Doing_take_own,i19,k19⟩,⟨fs_Doing_take_seen,i20,k20⟩,⟨yfw,i26,k26⟩,⟨yeU,i27,k27⟩,⟨yfM,i28,k28⟩,⟨yfN,i29,k29⟩,⟨yhF,i30,k30⟩,⟨yeV,i31,k31⟩,⟨ygI,i32,k32⟩,⟨yes,i33,k33⟩,⟨cr_Doer,cc_Doer,cs_Doer,k12⟩,CL,⟨all_cons ⟨CL 0,naLog_stack⟩ (fun k hk=>absurd hk (by simp)),all_cons ⟨CL 0,naLog_last_seen⟩ (fun k hk=>absurd hk (by simp)),all_cons ⟨CL 1,naDoing_held⟩ (fun k hk=>absurd hk (by simp)),all_cons ⟨CL 1,naDoing_width⟩ (fun k hk=>absurd hk (by simp)),all_cons ⟨CL 1,naDoing_log⟩ (fun k hk=>absurd hk (by simp)),all_cons ⟨CL 1,naDoing_found⟩ (fun k hk=>absurd hk (by simp)),all_cons ⟨CL 3,naLet_slot⟩ (all_cons ⟨CL 4,naReckon_slot⟩ (all_cons ⟨CL 5,naTake_slot⟩ (all_cons ⟨CL 6,naPut_slot⟩ (all_cons ⟨CL 7,naIf_slot⟩ (all_cons ⟨CL 9,naTry_slot⟩ (all_cons ⟨CL 10,naThrow_slot⟩ (fun k hk=>absurd hk (by simp)))))))),all_cons ⟨CL 3,naLet_number⟩ (fun k hk=>absurd hk (by simp)),all_cons ⟨CL 4,naReckon_word⟩ (fun k hk=>absurd hk (by simp)),all_cons ⟨CL 4,naReckon_one⟩ (fun k hk=>absurd hk (by simp)),all_cons ⟨CL 4,naReckon_other⟩ (fun k hk=>absurd hk (by simp)),all_cons ⟨CL 5,naTake_place⟩ (all_cons ⟨CL 6,naPut_place⟩ (fun k hk=>absurd hk (by simp))),all_cons ⟨CL 7,naIf_parts⟩ (all_cons ⟨CL 8,naEither_parts⟩ (all_cons ⟨CL 9,naTry_parts⟩ (fun k hk=>absurd hk (by simp)))),all_cons ⟨CL 7,naIf_others⟩ (all_cons ⟨CL 8,naEither_others⟩ (all_cons ⟨CL 9,naTry_others⟩ (fun k hk=>absurd hk (by simp)))),all_cons ⟨CL 9,naTry_name⟩ (all_cons ⟨CL 10,naThrow_name⟩ (fun k hk=>absurd hk (by simp))),all_cons (fun H p dx fs e=>⟨_,_,TY3 H p dx fs e,rfl,ygK⟩) (all_cons (fun H p dx fs e=>⟨_,_,TY3 H p dx fs e,rfl,yn ne3_4 hmReckon ty4 sb3_4⟩) (all_cons (fun H p dx fs e=>⟨_,_,TY3 H p dx fs e,rfl,yn ne3_5 hmTake ty5 sb3_5⟩) (all_cons (fun H p dx fs e=>⟨_,_,TY3 H p dx fs e,rfl,yn ne3_6 hmPut ty6 sb3_6⟩) (all_cons (fun H p dx fs e=>⟨_,_,TY3 H p dx fs e,rfl,yn ne3_7 hmIf ty7 sb3_7⟩) (all_cons (fun H p dx fs e=>⟨_,_,TY3 H p dx fs e,rfl,yn ne3_8 hmEither ty8 sb3_8⟩) (all_cons (fun H p dx fs e=>⟨_,_,TY3 H p dx fs e,rfl,yn ne3_9 hmTry ty9 sb3_9⟩) (all_cons (fun H p dx fs e=>⟨_,_,TY3 H p dx fs e,rfl,yn ne3_10 hmThrow ty10 sb3_10⟩) (all_cons (fun H p dx fs e=>⟨_,_,TY3 H p dx fs e,rfl,yn ne3_11 hmWait ty11 sb3_11⟩) (all_cons (fun H p dx fs e=>⟨_,_,TY4 H p dx fs e,rfl,yn ne4_3 hmLet ty3 sb4_3⟩) (all_cons (fun H p dx fs e=>⟨_,_,TY4 H p dx fs e,rfl,ygK⟩) (all_cons (fun H p dx fs e=>⟨_,_,TY4 H p dx fs e,rfl,yn ne4_5 hmTake ty5 sb4_5⟩) (all_cons (fun H p dx fs e=>⟨_,_,TY4 H p dx fs e,rfl,yn ne4_6 hmPut ty6 sb4_6⟩) (all_cons (fun H p dx fs e=>⟨_,_,TY4 H p dx fs e,rfl,yn ne4_7 hmIf ty7 sb4_7⟩) (all_cons (fun H p dx fs e=>⟨_,_,TY4 H p dx fs e,rfl,yn ne4_8 hmEither ty8 sb4_8⟩) (all_cons (fun H p dx fs e=>⟨_,_,TY4 H p dx fs e,rfl,yn ne4_9 hmTry ty9 sb4_9⟩) (all_cons (fun H p dx fs e=>⟨_,_,TY4 H p dx fs e,rfl,yn ne4_10 hmThrow ty10 sb4_10⟩) (all_cons (fun H p dx fs e=>⟨_,_,TY4 H p dx fs e,rfl,yn ne4_11 hmWait ty11 sb4_11⟩) (all_cons (fun H p dx fs e=>⟨_,_,TY5 H p dx fs e,rfl,yn ne5_3 hmLet ty3 sb5_3⟩) (all_cons (fun H p dx fs e=>⟨_,_,TY5 H p dx fs e,rfl,yn ne5_4 hmReckon ty4 sb5_4⟩) (all_cons (fun H p dx fs e=>⟨_,_,TY5 H p dx fs e,rfl,ygK⟩) (all_cons (fun H p dx fs e=>⟨_,_,TY5 H p dx fs e,rfl,yn ne5_6 hmPut ty6 sb5_6⟩) (all_cons (fun H p dx fs e=>⟨_,_,TY5 H p dx fs e,rfl,yn ne5_7 hmIf ty7 sb5_7⟩) (all_cons (fun H p dx fs e=>⟨_,_,TY5 H p dx fs e,rfl,yn ne5_8 hmEither ty8 sb5_8⟩) (all_cons (fun H p dx fs e=>⟨_,_,TY5 H p dx fs e,rfl,yn ne5_9 hmTry ty9 sb5_9⟩) (all_cons (fun H p dx fs e=>⟨_,_,TY5 H p dx fs e,rfl,yn ne5_10 hmThrow ty10 sb5_10⟩) (all_cons (fun H p dx fs e=>⟨_,_,TY5 H p dx fs e,rfl,yn ne5_11 hmWait ty11 sb5_11⟩) (all_cons (fun H p dx fs e=>⟨_,_,TY6 H p dx fs e,rfl,yn ne6_3 hmLet ty3 sb6_3⟩) (all_cons (fun H p dx fs e=>⟨_,_,TY6 H p dx fs e,rfl,yn ne6_4 hmReckon ty4 sb6_4⟩) (all_cons (fun H p dx fs e=>⟨_,_,TY6 H p dx fs e,rfl,yn ne6_5 hmTake ty5 sb6_5⟩) (all_cons (fun H p dx fs e=>⟨_,_,TY6 H p dx fs e,rfl,ygK⟩) (all_cons (fun H p dx fs e=>⟨_,_,TY6 H p dx fs e,rfl,yn ne6_7 hmIf ty7 sb6_7⟩) (all_cons (fun H p dx fs e=>⟨_,_,TY6 H p dx fs e,rfl,yn ne6_8 hmEither ty8 sb6_8⟩) (all_cons (fun H p dx fs e=>⟨_,_,TY6 H p dx fs e,rfl,yn ne6_9 hmTry ty9 sb6_9⟩) (all_cons (fun H p dx fs e=>⟨_,_,TY6 H p dx fs e,rfl,yn ne6_10 hmThrow ty10 sb6_10⟩) (all_cons (fun H p dx fs e=>⟨_,_,TY6 H p dx fs e,rfl,yn ne6_11 hmWait ty11 sb6_11⟩) (all_cons (fun H p dx fs e=>⟨_,_,TY7 H p dx fs e,rfl,yn ne7_3 hmLet ty3 sb7_3⟩) (all_cons (fun H p dx fs e=>⟨_,_,TY7 H p dx fs e,rfl,yn ne7_4 hmReckon ty4 sb7_4⟩) (all_cons (fun H p dx fs e=>⟨_,_,TY7 H p dx fs e,rfl,yn ne7_5 hmTake ty5 sb7_5⟩) (all_cons (fun H p dx fs e=>⟨_,_,TY7 H p dx fs e,rfl,yn ne7_6 hmPut ty6 sb7_6⟩) (all_cons (fun H p dx fs e=>⟨_,_,TY7 H p dx fs e,rfl,ygK⟩) (all_cons (fun H p dx fs e=>⟨_,_,TY7 H p dx fs e,rfl,yn ne7_8 hmEither ty8 sb7_8⟩) (all_cons (fun H p dx fs e=>⟨_,_,TY7 H p dx fs e,rfl,yn ne7_9 hmTry ty9 sb7_9⟩) (all_cons (fun H p dx fs e=>⟨_,_,TY7 H p dx fs e,rfl,yn ne7_10 hmThrow ty10 sb7_10⟩) (all_cons (fun H p dx fs e=>⟨_,_,TY7 H p dx fs e,rfl,yn ne7_11 hmWait ty11 sb7_11⟩) (all_cons (fun H p dx fs e=>⟨_,_,TY8 H p dx fs e,rfl,yn ne8_3 hmLet ty3 sb8_3⟩) (all_cons (fun H p dx fs e=>⟨_,_,TY8 H p dx fs e,rfl,yn ne8_4 hmReckon ty4 sb8_4⟩) (all_cons (fun H p dx fs e=>⟨_,_,TY8 H p dx fs e,rfl,yn ne8_5 hmTake ty5 sb8_5⟩) (all_cons (fun H p dx fs e=>⟨_,_,TY8 H p dx fs e,rfl,yn ne8_6 hmPut ty6 sb8_6⟩) (all_cons (fun H p dx fs e=>⟨_,_,TY8 H p dx fs e,rfl,yn ne8_7 hmIf ty7 sb8_7⟩) (all_cons (fun H p dx fs e=>⟨_,_,TY8 H p dx fs e,rfl,ygK⟩) (all_cons (fun H p dx fs e=>⟨_,_,TY8 H p dx fs e,rfl,yn ne8_9 hmTry ty9 sb8_9⟩) (all_cons (fun H p dx fs e=>⟨_,_,TY8 H p dx fs e,rfl,yn ne8_10 hmThrow ty10 sb8_10⟩) (all_cons (fun H p dx fs e=>⟨_,_,TY8 H p dx fs e,rfl,yn ne8_11 hmWait ty11 sb8_11⟩) (all_cons (fun H p dx fs e=>⟨_,_,TY9 H p dx fs e,rfl,yn ne9_3 hmLet ty3 sb9_3⟩) (all_cons (fun H p dx fs e=>⟨_,_,TY9 H p dx fs e,rfl,yn ne9_4 hmReckon ty4 sb9_4⟩) (all_cons (fun H p dx fs e=>⟨_,_,TY9 H p dx fs e,rfl,yn ne9_5 hmTake ty5 sb9_5⟩) (all_cons (fun H p dx fs e=>⟨_,_,TY9 H p dx fs e,rfl,yn ne9_6 hmPut ty6 sb9_6⟩) (all_cons (fun H p dx fs e=>⟨_,_,TY9 H p dx fs e,rfl,yn ne9_7 hmIf ty7 sb9_7⟩) (all_cons (fun H p dx fs e=>⟨_,_,TY9 H p dx fs e,rfl,yn ne9_8 hmEither ty8 sb9_8⟩) (all_cons (fun H p dx fs e=>⟨_,_,TY9 H p dx fs e,rfl,ygK⟩) (all_cons (fun H p dx fs e=>⟨_,_,TY9 H p dx fs e,rfl,yn ne9_10 hmThrow ty10 sb9_10⟩) (all_cons (fun H p dx fs e=>⟨_,_,TY9 H p dx fs e,rfl,yn ne9_11 hmWait ty11 sb9_11⟩) (all_cons (fun H p dx fs e=>⟨_,_,TY10 H p dx fs e,rfl,yn ne10_3 hmLet ty3 sb10_3⟩) (all_cons (fun H p dx fs e=>⟨_,_,TY10 H p dx fs e,rfl,yn ne10_4 hmReckon ty4 sb10_4⟩) (all_cons (fun H p dx fs e=>⟨_,_,TY10 H p dx fs e,rfl,yn ne10_5 hmTake ty5 sb10_5⟩) (all_cons (fun H p dx fs e=>⟨_,_,TY10 H p dx fs e,rfl,yn ne10_6 hmPut ty6 sb10_6⟩) (all_cons (fun H p dx fs e=>⟨_,_,TY10 H p dx fs e,rfl,yn ne10_7 hmIf ty7 sb10_7⟩) (all_cons (fun H p dx fs e=>⟨_,_,TY10 H p dx fs e,rfl,yn ne10_8 hmEither ty8 sb10_8⟩) (all_cons (fun H p dx fs e=>⟨_,_,TY10 H p dx fs e,rfl,yn ne10_9 hmTry ty9 sb10_9⟩) (all_cons (fun H p dx fs e=>⟨_,_,TY10 H p dx fs e,rfl,ygK⟩) (all_cons (fun H p dx fs e=>⟨_,_,TY10 H p dx fs e,rfl,yn ne10_11 hmWait ty11 sb10_11⟩) (all_cons (fun H p dx fs e=>⟨_,_,TY11 H p dx fs e,rfl,yn ne11_3 hmLet ty3 sb11_3⟩) (all_cons (fun H p dx fs e=>⟨_,_,TY11 H p dx fs e,rfl,yn ne11_4 hmReckon ty4 sb11_4⟩) (all_cons (fun H p dx fs e=>⟨_,_,TY11 H p dx fs e,rfl,yn ne11_5 hmTake ty5 sb11_5⟩) (all_cons (fun H p dx fs e=>⟨_,_,TY11 H p dx fs e,rfl,yn ne11_6 hmPut ty6 sb11_6⟩) (all_cons (fun H p dx fs e=>⟨_,_,TY11 H p dx fs e,rfl,yn ne11_7 hmIf ty7 sb11_7⟩) (all_cons (fun H p dx fs e=>⟨_,_,TY11 H p dx fs e,rfl,yn ne11_8 hmEither ty8 sb11_8⟩) (all_cons (fun H p dx fs e=>⟨_,_,TY11 H p dx fs e,rfl,yn ne11_9 hmTry ty9 sb11_9⟩) (all_cons (fun H p dx fs e=>⟨_,_,TY11 H p dx fs e,rfl,yn ne11_10 hmThrow ty10 sb11_10⟩) (all_cons (fun H p dx fs e=>⟨_,_,TY11 H p dx fs e,rfl,ygK⟩) (fun k hk=>absurd hk (by simp [yM]))))))))))))))))))))))))))))))))))))))))))))))))))))))))))))))))))))))))))))))))))⟩,mg_none_of X G z1,mg_none_of X G z2,mg_none_of X G z3,mg_none_of X G z4,mg_none_of X G z5,mg_none_of X G z6,mg_none_of X G z7,mg_none_of X G z8,mg_none_of X G z9,mg_none_of X G z10,mg_none_of X G z11,mg_none_of X G z12,mg_none_of X G z13,mg_of X G q1,⟨_,_,_,qk1,rfl,rfl,(by show 1<=sizeLine;decide),.cons ⟨_,rfl⟩ (.nil)⟩,mg_of X G q2,mg_of X G q3,⟨_,_,_,qk3,rfl,rfl,(by show 1<=sizeLine;decide),.cons ⟨_,rfl⟩ (.nil)⟩,mg_of X G q4⟩
 refine ⟨fnOf "law" "law" (yk ynN) (yj ynN) (yb ynN) .none kV55 dc55 pm55 an55 cd55 ct55,fun s v=>.of_eq rfl,fun base _ _=>?_⟩
 have yiv:=ypH (P:=l.prog) (w:=w) (base:=base) T
 have yls:=yuw (P:=l.prog) (w:=w) (base:=base) T
 have yiJ:=yym (P:=l.prog) (w:=w) (base:=base) T
 have yjy:=yux (P:=l.prog) (w:=w) (base:=base) T
 have yig:=ysu (P:=l.prog) (w:=w) (base:=base) T
 have ykG:=ywh (P:=l.prog) (w:=w) (base:=base) T
 have ypK:=yyn (P:=l.prog) (w:=w) (base:=base) T
 have ymr:=yyo (P:=l.prog) (w:=w) (base:=base) T
 have ylu:=yuy (P:=l.prog) (w:=w) (base:=base) T
 have G_reckon:=yBa (P:=l.prog) (w:=w) (base:=base) T
 have yeY:=ysv (P:=l.prog) (w:=w) (base:=base) T
 have yN:=ypI (P:=l.prog) (w:=w) (base:=base) T yeY
 have ybl:=yuz (P:=l.prog) (w:=w) (base:=base) T yeY
 have ybv:=yqx (P:=l.prog) (w:=w) (base:=base) T yN
 have yhy:=yod (P:=l.prog) (w:=w) (base:=base) T yiv
 have ygE:=ync (P:=l.prog) (w:=w) (base:=base) T yN ybl G_reckon
 have yjx:=yqy (P:=l.prog) (w:=w) (base:=base) T ybv yN yls
 have yiw:=ypJ (P:=l.prog) (w:=w) (base:=base) T ybv yiJ
 have yhz:=yoe (P:=l.prog) (w:=w) (base:=base) T ybv ybl yiJ
 have ygD:=ynd (P:=l.prog) (w:=w) (base:=base) T ybv ybl ypK
 have ygd:=ypL (P:=l.prog) (w:=w) (base:=base) T
 have yel:=ymo (P:=l.prog) (w:=w) (base:=base) T
 have yfs:=yof (P:=l.prog) (w:=w) (base:=base) T
 have yge:=ypM (P:=l.prog) (w:=w) (base:=base) T
 have ygW:=yqz (P:=l.prog) (w:=w) (base:=base) T
 have yek:=ymp (P:=l.prog) (w:=w) (base:=base) T
 have ygf:=ypN (P:=l.prog) (w:=w) (base:=base) T
 have yeM:=yne (P:=l.prog) (w:=w) (base:=base) T
 have ygF:=ynf (P:=l.prog) (w:=w) (base:=base) T yhy
 have yfI:=ymq (P:=l.prog) (w:=w) (base:=base) T yiw yhz ygD
 have ydE:=ylt (P:=l.prog) (w:=w) (base:=base) T yjx ygE ybl yfI
 have GR4:=yBb (P:=l.prog) (w:=w) (base:=base) T yN ybl ydE yjy ykG yig 20
 have ybw:=GR4.yjD
 have yjF:=GR4.yjE
 have ykM:=GR4.ykL
 have yih:=GR4.yif
 have yko:=GR4.ykn
 have yeT:=GR4.yhA
 have G_alone:=yDk (P:=l.prog) (w:=w) (base:=base) T ygF ybw ymr ylu
 have ybA:=ysw (P:=l.prog) (w:=w) (base:=base) T
 have ydr:=yuA (P:=l.prog) (w:=w) (base:=base) T
 have GR0:=yBc (P:=l.prog) (w:=w) (base:=base) T  5
 have yeZ:=GR0.ynE
 have ykq:=ysx (P:=l.prog) (w:=w) (base:=base) T ybA
 have yii:=ysy (P:=l.prog) (w:=w) (base:=base) T ydr
 have yij:=ysz (P:=l.prog) (w:=w) (base:=base) T
 have GR1:=yBd (P:=l.prog) (w:=w) (base:=base) T ybA yii yij 5
 have yfJ:=GR1.ypO
 have GR2:=yBe (P:=l.prog) (w:=w) (base:=base) T yek ygW ygd yge yel yfs yeM ygf 7
 have ycQ:=GR2.ypP
 have ykp:=ysA (P:=l.prog) (w:=w) (base:=base) T ybA ydr
 have ykr:=ysB (P:=l.prog) (w:=w) (base:=base) T ybA ydr
 have yng:=ywi (P:=l.prog) (w:=w) (base:=base) T
 have ygg:=ypQ (P:=l.prog) (w:=w) (base:=base) T yng
 have ygs:=ysC (P:=l.prog) (w:=w) (base:=base) T
 have GR3:=yBf (P:=l.prog) (w:=w) (base:=base) T ygg 20
 have yft:=GR3.yuB
 have ypS:=GR3.ypR
 have ynh:=ywj (P:=l.prog) (w:=w) (base:=base) T yft ygs
 have G_law:=yJK (P:=l.prog) (w:=w) (base:=base) T yeZ ykp ynh ycQ ykq ykr yfJ G_alone
 exact G_law.imp yJL
theorem walk {l:PySem.W.OpenLaw}{q:Program}{loose:List Str}{XP:(Str->Option Value)->Heap->Prop}{YP:World->Heap->Prop}{d:DefRec}{K:Params->PySem.W.Frag}(hn:l.most=some 63) (hdf:d.params.defaults=[])
  (hY:∀ (w:World) (h:Heap),YP w h->(K w.params).In h)
  (F:∀ (w:World) (mg:Str->Option Value) (fa:Addr) (h:Heap),(K w.params).In h->h.Ns mainGlobals mg->mg d.name=some (.ref fa) ->
   ∃ fd:FuncData,(∀ (s:Shared) (u:Value),BindsTo s fd ⟨[u],[]⟩ [("_law_script",u)])/\∀ base:Heap,(K w.params).In base->base.Ns mainGlobals mg->FnOk l.prog w (K w.params) mg base CX0 30 fa fd ["_law_script"] (yDl (K w.params))) :
  PySem.W.WalkO q loose XP YP l.row.toRowW d [] (fun f vs=>PySem.call f vs) :=
 L2.walk_of (n:=63) (k:=30) (x:="_law_script") (CX:=fun _=>CX0) (sp:=fun w=>yDl (K w.params)) hn (by decide) hdf ⟨rfl,by decide,by decide⟩ hY F (fun _ _ a ns hl _ hS=>⟨a,ns,rfl,hS,hl,fun _=>rfl⟩) fun _ _ _ _ _ z=>z
end My
namespace PySem.W.Fast
def tw16107662841777177269:=()
def tw11207454301022957262:=()
def tw5055437529321975686:=()
def tw1037760046979015963:=()
def tw6028298115770764928:=()
def tw13954782944016410565:=()
def tw13186973699315312126:=()
def tw8464965754844489521:=()
def tw2351975232337297614:=()
def tw6713376110580952886:=()
def tw12629157412780352525:=()
def tw10451393201368275080:=()
def tw14994158388031294437:=()
def tw1550097623684838630:=()
def tw14005703291232516680:=()
def tw10101068681507338663:=()
def tw6076019038552656550:=()
def tw10970617248510461249:=()
def tw16055039706357017728:=()
def tw13444691430477148869:=()
def tw2621464322929816295:=()
def tw12006862716274025843:=()
def tw7758823964650452577:=()
def tw1172340641684035393:=()
def tw4470026172957034412:=()
def tw577356397141316256:=()
def tw2024048417826325650:=()
def tw6739968416414986735:=()
def tw10670277445340740611:=()
def tw10785335299356346634:=()
def tw7997743787415245967:=()
def tw15358584991525800646:=()
def tw15265578746542371743:=()
def tw6000167878777285425:=()
def tw14005617206637451548:=()
def tw11465278049857607913:=()
def tw12514466894772884744:=()
def tw2265723113051091757:=()
def tw9557897144153452953:=()
def tw13301340583476239249:=()
def tw13352337915147448654:=()
def tw4303857114257518292:=()
def tw14030984015843265798:=()
def tw6183946401380126981:=()
def tw13352625663072530521:=()
def tw13984620187989286603:=()
def tw2802310206518635376:=()
def tw8349198433327030142:=()
def tw15848822883641006253:=()
def tw8912700764907583190:=()
def tw14805918545305216065:=()
def tw17502469466863516134:=()
def tw8156037697258976030:=()
def tw1674376310535699745:=()
def tw14644995385771797576:=()
def tw10025289118591508329:=()
def tw14950498516691892865:=()
def tw941156698851440036:=()
def tw7069657657323617784:=()
def tw3646221035473859913:=()
def tw17123588805950467524:=()
def tw6857957507763668431:=()
def tw12380193579318519853:=()
def tw9799224299399539335:=()
def tw5635660341265436371:=()
def tw42626523982533894:=()
def tw18079934973433890479:=()
def tw17206910513190660511:=()
def tw16044926215383923622:=()
def tw15913324613440570920:=()
def tw68635603819271976:=()
def tw3455380184801022836:=()
def tw10860310332482491436:=()
def tw5776794257413189973:=()
def tw16316747332700515667:=()
def tw8499452522463538947:=()
def tw5486651950625438441:=()
def tw17303193693070491589:=()
def tw17489159720509811492:=()
def tw13988015217897228842:=()
def tw9777910325527121284:=()
def tw2575364920772823368:=()
def tw4619089166488294822:=()
def tw6681214772762812875:=()
def tw9290741108336025277:=()
def tw16300503590813773405:=()
def tw6831456355781032569:=()
def tw3063545947363270524:=()
def tw5179572253197054789:=()
def tw11629245802326974700:=()
def tw1346377814370494819:=()
def tw2041770751186051883:=()
def tw8443157543035366761:=()
def tw9573669017416428525:=()
def tw11092825936398361290:=()
def tw5808782140207754310:=()
def tw16502662083374392492:=()
def tw6165582988540341294:=()
def tw13111526121411518267:=()
def tw16349840391364343434:=()
def tw4548520909722236705:=()
def tw15452104081762830604:=()
def tw958068418117507967:=()
def tw17195044821719830879:=()
def tw6362606147144161495:=()
def tw4636770213146004679:=()
def tw1305642608149490279:=()
def tw12710428905162803848:=()
def tw6032754616146905854:=()
def tw803486603706565112:=()
def tw10192443903982802409:=()
def tw12654540316579815835:=()
def tw16977558635506740295:=()
def tw12142061594290391011:=()
def tw17671333600454059819:=()
def tw8553653400490284148:=()
def tw10865968426225197876:=()
def tw17540919668052991925:=()
def tw11262293193563354263:=()
def tw15711411283264132096:=()
def tw15972490405683006846:=()
def tw9130088233103173176:=()
def tw14439595010556564494:=()
def tw8201256790330057392:=()
def tw11759136774326067176:=()
def tw2247120297236185951:=()
def tw15557232415732671328:=()
def tw4704323094073313512:=()
def tw12973763158974244815:=()
def tw2423939579196548806:=()
def tw9987575482276493224:=()
def tw7547139841450024102:=()
def tw15196840746120894859:=()
def tw12045667004125165230:=()
def tw2269636772116306050:=()
def tw4162783513768791293:=()
def tw8163029001615982747:=()
def tw3347701904790250120:=()
def tw16530971583433447527:=()
def tw14028331751203088744:=()
def tw16706240227800365913:=()
def tw16337640751998309582:=()
def tw11765670471955561753:=()
def tw10809344648547801330:=()
def tw11017211757123924957:=()
def tw14281328930740883825:=()
def tw13215638537465702776:=()
def tw12486221488664553425:=()
def tw5505435469169343455:=()
def tw2157902423858872545:=()
def tw3615677619795976030:=()
def tw4067822751414406980:=()
def tw939428681940521238:=()
def tw12930365427858523526:=()
def tw11419259699495892285:=()
def tw17043436180810770135:=()
def tw12585576053154931713:=()
def tw538999625373390192:=()
def tw2445241242535491892:=()
def tw15655527125212236356:=()
def tw13523909802119427387:=()
def tw5340908948697379674:=()
def tw5109563324147440507:=()
def tw7043708554390527826:=()
def tw6143876115140088518:=()
def tw707393625947035134:=()
def tw4520093454484202565:=()
def tw18186020169021178969:=()
def tw3332578314200421184:=()
def tw13767148134071721420:=()
def tw11548874403750128186:=()
def tw11456269826057229065:=()
def tw3953606294700974756:=()
def tw1392703808496802868:=()
def tw105299031297199711:=()
def tw6453755746672457273:=()
def tw8338293024543056734:=()
def tw15300379568410163358:=()
def tw12467398491290907750:=()
def tw12974776649587414222:=()
def tw3396415971858661433:=()
def tw4330773480705592408:=()
def tw11387253588220595627:=()
def tw4240172749708927454:=()
def tw7488946954744457123:=()
def tw10682864719553295026:=()
def tw11616776831134784956:=()
def tw7494334668320246514:=()
def tw1746220352532719502:=()
def tw15203023800048877571:=()
def tw3278157215693980175:=()
def tw13142112828380630733:=()
def tw7770288826365413651:=()
def tw7468579079096574089:=()
def tw5631422960283321958:=()
def tw5220625529513285704:=()
def tw12755104770031822299:=()
def tw15256591700411206149:=()
def tw3488238984609794363:=()
def tw7376632556847682983:=()
def tw13303706396756536275:=()
def tw3753155031601156343:=()
def tw6292489758808463415:=()
def tw6596168495751754800:=()
def tw11599048781074120070:=()
def tw183622729341830688:=()
def tw13629768957789753253:=()
def tw7393416444842020171:=()
def tw3811015531506225798:=()
def tw8513377175162385771:=()
def tw102383947034854420:=()
def tw6387741653218206768:=()
def tw17119229415647546133:=()
def tw13040727641832754445:=()
def tw16693822083046943293:=()
def tw10748032265758829291:=()
def tw8796174524142562186:=()
def tw10576108514391403561:=()
def tw8026141660867020907:=()
def tw251588493217020422:=()
def tw4003513047251903799:=()
def tw8000021513427536231:=()
def tw9213549065659686169:=()
def tw16661157553420966483:=()
def tw7744422167268937797:=()
def tw7709268321687921034:=()
def tw5363828622235353883:=()
def tw11501849470206962153:=()
def tw17500191423342637372:=()
def tw10836377500135178608:=()
def tw5029876019022422206:=()
def tw11881207782251129031:=()
def tw1663107522246737101:=()
def tw14750014620727626251:=()
def tw10142109303497149134:=()
def tw13521222725377428424:=()
def tw4770780901571924635:=()
def tw13125626253967546937:=()
def tw6426901913016129033:=()
def tw12930504385442272306:=()
def tw16314033357572247396:=()
def tw5479214958947815534:=()
def tw17066259193329900402:=()
def tw17165433605358926554:=()
def tw6160015399654913582:=()
def tw1057598144390480117:=()
def tw14487431644826138210:=()
def tw14129449844603369917:=()
def tw241510160049559883:=()
def tw9562983246702666962:=()
def tw3128520958705576684:=()
def tw68241768160971824:=()
def tw15658152227670144075:=()
def tw4404075234235320043:=()
def tw15729585037297360053:=()
def tw5734642053233845497:=()
def tw11349269935278149287:=()
def tw1011838079116986215:=()
def tw3477475272233082177:=()
def tw8843930330444201662:=()
def tw13693435413773602700:=()
def tw12195693040472055602:=()
def tw10283509879633767630:=()
def tw15613419089269648861:=()
def tw14845445588221598093:=()
def tw6081163042284620849:=()
def tw15590922143191825725:=()
def tw844897321645583790:=()
def tw931710146598524829:=()
def tw3417649621825973786:=()
def tw9597035560066311391:=()
def tw12977245677853665112:=()
def tw12522158783491661687:=()
def tw14537089423755668308:=()
def tw15714789194628224293:=()
def tw2340994655249617132:=()
def tw7284443307813266663:=()
def tw10273885496230127307:=()
def tw1217839724106445751:=()
def tw17194489320353496464:=()
def tw2962906786970532620:=()
def tw8253296705785288830:=()
def tw11405146202698936274:=()
def tw7328736135771206551:=()
def tw810814471846375734:=()
def tw6663284155999326291:=()
def tw8062000274546183261:=()
def tw16862742017649430355:=()
def tw605532460171425171:=()
def tw13823134625349317979:=()
def tw5230034893672281167:=()
def tw9243509080586973799:=()
def tw3452409859328313009:=()
def tw10153238238402365823:=()
def tw3111478531303044120:=()
def tw8216785399351193124:=()
def tw3755198626029096891:=()
def tw6280088130479989865:=()
def tw10843808648048034263:=()
def tw2882211654422722823:=()
def tw4375031970031655250:=()
def tw7139604138124072298:=()
def tw2460695237374697190:=()
def tw7394653070426915671:=()
def tw8776276689239840666:=()
def tw15807548098137242477:=()
def tw6561025989247695743:=()
def tw2134011599214305369:=()
def tw17769219846067329992:=()
def tw1006554191498702458:=()
def tw16026344948825144925:=()
def tw14514977470086113741:=()
def tw5153514774748072222:=()
def tw1359852310673782294:=()
def tw1929900702829244860:=()
def tw2293121182010615490:=()
def tw6566291291253835557:=()
def tw17737979970643955289:=()
def tw13015421332526078351:=()
def tw16906427006960060708:=()
def tw11751047427151712159:=()
def tw8246907342285457483:=()
def tw15426616576664313657:=()
def tw4442540742048770422:=()
def tw14767573654835106614:=()
def tw3633332008308840877:=()
def tw2227234522338463361:=()
def tw9347334133187701977:=()
def tw15547914684794751874:=()
def tw2970002731155339236:=()
def tw16105178661331795080:=()
def tw4716832144635798857:=()
def tw6092863908805169513:=()
def tw11158360981936005241:=()
def tw5608270184760347620:=()
def tw8101335423540408528:=()
def tw13656270036351739732:=()
def tw12985726506797535191:=()
def tw12599218507138294320:=()
def tw7795596990014225145:=()
def tw8844684528318790633:=()
def tw2503253678123188975:=()
def tw16244916437676796123:=()
def tw5235679714861562442:=()
def tw149067040313921857:=()
def tw15592948900002025760:=()
def tw6912115620409977036:=()
def tw16915592821418377303:=()
def tw12541282328381424923:=()
def tw7655077505457785005:=()
def tw9554727960130000410:=()
def tw12162470258302459583:=()
def tw12600742751907951078:=()
def tw2491658047121313863:=()
def tw3172618874911239889:=()
def tw1197753421770376198:=()
def tw14543863606013197391:=()
def tw17657239207765344006:=()
def tw4128446616828730959:=()
def tw7166679814399053627:=()
def tw6412866132933868598:=()
def tw9735410871770068481:=()
def tw8212178332991701771:=()
def tw7197058484324336110:=()
def tw10781280526659964865:=()
def tw14939107035044524027:=()
def tw10810751704619036604:=()
def tw5160557616173247415:=()
def tw3677020156552562635:=()
def tw14459364255375037461:=()
def tw11972904545523197953:=()
def tw4326944083618180457:=()
def tw4272877541785134643:=()
def tw11176851681070266063:=()
def tw6201140412637145326:=()
def tw8689583703313055723:=()
def tw11265513310040646707:=()
def tw15046689858526759816:=()
def tw1957106300451706864:=()
def tw5717861626847232549:=()
def tw4527088386624091021:=()
def tw1516568829996541636:=()
def tw9069507245136628876:=()
def tw15311048232731718660:=()
def tw6058077446458678375:=()
def tw10023919892445249565:=()
def tw11179015019858590773:=()
def tw3751592118124737022:=()
def tw7313147215721207447:=()
def tw11642277440907857562:=()
def tw15628398003933233519:=()
def tw10325894383207626371:=()
def tw3823084133909563654:=()
def tw3755627837097233022:=()
def tw11113235929138069580:=()
def tw2848768589695584861:=()
def tw4735196278378487777:=()
def tw4106710525099467990:=()
def tw17107867225175854890:=()
def tw14014341800025442338:=()
def tw12568336177475633514:=()
def tw9565514072080956139:=()
def tw16189421589124342182:=()
def tw6564706478105273902:=()
def tw2887204933564987414:=()
def tw15518557753306291068:=()
def tw10124909201254219671:=()
def tw9871595695107344008:=()
def tw6104730569488094270:=()
def tw17229460174546178286:=()
def tw12615743649833005903:=()
def tw14107034796543374393:=()
def tw16878537417233159235:=()
def tw4899556830767976340:=()
def tw1444924990595708779:=()
def tw9259937246487762835:=()
def tw18192991846628856937:=()
def tw6391241250098692427:=()
def tw7784227340343977434:=()
def tw16019091359059602929:=()
def tw14854246904090260957:=()
def tw2334133890113375764:=()
def tw12960864134178491573:=()
def tw996237955337734557:=()
def tw9799258887597014700:=()
def tw10021973330146089872:=()
def tw6760014646214598130:=()
def tw8607497980520509211:=()
def tw7220588040381860753:=()
def tw11057172775130721282:=()
def tw15631802300670929208:=()
def tw11046572285428575446:=()
def tw3492827563474460892:=()
def tw4381359327963186788:=()
def tw17444191164703172928:=()
def tw7596808965477697798:=()
def tw7484561383482185977:=()
def tw99906675309791316:=()
def tw13011840130671945372:=()
def tw7547920240912906405:=()
def tw9736471988534714275:=()
def tw7963204880549366175:=()
def tw4003978386368350853:=()
def tw13192193823647915133:=()
def tw2143238413354099625:=()
def tw6338327435606578842:=()
def tw12162907603904802034:=()
def tw4747563712038818706:=()
def tw18125408251337398789:=()
def tw354542412661882061:=()
def tw4115973810040833752:=()
def tw3369392550047746838:=()
def tw17295377487789428175:=()
def tw16970432855663227565:=()
def tw9153490046614239943:=()
def tw9065562337594196610:=()
def tw14838175510781418985:=()
def tw16508506907332236567:=()
def tw4003988974391174173:=()
def tw17925143153004853575:=()
def tw12663280325755374933:=()
def tw11470616910708555309:=()
def tw14456354159658645166:=()
def tw5618313629778328609:=()
def tw12282212679591058369:=()
def tw6627265747639306327:=()
def tw1164746974428730143:=()
def tw10910293678494202974:=()
def tw11913548755240796484:=()
def tw10666350471500394431:=()
def tw6861111762800879750:=()
def tw4578861487736215324:=()
def tw6858092899129973851:=()
def tw16424176724466014928:=()
def tw15463854880104583638:=()
def tw10781148097359598509:=()
def tw11154423163451329633:=()
def tw15797813227900894476:=()
def tw13576654802381975070:=()
def tw11782348400531416908:=()
def tw14216740338790028757:=()
def tw13090639020593362625:=()
def tw2954561019224328082:=()
def tw16150651162804996201:=()
def tw1666051516409743338:=()
def tw11905138104450315473:=()
def tw4377597126410401030:=()
def tw768124028588631537:=()
def tw8843491335526903384:=()
def tw17016221334468276145:=()
def tw5622950918393366214:=()
def tw5451371944986392461:=()
def tw18209314961958752186:=()
def tw6267598081672484432:=()
def tw12297302042396229143:=()
def tw15113772183258784414:=()
def tw11414938630408756655:=()
def tw14626289698047793611:=()
def tw3447382784168021825:=()
def tw15736059231787536681:=()
def tw15922019559525376723:=()
def tw2875940709558719773:=()
def tw16379918726791008242:=()
def tw4092192583261443607:=()
def tw12644852615678386306:=()
def tw5901026399550626163:=()
def tw16194628061253083603:=()
def tw12080833819652458139:=()
def tw18278502332187269829:=()
def tw14934684088982846756:=()
def tw15254837252243988542:=()
def tw17388603285401695838:=()
def tw17512814923491333711:=()
def tw12240022008659952357:=()
def tw16162517021370726790:=()
def tw3986034299495417669:=()
def tw17868896423949635111:=()
def tw3313827536857101784:=()
def tw13047424017047231640:=()
def tw7911180973828212358:=()
def tw230962181462704220:=()
def tw6030241507530932540:=()
def tw12550093349598031483:=()
def tw11804522358486032379:=()
def tw15298657526805949987:=()
def tw16690757427508972212:=()
def tw7921688755740198820:=()
def tw4671904110197635174:=()
def tw15018630432060738692:=()
def tw12490980459246613024:=()
def tw2928411232112022880:=()
def tw8892829123799782198:=()
def tw17481018523787451536:=()
def tw6607108243360722677:=()
def tw1925416810095170982:=()
def tw7943501280535887258:=()
def tw18414085106003380647:=()
def tw18232863114253492325:=()
def tw5235356598585404248:=()
def tw12226823758100434592:=()
def tw3885097332846252610:=()
def tw16539989293160131314:=()
def tw14072748107389216194:=()
def tw9494779074306042175:=()
def tw16457814418690064479:=()
def tw11936535678729748308:=()
def tw6073886982733301987:=()
def tw7004247331075532802:=()
def tw4812930461666536878:=()
def tw2473701346015229578:=()
def tw16783402735922787641:=()
def tw10089910231634448786:=()
def tw63611676262566895:=()
def tw12201977357631671324:=()
def tw13050930610530745603:=()
def tw18362177543774964168:=()
def tw16363729838219854785:=()
def tw8611376586112552744:=()
def tw17528791656623783554:=()
def tw3162510484544776401:=()
def tw4393351459576170578:=()
def tw4819804289675420091:=()
def tw3596835210044023792:=()
def tw10993479947083289353:=()
def tw7350788154635861023:=()
def tw15106342668142580053:=()
def tw14972920564525871777:=()
def tw6385181122229102406:=()
def tw15180381197772955845:=()
def tw14949294467689409841:=()
def tw2341459596640426490:=()
def tw882084463545121460:=()
def tw11349167607126689709:=()
def tw6134257083121185359:=()
def tw7559727828087092046:=()
def tw527771089238548845:=()
def tw17087554792405034088:=()
def tw3479442306026837618:=()
def tw6712434701085630524:=()
def tw2934581267562756722:=()
def tw1837543899945425726:=()
def tw1174369710459067790:=()
def tw16082755933244354227:=()
def tw4742256225473322759:=()
def tw4124669291712923789:=()
def tw10385694421885528246:=()
def tw9127373445973257727:=()
def tw6935912055077879039:=()
def tw2457143764622809889:=()
def tw7864467192601764686:=()
def tw4153366260297303730:=()
def tw14061043244659632637:=()
def tw11603706382921911130:=()
def tw4305836380062422724:=()
def tw10464296067871043194:=()
def tw16134179467489082697:=()
def tw645868844996308363:=()
def tw1420129868048996284:=()
def tw3051182383952345602:=()
def tw10524201220667716863:=()
def tw13703100029254192008:=()
def tw18294320267761290055:=()
def tw3740310281756261437:=()
def tw11468144958059070724:=()
def tw7406107482771702276:=()
def tw15128426865432674668:=()
def tw6034069185215171969:=()
def tw14337920500294337091:=()
def tw8110418947833439256:=()
def tw15379606925018961248:=()
def tw15561481685508815448:=()
def tw14178966163934820069:=()
def tw1333083045080159921:=()
def tw4645780518312226484:=()
def tw11699023056953275858:=()
def tw11877179442115975549:=()
def tw14822922618250598137:=()
def tw17278721312879442363:=()
def tw8119443878413089468:=()
def tw14200614528913700362:=()
def tw3579245986696133735:=()
def tw17373618753520245863:=()
def tw16675627390870049525:=()
def tw6279709155802727781:=()
def tw7008174762316920679:=()
def tw2123434438418981241:=()
def tw18034859674762750330:=()
def tw11092794440295664906:=()
def tw2672250799983130520:=()
def tw16322177877374535440:=()
def tw16943010571443870232:=()
def tw10129766986967243075:=()
def tw16388111163590047246:=()
def tw12403130202329574399:=()
def tw11775429324586706425:=()
def tw15897364109474819819:=()
def tw16402196070929423283:=()
def tw8017286053831384833:=()
def tw17136590067982236121:=()
def tw12535893754814421387:=()
def tw14431848303372458999:=()
def tw14006893942139707424:=()
def tw2023103312106697855:=()
def tw5383206154972681690:=()
def tw8346004239717289254:=()
def tw969689011269346334:=()
def tw17350793815668713308:=()
def tw7230858731256868700:=()
def tw15251933910374335477:=()
def tw12028265287292520201:=()
def tw17277088000421602279:=()
def tw14743388968024516283:=()
def tw1373808240779476710:=()
def tw6172106046584165349:=()
def tw7343065254520638872:=()
def tw2124067082021843892:=()
def tw4266417503447570532:=()
def tw16686520216720328162:=()
def tw2698490973069675475:=()
def tw16210548737357532586:=()
def tw645986648864270896:=()
def tw392906272519499812:=()
def tw7232370148747159290:=()
def tw9076624561810353334:=()
def tw8391240743295379895:=()
def tw8692878419211051382:=()
def tw18058806526284617146:=()
def tw3686776959301458040:=()
def tw14519452426751688455:=()
def tw17632376393076970074:=()
def tw13414866126291189237:=()
def tw9321864969310027430:=()
def tw15813237087848847827:=()
def tw4955727835254336134:=()
def tw7404197672470599832:=()
def tw8509848298383918078:=()
def tw13750806378493954971:=()
def tw17369950857856032207:=()
def tw6985774607967927336:=()
def tw3024101524184565946:=()
def tw6448399895879344051:=()
end PySem.W.Fast
open PySem PySem.W PyProof.Rows
set_option maxRecDepth 100000 in
set_option maxHeartbeats 0 in
theorem PySem.Challenge.cw_retryhall_k19_whole_alone_plain_model_holds : PySem.Challenge.rw_retryhall_k19_whole_alone_plain_model.Holds := by
 w_on;o_law;k_head;(case hw=>w_witness2)
 k_fill
 refine My.walk (l:=PySem.Challenge.rw_retryhall_k19_whole_alone_plain_model) rfl rfl (fun w h Y=>PySem.W.kIn_of Y) ?F
 case F =>
  intro w mg fa h KX G hmg
  refine' My.all_mk KX G hmg ..
  all_goals first|k_is|decide|skip
