import PyProof.Rows.All
import Wide.All
import OpenK.AllK
import Wide.FinOn
import Lean
import PyProof.EqAt
import PyProof.EqKinds
import PyProof.TupleCall
import PySem.Challenge.RW_retryhall_k07_whole_written_and_read
set_option Elab.async false
set_option linter.all false
set_option maxRecDepth 100000
set_option maxHeartbeats 4000000
open PySem.W (fnOf findIn keepIn subIn codeIn nsIn isFn mg_of plainGet hasDictIn makesIn plainOver instObj typeIn emptyDict mroIn mg_none_of kia_one)
local macro_rules | `(tactic| rfl')=>`(tactic| decide +kernel)
noncomputable section
namespace L2
open PySem PySem.Spec PyProof.Rows
abbrev Key:=Sum Int Str
def yJh:Key->Value->Bool
 | .inl k,v=>Value.isInt k v
 | .inr x,v=>Value.isStrOf x v
def yOR (w:World):Key->Int
 | .inl k=>hashInt k
 | .inr x=>hashStr w x
theorem ydU:∀ {k:Key}{v:Value},yJh k v=true->(∃ i t,k=Sum.inl i/\v=Value.int i t)\/(∃ x t,k=Sum.inr x/\v=Value.str x t)
 | .inl i,v,h=>by
  obtain ⟨t,e⟩:=Value.isInt_shape (k:=i) (v:=v) h
  exact .inl ⟨i,t,rfl,e⟩
 | .inr x,v,h=>by
  obtain ⟨t,e⟩:=Value.isStrOf_shape (x:=x) (v:=v) h
  exact .inr ⟨x,t,rfl,e⟩
theorem yJi (a b:Int):decide ((Sum.inl a:Key)=Sum.inl b)=(a == b):=by
 by_cases e:a=b
 .subst e;simp
 .have h:¬ (Sum.inl a:Key)=Sum.inl b:=fun q=>e (Sum.inl.inj q)
  rw [decide_eq_false h]
  exact (beq_eq_false_iff_ne.mpr e).symm
theorem yJj (a b:Str):decide ((Sum.inr a:Key)=Sum.inr b)=decide (a=b):=by
 by_cases e:a=b
 .subst e;simp
 .have h:¬ (Sum.inr a:Key)=Sum.inr b:=fun q=>e (Sum.inr.inj q)
  rw [decide_eq_false h,decide_eq_false e]
theorem yJk (a:Int) (b:Str):decide ((Sum.inl a:Key)=Sum.inr b)=false:=decide_eq_false (fun q=>nomatch q)
theorem yJl (a:Str) (b:Int):decide ((Sum.inr a:Key)=Sum.inl b)=false:=decide_eq_false (fun q=>nomatch q)
noncomputable def yBi (prog:Program) (w:World):PySem.KeyKind prog w Key where
 is:=yJh
 hash:=yOR w
 inj:=fun v a b ha hb=>by
  rcases ydU ha with ⟨i,t,rfl,rfl⟩|⟨x,t,rfl,rfl⟩
  .rcases ydU hb with ⟨j,u,rfl,e⟩|⟨y,u,rfl,e⟩
   .injection e with e1 _;rw [e1]
   .exact nomatch e
  .rcases ydU hb with ⟨j,u,rfl,e⟩|⟨y,u,rfl,e⟩
   .exact nomatch e
   .injection e with e1 _;rw [e1]
 byValue:=fun k v h=>by
  rcases ydU h with ⟨i,t,rfl,rfl⟩|⟨x,t,rfl,rfl⟩<;>rfl
 pyHash:=fun hv h=>by
  rcases ydU hv with ⟨i,t,rfl,rfl⟩|⟨x,t,rfl,rfl⟩
  .exact wpAny_pyHash_int h
  .exact wpAny_pyHash_str h
 eqBool:=fun hu hv h=>by
  rcases ydU hu with ⟨i,t,rfl,rfl⟩|⟨x,t,rfl,rfl⟩
  .rcases ydU hv with ⟨j,u,rfl,rfl⟩|⟨y,u,rfl,rfl⟩
   .rw [yJi] at h;exact wpAny_eqBool_int h
   .rw [yJk] at h;exact SeqAt.EqAt.int_str i t y u _ _ _ _ h
  .rcases ydU hv with ⟨j,u,rfl,rfl⟩|⟨y,u,rfl,rfl⟩
   .rw [yJl] at h;exact SeqAt.EqAt.str_int x t j u _ _ _ _ h
   .rw [yJj] at h;exact wpAny_eqBool_str h
 «strs»:=fun k x t v h=>by
  rcases ydU h with ⟨i,u,rfl,e⟩|⟨y,u,rfl,e⟩
  .exact nomatch e
  .injection e with e1 _
   subst e1
   cases v<;>rfl
end L2
namespace L2
open PySem PySem.Spec PyProof.Rows
inductive V where
 | non|bl (b:Bool)|int (i:Int)|str (x:Str)|byt (b:Array UInt8)|flt (b:UInt64)|ref (a:Addr)|ty (n:String)
 deriving DecidableEq
noncomputable def RelV:V->Value->Prop
 | .non,u=>u=Value.none
 | .bl b,u=>u=Value.bool b
 | .int i,u=>∃ t,u=Value.int i t
 | .str x,u=>∃ t,u=Value.str x t
 | .byt b,u=>∃ t,u=Value.bytes b t
 | .flt b,u=>∃ t,u=Value.float b t
 | .ref a,u=>u=Value.ref a
 | .ty n,u=>u=Value.type n
abbrev Vals:List V->List Value->Prop:=Paired RelV
theorem Vals.length {xs:List V}{us:List Value}(r:Vals xs us):xs.length=us.length:=Paired.length r
theorem Vals.get:∀ {xs:List V}{us:List Value}{i:Nat}{x:V},Vals xs us->xs[i]?=some x->∃ u,us[i]?=some u/\RelV x u
 | _,_,_,_,.nil,e=>by simp at e
 | _,_,0,_,.cons r _,e=>by simp at e;subst e;exact ⟨_,rfl,r⟩
 | _,_,i+1,x,.cons _ t,e=>by
  obtain ⟨u,h1,h2⟩:=Vals.get (i:=i) (x:=x) t (by simpa using e)
  exact ⟨u,by simpa using h1,h2⟩
theorem Vals.append:∀ {xs ys:List V}{us ws:List Value},Vals xs us->Vals ys ws->Vals (xs++ys) (us++ws)
 | _,_,_,_,.nil,s=>s
 | _,_,_,_,.cons r t,s=>.cons r (Vals.append t s)
theorem Vals.take:∀ {xs:List V}{us:List Value}(n:Nat),Vals xs us->Vals (xs.take n) (us.take n)
 | _,_,0,_=>.nil
 | _,_,_+1,.nil=>.nil
 | _,_,n+1,.cons r t=>.cons r (Vals.take n t)
theorem Vals.drop:∀ {xs:List V}{us:List Value}(n:Nat),Vals xs us->Vals (xs.drop n) (us.drop n)
 | _,_,0,r=>r
 | _,_,_+1,.nil=>.nil
 | _,_,n+1,.cons _ t=>Vals.drop n t
def RelO:Option V->Option Value->Prop
 | some v,some u=>RelV v u
 | none,none=>True
 | _,_=>False
def KV {κ:Type}:List (κ×V)->List (κ×Value)->Prop:=Paired fun (p:κ×V) (q:κ×Value)=>p.1=q.1/\RelV p.2 q.2
def kV:Key->V
 | .inl i=>.int i
 | .inr x=>.str x
inductive HO where
 | lst (xs:List V)
 | tup (xs:List V)
 | dK (kvs:List (Key×V))|dT (kvs:List (List Key×V))
 | set (S:Int->Bool) (n:Nat)
 | ins (C dx:Addr) (fs:List (Str×V))
 | own (x:Addr)
 | xd (fs:List (Str×V))
 | met (f x:Addr)
 | rng (lo hi:Int)
 | frz (o:Obj) (u:HO)
 | tbl (ps:Array Value)
 | ext (φ:Heap->Prop)
abbrev Hp:=Addr->Option HO
def upd (H:Hp) (a:Addr) (o:HO):Hp:=fun b=>if b=a then some o else H b
theorem ybK {H:Hp}{a:Addr}{o:HO}:upd H a o a=some o:=by unfold upd;rw [if_pos rfl]
theorem ybz {H:Hp}{a b:Addr}{o:HO}(h:b≠a):upd H a o b=H b:=by unfold upd;rw [if_neg h]
theorem ydK {H:Hp}{a b:Addr}{o:HO}(h:H a=some o) (h':H b=none):a≠b:=by
 intro e;subst e;rw [h] at h';cases h'
section
variable (P:Program) (w:World)
noncomputable def ObjOk (H:Hp) (h:Heap) (a:Addr):HO->Prop
 | .lst xs=>xs.length<=sizeLine/\∃ (its:List Value) (n:Nat),Vals xs its/\h.get? a=some { cls:=.type "list",data:=.seq its.toArray n }
 | .tup xs=>xs.length<=sizeLine/\∃ its:List Value,Vals xs its/\IsTup h a its.toArray
 | .dK kvs=>kvs.length<=sizeLine/\(a == sysModules)=false/\∃ vs,KV kvs vs/\h.DictOf (yBi P w) a vs
 | .dT kvs=>kvs.length<=sizeLine/\(a == sysModules)=false/\∃ xs:List (List Key×Addr×Value),
   Paired (fun (p:List Key×V) (q:List Key×Addr×Value)=>p.1=q.1/\H q.2.1=some (.tup (p.1.map kV))/\RelV p.2 q.2.2) kvs xs /\
   ∃ o es ep,h.get? a=some o/\o.ExactDict/\o.data=.dict es ep/\es.toList=xs.map (entryOfKey (tupleKind (yBi P w)))/\(xs.map (·.1)).Nodup
 | .set S n=>h.SetOf (intKind P w) a S n
 | .ins C dx fs=>H dx=some (.own a)/\fs.length<=1000/\dx≠a/\h.get? a=some (instObj C dx) /\
   ∃ mA,h.Ns1 dx mA/\(∀ f,RelO (fs.lookup f) (mA f))/\PySem.Within mA (fs.map (·.1))
 | .own _=>∃ o,h.get? a=some o
 | .xd fs=>∃ mA,h.Ns1 a mA/\∀ f,RelO (fs.lookup f) (mA f)
 | .rng lo hi=>∃ t u v,h.get? a=some { cls:=.type "range",data:=.fields #[.int lo t,.int hi u,.int 1 v] }
 | .frz o u=>h.get? a=some o/\ObjOk H h a u
 | .tbl ps=>h.get? a=some { cls:=.none,data:=.fields ps }
 | .met f x=>h.get? a=some (PySem.W.methodObj (.ref f) (.ref x))
 | .ext φ=>φ h/\(∃ o,h.get? a=some o)/\∀ h1 h2:Heap,φ h1->(∀ o,h1.get? a=some o->h2.get? a=some o)->φ h2
def HOk (H:Hp) (h:Heap):Prop:=∀ a o,H a=some o->ObjOk P w H h a o
end
section
variable {P:Program}{w:World}{H H':Hp}{h h':Heap}{a:Addr}{o:HO}
theorem ObjOk.lt (x:ObjOk P w H h a o):a<h.objs.size:=by
 cases o with
 | lst xs=>obtain ⟨_,_,_,_,e⟩:=x;exact Heap.lt_size e
 | tup xs=>obtain ⟨_,_,_,p⟩:=x;exact p.lt
 | dK kvs=>obtain ⟨_,_,_,_,o,_,_,e,_⟩:=x;exact Heap.lt_size e
 | dT kvs=>obtain ⟨_,_,_,_,o,_,_,e,_⟩:=x;exact Heap.lt_size e
 | set S n=>obtain ⟨o,_,_,_,e,_⟩:=x;exact Heap.lt_size e
 | ins C dx fs=>obtain ⟨_,_,_,e,_⟩:=x;exact Heap.lt_size e
 | own y=>obtain ⟨_,e⟩:=x;exact Heap.lt_size e
 | xd fs=>obtain ⟨_,⟨_,_,_,e,_⟩,_⟩:=x;exact Heap.lt_size e
 | rng lo hi=>obtain ⟨_,_,_,e⟩:=x;exact Heap.lt_size e
 | frz ob u=>obtain ⟨e,_⟩:=x;exact Heap.lt_size e
 | tbl ps=>exact Heap.lt_size (show h.get? a=some _ from x)
 | met f y=>exact Heap.lt_size (show h.get? a=some _ from x)
 | ext φ=>obtain ⟨_,⟨_,e⟩,_⟩:=x;exact Heap.lt_size e
theorem Paired.mapP {α β:Type}{F G:α->β->Prop}:∀ {l₁:List α}{l₂:List β},Paired F l₁ l₂->(∀ a b,F a b->G a b)->Paired G l₁ l₂
 | _,_,.nil,_=>.nil
 | _,_,.cons r t,f=>.cons (f _ _ r) (Paired.mapP t f)
theorem ObjOk.stay (x:ObjOk P w H h a o) (k:∀ b u,(b=a\/H b=some (.own a))->h.get? b=some u->h'.get? b=some u)
  (ho:∀ b,H b=some (.own a)->H' b=some (.own a)) (ht:∀ b xs,H b=some (.tup xs)->H' b=some (.tup xs)):ObjOk P w H' h' a o:=by
 induction o with
 | lst xs=>obtain ⟨z,its,n,r,e⟩:=x;exact ⟨z,its,n,r,k _ _ (.inl rfl) e⟩
 | tup xs=>obtain ⟨z,its,r,ob,e,c⟩:=x;exact ⟨z,its,r,ob,k _ _ (.inl rfl) e,c⟩
 | dK kvs=>obtain ⟨z,y,vs,r,ob,es,ep,e,c⟩:=x;exact ⟨z,y,vs,r,ob,es,ep,k _ _ (.inl rfl) e,c⟩
 | dT kvs =>
  obtain ⟨z,y,xs,r,ob,es,ep,e,c⟩:=x
  exact ⟨z,y,xs,Paired.mapP r fun p q z=>⟨z.1,ht _ _ z.2.1,z.2.2⟩,ob,es,ep,k _ _ (.inl rfl) e,c⟩
 | set S n=>obtain ⟨ob,es,ep,t,e,c⟩:=x;exact ⟨ob,es,ep,t,k _ _ (.inl rfl) e,c⟩
 | ins C dx fs =>
  obtain ⟨d,z,ne,e,mA,⟨od,es,ep,e2,c⟩,r⟩:=x
  exact ⟨ho _ d,z,ne,k _ _ (.inl rfl) e,mA,⟨od,es,ep,k _ _ (.inr d) e2,c⟩,r⟩
 | own y=>obtain ⟨ob,e⟩:=x;exact ⟨ob,k _ _ (.inl rfl) e⟩
 | xd fs=>obtain ⟨mA,⟨od,es,ep,e,c⟩,r⟩:=x;exact ⟨mA,⟨od,es,ep,k _ _ (.inl rfl) e,c⟩,r⟩
 | rng lo hi=>obtain ⟨t,u,v,e⟩:=x;exact ⟨t,u,v,k _ _ (.inl rfl) e⟩
 | frz ob u ih=>obtain ⟨e,q⟩:=x;exact ⟨k _ _ (.inl rfl) e,ih q⟩
 | tbl ps =>
  have e:h.get? a=some { cls:=.none,data:=.fields ps }:=x
  show h'.get? a=some { cls:=.none,data:=.fields ps }
  exact k a _ (.inl rfl) e
 | met f y =>
  have e:h.get? a=some (PySem.W.methodObj (.ref f) (.ref y)):=x
  show h'.get? a=some (PySem.W.methodObj (.ref f) (.ref y))
  exact k a _ (.inl rfl) e
 | ext φ=>obtain ⟨p,⟨o,e⟩,st⟩:=x;exact ⟨st _ _ p fun o q=>k _ _ (.inl rfl) q,⟨o,k _ _ (.inl rfl) e⟩,st⟩
theorem HOk.lt (x:HOk P w H h) (e:H a=some o):a<h.objs.size:=(x a o e).lt
theorem HOk.fresh (x:HOk P w H h) (e:h.objs.size<=a):H a=none:=by
 cases q:H a with
 | none=>rfl
 | some u=>exact absurd (Nat.lt_of_lt_of_le (x.lt q) e) (Nat.lt_irrefl _)
theorem HOk.kept (x:HOk P w H h) (k:∀ b u,h.get? b=some u->h'.get? b=some u):HOk P w H h':=fun a o e =>
 (x a o e).stay (fun b u _ q=>k b u q) (fun _ q=>q) fun _ _ q=>q
theorem HOk.laid (x:HOk P w H h) (k:∀ b u,h.get? b=some u->h'.get? b=some u) (hp:h.objs.size<=a) (new:ObjOk P w (upd H a o) h' a o):HOk P w (upd H a o) h':=fun b u e=>by
 have hn:=x.fresh hp
 by_cases hb:b=a
 .subst hb;rw [ybK] at e;cases e;exact new
 .rw [ybz hb] at e
  exact (x b u e).stay (fun c v _ q=>k c v q) (fun c q=>by rw [ybz (ydK q hn)];exact q) fun c xs q=>by rw [ybz (ydK q hn)];exact q
end
def Rd (H:Hp) (a:Addr) (u:HO):Prop:=H a=some u\/∃ o,H a=some (.frz o u)
theorem Rd.ok {P:Program}{w:World}{H:Hp}{h:Heap}{a:Addr}{u:HO}(r:Rd H a u) (x:HOk P w H h):ObjOk P w H h a u:=by
 rcases r with r|⟨o,r⟩
 .exact x a u r
 .obtain ⟨_,q⟩:=x a _ r
  exact q
noncomputable def Mut:Option HO->Prop
 | some (.lst _)=>True
 | some (.dK _)=>True
 | some (.dT _)=>True
 | some (.set _ _)=>True
 | some (.ins _ _ _)=>True
 | some (.ext _)=>True
 | _=>False
section
variable {P:Program}{w:World}{H:Hp}{h h':Heap}{x e:Addr}{o':HO}
theorem HOk.write (ok:HOk P w H h) (mu:Mut (H x)) (he:e=x\/H e=some (.own x)) (k:∀ b u,b≠e->h.get? b=some u->h'.get? b=some u) (heo:∃ u,h'.get? e=some u)
  (new:ObjOk P w (upd H x o') h' x o'):HOk P w (upd H x o') h':=fun b u q=>by
 have nown:∀ c y,H c=some (.own y)->c≠x:=fun c y r z=>by subst z;rw [r] at mu;exact mu
 have ntup:∀ c xs,H c=some (.tup xs)->c≠x:=fun c xs r z=>by subst z;rw [r] at mu;exact mu
 by_cases hb:b=x
 .subst hb;rw [ybK] at q;cases q;exact new
 .rw [ybz hb] at q
  by_cases hbe:b=e
  .have q':H b=some (.own x):=by
    rcases he with z|z
    .exact absurd (hbe.trans z) hb
    .rw [hbe];exact z
   rw [q] at q';cases q'
   obtain ⟨v,hv⟩:=heo
   exact ⟨v,by rw [hbe];exact hv⟩
  .refine (ok b u q).stay (fun c v hc r=>k c v ?_ r) (fun c r=>by rw [ybz (nown c b r)];exact r) fun c xs r=>by rw [ybz (ntup c xs r)];exact r
   rcases hc with rfl|hc
   .exact hbe
   .rintro rfl
    rcases he with z|z
    .exact nown c b hc z
    .rw [hc] at z;cases z;exact hb rfl
end
structure Un (fs ex:List Addr) (H H':Hp) (h h':Heap):Prop where
 keep:∀ b o,h.get? b=some o->H b=none->b∉fs->b∉ex->h'.get? b=some o
 slot:∀ b o,h.get? b=some o->H b=none->b∈fs->b∉ex->∃ sl,h'.get? b=some { o with slots:=sl }
 free:∀ b o,h.get? b=some o->H b=none->b∉ex->H' b=none
 there:∀ b o,h.get? b=some o->b∉ex->∃ o',h'.get? b=some o'
 tups:∀ b xs,H b=some (.tup xs)->H' b=some (.tup xs)
 frzs:∀ b o u,H b=some (.frz o u)->H' b=some (.frz o u)
 tbls:∀ b ps,H b=some (.tbl ps)->∃ more,H' b=some (.tbl (ps++more))
section
variable {fs fs' ex ex':List Addr}{H H1 H2:Hp}{h h1 h2 h':Heap}{a x e:Addr}{o:HO}
theorem Un.any (u:Un fs ex H H1 h h1) {b:Addr}{ob:Obj}(q:h.get? b=some ob) (n:H b=none) (hx:b∉ex):∃ sl,h1.get? b=some { ob with slots:=sl }:=by
 by_cases hb:b∈fs
 .exact u.slot b ob q n hb hx
 .exact ⟨ob.slots,u.keep b ob q n hb hx⟩
theorem Un.kept (k:∀ b u,h.get? b=some u->h'.get? b=some u):Un fs ex H H h h' :=
 ⟨fun b ob q _ _ _=>k b ob q,fun b ob q _ _ _=>⟨ob.slots,k b ob q⟩,fun _ _ _ n _=>n,fun b ob q _=>⟨ob,k b ob q⟩,fun _ _ q=>q,fun _ _ _ q=>q,fun _ ps q=>⟨#[],by rw [q];simp⟩⟩
theorem Un.refl:Un fs ex H H h h:=Un.kept fun _ _ q=>q
theorem Un.laid (k:∀ b u,h.get? b=some u->h'.get? b=some u) (hp:h.objs.size<=a) (hn:H a=none):Un fs ex H (upd H a o) h h' where
 keep:=fun b u q _ _ _=>k b u q
 slot:=fun b u q _ _ _=>⟨u.slots,k b u q⟩
 free:=fun b u q n _=>by rw [ybz (Nat.ne_of_lt (Nat.lt_of_lt_of_le (Heap.lt_size q) hp))];exact n
 there:=fun b u q _=>⟨u,k b u q⟩
 tups:=fun b xs q=>by rw [ybz (ydK q hn)];exact q
 frzs:=fun b u xs q=>by rw [ybz (ydK q hn)];exact q
 tbls:=fun b ps q=>⟨#[],by rw [ybz (ydK q hn),q];simp⟩
theorem Un.write (mu:Mut (H x)) (he:e=x\/H e=some (.own x)) (k:∀ b u,b≠e->h.get? b=some u->h'.get? b=some u) (heo:∃ u,h'.get? e=some u):Un fs ex H (upd H x o) h h':=by
 have hx:∀ b,H b=none->b≠x:=fun b n z=>by subst z;rw [n] at mu;exact mu
 have hb:∀ b,H b=none->b≠e:=fun b n z=>by
  subst z
  rcases he with r|r
  .exact hx b n r
  .rw [n] at r;cases r
 have hm:∀ b u,H b=some u->¬ Mut (some u)->b≠x:=fun b u q nm z=>by subst z;rw [q] at mu;exact nm mu
 refine ⟨fun b u q n _ _=>k b u (hb b n) q,fun b u q n _ _=>⟨u.slots,k b u (hb b n) q⟩,fun b u q n _=>by rw [ybz (hx b n)];exact n,fun b u q _=>?_,
  fun b xs q=>by rw [ybz (hm b _ q fun z=>z)];exact q,fun b u xs q=>by rw [ybz (hm b _ q fun z=>z)];exact q,fun b ps q=>⟨#[],by rw [ybz (hm b _ q fun z=>z),q];simp⟩⟩
 by_cases hbe:b=e
 .subst hbe;exact heo
 .exact ⟨u,k b u hbe q⟩
end
def trk (h:Heap) (H:Hp):List Addr:=(List.range h.objs.size).filter fun a=>(H a).isSome
def yDQ (h:Heap) (H:Hp):Heap:=PySem.W.hideAll h (trk h H)
theorem yBj (h:Heap) (H:Hp):(yDQ h H).objs.size=h.objs.size:=PySem.W.hideAll_size _ _
theorem yDR {h:Heap}{H:Hp}{b:Addr}{o:Obj}(e:h.get? b=some o) (n:H b=none):(yDQ h H).get? b=some o :=
 PySem.W.hideAll_get _ e fun hm=>by
  have q:(H b).isSome=true:=(List.mem_filter.mp hm).2
  rw [n] at q;simp at q
theorem yGN {h:Heap}{H:Hp}{b:Addr}{o:Obj}(e:(yDQ h H).get? b=some o):h.get? b=some o/\H b=none:=by
 have e':h.get? b=some o:=PySem.W.of_hideAll (trk h H) e
 refine ⟨e',?_⟩
 cases q:H b with
 | none=>rfl
 | some x =>
  have hm:b∈trk h H:=List.mem_filter.mpr ⟨List.mem_range.mpr (Heap.lt_size e'),by simp [q]⟩
  have z:(yDQ h H).get? b=none:=PySem.W.hideAll_none (trk h H) hm
  rw [z] at e;cases e
noncomputable def yGO (g h:Heap) (L:Addr):List (Addr×Obj):=(List.range h.objs.size).filterMap fun a=>if a=L\/(g.get? a).isSome=true then none else (h.get? a).map fun o=>(a,o)
def rest (g h:Heap) (L d:Addr):List (Addr×Obj):=(yGO g h L).filter fun p=>decide (p.1≠d)
end L2
namespace L2
open PySem PySem.Spec PyProof.Rows
structure Mod (K:PySem.W.Frag) (mg:Str->Option Value) (base:Heap):Prop where
 kin:K.In base
 glob:base.Ns mainGlobals mg
 blt:∃ mb,base.Ns builtinsNs mb/\∀ x:Str,x≠"__name__"->mb x=bootBuiltins x
 nolimit:base.NoLimit
structure Cx where
 prog:Program
 w:World
 K:PySem.W.Frag
 mg:Str->Option Value
 base:Heap
 A:Around
 N:List Str
 s₀:Shared
 H₀:Hp
 env:Env
 outer:List Env
 stack:List Env
 ex:List Addr
 fn:Str->Bool
 calm:Bool
 pn:List (Addr×Obj)
 xe:Value->Shared->Prop
def frs (l:List Env):List Addr:=l.filterMap (·.frame)
abbrev Cx.fs (X:Cx):List Addr:=frs X.outer
noncomputable def Vis (sc:Scope) (x:Str):Prop:=sc.names.lookup x=some .local \/ sc.names.lookup x=some .cell\/sc.names.lookup x=some .free
def Loc (sc:Scope) (x:Str):Prop:=sc.names.lookup x=some .local \/ sc.names.lookup x=some .cell
noncomputable def Look (env:Env) (h:Heap) (m:Str->Option Value) (x:Str) (u:Value):Prop :=
 (env.kindOf x=some .local/\m x=some u)\/((env.kindOf x=some .cell\/env.kindOf x=some .free)/\∃ c,env.cells.lookup x=some c/\h.IsCell c (some u))
structure Cx.Ok (X:Cx):Prop where
 mod:Mod X.K X.mg X.base
 kind:X.env.scope.kind=.function
 glob:X.env.globals=mainGlobals
 blt:X.env.builtins=builtinsNs
 above:X.s₀.heap.objs.size<=X.env.locals
 inj:∀ x y c,X.env.cells.lookup x=some c->X.env.cells.lookup y=some c->x=y
 has:∀ x,(X.env.kindOf x=some .cell\/X.env.kindOf x=some .free)->∃ c,X.env.cells.lookup x=some c
 cab:∀ x c,X.fn x=true->X.env.cells.lookup x=some c->X.s₀.heap.objs.size<=c
 hd:X.calm=true->X.A.handled=none
 frames:X.A.frames=some X.stack
 stk:X.stack=X.outer\/(X.stack=X.env::X.outer/\X.env.frame=some X.env.locals)
 exf:∀ b∈X.ex,b≠X.env.locals/\∀ x c,X.env.cells.lookup x=some c->c≠b
 bs:∀ b o,X.base.get? b=some o->X.s₀.heap.get? b=some o/\X.H₀ b=none
 bsz:X.base.objs.size<=X.s₀.heap.objs.size
 noex:∀ b o,X.base.get? b=some o->b∉X.ex
 exfs:∀ b∈X.ex,b∉X.fs
 funs:X.s₀.heap.FunFrames X.base X.outer
 frf:∀ b∈X.fs,X.H₀ b=none
structure Inv (X:Cx) (pins:List (Addr×Obj)) (σ:List (Option V)) (H:Hp) (s:Shared):Prop where
 ok:X.Ok
 os:s.os=X.s₀.os
 bare:AllBare s.gens
 base:Un X.fs X.ex X.H₀ H X.s₀.heap s.heap
 loc:∃ m,s.heap.Ns X.env.locals m/\∀ (i:Nat) (x:Str) (v:V),X.N[i]?=some x->σ[i]?=some (some v)->Vis X.env.scope x->∃ u,RelV v u/\Look X.env s.heap m x u
 cell:∀ x c,X.env.cells.lookup x=some c->∃ v,s.heap.IsCell c v
 free:H X.env.locals=none
 freeC:∀ x c,X.env.cells.lookup x=some c->H c=none
 pin:∀ p∈X.pn++pins,s.heap.get? p.1=some p.2/\H p.1=none/\p.1≠X.env.locals/\p.1∉X.fs/\∀ v,p.2.data≠.cell v
 hok:HOk X.prog X.w H s.heap
 len:σ.length=X.N.length
section
variable {X:Cx}{pins:List (Addr×Obj)}{σ:List (Option V)}{H H':Hp}{s:Shared}{h':Heap}
theorem Cx.Ok.nofr (ok:X.Ok) {b:Addr}{o:Obj}(e:X.base.get? b=some o):b∉X.fs:=fun hb=>by
 have:=(ok.funs.mem hb).1
 rw [e] at this;cases this
theorem Inv.bs (I:Inv X pins σ H s):∀ b o,X.base.get? b=some o->s.heap.get? b=some o/\H b=none:=fun b o e =>
 ⟨I.base.keep b o (I.ok.bs b o e).1 (I.ok.bs b o e).2 (I.ok.nofr e) (I.ok.noex b o e),I.base.free b o (I.ok.bs b o e).1 (I.ok.bs b o e).2 (I.ok.noex b o e)⟩
theorem Inv.bk (I:Inv X pins σ H s):∀ b o,X.base.get? b=some o->s.heap.get? b=some o:=fun b o e=>(I.bs b o e).1
theorem Inv.mod (I:Inv X pins σ H s):Mod X.K X.mg X.base:=I.ok.mod
theorem Inv.kIn (I:Inv X pins σ H s):X.K.In s.heap:=I.ok.mod.kin.keeps I.bk
theorem Inv.lt (I:Inv X pins σ H s):X.env.locals<s.heap.objs.size:=let ⟨_,hn,_⟩:=I.loc;hn.lt
theorem Inv.sz (I:Inv X pins σ H s):X.s₀.heap.objs.size<=s.heap.objs.size:=Nat.le_trans I.ok.above (Nat.le_of_lt I.lt)
theorem Inv.nofs (I:Inv X pins σ H s) {a:Addr}(h:s.heap.objs.size<=a):a∉X.fs:=fun hb=>by
 obtain ⟨_,o,ho,_⟩:=I.ok.funs.mem hb
 exact absurd (Nat.lt_of_lt_of_le (Heap.lt_size ho) (Nat.le_trans I.sz h)) (Nat.lt_irrefl _)
theorem Inv.cne (I:Inv X pins σ H s):∀ x c,X.env.cells.lookup x=some c->c≠X.env.locals:=fun x c e z=>by
 obtain ⟨v,o,ho,hd⟩:=I.cell x c e
 obtain ⟨m,⟨o',es,ep,ho',hd',_⟩,_⟩:=I.loc
 rw [z,ho'] at ho;cases ho;rw [hd'] at hd;cases hd
theorem Inv.funs (I:Inv X pins σ H s):s.heap.FunFrames X.base X.outer:=by
 have all:∀ (l:List Env),(∀ b∈frs l,b∈X.fs)->X.s₀.heap.FunFrames X.base l->s.heap.FunFrames X.base l:=by
  intro l
  induction l with
  | nil=>intro _ _;trivial
  | cons env r ih =>
   intro hs hl
   obtain ⟨hk,⟨L,o,hf,hn,ho,hd⟩,hr⟩:=hl
   have hL:L∈X.fs:=hs L (by unfold frs;rw [List.filterMap_cons,hf];exact List.mem_cons_self)
   obtain ⟨sl,e⟩:=I.base.slot L o ho (I.ok.frf L hL) hL fun z=>I.ok.exfs L z hL
   exact ⟨hk,⟨L,_,hf,hn,e,hd⟩,ih (fun b hb=>hs b (by unfold frs;rw [List.filterMap_cons,hf];exact List.mem_cons_of_mem _ hb)) hr⟩
 exact all X.outer (fun _ hb=>hb) I.ok.funs
theorem Inv.stack (I:Inv X pins σ H s):s.heap.FunFrames X.base X.stack:=by
 rcases I.ok.stk with e|⟨e,hf⟩
 .rw [e];exact I.funs
 .rw [e]
  obtain ⟨m,hn,_⟩:=I.loc
  refine .cons (by rw [I.ok.kind];decide) hf hn ?_ I.funs
  exact Heap.get?_none_of_le (Nat.le_trans I.ok.bsz I.ok.above)
theorem Inv.stkSub (I:Inv X pins σ H s):∀ b∈frs X.stack,b∈X.env.locals::X.fs:=fun b hb=>by
 rcases I.ok.stk with e|⟨e,hf⟩
 .rw [e] at hb;exact List.mem_cons_of_mem _ hb
 .rw [e] at hb
  unfold frs at hb
  rw [List.filterMap_cons,hf] at hb
  exact hb
theorem Inv.stkFree (I:Inv X pins σ H s):∀ b∈frs X.stack,H b=none:=fun b hb=>by
 rcases List.mem_cons.mp (I.stkSub b hb) with e|hb
 .rw [e];exact I.free
 .obtain ⟨_,o,ho,_⟩:=I.ok.funs.mem hb
  exact I.base.free b o ho (I.ok.frf b hb) fun z=>I.ok.exfs b z hb
theorem Inv.step {g':Array GenState}{t':Nat}{d':Drawn}{ch:List Addr}(I:Inv X pins σ H s)
  (hch:∀ b∈ch,(b∈X.ex\/X.s₀.heap.objs.size<=b)/\b≠X.env.locals/\(∀ x c,X.env.cells.lookup x=some c->c≠b)/\∀ p∈X.pn++pins,p.1≠b)
  (keep:∀ b o,b≠X.env.locals->b∉X.fs->b∉ch->s.heap.get? b=some o->H b=none->h'.get? b=some o)
  (slot:∀ b o,b≠X.env.locals->b∈X.fs->b∉ch->s.heap.get? b=some o->H b=none->∃ sl,h'.get? b=some { o with slots:=sl }) (free:∀ b o,b∉ch->s.heap.get? b=some o->H b=none->H' b=none)
  (there:∀ b o,b∉ch->s.heap.get? b=some o->∃ o',h'.get? b=some o')
  (tups:∀ b xs,H b=some (.tup xs)->H' b=some (.tup xs)) (frzs:∀ b o u,H b=some (.frz o u)->H' b=some (.frz o u)) (tbls:∀ b ps,H b=some (.tbl ps)->∃ more,H' b=some (.tbl (ps++more)))
  (ns:∀ m,s.heap.Ns X.env.locals m->h'.Ns X.env.locals m) (hok:HOk X.prog X.w H' h') (hg:AllBare g') :
  Inv X pins σ H' { s with heap:=h',gens:=g',drawn:=d',toks:=t' }:=by
 have neL:∀ b o,X.s₀.heap.get? b=some o->b≠X.env.locals:=fun b o e=>Nat.ne_of_lt (Nat.lt_of_lt_of_le (Heap.lt_size e) I.ok.above)
 have neC:∀ b o,X.s₀.heap.get? b=some o->b∉X.ex->b∉ch:=fun b o e hx hb=>by
  rcases (hch b hb).1 with z|z
  .exact hx z
  .exact absurd (Nat.lt_of_lt_of_le (Heap.lt_size e) z) (Nat.lt_irrefl _)
 have cellK:∀ x c,X.env.cells.lookup x=some c->∀ v,s.heap.IsCell c v->h'.IsCell c v:=fun x c e v ⟨o,ho,hd⟩=>by
  have nch:c∉ch:=fun z=>(hch c z).2.2.1 x c e rfl
  by_cases hc:c∈X.fs
  .obtain ⟨sl,q⟩:=slot c o (I.cne x c e) hc nch ho (I.freeC x c e)
   exact ⟨_,q,hd⟩
  .exact ⟨o,keep c o (I.cne x c e) hc nch ho (I.freeC x c e),hd⟩
 refine ⟨I.ok,I.os,hg,⟨fun b o e n hb hx=>?_,fun b o e n hb hx=>?_,fun b o e n hx=>?_,fun b o e hx=>?_,fun b xs e=>tups b xs (I.base.tups b xs e),fun b o xs e=>frzs b o xs (I.base.frzs b o xs e),fun b ps e=>?_⟩,?_,fun x c e=>?_,?_,fun x c e=>?_,fun p hp=>?_,hok,I.len⟩
 .exact keep b o (neL b o e) hb (neC b o e hx) (I.base.keep b o e n hb hx) (I.base.free b o e n hx)
 .obtain ⟨sl,e1⟩:=I.base.slot b o e n hb hx
  obtain ⟨sl',e2⟩:=slot b _ (neL b o e) hb (neC b o e hx) e1 (I.base.free b o e n hx)
  exact ⟨sl',e2⟩
 .obtain ⟨o',e1⟩:=I.base.there b o e hx
  exact free b o' (neC b o e hx) e1 (I.base.free b o e n hx)
 .obtain ⟨o',e1⟩:=I.base.there b o e hx
  exact there b o' (neC b o e hx) e1
 .obtain ⟨m1,e1⟩:=I.base.tbls b ps e
  obtain ⟨m2,e2⟩:=tbls b _ e1
  exact ⟨m1++m2,by rw [e2,Array.append_assoc]⟩
 .obtain ⟨m,hn,hl⟩:=I.loc
  refine ⟨m,ns m hn,fun i x v e1 e2 e3=>?_⟩
  obtain ⟨u,r,l⟩:=hl i x v e1 e2 e3
  refine ⟨u,r,?_⟩
  rcases l with l|⟨k,c,e,z⟩
  .exact .inl l
  .exact .inr ⟨k,c,e,cellK x c e _ z⟩
 .obtain ⟨v,z⟩:=I.cell x c e
  exact ⟨v,cellK x c e v z⟩
 .obtain ⟨m,⟨o,_,_,ho,_⟩,_⟩:=I.loc
  exact free _ o (fun z=>(hch _ z).2.1 rfl) ho I.free
 .obtain ⟨v,o,ho,hd⟩:=I.cell x c e
  exact free c o (fun z=>(hch c z).2.2.1 x c e rfl) ho (I.freeC x c e)
 .obtain ⟨e,n,ne,nf,d⟩:=I.pin p hp
  have nch:p.1∉ch:=fun z=>(hch p.1 z).2.2.2 p hp rfl
  exact ⟨keep p.1 p.2 ne nf nch e n,free p.1 p.2 nch e n,ne,nf,d⟩
theorem Inv.un {t':Nat}(I:Inv X pins σ H s) (u:Un X.fs [] H H' s.heap h') (hok:HOk X.prog X.w H' h'):Inv X pins σ H' { s with heap:=h',toks:=t' }:=by
 obtain ⟨m,⟨o,es,ep,ho,r⟩,_⟩:=id I.loc
 obtain ⟨sl,hL⟩:=u.any ho I.free (by simp)
 exact I.step (g':=s.gens) (d':=s.drawn) (ch:=[]) (fun _ z=>nomatch z) (fun b o _ hb _ e n=>u.keep b o e n hb (by simp)) (fun b o _ hb _ e n=>u.slot b o e n hb (by simp)) (fun b o _ e n=>u.free b o e n (by simp)) (fun b o _ e=>u.there b o e (by simp)) u.tups u.frzs u.tbls (fun m' hm=>by
  obtain ⟨o',es',ep',ho',r'⟩:=hm
  rw [ho] at ho';cases ho'
  exact ⟨_,es',ep',hL,r'⟩) hok I.bare
theorem Inv.call {g':Array GenState}{t':Nat}{d':Drawn}{ch:List Addr}(I:Inv X pins σ H s) (u:Un (frs X.stack) ch H H' s.heap h') (hok:HOk X.prog X.w H' h') (hg:AllBare g')
  (hch:∀ b∈ch,(b∈X.ex\/X.s₀.heap.objs.size<=b)/\b≠X.env.locals/\(∀ x c,X.env.cells.lookup x=some c->c≠b)/\∀ p∈X.pn++pins,p.1≠b) :
  Inv X pins σ H' { s with heap:=h',gens:=g',drawn:=d',toks:=t' }:=by
 obtain ⟨m,⟨o,es,ep,ho,r⟩,_⟩:=id I.loc
 obtain ⟨sl,hL⟩:=u.any ho I.free fun z=>(hch _ z).2.1 rfl
 exact I.step (ch:=ch) hch (fun b o hL hb hc e n=>u.keep b o e n (fun z=>(List.mem_cons.mp (I.stkSub b z)).elim hL hb) hc) (fun b o _ _ hc e n=>u.any e n hc) (fun b o hc e n=>u.free b o e n hc) (fun b o hc e=>u.there b o e hc) u.tups u.frzs u.tbls (fun m' hm=>by
  obtain ⟨o',es',ep',ho',r'⟩:=hm
  rw [ho] at ho';cases ho'
  exact ⟨_,es',ep',hL,r'⟩) hok hg
theorem Inv.turned {t':Nat}{it:Addr}(I:Inv X pins σ H s) (k:∀ b o,b≠it->s.heap.get? b=some o->h'.get? b=some o) (hn:H it=none) (hL:it≠X.env.locals)
  (h1:it∈X.ex\/X.s₀.heap.objs.size<=it) (h2:∀ x c,X.env.cells.lookup x=some c->c≠it) (h3:∀ p∈X.pn++pins,p.1≠it):Inv X pins σ H { s with heap:=h',toks:=t' }:=by
 have nit:∀ b u,H b=some u->b≠it:=fun b u e z=>by rw [z,hn] at e;cases e
 refine I.step (g':=s.gens) (d':=s.drawn) (ch:=[it]) (fun b hb=>?_) (fun b o _ _ hc e _=>k b o (fun z=>hc (by simp [z])) e) (fun b o _ _ hc e _=>⟨o.slots,k b o (fun z=>hc (by simp [z])) e⟩) (fun _ _ _ _ n=>n)
  (fun b o hc e=>⟨o,k b o (fun z=>hc (by simp [z])) e⟩) (fun _ _ e=>e) (fun _ _ _ e=>e) (fun b ps e=>⟨#[],by rw [e];simp⟩) (fun m hm=>?_) (fun b u e=>?_) I.bare
 .have e:b=it:=by simpa using hb
  subst e
  exact ⟨h1,hL,h2,h3⟩
 .obtain ⟨o,es,ep,ho,r⟩:=hm
  exact ⟨o,es,ep,k _ o (Ne.symm hL) ho,r⟩
 .refine (I.hok b u e).stay (fun c v hc q=>k c v ?_ q) (fun _ q=>q) fun _ _ q=>q
  rcases hc with z|z
  .rw [z];exact nit b u e
  .exact nit c _ z
theorem Inv.tok (I:Inv X pins σ H s) (t:Nat):Inv X pins σ H { s with toks:=t }:=I.un (h':=s.heap) (t':=t) Un.refl I.hok
theorem Inv.kept {t':Nat}(I:Inv X pins σ H s) (k:∀ b u,s.heap.get? b=some u->h'.get? b=some u):Inv X pins σ H { s with heap:=h',toks:=t' }:=I.un (Un.kept k) (I.hok.kept k)
theorem Inv.laid {a:Addr}{o:HO}{t':Nat}(I:Inv X pins σ H s) (k:∀ b u,s.heap.get? b=some u->h'.get? b=some u) (hp:s.heap.objs.size<=a) (new:ObjOk X.prog X.w (upd H a o) h' a o) :
  Inv X pins σ (upd H a o) { s with heap:=h',toks:=t' }:=I.un (Un.laid k hp (I.hok.fresh hp)) (I.hok.laid k hp new)
theorem Inv.write {x e:Addr}{o:HO}{t':Nat}(I:Inv X pins σ H s) (mu:Mut (H x)) (he:e=x\/H e=some (.own x)) (k:∀ b u,b≠e->s.heap.get? b=some u->h'.get? b=some u) (heo:∃ u,h'.get? e=some u)
  (new:ObjOk X.prog X.w (upd H x o) h' x o):Inv X pins σ (upd H x o) { s with heap:=h',toks:=t' }:=I.un (Un.write mu he k heo) (I.hok.write mu he k heo new)
theorem Inv.pins_of {pins':List (Addr×Obj)}(I:Inv X pins σ H s) (h:∀ p∈pins',s.heap.get? p.1=some p.2/\H p.1=none/\p.1≠X.env.locals/\p.1∉X.fs/\∀ v,p.2.data≠.cell v):Inv X pins' σ H s :=
 ⟨I.ok,I.os,I.bare,I.base,I.loc,I.cell,I.free,I.freeC,fun p hp=>(List.mem_append.mp hp).elim (fun z=>I.pin p (List.mem_append_left _ z)) (h p),I.hok,I.len⟩
theorem yyM {N:List Str}(hN:N.Nodup) {i j:Nat}{x:Str}(a:N[i]?=some x) (b:N[j]?=some x):i=j:=by
 obtain ⟨h1,e1⟩:=List.getElem?_eq_some_iff.mp a
 obtain ⟨h2,e2⟩:=List.getElem?_eq_some_iff.mp b
 exact (List.getElem_inj hN).mp (e1.trans e2.symm)
theorem yBk {M:Model}{A:Around}{E:Value->Shared->Prop}{i:Nat}{x:Str}{v:V}{u:Value}{Q:Unit->Shared->Prop}(I:Inv X pins σ H s) (hN:X.N.Nodup) (hi:X.N[i]?=some x) (hx:Loc X.env.scope x) (r:RelV v u)
  (h:∀ s',Inv X pins (σ.set i (some v)) H s'->(∃ a,Heap.SameBut a s.heap s'.heap/\(a=X.env.locals\/X.env.cells.lookup x=some a))->Q () s') (hf:X.fn x=true\/X.env.scope.names.lookup x=some .local:=by first|exact .inl rfl|exact .inr rfl|assumption):wpAny M A (storeName X.env x u) Q E s:=by
 obtain ⟨m,hn,hl⟩:=id I.loc
 have hcls:(X.env.scope.kind == .class || (X.env.scope.kind == .module && X.env.locals != X.env.globals))=false:=by rw [I.ok.kind];rfl
 have hiσ:i<σ.length:=by rw [I.len];exact (List.getElem?_eq_some_iff.mp hi).1
 have cne:=I.cne
 have tracked:∀ {a:Addr}{h':Heap},(∃ o,s.heap.get? a=some o/\H a=none)->Heap.SameBut a s.heap h'->HOk X.prog X.w H h':=fun {a h'} ha hs b ob e=>by
  obtain ⟨_,_,hfree⟩:=ha
  refine (I.hok b ob e).stay (fun c w' hc q=>(hs.2 c ?_).trans q) (fun _ q=>q) fun _ _ q=>q
  rintro rfl
  rcases hc with rfl|hc
  .rw [hfree] at e;cases e
  .rw [hfree] at hc;cases hc
 rcases hx with hk|hk
 .refine wpAny_storeName_local hk hn (fun h' hn' hs=>?_) hcls
  obtain ⟨oL,_,_,hoL,_⟩:=id hn
  refine h _ ⟨I.ok,I.os,I.bare,⟨fun b o e n hb hx=>?_,fun b o e n hb hx=>?_,I.base.free,fun b o e hx=>?_,I.base.tups,I.base.frzs,I.base.tbls⟩,⟨_,hn',fun j y v' e1 e2 e3=>?_⟩,fun y c e=>?_,I.free,I.freeC,fun p hp=>?_,tracked ⟨oL,hoL,I.free⟩ hs,by simpa using I.len⟩ ⟨_,hs,.inl rfl⟩
  .exact (hs.2 b (Nat.ne_of_lt (Nat.lt_of_lt_of_le (Heap.lt_size e) I.ok.above))).trans (I.base.keep b o e n hb hx)
  .obtain ⟨sl,e1⟩:=I.base.slot b o e n hb hx
   exact ⟨sl,(hs.2 b (Nat.ne_of_lt (Nat.lt_of_lt_of_le (Heap.lt_size e) I.ok.above))).trans e1⟩
  .obtain ⟨o',e1⟩:=I.base.there b o e hx
   exact ⟨o',(hs.2 b (Nat.ne_of_lt (Nat.lt_of_lt_of_le (Heap.lt_size e) I.ok.above))).trans e1⟩
  .by_cases hj:j=i
   .subst hj
    rw [hi] at e1;cases e1
    rw [List.getElem?_set_self hiσ] at e2
    cases e2
    exact ⟨u,r,.inl ⟨hk,by simp⟩⟩
   .rw [List.getElem?_set_ne (Ne.symm hj)] at e2
    obtain ⟨u',r',q⟩:=hl j y v' e1 e2 e3
    refine ⟨u',r',?_⟩
    rcases q with ⟨k,e⟩|⟨k,c,e,z⟩
    .refine .inl ⟨k,?_⟩
     have:y≠x:=fun e=>hj (yyM hN e1 (e ▸ hi))
     simp [this,e]
    .exact .inr ⟨k,c,e,z.sameBut hs (cne y c e)⟩
  .obtain ⟨w',z⟩:=I.cell y c e
   exact ⟨w',z.sameBut hs (cne y c e)⟩
  .obtain ⟨e,n,ne,nf,d⟩:=I.pin p hp
   exact ⟨(hs.2 p.1 ne).trans e,n,ne,nf,d⟩
 .have hfn:X.fn x=true:=by
   rcases hf with z|z
   .exact z
   .rw [z] at hk;cases hk
  obtain ⟨c,hc⟩:=I.ok.has x (.inl hk)
  obtain ⟨w',z⟩:=I.cell x c hc
  refine wpAny_storeName_cell I.ok.kind hk hc z (fun h' hc' hs=>?_)
  obtain ⟨oc,hoc,hocd⟩:=id z
  refine h { s with heap:=h' } ⟨I.ok,I.os,I.bare,⟨fun b o e n hb hx=>?_,fun b o e n hb hx=>?_,I.base.free,fun b o e hx=>?_,I.base.tups,I.base.frzs,I.base.tbls⟩,⟨m,hn.sameBut hs (Ne.symm (cne x c hc)),fun j y v' e1 e2 e3=>?_⟩,fun y c' e=>?_,I.free,I.freeC,fun p hp=>?_,tracked ⟨oc,hoc,I.freeC x c hc⟩ hs,by simpa using I.len⟩ ⟨c,hs,.inr hc⟩
  .exact (hs.2 b (Nat.ne_of_lt (Nat.lt_of_lt_of_le (Heap.lt_size e) (I.ok.cab x c hfn hc)))).trans (I.base.keep b o e n hb hx)
  .obtain ⟨sl,e1⟩:=I.base.slot b o e n hb hx
   exact ⟨sl,(hs.2 b (Nat.ne_of_lt (Nat.lt_of_lt_of_le (Heap.lt_size e) (I.ok.cab x c hfn hc)))).trans e1⟩
  .obtain ⟨o',e1⟩:=I.base.there b o e hx
   exact ⟨o',(hs.2 b (Nat.ne_of_lt (Nat.lt_of_lt_of_le (Heap.lt_size e) (I.ok.cab x c hfn hc)))).trans e1⟩
  .by_cases hj:j=i
   .subst hj
    rw [hi] at e1;cases e1
    rw [List.getElem?_set_self hiσ] at e2
    cases e2
    exact ⟨u,r,.inr ⟨.inl hk,c,hc,hc'⟩⟩
   .rw [List.getElem?_set_ne (Ne.symm hj)] at e2
    obtain ⟨u',r',q⟩:=hl j y v' e1 e2 e3
    refine ⟨u',r',?_⟩
    rcases q with q|⟨k,c',e,z'⟩
    .exact .inl q
    .refine .inr ⟨k,c',e,z'.sameBut hs ?_⟩
     rintro rfl
     exact hj (yyM hN e1 (I.ok.inj _ _ _ e hc ▸ hi))
  .by_cases hcc:c'=c
   .subst hcc;exact ⟨_,hc'⟩
   .obtain ⟨w2,z2⟩:=I.cell y c' e
    exact ⟨w2,z2.sameBut hs hcc⟩
  .obtain ⟨e,n,ne,nf,d⟩:=I.pin p hp
   refine ⟨(hs.2 p.1 ?_).trans e,n,ne,nf,d⟩
   intro q
   rw [q,hoc] at e
   have q':oc=p.2:=Option.some.inj e
   exact d w' (by rw [<- q'];exact hocd)
theorem yqw {M:Model}{A:Around}{E:Value->Shared->Prop}{i:Nat}{x:Str}{v:V}{u:Value}{Q:Unit->Shared->Prop}(I:Inv X pins σ H s) (hN:X.N.Nodup) (hi:X.N[i]?=some x) (hx:Loc X.env.scope x) (r:RelV v u)
  (h:∀ s',Inv X pins (σ.set i (some v)) H s'->Q () s') (hf:X.fn x=true\/X.env.scope.names.lookup x=some .local:=by first|exact .inl rfl|exact .inr rfl|assumption):wpAny M A (storeName X.env x u) Q E s :=
 yBk I hN hi hx r (fun s' I' _=>h s' I') hf
theorem Inv.call' {s':Shared}{ch:List Addr}(I:Inv X pins σ H s) (ho:s'.os=s.os) (u:Un (frs X.stack) ch H H' s.heap s'.heap) (hok:HOk X.prog X.w H' s'.heap) (hg:AllBare s'.gens)
  (hch:∀ b∈ch,(b∈X.ex\/X.s₀.heap.objs.size<=b)/\b≠X.env.locals/\(∀ x c,X.env.cells.lookup x=some c->c≠b)/\∀ p∈X.pn++pins,p.1≠b):Inv X pins σ H' s':=by
 obtain ⟨h',g',d',t',o'⟩:=s'
 have e:o'=s.os:=ho
 subst e
 exact I.call (g':=g') (t':=t') (d':=d') u hok hg hch
end
abbrev XK:=Value->Option Addr->Hp->Prop
abbrev St:=List (Option V)
abbrev VK:=V->Hp->Prop
abbrev TE:=St->Hp->VK->Prop
abbrev TT:=St->Hp->(Bool->Hp->Prop)->Prop
abbrev TA:=St->Hp->(List V->Hp->Prop)->Prop
structure Ends where
 nx:St->Hp->Prop
 rt:VK
 bk:St->Hp->Prop:=fun _ _=>False
 ct:St->Hp->Prop:=fun _ _=>False
abbrev TS:=Ends->St->Hp->Prop
noncomputable def EP (X:Cx) (pins:List (Addr×Obj)) (σ:St) (Q:VK) (u:Value) (s':Shared):Prop:=∃ v H',Inv X pins σ H' s'/\RelV v u/\Q v H'
noncomputable def TP (X:Cx) (pins:List (Addr×Obj)) (σ:St) (Q:Bool->Hp->Prop) (b:Bool) (s':Shared):Prop:=∃ H',Inv X pins σ H' s'/\Q b H'
noncomputable def AP (X:Cx) (pins:List (Addr×Obj)) (σ:St) (Q:List V->Hp->Prop) (us:List Value) (s':Shared):Prop:=∃ vs H',Inv X pins σ H' s'/\Vals vs us/\Q vs H'
noncomputable def SP (X:Cx) (pins:List (Addr×Obj)) (D:Ends) (f:Flow) (s':Shared):Prop :=
 match f with
 | .next=>∃ σ' H',Inv X pins σ' H' s'/\D.nx σ' H'
 | .brk=>∃ σ' H',Inv X pins σ' H' s'/\D.bk σ' H'
 | .cont=>∃ σ' H',Inv X pins σ' H' s'/\D.ct σ' H'
 | .ret u=>∃ v σ' H',Inv X pins σ' H' s'/\RelV v u/\D.rt v H'
noncomputable def PE (X:Cx) (e:Expr) (t:TE):Prop :=
 ∀ (pins:List (Addr×Obj)) (s:Shared) (σ:St) (H:Hp) (Q:VK),Inv X pins σ H s->t σ H Q->wpAny (model X.prog X.w) X.A (eval e X.env) (EP X pins σ Q) X.xe s
noncomputable def PT (X:Cx) (e:Expr) (t:TT):Prop :=
 ∀ (pins:List (Addr×Obj)) (s:Shared) (σ:St) (H:Hp) (Q:Bool->Hp->Prop),Inv X pins σ H s->t σ H Q->wpAny (model X.prog X.w) X.A (isTrue e X.env (eval e X.env)) (TP X pins σ Q) X.xe s
noncomputable def PW (X:Cx) (e:Expr) (t:TT):Prop :=
 ∀ (whole:Sem Value) (pins:List (Addr×Obj)) (s:Shared) (σ:St) (H:Hp) (Q:Bool->Hp->Prop),Inv X pins σ H s->t σ H Q->wpAny (model X.prog X.w) X.A (isTrue e X.env whole) (TP X pins σ Q) X.xe s
theorem PW.pt {X:Cx}{e:Expr}{t:TT}(h:PW X e t):PT X e t:=h _
noncomputable def PA (X:Cx) (es:List Expr) (t:TA):Prop :=
 ∀ (pos:Pos) (pins:List (Addr×Obj)) (s:Shared) (σ:St) (H:Hp) (Q:List V->Hp->Prop),Inv X pins σ H s->t σ H Q->wpAny (model X.prog X.w) X.A (spliced (backTo pos (starEach es X.env))) (AP X pins σ Q) X.xe s
noncomputable def PS (X:Cx) (st:Stmt) (t:TS):Prop :=
 ∀ (pins:List (Addr×Obj)) (s:Shared) (σ:St) (H:Hp) (D:Ends),Inv X pins σ H s->t D σ H->wpAny (model X.prog X.w) X.A (exec st X.env) (SP X pins D) X.xe s
noncomputable def PSs (X:Cx) (st:List Stmt) (t:TS):Prop :=
 ∀ (pins:List (Addr×Obj)) (s:Shared) (σ:St) (H:Hp) (D:Ends),Inv X pins σ H s->t D σ H->wpAny (model X.prog X.w) X.A (execs st X.env) (SP X pins D) X.xe s
theorem thn {α:Type}{t:Sem α}{Q Q':α->Shared->Prop}{M:Model}{A:Around}{E:Value->Shared->Prop}{s:Shared}(h:wpAny M A t Q E s) (hQ:∀ a s,Q a s->Q' a s):wpAny M A t Q' E s:=wpAny_mono h hQ fun _ _ x=>x
end L2
namespace L2
open PySem PySem.Spec PyProof.Rows
section
variable {X:Cx}
def yIY (i:Nat):TE:=fun σ H Q=>∃ v,σ[i]?=some (some v)/\Q v H
def tC (v:V):TE:=fun _ H Q=>Q v H
theorem ycX {i:Nat}{x:Str}{pos:Pos}(hN:X.N[i]?=some x) (hv:Vis X.env.scope x) (hd:(x == ("__debug__":Str))=false:=by decide) (hcd:(x == ("__classdict__":Str))=false:=by decide):PE X (.Name x pos) (yIY i):=by
 intro pins s σ H Q I h
 obtain ⟨v,e,h⟩:=h
 obtain ⟨m,hn,hl⟩:=I.loc
 obtain ⟨u,r,l⟩:=hl i x v hN e hv
 have fin:EP X pins σ Q u s:=⟨v,H,I,r,h⟩
 rcases l with ⟨hk,hm⟩|⟨hk,c,hc,hcell⟩
 .exact wpAny_Name (wpAny_loadName_local I.ok.kind hk hn hm fin) hd
 .rcases hk with hk|hk
  .exact wpAny_Name (wpAny_loadName_cell I.ok.kind hk hc hcell fin) hd
  .exact wpAny_Name (wpAny_loadName_free I.ok.kind hk hc hcell fin hcd) hd
theorem yJm {i j pos}:PE X (.Constant (.int i) j pos) (tC (.int i)):=fun _ _ _ H _ I h=>wpAny_Constant_int ⟨.int i,H,I.tok _,⟨_,rfl⟩,h⟩
theorem yMi {b j pos}:PE X (.Constant (.bool b) j pos) (tC (.bl b)):=fun _ _ _ H _ I h=>Constant_bool ⟨.bl b,H,I,rfl,h⟩
theorem yJn {j pos}:PE X (.Constant .none j pos) (tC .non):=fun _ _ _ H _ I h=>Constant_none ⟨.non,H,I,rfl,h⟩
theorem yJo {x j pos}:PE X (.Constant (.str x) j pos) (tC (.str x)):=fun _ _ _ H _ I h=>Calls.Constant_str ⟨.str x,H,I.tok _,⟨_,rfl⟩,h⟩
def Gl (X:Cx) (x:Str):Prop:=X.env.kindOf x=some .globalImplicit
theorem yts {E:Value->Shared->Prop}{pins:List (Addr×Obj)}{s:Shared}{σ:St}{H:Hp}{x:Str}{u:Value}{pos:Pos}{Q:Value->Shared->Prop}(I:Inv X pins σ H s) (hg:Gl X x) (hm:X.mg x=some u) (h:Q u s)
  (hd:(x == ("__debug__":Str))=false:=by decide):wpAny (model X.prog X.w) X.A (eval (.Name x pos) X.env) Q E s :=
 Calls.Name_function_global I.ok.kind hg (Calls.loadGlobal_global (by rw [I.ok.glob];exact I.mod.glob.keeps I.bk) hm h) hd
theorem yuY {E:Value->Shared->Prop}{pins:List (Addr×Obj)}{s:Shared}{σ:St}{H:Hp}{x:Str}{u:Value}{pos:Pos}{Q:Value->Shared->Prop}(I:Inv X pins σ H s) (hg:Gl X x) (hm:X.mg x=none) (hv:bootBuiltins x=some u) (h:Q u s)
  (hn:x≠"__name__":=by decide) (hd:(x == ("__debug__":Str))=false:=by decide):wpAny (model X.prog X.w) X.A (eval (.Name x pos) X.env) Q E s:=by
 obtain ⟨mb,h1,h2⟩:=I.mod.blt
 exact Calls.Name_function_global I.ok.kind hg (Calls.loadGlobal_builtin (by rw [I.ok.glob];exact I.mod.glob.keeps I.bk) hm (by rw [I.ok.blt];exact h1.keeps I.bk) ((h2 x hn).trans hv) h) hd
theorem yxf {x:Str}{v:V}{u:Value}{pos:Pos}(hg:Gl X x) (hm:X.mg x=some u) (r:RelV v u) (hd:(x == ("__debug__":Str))=false:=by decide):PE X (.Name x pos) (tC v) :=
 fun _ _ _ H _ I h=>yts I hg hm ⟨v,H,I,r,h⟩ hd
theorem yGP {x:Str}{v:V}{u:Value}{pos:Pos}(hg:Gl X x) (hm:X.mg x=none) (hv:bootBuiltins x=some u) (r:RelV v u) (hn:x≠"__name__":=by decide) (hd:(x == ("__debug__":Str))=false:=by decide):PE X (.Name x pos) (tC v) :=
 fun _ _ _ H _ I h=>yuY I hg hm hv ⟨v,H,I,r,h⟩ hn hd
variable {a b:Expr}{ta tb:TE}{pos:Pos}
def tB (t:TE):TT:=fun σ H Q=>t σ H fun x H1=>∃ c,x=.bl c/\Q c H1
theorem yJp {e:Expr}{t:TE}(h:PE X e t) (he:∀ whole,isTrue e X.env whole=(do let v <- whole;standAt e.pos;holding [v] (truthy v)):=by intro _;rfl):PT X e (tB t):=by
 intro pins s σ H Q I hw
 refine isTrue_plain (thn (h pins s σ H _ I hw) fun v s1 ⟨x,H1,I1,r1,q1⟩=>?_) (he _)
 obtain ⟨d,rfl,q⟩:=q1
 cases r1
 exact wpAny_truthy_bool ⟨H1,I1,q⟩
variable {tA tB':TT}{rest:List Expr}
def yOm (t u:TT):TT:=fun σ H Q=>t σ H fun c H1=>if c=true then u σ H1 Q else Q false H1
def tOr (t u:TT):TT:=fun σ H Q=>t σ H fun c H1=>if c=true then Q true H1 else u σ H1 Q
def yMj (t:TT):TT:=fun σ H Q=>t σ H fun c H1=>Q (!c) H1
theorem yGQ (ha:PT X a tA):PW X (.BoolOp .And [a] pos) tA:=by
 intro wh pins s σ H Q I h
 refine isTrue_and (thn (ha pins s σ H Q I h) fun c s1 e=>?_)
 cases c with
 | true=>exact isTrue_and_nil e
 | false=>exact e
theorem yJq (ha:PT X a tA):PW X (.BoolOp .Or [a] pos) tA:=by
 intro wh pins s σ H Q I h
 refine isTrue_or (thn (ha pins s σ H Q I h) fun c s1 e=>?_)
 cases c with
 | false=>exact isTrue_or_nil e
 | true=>exact e
theorem yJr (ha:PT X a tA) (hb:PW X (.BoolOp .And (b::rest) pos) tB'):PW X (.BoolOp .And (a::b::rest) pos) (yOm tA tB'):=by
 intro wh pins s σ H Q I h
 refine isTrue_and (thn (ha pins s σ H _ I h) fun c s1 ⟨H1,I1,q1⟩=>?_)
 cases c with
 | true=>exact hb wh pins s1 σ H1 Q I1 q1
 | false=>exact ⟨H1,I1,q1⟩
theorem yMk (ha:PT X a tA) (hb:PW X (.BoolOp .Or (b::rest) pos) tB'):PW X (.BoolOp .Or (a::b::rest) pos) (tOr tA tB'):=by
 intro wh pins s σ H Q I h
 refine isTrue_or (thn (ha pins s σ H _ I h) fun c s1 ⟨H1,I1,q1⟩=>?_)
 cases c with
 | true=>exact ⟨H1,I1,q1⟩
 | false=>exact hb wh pins s1 σ H1 Q I1 q1
theorem yJs (ha:PT X a tA):PT X (.UnaryOp .Not a pos) (yMj tA):=by
 intro pins s σ H Q I h
 exact isTrue_not (ha pins s σ H (fun c H1=>Q (!c) H1) I h)
def yJt (ta tb:TE):TE:=fun σ H Q=>ta σ H fun x H1=>∃ c,x=.bl c/\if c=true then tb σ H1 Q else Q (.bl false) H1
def yJu (ta:TE):TE:=fun σ H Q=>ta σ H fun x H1=>∃ c,x=.bl c/\Q (.bl (!c)) H1
theorem yJv {op} {t:TE}(h:PE X a t):PE X (.BoolOp op [a] pos) t:=fun pins s σ H Q I hw=>BoolOp_one (h pins s σ H Q I hw)
theorem yJw (ha:PE X a ta) (hb:PE X (.BoolOp .And (b::rest) pos) tb):PE X (.BoolOp .And (a::b::rest) pos) (yJt ta tb):=by
 intro pins s σ H Q I h
 refine BoolOp_and (thn (ha pins s σ H _ I h) fun v s1 ⟨x,H1,I1,r1,q1⟩=>?_)
 obtain ⟨c,rfl,q1⟩:=q1
 cases r1
 refine wpAny_truthy_bool ?_
 cases c with
 | true=>exact hb pins s1 σ H1 Q I1 q1
 | false=>exact ⟨.bl false,H1,I1,rfl,q1⟩
theorem yJx (ha:PE X a ta):PE X (.UnaryOp .Not a pos) (yJu ta):=by
 intro pins s σ H Q I h
 refine UnaryOp_ (thn (ha pins s σ H _ I h) fun v s1 ⟨x,H1,I1,r1,q1⟩=>?_)
 obtain ⟨c,rfl,q1⟩:=q1
 cases r1
 exact not_of (wpAny_truthy_bool ⟨.bl (!c),H1,I1,rfl,q1⟩)
def tIf (t:TT) (ta tb:TE):TE:=fun σ H Q=>t σ H fun c H1=>if c=true then ta σ H1 Q else tb σ H1 Q
theorem yDS {c:Expr}(hc:PT X c tA) (ha:PE X a ta) (hb:PE X b tb):PE X (.IfExp c a b pos) (tIf tA ta tb):=by
 intro pins s σ H Q I h
 refine wpAny_IfExp (thn (hc pins s σ H _ I h) fun d s1 ⟨H1,I1,q1⟩=>?_)
 cases d with
 | true=>exact ha pins s1 σ H1 Q I1 q1
 | false=>exact hb pins s1 σ H1 Q I1 q1
end
end L2
namespace L2
open PySem PySem.Spec PyProof.Rows
noncomputable def SqL (K:PySem.W.Frag) (H:Hp) (a:Addr) (xs:List V):Prop :=
 Rd H a (.lst xs) \/
  ∃ (o:Obj) (its:Array Value) (n:Nat),K.lookup a=some o/\o.cls=.type "list"/\o.dict=none/\o.data=.seq its n/\its.size<=sizeLine/\Vals xs its.toList
noncomputable def SqT (K:PySem.W.Frag) (H:Hp) (a:Addr) (xs:List V):Prop :=
 Rd H a (.tup xs) \/
  ∃ (o:Obj) (its:Array Value) (n:Nat),K.lookup a=some o/\o.cls=.type "tuple"/\o.data=.seq its n/\its.size<=sizeLine/\Vals xs its.toList
noncomputable def yOS:Value->Option V
 | .none=>some .non
 | .bool b=>some (.bl b)
 | .int i _=>some (.int i)
 | .str x _=>some (.str x)
 | .bytes b _=>some (.byt b)
 | .float b _=>some (.flt b)
 | .ref a=>some (.ref a)
 | .type n=>some (.ty n)
 | _=>none
theorem RelV.abs {x:V}{u:Value}(r:RelV x u):yOS u=some x:=by
 cases x with
 | non=>cases r;rfl
 | bl _=>cases r;rfl
 | int _=>obtain ⟨t,rfl⟩:=r;rfl
 | str _=>obtain ⟨t,rfl⟩:=r;rfl
 | byt _=>obtain ⟨t,rfl⟩:=r;rfl
 | flt _=>obtain ⟨t,rfl⟩:=r;rfl
 | ref _=>cases r;rfl
 | ty _=>cases r;rfl
theorem RelV.inj {x y:V}{u:Value}(r:RelV x u) (q:RelV y u):x=y:=Option.some.inj (r.abs.symm.trans q.abs)
theorem Vals.inj:∀ {xs ys:List V}{us:List Value},Vals xs us->Vals ys us->xs=ys
 | _,_,_,.nil,.nil=>rfl
 | _,_,_,.cons r t,.cons r' t'=>by rw [r.inj r',Vals.inj t t']
section
variable {X:Cx}{pins:List (Addr×Obj)}{σ:St}{H:Hp}{s:Shared}{a:Addr}{xs ys:List V}
theorem SqL.of {K:PySem.W.Frag}(h:H a=some (.lst xs)):SqL K H a xs:=.inl (.inl h)
theorem SqT.of {K:PySem.W.Frag}(h:H a=some (.tup xs)):SqT K H a xs:=.inl (.inl h)
theorem Inv.list (I:Inv X pins σ H s) (h:SqL X.K H a xs):∃ its:List Value,Vals xs its/\PlainL s.heap a its.toArray/\xs.length<=sizeLine:=by
 rcases h with h|⟨o,its,n,hk,hc,hd,hs,hz,r⟩
 .obtain ⟨z,its,n,r,e⟩:=h.ok I.hok
  exact ⟨its,r,⟨_,n,e,rfl,rfl,rfl⟩,z⟩
 .refine ⟨its.toList,r,⟨o,n,I.kIn a o hk,hc,hd,by simpa using hs⟩,?_⟩
  have e:=r.length
  simp only [Array.length_toList] at e
  omega
theorem Inv.tuple (I:Inv X pins σ H s) (h:SqT X.K H a xs):∃ its:List Value,Vals xs its/\IsTup s.heap a its.toArray/\xs.length<=sizeLine:=by
 rcases h with h|⟨o,its,n,hk,hc,hs,hz,r⟩
 .obtain ⟨z,its,r,p⟩:=h.ok I.hok
  exact ⟨its,r,p,z⟩
 .refine ⟨its.toList,r,⟨o,I.kIn a o hk,hc,n,by simpa using hs⟩,?_⟩
  have e:=r.length
  simp only [Array.length_toList] at e
  omega
theorem Inv.list_inj (I:Inv X pins σ H s) (h:SqL X.K H a xs) (h':SqL X.K H a ys):xs=ys:=by
 obtain ⟨its,r,⟨o,n,e,_,_,d⟩,_⟩:=I.list h
 obtain ⟨its',r',⟨o',n',e',_,_,d'⟩,_⟩:=I.list h'
 rw [e] at e';cases e'
 rw [d] at d'
 injection d' with d1 _
 have:its=its':=by simpa using congrArg Array.toList d1
 subst this
 exact r.inj r'
theorem Inv.tuple_inj (I:Inv X pins σ H s) (h:SqT X.K H a xs) (h':SqT X.K H a ys):xs=ys:=by
 obtain ⟨its,r,⟨o,e,_,n,d⟩,_⟩:=I.tuple h
 obtain ⟨its',r',⟨o',e',_,n',d'⟩,_⟩:=I.tuple h'
 rw [e] at e';cases e'
 rw [d] at d'
 injection d' with d1 _
 have:its=its':=by simpa using congrArg Array.toList d1
 subst this
 exact r.inj r'
end
abbrev Cx.wish (X:Cx) (E:Value->Shared->Prop):Cx:={ X with xe:=E }
abbrev Cx.nox (X:Cx):Cx:=X.wish fun _ _=>False
theorem Cx.Ok.wish {X:Cx}(ok:X.Ok) (E:Value->Shared->Prop):(X.wish E).Ok :=
 ⟨ok.mod,ok.kind,ok.glob,ok.blt,ok.above,ok.inj,ok.has,ok.cab,ok.hd,ok.frames,ok.stk,ok.exf,ok.bs,ok.bsz,ok.noex,ok.exfs,ok.funs,ok.frf⟩
theorem Cx.Ok.unwish {X:Cx}{E:Value->Shared->Prop}(ok:(X.wish E).Ok):X.Ok :=
 ⟨ok.mod,ok.kind,ok.glob,ok.blt,ok.above,ok.inj,ok.has,ok.cab,ok.hd,ok.frames,ok.stk,ok.exf,ok.bs,ok.bsz,ok.noex,ok.exfs,ok.funs,ok.frf⟩
section
variable {X:Cx}{pins:List (Addr×Obj)}{σ:St}{H:Hp}{s:Shared}{E:Value->Shared->Prop}
theorem Inv.wish (I:Inv X pins σ H s) (E:Value->Shared->Prop):Inv (X.wish E) pins σ H s:=⟨I.ok.wish E,I.os,I.bare,I.base,I.loc,I.cell,I.free,I.freeC,I.pin,I.hok,I.len⟩
theorem Inv.unwish (I:Inv (X.wish E) pins σ H s):Inv X pins σ H s:=⟨I.ok.unwish,I.os,I.bare,I.base,I.loc,I.cell,I.free,I.freeC,I.pin,I.hok,I.len⟩
theorem SP.unwish {D:Ends}{f:Flow}{s':Shared}(h:SP (X.wish E) pins D f s'):SP X pins D f s':=by
 cases f with
 | next=>obtain ⟨σ',H',I,q⟩:=h;exact ⟨σ',H',I.unwish,q⟩
 | brk=>obtain ⟨σ',H',I,q⟩:=h;exact ⟨σ',H',I.unwish,q⟩
 | cont=>obtain ⟨σ',H',I,q⟩:=h;exact ⟨σ',H',I.unwish,q⟩
 | ret u=>obtain ⟨v,σ',H',I,r,q⟩:=h;exact ⟨v,σ',H',I.unwish,r,q⟩
theorem PSs.nox {st:List Stmt}{t:TS}(h:PSs X.nox st t):PSs X st t:=fun pins s σ H D I hw =>
 wpAny_mono (h pins s σ H D (I.wish _) hw) (fun _ _ q=>q.unwish) fun _ _ z=>False.elim z
end
section
variable {X:Cx}{st:Stmt}{rest:List Stmt}{t u:TS}{e:Expr}{te:TE}{pos:Pos}
def yJy:TS:=fun D σ H=>D.nx σ H
def yMl (t u:TS):TS:=fun D σ H=>t { D with nx:=u D } σ H
theorem yGR:PSs X [] yJy:=fun _ _ σ H _ I h=>wpAny_execs_nil ⟨σ,H,I,h⟩
theorem yyN (h1:PS X st t) (h2:PSs X rest u):PSs X (st::rest) (yMl t u):=by
 intro pins s σ H D I h
 refine wpAny_execs_cons (thn (h1 pins s σ H { D with nx:=u D } I h) fun f s1 q=>?_)
 cases f with
 | next =>
  obtain ⟨σ',H',I',q⟩:=q
  exact h2 pins s1 σ' H' D I' q
 | ret v=>exact q
 | brk=>exact q
 | cont=>exact q
theorem yBl (h1:PS X st t):PSs X [st] t:=by
 intro pins s σ H D I h
 refine wpAny_execs_cons (thn (h1 pins s σ H D I h) fun f s1 q=>?_)
 cases f with
 | next=>exact wpAny_execs_nil q
 | ret v=>exact q
 | brk=>exact q
 | cont=>exact q
theorem Inv.quiet {pins:List (Addr×Obj)}{σ:St}{H:Hp}{s:Shared}(I:Inv X pins σ H s):interactive X.env=false:=by simp [interactive,I.ok.kind]
def yGS (te:TE):TS:=fun D σ H=>te σ H fun _ H1=>D.nx σ H1
theorem yBm (he:PE X e te) (hs:swapsWith e none pos.line X.env=pure false:=by rfl):PS X (.Expr e pos) (yGS te):=by
 intro pins s σ H D I h
 exact wpAny_Expr_any (thn (he pins s σ H _ I h) fun v s1 ⟨x,H1,I1,r1,q1⟩=>⟨σ,H1,I1,q1⟩) I.quiet hs
def yOn (te:TE):TS:=fun D σ H=>te σ H D.rt
theorem yJz (he:PE X e te):PS X (.Return (some e) pos) (yOn te):=by
 intro pins s σ H D I h
 exact wpAny_Return_some (thn (he pins s σ H _ I h) fun v s1 ⟨x,H1,I1,r1,q1⟩=>⟨x,σ,H1,I1,r1,q1⟩)
def yOo (c:TT) (t u:TS):TS:=fun D σ H=>c σ H fun b H1=>if b=true then t D σ H1 else u D σ H1
theorem yMm {c:Expr}{a b:List Stmt}{tc:TT}(hc:PT X c tc) (ha:PSs X a t) (hb:PSs X b u):PS X (.If c a b pos) (yOo tc t u):=by
 intro pins s σ H D I h
 refine wpAny_If (thn (hc pins s σ H _ I h) fun d s1 ⟨H1,I1,q1⟩=>?_)
 cases d with
 | true=>exact ha pins s1 σ H1 D I1 q1
 | false=>exact hb pins s1 σ H1 D I1 q1
def yFQ:TS:=fun _ _ _=>False
theorem yDT:PS X st yFQ:=fun _ _ _ _ _ _ h=>h.elim
end
abbrev TG:=V->St->Hp->(St->Hp->Prop)->Prop
abbrev TGs:=List V->St->Hp->(St->Hp->Prop)->Prop
noncomputable def PG (X:Cx) (target:Expr) (t:TG):Prop :=
 ∀ (pins:List (Addr×Obj)) (s:Shared) (σ:St) (H:Hp) (v:V) (u:Value) (Q:St->Hp->Prop),Inv X pins σ H s->RelV v u->t v σ H Q ->
  wpAny (model X.prog X.w) X.A (assign target X.env u) (fun _ s'=>∃ σ' H',Inv X pins σ' H' s'/\Q σ' H') X.xe s
noncomputable def PGs (X:Cx) (ts:List Expr) (t:TGs):Prop :=
 ∀ (pins:List (Addr×Obj)) (s:Shared) (σ:St) (H:Hp) (vs:List V) (us:List Value) (Q:St->Hp->Prop),Inv X pins σ H s->Vals vs us->t vs σ H Q ->
  wpAny (model X.prog X.w) X.A (assignInOrder ((assignEach ts X.env).map (·.2)) us) (fun _ s'=>∃ σ' H',Inv X pins σ' H' s'/\Q σ' H') X.xe s
section
variable {X:Cx}{pos:Pos}
def yzG (i:Nat):TG:=fun v σ H Q=>Q (σ.set i (some v)) H
theorem ytt {i:Nat}{x:Str}(hN:X.N.Nodup) (hi:X.N[i]?=some x) (hx:Loc X.env.scope x) (hf:X.fn x=true\/X.env.scope.names.lookup x=some .local:=by first|exact .inl rfl|exact .inr rfl|assumption):PG X (.Name x pos) (yzG i):=by
 intro pins s σ H v u Q I r h
 exact wpAny_assign_Name (yqw I hN hi hx r (fun s' I'=>⟨_,H,I',h⟩) hf)
def yOp:TGs:=fun vs σ H Q=>vs=[]/\Q σ H
def yJA (t:TG) (u:TGs):TGs:=fun vs σ H Q=>∃ v r,vs=v::r/\t v σ H fun σ' H'=>u r σ' H' Q
theorem yGT:PGs X [] yOp:=by
 intro pins s σ H vs us Q I r h
 obtain ⟨e,h⟩:=h
 subst e
 cases r
 exact assignInOrder_nil ⟨σ,H,I,h⟩
theorem yDU {e:Expr}{es:List Expr}{t:TG}{u:TGs}(h1:PG X e t) (h2:PGs X es u)
  (hs:(assignEach (e::es) X.env).map (·.2)=assign e X.env::(assignEach es X.env).map (·.2):=by rfl):PGs X (e::es) (yJA t u):=by
 intro pins s σ H vs us Q I r h
 obtain ⟨v,vr,e1,h⟩:=h
 subst e1
 cases r with
 | cons r rr =>
  rw [hs]
  refine assignInOrder_cons (thn (h1 pins s σ H _ _ _ I r h) fun _ s1 ⟨σ1,H1,I1,q1⟩=>?_)
  exact h2 pins s1 σ1 H1 _ _ Q I1 rr q1
def yOq (K:PySem.W.Frag) (n:Nat) (t:TGs):TG:=fun v σ H Q=>∃ a xs,v=.ref a/\SqT K H a xs/\xs.length=n/\t xs σ H Q
theorem yJB {es:List Expr}{k:Nat}{t:TGs}{n:Nat}(hc:X.calm=true) (h:PGs X es t)
  (hn:(assignEach es X.env).length=n:=by rfl) (hst:(assignEach es X.env).findIdx? (·.1)=none:=by rfl):PG X (.Tuple es k pos) (yOq X.K n t):=by
 intro pins s σ H v u Q I r hw
 obtain ⟨a,xs,e1,hq,hl,hw⟩:=hw
 subst e1
 cases r
 obtain ⟨its,rv,ht,hz⟩:=I.tuple hq
 refine assign_Tuple_tuple (I.ok.hd hc) ht (by simp [hn,<- hl,rv.length]) hst fun h' hx=>?_
 have I1:Inv X pins σ H { s with heap:=h' }:=I.kept (t':=s.toks) fun b o e=>hx b o (Nat.ne_of_lt (Heap.lt_size e)) e
 exact h pins _ σ H xs _ Q I1 (by simpa using rv) hw
def yMd (te:TE) (g:TG):TS:=fun D σ H=>te σ H fun x H1=>g x σ H1 D.nx
theorem yFR {i:Nat}{x:Str}{e:Expr}{te:TE}{pos':Pos}(hN:X.N.Nodup) (hi:X.N[i]?=some x) (hx:Loc X.env.scope x) (he:PE X e te) (hs:swapsWith e (some (.Name x pos')) pos.line X.env=pure false:=by rfl) (hf:X.fn x=true\/X.env.scope.names.lookup x=some .local:=by first|exact .inl rfl|exact .inr rfl|assumption) :
  PS X (.Assign [.Name x pos'] e pos) (yMd te (yzG i)):=by
 intro pins s σ H D I h
 refine wpAny_Assign_Name (thn (he pins s σ H _ I h) fun v s1 ⟨y,H1,I1,r1,q1⟩=>?_) hs
 exact yqw I1 hN hi hx r1 (fun s2 I2=>⟨_,H1,I2,q1⟩) hf
def yOr (i j:Nat) (ta:TA):TS:=fun D σ H=>ta σ H fun vs H1=>∃ v w,vs=[v,w]/\D.nx ((σ.set i (some v)).set j (some w)) H1
theorem yJC {i j:Nat}{x y:Str}{a b:Expr}{ta:TA}{px py pt:Pos}{kt k2 pt2} (hc:X.calm=true) (hN:X.N.Nodup) (hi:X.N[i]?=some x) (hj:X.N[j]?=some y) (hij:i≠j)
  (hx:X.env.scope.names.lookup x=some .local) (hy:X.env.scope.names.lookup y=some .local) (ha:PA X [a,b] ta)
  (hw:swappedStores [.Tuple [.Name x px,.Name y py] kt pt] (.Tuple [a,b] k2 pt2) X.env=pure (some [x,y]))
  (hs:swapsWithSole [.Tuple [.Name x px,.Name y py] kt pt] (.Tuple [a,b] k2 pt2) pos.line X.env=pure false:=by rfl) :
  PS X (.Assign [.Tuple [.Name x px,.Name y py] kt pt] (.Tuple [a,b] k2 pt2) pos) (yOr i j ta):=by
 intro pins s σ H D I h
 rw [exec_Assign_arm]
 refine wpAny_bind (wpAny_standAt ?_)
 rw [hs]
 refine wpAny_bind (wpAny_pure ?_)
 rw [if_neg (by decide)]
 refine wpAny_bind (Tuple_ (thn (ha _ pins s σ H _ I h) fun us s1 ⟨vs,H1,I1,r1,q1⟩=>?_))
 obtain ⟨v,w,e1,q1⟩:=q1
 subst e1
 obtain ⟨u1,u2,rfl,rv,rw'⟩:∃ u1 u2,us=[u1,u2]/\RelV v u1/\RelV w u2:=by
  cases r1 with
  | cons p q =>
   cases q with
   | cons p' q' =>
    cases q'
    exact ⟨_,_,rfl,p,p'⟩
 refine wpAny_newObj_type ?_ (by show 2<=sizeLine;decide)
 have I2:Inv X pins σ H1 { s1 with heap:=s1.heap.push { cls:=.type "tuple",data:=.seq [u1,u2].toArray } }:=I1.kept (t':=s1.toks) fun b o e=>Heap.get?_push_of_some _ e
 rw [hw]
 refine wpAny_bind (wpAny_pure ?_)
 show wpAny (model X.prog X.w) X.A (do rule "assign.swapped-stores";let items <- unpackItems (.ref s1.heap.objs.size) 2 none;assignInOrder [fun v=>bindName X.env y v,fun v=>bindName X.env x v] items.reverse;pure Flow.next) _ _ _
 refine wpAny_bind (wpAny_rule (wpAny_bind (unpackItems_tuple (items:=#[u1,u2]) (I.ok.hd hc) (IsTup.new s1.heap _) fun h' hx'=>?_)))
 have I3:=I2.kept (h':=h') (t':=s1.toks) fun b o e=>hx' b o (Nat.ne_of_lt (Heap.lt_size e)) e
 show wpAny _ _ (assignInOrder [fun v=>bindName X.env y v,fun v=>bindName X.env x v] [u2,u1] >>= fun _=>pure Flow.next) _ _ _
 refine wpAny_bind (assignInOrder_cons (wpAny_bindName (yqw I3 hN hj (.inl hy) rw' (fun s2 I4=>?_) (.inr hy))))
 refine assignInOrder_cons (wpAny_bindName (yqw I4 hN hi (.inl hx) rv (fun s3 I5=>assignInOrder_nil (wpAny_pure ?_)) (.inr hx)))
 rw [List.set_comm _ _ (Ne.symm hij)] at I5
 exact ⟨_,H1,I5,q1⟩
end
section
variable {X:Cx}{pos:Pos}
noncomputable def yFS (c:TT) (tb:TS):TS:=fun D σ H=>∃ W:Nat->St->Hp->Prop,(∃ m,W m σ H)/\∀ m σ H,W m σ H ->
 c σ H fun b H1=>if b=true then ∃ N:St->Hp->Prop,(∀ σ' H',N σ' H'->∃ m',m'<m/\W m' σ' H')/\tb { D with nx:=N,ct:=N,bk:=D.nx } σ H1 else D.nx σ H1
theorem yDV {c:Expr}{body:List Stmt}{tc:TT}{tb:TS}(hp:PassesOwn (model X.prog X.w) X.A X.env X.xe) (hc:PT X c tc) (hb:PSs X body tb):PS X (.While c body [] pos) (yFS tc tb):=by
 intro pins s σ H D I h
 obtain ⟨W,⟨m0,w0⟩,turn⟩:=h
 refine wpAny_While (codeAny_whileLoop (fun n s'=>∃ σ' H',Inv X pins σ' H' s'/\W n σ' H') ?_ m0 ⟨σ,H,I,w0⟩)
 rintro n s1 ⟨σ1,H1,I1,w1⟩
 refine wpAny_passesOwn hp (thn (hc pins s1 σ1 H1 _ I1 (turn n σ1 H1 w1)) fun b s2 ⟨H2,I2,q2⟩=>?_)
 cases b with
 | true =>
  obtain ⟨N,hN,q2⟩:=q2
  rw [if_pos rfl]
  refine wpAny_passesOwn hp (thn (hb pins s2 σ1 H2 _ I2 q2) fun f s3 q3=>?_)
  cases f with
  | next =>
   obtain ⟨σ3,H3,I3,n3⟩:=q3
   obtain ⟨m',hm,w3⟩:=hN σ3 H3 n3
   exact ⟨m',hm,σ3,H3,I3,w3⟩
  | cont =>
   obtain ⟨σ3,H3,I3,n3⟩:=q3
   obtain ⟨m',hm,w3⟩:=hN σ3 H3 n3
   exact ⟨m',hm,σ3,H3,I3,w3⟩
  | brk=>exact q3
  | ret v=>exact q3
 | false =>
  rw [if_neg Bool.false_ne_true]
  exact wpAny_execs_nil ⟨σ1,H2,I2,q2⟩
end
structure It where
 go:Nat->Hp->Prop
 yld:Nat->Hp->V->Hp->Prop
 stop:Nat->Hp->Prop
noncomputable def yzH (X:Cx) (pins:List (Addr×Obj)) (H:Hp) (b:Addr):Prop :=
 H b=none/\b≠X.env.locals/\b∉X.fs/\(b∈X.ex\/X.s₀.heap.objs.size<=b)/\(∀ x c,X.env.cells.lookup x=some c->c≠b)/\∀ p∈X.pn++pins,p.1≠b
theorem Inv.fpOk {X:Cx}{pins:List (Addr×Obj)}{σ:St}{H H':Hp}{s:Shared}{b:Addr}(I:Inv X pins σ H s) (hb:s.heap.objs.size<=b) (hn:H' b=none):yzH X pins H' b:=by
 refine ⟨hn,Nat.ne_of_gt (Nat.lt_of_lt_of_le I.lt hb),I.nofs hb,.inr (Nat.le_trans I.sz hb),fun x c e z=>?_,fun p hp z=>?_⟩
 .obtain ⟨v,q⟩:=I.cell x c e
  exact absurd (Nat.lt_of_lt_of_le q.lt (by rw [z];exact hb)) (Nat.lt_irrefl _)
 .exact absurd (Nat.lt_of_lt_of_le (Heap.lt_size (I.pin p hp).1) (by rw [z];exact hb)) (Nat.lt_irrefl _)
structure Turn (P:Program) (w:World) (K:PySem.W.Frag) (tg:Expr) (J:It) (fp:List Addr) (it:Addr) (tn:Nat->Heap->Prop):Prop where
 mem:it∈fp
 obj:∀ i h,tn i h->∀ b∈fp,∃ o,h.get? b=some o/\∀ v,o.data≠.cell v
 keep:∀ i h h',tn i h->(∀ b∈fp,∀ o,h.get? b=some o->h'.get? b=some o)->tn i h'
 item:∀ (X:Cx),X.prog=P->X.w=w->X.K=K->X.calm=true->∀ (i:Nat) (pins:List (Addr×Obj)) (s:Shared) (σ:St) (H:Hp) (E:Value->Shared->Prop),Inv X pins σ H s->(∀ b∈fp,yzH X pins H b)->tn i s.heap->J.go i H ->
  wpAny (model P w) X.A (pyNext (.ref it)) (fun r s1=>∃ u,r=some u /\
   wpAny (model P w) X.A (letOwnedTupleGo tg (.ref it) u) (fun _ s2=>∃ x H',Inv X pins σ H' s2/\RelV x u/\J.yld i H x H'/\tn (i+1) s2.heap/\∀ b∈fp,H' b=none) E s1) E s
 done:∀ (X:Cx),X.prog=P->X.w=w->X.K=K->X.calm=true->∀ (i:Nat) (pins:List (Addr×Obj)) (s:Shared) (σ:St) (H:Hp) (E:Value->Shared->Prop),Inv X pins σ H s->(∀ b∈fp,yzH X pins H b)->tn i s.heap->J.stop i H ->
  wpAny (model P w) X.A (pyNext (.ref it)) (fun r s1=>r=none/\Inv X pins σ H s1) E s
 self:∀ (A:Around) (i:Nat) (s:Shared) (Q:Value->Shared->Prop) (E:Value->Shared->Prop),tn i s.heap->Q (.ref it) s->wpAny (model P w) A (pyIter (.ref it)) Q E s
abbrev TI:=St->Hp->(It->Hp->Prop)->Prop
noncomputable def PIE (X:Cx) (pins:List (Addr×Obj)) (σ:St) (tg:Expr) (R:It->Hp->Prop) (itv:Value) (s2:Shared):Prop :=
 ∃ (it:Addr) (fp:List Addr) (tn:Nat->Heap->Prop) (J:It) (H':Hp),itv=.ref it/\Inv X pins σ H' s2/\Turn X.prog X.w X.K tg J fp it tn/\tn 0 s2.heap/\(∀ b∈fp,yzH X pins H' b)/\R J H'
noncomputable def PI (X:Cx) (tg iter:Expr) (wi:TI):Prop :=
 ∀ (pins:List (Addr×Obj)) (s:Shared) (σ:St) (H:Hp) (R:It->Hp->Prop),Inv X pins σ H s->wi σ H R ->
  wpAny (model X.prog X.w) X.A (eval iter X.env) (fun v s1=>wpAny (model X.prog X.w) X.A (pyIter v) (PIE X pins σ tg R) X.xe s1) X.xe s
theorem yDW {M:Model}{A:Around}{E:Value->Shared->Prop}{s:Shared}{tg:Expr}{it:Addr}{u:Value}{o:Obj}{n:String}{vs:Array Value}{Q:Unit->Shared->Prop}(ho:s.heap.get? it=some o) (hc:o.cls=.type n) (hd:o.data=.fields vs)
    (hn:["enumerate","zip","dict_itemiterator","dict_reverseitemiterator","odict_iterator","itertools.zip_longest","itertools.pairwise"].contains n=false) (hQ:Q () s):wpAny M A (letOwnedTupleGo tg (.ref it) u) Q E s:=by
  unfold letOwnedTupleGo
  cases tg<;>first
    | exact wpAny_pure hQ
    | (cases u<;>first
        | exact wpAny_pure hQ
        | (refine wpAny_bind (wpAny_load ho ?_)
           rw [hc,hd]
           show wpAny M A (if (["enumerate","zip","dict_itemiterator","dict_reverseitemiterator","odict_iterator","itertools.zip_longest","itertools.pairwise"].contains n && vs[0]? == some (rawInt _))=true then _ else _) Q E s
           rw [if_neg (by intro h;rw [hn,Bool.false_and] at h;cases h)]
           exact wpAny_pure hQ))
noncomputable def Itl (K:PySem.W.Frag) (a:Addr):It :=
 ⟨fun i H=>∃ xs x,SqL K H a xs/\xs[i]?=some x,fun i H x H'=>H'=H/\∀ xs,SqL K H a xs->xs[i]?=some x,fun i H=>∃ xs,SqL K H a xs/\xs.length<=i⟩
noncomputable def Itt (K:PySem.W.Frag) (a:Addr):It :=
 ⟨fun i H=>∃ xs x,SqT K H a xs/\xs[i]?=some x,fun i H x H'=>H'=H/\∀ xs,SqT K H a xs->xs[i]?=some x,fun i H=>∃ xs,SqT K H a xs/\xs.length<=i⟩
def Itr (lo:Int) (n:Nat):It:=⟨fun i _=>i<n,fun i H x H'=>H'=H/\x=.int (lo+i),fun i _=>n<=i⟩
theorem yBn {P:Program}{w:World}{K:PySem.W.Frag}{tg:Expr}(a it:Addr):Turn P w K tg (Itl K a) [it] it (fun i h=>h.IsListIter it a i) where
 mem:=by simp
 obj:=fun i h st b hb=>by
  have e:b=it:=by simpa using hb
  subst e
  obtain ⟨o,e,c,d⟩:=st
  exact ⟨o,e,fun v z=>by rw [d] at z;cases z⟩
 keep:=fun i h h' st k=>st.at fun o e=>k it (by simp) o e
 item:=by
  intro X hP hw hK hc i pins s σ H E I hf st hg
  subst hP hw hK
  obtain ⟨xs,x,hq,hx⟩:=hg
  obtain ⟨its,rv,p,hz⟩:=I.list hq
  obtain ⟨u,hu,ru⟩:=rv.get hx
  obtain ⟨f0,f1,f2,f3,f4,f5⟩:=hf it (by simp)
  refine wpAny_pyNext_list_item st p.isList (x:=u) (by simpa using hu) fun h' st' sb=>?_
  have I1:Inv X pins σ H { s with heap:=h' }:=I.turned (t':=s.toks) (fun b o hb e=>(sb.2 b hb).trans e) f0 f1 f3 f4 f5
  obtain ⟨o,e,c,d⟩:=id st'
  exact ⟨u,rfl,yDW (s:={ s with heap:=h' }) e c d (by decide) ⟨x,H,I1,ru,⟨rfl,fun ys hy=>by rw [I.list_inj hy hq];exact hx⟩,st',fun b hb=>(hf b hb).1⟩⟩
 done:=by
  intro X hP hw hK hc i pins s σ H E I hf st hg
  subst hP hw hK
  obtain ⟨xs,hq,hx⟩:=hg
  obtain ⟨its,rv,p,hz⟩:=I.list hq
  obtain ⟨f0,f1,f2,f3,f4,f5⟩:=hf it (by simp)
  have hl:=rv.length
  exact wpAny_pyNext_list_end (I.ok.hd hc) st p.isList (by simp;omega) fun h' eb=>⟨rfl,I.turned (t':=s.toks) (fun b o hb e=>eb b o hb e) f0 f1 f3 f4 f5⟩
 self:=fun _ _ _ _ _ st h=>wpAny_pyIter_listiter st h
theorem yzI {P:Program}{w:World}{K:PySem.W.Frag}{tg:Expr}(a it:Addr):Turn P w K tg (Itt K a) [it] it (fun i h=>h.IsTupleIter it a i) where
 mem:=by simp
 obj:=fun i h st b hb=>by
  have e:b=it:=by simpa using hb
  subst e
  obtain ⟨o,e,c,d⟩:=st
  exact ⟨o,e,fun v z=>by rw [d] at z;cases z⟩
 keep:=fun i h h' st k=>st.at fun o e=>k it (by simp) o e
 item:=by
  intro X hP hw hK hc i pins s σ H E I hf st hg
  subst hP hw hK
  obtain ⟨xs,x,hq,hx⟩:=hg
  obtain ⟨its,rv,p,hz⟩:=I.tuple hq
  obtain ⟨u,hu,ru⟩:=rv.get hx
  obtain ⟨f0,f1,f2,f3,f4,f5⟩:=hf it (by simp)
  refine wpAny_pyNext_tuple_item st (show s.heap.IsTuple a its.toArray from p) (x:=u) (by simpa using hu) fun h' st' sb=>?_
  have I1:Inv X pins σ H { s with heap:=h' }:=I.turned (t':=s.toks) (fun b o hb e=>(sb.2 b hb).trans e) f0 f1 f3 f4 f5
  obtain ⟨o,e,c,d⟩:=id st'
  exact ⟨u,rfl,yDW (s:={ s with heap:=h' }) e c d (by decide) ⟨x,H,I1,ru,⟨rfl,fun ys hy=>by rw [I.tuple_inj hy hq];exact hx⟩,st',fun b hb=>(hf b hb).1⟩⟩
 done:=by
  intro X hP hw hK hc i pins s σ H E I hf st hg
  subst hP hw hK
  obtain ⟨xs,hq,hx⟩:=hg
  obtain ⟨its,rv,p,hz⟩:=I.tuple hq
  obtain ⟨f0,f1,f2,f3,f4,f5⟩:=hf it (by simp)
  have hl:=rv.length
  exact wpAny_pyNext_tuple_end (I.ok.hd hc) st (show s.heap.IsTuple a its.toArray from p) (by simp;omega) fun h' eb=>⟨rfl,I.turned (t':=s.toks) (fun b o hb e=>eb b o hb e) f0 f1 f3 f4 f5⟩
 self:=fun _ _ _ _ _ st h=>wpAny_pyIter_tupleiter st h
theorem yzJ {P:Program}{w:World}{K:PySem.W.Frag}{tg:Expr}(it:Addr) (lo:Int) (n:Nat):Turn P w K tg (Itr lo n) [it] it (fun i h=>IsRangeIter h it (lo+(i:Nat)*1) ((n:Int)-(i:Nat)) 1) where
 mem:=by simp
 obj:=fun i h st b hb=>by
  have e:b=it:=by simpa using hb
  subst e
  exact ⟨_,st,fun v z=>by
   have z':Data.fields _=Data.cell v:=z
   cases z'⟩
 keep:=fun i h h' st k=>k it (by simp) _ st
 item:=by
  intro X hP hw hK hc i pins s σ H E I hf st hg
  subst hP hw hK
  obtain ⟨f0,f1,f2,f3,f4,f5⟩:=hf it (by simp)
  have W:=Walks.range (prog:=X.prog) (w:=X.w) (I.ok.hd hc) it lo 1 n
  refine W.item i s _ _ hg st fun v h' tk hv st' kk=>?_
  obtain ⟨t,rfl⟩:=hv
  have I1:Inv X pins σ H { s with heap:=h',toks:=tk }:=I.turned (fun b o hb e=>kk b o (by simpa using hb) e) f0 f1 f3 f4 f5
  refine ⟨_,rfl,yDW (s:={ s with heap:=h',toks:=tk }) (n:="range_iterator") st' rfl rfl (by decide) ⟨.int (lo+i),H,I1,⟨t,?_⟩,⟨rfl,rfl⟩,st',fun b hb=>(hf b hb).1⟩⟩
  rw [Int.mul_one]
 done:=by
  intro X hP hw hK hc i pins s σ H E I hf st hg
  subst hP hw hK
  obtain ⟨f0,f1,f2,f3,f4,f5⟩:=hf it (by simp)
  exact wpAny_pyNext_range_end (I.ok.hd hc) st (by have:n<=i:=hg;omega) fun h' eb=>⟨rfl,I.turned (t':=s.toks) (fun b o hb e=>eb b o hb e) f0 f1 f3 f4 f5⟩
 self:=fun _ _ _ _ _ st h=>wpAny_pyIter_rangeiter st h
end L2
namespace L2
open PySem PySem.Spec PyProof.Rows
section
variable {X:Cx}{tg:Expr}
def yJD (K:PySem.W.Frag) (tl:TE):TI:=fun σ H R=>tl σ H fun x H1=>∃ a,x=.ref a/\(∃ xs,SqL K H1 a xs)/\R (Itl K a) H1
def yOs (K:PySem.W.Frag) (tl:TE):TI:=fun σ H R=>tl σ H fun x H1=>∃ a,x=.ref a/\(∃ xs,SqT K H1 a xs)/\R (Itt K a) H1
theorem yGU {l:Expr}{tl:TE}(hl:PE X l tl):PI X tg l (yJD X.K tl):=by
 intro pins s σ H R I h
 refine thn (hl pins s σ H _ I h) fun v s1 ⟨x,H1,I1,r1,q1⟩=>?_
 obtain ⟨a,e,⟨xs,hq⟩,q⟩:=q1
 subst e
 cases r1
 obtain ⟨its,rv,p,hz⟩:=I1.list hq
 refine wpAny_pyIter_list p.isList ?_
 refine ⟨s1.heap.objs.size,[s1.heap.objs.size],_,_,H1,rfl,I1.kept (t':=s1.toks) fun b o e=>Heap.get?_push_of_some _ e,yBn a _,⟨_,Heap.get?_push_size _ rfl,rfl,rfl⟩,fun b hb=>?_,q⟩
 have e:b=s1.heap.objs.size:=by simpa using hb
 subst e
 exact I1.fpOk (Nat.le_refl _) (I1.hok.fresh (Nat.le_refl _))
theorem yJE {l:Expr}{tl:TE}(hl:PE X l tl):PI X tg l (yOs X.K tl):=by
 intro pins s σ H R I h
 refine thn (hl pins s σ H _ I h) fun v s1 ⟨x,H1,I1,r1,q1⟩=>?_
 obtain ⟨a,e,⟨xs,hq⟩,q⟩:=q1
 subst e
 cases r1
 obtain ⟨its,rv,p,hz⟩:=I1.tuple hq
 refine wpAny_pyIter_tuple (show s1.heap.IsTuple a its.toArray from p) ?_
 refine ⟨s1.heap.objs.size,[s1.heap.objs.size],_,_,H1,rfl,I1.kept (t':=s1.toks) fun b o e=>Heap.get?_push_of_some _ e,yzI a _,⟨_,Heap.get?_push_size _ rfl,rfl,rfl⟩,fun b hb=>?_,q⟩
 have e:b=s1.heap.objs.size:=by simpa using hb
 subst e
 exact I1.fpOk (Nat.le_refl _) (I1.hok.fresh (Nat.le_refl _))
theorem yDX {pins:List (Addr×Obj)}{σ:St}{H:Hp}{s:Shared}{R:It->Hp->Prop}{E:Value->Shared->Prop}{lo hi:Int}{t u v:Tok}{tk:Nat}(I:Inv X pins σ H s) (h1:-(2 ^ 62)<=lo) (h2:lo<2 ^ 62) (h3:-(2 ^ 62)<=hi) (h4:hi<2 ^ 62)
  (q:R (Itr lo (hi-lo).toNat) H):wpAny (model X.prog X.w) X.A (pyIter (.ref s.heap.objs.size)) (PIE X pins σ tg R) E { s with heap:=s.heap.push { cls:=.type "range",data:=.fields #[.int lo t,.int hi u,.int 1 v] },toks:=tk }:=by
 refine wpAny_pyIter_range (IsRange.new ..) (small_one h1 h2 h3 h4) ?_
 have I1:Inv X pins σ H { s with heap:=s.heap.push { cls:=.type "range",data:=.fields #[.int lo t,.int hi u,.int 1 v] },toks:=tk }:=I.kept fun b o e=>Heap.get?_push_of_some _ e
 refine ⟨(s.heap.push { cls:=.type "range",data:=.fields #[.int lo t,.int hi u,.int 1 v] }).objs.size,[(s.heap.push { cls:=.type "range",data:=.fields #[.int lo t,.int hi u,.int 1 v] }).objs.size],_,_,H,rfl,
  I1.kept (t':=tk) fun b o e=>Heap.get?_push_of_some _ e,yzJ _ lo (hi-lo).toNat,?_,fun b hb=>?_,q⟩
 .have e1:lo+((0:Nat):Int)*1=lo:=by simp
  have e2:(((hi-lo).toNat:Nat):Int)-((0:Nat):Int)=Builtin.Range.rangeSize lo hi 1:=by rw [rangeSize_one];split<;>omega
  show IsRangeIter _ _ (lo+((0:Nat):Int)*1) ((((hi-lo).toNat:Nat):Int)-((0:Nat):Int)) 1
  rw [e1,e2]
  exact Heap.get?_push_size _ rfl
 .have e:b=(s.heap.push { cls:=.type "range",data:=.fields #[.int lo t,.int hi u,.int 1 v] }).objs.size:=by simpa using hb
  subst e
  exact I1.fpOk (Nat.le_refl _) (I1.hok.fresh (Nat.le_refl _))
def yJF (ta:TA):TI:=fun σ H R=>ta σ H fun vs H1=>∃ j:Int,vs=[.int j]/\-(2 ^ 62)<=j/\j<2 ^ 62/\R (Itr 0 j.toNat) H1
theorem yBo {a:Expr}{ta:TA}{p pos:Pos}(hg:Gl X "range") (hm:X.mg "range" = none) (ha:PA X [a] ta) (hs:starEach [a] X.env=[(false,eval a X.env)]:=by rfl):PI X tg (.Call (.Name "range" p) [a] [] pos) (yJF ta):=by
 intro pins s σ H R I h
 refine Call_ (yuY I hg hm boot_range (PyProof.Rows.callWith_type1 (thn (ha pos pins s σ H _ I h) fun us s1 ⟨vs,H1,I1,r1,q1⟩=>?_) hs rfl))
 obtain ⟨j,e,q1,q2,q⟩:=q1
 subst e
 cases r1 with
 | cons r rr =>
  cases rr
  obtain ⟨t,rfl⟩:=r
  exact call_range_1 (yDX I1 (by omega) (by omega) q1 q2 (by simpa using q))
noncomputable def yMn (wi:TI) (g:TG) (tb:TS):TS:=fun D σ H=>wi σ H fun J H1=>∃ W:Nat->Nat->St->Hp->Prop,(∃ m,W 0 m σ H1)/\∀ i m σ H,W i m σ H ->
 (J.stop i H/\D.nx σ H)\/(J.go i H/\∃ N:St->Hp->Prop,(∀ σ' H',N σ' H'->∃ m',m'<m/\W (i+1) m' σ' H')/\∀ x H',J.yld i H x H'->g x σ H' fun σ2 H2=>tb { D with nx:=N,ct:=N,bk:=D.nx } σ2 H2)
def yyO (fp:List Addr) (h:Heap):List (Addr×Obj):=fp.filterMap fun b=>(h.get? b).map fun o=>(b,o)
theorem ygM {fp:List Addr}{h:Heap}{b:Addr}{o:Obj}(hb:b∈fp) (e:h.get? b=some o):(b,o)∈yyO fp h:=List.mem_filterMap.mpr ⟨b,hb,by rw [e];rfl⟩
theorem yBp {fp:List Addr}{h:Heap}{p:Addr×Obj}(hp:p∈yyO fp h):p.1∈fp/\h.get? p.1=some p.2:=by
 obtain ⟨b,hb,e⟩:=List.mem_filterMap.mp hp
 cases q:h.get? b with
 | none=>rw [q] at e;cases e
 | some o =>
  rw [q] at e
  have e':(b,o)=p:=Option.some.inj e
  subst e'
  exact ⟨hb,q⟩
theorem Inv.pinned {pins:List (Addr×Obj)}{σ:St}{H:Hp}{s:Shared}{fp:List Addr}(I:Inv X pins σ H s) (hf:∀ b∈fp,yzH X pins H b) (ho:∀ b∈fp,∃ o,s.heap.get? b=some o/\∀ v,o.data≠.cell v):Inv X (pins++yyO fp s.heap) σ H s :=
 I.pins_of fun p hp=>(List.mem_append.mp hp).elim (fun z=>I.pin p (List.mem_append_right _ z)) fun z=>by
  obtain ⟨hb,e⟩:=yBp z
  obtain ⟨f0,f1,f2,_⟩:=hf p.1 hb
  obtain ⟨o,e',d⟩:=ho p.1 hb
  rw [e] at e';cases e'
  exact ⟨e,f0,f1,f2,d⟩
theorem Inv.unpinned {pins pl:List (Addr×Obj)}{σ:St}{H:Hp}{s:Shared}(I:Inv X (pins++pl) σ H s):Inv X pins σ H s:=I.pins_of fun p hp=>I.pin p (List.mem_append_right _ (List.mem_append_left _ hp))
theorem yFT {iter:Expr}{body:List Stmt}{wi:TI}{g:TG}{tb:TS}{pos:Pos}(hp:PassesOwn (model X.prog X.w) X.A X.env X.xe) (hc:X.calm=true) (hi:PI X tg iter wi) (hg:PG X tg g) (hb:PSs X body tb)
  (hs:∀ x,foldedSetIterable iter X.env x=pure x:=by intro _;rfl):PS X (.For tg iter body [] pos) (yMn wi g tb):=by
 intro pins s σ H D I h
 refine wpAny_For (thn (hi pins s σ H _ I h) fun v s1 h1=>thn h1 fun itv s2 h2=>?_) hs
 obtain ⟨it,fp,tn,J,H2,e,I2,T,st2,f2,W,⟨m0,w0⟩,turn⟩:=h2
 subst e
 have stat:∀ {H':Hp},(∀ b∈fp,H' b=none)->∀ b∈fp,yzH X pins H' b:=fun hn b hb=>⟨hn b hb,(f2 b hb).2⟩
 refine codeAny_forLoop_any (fun n s'=>∃ i σ' H',Inv X pins σ' H' s'/\tn i s'.heap/\(∀ b∈fp,H' b=none)/\W i n σ' H') ?_ m0 ⟨0,σ,H2,I2,st2,fun b hb=>(f2 b hb).1,w0⟩
 rintro n s3 ⟨i,σ3,H3,I3,st3,fr3,w3⟩
 rcases turn i n σ3 H3 w3 with ⟨stop,qn⟩|⟨go,N,hN,step⟩
 .refine wpAny_passesOwn hp (thn (T.done X rfl rfl rfl hc i pins s3 σ3 H3 X.xe I3 (stat fr3) st3 stop) fun r s4 ⟨hr,I4⟩=>?_)
  subst hr
  exact wpAny_execs_nil ⟨σ3,H3,I4,qn⟩
 .refine wpAny_passesOwn hp (thn (T.item X rfl rfl rfl hc i pins s3 σ3 H3 X.xe I3 (stat fr3) st3 go) fun r s4 ⟨u,hr,h4⟩=>?_)
  subst hr
  refine wpAny_passesOwn hp (thn h4 fun _ s5 ⟨x,H5,I5,r5,y5,st5,fr5⟩=>?_)
  have I5':=I5.pinned (stat fr5) (T.obj _ _ st5)
  refine wpAny_passesOwn hp (thn (hg _ s5 σ3 H5 x u _ I5' r5 (step x H5 y5)) fun _ s6 ⟨σ6,H6,I6,q6⟩=>?_)
  refine wpAny_passesOwn hp (thn (hb _ s6 σ6 H6 _ I6 q6) fun f s7 q7=>?_)
  have again:∀ {σ7:St}{H7:Hp},Inv X (pins++yyO fp s5.heap) σ7 H7 s7->N σ7 H7->∃ m,m<n/\∃ i σ' H',Inv X pins σ' H' s7/\tn i s7.heap/\(∀ b∈fp,H' b=none)/\W i m σ' H':=fun {σ7 H7} I7 n7=>by
   obtain ⟨m',hm,w7⟩:=hN σ7 H7 n7
   refine ⟨m',hm,i+1,σ7,H7,I7.unpinned,T.keep _ _ _ st5 fun b hb o e=>(I7.pin (b,o) (List.mem_append_right _ (List.mem_append_right _ (ygM hb e)))).1,fun b hb=>?_,w7⟩
   obtain ⟨o,e,d⟩:=T.obj _ _ st5 b hb
   exact (I7.pin (b,o) (List.mem_append_right _ (List.mem_append_right _ (ygM hb e)))).2.1
  cases f with
  | next=>obtain ⟨σ7,H7,I7,n7⟩:=q7;exact again I7 n7
  | cont=>obtain ⟨σ7,H7,I7,n7⟩:=q7;exact again I7 n7
  | brk=>obtain ⟨σ7,H7,I7,q7⟩:=q7;exact ⟨σ7,H7,I7.unpinned,q7⟩
  | ret v=>obtain ⟨x7,σ7,H7,I7,r7,q7⟩:=q7;exact ⟨x7,σ7,H7,I7.unpinned,r7,q7⟩
end
end L2
namespace L2
open PySem PySem.Spec PyProof.Rows
abbrev R2:=V->V->Hp->VK->Prop
noncomputable def OpR (X:Cx) (f:Value->Value->Sem Value) (r:R2):Prop :=
 ∀ (pins:List (Addr×Obj)) (s:Shared) (σ:St) (H:Hp) (x y:V) (v u:Value) (Q:VK),Inv X pins σ H s->RelV x v->RelV y u->r x y H Q ->
  wpAny (model X.prog X.w) X.A (f v u) (EP X pins σ Q) X.xe s
noncomputable def UnR (X:Cx) (f:Value->Sem Value) (r:V->Hp->VK->Prop):Prop :=
 ∀ (pins:List (Addr×Obj)) (s:Shared) (σ:St) (H:Hp) (x:V) (v:Value) (Q:VK),Inv X pins σ H s->RelV x v->r x H Q ->
  wpAny (model X.prog X.w) X.A (f v) (EP X pins σ Q) X.xe s
noncomputable def CallR (X:Cx) (f:Value) (r:List V->Hp->VK->Prop):Prop :=
 ∀ (pins:List (Addr×Obj)) (s:Shared) (σ:St) (H:Hp) (xs:List V) (us:List Value) (Q:VK),Inv X pins σ H s->Vals xs us->r xs H Q ->
  wpAny (model X.prog X.w) X.A (call f us) (EP X pins σ Q) X.xe s
def tOp (r:R2) (ta tb:TE):TE:=fun σ H Q=>ta σ H fun x H1=>tb σ H1 fun y H2=>r x y H2 Q
def tUn (r:V->Hp->VK->Prop) (ta:TE):TE:=fun σ H Q=>ta σ H fun x H1=>r x H1 Q
def rI (C:Int->Int->Prop) (g:Int->Int->V):R2:=fun x y H Q=>∃ i j,x=.int i/\y=.int j/\C i j/\Q (g i j) H
def rI0 (g:Int->Int->V):R2:=fun x y H Q=>∃ i j,x=.int i/\y=.int j/\Q (g i j) H
def rU (g:Int->V):V->Hp->VK->Prop:=fun x H Q=>∃ i,x=.int i/\Q (g i) H
section
variable {X:Cx}{a b c:Expr}{ta tb tc:TE}{pos:Pos}
theorem yMo (ha:PE X a ta) (hb:PE X b tb) {pins:List (Addr×Obj)}{s:Shared}{σ:St}{H:Hp}{R:V->V->Hp->Prop}(I:Inv X pins σ H s)
  (h:ta σ H fun x H1=>tb σ H1 fun y H2=>R x y H2) {Q:Value->Shared->Prop}{f:Value->Value->Sem Value}
  (hf:∀ v u s2 x y H2,Inv X pins σ H2 s2->RelV x v->RelV y u->R x y H2->wpAny (model X.prog X.w) X.A (f v u) Q X.xe s2) :
  wpAny (model X.prog X.w) X.A (eval a X.env) (fun v s₁=>wpAny (model X.prog X.w) X.A (eval b X.env) (fun u s₂=>wpAny (model X.prog X.w) X.A (f v u) Q X.xe s₂) X.xe s₁) X.xe s:=by
 refine thn (ha pins s σ H _ I h) fun v s1 ⟨x,H1,I1,r1,q1⟩=>?_
 refine thn (hb pins s1 σ H1 _ I1 q1) fun u s2 ⟨y,H2,I2,r2,q2⟩=>?_
 exact hf v u s2 x y H2 I2 r1 r2 q2
theorem yJG {op:Operator}{r:R2}(ho:OpR X (binaryOp op) r) (ha:PE X a ta) (hb:PE X b tb):PE X (.BinOp a op b pos) (tOp r ta tb):=by
 intro pins s σ H Q I h
 exact wpAny_BinOp (yMo ha hb I h fun v u s2 x y H2 I2 rx ry q=>ho pins s2 σ H2 x y v u Q I2 rx ry q)
theorem yMp {op:UnaryOp}{r:V->Hp->VK->Prop}(ho:UnR X (unaryOp op) r) (ha:PE X a ta):PE X (.UnaryOp op a pos) (tUn r ta):=by
 intro pins s σ H Q I h
 exact UnaryOp_ (thn (ha pins s σ H _ I h) fun v s1 ⟨x,H1,I1,r1,q1⟩=>ho pins s1 σ H1 x v Q I1 r1 q1)
theorem opI {f:Value->Value->Sem Value}{C:Int->Int->Prop}{g:Int->Int->Int}
  (rule:∀ (i j:Int) (t u:Tok) (s:Shared) (Q:Value->Shared->Prop) (E:Value->Shared->Prop),C i j->Q (.int (g i j) s.toks) { s with toks:=s.toks+1 }->wpAny (model X.prog X.w) X.A (f (.int i t) (.int j u)) Q E s) :
  OpR X f (rI C fun i j=>.int (g i j)):=by
 intro pins s σ H x y v u Q I rx ry h
 obtain ⟨i,j,rfl,rfl,hc,q⟩:=h
 obtain ⟨t,rfl⟩:=rx
 obtain ⟨t',rfl⟩:=ry
 exact rule i j t t' s _ _ hc ⟨.int (g i j),H,I.tok _,⟨_,rfl⟩,q⟩
theorem yOt {f:Value->Value->Sem Value}{g:Int->Int->Int}
  (rule:∀ (i j:Int) (t u:Tok) (s:Shared) (Q:Value->Shared->Prop) (E:Value->Shared->Prop),Q (.int (g i j) s.toks) { s with toks:=s.toks+1 }->wpAny (model X.prog X.w) X.A (f (.int i t) (.int j u)) Q E s) :
  OpR X f (rI0 fun i j=>.int (g i j)):=by
 intro pins s σ H x y v u Q I rx ry h
 obtain ⟨i,j,rfl,rfl,q⟩:=h
 obtain ⟨t,rfl⟩:=rx
 obtain ⟨t',rfl⟩:=ry
 exact rule i j t t' s _ _ ⟨.int (g i j),H,I.tok _,⟨_,rfl⟩,q⟩
theorem yMq {f:Value->Value->Sem Value}{g:Int->Int->Bool}
  (rule:∀ (i j:Int) (t u:Tok) (s:Shared) (Q:Value->Shared->Prop) (E:Value->Shared->Prop),Q (.bool (g i j)) s->wpAny (model X.prog X.w) X.A (f (.int i t) (.int j u)) Q E s) :
  OpR X f (rI0 fun i j=>.bl (g i j)):=by
 intro pins s σ H x y v u Q I rx ry h
 obtain ⟨i,j,rfl,rfl,q⟩:=h
 obtain ⟨t,rfl⟩:=rx
 obtain ⟨t',rfl⟩:=ry
 exact rule i j t t' s _ _ ⟨.bl (g i j),H,I,rfl,q⟩
def yOu (i j:Int):Prop:=0<j/\j<1073741824
def yMr (i j:Int):Prop:=0<=j/\j<=1000000/\i.natAbs<2 ^ 64
def CMul (i j:Int):Prop:=(-(2 ^ 64)<i/\i<2 ^ 64)\/(-(2 ^ 64)<j/\j<2 ^ 64)
theorem CMul.ok {i j:Int}(h:CMul i j):IntMulOk i j:=by
 rcases h with ⟨h1,h2⟩|⟨h1,h2⟩
 .exact .of_left (intBits_le_64 h1 h2)
 .exact .of_right (intBits_le_64 h1 h2)
theorem yfE:OpR X (binaryOp .Add) (rI0 fun i j=>.int (i+j)):=yOt fun _ _ _ _ _ _ _ q=>add_int q
theorem yyP:OpR X (binaryOp .Sub) (rI0 fun i j=>.int (i-j)):=yOt fun _ _ _ _ _ _ _ q=>sub_int q
theorem yuZ:OpR X (binaryOp .Mult) (rI CMul fun i j=>.int (i*j)):=opI fun _ _ _ _ _ _ _ hc q=>mul_int q hc.ok
theorem ycR:OpR X (binaryOp .FloorDiv) (rI yOu fun i j=>.int (i/j)):=opI fun i j _ _ _ _ _ hc q=>by
 have h1:(0:Int)<j:=hc.1
 have h2:j<1073741824:=hc.2
 exact floordiv_int (by omega) (by rw [Int.fdiv_eq_ediv_of_nonneg i (by omega)];exact q) (.inl (PyProof.noPylong_small (by omega)))
theorem yeL:OpR X (binaryOp .Mod) (rI (fun _ j=>0<j) fun i j=>.int (i%j)):=opI fun i j _ _ _ _ _ hc q=>by
 have h1:(0:Int)<j:=hc
 exact mod_int' (by omega) (by rw [Int.fmod_eq_emod_of_nonneg i (by omega)];exact q)
theorem yBq:OpR X (binaryOp .Pow) (rI yMr fun i j=>.int (i ^ j.toNat)):=opI fun _ _ _ _ _ _ _ hc q=>pow_int_small hc.1 hc.2.1 hc.2.2 q
theorem unI {f:Value->Sem Value}{g:Int->Int}
  (rule:∀ (i:Int) (t:Tok) (s:Shared) (Q:Value->Shared->Prop) (E:Value->Shared->Prop),Q (.int (g i) s.toks) { s with toks:=s.toks+1 }->wpAny (model X.prog X.w) X.A (f (.int i t)) Q E s) :
  UnR X f (rU fun i=>.int (g i)):=by
 intro pins s σ H x v Q I rx h
 obtain ⟨i,rfl,q⟩:=h
 obtain ⟨t,rfl⟩:=rx
 exact rule i t s _ _ ⟨.int (g i),H,I.tok _,⟨_,rfl⟩,q⟩
theorem yJH:UnR X (unaryOp .USub) (rU fun i=>.int (-i)):=unI fun _ _ _ _ _ q=>neg_int q
end
noncomputable def yFU:V->V->Bool
 | .non,.non=>true|.non,.int _=>true|.int _,.non=>true|.non,.bl _=>true|.bl _,.non=>true|.non,.str _=>true|.str _,.non=>true
 | .int _,.int _=>true|.bl _,.bl _=>true|.str _,.str _=>true|.byt _,.byt _=>true
 | .int _,.str _=>true|.str _,.int _=>true|.bl _,.str _=>true|.str _,.bl _=>true
 | _,_=>false
def rEq:R2:=fun x y H Q=>yFU x y=true/\Q (.bl (decide (x=y))) H
def rNe:R2:=fun x y H Q=>yFU x y=true/\Q (.bl (!decide (x=y))) H
theorem yBr {i j:Int}:decide (V.int i=V.int j)=(i == j):=by
 rw [Bool.eq_iff_iff]
 simp
theorem yFV {i j:Bool}:decide (V.bl i=V.bl j)=(i == j):=by
 rw [Bool.eq_iff_iff]
 simp
theorem yBs {i j:Str}:decide (V.str i=V.str j)=(i == j):=by
 rw [Bool.eq_iff_iff]
 simp
theorem yBt {i j:Array UInt8}:decide (V.byt i=V.byt j)=(i.toList == j.toList):=by
 rw [Bool.eq_iff_iff]
 cases i
 cases j
 simp
section
variable {X:Cx}{a b c:Expr}{ta tb tc:TE}{pos:Pos}
theorem ycn {pins:List (Addr×Obj)}{σ:St}{H:Hp}{s:Shared}{Q:VK}{k k':Bool}(I:Inv X pins σ H s) (q:Q (.bl k) H) (e:k=k'):EP X pins σ Q (.bool k') s:=by
 subst e
 exact ⟨.bl k,H,I,rfl,q⟩
theorem ycS:OpR X (compareOp .Eq) rEq:=by
 intro pins s σ H x y v u Q I rx ry h
 obtain ⟨hs,q⟩:=h
 cases x with
 | non =>
  cases rx
  cases y with
  | non=>cases ry;exact PySem.EqNone.eq_none_none (ycn I q (by simp))
  | bl j=>cases ry;exact PySem.EqNone.eq_none_bool (ycn I q (by simp))
  | int j=>obtain ⟨t',rfl⟩:=ry;exact PySem.EqNone.eq_none_int (ycn I q (by simp))
  | str j=>obtain ⟨t',rfl⟩:=ry;exact PySem.EqNone.eq_none_str (ycn I q (by simp))
  | _=>exact absurd (show false=true from hs) Bool.false_ne_true
 | bl i =>
  cases rx
  cases y with
  | non=>cases ry;exact PySem.EqNone.eq_bool_none (ycn I q (by simp))
  | bl j=>cases ry;exact eq_bool (ycn I q yFV)
  | str j=>obtain ⟨t',rfl⟩:=ry;exact PySem.EqMixed.eq_bool_str (ycn I q (by simp))
  | _=>exact absurd (show false=true from hs) Bool.false_ne_true
 | int i =>
  obtain ⟨t,rfl⟩:=rx
  cases y with
  | non=>cases ry;exact PySem.EqNone.eq_int_none (ycn I q (by simp))
  | int j=>obtain ⟨t',rfl⟩:=ry;exact eq_int (ycn I q yBr)
  | str j=>obtain ⟨t',rfl⟩:=ry;exact PySem.EqMixed.eq_int_str (ycn I q (by simp))
  | _=>exact absurd (show false=true from hs) Bool.false_ne_true
 | str i =>
  obtain ⟨t,rfl⟩:=rx
  cases y with
  | non=>cases ry;exact PySem.EqNone.eq_str_none (ycn I q (by simp))
  | bl j=>cases ry;exact PySem.EqMixed.eq_str_bool (ycn I q (by simp))
  | int j=>obtain ⟨t',rfl⟩:=ry;exact PySem.EqMixed.eq_str_int (ycn I q (by simp))
  | str j=>obtain ⟨t',rfl⟩:=ry;exact eq_str (ycn I q yBs)
  | _=>exact absurd (show false=true from hs) Bool.false_ne_true
 | byt i =>
  obtain ⟨t,rfl⟩:=rx
  cases y with
  | byt j=>obtain ⟨t',rfl⟩:=ry;exact PySem.W.eq_bytes (ycn I q yBt)
  | _=>exact absurd (show false=true from hs) Bool.false_ne_true
 | _=>cases y<;>exact absurd (show false=true from hs) Bool.false_ne_true
theorem ytu:OpR X (compareOp .NotEq) rNe:=by
 intro pins s σ H x y v u Q I rx ry h
 obtain ⟨hs,q⟩:=h
 cases x with
 | non =>
  cases rx
  cases y with
  | non=>cases ry;exact PySem.EqNone.ne_none_none (ycn I q (by simp))
  | bl j=>cases ry;exact PySem.EqNone.ne_none_bool (ycn I q (by simp))
  | int j=>obtain ⟨t',rfl⟩:=ry;exact PySem.EqNone.ne_none_int (ycn I q (by simp))
  | str j=>obtain ⟨t',rfl⟩:=ry;exact PySem.EqNone.ne_none_str (ycn I q (by simp))
  | _=>exact absurd (show false=true from hs) Bool.false_ne_true
 | bl i =>
  cases rx
  cases y with
  | non=>cases ry;exact PySem.EqNone.ne_bool_none (ycn I q (by simp))
  | bl j=>cases ry;exact ne_bool (ycn I q (congrArg not yFV))
  | str j=>obtain ⟨t',rfl⟩:=ry;exact PySem.EqMixed.ne_bool_str (ycn I q (by simp))
  | _=>exact absurd (show false=true from hs) Bool.false_ne_true
 | int i =>
  obtain ⟨t,rfl⟩:=rx
  cases y with
  | non=>cases ry;exact PySem.EqNone.ne_int_none (ycn I q (by simp))
  | int j=>obtain ⟨t',rfl⟩:=ry;exact ne_int (ycn I q (congrArg not yBr))
  | str j=>obtain ⟨t',rfl⟩:=ry;exact PySem.EqMixed.ne_int_str (ycn I q (by simp))
  | _=>exact absurd (show false=true from hs) Bool.false_ne_true
 | str i =>
  obtain ⟨t,rfl⟩:=rx
  cases y with
  | non=>cases ry;exact PySem.EqNone.ne_str_none (ycn I q (by simp))
  | bl j=>cases ry;exact PySem.EqMixed.ne_str_bool (ycn I q (by simp))
  | int j=>obtain ⟨t',rfl⟩:=ry;exact PySem.EqMixed.ne_str_int (ycn I q (by simp))
  | str j=>obtain ⟨t',rfl⟩:=ry;exact ne_str (ycn I q (congrArg not yBs))
  | _=>exact absurd (show false=true from hs) Bool.false_ne_true
 | byt i =>
  obtain ⟨t,rfl⟩:=rx
  cases y with
  | byt j=>obtain ⟨t',rfl⟩:=ry;exact PySem.W.ne_bytes (ycn I q (congrArg not yBt))
  | _=>exact absurd (show false=true from hs) Bool.false_ne_true
 | _=>cases y<;>exact absurd (show false=true from hs) Bool.false_ne_true
theorem yzK:OpR X (compareOp .Lt) (rI0 fun i j=>.bl (decide (i<j))):=yMq fun _ _ _ _ _ _ _ q=>lt_int q
theorem yzL:OpR X (compareOp .LtE) (rI0 fun i j=>.bl (decide (i<=j))):=yMq fun _ _ _ _ _ _ _ q=>le_int q
theorem yBu:OpR X (compareOp .Gt) (rI0 fun i j=>.bl (decide (j<i))):=yMq fun _ _ _ _ _ _ _ q=>gt_int q
theorem yBv:OpR X (compareOp .In) (fun x y H Q=>∃ i j,x=.str i/\y=.str j/\Q (.bl (!(Builtin.Str.occurrences j i 0 j.length 1).isEmpty)) H):=by
 intro pins s σ H x y v u Q I rx ry h
 obtain ⟨i,j,rfl,rfl,q⟩:=h
 obtain ⟨t,rfl⟩:=rx
 obtain ⟨t',rfl⟩:=ry
 exact in_str (ycn I q rfl)
theorem yBw:OpR X (compareOp .Is) (fun x y H Q=>y=.non/\Q (.bl (decide (x=.non))) H):=by
 intro pins s σ H x y v u Q I rx ry h
 obtain ⟨rfl,q⟩:=h
 cases ry
 refine is_none_gen (ycn I q ?_)
 cases x<;>first
  | (cases rx;rfl)
  | (obtain ⟨t,rfl⟩:=rx;rfl)
theorem yGV:OpR X (compareOp .IsNot) (fun x y H Q=>y=.non/\Q (.bl (!decide (x=.non))) H):=by
 intro pins s σ H x y v u Q I rx ry h
 obtain ⟨rfl,q⟩:=h
 cases ry
 refine isnot_none_gen (ycn I q ?_)
 cases x<;>first
  | (cases rx;rfl)
  | (obtain ⟨t,rfl⟩:=rx;rfl)
theorem yx (b:Expr) {op:CmpOp}(h:op≠.In:=by decide) (h2:op≠.NotIn:=by decide):behindInMarks op b=false:=by
 have e1:(op == CmpOp.In)=false:=by cases op<;>first|rfl|exact absurd rfl h
 have e2:(op == CmpOp.NotIn)=false:=by cases op<;>first|rfl|exact absurd rfl h2
 cases b<;>simp [behindInMarks,e1,e2]
theorem yGW {op:CmpOp}{r:R2}(ho:OpR X (compareOp op) r) (ha:PE X a ta) (hb:PE X b tb) (hm:behindInMarks op b=false):PE X (.Compare a [op] [b] pos) (tOp r ta tb):=by
 intro pins s σ H Q I h
 exact wpAny_Compare1 (yMo ha hb I h fun v u s2 x y H2 I2 rx ry q=>ho pins s2 σ H2 x y v u Q I2 rx ry q) hm
def yGX (t:TE):TT:=fun σ H Q=>t σ H fun x H'=>∃ k,x=.bl k/\Q k H'
theorem yGY {op:CmpOp}{r:R2}(ho:OpR X (compareOp op) r) (ha:PE X a ta) (hb:PE X b tb) (hm:behindInMarks op b=false):PT X (.Compare a [op] [b] pos) (yGX (tOp r ta tb)):=by
 intro pins s σ H Q I h
 refine wpAny_isTrue_Compare1 (thn (ha pins s σ H _ I h) fun v s1 ⟨x,H1,I1,r1,q1⟩=>thn (hb pins s1 σ H1 _ I1 q1) fun u s2 ⟨y,H2,I2,r2,q2⟩ =>
  thn (ho pins s2 σ H2 x y v u _ I2 r1 r2 q2) fun c s3 ⟨z,H3,I3,r3,k,e,q3⟩=>?_) hm
 subst e
 cases r3
 exact wpAny_truthy_bool ⟨H3,I3,q3⟩
noncomputable def yBx (r r':R2) (ta tb tc:TE):TE:=fun σ H Q=>ta σ H fun x H1=>tb σ H1 fun y H2=>r x y H2 fun z H3=>∃ k,z=.bl k /\
 (if k=true then tc σ H3 fun w' H4=>r' y w' H4 Q else Q (.bl false) H3)
theorem yDY {op op':CmpOp}{r r':R2}(ho:OpR X (compareOp op) r) (ho':OpR X (compareOp op') r') (ha:PE X a ta) (hb:PE X b tb) (hc:PE X c tc)
  (hm:lastMarks [op,op'] [b,c]=false:=by with_unfolding_all rfl):PE X (.Compare a [op,op'] [b,c] pos) (yBx r r' ta tb tc):=by
 intro pins s σ H Q I h
 refine Compare_chain (thn (ha pins s σ H _ I h) fun v s1 ⟨x,H1,I1,r1,q1⟩=>chain_link (thn (hb pins s1 σ H1 _ I1 q1) fun u s2 ⟨y,H2,I2,r2,q2⟩ =>
  thn (ho pins s2 σ H2 x y v u _ I2 r1 r2 q2) fun d s3 ⟨z,H3,I3,r3,k,e,q3⟩=>?_)) hm
 subst e
 cases r3
 refine wpAny_truthy_bool ?_
 cases k with
 | false=>exact ite_ff ⟨.bl false,H3,I3,rfl,q3⟩
 | true=>exact ite_tt (chain_last (thn (hc pins s3 σ H3 _ I3 q3) fun w' s4 ⟨z',H4,I4,r4,q4⟩=>ho' pins s4 σ H4 y z' u w' Q I4 r2 r4 q4))
theorem yDZ {op op':CmpOp}{r r':R2}(ho:OpR X (compareOp op) r) (ho':OpR X (compareOp op') r') (ha:PE X a ta) (hb:PE X b tb) (hc:PE X c tc)
  (hm:lastMarks [op,op'] [b,c]=false:=by with_unfolding_all rfl):PT X (.Compare a [op,op'] [b,c] pos) (yGX (yBx r r' ta tb tc)):=by
 intro pins s σ H Q I h
 refine isTrue_chain (thn (ha pins s σ H _ I h) fun v s1 ⟨x,H1,I1,r1,q1⟩=>test_link (thn (hb pins s1 σ H1 _ I1 q1) fun u s2 ⟨y,H2,I2,r2,q2⟩ =>
  thn (ho pins s2 σ H2 x y v u _ I2 r1 r2 q2) fun d s3 ⟨z,H3,I3,r3,k,e,q3⟩=>?_)) hm
 subst e
 cases r3
 refine wpAny_truthy_bool ?_
 cases k with
 | false =>
  obtain ⟨k',e',q'⟩:=q3
  cases e'
  exact ite_ff ⟨H3,I3,q'⟩
 | true =>
  refine ite_tt (test_last (thn (hc pins s3 σ H3 _ I3 q3) fun w' s4 ⟨z',H4,I4,r4,q4⟩=>thn (ho' pins s4 σ H4 y z' u w' _ I4 r2 r4 q4) fun d' s5 ⟨z2,H5,I5,r5,k2,e2,q5⟩=>?_))
  subst e2
  cases r5
  exact wpAny_truthy_bool ⟨H5,I5,q5⟩
theorem yva:(sizeLine:Nat)<2 ^ 63:=by rw [sizeLine_eq];decide
theorem ydL:OpR X (binaryOp .Add) (fun x y H Q=>∃ i j,x=.str i/\y=.str j/\i.length+j.length<=sizeLine/\Q (.str (i++j)) H):=by
 intro pins s σ H x y v u Q I rx ry h
 obtain ⟨i,j,rfl,rfl,hz,q⟩:=h
 obtain ⟨t,rfl⟩:=rx
 obtain ⟨t',rfl⟩:=ry
 exact add_str (fun t' tk=>⟨.str (i++j),H,I.tok _,⟨_,rfl⟩,q⟩) hz
theorem vals1 {x:V}{us:List Value}(r:Vals [x] us):∃ u,us=[u]/\RelV x u:=by
 cases r with
 | cons r1 r2=>cases r2;exact ⟨_,rfl,r1⟩
theorem vals2 {x y:V}{us:List Value}(r:Vals [x,y] us):∃ u w',us=[u,w']/\RelV x u/\RelV y w':=by
 cases r with
 | cons r1 r2 =>
  cases r2 with
  | cons r3 r4=>cases r4;exact ⟨_,_,rfl,r1,r3⟩
theorem ynW (hc:X.calm=true):CallR X (.builtin "max") (fun xs H Q=>∃ i j,xs=[.int i,.int j]/\Q (.int (if j>i then j else i)) H):=by
 intro pins s σ H xs us Q I r h
 obtain ⟨i,j,rfl,q⟩:=h
 obtain ⟨u,w',rfl,⟨t,rfl⟩,⟨t',rfl⟩⟩:=vals2 r
 refine max_two_ints (I.ok.hd hc) fun h' tk k=>⟨_,H,I.kept k,?_,q⟩
 by_cases hj:j>i
 .rw [if_pos hj,if_pos hj];exact ⟨_,rfl⟩
 .rw [if_neg hj,if_neg hj];exact ⟨_,rfl⟩
theorem yvb:CallR X (.type "int") (fun xs H Q=>(∃ i,xs=[.int i]/\Q (.int i) H)\/∃ k,xs=[.bl k]/\Q (.int (if k then 1 else 0)) H):=by
 intro pins s σ H xs us Q I r h
 rcases h with ⟨i,rfl,q⟩|⟨k,rfl,q⟩
 .obtain ⟨u,rfl,t,rfl⟩:=vals1 r
  exact call_int_int ⟨.int i,H,I,⟨_,rfl⟩,q⟩
 .obtain ⟨u,rfl,r1⟩:=vals1 r
  cases r1
  exact call_int_bool ⟨.int (if k then 1 else 0),H,I.tok _,⟨_,rfl⟩,q⟩
theorem call_str_int:CallR X (.type "str") (fun xs H Q=>∃ i,xs=[.int i]/\i.natAbs.log2<1920/\Q (.str (toString i)) H):=by
 intro pins s σ H xs us Q I r h
 obtain ⟨i,rfl,hz,q⟩:=h
 obtain ⟨u,rfl,t,rfl⟩:=vals1 r
 exact PySem.P.str_of_int hz ⟨.str _,H,I.tok _,⟨_,rfl⟩,q⟩
end
end L2
namespace L2
open PySem PySem.Spec PyProof.Rows
structure ObjM (h:Heap) (x dx C:Addr) (mA:Str->Option Value):Prop where
 obj:h.get? x=some (instObj C dx)
 ns:h.Ns1 dx mA
 ne:dx≠x
theorem yBy {h:Heap}{dx:Addr}{mA:Str->Option Value}(n:h.Ns1 dx mA):∃ od,h.get? dx=some od/\∀ name,PySem.W.lookIn name od=some (mA name):=by
 obtain ⟨o,es,ep,ho,hd,hk,_,hm⟩:=n
 refine ⟨o,ho,fun name=>?_⟩
 have e:=hm name
 unfold nsFind findBy at e
 rw [<- Array.find?_toList] at e
 unfold PySem.W.lookIn
 rw [hd]
 dsimp only
 split
 .rename_i y q
  rw [q] at e
  exact congrArg some e
 .rename_i q
  rw [q] at e
  have a:es.toList.any (·.refKey)=false:=by
   rw [List.any_eq_false]
   intro y hy
   obtain ⟨z,t,hkey⟩:=hk y (Array.mem_toList_iff.mp hy)
   simp [DictEntry.refKey,hkey]
  have a':¬ es.toList.any (·.refKey)=true:=by rw [a];exact Bool.false_ne_true
  rw [if_neg a']
  exact congrArg some e
theorem ObjM.look {h:Heap}{x dx C:Addr}{mA:Str->Option Value}(I:ObjM h x dx C mA):∃ od,PySem.W.InstAt h x (instObj C dx) C (some od)/\∀ name,PySem.W.lookIn name od=some (mA name) :=
 let ⟨od,ho,hl⟩:=yBy I.ns
 ⟨od,⟨I.obj,rfl,rfl,ho⟩,hl⟩
section
variable {prog:Program}{w:World}{A:Around}{E:Value->Shared->Prop}{s:Shared}{K:PySem.W.Frag}{x dx C f:Addr}{mA:Str->Option Value}{name:Str}{v:Value}
theorem yGZ {expr:Bool}{Q:Value->Shared->Prop}(X:K.In s.heap) (I:ObjM s.heap x dx C mA) (hg:plainGet K C name=true) (hh:hasDictIn K C=true)
  (ha:findIn K (.ref C) name=some none) (hv:mA name=some v) (hv':PySem.W.handedIn v=true) (h:Q v { s with toks:=s.toks+1 }) :
  wpAny (model prog w) A (getAttr (.ref x) name expr) Q E s:=by
 obtain ⟨od,J,hl⟩:=I.look
 exact PySem.W.get_value X J (PySem.W.plainGet_of hg).1 (PySem.W.findObj_own hh ha rfl (by rw [hl,hv])) hv' h
theorem yEa {pl:Sem Bool}{Q:Value×List Value->Shared->Prop}(X:K.In s.heap) (I:ObjM s.heap x dx C mA) (hg:plainGet K C name=true)
  (hf:findIn K (.ref C) name=some (some (.ref f))) (ht:isFn K (.ref f)=true) (hv:mA name=none) (h:Q (.ref f,[.ref x]) s) :
  wpAny (model prog w) A (getMethod (.ref x) name pl) Q E s:=by
 obtain ⟨od,J,hl⟩:=I.look
 exact PySem.W.method_fn X J (PySem.W.plainGet_of hg).1 (PySem.W.plainGet_of hg).2 hf (beq_iff_eq.mp ht) (by show (PySem.W.lookIn name od).map (·.isSome)=some false;rw [hl,hv];rfl) h
theorem yHa {ns:List Str}{Q:Unit->Shared->Prop}(X:K.In s.heap) (I:ObjM s.heap x dx C mA)
  (hs:findIn K (.ref C) "__setattr__" = some (some (.builtin "object.__setattr__"))) (hp:plainOver K C=true) (ht:PySem.W.takerIn K C name=some none) (hh:hasDictIn K C=true)
  (hw:PySem.Within mA ns) (hsz:ns.length<=sizeLine)
  (h:∀ h',ObjM h' x dx C (fun y=>if y=name then some v else mA y)->Heap.SameBut dx s.heap h'->Q () { s with heap:=h',toks:=s.toks+2 }) :
  wpAny (model prog w) A (setAttr (.ref x) name v) Q E s:=by
 obtain ⟨od,J,hl⟩:=I.look
 refine PySem.W.set_plain X J hs (PySem.W.osa_open (s:={ s with toks:=s.toks+1 }) (r:=none) X J hp ht fun b=>?_)
 obtain ⟨cd,hc,hd'⟩:=PySem.W.any_some hh
 have hx:s.heap.get? x=some ⟨.ref C,some dx,.plain,#[]⟩:=I.obj
 refine wpAny_bind (wpAny_pure (wpAny_bind (wpAny_bind (wpAny_loadPart hx (wpAny_bind (PySem.W.Looks.here (s:={ s with toks:=s.toks+1 }) (PySem.W.looks_clsIn X hc) ?_))))))
 rw [hd']
 refine wpAny_pure (a:=some dx) (wpAny_bind (wpAny_pure (wpAny_bind ?_)))
 refine wpAny_nsSet1 (s:={ s with toks:=s.toks+1 }) I.ns fun h' hn2 hs2=>?_
 obtain ⟨oD,esD,epD,hoD,hdD,hcD⟩:=hn2.count (PySem.Within.cons name v hw)
 refine wpAny_bind (wpAny_lookBehind hoD (by rw [hdD];exact pastItsLine_dict (Nat.le_trans hcD (by rw [List.length_cons];omega))) ?_)
 exact wpAny_pure (h _ ⟨(hs2.2 _ (Ne.symm I.ne)).trans I.obj,hn2,I.ne⟩ hs2)
theorem yEb {R:Result->Shared->Prop}{vs:List Value}{kw:List (Str×Value)}(X:K.In s.heap) (hm:makesIn K C=true)
  (hi:findIn K (.ref C) "__init__" = some (some (.ref f))) (hf:typeIn K (.ref f)=some (.type "function"))
  (h:codeAny (model prog w) (A.under (.builtin "type.__call__" ⟨.ref C::vs,kw⟩)) (.call (.ref f) ⟨.ref (s.heap.objs.size+1)::vs,kw⟩) (PySem.W.InitBack (s.heap.objs.size+1) R)
   { s with heap:=(s.heap.push emptyDict).push (instObj C s.heap.objs.size) }) :
  codeAny (model prog w) A (.call (.ref C) ⟨vs,kw⟩) R s:=by
 obtain ⟨hh,g,d,t,os⟩:=s
 exact PySem.W.make_core (PySem.W.makes_of X hm) (PySem.W.looks_findIn X hi) (fun self=>PySem.W.bind_fn X self hf) (.inl rfl) h
end
def ysV (f:Str) (v:V):List (Str×V)->List (Str×V)
 | []=>[(f,v)]
 | (g,x)::r=>if g=f then (g,v)::r else (g,x)::ysV f v r
theorem yqC (f g:Str) (v:V):∀ fs:List (Str×V),(ysV f v fs).lookup g=if g=f then some v else fs.lookup g
 | []=>by
  show List.lookup g [(f,v)]=_
  by_cases h:g=f
  .have hb:(g == f)=true:=beq_iff_eq.mpr h
   simp only [List.lookup,hb,if_pos h]
  .have hb:(g == f)=false:=beq_eq_false_iff_ne.mpr h
   simp only [List.lookup,hb,if_neg h]
 | (k,x)::r=>by
  have ih:=yqC f g v r
  rw [show ysV f v ((k,x)::r)=(if k=f then (k,v)::r else (k,x)::ysV f v r) from rfl]
  by_cases hk:k=f
  .rw [if_pos hk]
   by_cases h:g=k
   .have hb:(g == k)=true:=beq_iff_eq.mpr h
    simp only [List.lookup,hb,if_pos (h.trans hk)]
   .have hb:(g == k)=false:=beq_eq_false_iff_ne.mpr h
    simp only [List.lookup,hb,if_neg (fun e:g=f=>h (e.trans hk.symm))]
  .rw [if_neg hk]
   by_cases h:g=k
   .have hb:(g == k)=true:=beq_iff_eq.mpr h
    simp only [List.lookup,hb,if_neg (fun e:g=f=>hk (h.symm.trans e))]
   .have hb:(g == k)=false:=beq_eq_false_iff_ne.mpr h
    simp only [List.lookup,hb]
    exact ih
theorem yqD (f:Str) (v:V):∀ fs:List (Str×V),f∈(ysV f v fs).map (·.1)/\∀ g,g∈fs.map (·.1)->g∈(ysV f v fs).map (·.1)
 | []=>⟨by simp [ysV],fun g h=>by simp at h⟩
 | (k,x)::r=>by
  obtain ⟨i1,i2⟩:=yqD f v r
  rw [show ysV f v ((k,x)::r)=(if k=f then (k,v)::r else (k,x)::ysV f v r) from rfl]
  by_cases hk:k=f
  .rw [if_pos hk]
   subst hk
   exact ⟨by simp,fun g h=>by simpa using h⟩
  .rw [if_neg hk]
   refine ⟨?_,fun g h=>?_⟩
   .rw [List.map_cons]
    exact List.mem_cons_of_mem _ i1
   .rw [List.map_cons] at h ⊢
    rcases List.mem_cons.mp h with e|e
    .exact List.mem_cons.mpr (.inl e)
    .exact List.mem_cons_of_mem _ (i2 g e)
theorem yqE (f:Str) (v:V):∀ fs:List (Str×V),(ysV f v fs).length<=fs.length+1
 | []=>by simp [ysV]
 | (k,x)::r=>by
  have ih:=yqE f v r
  rw [show ysV f v ((k,x)::r)=(if k=f then (k,v)::r else (k,x)::ysV f v r) from rfl]
  by_cases hk:k=f
  .rw [if_pos hk,List.length_cons,List.length_cons];omega
  .rw [if_neg hk,List.length_cons,List.length_cons];omega
theorem RelO.some_of {v:V}{o:Option Value}(r:RelO (some v) o):∃ u,o=some u/\RelV v u:=by
 cases o with
 | none=>exact (show False from r).elim
 | some u=>exact ⟨u,rfl,r⟩
theorem RelO.none_of {o:Option Value}(r:RelO none o):o=none:=by
 cases o with
 | none=>rfl
 | some u=>exact (show False from r).elim
theorem yBz {v:V}{u:Value}(r:RelV v u):PySem.W.handedIn u=true:=by
 cases v with
 | non=>cases (show u=Value.none from r);rfl
 | bl b=>cases (show u=Value.bool b from r);rfl
 | int i=>obtain ⟨t,e⟩:=(show ∃ t,u=Value.int i t from r);cases e;rfl
 | str x=>obtain ⟨t,e⟩:=(show ∃ t,u=Value.str x t from r);cases e;rfl
 | byt b=>obtain ⟨t,e⟩:=(show ∃ t,u=Value.bytes b t from r);cases e;rfl
 | flt b=>obtain ⟨t,e⟩:=(show ∃ t,u=Value.float b t from r);cases e;rfl
 | ref a=>cases (show u=Value.ref a from r);rfl
 | ty n=>cases (show u=Value.type n from r);rfl
section
variable {P:Program}{w:World}{H H':Hp}{h h':Heap}{a C dx:Addr}{fs fs':List (Str×V)}
theorem ytv (hok:HOk P w H h) (e:H a=some (.ins C dx fs)):∃ mA,ObjM h a dx C mA/\(∀ f,RelO (fs.lookup f) (mA f))/\PySem.Within mA (fs.map (·.1))/\fs.length<=1000/\H dx=some (.own a):=by
 obtain ⟨d,z,ne,ob,mA,n,r,q⟩:=(show ObjOk P w H h a (.ins C dx fs) from hok a _ e)
 exact ⟨mA,⟨ob,n,ne⟩,r,q,z,d⟩
end
structure Cls (K:PySem.W.Frag) (C:Addr):Prop where
 pg:plainGet K C Str.empty=true
 hd:hasDictIn K C=true
 po:plainOver K C=true
 sa:findIn K (.ref C) "__setattr__" = some (some (.builtin "object.__setattr__"))
theorem Cls.get {K:PySem.W.Frag}{C:Addr}(c:Cls K C) (f:Str):plainGet K C f=true:=c.pg
def NoAttr (K:PySem.W.Frag) (C:Addr) (f:Str):Prop:=findIn K (.ref C) f=some none
theorem NoAttr.taker {K:PySem.W.Frag}{C:Addr}{f:Str}(n:NoAttr K C f):PySem.W.takerIn K C f=some none:=by
 unfold PySem.W.takerIn
 rw [show findIn K (.ref C) f=some none from n]
 rfl
structure yku (K:PySem.W.Frag) (C:Addr) (m:Str) (f:Addr):Prop where
 at_:findIn K (.ref C) m=some (some (.ref f))
 fn:isFn K (.ref f)=true
 kp:keepIn K (.ref f)=true
section
variable {X:Cx}{pins:List (Addr×Obj)}{σ:St}{H:Hp}{s:Shared}{a C dx:Addr}{fs:List (Str×V)}{f:Str}{v:V}{A:Around}{E:Value->Shared->Prop}
theorem yzM {b:Bool}{Q:Value->Shared->Prop}(I:Inv X pins σ H s) (e:H a=some (.ins C dx fs)) (c:Cls X.K C) (n:NoAttr X.K C f) (l:fs.lookup f=some v)
  (h:∀ u s',Inv X pins σ H s'->RelV v u->Q u s'):wpAny (model X.prog X.w) A (getAttr (.ref a) f b) Q E s:=by
 obtain ⟨mA,O,r,_,_,_⟩:=ytv I.hok e
 obtain ⟨u,hu,ru⟩:=RelO.some_of (v:=v) (o:=mA f) (by rw [<- l];exact r f)
 exact yGZ I.kIn O (c.get f) c.hd n hu (yBz ru) (h u _ (I.tok _) ru)
theorem yoU {m:Str}{g:Addr}{pl:Sem Bool}{Q:Value×List Value->Shared->Prop}(I:Inv X pins σ H s) (e:H a=some (.ins C dx fs)) (c:Cls X.K C) (k:yku X.K C m g) (l:fs.lookup m=none)
  (h:Q (.ref g,[.ref a]) s):wpAny (model X.prog X.w) A (getMethod (.ref a) m pl) Q E s:=by
 obtain ⟨mA,O,r,_,_,_⟩:=ytv I.hok e
 have hn:mA m=none:=RelO.none_of (by rw [<- l];exact r m)
 exact yEa I.kIn O (c.get m) k.at_ k.fn hn h
theorem yzN {y:V}{u:Value}{Q:Unit->Shared->Prop}(I:Inv X pins σ H s) (e:H a=some (.ins C dx fs)) (c:Cls X.K C) (n:NoAttr X.K C f) (hl:fs.length<1000) (ry:RelV y u)
  (h:∀ s',Inv X pins σ (upd H a (.ins C dx (ysV f y fs))) s'->Q () s'):wpAny (model X.prog X.w) A (setAttr (.ref a) f u) Q E s:=by
 obtain ⟨mA,O,r,wi,_,ho⟩:=ytv I.hok e
 have hz:(fs.map (·.1)).length<=sizeLine:=by rw [List.length_map,sizeLine_eq];omega
 refine yHa I.kIn O c.sa c.po n.taker c.hd wi hz fun h' O' sb=>h _ ?_
 have hd:∃ o,h'.get? dx=some o:=let ⟨o,_,_,e',_⟩:=O'.ns;⟨o,e'⟩
 refine I.write (x:=a) (e:=dx) (by rw [e];exact True.intro) (.inr ho) (fun b q hb z=>(sb.2 b hb).trans z) hd ?_
 refine ⟨by rw [ybz O.ne];exact ho,?_,O.ne,O'.obj,_,O'.ns,fun g=>?_,fun g hg=>?_⟩
 .have:=yqE f y fs;omega
 .show RelO ((ysV f y fs).lookup g) (if g=f then some u else mA g)
  rw [yqC]
  by_cases q:g=f
  .rw [if_pos q,if_pos q];exact ry
  .rw [if_neg q,if_neg q];exact r g
 .by_cases q:g=f
  .rw [q];exact (yqD f y fs).1
  .refine (yqD f y fs).2 g (wi g fun z=>hg ?_)
   show (if g=f then some u else mA g)=none
   rw [if_neg q];exact z
theorem Inv.made (I:Inv X pins σ H s):Inv X pins σ (upd (upd H s.heap.objs.size (.own (s.heap.objs.size+1))) (s.heap.objs.size+1) (.ins C s.heap.objs.size []))
  { s with heap:=(s.heap.push emptyDict).push (instObj C s.heap.objs.size) }:=by
 have e1:(s.heap.push emptyDict).get? s.heap.objs.size=some emptyDict:=Heap.get?_push_size s.heap rfl
 have e2:((s.heap.push emptyDict).push (instObj C s.heap.objs.size)).get? (s.heap.objs.size+1)=some (instObj C s.heap.objs.size):=by
  have:=Heap.get?_push_size (s.heap.push emptyDict) (o:=instObj C s.heap.objs.size) rfl
  rwa [Heap.size_push] at this
 have e3:(s.heap.push emptyDict).Ns s.heap.objs.size (fun _=>none):=⟨emptyDict,#[],_,e1,rfl,(fun e he=>absurd he (by simp)),fun _=>rfl⟩
 have I1:=I.laid (a:=s.heap.objs.size) (o:=.own (s.heap.objs.size+1)) (h':=s.heap.push emptyDict) (t':=s.toks) (fun b u q=>Heap.get?_push_of_some _ q) (Nat.le_refl _) ⟨_,e1⟩
 refine I1.laid (a:=s.heap.objs.size+1) (o:=.ins C s.heap.objs.size []) (t':=s.toks) (fun b u q=>Heap.get?_push_of_some _ q) (Nat.le_of_eq (Heap.size_push _ _)) ?_
 have ne:s.heap.objs.size≠s.heap.objs.size+1:=Nat.ne_of_lt (Nat.lt_succ_self _)
 refine ⟨by rw [ybz ne,ybK],Nat.zero_le _,ne,e2,fun _=>none,(Heap.Ns1.of_empty e3).at fun o q=>Heap.get?_push_of_some _ q,fun _=>True.intro,fun y hy=>absurd rfl hy⟩
theorem yHb {prog:Program}{w:World}{env:Env}{e:Expr}{f:Str}{pos:Pos}{s:Shared}{Q:Value->Shared->Prop}(hb:attributeBase e f env (eval e env)=eval e env)
  (h:wpAny (model prog w) A (eval e env) (fun o s₁=>wpAny (model prog w) A (getAttr o f true) Q E s₁) E s):wpAny (model prog w) A (eval (.Attribute e f pos) env) Q E s :=
 Attribute_any_ h (by rw [arm_eval_Attribute,hb])
end
noncomputable def yOv (K:PySem.W.Frag) (ta:TE) (f:Str):TE:=fun σ H Q=>ta σ H fun x H1=>∃ a C dx fs v,x=.ref a/\H1 a=some (.ins C dx fs)/\Cls K C/\NoAttr K C f/\fs.lookup f=some v/\Q v H1
noncomputable def yMs (K:PySem.W.Frag) (ta tv:TE) (f:Str):TS:=fun D σ H=>tv σ H fun y H1=>ta σ H1 fun x H2=>∃ a C dx fs,x=.ref a/\H2 a=some (.ins C dx fs)/\Cls K C/\NoAttr K C f/\fs.length<1000 /\
 D.nx σ (upd H2 a (.ins C dx (ysV f y fs)))
section
variable {X:Cx}{o e value:Expr}{f:Str}{pos pos' tpos:Pos}{ta tv:TE}
theorem yJI (he:PE X e ta) (hb:attributeBase e f X.env (eval e X.env)=eval e X.env):PE X (.Attribute e f pos) (yOv X.K ta f):=by
 intro pins s σ H Q I h
 refine yHb hb (thn (he pins s σ H _ I h) fun u s1 ⟨x,H1,I1,rx,a,C,dx,fs,v,ex,ea,c,n,l,q⟩=>?_)
 subst ex
 obtain rfl:u=Value.ref a:=rx
 exact yzM I1 ea c n l fun u' s2 I2 ru=>⟨v,H1,I2,ru,q⟩
theorem yFW (ha:PE X o ta) (hv:PE X value tv) (hs:swapsWith value (some (.Attribute o f pos')) pos.line X.env=pure false):PS X (.Assign [.Attribute o f pos'] value pos) (yMs X.K ta tv f):=by
 intro pins s σ H D I h
 refine plainObj_wpAny_Assign_Attribute (thn (hv pins s σ H _ I h) fun u s1 ⟨y,H1,I1,ry,q⟩=>thn (ha pins s1 σ H1 _ I1 q) fun ov s2 ⟨x,H2,I2,rx,a,C,dx,fs,ex,ea,c,n,l,q2⟩=>?_) hs
 subst ex
 obtain rfl:ov=Value.ref a:=rx
 exact yzN I2 ea c n l ry fun s3 I3=>⟨σ,_,I3,q2⟩
end
section
variable {X:Cx}{pins:List (Addr×Obj)}{σ:St}{H:Hp}{s:Shared}{A:Around}{E:Value->Shared->Prop}{Q:Value->Shared->Prop}{c:Value}{b:Bool}
inductive yqx (K:PySem.W.Frag) (H:Hp):V->Value->Prop where
 | non:yqx K H .non (.type "NoneType")
 | bl (x:Bool):yqx K H (.bl x) (.type "bool")
 | int (i:Int):yqx K H (.int i) (.type "int")
 | str (x:Str):yqx K H (.str x) (.type "str")
 | flt (x:UInt64):yqx K H (.flt x) (.type "float")
 | lst {a:Addr}{xs:List V}(e:H a=some (.lst xs)):yqx K H (.ref a) (.type "list")
 | frz {a:Addr}{o:Obj}{xs:List V}(e:H a=some (.frz o (.lst xs))):yqx K H (.ref a) (.type "list")
 | tup {a:Addr}{xs:List V}(e:H a=some (.tup xs)):yqx K H (.ref a) (.type "tuple")
 | kt {a:Addr}{o:Obj}(e:K.lookup a=some o) (c:o.cls=.type "tuple"):yqx K H (.ref a) (.type "tuple")
 | dK {a:Addr}{kvs:List (Key×V)}(e:H a=some (.dK kvs)):yqx K H (.ref a) (.type "dict")
 | dT {a:Addr}{kvs:List (List Key×V)}(e:H a=some (.dT kvs)):yqx K H (.ref a) (.type "dict")
 | ins {a C dx:Addr}{fs:List (Str×V)}(e:H a=some (.ins C dx fs)) (cl:Cls K C) (ha:findIn K (.ref C) "__class__" = some (some (.builtin "object.__class__")))
   (hn:PySem.W.specialIn K (.builtin "object.__class__") "__get__" = some (some (.builtin "getset_descriptor.__get__"))) (htk:PySem.W.takesIn K (.builtin "object.__class__")=some true)
   (hm:mroIn K C (.type "object")=some true):yqx K H (.ref a) (.ref C)
theorem yBA {x:V}{u t:Value}(I:Inv X pins σ H s) (rx:RelV x u) (ty:yqx X.K H x t) (e:PySem.W.kitOne X.K t c=some b) (h:∀ tk,Q (.bool b) { s with toks:=tk }) :
  wpAny (model X.prog X.w) A (call (.builtin "isinstance") [u,c]) Q E s:=by
 cases ty with
 | non=>cases (show u=Value.none from rx);exact kia_one PySem.W.kitx_none I.kIn True.intro e (fun z=>nomatch z) h
 | bl y=>cases (show u=Value.bool y from rx);exact kia_one PySem.W.kitx_bool I.kIn True.intro e (fun z=>nomatch z) h
 | int i=>obtain ⟨t,q⟩:=(show ∃ t,u=Value.int i t from rx);cases q;exact kia_one PySem.W.kitx_int I.kIn True.intro e (fun z=>nomatch z) h
 | str y=>obtain ⟨t,q⟩:=(show ∃ t,u=Value.str y t from rx);cases q;exact kia_one PySem.W.kitx_str I.kIn True.intro e (fun z=>nomatch z) h
 | flt y=>obtain ⟨t,q⟩:=(show ∃ t,u=Value.float y t from rx);cases q;exact kia_one PySem.W.kitx_float I.kIn True.intro e (fun z=>nomatch z) h
 | @lst a xs ea =>
  cases (show u=Value.ref a from rx)
  obtain ⟨_,_,n,_,h1⟩:=(show ObjOk X.prog X.w H s.heap a (.lst xs) from I.hok a _ ea)
  exact kia_one PySem.W.kitx_list I.kIn ⟨_,h1,rfl⟩ e (fun z=>nomatch z) h
 | @frz a ob xs ea =>
  cases (show u=Value.ref a from rx)
  obtain ⟨_,_,_,n,_,h1⟩:=(show ObjOk X.prog X.w H s.heap a (.frz ob (.lst xs)) from I.hok a _ ea)
  exact kia_one PySem.W.kitx_list I.kIn ⟨_,h1,rfl⟩ e (fun z=>nomatch z) h
 | @tup a xs ea =>
  cases (show u=Value.ref a from rx)
  obtain ⟨_,_,_,p⟩:=(show ObjOk X.prog X.w H s.heap a (.tup xs) from I.hok a _ ea)
  obtain ⟨o,h1,h2,_⟩:=p
  exact kia_one PySem.W.kitx_tuple I.kIn ⟨o,h1,h2⟩ e (fun z=>nomatch z) h
 | @kt a ob ek ck =>
  cases (show u=Value.ref a from rx)
  exact kia_one PySem.W.kitx_tuple I.kIn ⟨ob,I.kIn a ob ek,ck⟩ e (fun z=>nomatch z) h
 | @dK a kvs ea =>
  cases (show u=Value.ref a from rx)
  obtain ⟨_,_,vs,_,p⟩:=(show ObjOk X.prog X.w H s.heap a (.dK kvs) from I.hok a _ ea)
  obtain ⟨o,es,ep,h1,h2,_⟩:=p
  exact kia_one PySem.W.kitx_dict I.kIn ⟨o,h1,h2.1⟩ e (fun z=>nomatch z) h
 | @dT a kvs ea =>
  cases (show u=Value.ref a from rx)
  obtain ⟨_,_,xs,_,o,es,ep,h1,h2,_⟩:=(show ObjOk X.prog X.w H s.heap a (.dT kvs) from I.hok a _ ea)
  exact kia_one PySem.W.kitx_dict I.kIn ⟨o,h1,h2.1⟩ e (fun z=>nomatch z) h
 | @ins a C dx fs ea cl ha hn htk hm =>
  cases (show u=Value.ref a from rx)
  obtain ⟨mA,O,_⟩:=ytv I.hok ea
  obtain ⟨od,J,_⟩:=O.look
  exact kia_one (PySem.W.kitx_own (cl.get _) cl.hd ha hn htk hm) I.kIn J e (fun z=>nomatch z) h
end
end L2
namespace L2
open PySem PySem.Spec PyProof.Rows
structure Room (k:Nat) (A:Around):Prop where
 hd:A.handled=none
 dp:A.depth+3*k+5<recursionLimit
 un:A.units+16*k+200<cLine
theorem Room.mono {j k:Nat}{A:Around}(r:Room k A) (h:j<=k):Room j A:=⟨r.hd,by have:=r.dp;omega,by have:=r.un;omega⟩
theorem Room.deeper {k:Nat}{A:Around}(r:Room (k+1) A) (env:Env):Room k (A.deeper env) :=
 ⟨r.hd,by have:=r.dp;show A.depth+1+3*k+5<_;omega,by have:=r.un;show A.units+3+16*k+200<_;omega⟩
theorem yzO {A:Around}{C:Addr}{us:List Value}{kw:List (Str×Value)}:(A.under (.builtin "type.__call__" ⟨.ref C::us,kw⟩)).depth=A.depth+1:=by
 first|rfl|simp [Around.under,Code.weight,Code.isCreation,Code.isGuard,Code.isCaller,Code.frames,Code.isFrame,guardIds]
theorem yzP {A:Around}{C:Addr}{us:List Value}{kw:List (Str×Value)}:(A.under (.builtin "type.__call__" ⟨.ref C::us,kw⟩)).units=A.units+1:=by
 first|rfl|simp [Around.under,Code.cUnits,Code.frames,Code.isFrame]
theorem Room.make {k:Nat}{A:Around}(r:Room (k+1) A) (C:Addr) (us:List Value) (kw:List (Str×Value)):Room k (A.under (.builtin "type.__call__" ⟨.ref C::us,kw⟩)) :=
 ⟨r.hd,by have:=r.dp;rw [yzO];omega,by have:=r.un;rw [yzP];omega⟩
theorem Room.depth {k:Nat}{A:Around}(r:Room k A):A.depth<recursionLimit:=by have:=r.dp;omega
def yJJ:TA:=fun _ H Q=>Q [] H
def yHc (ta:TE) (tr:TA):TA:=fun σ H Q=>ta σ H fun x H1=>tr σ H1 fun xs H2=>Q (x::xs) H2
section
variable {X:Cx}{e:Expr}{es:List Expr}{te:TE}{t:TA}{pos:Pos}
theorem yFX:PA X [] yJJ:=fun _ _ _ _ H Q I h=>Calls.spliced_nil ⟨[],H,I,.nil,h⟩
theorem yBB (ha:PE X e te) (hr:PA X es t) (hs:starEach (e::es) X.env=(false,eval e X.env)::starEach es X.env:=by rfl):PA X (e::es) (yHc te t):=by
 intro pos pins s σ H Q I h
 rw [hs]
 show wpAny _ _ (spliced ((false,eval e X.env)::backTo pos (starEach es X.env))) _ _ s
 refine Calls.spliced_cons (thn (ha pins s σ H _ I h) fun u s1 ⟨x,H1,I1,r1,q1⟩=>?_)
 exact thn (hr pos pins s1 σ H1 _ I1 q1) fun us s2 ⟨xs,H2,I2,r2,q2⟩=>⟨x::xs,H2,I2,.cons r1 r2,q2⟩
def yOw (t:TA):TE:=fun σ H Q=>t σ H fun xs H1=>xs.length<=sizeLine/\∀ p,H1 p=none->Q (.ref p) (upd H1 p (.tup xs))
def yOx (t:TA):TE:=fun σ H Q=>t σ H fun xs H1=>xs.length<=sizeLine/\∀ p,H1 p=none->Q (.ref p) (upd H1 p (.lst xs))
theorem yJK {x1} (h:PA X es t):PE X (.Tuple es x1 pos) (yOw t):=by
 intro pins s σ H Q I hq
 refine wpAny_Tuple_spliced (thn (h pos pins s σ H _ I hq) fun us s1 ⟨xs,H1,I1,r,z,q⟩=>⟨by rw [<- r.length];exact z,?_⟩)
 have hf:H1 s1.heap.objs.size=none:=I1.hok.fresh (Nat.le_refl _)
 refine ⟨.ref s1.heap.objs.size,upd H1 s1.heap.objs.size (.tup xs),I1.laid (t':=s1.toks) (fun b u e=>Heap.get?_push_of_some _ e) (Nat.le_refl _) ?_,rfl,q _ hf⟩
 exact ⟨z,us,r,⟨_,Heap.get?_push_size _ rfl,rfl,_,rfl⟩⟩
theorem yJL (h:PA X es t):PE X (.List es pos) (yOx t):=by
 intro pins s σ H Q I hq
 refine wpAny_List_spliced (thn (h pos pins s σ H _ I hq) fun us s1 ⟨xs,H1,I1,r,z,q⟩=>⟨by rw [<- r.length];exact z,?_⟩)
 have hf:H1 s1.heap.objs.size=none:=I1.hok.fresh (Nat.le_refl _)
 refine ⟨.ref s1.heap.objs.size,upd H1 s1.heap.objs.size (.lst xs),I1.laid (t':=s1.toks) (fun b u e=>Heap.get?_push_of_some _ e) (Nat.le_refl _) ?_,rfl,q _ hf⟩
 exact ⟨z,us,0,r,Heap.get?_push_size _ rfl⟩
end
abbrev Sp:=List V->Hp->VK->XK->Prop
abbrev CXT:=List Env->Hp->Shared->XK->Value->Shared->Prop
structure Env0 (P:Program) (w:World) (K:PySem.W.Frag) (mg:Str->Option Value) (base:Heap) (A:Around) (outer:List Env) (s:Shared) (H:Hp):Prop where
 frames:A.frames=some outer
 mod:Mod K mg base
 bs:∀ b o,base.get? b=some o->s.heap.get? b=some o/\H b=none
 bsz:base.objs.size<=s.heap.objs.size
 funs:s.heap.FunFrames base outer
 frf:∀ b∈frs outer,H b=none
 hok:HOk P w H s.heap
 bare:AllBare s.gens
noncomputable def CE (outer:List Env) (P:Program) (w:World) (H:Hp) (s:Shared) (Q:VK) (u:Value) (s':Shared):Prop :=
 ∃ v H',s'.os=s.os/\AllBare s'.gens/\Un (frs outer) [] H H' s.heap s'.heap/\HOk P w H' s'.heap/\RelV v u/\Q v H'
noncomputable def CR (CX:CXT) (outer:List Env) (P:Program) (w:World) (H:Hp) (s:Shared) (Q:VK) (E:XK) (r:Result) (s':Shared):Prop :=
 match r with
 | .ok (.ret u)=>CE outer P w H s Q u s'
 | .ok _=>False
 | .error e=>CX outer H s E e s'
structure FnOk (P:Program) (w:World) (K:PySem.W.Frag) (mg:Str->Option Value) (base:Heap) (CX:CXT) (k:Nat) (f:Addr) (fd:FuncData) (ps:List Str) (sp:Sp):Prop where
 len:∀ vs H Q E,sp vs H Q E->vs.length=ps.length
 run:∀ (A:Around) (outer:List Env) (s:Shared) (H:Hp) (args:Args) (us:List Value) (vs:List V) (Q:VK) (E:XK),Room k A->Env0 P w K mg base A outer s H->BindsTo s fd args (ps.zip us)->Vals vs us->sp vs H Q E ->
  codeAny (model P w) A (.call (.ref f) args) (CR CX outer P w H s Q E) s
theorem FnOk.mono {P:Program}{w:World}{K:PySem.W.Frag}{mg:Str->Option Value}{base:Heap}{CX:CXT}{j k:Nat}{f:Addr}{fd:FuncData}{ps:List Str}{sp:Sp}(F:FnOk P w K mg base CX j f fd ps sp) (h:j<=k) :
  FnOk P w K mg base CX k f fd ps sp:=⟨F.len,fun A outer s H args us vs Q E hr=>F.run A outer s H args us vs Q E (hr.mono h)⟩
theorem FnOk.imp {P:Program}{w:World}{K:PySem.W.Frag}{mg:Str->Option Value}{base:Heap}{CX:CXT}{k:Nat}{f:Addr}{fd:FuncData}{ps:List Str}{sp sp':Sp}(F:FnOk P w K mg base CX k f fd ps sp)
  (h:∀ vs H Q E,sp' vs H Q E->sp vs H Q E):FnOk P w K mg base CX k f fd ps sp' :=
 ⟨fun vs H Q E q=>F.len vs H Q E (h _ _ _ _ q),fun A outer s H args us vs Q E hr he hb hv hs=>F.run A outer s H args us vs Q E hr he hb hv (h _ _ _ _ hs)⟩
theorem Env0.make {P:Program}{w:World}{K:PySem.W.Frag}{mg:Str->Option Value}{base:Heap}{A:Around}{outer:List Env}{s:Shared}{H:Hp}(e:Env0 P w K mg base A outer s H) (C:Addr) (us:List Value) (kw:List (Str×Value)) :
  Env0 P w K mg base (A.under (.builtin "type.__call__" ⟨.ref C::us,kw⟩)) outer s H:=⟨by first|exact e.frames|(simpa [Around.under,Code.envs,Code.isFrame,pushEnvs] using e.frames),e.mod,e.bs,e.bsz,e.funs,e.frf,e.hok,e.bare⟩
section
variable {X:Cx}{pins:List (Addr×Obj)}{σ:St}{H:Hp}{s s':Shared}
theorem Inv.env0 (I:Inv X pins σ H s):Env0 X.prog X.w X.K X.mg X.base X.A X.stack s H :=
 ⟨I.ok.frames,I.ok.mod,I.bs,Nat.le_trans I.ok.bsz I.sz,I.stack,I.stkFree,I.hok,I.bare⟩
theorem Inv.after {Q:VK}{u:Value}(I:Inv X pins σ H s) (h:CE X.stack X.prog X.w H s Q u s'):EP X pins σ Q u s':=by
 obtain ⟨v,H',os,bare,un,hok,r,q⟩:=h
 obtain ⟨hh,g,d,t,os'⟩:=s'
 obtain rfl:os'=s.os:=os
 exact ⟨v,H',I.call (h':=hh) (g':=g) (d':=d) (t':=t) (ch:=[]) un hok bare (fun b z=>absurd z (by simp)),r,q⟩
end
def yJM (sp:Sp) (dvs:List V) (E:XK) (t:TA):TE:=fun σ H Q=>t σ H fun vs H1=>sp (vs++dvs) H1 Q E
noncomputable def yHd (C:Addr) (m:Str) (sp:Sp) (dvs:List V) (E:XK) (ta:TE) (t:TA):TE:=fun σ H Q=>ta σ H fun x H1=>∃ a dx fs,x=.ref a/\H1 a=some (.ins C dx fs)/\fs.lookup m=none /\
 t σ H1 fun vs H2=>sp (x::(vs++dvs)) H2 Q E
noncomputable def yJN (C:Addr) (sp:Sp) (dvs:List V) (E:XK) (t:TA):TE:=fun σ H Q=>t σ H fun vs H1=>∀ x dx,H1 x=none->H1 dx=none->dx≠x ->
 sp (.ref x::(vs++dvs)) (upd (upd H1 dx (.own x)) x (.ins C dx [])) (fun v H2=>v=.non/\Q (.ref x) H2) E
noncomputable def Binds (K:PySem.W.Frag) (fd:FuncData) (ps:List Str) (ds:List Value):Prop :=
 ∀ (s:Shared) (us:List Value),K.In s.heap->(us++ds).length=ps.length->BindsTo s fd ⟨us,[]⟩ (ps.zip (us++ds))
theorem Binds.all {K:PySem.W.Frag}{fd:FuncData}{ps:List Str}(h:∀ us:List Value,us.length=ps.length->bindArgs fd ⟨us,[]⟩=pure (ps.zip us)):Binds K fd ps []:=fun s us _ hl=>by
 rw [List.append_nil] at hl ⊢
 exact .of_eq (h us hl)
noncomputable def yqF (CX:CXT) (X:Cx) (E:XK):Prop:=∀ (pins:List (Addr×Obj)) (σ:St) (H:Hp) (s:Shared) (e:Value) (s':Shared),Inv X pins σ H s->CX X.stack H s E e s'->X.xe e s'
section
variable {X:Cx}{CX:CXT}{k:Nat}{f C:Addr}{fd:FuncData}{ps:List Str}{sp:Sp}{dvs:List V}{ds:List Value}{E:XK}{x m:Str}{p pos apos:Pos}{e o:Expr}{es:List Expr}{ta:TE}{t:TA}
theorem yyQ {pins:List (Addr×Obj)}{σ:St}{H:Hp}{s:Shared}{Q:VK}{us:List Value}{vs:List V}(F:FnOk X.prog X.w X.K X.mg X.base CX k f fd ps sp) (hr:Room k X.A) (hb:Binds X.K fd ps ds) (hd:Vals dvs ds) (hx:yqF CX X E)
  (I:Inv X pins σ H s) (r:Vals vs us) (h:sp (vs++dvs) H Q E):wpAny (model X.prog X.w) X.A (call (.ref f) us) (EP X pins σ Q) X.xe s:=by
 have r2:Vals (vs++dvs) (us++ds):=r.append hd
 have hl:(us++ds).length=ps.length:=by rw [<- r2.length];exact F.len _ _ _ _ h
 refine wpAny_call (codeAny_mono (F.run X.A X.stack s H ⟨us,[]⟩ (us++ds) (vs++dvs) Q E hr I.env0 (hb s us I.kIn hl) r2 h) fun r s' hq=>?_)
 cases r with
 | error e=>exact hx pins σ H s e s' I hq
 | ok fl =>
  cases fl with
  | ret u=>exact I.after hq
  | next=>exact False.elim hq
  | brk=>exact False.elim hq
  | cont=>exact False.elim hq
theorem yHe (F:FnOk X.prog X.w X.K X.mg X.base CX k f fd ps sp) (hr:Room k X.A) (hg:Gl X x) (hm:X.mg x=some (.ref f)) (hk:keepIn X.K (.ref f)=true) (hb:Binds X.K fd ps ds) (hd:Vals dvs ds) (hx:yqF CX X E)
  (ha:PA X (e::es) t) (hdb:(x == ("__debug__":Str))=false:=by decide) (he:starEach (e::es) X.env=(false,eval e X.env)::starEach es X.env:=by rfl) (hpl:(backTo pos (starEach es X.env)).any (·.1)=false:=by rfl) :
  PE X (.Call (.Name x p) (e::es) [] pos) (yJM sp dvs E t):=by
 intro pins s σ H Q I h
 refine wpAny_Call_Name_kw (yts I hg hm ?_ hdb)
 refine PySem.W.callWith_K (h₀:=X.base) I.ok.mod.kin hk (thn (ha pos pins s σ H _ I h) fun us s1 ⟨vs,H1,I1,r,q⟩=>⟨I1.kIn,?_⟩) he hpl
 exact yyQ F hr hb hd hx I1 r q
theorem yHf {pl:Sem Bool}(he:PE X o ta) (c:Cls X.K C) (hm:yku X.K C m f) (F:FnOk X.prog X.w X.K X.mg X.base CX k f fd ps sp) (hr:Room k X.A) (hb:Binds X.K fd ps ds) (hd:Vals dvs ds) (hx:yqF CX X E) (ha:PA X (e::es) t)
  (hst:starEach (e::es) X.env=(false,eval e X.env)::starEach es X.env:=by rfl) (hpl:(backTo pos (starEach es X.env)).any (·.1)=false:=by rfl)
  (ht:eval (.Call (.Attribute o m apos) (e::es) [] pos) X.env=(do
   let ov <- eval o X.env
   standAt apos.atName
   let (f,first) <- holding [ov] (getMethod ov m pl)
   callWith pos f first (backTo pos (starEach (e::es) X.env)) (backToKw pos (keywordEach [] X.env))):=by rfl) :
  PE X (.Call (.Attribute o m apos) (e::es) [] pos) (yHd C m sp dvs E ta t):=by
 intro pins s σ H Q I h
 refine PySem.W.methodCall_KW (pl:=pl) (thn (he pins s σ H _ I h) fun u s1 ⟨x,H1,I1,rx,a,dx,fs,ex,ea,l,q⟩=>?_) ht
 subst ex
 obtain rfl:u=Value.ref a:=rx
 refine yoU I1 ea c hm l ?_
 refine PySem.W.callWith_K (first:=[.ref a]) (h₀:=X.base) I.ok.mod.kin hm.kp (thn (ha pos pins s1 σ H1 _ I1 q) fun us s2 ⟨vs,H2,I2,r,q2⟩=>⟨I2.kIn,?_⟩) hst hpl
 exact yyQ (us:=.ref a::us) (vs:=.ref a::vs) F hr hb hd hx I2 (.cons rfl r) q2
theorem yEc {pl:Sem Bool}(he:PE X o ta) (c:Cls X.K C) (hm:yku X.K C m f) (F:FnOk X.prog X.w X.K X.mg X.base CX k f fd ps sp) (hr:Room k X.A) (hb:Binds X.K fd ps ds) (hd:Vals dvs ds) (hx:yqF CX X E)
  (ht:eval (.Call (.Attribute o m apos) [] [] pos) X.env=(do
   let ov <- eval o X.env
   standAt apos.atName
   let (f,first) <- holding [ov] (getMethod ov m pl)
   callWith pos f first (backTo pos (starEach [] X.env)) (backToKw pos (keywordEach [] X.env))):=by rfl) :
  PE X (.Call (.Attribute o m apos) [] [] pos) (yHd C m sp dvs E ta yJJ):=by
 intro pins s σ H Q I h
 refine PySem.W.methodCall_KW (pl:=pl) (thn (he pins s σ H _ I h) fun u s1 ⟨x,H1,I1,rx,a,dx,fs,ex,ea,l,q⟩=>?_) ht
 subst ex
 obtain rfl:u=Value.ref a:=rx
 refine yoU I1 ea c hm l ?_
 exact PySem.W.callWith_K0 (first:=[.ref a]) I1.kIn hm.kp (yyQ (us:=[.ref a]) (vs:=[.ref a]) F hr hb hd hx I1 (.cons rfl .nil) q)
structure Mk (K:PySem.W.Frag) (C f:Addr):Prop where
 makes:makesIn K C=true
 init:findIn K (.ref C) "__init__" = some (some (.ref f))
 fn:isFn K (.ref f)=true
 kp:keepIn K (.ref C)=true
theorem yEd {pins:List (Addr×Obj)}{σ:St}{H:Hp}{s:Shared}{Q:VK}{us:List Value}{vs:List V}(M:Mk X.K C f) (F:FnOk X.prog X.w X.K X.mg X.base CX k f fd ps sp) (hr:Room (k+1) X.A) (hb:Binds X.K fd ps ds) (hd:Vals dvs ds)
  (hx:yqF CX X E) (I:Inv X pins σ H s) (r:Vals vs us)
  (h:∀ x dx,H x=none->H dx=none->dx≠x->sp (.ref x::(vs++dvs)) (upd (upd H dx (.own x)) x (.ins C dx [])) (fun v H2=>v=.non/\Q (.ref x) H2) E) :
  wpAny (model X.prog X.w) X.A (call (.ref C) us) (EP X pins σ Q) X.xe s:=by
 have hq:=h (s.heap.objs.size+1) s.heap.objs.size (I.hok.fresh (Nat.le_succ _)) (I.hok.fresh (Nat.le_refl _)) (Nat.ne_of_lt (Nat.lt_succ_self _))
 have I2:=Inv.made (C:=C) I
 have r2:Vals (V.ref (s.heap.objs.size+1)::(vs++dvs)) (Value.ref (s.heap.objs.size+1)::(us++ds)):=.cons rfl (r.append hd)
 have hl:(Value.ref (s.heap.objs.size+1)::us++ds).length=ps.length:=by
  have e:=r2.length
  rw [F.len _ _ _ _ hq] at e
  exact e.symm
 refine wpAny_call (yEb (f:=f) I.kIn M.makes M.init (beq_iff_eq.mp M.fn) (codeAny_mono (F.run _ X.stack _ _ ⟨Value.ref (s.heap.objs.size+1)::us,[]⟩ (Value.ref (s.heap.objs.size+1)::(us++ds)) _ _ E (hr.make C us [])
  (I2.env0.make C us []) (hb _ (Value.ref (s.heap.objs.size+1)::us) I2.kIn hl) r2 hq) fun r s' hq'=>?_))
 cases r with
 | error e=>exact hx pins σ _ _ e s' I2 hq'
 | ok fl =>
  cases fl with
  | ret u =>
   obtain ⟨v,H',I3,rv,ev,q3⟩:=I2.after hq'
   subst ev
   exact ⟨rv,⟨V.ref (s.heap.objs.size+1),H',I3,rfl,q3⟩⟩
  | next=>exact False.elim hq'
  | brk=>exact False.elim hq'
  | cont=>exact False.elim hq'
theorem yHg (M:Mk X.K C f) (F:FnOk X.prog X.w X.K X.mg X.base CX k f fd ps sp) (hr:Room (k+1) X.A) (hg:Gl X x) (hm:X.mg x=some (.ref C)) (hb:Binds X.K fd ps ds) (hd:Vals dvs ds) (hx:yqF CX X E)
  (ha:PA X (e::es) t) (hdb:(x == ("__debug__":Str))=false:=by decide) (he:starEach (e::es) X.env=(false,eval e X.env)::starEach es X.env:=by rfl) (hpl:(backTo pos (starEach es X.env)).any (·.1)=false:=by rfl) :
  PE X (.Call (.Name x p) (e::es) [] pos) (yJN C sp dvs E t):=by
 intro pins s σ H Q I h
 refine wpAny_Call_Name_kw (yts I hg hm ?_ hdb)
 refine PySem.W.callWith_K (h₀:=X.base) I.ok.mod.kin M.kp (thn (ha pos pins s σ H _ I h) fun us s1 ⟨vs,H1,I1,r,q⟩=>⟨I1.kIn,?_⟩) he hpl
 exact yEd M F hr hb hd hx I1 r q
end
section
variable {X:Cx}{CX:CXT}{k:Nat}{f C:Addr}{fd:FuncData}{ps ks:List Str}{sp:Sp}{E:XK}{x m:Str}{p pos apos kpos:Pos}{e o:Expr}{es:List Expr}{kws:List Keyword}{te ta:TE}{t tk:TA}{nm:Option Str}
variable {g:List Value->List Value->List Value}{gV:List V->List V->List V}
end
structure yn (N P:List Str) (sc:Scope):Prop where
 kind:sc.kind=.function
 co:sc.isCoroutine=false
 gen:sc.isGenerator=false
 nd:N.Nodup
 pre:N.take P.length=P
 par:∀ x∈P,sc.names.lookup x=some .local \/ sc.names.lookup x=some .cell
 nofree:∀ y∈sc.names,y.2≠.free
theorem yvc {kindOf:Str->Option NameKind}{x:Str}:∀ {binds:List (Str×Value)}{m:Str->Option Value},(∀ v,(x,v)∉binds)->bindL kindOf binds m x=m x
 | [],_,_=>rfl
 | (n,v)::r,m,h=>by
  unfold bindL
  rw [yvc fun w hw=>h w (List.mem_cons_of_mem _ hw)]
  split
  .have:x≠n:=by rintro rfl;exact h v List.mem_cons_self
   simp [this]
  .rfl
theorem yvd {kindOf:Str->Option NameKind}{x:Str}:∀ {binds:List (Str×Value)}{m:Str->Option Value},(∀ v,(x,v)∉binds)->bindC kindOf binds m x=m x
 | [],_,_=>rfl
 | (n,v)::r,m,h=>by
  unfold bindC
  rw [yvd fun w hw=>h w (List.mem_cons_of_mem _ hw)]
  split
  .rfl
  .have:x≠n:=by rintro rfl;exact h v List.mem_cons_self
   simp [this]
theorem yve {kindOf:Str->Option NameKind}{x:Str}{v:Value}:∀ {P:List Str}{vs:List Value}{i:Nat}{m:Str->Option Value},P.Nodup->P[i]?=some x->vs[i]?=some v->kindOf x=some .local ->
  bindL kindOf (P.zip vs) m x=some v
 | [],_,_,_,_,h,_,_=>by simp at h
 | _::_,[],_,_,_,_,h,_=>by simp at h
 | p::P,w::vs,0,m,nd,h1,h2,hk=>by
  simp at h1 h2;subst h1;subst h2
  show bindL kindOf ((p,w)::P.zip vs) m p=_
  unfold bindL
  rw [yvc fun v hv=>(List.nodup_cons.mp nd).1 (List.of_mem_zip hv).1,if_pos hk]
  simp
 | p::P,w::vs,i+1,m,nd,h1,h2,hk=>by
  show bindL kindOf ((p,w)::P.zip vs) m x=_
  unfold bindL
  exact yve (i:=i) (List.nodup_cons.mp nd).2 (by simpa using h1) (by simpa using h2) hk
theorem yvf {kindOf:Str->Option NameKind}{x:Str}{v:Value}:∀ {P:List Str}{vs:List Value}{i:Nat}{m:Str->Option Value},P.Nodup->P[i]?=some x->vs[i]?=some v->kindOf x≠some .local ->
  bindC kindOf (P.zip vs) m x=some v
 | [],_,_,_,_,h,_,_=>by simp at h
 | _::_,[],_,_,_,_,h,_=>by simp at h
 | p::P,w::vs,0,m,nd,h1,h2,hk=>by
  simp at h1 h2;subst h1;subst h2
  show bindC kindOf ((p,w)::P.zip vs) m p=_
  unfold bindC
  rw [yvd fun v hv=>(List.nodup_cons.mp nd).1 (List.of_mem_zip hv).1,if_neg hk]
  simp
 | p::P,w::vs,i+1,m,nd,h1,h2,hk=>by
  show bindC kindOf ((p,w)::P.zip vs) m x=_
  unfold bindC
  exact yvf (i:=i) (List.nodup_cons.mp nd).2 (by simpa using h1) (by simpa using h2) hk
def start (N:List Str) (vs:List V):St:=vs.map some++List.replicate (N.length-vs.length) none
noncomputable def yFY (CX:CXT) (P:Program) (w:World) (K:PySem.W.Frag) (mg:Str->Option Value) (base:Heap) (N:List Str) (qual:Str) (scope:Scope) (f:Addr) (cd:Value) (A:Around) (outer:List Env) (s:Shared) (H:Hp) (E:XK):Cx where
 prog:=P
 w:=w
 K:=K
 mg:=mg
 base:=base
 A:=A.deeper (envOfC qual scope s.heap.objs.size f cd)
 N:=N
 s₀:=s
 H₀:=H
 env:=envOfC qual scope s.heap.objs.size f cd
 outer:=outer
 stack:=envOfC qual scope s.heap.objs.size f cd::outer
 ex:=[]
 calm:=true
 fn:=fun _=>true
 pn:=[]
 xe:=fun e s'=>wpAny (model P w) (A.deeper (envOfC qual scope s.heap.objs.size f cd)) (leaving (envOfC qual scope s.heap.objs.size f cd) e) (fun _ s''=>CX outer H s E e s'') (fun e' s''=>CX outer H s E e' s'') s'
theorem yyR {sc:Scope}{n:Nat}{x:Str}(h:sc.names.lookup x=some .cell):∃ c,(cellsFrom n sc.names []).lookup x=some c:=by
 have q:=PySem.W.cellsFrom_some sc.names n [] (.inl h)
 exact Option.isSome_iff_exists.mp q
theorem yBC {CX:CXT}{P:Program}{w:World}{K:PySem.W.Frag}{mg:Str->Option Value}{base:Heap}{N ps:List Str}{qual:Str}{scope:Scope}{f:Addr}{cd:Value}{A:Around}{outer:List Env}{s s1:Shared}{H:Hp}{E:XK}{us:List Value}{vs:List V}
  (S:yn N ps scope) (hd:A.handled=none) (e0:Env0 P w K mg base A outer s H) (hl:vs.length=ps.length) (r:Vals vs us)
  (x:InCallC s s.heap.objs.size (bindL (envOfC qual scope s.heap.objs.size f cd).kindOf (ps.zip us) fun _=>none) (cellsFrom (s.heap.objs.size+1) scope.names []) (bindC (envOfC qual scope s.heap.objs.size f cd).kindOf (ps.zip us) fun _=>none) s1) :
  Inv (yFY CX P w K mg base N qual scope f cd A outer s H E) [] (start N vs) H s1:=by
 have hpl:ps.length<=N.length:=by have:=congrArg List.length S.pre;rw [List.length_take] at this;omega
 obtain ⟨h1,tk,rfl,hk⟩:=x.done
 have noA:∀ b:Addr,b∉(yFY CX P w K mg base N qual scope f cd A outer s H E).ex:=fun b z=>absurd (show b∈([]:List Addr) from z) (by simp)
 refine ⟨⟨e0.mod,S.kind,rfl,rfl,Nat.le_refl _,fun y z c h1 h2=>?_,fun y hy=>?_,fun y c _ h=>?_,fun _=>hd,Around.frames_deeper e0.frames,.inr ⟨rfl,rfl⟩,fun b z=>absurd z (noA b),e0.bs,e0.bsz,fun b _ _=>noA b,fun b z=>absurd z (noA b),e0.funs,e0.frf⟩,
  rfl,e0.bare,Un.kept hk,⟨_,x.toInCall.ns,fun i y v h1 h2 h3=>?_⟩,fun y c h=>⟨_,x.cell y c h⟩,e0.hok.fresh (Nat.le_refl _),fun y c h=>?_,fun p hp=>absurd (show p∈([]:List (Addr×Obj)) from hp) (by simp),e0.hok.kept hk,?_⟩
 .exact name_of_addr x.apart (PySem.mem_of_lookup h1) (PySem.mem_of_lookup h2)
 .have hy:scope.names.lookup y=some .cell\/scope.names.lookup y=some .free:=hy
  rcases hy with hy|hy
  .exact yyR hy
  .exact absurd rfl (S.nofree _ (PySem.mem_of_lookup hy))
 .exact Nat.le_of_lt (x.above y c (PySem.mem_of_lookup h))
 .have hi:i<vs.length:=by
   unfold start at h2
   by_cases hi:i<vs.length
   .exact hi
   .rw [List.getElem?_append_right (by simpa using hi)] at h2
    rw [List.getElem?_replicate] at h2
    split at h2<;>cases h2
  have ha:vs[i]?=some v:=by
   unfold start at h2
   rw [List.getElem?_append_left (by simpa using hi),List.getElem?_map] at h2
   cases e:vs[i]? with
   | none=>rw [e] at h2;cases h2
   | some a=>rw [e] at h2;cases h2;rfl
  obtain ⟨u,hu,rv⟩:=r.get ha
  have hp:ps[i]?=some y:=by
   rw [<- S.pre,List.getElem?_take_of_lt (by omega)];exact h1
  have ndP:ps.Nodup:=by rw [<- S.pre];exact S.nd.sublist (List.take_sublist _ _)
  refine ⟨u,rv,?_⟩
  rcases S.par y (List.mem_of_getElem? hp) with k|k
  .exact .inl ⟨k,yve ndP hp hu k⟩
  .obtain ⟨c,e⟩:=yyR (n:=s.heap.objs.size+1) k
   refine .inr ⟨.inl k,c,e,?_⟩
   have q:=x.cell y c e
   rw [yvf ndP hp hu (by show scope.names.lookup y≠_;rw [k];decide)] at q
   exact q
 .exact e0.hok.fresh (Nat.le_of_lt (x.above y c (PySem.mem_of_lookup h)))
 .unfold start
  show _=N.length
  rw [List.length_append,List.length_map,List.length_replicate]
  omega
theorem yMt {CX:CXT}{P:Program}{w:World}{K:PySem.W.Frag}{mg:Str->Option Value}{base:Heap}{k:Nat}{f:Addr}{name qual:Str}{params:Arguments}{body:List Stmt}{scope:Scope}{dV kV doc pm cdv ct oc:Value}{an od:Option Addr}
  {osl:Array (Option Value)}{N ps:List Str}{sp:Sp}(lk:K.lookup f=some ⟨oc,od,.func (fnOf name qual params body scope dV kV doc pm an cdv ct),osl⟩) (hcd:codeIn K cdv qual=true) (S:yn N ps scope)
  (len:∀ vs H Q E,sp vs H Q E->vs.length=ps.length)
  (hbody:∀ (A:Around) (outer:List Env) (s:Shared) (H:Hp) (vs:List V) (Q:VK) (E:XK),Room k (A.deeper (envOfC qual scope s.heap.objs.size f cdv))->sp vs H Q E ->
   ∃ t,PSs (yFY CX P w K mg base N qual scope f cdv A outer s H E) body t/\t { nx:=fun _ H'=>Q .non H',rt:=Q } (start N vs) H) :
  FnOk P w K mg base CX (k+1) f (fnOf name qual params body scope dV kV doc pm an cdv ct) ps sp:=by
 refine ⟨len,fun A outer s H args us vs Q E hr e0 hb r hsp=>?_⟩
 have hl:=len _ _ _ _ hsp
 have KX:K.In s.heap:=e0.mod.kin.keeps fun b o e=>(e0.bs b o e).1
 have lim:s.heap.NoLimit:=e0.mod.nolimit.keeps fun b o e=>(e0.bs b o e).1
 have hkind:∀ y∈ps.zip us,scope.names.lookup y.1=some .local \/ (scope.names.lookup y.1=some .cell/\((cellsFrom (s.heap.objs.size+1) scope.names []).lookup y.1).isSome=true):=fun ⟨n,v⟩ hy=>by
  rcases S.par n (List.of_mem_zip hy).1 with q|q
  .exact .inl q
  .exact .inr ⟨q,PySem.W.cellsFrom_some _ _ _ (.inl q)⟩
 refine codeAny_call_function hr.depth (KX _ _ lk) rfl S.co S.gen rfl (PySem.W.codeRec_of KX hcd) (hb _ _ _ _ ?_)
 refine wpAny_newFunctionEnv_cells S.kind hkind fun env he s1 x=>?_
 subst he
 refine ⟨lim.keeps x.toInCall.keep,codeAny_func ?_⟩
 obtain ⟨t,ht,hq⟩:=hbody A outer s H vs Q E (hr.deeper _) hsp
 have I:Inv (yFY CX P w K mg base N qual scope f cdv A outer s H E) [] (start N vs) H s1:=yBC S hr.hd e0 hl r x
 refine wpAny_mono (ht [] s1 (start N vs) H _ I hq) (fun fl s' hs=>?_) fun e s' hs=>hs
 have fin:∀ {σ':St}{H':Hp}{v:V}{u:Value},Inv (yFY CX P w K mg base N qual scope f cdv A outer s H E) [] σ' H' s'->RelV v u->Q v H'->CE outer P w H s Q u s' :=
  fun {σ' H' v u} J rv q=>⟨v,H',J.os,J.bare,J.base,J.hok,rv,q⟩
 cases fl with
 | ret u =>
  obtain ⟨v,σ',H',J,rv,q⟩:=hs
  exact fin J rv q
 | next =>
  obtain ⟨σ',H',J,q⟩:=hs
  exact fin (v:=V.non) (u:=Value.none) J rfl q
 | brk =>
  obtain ⟨_,_,_,q⟩:=hs
  exact False.elim q
 | cont =>
  obtain ⟨_,_,_,q⟩:=hs
  exact False.elim q
end L2
namespace L2
open PySem PySem.Spec PyProof.Rows
section
variable {X:Cx}{x:Str}{p pos:Pos}{e:Expr}{es:List Expr}{t:TA}{id T:String}{r:List V->Hp->VK->Prop}
def tCB (r:List V->Hp->VK->Prop) (t:TA):TE:=fun σ H Q=>t σ H fun vs H1=>r vs H1 Q
theorem yEe (hc:CallR X (.builtin id) r) (hg:Gl X x) (hm:X.mg x=none) (hv:bootBuiltins x=some (.builtin id)) (ha:PA X (e::es) t) (hn:x≠"__name__":=by decide) (hdb:(x == ("__debug__":Str))=false:=by decide)
  (he:starEach (e::es) X.env=(false,eval e X.env)::starEach es X.env:=by rfl) (hpl:(backTo pos (starEach es X.env)).any (·.1)=false:=by rfl):PE X (.Call (.Name x p) (e::es) [] pos) (tCB r t):=by
 intro pins s σ H Q I h
 refine wpAny_Call_Name_kw (yuY I hg hm hv ?_ hn hdb)
 exact PyProof.Rows.callWith_builtin1 (thn (ha pos pins s σ H _ I h) fun us s1 ⟨vs,H1,I1,r1,q1⟩=>hc pins s1 σ H1 vs us Q I1 r1 q1) he hpl
theorem yvg (hc:CallR X (.type T) r) (hg:Gl X x) (hm:X.mg x=none) (hv:bootBuiltins x=some (.type T)) (ha:PA X (e::es) t) (hn:x≠"__name__":=by decide) (hdb:(x == ("__debug__":Str))=false:=by decide)
  (he:starEach (e::es) X.env=(false,eval e X.env)::starEach es X.env:=by rfl) (hpl:(backTo pos (starEach es X.env)).any (·.1)=false:=by rfl):PE X (.Call (.Name x p) (e::es) [] pos) (tCB r t):=by
 intro pins s σ H Q I h
 refine wpAny_Call_Name_kw (yuY I hg hm hv ?_ hn hdb)
 exact PyProof.Rows.callWith_type1 (thn (ha pos pins s σ H _ I h) fun us s1 ⟨vs,H1,I1,r1,q1⟩=>hc pins s1 σ H1 vs us Q I1 r1 q1) he hpl
end
end L2
namespace HT
open PySem PyProof.Rows
section
open PySem.SeqAt
open PySem.AutoSeq1 (wpAny_loadPart')
open PySem.MeetsSeq PySem.MeetsSeq2 PySem.MeetsSeq3
end
section
variable {prog:Program}{w:World}{A:Around}{E:Value->Shared->Prop}{s:Shared}
def sIx (n d:Nat):Option Int->Nat
 | none=>d
 | some v=>if v<0 then (v+(n:Int)).toNat else min v.toNat n
end
end HT
namespace L2
open PySem PySem.Spec PyProof.Rows
abbrev TO:=St->Hp->(Option Int->Hp->Prop)->Prop
noncomputable def PO (X:Cx) (e:Option Expr) (t:TO):Prop :=
 ∀ (pins:List (Addr×Obj)) (s:Shared) (σ:St) (H:Hp) (Q:Option Int->Hp->Prop),Inv X pins σ H s->t σ H Q ->
  wpAny (model X.prog X.w) X.A (evalPart e X.env) (fun u s'=>∃ o H',Inv X pins σ H' s'/\IsPart u o/\Q o H') X.xe s
def yBD:TO:=fun _ H Q=>Q none H
def yJO (t:TE):TO:=fun σ H Q=>t σ H fun x H1=>∃ i,x=.int i/\Q (some i) H1
theorem intsAre_of {ns:List Int}:∀ {us:List Value},Vals (ns.map V.int) us->IntsAre us ns:=by
 induction ns with
 | nil=>intro us r;rw [List.map_nil] at r;cases r;exact .nil
 | cons n ns ih =>
  intro us r
  rw [List.map_cons] at r
  cases r with
  | cons r1 r2 =>
   obtain ⟨t,e⟩:=r1
   subst e
   exact .cons n t (ih r2)
section
variable {X:Cx}{e:Expr}{te:TE}{lo hi:Option Expr}{tl th:TO}{pos p2:Pos}
theorem yHh:PO X none yBD:=by
 intro pins s σ H Q I h
 rw [evalPart_none]
 exact wpAny_pure ⟨none,H,I,.none,h⟩
theorem yHi (h:PE X e te):PO X (some e) (yJO te):=by
 intro pins s σ H Q I hw
 rw [evalPart_some]
 refine thn (h pins s σ H _ I hw) fun u s1 ⟨x,H1,I1,r1,q1⟩=>?_
 obtain ⟨i,rfl,q⟩:=q1
 obtain ⟨t,rfl⟩:=r1
 exact ⟨some i,H1,I1,.int i t,q⟩
noncomputable def SlR (X:Cx) (r:V->Option Int->Option Int->Hp->VK->Prop):Prop :=
 ∀ (pins:List (Addr×Obj)) (s:Shared) (σ:St) (H:Hp) (x:V) (v vl vu:Value) (lo hi:Option Int) (sl:Addr) (Q:VK),Inv X pins σ H s->RelV x v->s.heap.IsSliceOf sl vl vu .none->IsPart vl lo->IsPart vu hi->r x lo hi H Q ->
  ∃ T id,typeLookup (.type T) "__getitem__" = pure (some (.builtin id))/\s.TypeIs v T/\wpAny (model X.prog X.w) X.A (getItem v (.ref sl)) (EP X pins σ Q) X.xe s
noncomputable def tSl (r:V->Option Int->Option Int->Hp->VK->Prop) (te:TE) (tl th:TO):TE:=fun σ H Q=>te σ H fun x H1=>tl σ H1 fun l H2=>th σ H2 fun u H3=>r x l u H3 Q
theorem yEf {r:V->Option Int->Option Int->Hp->VK->Prop}(hr:SlR X r) (he:PE X e te) (hl:PO X lo tl) (hu:PO X hi th):PE X (.Subscript e (.Slice lo hi none p2) pos) (tSl r te tl th):=by
 intro pins s σ H Q I h
 refine Subscript_ (thn (he pins s σ H _ I h) fun v s1 ⟨x,H1,I1,r1,q1⟩=>?_)
 refine wpAny_Slice (thn (hl pins s1 σ H1 _ I1 q1) fun vl s2 ⟨l,H2,I2,pl,q2⟩=>thn (hu pins s2 σ H2 _ I2 q2) fun vu s3 ⟨u,H3,I3,pu,q3⟩=>?_)
 rw [evalPart_none]
 refine wpAny_pure ?_
 have I4:Inv X pins σ H3 { s3 with heap:=s3.heap.push { cls:=.type "slice",data:=.fields #[vl,vu,.none] } }:=I3.kept (t':=s3.toks) fun b ob q=>Heap.get?_push_of_some _ q
 obtain ⟨T,id,hT,ht,hg⟩:=hr pins { s3 with heap:=s3.heap.push { cls:=.type "slice",data:=.fields #[vl,vu,.none] } } σ H3 x v vl vu l u s3.heap.objs.size Q I4 r1 (Heap.IsSliceOf.new ..) pl pu q3
 show wpAny (model X.prog X.w) X.A (subscriptTail e (.Slice lo hi none p2) v (.ref s3.heap.objs.size)) (EP X pins σ Q) X.xe { s3 with heap:=s3.heap.push { cls:=.type "slice",data:=.fields #[vl,vu,.none] } }
 exact tail_any (ops:=[.ref s3.heap.objs.size,v]) ht hT hg (by with_unfolding_all rfl)
noncomputable def yJP (xs:List V) (lo hi:Option Int):List V:=(xs.drop (HT.sIx xs.length 0 lo)).take (HT.sIx xs.length xs.length hi-HT.sIx xs.length 0 lo)
theorem yxg (xs:List V) (lo hi:Option Int):(yJP xs lo hi).length<=xs.length:=by
 unfold yJP
 rw [List.length_take,List.length_drop]
 omega
end
end L2
namespace L2
open PySem PySem.Spec PyProof.Rows
noncomputable def ixN (n:Nat) (i:Int):Option Nat:=if 0<=i then (if i<n then some i.toNat else none) else if -(n:Int)<=i then some (i+n).toNat else none
def atI {α:Type}(xs:List α) (i:Int):Option α:=(ixN xs.length i).bind fun j=>xs[j]?
theorem yHj {n:Nat}{i:Int}{j:Nat}(h:ixN n i=some j):seqIndex? i n=some j/\j<n/\-(n:Int)<=i/\i<n:=by
 unfold ixN at h
 by_cases h0:0<=i
 .rw [if_pos h0] at h
  by_cases h1:i<n
  .rw [if_pos h1] at h
   have e:i.toNat=j:=Option.some.inj h
   exact ⟨by rw [seqIndex_of h0 h1,e],by omega,by omega,h1⟩
  .rw [if_neg h1] at h;cases h
 .rw [if_neg h0] at h
  by_cases h1:-(n:Int)<=i
  .rw [if_pos h1] at h
   have e:(i+n).toNat=j:=Option.some.inj h
   exact ⟨by rw [seqIndex_neg (by omega) h1,e],by omega,h1,by omega⟩
  .rw [if_neg h1] at h;cases h
theorem yxh {α:Type}{xs:List α}{i:Int}{v:α}(h:atI xs i=some v):∃ j,seqIndex? i xs.length=some j/\xs[j]?=some v/\j<xs.length/\-(xs.length:Int)<=i/\i<xs.length:=by
 unfold atI at h
 cases e:ixN xs.length i with
 | none=>rw [e] at h;cases h
 | some j =>
  rw [e] at h
  obtain ⟨h1,h2,h3,h4⟩:=yHj e
  exact ⟨j,h1,h,h2,h3,h4⟩
theorem ynk {α:Type}{xs:List α}{j:Nat}{v:α}(h:xs[j]?=some v):atI xs (j:Int)=some v:=by
 have hj:j<xs.length:=(List.getElem?_eq_some_iff.mp h).1
 have e:ixN xs.length (j:Int)=some j:=by
  unfold ixN
  rw [if_pos (by omega),if_pos (by omega)];simp
 unfold atI;rw [e];exact h
def yBE (b:Expr):Prop:=∀ o i,subscripted b false o i=operate [o,i] (getItem o i)
noncomputable def IxR (X:Cx) (r:R2):Prop :=
 ∀ (value slice:Expr) (pins:List (Addr×Obj)) (s:Shared) (σ:St) (H:Hp) (x y:V) (v u:Value) (Q:VK),Inv X pins σ H s->RelV x v->RelV y u->r x y H Q ->
  subscripted slice false v u=operate [v,u] (getItem v u)->wpAny (model X.prog X.w) X.A (subscriptTail value slice v u) (EP X pins σ Q) X.xe s
noncomputable def MtR (X:Cx) (id:String) (r:V->List V->Hp->VK->Prop):Prop :=
 ∀ (pins:List (Addr×Obj)) (s:Shared) (σ:St) (H:Hp) (x:V) (xs:List V) (v:Value) (us:List Value) (Q:VK),Inv X pins σ H s->RelV x v->Vals xs us->r x xs H Q ->
  wpAny (model X.prog X.w) X.A (call (.builtin id) (v::us)) (EP X pins σ Q) X.xe s
section
variable {X:Cx}{a b:Expr}{ta tb:TE}{pos:Pos}
theorem yMu {r:R2}(hr:IxR X r) (ha:PE X a ta) (hb:PE X b tb) (hs:yBE b):PE X (.Subscript a b pos) (tOp r ta tb):=by
 intro pins s σ H Q I h
 exact Subscript_ (yMo ha hb I h fun v u s2 x y H2 I2 rx ry q=>hr a b pins s2 σ H2 x y v u Q I2 rx ry q (hs _ _))
def yOy (K:PySem.W.Frag):R2:=fun x y H Q=>∃ p xs i v,x=.ref p/\y=.int i/\SqL K H p xs/\atI xs i=some v/\Q v H
def yOz (K:PySem.W.Frag):R2:=fun x y H Q=>∃ p xs i v,x=.ref p/\y=.int i/\SqT K H p xs/\atI xs i=some v/\Q v H
def yOA:R2:=fun x y H Q=>∃ z i c,x=.str z/\y=.int i/\z.length<=sizeLine/\atI z.cps.toList i=some c/\Q (.str ⟨#[c]⟩) H
theorem ygN:IxR X (yOy X.K):=by
 intro value slice pins s σ H x y v u Q I rx ry h hs
 obtain ⟨p,xs,i,z,rfl,rfl,hq,he,q⟩:=h
 cases rx
 obtain ⟨t,rfl⟩:=ry
 obtain ⟨its,r,pl,hz⟩:=I.list hq
 obtain ⟨j,h1,h2,h3,h4,h5⟩:=yxh he
 obtain ⟨w,ew,rw'⟩:=r.get h2
 have hl:=r.length
 have hn:=yva
 have fin:EP X pins σ Q w s:=⟨z,H,I,rw',q⟩
 by_cases h0:0<=i
 .have hj:i.toNat=j:=by
   rw [seqIndex_of h0 h5] at h1
   exact Option.some.inj h1
  exact item_listR pl.isList h0 (by omega) (by rw [hj];simpa using ew) fin hs
 .have hj:(i+(its.toArray.size:Int)).toNat=j:=by
   rw [seqIndex_neg (by omega) h4] at h1
   rw [List.size_toArray,<- hl]
   exact Option.some.inj h1
  exact subscriptTail_builtinR (x:=w) pl.isList.typeIs slot_list_getitem.lookup
   (wpAny_getItem_list_neg (Q:=fun r s'=>r=w/\EP X pins σ Q r s') pl.isList (by omega) (by rw [List.size_toArray]<;>omega) (by omega) (by rw [hj];simpa using ew) ⟨rfl,fin⟩) hs
theorem yF:IxR X (yOz X.K):=by
 intro value slice pins s σ H x y v u Q I rx ry h hs
 obtain ⟨p,xs,i,z,rfl,rfl,hq,he,q⟩:=h
 cases rx
 obtain ⟨t,rfl⟩:=ry
 obtain ⟨its,r,pl,hz⟩:=I.tuple hq
 obtain ⟨j,h1,h2,h3,h4,h5⟩:=yxh he
 obtain ⟨w,ew,rw'⟩:=r.get h2
 have hl:=r.length
 have hn:=yva
 have fin:EP X pins σ Q w s:=⟨z,H,I,rw',q⟩
 exact subscriptTail_builtinR (x:=w) pl.typeIs slot_tuple_getitem.lookup
  (getItem_tuple (j:=j) (Q:=fun r s'=>r=w/\EP X pins σ Q r s') pl (by omega) (by omega) (by rw [List.size_toArray,<- hl];exact h1) (by simpa using ew) ⟨rfl,fin⟩) hs
theorem yBF:IxR X yOA:=by
 intro value slice pins s σ H x y v u Q I rx ry h hs
 obtain ⟨z,i,c,rfl,rfl,hz,he,q⟩:=h
 obtain ⟨t,rfl⟩:=rx
 obtain ⟨t',rfl⟩:=ry
 obtain ⟨j,h1,h2,h3,h4,h5⟩:=yxh he
 have hl:z.cps.toList.length=z.length:=by simp [Str.length]
 rw [hl] at h1 h4 h5
 have hn:=yva
 exact tail_any (typeIs_str s z t) slot_str_getitem.lookup (getItem_str (c:=c) (by
  have e1:decide (i < -(2 ^ 63:Int))=false:=decide_eq_false (by omega)
  have e2:decide (i>=2 ^ 63)=false:=decide_eq_false (by omega)
  rw [e1,e2,Bool.or_false]) (by rw [h1];simpa using h2) ⟨.str ⟨#[c]⟩,H,I.tok _,⟨_,rfl⟩,q⟩) hs
theorem Inv.lst {pins:List (Addr×Obj)}{σ:St}{H:Hp}{s:Shared}{p:Addr}{xs:List V}(I:Inv X pins σ H s) (h:H p=some (.lst xs)) :
  ∃ (its:List Value) (n:Nat),Vals xs its/\s.heap.get? p=some { cls:=.type "list",data:=.seq its.toArray n }/\xs.length<=sizeLine:=by
 obtain ⟨z,its,n,r,e⟩:=I.hok p _ h
 exact ⟨its,n,r,e,z⟩
theorem yvh (lo hi:Option Int) (n:Nat):(sliceBounds lo hi none n).1=((HT.sIx n 0 lo:Nat):Int)/\(sliceBounds lo hi none n).2.1=((HT.sIx n n hi:Nat):Int)/\(sliceBounds lo hi none n).2.2=1:=by
 refine ⟨?_,?_,rfl⟩
 .cases lo with
  | none=>simp [sliceBounds,HT.sIx]
  | some i =>
   simp only [sliceBounds,HT.sIx,Option.getD_none,show (1:Int)>0 by decide,if_true]
   by_cases h:i<0
   .simp only [h,if_true]<;>omega
   .simp only [h,if_false]<;>omega
 .cases hi with
  | none=>simp [sliceBounds,HT.sIx]
  | some i =>
   simp only [sliceBounds,HT.sIx,Option.getD_none,show (1:Int)>0 by decide,if_true]
   by_cases h:i<0
   .simp only [h,if_true]<;>omega
   .simp only [h,if_false]<;>omega
theorem ytw (its:List Value) (lo hi:Option Int):slicePick its.toArray lo hi none=((its.drop (HT.sIx its.length 0 lo)).take (HT.sIx its.length its.length hi-HT.sIx its.length 0 lo)).toArray:=by
 obtain ⟨h1,h2,h3⟩:=yvh lo hi its.toArray.size
 unfold slicePick
 rw [h1,h2,h3]
 simp only [sliceRange_one,pick_run,List.size_toArray]<;>rfl
noncomputable def yOB (K:PySem.W.Frag):V->Option Int->Option Int->Hp->VK->Prop:=fun x lo hi H Q=>∃ a xs,x=.ref a/\SqL K H a xs/\∀ p,H p=none->Q (.ref p) (upd H p (.lst (yJP xs lo hi)))
theorem ytx:SlR X (yOB X.K):=by
 intro pins s σ H x v vl vu lo hi sl Q I rx hs pl pu h
 obtain ⟨a,xs,rfl,hx,q⟩:=h
 cases rx
 obtain ⟨its,r,ht,hz⟩:=I.list hx
 have hlen:=r.length
 refine ⟨"list",_,slot_list_getitem.lookup,ht.isList.typeIs,?_⟩
 refine wpAny_getItem_list_slice ht.isList hs pl pu .none (by simp) ?_ (by rw [List.size_toArray]<;>omega)
 rw [ytw,<- hlen]
 refine ⟨.ref s.heap.objs.size,_,I.laid (t':=s.toks) (o:=.lst (yJP xs lo hi)) (fun b ob q=>Heap.get?_push_of_some _ q) (Nat.le_refl _) ?_,rfl,q _ (I.hok.fresh (Nat.le_refl _))⟩
 exact ⟨Nat.le_trans (yxg xs lo hi) hz,_,0,(r.drop (HT.sIx xs.length 0 lo)).take (HT.sIx xs.length xs.length hi-HT.sIx xs.length 0 lo),Heap.get?_push_size _ rfl⟩
def ynX:V->Bool
 | .non=>true
 | .bl _=>true
 | .int _=>true
 | .str _=>true
 | _=>false
noncomputable def eqV:V->V->Bool
 | .non,.non=>true
 | .bl a,.bl b=>a == b
 | .bl a,.int b=>(if a then 1 else 0) == b
 | .int a,.bl b=>a == (if b then 1 else 0)
 | .int a,.int b=>a == b
 | .str a,.str b=>a == b
 | _,_=>false
theorem yFZ {A:Around}{s:Shared}{y x:V}{u v:Value}(ry:RelV y u) (rx:RelV x v) (fy:ynX y=true) (fx:ynX x=true):SeqAt.EqAt A s u v (eqV y x):=by
 cases y with
 | non =>
  cases ry
  cases x with
  | non=>cases rx;exact SeqAt.EqAt.same _
  | bl b=>cases rx;exact SeqAt.EqAt.none_bool b
  | int b=>obtain ⟨t,rfl⟩:=rx;exact SeqAt.EqAt.none_int b t
  | str b=>obtain ⟨t,rfl⟩:=rx;exact SeqAt.EqAt.none_str b t
  | _=>exact absurd (show false=true from fx) Bool.false_ne_true
 | bl a =>
  cases ry
  cases x with
  | non=>cases rx;exact SeqAt.EqAt.bool_none a
  | bl b=>cases rx;exact SeqAt.EqAt.bool_bool a b
  | int b=>obtain ⟨t,rfl⟩:=rx;exact SeqAt.EqAt.bool_int a b t
  | str b=>obtain ⟨t,rfl⟩:=rx;exact SeqAt.EqAt.bool_str a b t
  | _=>exact absurd (show false=true from fx) Bool.false_ne_true
 | int a =>
  obtain ⟨t',rfl⟩:=ry
  cases x with
  | non=>cases rx;exact SeqAt.EqAt.int_none a t'
  | bl b=>cases rx;exact SeqAt.EqAt.int_bool a t' b
  | int b=>obtain ⟨t,rfl⟩:=rx;exact SeqAt.EqAt.int_int a t' b t
  | str b=>obtain ⟨t,rfl⟩:=rx;exact SeqAt.EqAt.int_str a t' b t
  | _=>exact absurd (show false=true from fx) Bool.false_ne_true
 | str a =>
  obtain ⟨t',rfl⟩:=ry
  cases x with
  | non=>cases rx;exact SeqAt.EqAt.str_none a t'
  | bl b=>cases rx;exact SeqAt.EqAt.str_bool a t' b
  | int b=>obtain ⟨t,rfl⟩:=rx;exact SeqAt.EqAt.str_int a t' b t
  | str b=>obtain ⟨t,rfl⟩:=rx;exact SeqAt.EqAt.str_str a t' b t
  | _=>exact absurd (show false=true from fx) Bool.false_ne_true
 | _=>exact absurd (show false=true from fy) Bool.false_ne_true
noncomputable def eqU (x:V) (u:Value):Bool:=match u with
 | .none=>eqV .non x
 | .bool b=>eqV (.bl b) x
 | .int i _=>eqV (.int i) x
 | .str z _=>eqV (.str z) x
 | _=>false
theorem yGa {x y:V}{u:Value}(r:RelV y u) (f:ynX y=true):eqU x u=eqV y x:=by
 cases y with
 | non=>cases r;rfl
 | bl b=>cases r;rfl
 | int i=>obtain ⟨t,rfl⟩:=r;rfl
 | str z=>obtain ⟨t,rfl⟩:=r;rfl
 | _=>exact absurd (show false=true from f) Bool.false_ne_true
theorem yqG {x:V}:∀ {xs:List V}{us:List Value},Vals xs us->xs.all ynX=true->us.any (eqU x)=xs.any fun y=>eqV y x
 | _,_,.nil,_=>rfl
 | y::xs,u::us,.cons r t,f=>by
  rw [List.all_cons,Bool.and_eq_true] at f
  rw [List.any_cons,List.any_cons,yGa r f.1,yqG t f.2]
theorem ynY {A:Around}{s:Shared}{x:V}{v:Value}(rx:RelV x v) (fx:ynX x=true):∀ {xs:List V}{us:List Value},Vals xs us->xs.all ynX=true->∀ u∈us,SeqAt.EqAt A s u v (eqU x u)
 | _,_,.nil,_=>fun u hu=>by cases hu
 | y::xs,u::us,.cons r t,f=>fun u' hu=>by
  rw [List.all_cons,Bool.and_eq_true] at f
  rcases List.mem_cons.mp hu with rfl|hu
  .rw [yGa r f.1];exact yFZ r rx f.1 fx
  .exact ynY rx fx t f.2 u' hu
def inV (x:V) (xs:List V):Bool:=xs.any fun y=>eqV y x
noncomputable def rIn (K:PySem.W.Frag) (neg:Bool):R2:=fun x y H Q=>∃ p xs,y=.ref p/\(SqL K H p xs\/SqT K H p xs)/\ynX x=true/\xs.all ynX=true/\Q (.bl (if neg then !inV x xs else inV x xs)) H
theorem yqH:OpR X (compareOp .In) (rIn X.K false):=by
 intro pins s σ H x y v u Q I rx ry h
 obtain ⟨p,xs,rfl,hq,fx,fs,q⟩:=h
 cases ry
 rcases hq with hq|hq
 .obtain ⟨its,r,pl,hz⟩:=I.list hq
  refine SeqAt.in_listAt (eqU x) pl.isList (fun w hw=>ynY rx fx r fs w (by simpa using hw)) ⟨.bl _,H,I,rfl,?_⟩
  rw [show its.toArray.any (eqU x)=its.any (eqU x) by simp,yqG r fs]
  exact q
 .obtain ⟨its,r,pl,hz⟩:=I.tuple hq
  refine SeqAt.in_tupleAt (eqU x) pl (fun w hw=>ynY rx fx r fs w (by simpa using hw)) ⟨.bl _,H,I,rfl,?_⟩
  rw [show its.toArray.any (eqU x)=its.any (eqU x) by simp,yqG r fs]
  exact q
theorem yvi:OpR X (compareOp .NotIn) (rIn X.K true):=by
 intro pins s σ H x y v u Q I rx ry h
 obtain ⟨p,xs,rfl,hq,fx,fs,q⟩:=h
 cases ry
 rcases hq with hq|hq
 .obtain ⟨its,r,pl,hz⟩:=I.list hq
  refine SeqAt.notIn_listAt (eqU x) pl.isList (fun w hw=>ynY rx fx r fs w (by simpa using hw)) ⟨.bl _,H,I,rfl,?_⟩
  rw [show its.toArray.any (eqU x)=its.any (eqU x) by simp,yqG r fs]
  exact q
 .obtain ⟨its,r,pl,hz⟩:=I.tuple hq
  refine SeqAt.notIn_tupleAt (eqU x) pl (fun w hw=>ynY rx fx r fs w (by simpa using hw)) ⟨.bl _,H,I,rfl,?_⟩
  rw [show its.toArray.any (eqU x)=its.any (eqU x) by simp,yqG r fs]
  exact q
theorem yge:CallR X (.builtin "len") (fun xs H Q=>∃ p ys,xs=[.ref p]/\(SqL X.K H p ys\/SqT X.K H p ys)/\Q (.int ys.length) H):=by
 intro pins s σ H xs us Q I r h
 obtain ⟨p,ys,rfl,hq,q⟩:=h
 obtain ⟨u,rfl,rx⟩:=vals1 r
 cases rx
 have hn:=yva
 rcases hq with hq|hq
 .obtain ⟨its,r',pl,hz⟩:=I.list hq
  have hlen:=r'.length
  exact Calls.call_len_list pl.isList (by simp only [List.size_toArray]<;>omega) ⟨.int ys.length,H,I.tok _,⟨s.toks+1,by rw [List.size_toArray,hlen]⟩,q⟩
 .obtain ⟨its,r',pl,hz⟩:=I.tuple hq
  have hlen:=r'.length
  exact len_tuple pl (by simp only [List.size_toArray]<;>omega) ⟨.int ys.length,H,I.tok _,⟨s.toks+1,by rw [List.size_toArray,hlen]⟩,q⟩
theorem ylK:CallR X (.builtin "len") (fun xs H Q=>∃ z,xs=[.str z]/\z.length<=sizeLine/\Q (.int z.length) H):=by
 intro pins s σ H xs us Q I r h
 obtain ⟨z,rfl,hz,q⟩:=h
 obtain ⟨u,rfl,t,rfl⟩:=vals1 r
 have hn:=yva
 exact len_str (by omega) ⟨.int z.length,H,I.tok _,⟨_,rfl⟩,q⟩
theorem CallR.or {f:Value}{r r':List V->Hp->VK->Prop}(h:CallR X f r) (h':CallR X f r'):CallR X f (fun xs H Q=>r xs H Q\/r' xs H Q):=by
 intro pins s σ H xs us Q I rs q
 rcases q with q|q
 .exact h pins s σ H xs us Q I rs q
 .exact h' pins s σ H xs us Q I rs q
theorem ycY:CallR X (.type "list") (fun xs H Q=>∃ p ys,xs=[.ref p]/\(SqL X.K H p ys\/SqT X.K H p ys)/\∀ l,H l=none->Q (.ref l) (upd H l (.lst ys))):=by
 intro pins s σ H xs us Q I r h
 obtain ⟨p,ys,rfl,hq,q⟩:=h
 obtain ⟨u,rfl,rx⟩:=vals1 r
 cases rx
 have fin:∀ (its:List Value),Vals ys its->ys.length<=sizeLine->∀ (h':Heap) (c':Nat),(∀ b o',s.heap.get? b=some o'->h'.get? b=some o') ->
   h'.get? s.heap.objs.size=some { cls:=.type "list",dict:=none,data:=.seq its.toArray c',slots:=#[] }->EP X pins σ Q (.ref s.heap.objs.size) { s with heap:=h' }:=fun its r' hz h' c' kp e =>
  ⟨.ref s.heap.objs.size,_,I.laid (t':=s.toks) kp (Nat.le_refl _) (show ObjOk X.prog X.w _ h' _ (.lst ys) from ⟨hz,its,c',r',e⟩),rfl,q _ (I.hok.fresh (Nat.le_refl _))⟩
 rcases hq with hq|hq
 .obtain ⟨its,r',pl,hz⟩:=I.list hq
  have hlen:=r'.length
  obtain ⟨o,ho,hc,n,hd⟩:=pl.isList
  exact call_list_seq p (.inl rfl) ho hc hd (fun h' c' kp e=>fin its r' hz h' c' kp e) (by simp only [List.size_toArray]<;>omega)
 .obtain ⟨its,r',pl,hz⟩:=I.tuple hq
  have hlen:=r'.length
  obtain ⟨o,ho,hc,n,hd⟩:=pl
  exact call_list_seq p (.inr rfl) ho hc hd (fun h' c' kp e=>fin its r' hz h' c' kp e) (by simp only [List.size_toArray]<;>omega)
noncomputable def tyV (K:PySem.W.Frag) (T:String) (x:V) (H:Hp):Prop:=match x with
 | .str _=>T = "str"
 | .int _=>T = "int"
 | .ref p=>(T = "list"/\∃ xs,SqL K H p xs)\/(T = "tuple"/\∃ o,K.lookup p=some o/\o.cls=.type "tuple"/\o.dict=none) \/
   (T = "dict"/\((∃ kvs,H p=some (.dK kvs))\/∃ kvs,H p=some (.dT kvs)))\/(T = "set"/\∃ S n,H p=some (.set S n))
 | _=>False
theorem yGb {pins:List (Addr×Obj)}{σ:St}{H:Hp}{s:Shared}{T:String}{x:V}{v:Value}(I:Inv X pins σ H s) (r:RelV x v) (ty:tyV X.K T x H) :
  s.TypeIs v T/\∀ a,v=.ref a->∃ ob,s.heap.get? a=some ob/\ob.dict=none:=by
 cases x with
 | str z =>
  obtain ⟨t,rfl⟩:=r
  cases (show T = "str" from ty)
  exact ⟨typeIs_str s z t,fun _ e=>nomatch e⟩
 | int i =>
  obtain ⟨t,rfl⟩:=r
  cases (show T = "int" from ty)
  exact ⟨typeIs_int s i t,fun _ e=>nomatch e⟩
 | ref p =>
  cases r
  rcases ty with ⟨rfl,xs,hq⟩|⟨rfl,o,hk,hc,hd⟩|⟨rfl,hk⟩|⟨rfl,S,n,hk⟩
  .obtain ⟨its,_,pl,_⟩:=I.list hq
   refine ⟨pl.isList.typeIs,fun a e=>?_⟩
   cases e
   obtain ⟨o,n,e,c,hd,_⟩:=pl
   exact ⟨o,e,hd⟩
  .refine ⟨⟨o,I.kIn p o hk,hc⟩,fun a e=>?_⟩
   cases e
   exact ⟨o,I.kIn _ o hk,hd⟩
  .have z:∃ o,s.heap.get? p=some o/\o.ExactDict:=by
    rcases hk with ⟨kvs,hk⟩|⟨kvs,hk⟩
    .obtain ⟨_,_,_,_,o,_,_,e,ex,_⟩:=I.hok p _ hk
     exact ⟨o,e,ex⟩
    .obtain ⟨_,_,_,_,o,_,_,e,ex,_⟩:=I.hok p _ hk
     exact ⟨o,e,ex⟩
   obtain ⟨o,e,ex⟩:=z
   refine ⟨⟨o,e,ex.1⟩,fun a e2=>?_⟩
   cases e2
   exact ⟨o,e,ex.2.1⟩
  .obtain ⟨o,_,_,_,e,ex,_⟩:=I.hok p _ hk
   refine ⟨⟨o,e,ex.1⟩,fun a e2=>?_⟩
   cases e2
   exact ⟨o,e,ex.2.1⟩
 | _=>exact False.elim ty
noncomputable def yOC (K:PySem.W.Frag) (T:String) (r:V->List V->Hp->VK->Prop) (to:TE):TE:=fun σ H Q=>to σ H fun x H1=>tyV K T x H1/\r x [] H1 Q
noncomputable def tBM (K:PySem.W.Frag) (T:String) (r:V->List V->Hp->VK->Prop) (to:TE) (t:TA):TE:=fun σ H Q=>to σ H fun x H1=>tyV K T x H1/\t σ H1 fun xs H2=>r x xs H2 Q
variable {o e:Expr}{es:List Expr}{to:TE}{t:TA}{name:Str}{apos cpos:Pos}{T id:String}{r:V->List V->Hp->VK->Prop}
theorem yJQ (pa:PlainAttrs T) (slot:Slot T name id) (hty:typeOf (.builtin id)=pure (.type "method_descriptor")) (hm:MtR X id r) (ho:PE X o to)
  (hbase:attributeBase o name X.env (eval o X.env)=eval o X.env:=by rfl) (hline:(apos.endLine == cpos.line)=true:=by rfl):PE X (.Call (.Attribute o name apos) [] [] cpos) (yOC X.K T r to):=by
 intro pins s σ H Q I h
 refine wpAny_Call_method0_late hbase hline (thn (ho pins s σ H _ I h) fun v s1 ⟨x,H1,I1,r1,ty,q1⟩=>?_)
 obtain ⟨h1,h2⟩:=yGb I1 r1 ty
 exact ⟨T,id,pa,slot,hty,h1,h2,Calls.callWith_builtin rfl (PySem.evalArgs_none (hm pins s1 σ H1 x [] v [] Q I1 r1 .nil q1))⟩
theorem yJR (pa:PlainAttrs T) (slot:Slot T name id) (hty:typeOf (.builtin id)=pure (.type "method_descriptor")) (hm:MtR X id r) (ho:PE X o to) (ha:PA X (e::es) t)
  (hbase:attributeBase o name X.env (eval o X.env)=eval o X.env:=by rfl)
  (hfew:((backTo cpos (starEach (e::es) X.env)).all (fun x=>!x.1) && (backToKw cpos (keywordEach [] X.env)).all (fun x=>x.1.isSome)
   && decide ((e::es).length+([]:List Keyword).length+(if ([]:List Keyword).isEmpty then 0 else 1)<30))=true:=by rfl)
  (hline:(apos.endLine == cpos.line)=true:=by rfl) (hs:starEach (e::es) X.env=(false,eval e X.env)::starEach es X.env:=by rfl) (hplain:(backTo cpos (starEach es X.env)).any (·.1)=false:=by rfl) :
  PE X (.Call (.Attribute o name apos) (e::es) [] cpos) (tBM X.K T r to t):=by
 intro pins s σ H Q I h
 refine wpAny_Call_method_late hbase hfew hline rfl (thn (ho pins s σ H _ I h) fun v s1 ⟨x,H1,I1,r1,ty,q1⟩=>?_)
 obtain ⟨h1,h2⟩:=yGb I1 r1 ty
 refine ⟨T,id,pa,slot,hty,h1,h2,?_⟩
 have hA:=ha cpos pins s1 σ H1 _ I1 q1
 rw [hs] at hA ⊢
 refine Calls.callWith_builtin (by show (false || (backTo cpos (starEach es X.env)).any (·.1))=false;rw [hplain]<;>rfl) (Calls.evalArgs_plain ?_)
 exact thn hA fun us s2 ⟨vs,H2,I2,r2,q2⟩=>hm pins s2 σ H2 x vs v us Q I2 r1 r2 q2
end
end L2
namespace L2
open PySem PySem.Spec PyProof.Rows
noncomputable def MtM (X:Cx) (id:String) (r:V->List V->Hp->VK->Prop):Prop :=
 ∀ (pins:List (Addr×Obj)) (s:Shared) (σ:St) (H:Hp) (x:V) (xs:List V) (v:Value) (us:List Value) (Q:VK),Inv X pins σ H s->RelV x v->Vals xs us->r x xs H Q ->
  wpAny (model X.prog X.w) X.A (call (.builtin id) (v::us)) (EP X pins σ Q) X.xe s
theorem Vals.one:∀ {x:V}{us:List Value},Vals [x] us->∃ u,us=[u]/\RelV x u
 | _,_,.cons r .nil=>⟨_,rfl,r⟩
theorem Vals.zero:∀ {us:List Value},Vals [] us->us=[]
 | _,.nil=>rfl
theorem Vals.rep {xs:List V}{us:List Value}(h:Vals xs us):∀ k:Nat,Vals (List.replicate k xs).flatten (List.replicate k us).flatten
 | 0=>.nil
 | k+1=>by
  rw [List.replicate_succ,List.replicate_succ,List.flatten_cons,List.flatten_cons]
  exact Vals.append h (Vals.rep h k)
section
variable {X:Cx}{pins:List (Addr×Obj)}{σ:St}{H:Hp}{s:Shared}{l b:Addr}{xs ys zs:List V}
theorem Inv.lset {its its':List Value}{n:Nat}{f:Array Value->Array Value}{t':Nat}(I:Inv X pins σ H s) (hH:H l=some (.lst xs))
  (e:s.heap.get? l=some { cls:=.type "list",data:=.seq its.toArray n }) (hf:f its.toArray=its'.toArray) (hv:Vals ys its') (hz:ys.length<=sizeLine) :
  Inv X pins σ (upd H l (.lst ys)) { s with heap:=s.heap.update l (Obj.mapSeq f),toks:=t' }:=by
 have q:=PySem.IsL.update e f
 rw [hf] at q
 refine I.write (x:=l) (e:=l) (by rw [hH];exact trivial) (.inl rfl) (fun b' u hb hu=>(Heap.get?_update_other s.heap (Obj.mapSeq f) (Ne.symm hb)).trans hu) ⟨_,q⟩ ?_
 exact ⟨hz,its',_,hv,q⟩
theorem Inv.lnew {its:List Value}{t':Nat}(I:Inv X pins σ H s) (hv:Vals ys its) (hz:ys.length<=sizeLine) :
  Inv X pins σ (upd H s.heap.objs.size (.lst ys)) { s with heap:=s.heap.push { cls:=.type "list",data:=.seq its.toArray },toks:=t' } :=
 I.laid (fun _ _ q=>Heap.get?_push_of_some _ q) (Nat.le_refl _) ⟨hz,its,0,hv,Heap.get?_push_size _ rfl⟩
theorem Inv.fresh (I:Inv X pins σ H s):H s.heap.objs.size=none:=I.hok.fresh (Nat.le_refl _)
theorem Inv.lstM (I:Inv X pins σ H s) (hH:H l=some (.lst xs)):xs.length<=sizeLine/\∃ (its:List Value) (n:Nat),Vals xs its/\xs.length=its.length/\s.heap.get? l=some { cls:=.type "list",data:=.seq its.toArray n }:=by
 obtain ⟨z,its,n,r,e⟩:=I.hok l _ hH
 exact ⟨z,its,n,r,r.length,e⟩
end
section
variable {X:Cx}
noncomputable def yxi:V->List V->Hp->VK->Prop:=fun x vs H Q=>∃ l xs y,x=.ref l/\vs=[y]/\H l=some (.lst xs)/\xs.length<sizeLine/\Q .non (upd H l (.lst (xs++[y])))
theorem ynZ:MtM X "list.append" yxi:=by
 intro pins s σ H x vs v us Q I rx rv h
 obtain ⟨l,xs,y,rfl,rfl,hH,hz,q⟩:=h
 cases rx
 obtain ⟨u,rfl,ru⟩:=rv.one
 obtain ⟨z,its,n,r,hl,e⟩:=I.lstM hH
 refine call_meets F.slot_list_append ⟨_,e,rfl⟩ F.entry_list_append (F.args_list_append_2 _ _) (PySem.list_append l its.toArray n u (by rw [List.size_toArray];omega)) ⟨e,?_⟩
 refine ⟨.non,_,I.lset (its':=its++[u]) hH e (by simp) (r.append (.cons ru .nil)) ?_,rfl,q⟩
 rw [List.length_append,List.length_singleton]
 omega
def yGc:V->List V->Hp->VK->Prop:=fun x vs H Q=>∃ l xs,x=.ref l/\vs=[]/\H l=some (.lst xs)/\Q .non (upd H l (.lst []))
theorem yEg:MtM X "list.clear" yGc:=by
 intro pins s σ H x vs v us Q I rx rv h
 obtain ⟨l,xs,rfl,rfl,hH,q⟩:=h
 cases rx
 have hus:=rv.zero
 subst hus
 obtain ⟨z,its,n,r,hl,e⟩:=I.lstM hH
 refine call_meets F.slot_list_clear ⟨_,e,rfl⟩ F.entry_list_clear (F.args_list_clear_1 _) (AutoSeq1.list_clear_list_0 l its.toArray n (by rw [List.size_toArray];omega)) ⟨e,?_⟩
 exact ⟨.non,_,I.lset (its':=[]) (ys:=[]) hH e rfl .nil (Nat.zero_le _),rfl,q⟩
noncomputable def yOD:R2:=fun x y H Q=>∃ l b xs zs,x=.ref l/\y=.ref b/\H l=some (.lst xs)/\H b=some (.lst zs)/\xs.length+zs.length<=sizeLine/\∀ p,H p=none->Q (.ref p) (upd H p (.lst (xs++zs)))
theorem yGd:OpR X (binaryOp .Add) yOD:=by
 intro pins s σ H x y v u Q I rx ry h
 obtain ⟨l,b,xs,zs,rfl,rfl,hH,hB,hz,q⟩:=h
 cases rx
 cases ry
 obtain ⟨z,its,n,r,hl,e⟩:=I.lstM hH
 obtain ⟨z2,its2,n2,r2,hl2,e2⟩:=I.lstM hB
 refine PySem.P.add_list e e2 ?_ (by rw [List.size_toArray,List.size_toArray];omega)
 have ea:its.toArray++its2.toArray=(its++its2).toArray:=by simp
 rw [ea]
 exact ⟨.ref _,_,I.lnew (t':=s.toks) (r.append r2) (by rw [List.length_append];omega),rfl,q _ I.fresh⟩
end
section
variable {prog:Program}{w:World}{A:Around}{E:Value->Shared->Prop}{s:Shared}
end
section
variable {X:Cx}
end
end L2
namespace Att
open PySem PySem.W PySem.Calls PyProof.Rows
theorem yqI {P:Params}{h:Heap}:∀ (ns:List Int) (vs:List Value),WellAll P h vs (ns.map WData.int)->IntsAre vs ns:=by
 intro ns
 induction ns with
 | nil =>
  intro vs w
  rw [List.map_nil] at w
  cases w
  exact .nil
 | cons n ns ih =>
  intro vs w
  rw [List.map_cons] at w
  cases w with
  | cons a b =>
   cases a
   exact .cons _ _ (ih _ b)
theorem yBG {l:OpenLaw}{n:Nat}(hn:l.most=some n) {P:Params}{h:Heap}{args:List WData}{vals:List Value}
  (hpre:l.row.toRowW.claim.pre args=true) (hwl:WellAll P h vals args) :
  ∃ a vs ns,vals=[Value.ref a]/\args=[WData.list (ns.map WData.int)]/\h.get? a=some { cls:=.type "list",data:=.seq vs.toArray }/\IntsAre vs ns/\ns.length<=n:=by
 have hsh:WShape.hasAll [] args [.list .int]=true:=(pre_splitW hpre).1
 have hc:l.pre.holds [] { args:=args }=true:=(pre_splitW hpre).2
 obtain ⟨d,r,rfl,h1,h2⟩:=hasAllW_cons hsh
 obtain rfl:=hasAllW_nil h2
 obtain ⟨xs,rfl,h3⟩:=hasW_list h1
 obtain ⟨ns,rfl⟩:=items_int h3
 have hlen:ns.length<=n:=by
  unfold OpenLaw.pre at hc
  have h4:(WTm.not (.lt (.lit (.int (n:Int))) (.len (.arg 0)))).holds [] { args:=[.list (ns.map .int)] }=true:=by
   have h4:=(holds_andW hc).1
   rw [hn] at h4
   exact h4
  have h5:=condW_of h4 (w_not (w_lt w_lit (w_len_list (w_arg rfl))))
  rw [List.length_map] at h5
  refine Nat.le_of_not_lt fun q=>?_
  have q':(n:Int)<((ns.length:Nat):Int):=by omega
  first
   | (rw [decide_eq_true q'] at h5;exact absurd h5 (by decide))
   | (simp at h5;omega)
 cases hwl with
 | cons w1 w2 =>
  cases w2
  cases w1 with
  | list ho hall=>exact ⟨_,_,ns,rfl,rfl,ho,yqI ns _ hall,hlen⟩
theorem yBH (l:OpenLaw) (args:List WData):l.row.toRowW.claim.post args (.bool true) args=true :=
 postW_of (r:=l.row.toRowW) (X:=(true == true))
  (show WShape.has [] (.bool true) .bool=true by first|rfl|decide|simp [WShape.has,WShape.arms,WShape.armsAll])
  (show (WTm.eq .res (.lit (.bool true))).value [] { args:=args,res:=some (.bool true),after:=args }=some (.bool (true == true)) from w_eq_bool (w_res rfl) w_lit) rfl
theorem attach_call {l:OpenLaw}{n:Nat}{q:Program}{loose:List Str}{XP:(Str->Option Value)->Heap->Prop}{YP:World->Heap->Prop}{d:DefRec}
  (hn:l.most=some n) (hdf:d.params.defaults=[])
  (call:∀ (w:World) (s₀ s₁:Shared) (mg mb:Str->Option Value) (fa:Addr) (o:Obj) (pm cd doc:Value) (a:Addr) (vs:List Value) (ns:List Int),
   Ground q loose [] XP w s₀ mg mb s₁.heap->YP w s₁.heap ->
   s₁.heap.get? fa=some o->o.data=.func (docDef d.name d.params d.body d.scope pm cd doc)->s₁.heap.CodeRec cd d.name->mg d.name=some (.ref fa) ->
   s₁.heap.get? a=some { cls:=.type "list",data:=.seq vs.toArray }->IntsAre vs ns->ns.length<=n->s₁.gens = #[] ->
   codeAny (model l.prog w) callerA (.call (.ref fa) ⟨[.ref a],[]⟩) (fun r s'=>r=.ok (.ret (.bool true))/\OldK s₁.heap s'.heap/\s'.os=s₁.os/\AllBare s'.gens) s₁) :
  WalkO q loose XP YP l.row.toRowW d [] (fun f vs=>PySem.call f vs):=by
 intro w s₀ s₁ mg mb G Y fa o pm cd doc dV kV ho hd hcd hD hmg hg args vals as hpre hlay hrd hwl hlo
 obtain rfl:dV=.none:=Dflts.none hD hdf
 obtain rfl:kV=.none:=Dflts.noKw hD
 obtain ⟨a,vs,ns,rfl,rfl,hobj,hints,hlen⟩:=yBG hn hpre hwl
 refine enter_call (codeAny_mono (call w s₀ s₁ mg mb fa o pm cd doc a vs ns G Y ho (fd_plain hd) hcd hmg hobj hints hlen hg) fun r s' hq=>?_)
 obtain ⟨rfl,h2,h3,h4⟩:=hq
 exact ⟨.inl ⟨.bool true,.bool true,[],rfl,fun _=>rfl,.bool true,yBH l _,fun _=>⟨List.Pairwise.nil,fun _ hm=>(nomatch hm)⟩⟩,h2,h3,h4⟩
section
variable {prog:Program}{w:World}{A:Around}{E:Value->Shared->Prop}{s:Shared}{K:Frag}
end
end Att
namespace L2
open PySem PySem.Spec PyProof.Rows
theorem yqJ:∀ {vs:List Value}{ns:List Int},IntsAre vs ns->Vals (ns.map V.int) vs
 | _,_,.nil=>.nil
 | _,_,.cons n t h=>.cons ⟨t,rfl⟩ (yqJ h)
def yMv (H:Hp):Prop:=∀ b,H b=none\/∃ o xs,H b=some (.frz o (.lst xs))
theorem yEh {P:Program}{w:World}{K:PySem.W.Frag}{mg mb:Str->Option Value}{CX:CXT}{k:Nat}{fa a:Addr}{fd:FuncData}{x:Str}{sp:Sp}{s₁:Shared}{vs:List Value}{ns:List Int}
  (KX:K.In s₁.heap) (hns:s₁.heap.Ns mainGlobals mg) (hb:s₁.heap.Ns builtinsNs mb) (hbb:∀ x:Str,x≠"__name__"->mb x=bootBuiltins x) (hlim:s₁.heap.NoLimit) (hg:s₁.gens = #[])
  (ha:s₁.heap.get? a=some { cls:=.type "list",data:=.seq vs.toArray }) (hi:IntsAre vs ns) (hl:ns.length<=sizeLine) (hr:Room k callerA)
  (F:∀ base:Heap,K.In base->base.Ns mainGlobals mg->FnOk P w K mg base CX k fa fd [x] sp) (hbind:∀ (s:Shared) (u:Value),BindsTo s fd ⟨[u],[]⟩ [(x,u)])
  (hsp:∀ H:Hp,yMv H->SqL K H a (ns.map V.int)->sp [.ref a] H (fun v _=>v=.bl true) fun _ _ _=>False)
  (hCX:∀ H e s',CX [] H s₁ (fun _ _ _=>False) e s'->False) :
  codeAny (model P w) callerA (.call (.ref fa) ⟨[.ref a],[]⟩) (fun r s'=>r=.ok (.ret (.bool true))/\OldK s₁.heap s'.heap/\s'.os=s₁.os/\AllBare s'.gens) s₁:=by
 have rv:=yqJ hi
 have lenV:=hi.length
 have core:∀ H:Hp,yMv H->SqL K H a (ns.map V.int)->HOk P w H s₁.heap->(∀ b,H b≠none->b=a)->(H a≠none->K.lookup a=none) ->
   codeAny (model P w) callerA (.call (.ref fa) ⟨[.ref a],[]⟩) (fun r s'=>r=.ok (.ret (.bool true))/\OldK s₁.heap s'.heap/\s'.os=s₁.os/\AllBare s'.gens) s₁:=by
  intro H hO hS hok hA hK
  have base_of:∀ {b:Addr}{o:Obj},s₁.heap.get? b=some o->H b=none->(yDQ s₁.heap H).get? b=some o:=fun e n=>yDR e n
  have noA:∀ {b:Addr}{o:Obj}{es:Array DictEntry}{ep:Nat},s₁.heap.get? b=some o->o.data=.dict es ep->H b=none:=fun {b o es ep} e d=>by
   cases q:H b with
   | none=>rfl
   | some u =>
    have e':b=a:=hA b (by rw [q];simp)
    subst e'
    rw [ha] at e;cases e
    have d':Data.seq vs.toArray _=Data.dict es ep:=d
    cases d'
  have nsK:∀ {b:Addr}{m:Str->Option Value},s₁.heap.Ns b m->(yDQ s₁.heap H).Ns b m:=fun {b m} ⟨o,es,ep,e,d,r⟩=>⟨o,es,ep,base_of e (noA e d),d,r⟩
  have hKb:K.In (yDQ s₁.heap H):=fun b o e=>base_of (KX b o e) (by
   cases q:H b with
   | none=>rfl
   | some u =>
    have e':b=a:=hA b (by rw [q];simp)
    subst e'
    rw [hK (by rw [q];simp)] at e;cases e)
  have hM:Mod K mg (yDQ s₁.heap H):=⟨hKb,nsK hns,⟨mb,nsK hb,hbb⟩,let ⟨mc,h1,h2⟩:=hlim;⟨mc,nsK h1,h2⟩⟩
  have e0:Env0 P w K mg (yDQ s₁.heap H) callerA [] s₁ H:=⟨rfl,hM,fun b o e=>yGN e,Nat.le_of_eq (yBj _ _),trivial,fun b hb=>absurd (show b∈([]:List Addr) from hb) (by simp),hok,.of_eq hg⟩
  refine codeAny_mono ((F _ hKb (nsK hns)).run callerA [] s₁ H ⟨[.ref a],[]⟩ [.ref a] [.ref a] _ _ hr e0 (hbind s₁ (.ref a)) (.cons rfl .nil) (hsp H hO hS)) fun r s' h=>?_
  cases r with
  | error e=>exact (hCX H e s' h).elim
  | ok fl =>
   cases fl with
   | next=>exact False.elim h
   | brk=>exact False.elim h
   | cont=>exact False.elim h
   | ret u =>
    obtain ⟨v,H',os,bare,un,hok',r',q⟩:=h
    have q':v=.bl true:=q
    subst q'
    obtain rfl:u=Value.bool true:=r'
    refine ⟨rfl,OldK.of_keep fun b o e=>?_,os,bare⟩
    cases q:H b with
    | none=>exact un.keep b o e q (by intro z;exact absurd (show b∈([]:List Addr) from z) (by simp)) (by simp)
    | some u =>
     rcases hO b with z|⟨ob,xs,z⟩
     .rw [q] at z;cases z
     .have z2:=un.frzs b ob _ z
      obtain ⟨e1,_⟩:=hok b _ z
      obtain ⟨e2,_⟩:=hok' b _ z2
      rw [e] at e1;cases e1
      exact e2
 cases hk:K.lookup a with
 | some o =>
  have e:=KX a o hk
  rw [ha] at e
  cases e
  refine core (fun _=>none) (fun _=>.inl rfl) (.inr ⟨_,vs.toArray,_,hk,rfl,rfl,rfl,by rw [List.size_toArray,lenV];exact hl,by simpa using rv⟩) (fun b u z=>by have z':(none:Option HO)=some u:=z;cases z') (fun b z=>absurd rfl z) fun z=>absurd rfl z
 | none =>
  refine core (fun b=>if b=a then some (.frz { cls:=.type "list",data:=.seq vs.toArray } (.lst (ns.map V.int))) else none) (fun b=>?_) (.inl (.inr ⟨{ cls:=.type "list",data:=.seq vs.toArray },if_pos rfl⟩)) (fun b u z=>?_) (fun b z=>?_) fun _=>hk
  .by_cases hb:b=a
   .exact .inr ⟨_,_,if_pos hb⟩
   .exact .inl (if_neg hb)
  .by_cases hb:b=a
   .have z':=(if_pos hb).symm.trans z
    cases z'
    subst hb
    exact ⟨ha,by rw [List.length_map];exact hl,vs,_,rv,ha⟩
   .have z':=(if_neg hb).symm.trans z
    cases z'
  .by_cases hb:b=a
   .exact hb
   .exact absurd (if_neg hb) z
end L2
namespace L2
open PySem PySem.Spec PyProof.Rows
theorem walk_of {l:PySem.W.OpenLaw}{n k:Nat}{q:Program}{loose:List Str}{XP:(Str->Option Value)->Heap->Prop}{YP:World->Heap->Prop}{d:DefRec}{K:Params->PySem.W.Frag}{CX:World->CXT}{sp:World->Sp}{x:Str}
  (hn:l.most=some n) (hn2:n<=sizeLine) (hdf:d.params.defaults=[]) (hr:Room k callerA)
  (hY:∀ (w:World) (h:Heap),YP w h->(K w.params).In h)
  (F:∀ (w:World) (mg:Str->Option Value) (fa:Addr) (h:Heap),(K w.params).In h->h.Ns mainGlobals mg->mg d.name=some (.ref fa) ->
   ∃ fd:FuncData,(∀ (s:Shared) (u:Value),BindsTo s fd ⟨[u],[]⟩ [(x,u)]) /\
    ∀ base:Heap,(K w.params).In base->base.Ns mainGlobals mg->FnOk l.prog w (K w.params) mg base (CX w) k fa fd [x] (sp w))
  (hsp:∀ (w:World) (H:Hp) (a:Addr) (ns:List Int),ns.length<=n->yMv H->SqL (K w.params) H a (ns.map V.int)->sp w [.ref a] H (fun v _=>v=.bl true) fun _ _ _=>False)
  (hCX:∀ (w:World) (H:Hp) (s:Shared) (e:Value) (s':Shared),CX w [] H s (fun _ _ _=>False) e s'->False) :
  PySem.W.WalkO q loose XP YP l.row.toRowW d [] (fun f vs=>PySem.call f vs):=by
 refine Att.attach_call hn hdf fun w s₀ s₁ mg mb fa o pm cd doc a vs ns G Y ho hd hcd hmg hobj hints hlen hg=>?_
 have KX:=hY w _ Y
 obtain ⟨fd,hb,hF⟩:=F w mg fa _ KX G.T.g hmg
 exact yEh KX G.T.g G.T.b G.T.builtins G.T.nolimit hg hobj hints (Nat.le_trans hlen hn2) hr hF hb (fun H hO hS=>hsp w H a ns hlen hO hS) fun H e s'=>hCX w H s₁ e s'
end L2
namespace L2
open PySem PySem.Spec PyProof.Rows
noncomputable def inClass (s:Stmt) (j:Nat):Stmt:=match s with
 | .ClassDef _ _ _ body _ _ _ _ _ _ _=>body.getD j (.Pass ⟨0,0,0,0⟩)
 | _=>.Pass ⟨0,0,0,0⟩
noncomputable def yh (s:Stmt):Arguments:=match s with
 | .FunctionDef _ a _ _ _ _ _ _ _ _=>a
 | _=>{ posonlyargs:=[],args:=[],vararg:=none,kwonlyargs:=[],kw_defaults:=[],kwarg:=none,defaults:=[] }
def yg (s:Stmt):List Stmt:=match s with
 | .FunctionDef _ _ b _ _ _ _ _ _ _=>b
 | _=>[]
noncomputable def yb (s:Stmt):Scope:=match s with
 | .FunctionDef _ _ _ _ _ _ sc _ _ _=>sc
 | _=>{ kind:=.function,names:=[],isGenerator:=false,isCoroutine:=false }
abbrev CX0:CXT:=fun _ _ _ _ _ _=>False
abbrev E0:XK:=fun _ _ _=>False
theorem yBI {X:Cx}:yqF CX0 X E0:=fun _ _ _ _ _ _ _ h=>h.elim
structure Fun (K:PySem.W.Frag) (x qual:Str) (st:Stmt) (f:Addr) (fd:FuncData):Prop where
 ex:∃ (oc:Value) (od:Option Addr) (kV doc pm:Value) (an:Option Addr) (cdv ct:Value) (osl:Array (Option Value)),
  fd=fnOf x qual (yh st) (yg st) (yb st) .none kV doc pm an cdv ct/\K.lookup f=some ⟨oc,od,.func fd,osl⟩/\codeIn K cdv qual=true
 kp:keepIn K (.ref f)=true
section
variable {P:Program}{w:World}{K:PySem.W.Frag}{mg:Str->Option Value}{base:Heap}
theorem Fun.ok {x qual:Str}{st:Stmt}{f:Addr}{fd:FuncData}{N ps:List Str}{k:Nat}{sp:Sp}(F:Fun K x qual st f fd) (S:yn N ps (yb st)) (len:∀ vs H Q E,sp vs H Q E->vs.length=ps.length)
  (hbody:∀ (cdv:Value) (A:Around) (outer:List Env) (s:Shared) (H:Hp) (vs:List V) (Q:VK) (E:XK),Room k (A.deeper (envOfC qual (yb st) s.heap.objs.size f cdv))->sp vs H Q E ->
   ∃ t,PSs (yFY CX0 P w K mg base N qual (yb st) f cdv A outer s H E).nox (yg st) t/\t { nx:=fun _ H'=>Q .non H',rt:=Q } (start N vs) H):FnOk P w K mg base CX0 (k+1) f fd ps sp:=by
 obtain ⟨oc,od,kV,doc,pm,an,cdv,ct,osl,rfl,lk,hcd⟩:=F.ex
 refine yMt lk hcd S len fun A outer s H vs Q E hr hsp=>?_
 obtain ⟨t,h,q⟩:=hbody cdv A outer s H vs Q E hr hsp
 exact ⟨t,h.nox,q⟩
theorem Fun.binds {x qual:Str}{st:Stmt}{f:Addr}{fd:FuncData}{ps:List Str}(F:Fun K x qual st f fd)
  (h:∀ (kV doc pm:Value) (an:Option Addr) (cdv ct:Value) (us:List Value),us.length=ps.length->bindArgs (fnOf x qual (yh st) (yg st) (yb st) .none kV doc pm an cdv ct) ⟨us,[]⟩=pure (ps.zip us)):Binds K fd ps []:=by
 obtain ⟨oc,od,kV,doc,pm,an,cdv,ct,osl,rfl,lk,hcd⟩:=F.ex
 exact .all (h kV doc pm an cdv ct)
theorem yA {x qual:Str}{st:Stmt}{f:Addr}{oc:Value}{od an:Option Addr}{osl:Array (Option Value)}{kV doc pm cdv ct:Value}(l:K.lookup f=some ⟨oc,od,.func (fnOf x qual (yh st) (yg st) (yb st) .none kV doc pm an cdv ct),osl⟩)
  (c:codeIn K cdv qual=true) (k:keepIn K (.ref f)=true):Fun K x qual st f (fnOf x qual (yh st) (yg st) (yb st) .none kV doc pm an cdv ct):=⟨⟨oc,od,kV,doc,pm,an,cdv,ct,osl,rfl,l,c⟩,k⟩
end
theorem yvj {n:Nat}(h:n<=1000):n<sizeLine:=Nat.lt_of_le_of_lt h (by decide)
section
variable {X:Cx}
end
def Same (H H':Hp):Prop:=∀ b o,H b=some o->H' b=some o
theorem Same.refl (H:Hp):Same H H:=fun _ _ h=>h
theorem Same.trans {H H1 H2:Hp}(a:Same H H1) (b:Same H1 H2):Same H H2:=fun c o h=>b c o (a c o h)
theorem Same.free {H H':Hp}(e:Same H H') {l:Addr}(h:H' l=Option.none):H l=Option.none:=by
 cases q:H l with
 | none=>rfl
 | some o =>
  rw [e l o q] at h
  cases h
theorem Same.seq {K:PySem.W.Frag}{H H':Hp}{a:Addr}{xs:List V}(e:Same H H') (h:SqL K H a xs):SqL K H' a xs:=by
 rcases h with (h|⟨o,h⟩)|h
 .exact .inl (.inl (e _ _ h))
 .exact .inl (.inr ⟨o,e _ _ h⟩)
 .exact .inr h
end L2
namespace L2
open PySem PySem.Spec PyProof.Rows
def cV:V->Option Value
 | .ty n=>some (.type n)
 | .ref a=>some (.ref a)
 | _=>none
def IsI (K:PySem.W.Frag) (H:Hp) (x c:V) (b:Bool):Prop:=∃ t u,yqx K H x t/\cV c=some u/\PySem.W.kitOne K t u=some b
theorem yxj {K:PySem.W.Frag}{H:Hp}{i:Int}:IsI K H (.int i) (.ty "int") true:=⟨_,_,.int i,rfl,by with_unfolding_all rfl⟩
theorem yvk {K:PySem.W.Frag}{H:Hp}{i:Int}:IsI K H (.int i) (.ty "bool") false:=⟨_,_,.int i,rfl,by with_unfolding_all rfl⟩
theorem yxk {K:PySem.W.Frag}{H:Hp}:IsI K H .non (.ty "int") false:=⟨_,_,.non,rfl,by with_unfolding_all rfl⟩
theorem yxl {K:PySem.W.Frag}{H:Hp}{i:Bool}:IsI K H (.bl i) (.ty "bool") true:=⟨_,_,.bl i,rfl,by with_unfolding_all rfl⟩
theorem yxm {K:PySem.W.Frag}{H:Hp}{i:Str}:IsI K H (.str i) (.ty "str") true:=⟨_,_,.str i,rfl,by with_unfolding_all rfl⟩
theorem yvl {K:PySem.W.Frag}{H:Hp}{a:Addr}{xs:List V}(e:H a=some (.lst xs)):IsI K H (.ref a) (.ty "list") true:=⟨_,_,.lst e,rfl,by with_unfolding_all rfl⟩
theorem str_len {v:Int}(h0:0<=v) {k:Nat}(hk:0<k) (h:v<10 ^ k):(Str.ofString (toString v)).length<=k:=toString_length_le h0 hk h
end L2
namespace L2
open PySem
abbrev yMw:R2:=rI0 fun i j=>.int (i+j)
abbrev yMx:R2:=rI0 fun i j=>.int (i-j)
abbrev yMy:R2:=rI CMul fun i j=>.int (i*j)
abbrev yMz:R2:=rI yOu fun i j=>.int (i/j)
abbrev yMA:R2:=rI (fun _ j=>0<j) fun i j=>.int (i%j)
abbrev yMB:R2:=rI yMr fun i j=>.int (i ^ j.toNat)
abbrev yOT:R2:=rI0 fun i j=>.bl (decide (i<j))
abbrev yOU:R2:=rI0 fun i j=>.bl (decide (i<=j))
abbrev yOV:R2:=rI0 fun i j=>.bl (decide (j<i))
abbrev yMC:V->Hp->VK->Prop:=rU fun i=>.int (-i)
def yMD:R2:=fun x y H Q=>∃ i j,x=.str i/\y=.str j/\i.length+j.length<=sizeLine/\Q (.str (i++j)) H
def yOW:R2:=fun x y H Q=>y=.non/\Q (.bl (decide (x=.non))) H
def yME:R2:=fun x y H Q=>y=.non/\Q (.bl (!decide (x=.non))) H
noncomputable def yMF:List V->Hp->VK->Prop:=fun xs H Q=>(∃ i,xs=[.int i]/\Q (.int i) H)\/∃ k,xs=[.bl k]/\Q (.int (if k then 1 else 0)) H
def yMG:List V->Hp->VK->Prop:=fun xs H Q=>∃ z,xs=[.str z]/\z.length<=sizeLine/\Q (.int z.length) H
noncomputable def yMH (K:PySem.W.Frag):List V->Hp->VK->Prop:=fun xs H Q=>∃ p ys,xs=[.ref p]/\(SqL K H p ys\/SqT K H p ys)/\Q (.int ys.length) H
def yJS:List V->Hp->VK->Prop:=fun xs H Q=>∃ i,xs=[.int i]/\i.natAbs.log2<1920/\Q (.str (toString i)) H
def yOE (K:PySem.W.Frag):List V->Hp->VK->Prop:=fun xs H Q=>∃ x c b,xs=[x,c]/\IsI K H x c b/\Q (.bl b) H
theorem yjc {H:Hp}{p:Addr}(h:H p=none) (o:HO):Same H (upd H p o):=fun b u q=>by rw [ybz (ydK q h)];exact q
section
variable {K:PySem.W.Frag}{σ:St}{H:Hp}{Q:VK}{ta tb tc:TE}{tA tB':TT}{t u:TS}{D:Ends}
theorem w_not {Q:Bool->Hp->Prop}:yMj tA σ H Q=tA σ H fun c H1=>Q (!c) H1:=rfl
end
end L2
namespace L2
open PySem
def yHk (cs:List Nat):Int:=cs.foldl (fun (a:Int) (c:Nat)=>a*10+((c:Int)-48)) 0
noncomputable def yJT:List V->Hp->VK->Prop:=fun xs H Q=>∃ x:Str,xs=[.str x]/\x.cps.toList≠[]/\(∀ c∈x.cps.toList,48<=c/\c<=57)/\x.length<=640/\Q (.int (yHk x.cps.toList)) H
def yOF:R2:=fun x y H Q=>∃ (c:Nat) (j:Str),x=.str ⟨#[c]⟩/\y=.str j/\Q (.bl (decide (c∈j.cps.toList))) H
noncomputable def rJoin:V->List V->Hp->VK->Prop:=fun x vs H Q=>∃ (sep:Str) (p:Addr) (ts:List Str),x=.str sep/\vs=[.ref p]/\H p=some (.lst (ts.map V.str))/\sep.length<=16/\(ts.map (·.length)).sum+ts.length<=1048576/\Q (.str (Str.join sep ts)) H
noncomputable def yOG:List V->Hp->VK->Prop:=fun xs H Q=>∃ (p:Addr) (bs:List Bool),xs=[.ref p]/\H p=some (.lst (bs.map V.bl))/\Q (.bl (bs.all id)) H
noncomputable def yOH:List V->Hp->VK->Prop:=fun xs H Q=>∃ (p:Addr) (ns:List Int),xs=[.ref p]/\H p=some (.lst (ns.map V.int))/\Q (.int ns.sum) H
noncomputable def yHl (K:PySem.W.Frag):List V->Hp->VK->Prop:=fun xs H Q=>∃ p ys,xs=[.ref p]/\(SqL K H p ys\/SqT K H p ys)/\∀ l,H l=none->Q (.ref l) (upd H l (.lst ys))
noncomputable def Its (z:Str):It:=⟨fun i _=>i<z.length,fun i H x H'=>H'=H/\∃ c,z.cps.toList[i]?=some c/\x=.str ⟨#[c]⟩,fun i _=>i=z.length⟩
def yOI (ta:TE):TI:=fun σ H R=>ta σ H fun x H1=>∃ z,x=.str z/\z.length<=sizeLine/\R (Its z) H1
noncomputable def yMI (J:It) (te:TE) (inn:V->St) (D:Addr) (Q:VK) (H:Hp):Prop:=∃ W:Nat->Nat->Hp->Prop,(∃ m,W 0 m H)/\∀ i m H,W i m H ->
 (J.stop i H/\Q (.ref D) H)\/(J.go i H/\∀ x H',J.yld i H x H'->te (inn x) H' fun y H2=>∃ acc,H2 D=some (.lst acc)/\acc.length<sizeLine/\∃ m',m'<m/\W (i+1) m' (upd H2 D (.lst (acc++[y]))))
def inner (ix:List Nat) (σ:St) (x:V):St:=some x::ix.map fun i=>(σ[i]?).getD none
noncomputable def yHm (wi:TI) (ix:List Nat) (te:TE):TE:=fun σ H Q=>wi σ H fun J H1=>∀ D,H1 D=none->yMI J te (inner ix σ) D Q (upd H1 D (.lst []))
section
variable {K:PySem.W.Frag}{σ:St}{H:Hp}{Q:VK}{ta tb tc:TE}{tA tB':TT}{t u:TS}{D:Ends}
end
end L2
namespace L2
open PySem
def yGe (C:Addr):TE:=fun _ H Q=>∀ x dx,H x=none->H dx=none->dx≠x->Q (.ref x) (upd (upd H dx (.own x)) x (.ins C dx []))
noncomputable def yGf {κ:Type}(A:κ->Addr) (m:Str) (sp:κ->Sp) (ta:TE):TE:=fun σ H Q=>ta σ H fun x H1=>∃ a k dx fs,x=.ref a/\H1 a=some (.ins (A k) dx fs)/\fs.lookup m=none/\sp k [x] H1 Q E0
theorem yMJ {k:Str}{v:V}{r:List (Str×V)}:List.lookup k ((k,v)::r)=some v:=by simp [List.lookup]
theorem yJU {k k':Str}{v:V}{r:List (Str×V)}(h:¬ k=k'):List.lookup k ((k',v)::r)=List.lookup k r:=by
 have:(k == k')=false:=by simpa using h
 simp [List.lookup,this]
section
variable {K:PySem.W.Frag}{σ:St}{H:Hp}{Q:VK}{ta tb tc:TE}{t u:TS}{D:Ends}
end
end L2
namespace L2
open PySem PySem.Builtin PySem.Builtin.Str
theorem at_one {z:Str}{c i:Nat}:StrLaws.At z ⟨#[c]⟩ z.length i ↔ z.cps.toList[i]?=some c:=by
 unfold StrLaws.At subAt
 have e1:(⟨#[c]⟩:Str).length=1:=rfl
 rw [e1]
 have e2:(z.cps.extract i (i+1) == (⟨#[c]⟩:Str).cps)=true ↔ z.cps.extract i (i+1) = #[c]:=by simp
 rw [e2]
 constructor
 .rintro ⟨h1,h2⟩
  have h3:(z.cps.extract i (i+1)).toList=[c]:=by rw [h2]
  rw [Array.toList_extract,List.extract_eq_take_drop] at h3
  have h4:((z.cps.toList.drop i).take (i+1-i))[0]?=some c:=by rw [h3];rfl
  rw [List.getElem?_take_of_lt (by omega),List.getElem?_drop] at h4
  simpa using h4
 .intro h
  obtain ⟨hlt,hc⟩:=List.getElem?_eq_some_iff.mp h
  have hl:i<z.length:=by simpa [Str.length] using hlt
  refine ⟨by omega,?_⟩
  apply Array.ext'
  rw [Array.toList_extract,List.extract_eq_take_drop]
  have e:i+1-i=1:=by omega
  rw [e,List.drop_eq_getElem_cons hlt,hc]
  rfl
theorem yHn (z:Str) (c:Nat):(occurrences z ⟨#[c]⟩ 0 z.length 1=[]/\c∉z.cps.toList)\/∃ r,occurrences z ⟨#[c]⟩ 0 z.length 1=z.cps.toList.idxOf c::r/\c∈z.cps.toList:=by
 rcases StrLaws.occ_head z ⟨#[c]⟩ 1 (Nat.le_refl _) with ⟨h1,h2⟩|⟨i,r,h1,h2,h3⟩
 .refine .inl ⟨h1,fun hc=>?_⟩
  obtain ⟨i,hi,e⟩:=List.getElem_of_mem hc
  exact h2 i (at_one.mpr (List.getElem?_eq_some_iff.mpr ⟨hi,e⟩))
 .have hi:=at_one.mp h2
  obtain ⟨hlt,hc⟩:=List.getElem?_eq_some_iff.mp hi
  have hm:c∈z.cps.toList:=List.mem_of_getElem? hi
  refine .inr ⟨r,?_,hm⟩
  have hj:z.cps.toList.idxOf c<z.cps.toList.length:=List.idxOf_lt_length_of_mem hm
  have hg:z.cps.toList[z.cps.toList.idxOf c]?=some c:=by
   rw [List.getElem?_eq_getElem hj,List.getElem_idxOf hj]
  have e:i=z.cps.toList.idxOf c:=by
   rcases Nat.lt_trichotomy i (z.cps.toList.idxOf c) with h|h|h
   .exact absurd hc (by
     have:=List.not_of_lt_findIdx (p:=(· == c)) (xs:=z.cps.toList) (i:=i) (by simpa [List.idxOf] using h)
     simpa using this)
   .exact h
   .exact absurd (at_one.mpr hg) (h3 _ h)
  rw [h1,e]
end L2
namespace L2
open PySem PySem.Spec PyProof.Rows
theorem yfF {env:Env}(y:Str):∀ names:List (Str×NameKind),
  (names.map fun (n,k)=>if (k == NameKind.free && env.scope.kind == .function && env.kindOf n == some .cell) then (n,NameKind.cell) else (n,k)).lookup y
   = (names.lookup y).map fun k=>if (k == NameKind.free && env.scope.kind == .function && env.kindOf y == some .cell) then NameKind.cell else k
 | []=>rfl
 | (n,k)::r=>by
  have ih:=yfF (env:=env) y r
  show List.lookup y ((if (k == NameKind.free && env.scope.kind == .function && env.kindOf n == some .cell)=true then (n,NameKind.cell) else (n,k))::_)=_
  cases hx:y == n with
  | true =>
   have e:y=n:=eq_of_beq hx
   subst e
   by_cases hc:(k == NameKind.free && env.scope.kind == .function && env.kindOf y == some .cell)=true
   .rw [if_pos hc]
    simp only [List.lookup_cons,hx,Option.map_some,if_pos hc]
   .rw [if_neg hc]
    simp only [List.lookup_cons,hx,Option.map_some,if_neg hc]
  | false =>
   by_cases hc:(k == NameKind.free && env.scope.kind == .function && env.kindOf n == some .cell)=true
   .rw [if_pos hc];simp only [List.lookup_cons,hx];exact ih
   .rw [if_neg hc];simp only [List.lookup_cons,hx];exact ih
theorem yjd {env:Env}:∀ (names:List (Str×NameKind)) (cs:List (Str×Addr)),(∀ n,(n,NameKind.free)∈names->∃ c,env.cells.lookup n=some c) ->
  ∃ cl,(forIn names cs (fun (x:Str×NameKind) (r:List (Str×Addr))=>if (x.2 == NameKind.free)=true then do let c <- cellOf env x.1;pure (ForInStep.yield ((x.1,c)::r)) else pure (ForInStep.yield r)):Sem (List (Str×Addr)))=pure cl /\
   (∀ y,(y,NameKind.free)∈names->cl.lookup y=env.cells.lookup y)/\(∀ y,(y,NameKind.free)∉names->cl.lookup y=cs.lookup y)
 | [],cs,_=>⟨cs,rfl,fun y h=>by simp at h,fun y _=>rfl⟩
 | (n,k)::r,cs,h=>by
  by_cases hk:k=.free
  .subst hk
   obtain ⟨c,hc⟩:=h n List.mem_cons_self
   obtain ⟨cl,e,h1,h2⟩:=yjd r ((n,c)::cs) fun y hy=>h y (List.mem_cons_of_mem _ hy)
   refine ⟨cl,?_,fun y hy=>?_,fun y hy=>?_⟩
   .rw [List.forIn_cons]
    have e0:cellOf env n=pure c:=by unfold cellOf;rw [hc]
    simp only [beq_self_eq_true,if_true,e0,pure_bind]
    exact e
   .by_cases hr:(y,NameKind.free)∈r
    .exact h1 y hr
    .rw [h2 y hr]
     rcases List.mem_cons.mp hy with z|z
     .cases z
      rw [hc];simp [List.lookup]
     .exact absurd z hr
   .have hr:(y,NameKind.free)∉r:=fun z=>hy (List.mem_cons_of_mem _ z)
    rw [h2 y hr]
    have hn:(y == n)=false:=by
     cases e:y == n with
     | false=>rfl
     | true=>exact absurd (by rw [eq_of_beq e];exact List.mem_cons_self) hy
    simp [List.lookup,hn]
  .obtain ⟨cl,e,h1,h2⟩:=yjd r cs fun y hy=>h y (List.mem_cons_of_mem _ hy)
   have hb:(k == NameKind.free)=false:=by simpa using hk
   refine ⟨cl,?_,fun y hy=>?_,fun y hy=>?_⟩
   .rw [List.forIn_cons]
    simp only [hb,Bool.false_eq_true,if_false,pure_bind]
    exact e
   .rcases List.mem_cons.mp hy with z|z
    .cases z;exact absurd rfl hk
    .exact h1 y z
   .exact h2 y fun z=>hy (List.mem_cons_of_mem _ z)
noncomputable def cxC (X:Cx) (scope:Scope) (cl:List (Str×Addr)) (C:Addr) (N:List Str) (s₃:Shared) (H₃:Hp) (fp:List Addr) (pins:List (Addr×Obj)):Cx :=
 { prog:=X.prog,w:=X.w,K:=X.K,mg:=X.mg,base:=X.base,A:=X.A,N:=N,s₀:=s₃,H₀:=H₃,env:=compEnvC scope cl C X.env,outer:=X.stack,stack:=X.stack,ex:=fp,fn:=fun _=>false,calm:=X.calm,pn:=X.pn++pins,xe:=fun _ _=>False }
noncomputable def FrOk (X:Cx) (scope:Scope):List Nat->List Str->Prop
 | [],[]=>True
 | i::is,y::ys=>X.N[i]?=some y/\scope.names.lookup y=some .free/\X.env.kindOf y=some .cell/\FrOk X scope is ys
 | _,_=>False
theorem FrOk.len {X:Cx}{scope:Scope}:∀ {is:List Nat}{ys:List Str},FrOk X scope is ys->is.length=ys.length
 | [],[],_=>rfl
 | _::is,_::ys,h=>by rw [List.length_cons,List.length_cons,FrOk.len h.2.2.2]
theorem FrOk.get {X:Cx}{scope:Scope}:∀ {is:List Nat}{ys:List Str}{j:Nat}{y:Str},FrOk X scope is ys->ys[j]?=some y->∃ i,is[j]?=some i/\X.N[i]?=some y/\scope.names.lookup y=some .free/\X.env.kindOf y=some .cell
 | [],[],_,_,_,e=>by simp at e
 | [],_::_,_,_,h,_=>h.elim
 | _::_,[],_,_,h,_=>h.elim
 | i::is,z::ys,0,y,h,e=>by
  simp at e
  subst e
  exact ⟨i,rfl,h.1,h.2.1,h.2.2.1⟩
 | i::is,z::ys,j+1,y,h,e=>by
  obtain ⟨k,h1,h2⟩:=FrOk.get (j:=j) h.2.2.2 (by simpa using e)
  exact ⟨k,by simpa using h1,h2⟩
theorem yHo {X:Cx}{elt iter:Expr}{x:Str}{px:Pos}{scope:Scope}{cpos:Pos}{wi:TI}{te:TE}(ix:List Nat) (fr:List Str) (hc:X.calm=true) (hi:PI X (.Name x px) iter wi) (hfr:FrOk X scope ix fr)
  (he:∀ (cl:List (Str×Addr)) (C:Addr) (s₃:Shared) (H₃:Hp) (fp:List Addr) (pins:List (Addr×Obj)),PE (cxC X scope cl C (x::fr) s₃ H₃ fp pins) elt te)
  (hnd:(x::fr).Nodup:=by rfl') (hkind:scope.kind=.function:=by rfl) (hcell:∀ y∈scope.names,y.2≠.cell:=by rfl')
  (hnames:∀ y∈scope.names,y.2=.local->scope.names.lookup y.1=some .local:=by rfl') (hfree0:∀ y∈scope.names,y.2=.free->y.1∈fr:=by rfl') (hx:scope.names.lookup x=some .local:=by rfl)
  (hs:∀ v,foldedSetIterable iter X.env v=pure v:=by intro _;rfl):PE X (.ListComp elt [⟨.Name x px,iter,[],0⟩] scope cpos) (yHm wi ix te):=by
 intro pins s σ H Q I h
 have hfn:X.env.scope.kind=.function:=I.ok.kind
 have hfree:∀ y∈scope.names,y.2=.free->X.env.kindOf y.1=some .cell/\scope.names.lookup y.1=some .free:=fun y hy e=>by
  obtain ⟨j,hj,ej⟩:=List.getElem_of_mem (hfree0 y hy e)
  obtain ⟨i,_,_,h3,h4⟩:=hfr.get (j:=j) (y:=y.1) (by rw [List.getElem?_eq_getElem hj,ej])
  exact ⟨h4,h3⟩
 obtain ⟨cl,ecl,hcl1,hcl2⟩:=yjd (env:=X.env) scope.names [] fun n hn=>I.ok.has n (.inl (hfree _ hn rfl).1)
 have hclos:closureFor scope X.env=pure cl:=by
  unfold closureFor
  have:(forIn scope.names ([]:List (Str×Addr)) (fun (x:Str×NameKind) (r:List (Str×Addr))=>if (x.2 == NameKind.free)=true then do let c <- cellOf X.env x.1;pure (ForInStep.yield ((x.1,c)::r)) else pure (ForInStep.yield r)):Sem (List (Str×Addr)))=pure cl:=ecl
  first
   | exact (by simpa using congrArg (· >>= fun r=>pure r) this)
   | (rw [show (pure cl:Sem (List (Str×Addr)))=(pure cl >>= fun r=>pure r) from rfl,<- this];rfl)
 have hcle:∀ y c,cl.lookup y=some c->X.env.cells.lookup y=some c/\(y,NameKind.free)∈scope.names:=fun y c e=>by
  by_cases hy:(y,NameKind.free)∈scope.names
  .exact ⟨by rw [<- hcl1 y hy];exact e,hy⟩
  .rw [hcl2 y hy] at e;simp at e
 rw [eval_ListComp]
 refine wpAny_comprehension_free (use:=none) rfl hs hclos hkind hnames ?_
 refine thn (hi pins s σ H _ I h) fun v s1 h1=>thn h1 fun itv s2 h2=>?_
 obtain ⟨it,fp,tn,J,H2,e,I2,T,st2,f2,q2⟩:=h2
 subst e
 refine wpAny_newObj_type ?_
 generalize hs3:({ s2 with heap:=s2.heap.push { cls:=.type "list",dict:=none,data:=.seq ([]:List Value).toArray } }:Shared)=s3
 generalize hD:s2.heap.objs.size=D
 have hDn:H2 D=none:=by rw [<- hD];exact I2.hok.fresh (Nat.le_refl _)
 have I3:Inv X pins σ (upd H2 D (.lst [])) s3:=by
  rw [<- hs3,<- hD]
  exact I2.lnew (t':=s2.toks) (ys:=[]) (its:=[]) .nil (Nat.zero_le _)
 have k3:∀ b o,s2.heap.get? b=some o->s3.heap.get? b=some o:=fun b o e=>by rw [<- hs3];exact Heap.get?_push_of_some _ e
 have st3:tn 0 s3.heap:=T.keep _ _ _ st2 fun b _ o e=>k3 b o e
 have fne:∀ b∈fp,b≠D:=fun b hb=>by
  obtain ⟨o,e,_⟩:=T.obj _ _ st2 b hb
  rw [<- hD]
  exact Nat.ne_of_lt (Heap.lt_size e)
 have f3:∀ b∈fp,yzH X pins (upd H2 D (.lst [])) b:=fun b hb=>⟨by rw [ybz (fne b hb)];exact (f2 b hb).1,(f2 b hb).2⟩
 have q3:=q2 D hDn
 generalize upd H2 D (.lst [])=H3 at I3 f3 q3
 obtain ⟨W,⟨m0,w0⟩,turn⟩:=q3
 refine wpAny_newFunctionEnv hcell (by intro y hy;simp at hy) (fun h4 hns hsb=>?_) hkind
 try dsimp only at hns hsb ⊢
 generalize hC:s3.heap.objs.size=C at hns hsb ⊢
 have k4:∀ b o,s3.heap.get? b=some o->h4.get? b=some o:=fun b o e=>(hsb.2 b (by rw [<- hC];exact Nat.ne_of_lt (Heap.lt_size e))).trans (Heap.get?_push_of_some _ e)
 have Cne:∀ b o,s3.heap.get? b=some o->b≠C:=fun b o e=>by rw [<- hC];exact Nat.ne_of_lt (Heap.lt_size e)
 have stk:=I3.stkSub
 have pinF:∀ p∈X.pn++pins,p.1∉frs X.stack:=fun p hp z=>by
  obtain ⟨_,_,n1,n2,_⟩:=I3.pin p hp
  rcases List.mem_cons.mp (stk _ z) with z|z
  .exact n1 z
  .exact n2 z
 have okC:(cxC X scope cl C (x::fr) s3 H3 fp pins).Ok:=by
  refine ⟨I3.ok.mod,by show (relabel scope X.env).kind=_;exact hkind,I3.ok.glob,I3.ok.blt,Nat.le_of_eq hC,fun y z c h1 h2=>I3.ok.inj y z c (hcle y c h1).1 (hcle z c h2).1,fun y hy=>?_,fun y c hf _=>(by cases hf),I3.ok.hd,I3.ok.frames,.inl rfl,fun b hb=>⟨?_,fun y c e z=>?_⟩,I3.bs,?_,fun b o e hb=>?_,fun b hb z=>?_,I3.stack,I3.stkFree⟩
  .have hy:((relabel scope X.env).names.lookup y=some .cell)\/((relabel scope X.env).names.lookup y=some .free):=hy
   rw [show (relabel scope X.env).names.lookup y=_ from yfF y scope.names] at hy
   cases e:scope.names.lookup y with
   | none=>rw [e] at hy;simp at hy
   | some k =>
    have hm:(y,k)∈scope.names:=PySem.mem_of_lookup e
    have hkf:k=.free:=by
     rw [e] at hy
     cases k<;>simp at hy ⊢
     exact absurd rfl (hcell _ hm)
    subst hkf
    obtain ⟨c,hc'⟩:=I3.ok.has y (.inl (hfree _ hm rfl).1)
    exact ⟨c,by show cl.lookup y=_;rw [hcl1 y hm];exact hc'⟩
  .obtain ⟨o,e,_⟩:=T.obj _ _ st3 b hb
   exact Cne b o e
  .exact (f3 b hb).2.2.2.2.1 y c (hcle y c e).1 z
  .exact Nat.le_trans I3.ok.bsz I3.sz
  .rcases (f3 b hb).2.2.2.1 with z|z
   .exact I3.ok.noex b o e z
   .exact absurd (Nat.lt_of_lt_of_le (Heap.lt_size e) (Nat.le_trans I3.ok.bsz z)) (Nat.lt_irrefl _)
  .rcases List.mem_cons.mp (stk _ z) with z|z
   .exact (f3 b hb).2.1 z
   .exact (f3 b hb).2.2.1 z
 have inn:∀ v,(inner ix σ v)=some v::ix.map fun i=>(σ[i]?).getD none:=fun _=>rfl
 have I4:Inv (cxC X scope cl C (x::fr) s3 H3 fp pins) [] (none::ix.map fun i=>(σ[i]?).getD none) H3 { s3 with heap:=h4,toks:=s3.toks+([]:List (Str×Value)).length }:=by
  refine ⟨okC,rfl,I3.bare,Un.kept k4,⟨_,hns,fun j y v e1 e2 e3=>?_⟩,fun y c e=>?_,I3.hok.fresh (Nat.le_of_eq hC),fun y c e=>I3.freeC y c (hcle y c e).1,fun p hp=>?_,I3.hok.kept k4,?_⟩
  .match j,e1,e2 with
   | 0,e1,e2=>simp at e2
   | j+1,e1,e2 =>
    obtain ⟨i,hi1,hi2,hi3,hi4⟩:=hfr.get (j:=j) (y:=y) (by have e1':(x::fr)[j+1]?=some y:=e1;simpa using e1')
    have e2':σ[i]?=some (some v):=by
     have e2:(ix.map fun i=>(σ[i]?).getD none)[j]?=some (some v):=by simpa using e2
     rw [List.getElem?_map,hi1] at e2
     simp at e2
     cases z:σ[i]? with
     | none=>rw [z] at e2;simp at e2
     | some o=>rw [z] at e2;simp at e2;rw [e2]
    obtain ⟨m,_,hl⟩:=I3.loc
    obtain ⟨u,r,l⟩:=hl i y v hi2 e2' (.inr (.inl hi4))
    refine ⟨u,r,?_⟩
    rcases l with ⟨k,_⟩|⟨k,c,ec,z⟩
    .rw [hi4] at k;cases k
    .have hm:(y,NameKind.free)∈scope.names:=PySem.mem_of_lookup hi3
     refine .inr ⟨.inl ?_,c,by show cl.lookup y=_;rw [hcl1 y hm];exact ec,?_⟩
     .show (relabel scope X.env).names.lookup y=_
      rw [show (relabel scope X.env).names.lookup y=_ from yfF y scope.names,hi3]
      simp [hfn,hi4]
     .obtain ⟨o,ho,hd⟩:=z
      exact ⟨o,k4 _ _ ho,hd⟩
  .obtain ⟨v,o,ho,hd⟩:=I3.cell y c (hcle y c e).1
   exact ⟨v,o,k4 _ _ ho,hd⟩
  .have hp:p∈X.pn++pins:=by simpa [cxC] using hp
   obtain ⟨e,n,ne,nf,d⟩:=I3.pin p hp
   exact ⟨k4 _ _ e,n,Cne _ _ e,pinF p hp,d⟩
  .show (none::ix.map fun i=>(σ[i]?).getD none).length=(x::fr).length
   rw [List.length_cons,List.length_cons,List.length_map,hfr.len]
 have st4:tn 0 h4:=T.keep _ _ _ st3 fun b _ o e=>k4 b o e
 have f4:∀ b∈fp,b≠C/\b∉frs X.stack/\(∀ y c,cl.lookup y=some c->c≠b)/\∀ p∈(X.pn++pins)++([]:List (Addr×Obj)),p.1≠b:=fun b hb=>by
  obtain ⟨o,e,_⟩:=T.obj _ _ st3 b hb
  refine ⟨Cne b o e,fun z=>?_,fun y c e=>(f3 b hb).2.2.2.2.1 y c (hcle y c e).1,fun p hp=>(f3 b hb).2.2.2.2.2 p (by simpa using hp)⟩
  rcases List.mem_cons.mp (stk _ z) with z|z
  .exact (f3 b hb).2.1 z
  .exact (f3 b hb).2.2.1 z
 have stat:∀ {H':Hp},(∀ b∈fp,H' b=none)->∀ b∈fp,yzH (cxC X scope cl C (x::fr) s3 H3 fp pins) [] H' b:=fun hn b hb=>⟨hn b hb,(f4 b hb).1,(f4 b hb).2.1,.inl hb,(f4 b hb).2.2.1,(f4 b hb).2.2.2⟩
 have fin:∀ {σ':St}{H':Hp}{s':Shared},Inv (cxC X scope cl C (x::fr) s3 H3 fp pins) [] σ' H' s'->Q (.ref D) H'->compPost (model X.prog X.w) X.A X.xe none (EP X pins σ Q) (.ref D) C (.ok .next) s':=fun {σ' H' s'} I' q'=>by
  obtain ⟨m,hn,_⟩:=I'.loc
  refine ⟨m,hn,fun h' sb=>⟨.ref D,H',?_,rfl,q'⟩⟩
  have hCn:H' C=none:=I'.free
  have same:∀ b,b≠C->h'.get? b=s'.heap.get? b:=fun b hb=>sb.2 b hb
  have U:=I'.base
  have U':Un (frs X.stack) fp H3 H' s3.heap h':=by
   refine ⟨fun b o e n h1 h2=>?_,fun b o e n h1 h2=>?_,U.free,fun b o e h2=>?_,U.tups,U.frzs,U.tbls⟩
   .rw [same b (Cne b o e)];exact U.keep b o e n h1 h2
   .rw [same b (Cne b o e)];exact U.slot b o e n h1 h2
   .rw [same b (Cne b o e)];exact U.there b o e h2
  refine I3.call' (s':={ s' with heap:=h' }) (by show s'.os=s3.os;exact I'.os) U' ?_ I'.bare fun b hb=>⟨(f3 b hb).2.2.2.1,(f3 b hb).2.1,(f3 b hb).2.2.2.2.1,(f3 b hb).2.2.2.2.2⟩
  intro b ob e
  refine (I'.hok b ob e).stay (fun c w' hc q=>?_) (fun _ q=>q) fun _ _ q=>q
  show h'.get? c=_
  rw [same c ?_]
  .exact q
  rintro rfl
  rcases hc with rfl|hc
  .rw [hCn] at e;cases e
  .rw [hCn] at hc;cases hc
 have loop:∀ s5:Shared,s5={ s3 with heap:=h4,toks:=s3.toks+([]:List (Str×Value)).length } ->
   codeAny (model X.prog X.w) X.A (.compLoop (.ListComp elt [⟨.Name x px,iter,[],0⟩] scope cpos) 0 (.ref it) (.ref D) (compEnvC scope cl C X.env)) (compPost (model X.prog X.w) X.A X.xe none (EP X pins σ Q) (.ref D) C) s5:=by
  rintro s5 rfl
  refine codeAny_loop rfl (fun n s'=>∃ i o H',Inv (cxC X scope cl C (x::fr) s3 H3 fp pins) [] (o::ix.map fun i=>(σ[i]?).getD none) H' s'/\tn i s'.heap/\(∀ b∈fp,H' b=none)/\W i n H') ?_ m0 ⟨0,none,H3,I4,st4,fun b hb=>(f3 b hb).1,w0⟩
  rintro n s6 ⟨i,o,H6,I6,st6,fr6,w6⟩
  show wpAny _ _ ((compTurn (.ListComp elt [⟨.Name x px,iter,[],0⟩] scope cpos) 0 (.ref it) (.ref D) (compEnvC scope cl C X.env)).onRaise (fun x=>do noteFrame x (compEnvC scope cl C X.env);theTreesLotGoes x)) _ _ s6
  refine wpAny_noted ?_
  rw [compTurn_list1]
  rcases turn i n H6 w6 with ⟨stop,qn⟩|⟨go,step⟩
  .refine wpAny_bind (wpAny_standAt (wpAny_bind (thn (T.done (cxC X scope cl C (x::fr) s3 H3 fp pins) rfl rfl rfl hc i [] s6 _ H6 _ I6 (stat fr6) st6 stop) fun r s7 ⟨hr,I7⟩=>?_)))
   subst hr
   exact wpAny_pure (fin I7 qn)
  .refine wpAny_bind (wpAny_standAt (wpAny_bind (thn (T.item (cxC X scope cl C (x::fr) s3 H3 fp pins) rfl rfl rfl hc i [] s6 _ H6 _ I6 (stat fr6) st6 go) fun r s7 ⟨u,hr,h7⟩=>?_)))
   subst hr
   refine wpAny_bind (thn h7 fun _ s8 ⟨y,H8,I8,r8,y8,st8,fr8⟩=>?_)
   have I8':=I8.pinned (stat fr8) (T.obj _ _ st8)
   have hx':Loc (cxC X scope cl C (x::fr) s3 H3 fp pins).env.scope x:=.inl (lookup_relabel_local hx)
   refine wpAny_bind (wpAny_mono (ytt (X:=cxC X scope cl C (x::fr) s3 H3 fp pins) (i:=0) (x:=x) (pos:=px) hnd rfl hx' (.inr (lookup_relabel_local hx)) _ s8 _ H8 y u (fun σ9 H9=>σ9=inner ix σ y/\H9=H8) I8' r8 ⟨rfl,rfl⟩) (fun _ s9 ⟨σ9,H9,I9,e9,e9'⟩=>?_) fun _ _ f=>f.elim)
   subst e9 e9'
   refine wpAny_bind (wpAny_bind (wpAny_mono (he cl C s3 H3 fp pins _ s9 _ _ _ I9 (step y _ y8)) (fun v s10 ⟨z,H10,I10,r10,acc,a10,l10,m',hm',w10⟩=>?_) fun _ _ f=>f.elim))
   refine wpAny_bind (wpAny_mono (ynZ (X:=cxC X scope cl C (x::fr) s3 H3 fp pins) _ s10 _ H10 (.ref D) [z] (.ref D) [v] (fun _ H11=>H11=upd H10 D (.lst (acc++[z]))) I10 rfl (.cons r10 .nil) ⟨D,acc,z,rfl,rfl,a10,l10,rfl⟩) (fun _ s11 ⟨_,H11,I11,_,e11⟩=>?_) fun _ _ f=>f.elim)
   subst e11
   refine wpAny_pure (wpAny_pure ⟨rfl,m',hm',i+1,some y,_,I11.unpinned,T.keep _ _ _ st8 fun b hb o e=>(I11.pin (b,o) (List.mem_append_right _ (List.mem_append_right _ (ygM hb e)))).1,fun b hb=>?_,w10⟩)
   obtain ⟨o,e,d⟩:=T.obj _ _ st8 b hb
   exact (I11.pin (b,o) (List.mem_append_right _ (List.mem_append_right _ (ygM hb e)))).2.1
 exact codeAny_compStart_list (loop _ rfl) (T.self X.A 0 _ _ _ st4 (loop _ rfl))
end L2
namespace L2
open PySem PySem.Spec PyProof.Rows
theorem yEi {P:Program}{w:World}{K:PySem.W.Frag}{tg:Expr}{ty:String}(hty:ty = "str_ascii_iterator"\/ty = "str_iterator") (z:Str) (t:Tok) (it:Addr):Turn P w K tg (Its z) [it] it (fun i h=>h.IsStrIter it ty z t i) where
 mem:=by simp
 obj:=fun i h st b hb=>by
  have e:b=it:=by simpa using hb
  subst e
  obtain ⟨o,e,c,d⟩:=st
  exact ⟨o,e,fun v q=>by rw [d] at q;cases q⟩
 keep:=fun i h h' st k=>by
  obtain ⟨o,e,c,d⟩:=st
  exact ⟨o,k it (by simp) o e,c,d⟩
 item:=by
  intro X hP hw hK hc i pins s σ H E I hf st hg
  subst hP hw hK
  obtain ⟨f0,f1,f2,f3,f4,f5⟩:=hf it (by simp)
  have hg:i<z.length:=hg
  obtain ⟨ch,hz⟩:∃ ch,z.cps[i]?=some ch:=⟨_,Array.getElem?_eq_getElem (show i<z.cps.size from hg)⟩
  have fin:∀ h',h'.IsStrIter it ty z t (i+1)->Heap.SameBut it s.heap h'->∃ u,some (Value.str ⟨#[ch]⟩ s.toks)=some u /\
    wpAny (model X.prog X.w) X.A (letOwnedTupleGo tg (.ref it) u) (fun _ s2=>∃ x H',Inv X pins σ H' s2/\RelV x u/\(Its z).yld i H x H'/\s2.heap.IsStrIter it ty z t (i+1)/\∀ b∈[it],H' b=none) E { s with heap:=h',toks:=s.toks+1 }:=fun h' st' sb=>by
   have I1:Inv X pins σ H { s with heap:=h',toks:=s.toks+1 }:=I.turned (t':=s.toks+1) (fun b o hb e=>(sb.2 b hb).trans e) f0 f1 f3 f4 f5
   obtain ⟨o,e,c,d⟩:=id st'
   refine ⟨_,rfl,yDW (s:={ s with heap:=h',toks:=s.toks+1 }) e c d (by rcases hty with rfl|rfl<;>decide) ⟨.str ⟨#[ch]⟩,H,I1,⟨_,rfl⟩,⟨rfl,_,by simpa using hz,rfl⟩,st',fun b hb=>(hf b hb).1⟩⟩
  rcases hty with rfl|rfl
  .exact wpAny_pyNext_ascii_item st hz fun h' st' sb=>fin h' st' sb
  .exact wpAny_pyNext_wide_item st hz fun h' st' sb=>fin h' st' sb
 done:=by
  intro X hP hw hK hc i pins s σ H E I hf st hg
  subst hP hw hK
  obtain ⟨f0,f1,f2,f3,f4,f5⟩:=hf it (by simp)
  have hg:i=z.length:=hg
  have hz:z.cps[i]?=none:=by simp [hg,Str.length]
  rcases hty with rfl|rfl
  .exact wpAny_pyNext_ascii_end (I.ok.hd hc) st hz fun h' eb=>⟨rfl,I.turned (t':=s.toks) (fun b o hb e=>eb b o hb e) f0 f1 f3 f4 f5⟩
  .exact wpAny_pyNext_wide_end (I.ok.hd hc) st hz fun h' eb=>⟨rfl,I.turned (t':=s.toks) (fun b o hb e=>eb b o hb e) f0 f1 f3 f4 f5⟩
 self:=fun _ _ _ _ _ st h=>by
  rcases hty with rfl|rfl
  .exact wpAny_pyIter_striter_ascii st h
  .exact wpAny_pyIter_striter_wide st h
section
variable {X:Cx}{tg:Expr}
theorem yJV {l:Expr}{tl:TE}(hl:PE X l tl):PI X tg l (yOI tl):=by
 intro pins s σ H R I h
 refine thn (hl pins s σ H _ I h) fun v s1 ⟨x,H1,I1,r1,q1⟩=>?_
 obtain ⟨z,e,hz,q⟩:=q1
 subst e
 obtain ⟨t,rfl⟩:=r1
 have fin:∀ ty,(ty = "str_ascii_iterator"\/ty = "str_iterator")->PIE X pins σ tg R (.ref s1.heap.objs.size) { s1 with heap:=s1.heap.push { cls:=.type ty,data:=.fields #[.str z t,.int 0 0] } }:=fun ty hty=>by
  refine ⟨s1.heap.objs.size,[s1.heap.objs.size],_,_,H1,rfl,I1.kept (t':=s1.toks) fun b o e=>Heap.get?_push_of_some _ e,yEi hty z t _,⟨_,Heap.get?_push_size _ rfl,rfl,rfl⟩,fun b hb=>?_,q⟩
  have e:b=s1.heap.objs.size:=by simpa using hb
  subst e
  exact I1.fpOk (Nat.le_refl _) (I1.hok.fresh (Nat.le_refl _))
 cases ha:z.cps.all (· < 128)
 .exact wpAny_pyIter_wide ha (fin _ (.inr rfl))
 .exact wpAny_pyIter_ascii ha (fin _ (.inl rfl))
theorem yyS:∀ {bs:List Bool}{us:List Value},Vals (bs.map V.bl) us->us=bs.map Value.bool
 | [],_,.nil=>rfl
 | b::bs,_,.cons r t=>by rw [show _=Value.bool b from r,yyS t];rfl
theorem yEj (hc:X.calm=true):CallR X (.builtin "all") yOG:=by
 intro pins s σ H xs us Q I r h
 obtain ⟨p,bs,rfl,hp,q⟩:=h
 obtain ⟨u,rfl,rx⟩:=vals1 r
 cases rx
 obtain ⟨its,n,rv,e,hz⟩:=I.lst hp
 have eb:=yyS rv
 subst eb
 have hl:s.heap.IsList p (bs.map Value.bool).toArray:=⟨_,e,rfl,n,rfl⟩
 have hlt:p<s.heap.objs.size:=Heap.lt_size e
 refine call_all_walk (wpAny_pyIter_list hl ?_)
 refine ⟨s.heap.objs.size,[s.heap.objs.size,p],[s.heap.objs.size],(bs.map Value.bool).toArray.size,_,_,fun i=>(bs[i]?).getD true,rfl,Walks.list (A:=X.A.in1) (I.ok.hd hc) _ p (Nat.ne_of_lt hlt) _,
  ⟨⟨_,Heap.get?_push_size _ rfl,rfl,rfl⟩,hl.push _⟩,fun i v s' Q' E' hP hQ=>?_,fun h' tk hk=>?_⟩
 .have hP:(bs.map Value.bool)[i]?=some v:=by simpa using hP
  rw [List.getElem?_map] at hP
  cases eb:bs[i]? with
  | none=>rw [eb] at hP;cases hP
  | some b =>
   rw [eb] at hP
   cases hP
   simp only [eb,Option.getD_some] at hQ
   exact wpAny_truthy_bool hQ
 .have ea:((List.range (bs.map Value.bool).toArray.size).all fun i=>(bs[i]?).getD true)=bs.all id:=by
   rw [List.size_toArray,List.length_map]
   exact LSm.range_all bs
  rw [ea]
  exact ⟨.bl _,H,I.kept (t':=tk) fun b o eo=>hk b o (fun hm=>by rw [List.mem_singleton.mp hm] at eo;exact absurd (Heap.lt_size eo) (Nat.lt_irrefl _)) (Heap.get?_push_of_some _ eo),rfl,q⟩
theorem yty (hc:X.calm=true):CallR X (.builtin "sum") yOH:=by
 intro pins s σ H xs us Q I r h
 obtain ⟨p,ns,rfl,hp,q⟩:=h
 obtain ⟨u,rfl,rx⟩:=vals1 r
 cases rx
 obtain ⟨its,n,rv,e,hz⟩:=I.lst hp
 have hi:IntsAre its ns:=intsAre_of rv
 have hl:s.heap.IsList p its.toArray:=⟨_,e,rfl,n,rfl⟩
 obtain ⟨xs,hx⟩:=hi.allInts.items
 have hl':s.heap.IsList p (intItems xs):=hx ▸ hl
 refine sum_intListG (I.ok.hd hc) hl' fun h' tk t' hk=>?_
 have e1:ns=xs.toList.map (·.1):=by
  rw [<- nums_intItems,<- hx]
  exact (show numsOf its.toArray.toList=ns from hi.numsOf).symm
 have e2:preSum (numAt xs) xs.size=ns.sum:=by
  rw [preSum_eq,List.take_of_length_le (by simp),e1]
 rw [e2]
 exact ⟨.int ns.sum,H,I.kept (t':=tk) hk,⟨_,rfl⟩,q⟩
theorem yBJ:∀ {ts:List Str}{us:List Value},Vals (ts.map V.str) us->StrsAre us ts
 | [],_,.nil=>.nil
 | y::ts,_,.cons r t=>by
  obtain ⟨k,e⟩:=(show ∃ t,_=Value.str y t from r)
  rw [e]
  exact .cons y k (yBJ t)
theorem ygO:MtR X "str.join" rJoin:=by
 intro pins s σ H x xs v us Q I rx rv h
 obtain ⟨sep,p,ts,rfl,rfl,hp,h1,h2,q⟩:=h
 obtain ⟨t,rfl⟩:=rx
 obtain ⟨u,rfl,ru⟩:=vals1 rv
 cases ru
 obtain ⟨its,n,r,e,hz⟩:=I.lst hp
 have hl:s.heap.IsList p its.toArray:=⟨_,e,rfl,n,rfl⟩
 refine join_listW hl (yBJ r) h1 h2 fun t' k=>⟨.str (Str.join sep ts),H,I.tok k,⟨t',?_⟩,q⟩
 show Value.str (Txt.join sep ts) t'=Value.str (Str.join sep ts) t'
 rw [show Txt.join sep ts=Str.join sep ts from StrLaws.glued_eq_join sep ts]
theorem yvm:OpR X (compareOp .In) yOF:=by
 intro pins s σ H x y v u Q I rx ry h
 obtain ⟨c,j,rfl,rfl,q⟩:=h
 refine yBv pins s σ H _ _ v u Q I rx ry ⟨_,_,rfl,rfl,?_⟩
 have e:(!(Builtin.Str.occurrences j ⟨#[c]⟩ 0 j.length 1).isEmpty)=decide (c∈j.cps.toList):=by
  rcases yHn j c with ⟨h1,h2⟩|⟨r,h1,h2⟩
  .rw [h1];simp [h2]
  .rw [h1];simp [h2]
 rw [e]
 exact q
theorem yEk {C:Addr}{x:Str}{p pos:Pos}(hm:makesIn X.K C=true) (hi:findIn X.K (.ref C) "__init__" = some (some (.builtin "object.__init__"))) (hk:keepIn X.K (.ref C)=true)
  (hg:Gl X x) (hmg:X.mg x=some (.ref C)) (hdb:(x == ("__debug__":Str))=false:=by decide):PE X (.Call (.Name x p) [] [] pos) (yGe C):=by
 intro pins s σ H Q I h
 refine wpAny_Call_Name_kw (yts I hg hmg ?_ hdb)
 refine PySem.W.callWith_K0 I.kIn hk (wpAny_call ?_)
 have I2:=Inv.made (C:=C) I
 have q:=h (s.heap.objs.size+1) s.heap.objs.size (I.hok.fresh (Nat.le_succ _)) (I.hok.fresh (Nat.le_refl _)) (Nat.ne_of_lt (Nat.lt_succ_self _))
 have kin:=I.kIn
 obtain ⟨hh,g,d,t,os⟩:=s
 have Y:=PySem.W.makes_of (M:=model X.prog X.w) kin hm
 refine PySem.W.make_core Y (PySem.W.looks_findIn kin hi) (fun self=>PySem.W.Looks.of_pure (PySem.W.oi_bind self)) (.inr ⟨rfl,rfl⟩) ?_
 have e1:((hh.push emptyDict).push (instObj C hh.objs.size)).get? (hh.objs.size+1)=some (instObj C hh.objs.size):=by
  have:=Heap.get?_push_size (h:=hh.push emptyDict) (o:=instObj C hh.objs.size) rfl
  rwa [Heap.size_push] at this
 have t1:PySem.W.Looks (model X.prog X.w) ((hh.push emptyDict).push (instObj C hh.objs.size)) (typeOf (.ref (hh.objs.size+1))) (.ref C):=(PySem.W.Looks.ld e1).andThen .now
 have t2:PySem.W.Looks (model X.prog X.w) ((hh.push emptyDict).push (instObj C hh.objs.size)) (isInstance (.ref (hh.objs.size+1)) (.type "object")) true:=t1.andThen (Y.top.keeps fun b o e=>Heap.get?_push_of_some _ (Heap.get?_push_of_some _ e))
 refine codeAny_call_builtin PySem.W.oi_plain PySem.W.entry_oi (@PySem.W.check_slot (model X.prog X.w) _ _ _ "object.__init__" "object" "__init__" (.ref (hh.objs.size+1)) [] [] _ PySem.W.oi_kind PySem.W.oi_split t2 (PySem.W.oi_args (.ref (hh.objs.size+1))) ?_)
 show wpAny _ _ (Builtin.«object.__init__» ⟨[.ref (hh.objs.size+1)],[]⟩) _ _ _
 rw [PySem.W.oi_run]
 exact wpAny_pure (And.intro rfl ⟨.ref _,_,I2,rfl,q⟩)
noncomputable def yqK {κ:Type}(P:Program) (w:World) (K:PySem.W.Frag) (mg:Str->Option Value) (base:Heap) (k:Nat) (A:κ->Addr) (m:Str) (sp:κ->Sp):Prop :=
 ∀ c:κ,Cls K (A c)/\((∀ vs H Q E,¬ sp c vs H Q E)\/∃ f fd ps,yku K (A c) m f/\FnOk P w K mg base CX0 k f fd ps (sp c)/\Binds K fd ps [])
theorem yBK {κ:Type}{A:κ->Addr}{m:Str}{sp:κ->Sp}{k:Nat}{o:Expr}{ta:TE}{apos pos:Pos}{pl:Sem Bool}(he:PE X o ta) (G:yqK X.prog X.w X.K X.mg X.base k A m sp) (hr:Room k X.A)
  (ht:eval (.Call (.Attribute o m apos) [] [] pos) X.env=(do
   let ov <- eval o X.env
   standAt apos.atName
   let (f,first) <- holding [ov] (getMethod ov m pl)
   callWith pos f first (backTo pos (starEach [] X.env)) (backToKw pos (keywordEach [] X.env))):=by rfl):PE X (.Call (.Attribute o m apos) [] [] pos) (yGf A m sp ta):=by
 intro pins s σ H Q I h
 refine PySem.W.methodCall_KW (pl:=pl) (thn (he pins s σ H _ I h) fun u s1 ⟨x,H1,I1,rx,a,c,dx,fs,ex,ea,l,q⟩=>?_) ht
 subst ex
 obtain rfl:u=Value.ref a:=rx
 obtain ⟨cl,hn|⟨f,fd,ps,hm,F,hb⟩⟩:=G c
 .exact (hn _ _ _ _ q).elim
 refine yoU I1 ea cl hm l ?_
 exact PySem.W.callWith_K0 (first:=[.ref a]) I1.kIn hm.kp (yyQ (us:=[.ref a]) (vs:=[.ref a]) (dvs:=[]) (ds:=[]) F hr hb .nil yBI I1 (.cons rfl .nil) q)
end
end L2
namespace L2
open PySem PySem.Spec PyProof.Rows
section
variable {X:Cx}
theorem ybL:CallR X (.builtin "isinstance") (yOE X.K):=by
 intro pins s σ H xs us Q I r h
 obtain ⟨x,c,b,rfl,⟨t,u',ty,hc,hk⟩,q⟩:=h
 obtain ⟨u,w',rfl,ru,rc⟩:=vals2 r
 have e:w'=u':=by
  cases c<;>first|(cases hc;exact rc)|cases hc
 subst e
 exact yBA I ru ty hk fun tk=>⟨.bl b,H,I.tok tk,rfl,q⟩
theorem ysW:∀ (cs:List Nat) (a:Nat),(∀ c∈cs,48<=c/\c<=57)->((cs.foldl (fun acc c=>acc*10+(c-48)) a:Nat):Int)=cs.foldl (fun (a:Int) (c:Nat)=>a*10+((c:Int)-48)) (a:Int)
 | [],_,_=>rfl
 | c::cs,a,h=>by
  have hc:=h c List.mem_cons_self
  rw [List.foldl_cons,List.foldl_cons,ysW cs _ fun d hd=>h d (List.mem_cons_of_mem _ hd)]
  congr 1
  omega
theorem yvn:CallR X (.type "int") yJT:=by
 intro pins s σ H xs us Q I r h
 obtain ⟨z,rfl,hne,hd,hl,q⟩:=h
 obtain ⟨u,rfl,t,rfl⟩:=vals1 r
 have e:=PySem.intText_digits (x:=z) hd hne (by omega)
 have e2:((PySem.NumText.digitsVal z.cps.toList:Nat):Int)=yHk z.cps.toList:=ysW z.cps.toList 0 hd
 rw [e2] at e
 exact PySem.W.KIN.call_text e hl ⟨.int _,H,I.tok _,⟨_,rfl⟩,q⟩
end
end L2
namespace L2
open PySem PySem.Spec PyProof.Rows
theorem yoa:bootBuiltins "len" = some (.builtin "len"):=by rfl'
theorem yJW:bootBuiltins "all" = some (.builtin "all"):=by rfl'
theorem yBL:bootBuiltins "sum" = some (.builtin "sum"):=by rfl'
theorem ybj:bootBuiltins "isinstance" = some (.builtin "isinstance"):=by rfl'
theorem yyT:bootBuiltins "int" = some (.type "int"):=by rfl'
theorem yBM:bootBuiltins "str" = some (.type "str"):=by rfl'
theorem yHp:bootBuiltins "bool" = some (.type "bool"):=by rfl'
theorem yjM:bootBuiltins "list" = some (.type "list"):=by rfl'
section
variable {X:Cx}
theorem yHq {x:Str}{n:Int}{t:Tok}{pos:Pos}(hg:Gl X x) (hm:X.mg x=some (.int n t)) (hd:(x == ("__debug__":Str))=false:=by decide):PE X (.Name x pos) (tC (.int n)):=yxf hg hm ⟨t,rfl⟩ hd
theorem yHr {x:Str}{n:Str}{t:Tok}{pos:Pos}(hg:Gl X x) (hm:X.mg x=some (.str n t)) (hd:(x == ("__debug__":Str))=false:=by decide):PE X (.Name x pos) (tC (.str n)):=yxf hg hm ⟨t,rfl⟩ hd
theorem yBN {x:Str}{a:Addr}{pos:Pos}(hg:Gl X x) (hm:X.mg x=some (.ref a)) (hd:(x == ("__debug__":Str))=false:=by decide):PE X (.Name x pos) (tC (.ref a)):=yxf hg hm rfl hd
theorem yJX {x:Str}{n:String}{pos:Pos}(hg:Gl X x) (hm:X.mg x=none) (hv:bootBuiltins x=some (.type n)) (hn:x≠"__name__":=by decide) (hd:(x == ("__debug__":Str))=false:=by decide):PE X (.Name x pos) (tC (.ty n)):=yGP hg hm hv rfl hn hd
end
end L2
namespace L2
open PySem PySem.Spec PyProof.Rows
theorem yxn {K:PySem.W.Frag}{H:Hp}{i:Int}:IsI K H (.int i) (.ty "str") false:=⟨_,_,.int i,rfl,by with_unfolding_all rfl⟩
theorem yvo {K:PySem.W.Frag}{H:Hp}{i:Int}:IsI K H (.int i) (.ty "list") false:=⟨_,_,.int i,rfl,by with_unfolding_all rfl⟩
theorem ytz {K:PySem.W.Frag}{H:Hp}{i:Int}:IsI K H (.int i) (.ty "tuple") false:=⟨_,_,.int i,rfl,by with_unfolding_all rfl⟩
theorem yvp {K:PySem.W.Frag}{H:Hp}{i:Int}:IsI K H (.int i) (.ty "dict") false:=⟨_,_,.int i,rfl,by with_unfolding_all rfl⟩
theorem yzQ {K:PySem.W.Frag}{H:Hp}{i:Bool}:IsI K H (.bl i) (.ty "int") true:=⟨_,_,.bl i,rfl,by with_unfolding_all rfl⟩
theorem yzR {K:PySem.W.Frag}{H:Hp}{i:Bool}:IsI K H (.bl i) (.ty "str") false:=⟨_,_,.bl i,rfl,by with_unfolding_all rfl⟩
theorem yxo {K:PySem.W.Frag}{H:Hp}{i:Bool}:IsI K H (.bl i) (.ty "list") false:=⟨_,_,.bl i,rfl,by with_unfolding_all rfl⟩
theorem yvq {K:PySem.W.Frag}{H:Hp}{i:Bool}:IsI K H (.bl i) (.ty "tuple") false:=⟨_,_,.bl i,rfl,by with_unfolding_all rfl⟩
theorem yxp {K:PySem.W.Frag}{H:Hp}{i:Bool}:IsI K H (.bl i) (.ty "dict") false:=⟨_,_,.bl i,rfl,by with_unfolding_all rfl⟩
theorem yxq {K:PySem.W.Frag}{H:Hp}{i:Str}:IsI K H (.str i) (.ty "int") false:=⟨_,_,.str i,rfl,by with_unfolding_all rfl⟩
theorem yvr {K:PySem.W.Frag}{H:Hp}{i:Str}:IsI K H (.str i) (.ty "bool") false:=⟨_,_,.str i,rfl,by with_unfolding_all rfl⟩
theorem yvs {K:PySem.W.Frag}{H:Hp}{i:Str}:IsI K H (.str i) (.ty "list") false:=⟨_,_,.str i,rfl,by with_unfolding_all rfl⟩
theorem ytA {K:PySem.W.Frag}{H:Hp}{i:Str}:IsI K H (.str i) (.ty "tuple") false:=⟨_,_,.str i,rfl,by with_unfolding_all rfl⟩
theorem yvt {K:PySem.W.Frag}{H:Hp}{i:Str}:IsI K H (.str i) (.ty "dict") false:=⟨_,_,.str i,rfl,by with_unfolding_all rfl⟩
theorem yvu {K:PySem.W.Frag}{H:Hp}:IsI K H (.non) (.ty "bool") false:=⟨_,_,.non,rfl,by with_unfolding_all rfl⟩
theorem yxr {K:PySem.W.Frag}{H:Hp}:IsI K H (.non) (.ty "str") false:=⟨_,_,.non,rfl,by with_unfolding_all rfl⟩
theorem yvv {K:PySem.W.Frag}{H:Hp}:IsI K H (.non) (.ty "list") false:=⟨_,_,.non,rfl,by with_unfolding_all rfl⟩
theorem ytB {K:PySem.W.Frag}{H:Hp}:IsI K H (.non) (.ty "tuple") false:=⟨_,_,.non,rfl,by with_unfolding_all rfl⟩
theorem yvw {K:PySem.W.Frag}{H:Hp}:IsI K H (.non) (.ty "dict") false:=⟨_,_,.non,rfl,by with_unfolding_all rfl⟩
theorem yxs {K:PySem.W.Frag}{H:Hp}{a:Addr}{xs:List V}(e:H a=some (.lst xs)):IsI K H (.ref a) (.ty "int") false:=⟨_,_,.lst e,rfl,by with_unfolding_all rfl⟩
theorem yvx {K:PySem.W.Frag}{H:Hp}{a:Addr}{xs:List V}(e:H a=some (.lst xs)):IsI K H (.ref a) (.ty "bool") false:=⟨_,_,.lst e,rfl,by with_unfolding_all rfl⟩
theorem yxt {K:PySem.W.Frag}{H:Hp}{a:Addr}{xs:List V}(e:H a=some (.lst xs)):IsI K H (.ref a) (.ty "str") false:=⟨_,_,.lst e,rfl,by with_unfolding_all rfl⟩
theorem ytC {K:PySem.W.Frag}{H:Hp}{a:Addr}{xs:List V}(e:H a=some (.lst xs)):IsI K H (.ref a) (.ty "tuple") false:=⟨_,_,.lst e,rfl,by with_unfolding_all rfl⟩
theorem yvy {K:PySem.W.Frag}{H:Hp}{a:Addr}{xs:List V}(e:H a=some (.lst xs)):IsI K H (.ref a) (.ty "dict") false:=⟨_,_,.lst e,rfl,by with_unfolding_all rfl⟩
theorem ytD {K:PySem.W.Frag}{H:Hp}{a:Addr}(e:(∃ xs,H a=some (.tup xs))\/∃ o,K.lookup a=some o/\o.cls=.type "tuple"):IsI K H (.ref a) (.ty "tuple") true:=e.elim (fun ⟨_,e⟩=>⟨_,_,.tup e,rfl,by with_unfolding_all rfl⟩) fun ⟨_,e,c⟩=>⟨_,_,.kt e c,rfl,by with_unfolding_all rfl⟩
theorem yxu {K:PySem.W.Frag}{H:Hp}{a:Addr}(e:(∃ xs,H a=some (.tup xs))\/∃ o,K.lookup a=some o/\o.cls=.type "tuple"):IsI K H (.ref a) (.ty "int") false:=e.elim (fun ⟨_,e⟩=>⟨_,_,.tup e,rfl,by with_unfolding_all rfl⟩) fun ⟨_,e,c⟩=>⟨_,_,.kt e c,rfl,by with_unfolding_all rfl⟩
theorem yvz {K:PySem.W.Frag}{H:Hp}{a:Addr}(e:(∃ xs,H a=some (.tup xs))\/∃ o,K.lookup a=some o/\o.cls=.type "tuple"):IsI K H (.ref a) (.ty "bool") false:=e.elim (fun ⟨_,e⟩=>⟨_,_,.tup e,rfl,by with_unfolding_all rfl⟩) fun ⟨_,e,c⟩=>⟨_,_,.kt e c,rfl,by with_unfolding_all rfl⟩
theorem yxv {K:PySem.W.Frag}{H:Hp}{a:Addr}(e:(∃ xs,H a=some (.tup xs))\/∃ o,K.lookup a=some o/\o.cls=.type "tuple"):IsI K H (.ref a) (.ty "str") false:=e.elim (fun ⟨_,e⟩=>⟨_,_,.tup e,rfl,by with_unfolding_all rfl⟩) fun ⟨_,e,c⟩=>⟨_,_,.kt e c,rfl,by with_unfolding_all rfl⟩
theorem yvA {K:PySem.W.Frag}{H:Hp}{a:Addr}(e:(∃ xs,H a=some (.tup xs))\/∃ o,K.lookup a=some o/\o.cls=.type "tuple"):IsI K H (.ref a) (.ty "list") false:=e.elim (fun ⟨_,e⟩=>⟨_,_,.tup e,rfl,by with_unfolding_all rfl⟩) fun ⟨_,e,c⟩=>⟨_,_,.kt e c,rfl,by with_unfolding_all rfl⟩
theorem yvB {K:PySem.W.Frag}{H:Hp}{a:Addr}(e:(∃ xs,H a=some (.tup xs))\/∃ o,K.lookup a=some o/\o.cls=.type "tuple"):IsI K H (.ref a) (.ty "dict") false:=e.elim (fun ⟨_,e⟩=>⟨_,_,.tup e,rfl,by with_unfolding_all rfl⟩) fun ⟨_,e,c⟩=>⟨_,_,.kt e c,rfl,by with_unfolding_all rfl⟩
end L2
namespace L2
open PySem PySem.Spec PyProof.Rows
theorem yhO {K:PySem.W.Frag}{C:Addr}:PySem.W.kitOne K (.ref C) (.ref C)=some true:=by
 unfold PySem.W.kitOne
 have:((Value.ref C) == (Value.ref C))=true:=by simp
 rw [if_pos this]
theorem yEl {K:PySem.W.Frag}{C C':Addr}{b:Bool}(hm:mroIn K C' (.type "object")=some true) (ht:typeIn K (.ref C')=some (.type "type")) (hs:subIn K (.ref C) (.ref C')=some b):PySem.W.kitCls K (.ref C) (.ref C')=some b:=by
 unfold PySem.W.kitCls
 have h1:(PySem.W.clsIn K C').isSome=true:=by
  unfold mroIn at hm
  cases e:PySem.W.clsIn K C' with
  | none=>rw [e] at hm;cases hm
  | some c=>rfl
 have h2:(typeIn K (.ref C') == some (.type "type"))=true:=by rw [ht];simp
 show (if _ then _ else _)=_
 rw [if_pos (by rw [h1,h2];rfl)]
 exact hs
theorem ykw {K:PySem.W.Frag}{C C':Addr}(hm:mroIn K C' (.type "object")=some true) (ht:typeIn K (.ref C')=some (.type "type")) (hs:subIn K (.ref C) (.ref C')=some true):PySem.W.kitOne K (.ref C) (.ref C')=some true:=by
 unfold PySem.W.kitOne
 split
 .rfl
 .exact yEl hm ht hs
theorem all_cons {α:Type}{p:α->Prop}{a:α}{l:List α}(h:p a) (t:∀ x∈l,p x):∀ x∈a::l,p x:=fun x hx=>by
 rcases List.mem_cons.mp hx with e|e
 .rw [e];exact h
 .exact t x e
end L2
namespace PX
open PySem L2
structure Ck where
 K:PySem.W.Frag
 A:Nat->Addr
inductive PV where
 | non|bl (b:Bool)|int (i:Int)|str (s:Str)|ty (n:String)|cls (k:Nat)
 | scr (ns:List Int)
 | lst (xs:List PV)|tup (xs:List PV)
 | ins (k:Nat) (ns:List Str) (xs:List PV)
 | loc (n:Nat)
inductive Nd where
 | lst (xs:List PV)|dct (ks:List Key) (xs:List PV)|fz (ks:List Key) (xs:List PV)|ins (k:Nat) (ns:List Str) (xs:List PV)|dead
abbrev AH:=List Nd
inductive PVar where|no|val (x:PV)|own (d:Nd)
abbrev PSt:=List PVar
inductive Out where|nx (ρ:PSt)|rt (x:PV)|bk (ρ:PSt)|ct (ρ:PSt)
abbrev XE:=PSt->AH->Option (PV×AH)
abbrev XT:=PSt->AH->Option (Bool×AH)
abbrev XA:=PSt->AH->Option (List PV×AH)
abbrev XO:=PSt->AH->Option (Nd×AH)
abbrev XS:=PSt->AH->Option (Out×AH)
abbrev Fn:=List PV->AH->Option (PV×AH)
noncomputable def KTp (K:PySem.W.Frag) (a:Addr) (xs:List V):Prop:=∃ (o:Obj) (its:Array Value) (n:Nat),K.lookup a=some o/\o.cls=.type "tuple"/\o.data=.seq its n/\its.size<=sizeLine/\Vals xs its.toList
def TpAt (K:PySem.W.Frag) (F:Hp) (a:Addr) (xs:List V):Prop:=F a=some (.tup xs)\/KTp K a xs
theorem TpAt.mono {K:PySem.W.Frag}{F F':Hp}{a:Addr}{xs:List V}(s:Same F F') (h:TpAt K F a xs):TpAt K F' a xs:=h.elim (fun h=>.inl (s _ _ h)) .inr
mutual
noncomputable def Rep (K:Ck) (F:Hp) (m:List Addr):PV->V->Prop
 | .non,v=>v=.non
 | .bl b,v=>v=.bl b
 | .int i,v=>v=.int i
 | .str s,v=>v=.str s
 | .ty n,v=>v=.ty n
 | .cls k,v=>v=.ref (K.A k)
 | .scr ns,v=>∃ a,v=.ref a/\SqL K.K F a (ns.map V.int)
 | .lst xs,v=>∃ a vs,v=.ref a/\F a=some (.lst vs)/\RepL K F m xs vs
 | .tup xs,v=>∃ a vs,v=.ref a/\TpAt K.K F a vs/\RepL K F m xs vs
 | .ins k ns xs,v=>∃ a dx vs,v=.ref a/\F a=some (.ins (K.A k) dx (ns.zip vs))/\vs.length=ns.length/\RepL K F m xs vs
 | .loc n,v=>∃ a,v=.ref a/\m[n]?=some a
noncomputable def RepL (K:Ck) (F:Hp) (m:List Addr):List PV->List V->Prop
 | [],vs=>vs=[]
 | x::xs,vs=>∃ v r,vs=v::r/\Rep K F m x v/\RepL K F m xs r
end
section
variable {K:Ck}{F F' H H':Hp}{m m':List Addr}
theorem yqL {n:Nat}{a:Addr}(p:m <+: m') (h:m[n]?=some a):m'[n]?=some a:=by
 obtain ⟨r,rfl⟩:=p
 rw [List.getElem?_append_left (List.getElem?_eq_some_iff.mp h).1];exact h
mutual
theorem Rep.mono (s:Same F F') (p:m <+: m'):∀ (x:PV) (v:V),Rep K F m x v->Rep K F' m' x v
 | .non,_,h=>h
 | .bl _,_,h=>h
 | .int _,_,h=>h
 | .str _,_,h=>h
 | .ty _,_,h=>h
 | .cls _,_,h=>h
 | .scr _,_,⟨a,e,h⟩=>⟨a,e,s.seq h⟩
 | .lst xs,_,⟨a,vs,e,h,r⟩=>⟨a,vs,e,s _ _ h,RepL.mono s p xs vs r⟩
 | .tup xs,_,⟨a,vs,e,h,r⟩=>⟨a,vs,e,h.mono s,RepL.mono s p xs vs r⟩
 | .ins _ _ xs,_,⟨a,dx,vs,e,h,l,r⟩=>⟨a,dx,vs,e,s _ _ h,l,RepL.mono s p xs vs r⟩
 | .loc _,_,⟨a,e,h⟩=>⟨a,e,yqL p h⟩
theorem RepL.mono (s:Same F F') (p:m <+: m'):∀ (xs:List PV) (vs:List V),RepL K F m xs vs->RepL K F' m' xs vs
 | [],_,h=>h
 | x::xs,_,⟨v,r,e,h,l⟩=>⟨v,r,e,Rep.mono s p x v h,RepL.mono s p xs r l⟩
end
theorem RepL.len:∀ {xs:List PV}{vs:List V},RepL K F m xs vs->vs.length=xs.length
 | [],_,h=>by rw [show _=[] from h];rfl
 | x::xs,_,⟨v,r,e,h,l⟩=>by rw [e,List.length_cons,List.length_cons,RepL.len l]
theorem RepL.get:∀ {xs:List PV}{vs:List V}{i:Nat}{x:PV},RepL K F m xs vs->xs[i]?=some x->∃ v,vs[i]?=some v/\Rep K F m x v
 | x::xs,_,0,y,⟨v,r,e,h,l⟩,q=>by
  simp at q;subst q;subst e;exact ⟨v,rfl,h⟩
 | x::xs,_,i+1,y,⟨v,r,e,h,l⟩,q=>by
  subst e
  obtain ⟨w,h1,h2⟩:=RepL.get (i:=i) l (by simpa using q)
  exact ⟨w,by simpa using h1,h2⟩
theorem RepL.get' {xs:List PV}{vs:List V}{i:Nat}{v:V}(h:RepL K F m xs vs) (e:vs[i]?=some v):∃ x,xs[i]?=some x/\Rep K F m x v:=by
 have hl:=h.len
 have hi:i<vs.length:=(List.getElem?_eq_some_iff.mp e).1
 have hx:xs[i]?=some xs[i]:=List.getElem?_eq_getElem (by omega)
 obtain ⟨w,h1,h2⟩:=h.get hx
 rw [e] at h1;cases h1
 exact ⟨_,hx,h2⟩
theorem RepL.app:∀ {xs ys:List PV}{vs us:List V},RepL K F m xs vs->RepL K F m ys us->RepL K F m (xs++ys) (vs++us)
 | [],_,_,_,h,k=>by rw [show _=[] from h];exact k
 | x::xs,ys,_,us,⟨v,r,e,h,l⟩,k=>by subst e;exact ⟨v,r++us,rfl,h,RepL.app l k⟩
theorem RepL.snoc {xs:List PV}{vs:List V}{x:PV}{v:V}(h:RepL K F m xs vs) (k:Rep K F m x v):RepL K F m (xs++[x]) (vs++[v]):=h.app ⟨v,[],rfl,k,rfl⟩
theorem RepL.drop:∀ {xs:List PV}{vs:List V}(n:Nat),RepL K F m xs vs->RepL K F m (xs.drop n) (vs.drop n)
 | _,_,0,h=>by simpa using h
 | [],_,n+1,h=>by rw [show _=[] from h];rfl
 | x::xs,_,n+1,⟨v,r,e,h,l⟩=>by subst e;simpa using RepL.drop n l
theorem RepL.take:∀ {xs:List PV}{vs:List V}(n:Nat),RepL K F m xs vs->RepL K F m (xs.take n) (vs.take n)
 | _,_,0,h=>by simp;rfl
 | [],_,n+1,h=>by rw [show _=[] from h];rfl
 | x::xs,_,n+1,⟨v,r,e,h,l⟩=>by subst e;exact ⟨v,r.take n,rfl,h,RepL.take n l⟩
theorem RepL.set:∀ {xs:List PV}{vs:List V}{x:PV}{v:V}(i:Nat),RepL K F m xs vs->Rep K F m x v->RepL K F m (xs.set i x) (vs.set i v)
 | [],_,_,_,_,h,_=>by rw [show _=[] from h];rfl
 | y::xs,_,x,v,0,⟨w,r,e,h,l⟩,k=>by subst e;exact ⟨v,r,rfl,k,l⟩
 | y::xs,_,x,v,i+1,⟨w,r,e,h,l⟩,k=>by subst e;exact ⟨w,r.set i v,rfl,h,RepL.set i l k⟩
theorem RepL.of_ints:∀ (ns:List Int),RepL K F m (ns.map PV.int) (ns.map V.int)
 | []=>rfl
 | n::ns=>⟨_,_,rfl,rfl,RepL.of_ints ns⟩
end
noncomputable def NdAt (K:Ck) (F H:Hp) (m:List Addr):Nd->Addr->Prop
 | .dead,a=>∃ o,H a=some o
 | .lst xs,a=>F a=none/\∃ vs,H a=some (.lst vs)/\RepL K F m xs vs
 | .dct ks xs,a=>F a=none/\∃ vs,H a=some (.dK (ks.zip vs))/\vs.length=ks.length/\RepL K F m xs vs
 | .fz ks xs,a=>F a=none/\∃ o vs,H a=some (.frz o (.dK (ks.zip vs)))/\vs.length=ks.length/\RepL K F m xs vs
 | .ins k ns xs,a=>F a=none/\∃ dx vs,H a=some (.ins (K.A k) dx (ns.zip vs))/\vs.length=ns.length/\RepL K F m xs vs
structure Wd where
 F:Hp
 H:Hp
 m:List Addr
 h:AH
structure WOk (K:Ck) (W:Wd):Prop where
 le:Same W.F W.H
 len:W.m.length=W.h.length
 nd:W.m.Nodup
 at_:∀ (n:Nat) (d:Nd) (a:Addr),W.h[n]?=some d->W.m[n]?=some a->NdAt K W.F W.H W.m d a
structure Le (K:Ck) (W W':Wd):Prop where
 ok:WOk K W'
 fs:Same W.F W'.F
 pre:W.m <+: W'.m
 keep:∀ b o,W.H b=some o->b∉W.m->W'.H b=some o
 new:∀ b o,W.H b=some o->b∉W.m->W.F b=none->W'.F b=none
 mn:∀ b∈W'.m,b∉W.m->W.H b=none
 fz:∀ (n:Nat) (ks:List Key) (xs:List PV),W.h[n]?=some (.fz ks xs)->W'.h[n]?=some (.fz ks xs)/\∀ a,W.m[n]?=some a->W'.H a=W.H a
theorem Le.refl {K:Ck}{W:Wd}(h:WOk K W):Le K W W:=⟨h,Same.refl _,List.prefix_refl _,fun _ _ e _=>e,fun _ _ _ _ e=>e,fun _ h h'=>absurd h h',fun _ _ _ e=>⟨e,fun _ _=>rfl⟩⟩
theorem Le.trans {K:Ck}{W W1 W2:Wd}(a:Le K W W1) (b:Le K W1 W2):Le K W W2 where
 ok:=b.ok
 fs:=a.fs.trans b.fs
 pre:=a.pre.trans b.pre
 keep:=fun c o e n=>b.keep c o (a.keep c o e n) fun z=>by rw [a.mn c z n] at e;cases e
 new:=fun c o e n f=>b.new c o (a.keep c o e n) (fun z=>by rw [a.mn c z n] at e;cases e) (a.new c o e n f)
 mn:=fun c z n=>by
  by_cases hc:c∈W1.m
  .exact a.mn c hc n
  .have:=b.mn c z hc
   cases e:W.H c with
   | none=>rfl
   | some o=>rw [a.keep c o e n] at this;cases this
 fz:=fun n ks xs e=>by
  obtain ⟨e1,q1⟩:=a.fz n ks xs e
  obtain ⟨e2,q2⟩:=b.fz n ks xs e1
  exact ⟨e2,fun c em=>(q2 c (yqL a.pre em)).trans (q1 c em)⟩
abbrev ygP (K:Ck) (W:Wd) (x:PV) (v:V):Prop:=Rep K W.F W.m x v
abbrev yhP (K:Ck) (W:Wd) (x:List PV) (v:List V):Prop:=RepL K W.F W.m x v
theorem Le.rep {K:Ck}{W W':Wd}(l:Le K W W') {x:PV}{v:V}(h:ygP K W x v):ygP K W' x v:=Rep.mono l.fs l.pre x v h
theorem Le.repL {K:Ck}{W W':Wd}(l:Le K W W') {x:List PV}{v:List V}(h:yhP K W x v):yhP K W' x v:=RepL.mono l.fs l.pre x v h
theorem NdAt.mono {K:Ck}{F F' H H':Hp}{m m':List Addr}(s:Same F F') (p:m <+: m') {d:Nd}{a:Addr}(hH:∀ o,H a=some o->H' a=some o) (hF:F a=none->F' a=none) (h:NdAt K F H m d a):NdAt K F' H' m' d a:=by
 cases d with
 | dead=>obtain ⟨o,e⟩:=h;exact ⟨o,hH _ e⟩
 | lst xs=>obtain ⟨f,vs,e,r⟩:=h;exact ⟨hF f,vs,hH _ e,RepL.mono s p _ _ r⟩
 | dct ks xs=>obtain ⟨f,vs,e,l,r⟩:=h;exact ⟨hF f,vs,hH _ e,l,RepL.mono s p _ _ r⟩
 | fz ks xs=>obtain ⟨f,o,vs,e,l,r⟩:=h;exact ⟨hF f,o,vs,hH _ e,l,RepL.mono s p _ _ r⟩
 | ins C ns xs=>obtain ⟨f,dx,vs,e,l,r⟩:=h;exact ⟨hF f,dx,vs,hH _ e,l,RepL.mono s p _ _ r⟩
theorem NdAt.some {K:Ck}{F H:Hp}{m:List Addr}{d:Nd}{a:Addr}(h:NdAt K F H m d a):∃ o,H a=some o:=by
 cases d with
 | dead=>exact h
 | lst xs=>obtain ⟨f,vs,e,r⟩:=h;exact ⟨_,e⟩
 | dct ks xs=>obtain ⟨f,vs,e,r⟩:=h;exact ⟨_,e⟩
 | fz ks xs=>obtain ⟨f,o,vs,e,r⟩:=h;exact ⟨_,e⟩
 | ins C ns xs=>obtain ⟨f,dx,vs,e,r⟩:=h;exact ⟨_,e⟩
structure Good (K:Ck) (W0 W:Wd) (ρ:PSt) (σ:St):Prop where
 le:Le K W0 W
 len:σ.length=ρ.length
 val:∀ (i:Nat) (x:PV),ρ[i]?=some (.val x)->∃ v,σ[i]?=some (some v)/\ygP K W x v
 own:∀ (i:Nat) (d:Nd),ρ[i]?=some (.own d)->∃ p,σ[i]?=some (some (.ref p))/\p∉W.m/\W0.H p=none/\d≠.dead/\NdAt K W.F W.H W.m d p
 ne:∀ (i j:Nat) (d d':Nd),i≠j->ρ[i]?=some (.own d)->ρ[j]?=some (.own d')->σ[i]?≠σ[j]?
theorem Good.ok {K:Ck}{W0 W:Wd}{ρ:PSt}{σ:St}(g:Good K W0 W ρ σ):WOk K W:=g.le.ok
theorem Good.step {K:Ck}{W0 W W':Wd}{ρ:PSt}{σ:St}(g:Good K W0 W ρ σ) (l:Le K W W'):Good K W0 W' ρ σ where
 le:=g.le.trans l
 len:=g.len
 val:=fun i x e=>let ⟨v,h1,h2⟩:=g.val i x e;⟨v,h1,l.rep h2⟩
 own:=fun i d e=>by
  obtain ⟨p,h1,h2,h3,h4,h5⟩:=g.own i d e
  obtain ⟨o,ho⟩:=h5.some
  have n':p∉W'.m:=fun z=>by rw [l.mn p z h2] at ho;cases ho
  refine ⟨p,h1,n',h3,h4,h5.mono l.fs l.pre (fun o e=>l.keep p o e h2) fun f=>l.new p o ho h2 f⟩
 ne:=g.ne
theorem WOk.some {K:Ck}{W:Wd}(w:WOk K W) {a:Addr}(h:a∈W.m):∃ o,W.H a=some o:=by
 obtain ⟨n,hn,e⟩:=List.getElem_of_mem h
 have hl:n<W.h.length:=by rw [<- w.len];exact hn
 exact (w.at_ n W.h[n] a (List.getElem?_eq_getElem hl) (by rw [List.getElem?_eq_getElem hn,e])).some
theorem Le.fresh {K:Ck}{W W':Wd}(l:Le K W W') {p:Addr}(h:W'.H p=none):W.H p=none:=by
 cases e:W.H p with
 | none=>rfl
 | some o =>
  by_cases hm:p∈W.m
  .obtain ⟨o,q⟩:=l.ok.some (l.pre.subset hm)
   rw [h] at q;cases q
  .rw [l.keep p o e hm] at h;cases h
theorem WOk.out {K:Ck}{W:Wd}(w:WOk K W) {p:Addr}(h:W.H p=none):p∉W.m:=fun z=>by
 obtain ⟨o,q⟩:=w.some z
 rw [h] at q;cases q
theorem WOk.ff {K:Ck}{W:Wd}(w:WOk K W) {p:Addr}(h:W.H p=none):W.F p=none:=Same.free w.le h
structure Lf (K:Ck) (W W':Wd):Prop where
 fs:Same W.F W'.F
 pre:W.m <+: W'.m
 fz:∀ (n:Nat) (ks:List Key) (xs:List PV),W.h[n]?=some (.fz ks xs)->W'.h[n]?=some (.fz ks xs)/\∀ a,W.m[n]?=some a->W'.H a=W.H a
theorem Le.lf {K:Ck}{W W':Wd}(l:Le K W W'):Lf K W W':=⟨l.fs,l.pre,l.fz⟩
theorem Lf.refl {K:Ck}{W:Wd}:Lf K W W:=⟨Same.refl _,List.prefix_refl _,fun _ _ _ e=>⟨e,fun _ _=>rfl⟩⟩
theorem Lf.trans {K:Ck}{W W1 W2:Wd}(a:Lf K W W1) (b:Lf K W1 W2):Lf K W W2:=⟨a.fs.trans b.fs,a.pre.trans b.pre,fun n ks xs e=>by
  obtain ⟨e1,q1⟩:=a.fz n ks xs e
  obtain ⟨e2,q2⟩:=b.fz n ks xs e1
  exact ⟨e2,fun c em=>(q2 c (yqL a.pre em)).trans (q1 c em)⟩⟩
theorem Lf.rep {K:Ck}{W W':Wd}(l:Lf K W W') {x:PV}{v:V}(h:ygP K W x v):ygP K W' x v:=Rep.mono l.fs l.pre x v h
noncomputable def ygm (K:Ck) (t:TE) (e:XE):Prop:=∀ (W0 W:Wd) (ρ:PSt) (σ:St) (Q:VK) (x:PV) (h':AH),Good K W0 W ρ σ->e ρ W.h=some (x,h') ->
 (∀ v W',W'.h=h'->Le K W W'->ygP K W' x v->Q v W'.H)->t σ W.H Q
noncomputable def yxb (K:Ck) (t:TT) (e:XT):Prop:=∀ (W0 W:Wd) (ρ:PSt) (σ:St) (Q:Bool->Hp->Prop) (x:Bool) (h':AH),Good K W0 W ρ σ->e ρ W.h=some (x,h') ->
 (∀ W',W'.h=h'->Le K W W'->Q x W'.H)->t σ W.H Q
noncomputable def yxc (K:Ck) (t:TA) (e:XA):Prop:=∀ (W0 W:Wd) (ρ:PSt) (σ:St) (Q:List V->Hp->Prop) (x:List PV) (h':AH),Good K W0 W ρ σ->e ρ W.h=some (x,h') ->
 (∀ v W',W'.h=h'->Le K W W'->yhP K W' x v->Q v W'.H)->t σ W.H Q
noncomputable def yBa (K:Ck) (t:TE) (e:XO):Prop:=∀ (W0 W:Wd) (ρ:PSt) (σ:St) (Q:VK) (d:Nd) (h':AH),Good K W0 W ρ σ->e ρ W.h=some (d,h') ->
 (∀ p W',W'.h=h'->Le K W W'->p∉W'.m->W.H p=none->d≠.dead->NdAt K W'.F W'.H W'.m d p->Q (.ref p) W'.H)->t σ W.H Q
noncomputable def Ends.Ok (K:Ck) (W0 W:Wd) (D:Ends) (h':AH):Out->Prop
 | .nx ρ'=>∀ W' σ',W'.h=h'->Lf K W W'->Good K W0 W' ρ' σ'->D.nx σ' W'.H
 | .bk ρ'=>∀ W' σ',W'.h=h'->Lf K W W'->Good K W0 W' ρ' σ'->D.bk σ' W'.H
 | .ct ρ'=>∀ W' σ',W'.h=h'->Lf K W W'->Good K W0 W' ρ' σ'->D.ct σ' W'.H
 | .rt x=>∀ W' v,W'.h=h'->Le K W0 W'->ygP K W' x v->D.rt v W'.H
noncomputable def yoV (K:Ck) (t:TS) (s:XS):Prop:=∀ (W0 W:Wd) (ρ:PSt) (σ:St) (D:Ends) (o:Out) (h':AH),Good K W0 W ρ σ->s ρ W.h=some (o,h')->Ends.Ok K W0 W D h' o->t D σ W.H
noncomputable def ob {α β:Type}(o:Option (α×AH)) (f:α->AH->Option β):Option β:=o.bind fun q=>f q.1 q.2
theorem yq {α β:Type}{o:Option (α×AH)}{f:α->AH->Option β}{b:β}(h:ob o f=some b):∃ x h',o=some (x,h')/\f x h'=some b:=by
 obtain ⟨⟨x,h'⟩,e,k⟩:=Option.bind_eq_some_iff.mp h
 exact ⟨x,h',e,k⟩
end PX
namespace PX
open PySem L2
variable {K:Ck}
def yj (i:Nat):XE:=fun ρ h=>match ρ[i]? with|some (.val x)=>some (x,h)|_=>none
def xC (x:PV):XE:=fun _ h=>some (x,h)
abbrev P2:=PV->PV->AH->Option (PV×AH)
abbrev P2O:=PV->PV->AH->Option (Nd×AH)
def xOp (p:P2) (a b:XE):XE:=fun ρ h=>ob (a ρ h) fun x h1=>ob (b ρ h1) fun y h2=>p x y h2
def yJY (p:P2O) (a b:XE):XO:=fun ρ h=>ob (a ρ h) fun x h1=>ob (b ρ h1) fun y h2=>p x y h2
def xUn (p:PV->AH->Option (PV×AH)) (a:XE):XE:=fun ρ h=>ob (a ρ h) fun x h1=>p x h1
def oB (x:PV) (h:AH):Option (Bool×AH):=match x with|.bl b=>some (b,h)|_=>none
noncomputable def ysX (p p':P2) (a b c:XE):XE:=fun ρ h=>ob (a ρ h) fun x h1=>ob (b ρ h1) fun y h2=>ob (p x y h2) fun z h3=>ob (oB z h3) fun k h3=>if k=true then ob (c ρ h3) fun w h4=>p' y w h4 else some (.bl false,h3)
def yz (a:XE):XT:=fun ρ h=>ob (a ρ h) oB
def yoW (a b:XE):XE:=fun ρ h=>ob (a ρ h) fun x h1=>ob (oB x h1) fun k h1=>if k=true then b ρ h1 else some (.bl false,h1)
def yEm (a:XE):XE:=fun ρ h=>ob (a ρ h) fun x h1=>ob (oB x h1) fun k h1=>some (.bl (!k),h1)
def yyU (a b:XT):XT:=fun ρ h=>ob (a ρ h) fun k h1=>if k=true then b ρ h1 else some (false,h1)
def xOr (a b:XT):XT:=fun ρ h=>ob (a ρ h) fun k h1=>if k=true then some (true,h1) else b ρ h1
def yql (a:XT):XT:=fun ρ h=>ob (a ρ h) fun k h1=>some (!k,h1)
def xIf (c:XT) (a b:XE):XE:=fun ρ h=>ob (c ρ h) fun k h1=>if k=true then a ρ h1 else b ρ h1
def yp:XA:=fun _ h=>some ([],h)
def yc (a:XE) (r:XA):XA:=fun ρ h=>ob (a ρ h) fun x h1=>ob (r ρ h1) fun xs h2=>some (x::xs,h2)
def ysY (a:XA):XE:=fun ρ h=>ob (a ρ h) fun xs h1=>if xs.length<=1000 then some (.tup xs,h1) else none
def yjN (a:XA):XO:=fun ρ h=>ob (a ρ h) fun xs h1=>if xs.length<=1000 then some (.lst xs,h1) else none
noncomputable def xFz (e:XO):XE:=fun ρ h=>ob (e ρ h) fun d h1=>match d with|.lst xs=>some (.lst xs,h1)|.ins k ns xs=>some (.ins k ns xs,h1)|_=>none
def yIZ (e:XO):XE:=fun ρ h=>ob (e ρ h) fun d h1=>some (.loc h1.length,h1++[d])
def yI (f:Fn) (a:XA):XE:=fun ρ h=>ob (a ρ h) f
def xCB (p:List PV->AH->Option (PV×AH)) (a:XA):XE:=fun ρ h=>ob (a ρ h) p
def yBb (p:List PV->AH->Option (Nd×AH)) (a:XA):XO:=fun ρ h=>ob (a ρ h) p
abbrev PM:=PV->List PV->AH->Option (PV×AH)
noncomputable def xBM (c:PV->AH->Bool) (p:PM) (o:XE) (a:XA):XE:=fun ρ h=>ob (o ρ h) fun x h1=>if c x h1=true then ob (a ρ h1) fun xs h2=>p x xs h2 else none
noncomputable def yvC (e:XE):PSt->AH->Option (Option Int×AH):=fun ρ h=>ob (e ρ h) fun x h1=>match x with|.int i=>some (some i,h1)|_=>none
def yoX:PSt->AH->Option (Option Int×AH):=fun _ h=>some (none,h)
noncomputable def yHs (p:PV->Option Int->Option Int->AH->Option (Nd×AH)) (e:XE) (lo hi:PSt->AH->Option (Option Int×AH)):XO:=fun ρ h=>ob (e ρ h) fun x h1=>ob (lo ρ h1) fun l h2=>ob (hi ρ h2) fun u h3=>p x l u h3
noncomputable def yfw (K:Ck) (r:R2) (p:P2):Prop:=∀ (W:Wd) (x y:PV) (v u:V) (Q:VK) (z:PV) (h':AH),WOk K W->ygP K W x v->ygP K W y u->p x y W.h=some (z,h')->(∀ w W',W'.h=h'->Le K W W'->ygP K W' z w->Q w W'.H)->r v u W.H Q
noncomputable def yzS (K:Ck) (W:Wd) (d:Nd) (h':AH) (Q:VK):Prop:=∀ p W',W'.h=h'->Le K W W'->p∉W'.m->W.H p=none->d≠.dead->NdAt K W'.F W'.H W'.m d p->Q (.ref p) W'.H
noncomputable def yBO (K:Ck) (r:R2) (p:P2O):Prop:=∀ (W:Wd) (x y:PV) (v u:V) (Q:VK) (d:Nd) (h':AH),WOk K W->ygP K W x v->ygP K W y u->p x y W.h=some (d,h')->yzS K W d h' Q->r v u W.H Q
noncomputable def yHt (K:Ck) (r:V->Hp->VK->Prop) (p:PV->AH->Option (PV×AH)):Prop:=∀ (W:Wd) (x:PV) (v:V) (Q:VK) (z:PV) (h':AH),WOk K W->ygP K W x v->p x W.h=some (z,h')->(∀ w W',W'.h=h'->Le K W W'->ygP K W' z w->Q w W'.H)->r v W.H Q
noncomputable def yoY (K:Ck) (r:List V->Hp->VK->Prop) (p:List PV->AH->Option (PV×AH)):Prop:=∀ (W:Wd) (xs:List PV) (vs:List V) (Q:VK) (z:PV) (h':AH),WOk K W->yhP K W xs vs->p xs W.h=some (z,h')->(∀ w W',W'.h=h'->Le K W W'->ygP K W' z w->Q w W'.H)->r vs W.H Q
noncomputable def yBP (K:Ck) (r:List V->Hp->VK->Prop) (p:List PV->AH->Option (Nd×AH)):Prop:=∀ (W:Wd) (xs:List PV) (vs:List V) (Q:VK) (d:Nd) (h':AH),WOk K W->yhP K W xs vs->p xs W.h=some (d,h')->yzS K W d h' Q->r vs W.H Q
noncomputable def yvD (K:Ck) (T:String) (c:PV->AH->Bool) (r:V->List V->Hp->VK->Prop) (p:PM):Prop :=
 (∀ (W:Wd) (x:PV) (v:V),WOk K W->ygP K W x v->c x W.h=true->tyV K.K T v W.H) /\
 ∀ (W:Wd) (x:PV) (v:V) (xs:List PV) (vs:List V) (Q:VK) (z:PV) (h':AH),WOk K W->ygP K W x v->yhP K W xs vs->p x xs W.h=some (z,h')->(∀ w W',W'.h=h'->Le K W W'->ygP K W' z w->Q w W'.H)->r v vs W.H Q
theorem yHu (i:Nat):ygm K (yIY i) (yj i):=by
 intro W0 W ρ σ Q x h' g e q
 unfold yj at e
 split at e
 .rename_i y hy
  cases e
  obtain ⟨v,h1,h2⟩:=g.val i _ hy
  exact ⟨v,h1,q v W rfl (.refl g.ok) h2⟩
 .cases e
theorem yzT {v:V}{x:PV}(h:∀ W:Wd,ygP K W x v):ygm K (tC v) (xC x):=by
 intro W0 W ρ σ Q y h' g e q
 cases e
 exact q v W rfl (.refl g.ok) (h W)
theorem yBQ {i:Int}:ygm K (tC (.int i)) (xC (.int i)):=yzT fun _=>rfl
theorem yBR {i:Str}:ygm K (tC (.str i)) (xC (.str i)):=yzT fun _=>rfl
theorem yJZ {i:Bool}:ygm K (tC (.bl i)) (xC (.bl i)):=yzT fun _=>rfl
theorem yHv:ygm K (tC .non) (xC .non):=yzT fun _=>rfl
theorem yKa {n:String}:ygm K (tC (.ty n)) (xC (.ty n)):=yzT fun _=>rfl
theorem yHw {k:Nat}:ygm K (tC (.ref (K.A k))) (xC (.cls k)):=yzT fun _=>rfl
section
variable {ta tb tc:TE}{ea eb ec:XE}{t:TA}{e:XA}
theorem yyV {r:R2}{p:P2}(o:yfw K r p) (a:ygm K ta ea) (b:ygm K tb eb):ygm K (tOp r ta tb) (xOp p ea eb):=by
 intro W0 W ρ σ Q z h' g e q
 obtain ⟨x,h1,e1,f1⟩:=yq e
 obtain ⟨y,h2,e2,f2⟩:=yq f1
 refine a W0 W ρ σ _ x h1 g e1 fun v W1 w1 l1 r1=>?_
 subst w1
 refine b W0 W1 ρ σ _ y h2 (g.step l1) e2 fun u W2 w2 l2 r2=>?_
 subst w2
 exact o W2 x y v u Q z h' l2.ok (l2.rep r1) r2 f2 fun w W3 w3 l3 r3=>q w W3 w3 (l1.trans (l2.trans l3)) r3
theorem yoZ {W W1:Wd}{d:Nd}{h':AH}{Q:VK}(l:Le K W W1) (q:yzS K W d h' Q):yzS K W1 d h' Q:=fun p W' e l' n f=>q p W' e (l.trans l') n (l.fresh f)
theorem yHx {r:R2}{p:P2O}(o:yBO K r p) (a:ygm K ta ea) (b:ygm K tb eb):yBa K (tOp r ta tb) (yJY p ea eb):=by
 intro W0 W ρ σ Q z h' g e q
 obtain ⟨x,h1,e1,f1⟩:=yq e
 obtain ⟨y,h2,e2,f2⟩:=yq f1
 refine a W0 W ρ σ _ x h1 g e1 fun v W1 w1 l1 r1=>?_
 subst w1
 refine b W0 W1 ρ σ _ y h2 (g.step l1) e2 fun u W2 w2 l2 r2=>?_
 subst w2
 exact o W2 x y v u Q z h' l2.ok (l2.rep r1) r2 f2 (yoZ (l1.trans l2) q)
theorem yKb {r} {p} (o:yHt K r p) (a:ygm K ta ea):ygm K (tUn r ta) (xUn p ea):=by
 intro W0 W ρ σ Q z h' g e q
 obtain ⟨x,h1,e1,f1⟩:=yq e
 refine a W0 W ρ σ _ x h1 g e1 fun v W1 w1 l1 r1=>?_
 subst w1
 exact o W1 x v Q z h' l1.ok r1 f1 fun w W3 w3 l3 r3=>q w W3 w3 (l1.trans l3) r3
theorem ytE {x:PV}{h:AH}{k:Bool}{h':AH}(e:oB x h=some (k,h')):x=.bl k/\h'=h:=by
 unfold oB at e
 split at e
 .cases e;exact ⟨rfl,rfl⟩
 .cases e
theorem yvE {r r':R2}{p p':P2}(o:yfw K r p) (o':yfw K r' p') (a:ygm K ta ea) (b:ygm K tb eb) (c:ygm K tc ec):ygm K (yBx r r' ta tb tc) (ysX p p' ea eb ec):=by
 intro W0 W ρ σ Q z h' g e q
 obtain ⟨x,h1,e1,f1⟩:=yq e
 obtain ⟨y,h2,e2,f2⟩:=yq f1
 obtain ⟨z',h3,e3,f3⟩:=yq f2
 obtain ⟨k,h3',e3',f4⟩:=yq f3
 obtain ⟨rfl,rfl⟩:=ytE e3'
 refine a W0 W ρ σ _ x h1 g e1 fun v W1 w1 l1 r1=>?_
 subst w1
 refine b W0 W1 ρ σ _ y h2 (g.step l1) e2 fun u W2 w2 l2 r2=>?_
 subst w2
 refine o W2 x y v u _ _ _ l2.ok (l2.rep r1) r2 e3 fun w W3 w3 l3 r3=>⟨k,r3,?_⟩
 subst w3
 have l:=l1.trans (l2.trans l3)
 cases k with
 | false =>
  rw [if_neg (by decide)] at f4 ⊢
  cases f4
  exact q _ W3 rfl l rfl
 | true =>
  rw [if_pos rfl] at f4 ⊢
  obtain ⟨w',h4,e4,f5⟩:=yq f4
  refine c W0 W3 ρ σ _ w' h4 (g.step l) e4 fun u' W4 w4 l4 r4=>?_
  subst w4
  exact o' W4 y w' u u' Q z h' l4.ok ((l3.trans l4).rep r2) r4 f5 fun w W5 w5 l5 r5=>q w W5 w5 (l.trans (l4.trans l5)) r5
theorem ytF (a:ygm K ta ea):yxb K (yGX ta) (yz ea):=by
 intro W0 W ρ σ Q k h' g e q
 obtain ⟨x,h1,e1,f1⟩:=yq e
 obtain ⟨rfl,rfl⟩:=ytE f1
 exact a W0 W ρ σ _ _ _ g e1 fun v W1 w1 l1 r1=>⟨k,r1,q W1 w1 l1⟩
theorem yKc (a:ygm K ta ea):yxb K (tB ta) (yz ea):=ytF a
theorem yEn (a:ygm K ta ea) (b:ygm K tb eb):ygm K (yJt ta tb) (yoW ea eb):=by
 intro W0 W ρ σ Q z h' g e q
 obtain ⟨x,h1,e1,f1⟩:=yq e
 obtain ⟨k,h1',e1',f2⟩:=yq f1
 obtain ⟨rfl,rfl⟩:=ytE e1'
 refine a W0 W ρ σ _ _ _ g e1 fun v W1 w1 l1 r1=>⟨k,r1,?_⟩
 subst w1
 cases k with
 | false =>
  rw [if_neg (by decide)] at f2 ⊢
  cases f2
  exact q _ W1 rfl l1 rfl
 | true =>
  rw [if_pos rfl] at f2 ⊢
  exact b W0 W1 ρ σ _ z h' (g.step l1) f2 fun v W2 w2 l2 r2=>q v W2 w2 (l1.trans l2) r2
theorem yEo (a:ygm K ta ea):ygm K (yJu ta) (yEm ea):=by
 intro W0 W ρ σ Q z h' g e q
 obtain ⟨x,h1,e1,f1⟩:=yq e
 obtain ⟨k,h1',e1',f2⟩:=yq f1
 obtain ⟨rfl,rfl⟩:=ytE e1'
 cases f2
 exact a W0 W ρ σ _ _ _ g e1 fun v W1 w1 l1 r1=>⟨k,r1,q _ W1 w1 l1 rfl⟩
section
variable {tA tB':TT}{eA eB:XT}
theorem yHy (a:yxb K tA eA) (b:yxb K tB' eB):yxb K (yOm tA tB') (yyU eA eB):=by
 intro W0 W ρ σ Q z h' g e q
 obtain ⟨k,h1,e1,f1⟩:=yq e
 refine a W0 W ρ σ _ _ _ g e1 fun W1 w1 l1=>?_
 subst w1
 cases k with
 | false =>
  rw [if_neg (by decide)] at f1 ⊢
  cases f1
  exact q W1 rfl l1
 | true =>
  rw [if_pos rfl] at f1 ⊢
  exact b W0 W1 ρ σ _ z h' (g.step l1) f1 fun W2 w2 l2=>q W2 w2 (l1.trans l2)
theorem yKd (a:yxb K tA eA) (b:yxb K tB' eB):yxb K (tOr tA tB') (xOr eA eB):=by
 intro W0 W ρ σ Q z h' g e q
 obtain ⟨k,h1,e1,f1⟩:=yq e
 refine a W0 W ρ σ _ _ _ g e1 fun W1 w1 l1=>?_
 subst w1
 cases k with
 | true =>
  rw [if_pos rfl] at f1 ⊢
  cases f1
  exact q W1 rfl l1
 | false =>
  rw [if_neg (by decide)] at f1 ⊢
  exact b W0 W1 ρ σ _ z h' (g.step l1) f1 fun W2 w2 l2=>q W2 w2 (l1.trans l2)
theorem yHz (a:yxb K tA eA):yxb K (yMj tA) (yql eA):=by
 intro W0 W ρ σ Q z h' g e q
 obtain ⟨k,h1,e1,f1⟩:=yq e
 cases f1
 exact a W0 W ρ σ _ _ _ g e1 fun W1 w1 l1=>q W1 w1 l1
theorem yKe (c:yxb K tA eA) (a:ygm K ta ea) (b:ygm K tb eb):ygm K (tIf tA ta tb) (xIf eA ea eb):=by
 intro W0 W ρ σ Q z h' g e q
 obtain ⟨k,h1,e1,f1⟩:=yq e
 refine c W0 W ρ σ _ _ _ g e1 fun W1 w1 l1=>?_
 subst w1
 cases k with
 | true =>
  rw [if_pos rfl] at f1 ⊢
  exact a W0 W1 ρ σ _ z h' (g.step l1) f1 fun v W2 w2 l2 r2=>q v W2 w2 (l1.trans l2) r2
 | false =>
  rw [if_neg (by decide)] at f1 ⊢
  exact b W0 W1 ρ σ _ z h' (g.step l1) f1 fun v W2 w2 l2 r2=>q v W2 w2 (l1.trans l2) r2
end
theorem yxw:yxc K yJJ yp:=by
 intro W0 W ρ σ Q z h' g e q
 cases e
 exact q [] W rfl (.refl g.ok) rfl
theorem yEp (a:ygm K ta ea) (r:yxc K t e):yxc K (yHc ta t) (yc ea e):=by
 intro W0 W ρ σ Q z h' g e q
 obtain ⟨x,h1,e1,f1⟩:=yq e
 obtain ⟨xs,h2,e2,f2⟩:=yq f1
 cases f2
 refine a W0 W ρ σ _ x h1 g e1 fun v W1 w1 l1 r1=>?_
 subst w1
 exact r W0 W1 ρ σ _ xs _ (g.step l1) e2 fun vs W2 w2 l2 r2=>q (v::vs) W2 w2 (l1.trans l2) ⟨v,vs,rfl,l2.rep r1,r2⟩
def yGg (W:Wd) (p:Addr) (o:HO):Wd:=⟨upd W.F p o,upd W.H p o,W.m,W.h⟩
theorem yxx {W:Wd}{p:Addr}{o:HO}(w:WOk K W) (h:W.H p=none):Le K W (yGg W p o):=by
 have hm:=w.out h
 have hf:=w.ff h
 have sF:Same W.F (upd W.F p o):=yjc hf o
 refine ⟨⟨?_,w.len,w.nd,fun n d a e1 e2=>?_⟩,sF,List.prefix_refl _,fun b u e _=>yjc h o b u e,fun b u e _ f=>?_,fun b z n=>absurd z n,fun n ks xs e1=>⟨e1,fun a e2=>ybz fun z=>hm (z ▸ List.mem_of_getElem? e2)⟩⟩
 .intro b u e
  show upd W.H p o b=some u
  by_cases hb:b=p
  .subst hb;rw [show (yGg W b o).F b=upd W.F b o b from rfl,ybK] at e;rw [ybK];exact e
  .rw [show (yGg W p o).F b=upd W.F p o b from rfl,ybz hb] at e;rw [ybz hb];exact w.le _ _ e
 .have ha:a≠p:=fun z=>hm (z ▸ List.mem_of_getElem? e2)
  exact (w.at_ n d a e1 e2).mono sF (List.prefix_refl _) (fun u e=>by rw [show (yGg W p o).H a=upd W.H p o a from rfl,ybz ha];exact e) fun f=>(ybz ha).trans f
 .have:b≠p:=ydK e h
  rw [show (yGg W p o).F b=upd W.F p o b from rfl,ybz this];exact f
def yuV (W:Wd) (p:Addr) (o:HO):Wd:=⟨W.F,upd W.H p o,W.m,W.h⟩
theorem ynl {W:Wd}{p:Addr}{o:HO}(w:WOk K W) (h:W.H p=none):Le K W (yuV W p o):=by
 have hm:=w.out h
 refine ⟨⟨?_,w.len,w.nd,fun n d a e1 e2=>?_⟩,Same.refl _,List.prefix_refl _,fun b u e _=>yjc h o b u e,fun b u e _ f=>f,fun b z n=>absurd z n,fun n ks xs e1=>⟨e1,fun a e2=>ybz fun z=>hm (z ▸ List.mem_of_getElem? e2)⟩⟩
 .exact fun b u e=>yjc h o b u (w.le _ _ e)
 .exact (w.at_ n d a e1 e2).mono (Same.refl _) (List.prefix_refl _) (fun u e=>yjc h o _ _ e) id
theorem small {n:Nat}(h:n<=1000):n<=sizeLine:=Nat.le_of_lt (yvj h)
theorem yHA (a:yxc K t e):ygm K (yOw t) (ysY e):=by
 intro W0 W ρ σ Q z h' g e q
 obtain ⟨xs,h1,e1,f1⟩:=yq e
 split at f1
 .rename_i hl
  cases f1
  refine a W0 W ρ σ _ xs _ g e1 fun vs W1 w1 l1 r1=>⟨small (by rw [r1.len];exact hl),fun p hp=>?_⟩
  have l2:=yxx (o:=.tup vs) l1.ok hp
  exact q (.ref p) (yGg W1 p (.tup vs)) w1 (l1.trans l2) ⟨p,vs,rfl,.inl ybK,l2.repL r1⟩
 .cases f1
theorem yHB (a:yxc K t e):yBa K (yOx t) (yjN e):=by
 intro W0 W ρ σ Q z h' g e q
 obtain ⟨xs,h1,e1,f1⟩:=yq e
 split at f1
 .rename_i hl
  cases f1
  refine a W0 W ρ σ _ xs _ g e1 fun vs W1 w1 l1 r1=>⟨small (by rw [r1.len];exact hl),fun p hp=>?_⟩
  have l2:=ynl (o:=.lst vs) l1.ok hp
  exact q p (yuV W1 p (.lst vs)) w1 (l1.trans l2) (l1.ok.out hp) (l1.fresh hp) (fun z=>by cases z) ⟨l1.ok.ff hp,vs,ybK,r1⟩
 .cases f1
def yEq (W:Wd) (p:Addr) (o:HO):Wd:=⟨upd W.F p o,W.H,W.m,W.h⟩
theorem yBS {W:Wd}{p:Addr}{o:HO}(w:WOk K W) (h:W.H p=some o) (hm:p∉W.m) (hf:W.F p=none):WOk K (yEq W p o)/\Same W.F (upd W.F p o):=by
 have sF:Same W.F (upd W.F p o):=yjc hf o
 refine ⟨⟨?_,w.len,w.nd,fun n d a e1 e2=>?_⟩,sF⟩
 .intro b u e
  by_cases hb:b=p
  .subst hb;rw [show (yEq W b o).F b=upd W.F b o b from rfl,ybK] at e;cases e;exact h
  .rw [show (yEq W p o).F b=upd W.F p o b from rfl,ybz hb] at e;exact w.le _ _ e
 .have ha:a≠p:=fun z=>hm (z ▸ List.mem_of_getElem? e2)
  exact (w.at_ n d a e1 e2).mono sF (List.prefix_refl _) (fun u e=>e) fun f=>(ybz ha).trans f
theorem yxy {W W1:Wd}{p:Addr}{o:HO}(l:Le K W W1) (h:W1.H p=some o) (hm:p∉W1.m) (hf:W1.F p=none) (hn:W.H p=none):Le K W (yEq W1 p o):=by
 obtain ⟨k,sF⟩:=yBS l.ok h hm hf
 refine ⟨k,l.fs.trans sF,l.pre,l.keep,fun b u e n f=>?_,l.mn,l.fz⟩
 have:b≠p:=ydK e hn
 rw [show (yEq W1 p o).F b=upd W1.F p o b from rfl,ybz this];exact l.new b u e n f
theorem yGh {o:XO}(a:yBa K ta o):ygm K ta (xFz o):=by
 intro W0 W ρ σ Q z h' g e q
 obtain ⟨d,h1,e1,f1⟩:=yq e
 refine a W0 W ρ σ _ d h1 g e1 fun p W1 w1 l1 hm hn hd at_=>?_
 split at f1
 .rename_i xs
  cases f1
  obtain ⟨hf,vs,hp,r⟩:=at_
  have l2:=yxy l1 hp hm hf hn
  exact q (.ref p) (yEq W1 p (.lst vs)) w1 l2 ⟨p,vs,rfl,ybK,RepL.mono (yjc hf _) (List.prefix_refl _) _ _ r⟩
 .rename_i k ns xs
  cases f1
  obtain ⟨hf,dx,vs,hp,hl,r⟩:=at_
  have l2:=yxy l1 hp hm hf hn
  exact q (.ref p) (yEq W1 p _) w1 l2 ⟨p,dx,vs,rfl,ybK,hl,RepL.mono (yjc hf _) (List.prefix_refl _) _ _ r⟩
 .cases f1
theorem yHC {o:XO}(a:yBa K ta o):ygm K ta (yIZ o):=by
 intro W0 W ρ σ Q z h' g e q
 obtain ⟨d,h1,e1,f1⟩:=yq e
 cases f1
 refine a W0 W ρ σ _ d h1 g e1 fun p W1 w1 l1 hm hn hd at_=>?_
 subst w1
 have pre:W1.m <+: W1.m++[p]:=List.prefix_append _ _
 refine q (.ref p) ⟨W1.F,W1.H,W1.m++[p],W1.h++[d]⟩ rfl ⟨⟨l1.ok.le,?_,?_,fun n d' a e1 e2=>?_⟩,l1.fs,l1.pre.trans pre,l1.keep,l1.new,fun b z n=>?_,fun n ks xs e1=>⟨by
  have:=(l1.fz n ks xs e1).1
  show (W1.h++[d])[n]?=_
  rw [List.getElem?_append_left (List.getElem?_eq_some_iff.mp this).1];exact this,(l1.fz n ks xs e1).2⟩⟩ ⟨p,rfl,?_⟩
 .show (W1.m++[p]).length=(W1.h++[d]).length
  rw [List.length_append,List.length_append,l1.ok.len];rfl
 .show (W1.m++[p]).Nodup
  rw [List.nodup_append]
  refine ⟨l1.ok.nd,by simp,?_⟩
  intro a ha b hb
  simp at hb
  subst hb
  exact fun z=>hm (z ▸ ha)
 .have e1:(W1.h++[d])[n]?=some d':=e1
  have e2:(W1.m++[p])[n]?=some a:=e2
  by_cases hlt:n<W1.h.length
  .rw [List.getElem?_append_left hlt] at e1
   rw [List.getElem?_append_left (by rw [l1.ok.len];exact hlt)] at e2
   exact (l1.ok.at_ n d' a e1 e2).mono (Same.refl _) pre (fun _ f1=>f1) id
  .rw [List.getElem?_append_right (by omega)] at e1
   rw [List.getElem?_append_right (by rw [l1.ok.len];omega)] at e2
   rw [l1.ok.len] at e2
   cases hk:n-W1.h.length with
   | zero =>
    rw [hk] at e1 e2
    simp at e1 e2
    subst e1 e2
    exact at_.mono (Same.refl _) pre (fun _ f1=>f1) id
   | succ k=>rw [hk] at e1;simp at e1
 .have z:b∈W1.m++[p]:=z
  rcases List.mem_append.mp z with z|z
  .exact l1.mn b z n
  .simp at z;subst z;exact hn
 .show (W1.m++[p])[W1.h.length]?=some p
  rw [<- l1.ok.len];simp
noncomputable def spE (K:Ck) (n:Nat) (f:Fn):Sp:=fun vs H Q _=>∃ (W:Wd) (xs:List PV) (x:PV) (h':AH),W.H=H/\WOk K W/\yhP K W xs vs/\xs.length=n/\f xs W.h=some (x,h')/\∀ v W',W'.h=h'->Le K W W'->ygP K W' x v->Q v W'.H
theorem yEr {n:Nat}{f:Fn}{ex:XK}(a:yxc K t e) (hn:∀ ρ h xs h',e ρ h=some (xs,h')->xs.length=n):ygm K (yJM (spE K n f) [] ex t) (yI f e):=by
 intro W0 W ρ σ Q z h' g e' q
 obtain ⟨xs,h1,e1,e2⟩:=yq e'
 refine a W0 W ρ σ _ xs h1 g e1 fun vs W1 w1 l1 r1=>?_
 subst w1
 rw [List.append_nil]
 exact ⟨W1,xs,z,h',rfl,l1.ok,r1,hn _ _ _ _ e1,e2,fun v W2 w2 l2 r2=>q v W2 w2 (l1.trans l2) r2⟩
theorem yBT:∀ ρ h xs h',yp ρ h=some (xs,h')->xs.length=0:=fun ρ h xs h' e=>by cases e;rfl
theorem yEs {n:Nat}(l:∀ ρ h xs h',e ρ h=some (xs,h')->xs.length=n):∀ ρ h xs h',yc ea e ρ h=some (xs,h')->xs.length=n+1:=fun ρ h xs h' q=>by
 obtain ⟨x,h1,e1,q⟩:=yq q
 obtain ⟨ys,h2,e2,q⟩:=yq q
 cases q
 rw [List.length_cons,l _ _ _ _ e2]
theorem yGi {r} {p} (o:yoY K r p) (a:yxc K t e):ygm K (tCB r t) (xCB p e):=by
 intro W0 W ρ σ Q z h' g e' q
 obtain ⟨xs,h1,e1,e2⟩:=yq e'
 refine a W0 W ρ σ _ xs h1 g e1 fun vs W1 w1 l1 r1=>?_
 subst w1
 exact o W1 xs vs Q z h' l1.ok r1 e2 fun v W2 w2 l2 r2=>q v W2 w2 (l1.trans l2) r2
theorem yHD {r} {p} (o:yBP K r p) (a:yxc K t e):yBa K (tCB r t) (yBb p e):=by
 intro W0 W ρ σ Q z h' g e' q
 obtain ⟨xs,h1,e1,e2⟩:=yq e'
 refine a W0 W ρ σ _ xs h1 g e1 fun vs W1 w1 l1 r1=>?_
 subst w1
 exact o W1 xs vs Q z h' l1.ok r1 e2 (yoZ l1 q)
theorem yGj {T:String}{c} {r} {p} (o:yvD K T c r p) (b:ygm K ta ea) (a:yxc K t e):ygm K (tBM K.K T r ta t) (xBM c p ea e):=by
 intro W0 W ρ σ Q z h' g e' q
 obtain ⟨x,h1,e1,f1⟩:=yq e'
 split at f1
 .rename_i hc
  obtain ⟨xs,h2,e2,f2⟩:=yq f1
  refine b W0 W ρ σ _ x h1 g e1 fun v W1 w1 l1 r1=>⟨o.1 W1 x v l1.ok r1 (by rw [w1];exact hc),?_⟩
  subst w1
  refine a W0 W1 ρ σ _ xs h2 (g.step l1) e2 fun vs W2 w2 l2 r2=>?_
  subst w2
  exact o.2 W2 x v xs vs Q z h' l2.ok (l2.rep r1) r2 f2 fun w W3 w3 l3 r3=>q w W3 w3 (l1.trans (l2.trans l3)) r3
 .cases f1
theorem yHE {T:String}{c} {r} {p} (o:yvD K T c r p) (b:ygm K ta ea):ygm K (yOC K.K T r ta) (xBM c p ea yp):=yGj (t:=yJJ) o b yxw
end
noncomputable def yJa (K:Ck) (t:TO) (e:PSt->AH->Option (Option Int×AH)):Prop:=∀ (W0 W:Wd) (ρ:PSt) (σ:St) (Q:Option Int->Hp->Prop) (x:Option Int) (h':AH),Good K W0 W ρ σ->e ρ W.h=some (x,h') ->
 (∀ W',W'.h=h'->Le K W W'->Q x W'.H)->t σ W.H Q
theorem yzU:yJa K yBD yoX:=by
 intro W0 W ρ σ Q z h' g e q
 cases e
 exact q W rfl (.refl g.ok)
theorem yEt {ta:TE}{ea:XE}(a:ygm K ta ea):yJa K (yJO ta) (yvC ea):=by
 intro W0 W ρ σ Q z h' g e q
 obtain ⟨x,h1,e1,f1⟩:=yq e
 split at f1
 .rename_i i
  cases f1
  exact a W0 W ρ σ _ _ _ g e1 fun v W1 w1 l1 r1=>⟨i,r1,q W1 w1 l1⟩
 .cases f1
noncomputable def yBU (K:Ck) (r:V->Option Int->Option Int->Hp->VK->Prop) (p:PV->Option Int->Option Int->AH->Option (Nd×AH)):Prop:=∀ (W:Wd) (x:PV) (v:V) (lo hi:Option Int) (Q:VK) (d:Nd) (h':AH),WOk K W->ygP K W x v->p x lo hi W.h=some (d,h')->yzS K W d h' Q->r v lo hi W.H Q
theorem yHF {r} {p} {ta:TE}{ea:XE}{tl th:TO}{el eh} (o:yBU K r p) (a:ygm K ta ea) (b:yJa K tl el) (c:yJa K th eh):yBa K (tSl r ta tl th) (yHs p ea el eh):=by
 intro W0 W ρ σ Q z h' g e q
 obtain ⟨x,h1,e1,f1⟩:=yq e
 obtain ⟨l,h2,e2,f2⟩:=yq f1
 obtain ⟨u,h3,e3,f3⟩:=yq f2
 refine a W0 W ρ σ _ x h1 g e1 fun v W1 w1 l1 r1=>?_
 subst w1
 refine b W0 W1 ρ σ _ l h2 (g.step l1) e2 fun W2 w2 l2=>?_
 subst w2
 refine c W0 W2 ρ σ _ u h3 (g.step (l1.trans l2)) e3 fun W3 w3 l3=>?_
 subst w3
 exact o W3 x v l u Q z h' l3.ok ((l2.trans l3).rep r1) f3 (yoZ (l1.trans (l2.trans l3)) q)
end PX
namespace PX
open PySem L2
variable {K:Ck}
def ybh:XS:=fun ρ h=>some (.nx ρ,h)
noncomputable def yw (s u:XS):XS:=fun ρ h=>ob (s ρ h) fun o h1=>match o with|.nx ρ'=>u ρ' h1|.rt x=>some (.rt x,h1)|.bk ρ'=>some (.bk ρ',h1)|.ct ρ'=>some (.ct ρ',h1)
def yqm (e:XE):XS:=fun ρ h=>ob (e ρ h) fun _ h1=>some (.nx ρ,h1)
def ybq (e:XE):XS:=fun ρ h=>ob (e ρ h) fun x h1=>some (.rt x,h1)
def ycC (c:XT) (s u:XS):XS:=fun ρ h=>ob (c ρ h) fun k h1=>if k=true then s ρ h1 else u ρ h1
abbrev XG:=PV->PSt->Option PSt
abbrev XGs:=List PV->PSt->Option PSt
def yt (i:Nat):XG:=fun x ρ=>some (ρ.set i (.val x))
def yDI:XGs:=fun xs ρ=>match xs with|[]=>some ρ|_=>none
def ylL (g:XG) (r:XGs):XGs:=fun xs ρ=>match xs with|[]=>none|x::xs=>(g x ρ).bind fun ρ'=>r xs ρ'
def yBc (n:Nat) (g:XGs):XG:=fun x ρ=>match x with|.tup xs=>if xs.length=n then g xs ρ else none|_=>none
def ydy (e:XE) (g:XG):XS:=fun ρ h=>ob (e ρ h) fun x h1=>(g x ρ).bind fun ρ'=>some (.nx ρ',h1)
def yBV (e:XO) (i:Nat):XS:=fun ρ h=>ob (e ρ h) fun d h1=>some (.nx (ρ.set i (.own d)),h1)
def yEu:PVar->PVar
 | .own (.lst xs)=>.val (.lst xs)
 | .own (.ins k ns xs)=>.val (.ins k ns xs)
 | v=>v
def yxz (i:Nat) (ρ:PSt):PSt:=ρ.modify i yEu
def yKf (i:Nat) (s:XS):XS:=fun ρ h=>s (yxz i ρ) h
noncomputable def ynm (i:Nat) (e:XE):XS:=fun ρ h=>match ρ[i]? with
 | some (.own (.lst xs))=>ob (e ρ h) fun x h1=>if xs.length<100000 then some (.nx (ρ.set i (.own (.lst (xs++[x])))),h1) else none
 | _=>none
noncomputable def ykc (g:XG) (s:XS):List PV->PSt->AH->Option (Out×AH)
 | [],ρ,h=>some (.nx ρ,h)
 | x::xs,ρ,h=>(g x ρ).bind fun ρ1=>ob (s ρ1 h) fun o h1=>match o with|.nx ρ'=>ykc g s xs ρ' h1|.ct ρ'=>ykc g s xs ρ' h1|.bk ρ'=>some (.nx ρ',h1)|.rt y=>some (.rt y,h1)
def ysZ (it:XA) (g:XG) (s:XS):XS:=fun ρ h=>ob (it ρ h) fun xs h1=>ykc g s xs ρ h1
noncomputable def whl (c:XT) (s:XS):Nat->PSt->AH->Option (Out×AH)
 | 0,_,_=>none
 | n+1,ρ,h=>ob (c ρ h) fun k h1=>if k=true then ob (s ρ h1) fun o h2=>(match o with|.nx ρ'=>whl c s n ρ' h2|.ct ρ'=>whl c s n ρ' h2|.bk ρ'=>some (.nx ρ',h2)|.rt y=>some (.rt y,h2)) else some (.nx ρ,h1)
def yvF (fuel:Nat) (c:XT) (s:XS):XS:=fun ρ h=>whl c s fuel ρ h
noncomputable def yff (N:Nat) (s:XS):Fn:=fun xs h=>ob (s (xs.map .val++List.replicate (N-xs.length) .no) h) fun o h1=>match o with|.rt x=>some (x,h1)|.nx _=>some (.non,h1)|_=>none
def yDJ (ρ:PSt) (i:Nat):PVar:=match ρ[i]? with|some (.val y)=>.val y|_=>.no
def yob (ix:List Nat) (ρ:PSt) (x:PV):PSt:=.val x::ix.map (yDJ ρ)
noncomputable def yqy (e:XE) (inn:PV->PSt):List PV->AH->Option (List PV×AH)
 | [],h=>some ([],h)
 | x::xs,h=>ob (e (inn x) h) fun y h1=>ob (yqy e inn xs h1) fun ys h2=>some (y::ys,h2)
noncomputable def ylM (it:XA) (ix:List Nat) (e:XE):XO:=fun ρ h=>ob (it ρ h) fun xs h1=>if xs.length<=100000 then ob (yqy e (yob ix ρ) xs h1) fun ys h2=>some (.lst ys,h2) else none
theorem Ends.Ok.from_ {W0 W W1:Wd}{D:Ends}{h':AH}{o:Out}(l:Lf K W W1) (k:Ends.Ok K W0 W D h' o):Ends.Ok K W0 W1 D h' o:=by
 cases o with
 | nx ρ=>exact fun W' σ' e l' g=>k W' σ' e (l.trans l') g
 | bk ρ=>exact fun W' σ' e l' g=>k W' σ' e (l.trans l') g
 | ct ρ=>exact fun W' σ' e l' g=>k W' σ' e (l.trans l') g
 | rt x=>exact k
section
variable {ta tb:TE}{ea eb:XE}{t u:TS}{s s':XS}{tA:TT}{eA:XT}
theorem yEv:yoV K yJy ybh:=by
 intro W0 W ρ σ D o h' g e q
 cases e
 exact q W σ rfl .refl g
theorem yHG (a:yoV K t s) (b:yoV K u s'):yoV K (yMl t u) (yw s s'):=by
 intro W0 W ρ σ D o h' g e q
 obtain ⟨o1,h1,e1,f1⟩:=yq e
 refine a W0 W ρ σ _ o1 h1 g e1 ?_
 cases o1 with
 | nx ρ'=>exact fun W' σ' w l g'=>b W0 W' ρ' σ' D o h' g' (by rw [w];exact f1) (q.from_ l)
 | rt x=>cases f1;exact q
 | bk ρ'=>cases f1;exact q
 | ct ρ'=>cases f1;exact q
theorem yEw (a:ygm K ta ea):yoV K (yGS ta) (yqm ea):=by
 intro W0 W ρ σ D o h' g e q
 obtain ⟨x,h1,e1,f1⟩:=yq e
 cases f1
 exact a W0 W ρ σ _ x _ g e1 fun v W1 w1 l1 r1=>q W1 σ w1 l1.lf (g.step l1)
theorem yHH (a:ygm K ta ea):yoV K (yOn ta) (ybq ea):=by
 intro W0 W ρ σ D o h' g e q
 obtain ⟨x,h1,e1,f1⟩:=yq e
 cases f1
 exact a W0 W ρ σ _ x _ g e1 fun v W1 w1 l1 r1=>q W1 v w1 (g.le.trans l1) r1
theorem yHI (c:yxb K tA eA) (a:yoV K t s) (b:yoV K u s'):yoV K (yOo tA t u) (ycC eA s s'):=by
 intro W0 W ρ σ D o h' g e q
 obtain ⟨k,h1,e1,f1⟩:=yq e
 refine c W0 W ρ σ _ k h1 g e1 fun W1 w1 l1=>?_
 subst w1
 cases k with
 | true =>
  rw [if_pos rfl] at f1 ⊢
  exact a W0 W1 ρ σ D o h' (g.step l1) f1 (q.from_ l1.lf)
 | false =>
  rw [if_neg (by decide)] at f1 ⊢
  exact b W0 W1 ρ σ D o h' (g.step l1) f1 (q.from_ l1.lf)
theorem Good.set {W0 W:Wd}{ρ:PSt}{σ:St}(g:Good K W0 W ρ σ) (i:Nat) {x:PV}{v:V}(r:ygP K W x v):Good K W0 W (ρ.set i (.val x)) (σ.set i (some v)) where
 le:=g.le
 len:=by simp [g.len]
 val:=fun j y e=>by
  by_cases hj:i=j
  .subst hj
   by_cases hl:i<ρ.length
   .rw [List.getElem?_set_self hl] at e
    cases e
    exact ⟨v,List.getElem?_set_self (by rw [g.len];exact hl),r⟩
   .rw [List.getElem?_eq_none (by simp;omega)] at e;cases e
  .rw [List.getElem?_set_ne hj] at e
   obtain ⟨w,h1,h2⟩:=g.val j y e
   exact ⟨w,by rw [List.getElem?_set_ne hj];exact h1,h2⟩
 own:=fun j d e=>by
  by_cases hj:i=j
  .subst hj
   by_cases hl:i<ρ.length
   .rw [List.getElem?_set_self hl] at e;cases e
   .rw [List.getElem?_eq_none (by simp;omega)] at e;cases e
  .rw [List.getElem?_set_ne hj] at e
   obtain ⟨p,h1,h2⟩:=g.own j d e
   exact ⟨p,by rw [List.getElem?_set_ne hj];exact h1,h2⟩
 ne:=fun j k d d' hjk e1 e2=>by
  have f:∀ {j:Nat}{d:Nd},(ρ.set i (.val x))[j]?=some (.own d)->i≠j/\ρ[j]?=some (.own d):=fun {j d} e=>by
   by_cases hj:i=j
   .subst hj
    by_cases hl:i<ρ.length
    .rw [List.getElem?_set_self hl] at e;cases e
    .rw [List.getElem?_eq_none (by simp;omega)] at e;cases e
   .rw [List.getElem?_set_ne hj] at e;exact ⟨hj,e⟩
  obtain ⟨a1,a2⟩:=f e1
  obtain ⟨b1,b2⟩:=f e2
  rw [List.getElem?_set_ne a1,List.getElem?_set_ne b1]
  exact g.ne j k d d' hjk a2 b2
theorem Good.setO {W0 W:Wd}{ρ:PSt}{σ:St}(g:Good K W0 W ρ σ) (i:Nat) {d:Nd}{p:Addr}(hm:p∉W.m) (h0:W0.H p=none) (hd:d≠.dead) (at_:NdAt K W.F W.H W.m d p)
  (ne:∀ j d',i≠j->ρ[j]?=some (.own d')->σ[j]?≠some (some (.ref p))):Good K W0 W (ρ.set i (.own d)) (σ.set i (some (.ref p))) where
 le:=g.le
 len:=by simp [g.len]
 val:=fun j y e=>by
  by_cases hj:i=j
  .subst hj
   by_cases hl:i<ρ.length
   .rw [List.getElem?_set_self hl] at e;cases e
   .rw [List.getElem?_eq_none (by simp;omega)] at e;cases e
  .rw [List.getElem?_set_ne hj] at e
   obtain ⟨w,h1,h2⟩:=g.val j y e
   exact ⟨w,by rw [List.getElem?_set_ne hj];exact h1,h2⟩
 own:=fun j d' e=>by
  by_cases hj:i=j
  .subst hj
   by_cases hl:i<ρ.length
   .rw [List.getElem?_set_self hl] at e
    cases e
    exact ⟨p,List.getElem?_set_self (by rw [g.len];exact hl),hm,h0,hd,at_⟩
   .rw [List.getElem?_eq_none (by simp;omega)] at e;cases e
  .rw [List.getElem?_set_ne hj] at e
   obtain ⟨p,h1,h2⟩:=g.own j d' e
   exact ⟨p,by rw [List.getElem?_set_ne hj];exact h1,h2⟩
 ne:=fun j k d1 d2 hjk e1 e2=>by
  have self:∀ {j:Nat}{d':Nd},i=j->(ρ.set i (.own d))[j]?=some (.own d')->(σ.set i (some (.ref p)))[j]?=some (some (.ref p)):=fun {j d'} hj e=>by
   subst hj
   by_cases hl:i<ρ.length
   .exact List.getElem?_set_self (by rw [g.len];exact hl)
   .rw [List.getElem?_eq_none (by simp;omega)] at e;cases e
  by_cases hj:i=j
  .have hk:i≠k:=fun z=>hjk (hj.symm.trans z)
   rw [self hj e1,List.getElem?_set_ne hk]
   rw [List.getElem?_set_ne hk] at e2
   exact (ne k d2 hk e2).symm
  .rw [List.getElem?_set_ne hj]
   rw [List.getElem?_set_ne hj] at e1
   by_cases hk:i=k
   .rw [self hk e2]
    exact ne j d1 hj e1
   .rw [List.getElem?_set_ne hk] at e2 ⊢
    exact g.ne j k d1 d2 hjk e1 e2
noncomputable def yGk (K:Ck) (g:TG) (y:XG):Prop:=∀ (W0 W:Wd) (ρ ρ':PSt) (σ:St) (x:PV) (v:V) (Q:St->Hp->Prop),Good K W0 W ρ σ->ygP K W x v->y x ρ=some ρ'->(∀ σ',Good K W0 W ρ' σ'->Q σ' W.H)->g v σ W.H Q
noncomputable def yzV (K:Ck) (g:TGs) (y:XGs):Prop:=∀ (W0 W:Wd) (ρ ρ':PSt) (σ:St) (x:List PV) (v:List V) (Q:St->Hp->Prop),Good K W0 W ρ σ->yhP K W x v->y x ρ=some ρ'->(∀ σ',Good K W0 W ρ' σ'->Q σ' W.H)->g v σ W.H Q
theorem yqM (i:Nat):yGk K (yzG i) (yt i):=by
 intro W0 W ρ ρ' σ x v Q g r e q
 cases e
 exact q _ (g.set i r)
theorem yEx:yzV K yOp yDI:=by
 intro W0 W ρ ρ' σ x v Q g r e q
 cases x with
 | nil=>cases e;exact ⟨r,q _ g⟩
 | cons _ _=>cases e
theorem yBW {g:TG}{gs:TGs}{y:XG}{ys:XGs}(a:yGk K g y) (b:yzV K gs ys):yzV K (yJA g gs) (ylL y ys):=by
 intro W0 W ρ ρ' σ x v Q gd r e q
 cases x with
 | nil=>cases e
 | cons x xs =>
  obtain ⟨v1,vs,rfl,r1,r2⟩:=r
  obtain ⟨ρ1,e1,e2⟩:=Option.bind_eq_some_iff.mp e
  exact ⟨v1,vs,rfl,a W0 W ρ ρ1 σ x v1 _ gd r1 e1 fun σ' g'=>b W0 W ρ1 ρ' σ' xs vs Q g' r2 e2 q⟩
theorem yEy {n:Nat}{gs:TGs}{ys:XGs}(b:yzV K gs ys):yGk K (yOq K.K n gs) (yBc n ys):=by
 intro W0 W ρ ρ' σ x v Q g r e q
 unfold yBc at e
 split at e
 .rename_i xs
  split at e
  .rename_i hl
   obtain ⟨a,vs,rfl,hs,rs⟩:=r
   exact ⟨a,vs,rfl,(hs.elim (fun h=>SqT.of (g.ok.le _ _ h)) .inr),by rw [rs.len];exact hl,b W0 W ρ ρ' σ xs vs Q g rs e q⟩
  .cases e
 .cases e
theorem yBX {g:TG}{y:XG}(a:ygm K ta ea) (b:yGk K g y):yoV K (yMd ta g) (ydy ea y):=by
 intro W0 W ρ σ D o h' gd e q
 obtain ⟨x,h1,e1,f1⟩:=yq e
 obtain ⟨ρ',e2,f2⟩:=Option.bind_eq_some_iff.mp f1
 cases f2
 exact a W0 W ρ σ _ x _ gd e1 fun v W1 w1 l1 r1=>b W0 W1 ρ ρ' σ x v _ (gd.step l1) r1 e2 fun σ' g'=>q W1 σ' w1 l1.lf g'
theorem yEz {o:XO}(i:Nat) (a:yBa K ta o):yoV K (yMd ta (yzG i)) (yBV o i):=by
 intro W0 W ρ σ D o h' gd e q
 obtain ⟨d,h1,e1,f1⟩:=yq e
 cases f1
 refine a W0 W ρ σ _ d _ gd e1 fun p W1 w1 l1 hm hn hd at_=>q W1 _ w1 l1.lf ((gd.step l1).setO i hm (gd.le.fresh hn) hd at_ fun j d' hj e hs=>?_)
 obtain ⟨p',h1,h2,_,_,h5⟩:=gd.own j d' e
 rw [h1] at hs
 cases hs
 obtain ⟨o,ho⟩:=h5.some
 rw [hn] at ho;cases ho
theorem Good.frz {W0 W:Wd}{ρ:PSt}{σ:St}(g:Good K W0 W ρ σ) (i:Nat):∃ W',W'.h=W.h/\W'.H=W.H/\Lf K W W'/\Good K W0 W' (yxz i ρ) σ:=by
 unfold yxz
 cases e:ρ[i]? with
 | none=>exact ⟨W,rfl,rfl,.refl,by rw [List.modify_eq_self (by simpa using e)];exact g⟩
 | some v =>
  have hl:i<ρ.length:=(List.getElem?_eq_some_iff.mp e).1
  have em:ρ.modify i yEu=ρ.set i (yEu v):=by
   apply List.ext_getElem?
   intro j
   rw [List.getElem?_modify,List.getElem?_set]
   by_cases hj:i=j
   .subst hj
    obtain ⟨_,ev⟩:=List.getElem?_eq_some_iff.mp e
    simp [hl,ev]
   .simp [hj]
  have same:yEu v=v->∃ W',W'.h=W.h/\W'.H=W.H/\Lf K W W'/\Good K W0 W' (ρ.modify i yEu) σ:=fun z=>⟨W,rfl,rfl,.refl,by
   rw [em,z]
   have:ρ.set i v=ρ:=by
    apply List.ext_getElem?
    intro j
    by_cases hj:i=j
    .subst hj;rw [List.getElem?_set_self hl,e]
    .rw [List.getElem?_set_ne hj]
   rw [this];exact g⟩
  have go:∀ (d:Nd) (x:PV) (p:Addr) (o:HO),v=.own d->yEu v=.val x->σ[i]?=some (some (.ref p))->p∉W.m->W0.H p=none->W.H p=some o->W.F p=none->(∀ (F':Hp),Same W.F F'->F' p=some o->Rep K F' W.m x (.ref p)) ->
    ∃ W',W'.h=W.h/\W'.H=W.H/\Lf K W W'/\Good K W0 W' (ρ.modify i yEu) σ:=fun d x p o hv hx hs hm h0 hp hf hr=>by
   obtain ⟨k,sF⟩:=yBS (K:=K) g.ok hp hm hf
   have lf:Lf K W (yEq W p o):=⟨sF,List.prefix_refl _,fun _ _ _ e=>⟨e,fun _ _=>rfl⟩⟩
   refine ⟨yEq W p o,rfl,rfl,lf,⟨yxy g.le hp hm hf h0,by rw [List.length_modify];exact g.len,fun j y e'=>?_,fun j d' e'=>?_,fun j1 j2 d1 d2 hj e1 e2=>?_⟩⟩
   .rw [em,hx] at e'
    by_cases hj:i=j
    .subst hj
     rw [List.getElem?_set_self hl] at e'
     cases e'
     exact ⟨_,hs,hr _ sF ybK⟩
    .rw [List.getElem?_set_ne hj] at e'
     obtain ⟨w,a1,a2⟩:=g.val j y e'
     exact ⟨w,a1,lf.rep a2⟩
   .rw [em,hx] at e'
    by_cases hj:i=j
    .subst hj
     rw [List.getElem?_set_self hl] at e'
     cases e'
    .rw [List.getElem?_set_ne hj] at e'
     obtain ⟨q,a1,a2,a3,a4,a5⟩:=g.own j d' e'
     have hq:q≠p:=fun z=>g.ne j i d' d (fun z=>hj z.symm) e' (hv ▸ e) (by rw [a1,hs,z])
     exact ⟨q,a1,a2,a3,a4,a5.mono sF (List.prefix_refl _) (fun _ e=>e) fun f=>(ybz hq).trans f⟩
   .rw [em,hx] at e1 e2
    have f:∀ {j:Nat}{d:Nd},(ρ.set i (.val x))[j]?=some (.own d)->ρ[j]?=some (.own d):=fun {j d} e=>by
     by_cases hj:i=j
     .subst hj;rw [List.getElem?_set_self hl] at e;cases e
     .rw [List.getElem?_set_ne hj] at e;exact e
    exact g.ne j1 j2 d1 d2 hj (f e1) (f e2)
  cases v with
  | no=>exact same rfl
  | val x=>exact same rfl
  | own d =>
   obtain ⟨p,a1,a2,a3,a4,a5⟩:=g.own i d e
   cases d with
   | lst xs =>
    obtain ⟨hf,vs,hp,r⟩:=a5
    exact go _ (.lst xs) p _ rfl rfl a1 a2 a3 hp hf fun F' s hF=>⟨p,vs,rfl,hF,RepL.mono s (List.prefix_refl _) _ _ r⟩
   | dct ks xs=>exact same rfl
   | fz ks xs=>exact same rfl
   | ins k ns xs =>
    obtain ⟨hf,dx,vs,hp,hl,r⟩:=a5
    exact go _ (.ins k ns xs) p _ rfl rfl a1 a2 a3 hp hf fun F' s hF=>⟨p,dx,vs,rfl,hF,hl,RepL.mono s (List.prefix_refl _) _ _ r⟩
   | dead=>exact same rfl
theorem yHJ (i:Nat) (a:yoV K t s):yoV K t (yKf i s):=by
 intro W0 W ρ σ D o h' g e q
 obtain ⟨W',e1,e2,l,g'⟩:=g.frz i
 rw [<- e2]
 exact a W0 W' _ σ D o h' g' (by rw [e1];exact e) (q.from_ l)
end
end PX
namespace PX
open PySem L2
variable {K:Ck}
section
variable {ta tb:TE}{ea eb:XE}{t u:TS}{s s':XS}{tA:TT}{eA:XT}
def yHK (W:Wd) (p:Addr) (o:HO):Wd:=⟨W.F,upd W.H p o,W.m,W.h⟩
theorem yHL {W:Wd}{p:Addr}{o:HO}(w:WOk K W) (hm:p∉W.m) (hf:W.F p=none):WOk K (yHK W p o):=by
 refine ⟨fun b u e=>?_,w.len,w.nd,fun n d a e1 e2=>?_⟩
 .have:b≠p:=ydK e hf
  exact (ybz this).trans (w.le _ _ e)
 .have ha:a≠p:=fun z=>hm (z ▸ List.mem_of_getElem? e2)
  exact (w.at_ n d a e1 e2).mono (Same.refl _) (List.prefix_refl _) (fun u e=>(ybz ha).trans e) id
theorem yBY {W W1:Wd}{p:Addr}{o:HO}(l:Le K W W1) (hm:p∉W1.m) (hf:W1.F p=none) (hn:W.H p=none):Le K W (yHK W1 p o) :=
 ⟨yHL l.ok hm hf,l.fs,l.pre,fun b u e n=>(ybz (ydK e hn)).trans (l.keep b u e n),l.new,l.mn,fun n ks xs e1=>⟨(l.fz n ks xs e1).1,fun a e2=>(ybz (fun (z:a=p)=>hm (z ▸ List.mem_of_getElem? (yqL l.pre e2)))).trans ((l.fz n ks xs e1).2 a e2)⟩⟩
theorem yGl {W W1:Wd}{p:Addr}{o:HO}(l:Le K W W1) (hm:p∉W1.m):Lf K W (yHK W1 p o) :=
 ⟨l.fs,l.pre,fun n ks xs e1=>⟨(l.fz n ks xs e1).1,fun a e2=>(ybz (fun (z:a=p)=>hm (z ▸ List.mem_of_getElem? (yqL l.pre e2)))).trans ((l.fz n ks xs e1).2 a e2)⟩⟩
theorem Good.mut {W0 W:Wd}{ρ:PSt}{σ:St}(g:Good K W0 W ρ σ) {i:Nat}{d d':Nd}{p:Addr}{o:HO}(e:ρ[i]?=some (.own d)) (hs:σ[i]?=some (some (.ref p))) (hm:p∉W.m) (h0:W0.H p=none) (hf:W.F p=none) (hd:d'≠.dead)
  (at_:NdAt K W.F (upd W.H p o) W.m d' p):Good K W0 (yHK W p o) (ρ.set i (.own d')) σ:=by
 have hl:i<ρ.length:=(List.getElem?_eq_some_iff.mp e).1
 refine ⟨yBY g.le hm hf h0,by rw [List.length_set];exact g.len,fun j y e'=>?_,fun j d1 e'=>?_,fun j1 j2 d1 d2 hj e1 e2=>?_⟩
 .by_cases hj:i=j
  .subst hj;rw [List.getElem?_set_self hl] at e';cases e'
  .rw [List.getElem?_set_ne hj] at e';exact g.val j y e'
 .by_cases hj:i=j
  .subst hj;rw [List.getElem?_set_self hl] at e';cases e';exact ⟨p,hs,hm,h0,hd,at_⟩
  .rw [List.getElem?_set_ne hj] at e'
   obtain ⟨q,a1,a2,a3,a4,a5⟩:=g.own j d1 e'
   have hq:q≠p:=fun z=>g.ne j i d1 d (fun z=>hj z.symm) e' e (by rw [a1,hs,z])
   exact ⟨q,a1,a2,a3,a4,a5.mono (Same.refl _) (List.prefix_refl _) (fun u e=>(ybz hq).trans e) id⟩
 .have f:∀ {j:Nat}{d1:Nd},(ρ.set i (.own d'))[j]?=some (.own d1)->∃ d2,ρ[j]?=some (.own d2):=fun {j d1} e'=>by
   by_cases hj:i=j
   .subst hj;exact ⟨d,e⟩
   .rw [List.getElem?_set_ne hj] at e';exact ⟨_,e'⟩
  obtain ⟨_,f1⟩:=f e1
  obtain ⟨_,f2⟩:=f e2
  exact g.ne j1 j2 _ _ hj f1 f2
theorem big {n:Nat}(h:n<100000):n<sizeLine:=Nat.lt_of_lt_of_le h (by decide)
theorem yKg {n:Nat}(h:n<=100000):n<=sizeLine:=Nat.le_trans h (by decide)
theorem yEA (i:Nat) (a:ygm K ta ea):yoV K (yGS (tBM K.K "list" yxi (yIY i) (yHc ta yJJ))) (ynm i ea):=by
 intro W0 W ρ σ D o h' g e q
 unfold ynm at e
 split at e
 .rename_i xs0 hx
  obtain ⟨x,h1,e1,f1⟩:=yq e
  split at f1
  .rename_i hlen
   cases f1
   obtain ⟨p,a1,a2,a3,a4,hf,vs,hp,r⟩:=g.own i _ hx
   refine ⟨.ref p,a1,.inl ⟨rfl,_,SqL.of hp⟩,?_⟩
   refine a W0 W ρ σ _ x _ g e1 fun v W1 w1 l1 r1=>⟨p,vs,v,rfl,rfl,l1.keep _ _ hp a2,by rw [r.len];exact big hlen,?_⟩
   have g1:=g.step l1
   obtain ⟨p',b1,b2,b3,b4,b5,vs',b6,b7⟩:=g1.own i _ hx
   rw [a1] at b1
   cases b1
   rw [l1.keep _ _ hp a2] at b6
   cases b6
   exact q (yHK W1 p (.lst (vs++[v]))) σ w1 (yGl l1 b2) (g1.mut hx a1 b2 b3 b5 (fun z=>by cases z) ⟨b5,_,ybK,b7.snoc r1⟩)
  .cases f1
 .cases e
structure yMK (K:Ck) (W:Wd) (J:It) (xs:List PV):Prop where
 go:∀ (i:Nat) (W':Wd),Lf K W W'->WOk K W'->i<xs.length->J.go i W'.H
 yld:∀ (i:Nat) (W':Wd) (v:V) (H2:Hp),Lf K W W'->WOk K W'->i<xs.length->J.yld i W'.H v H2->H2=W'.H/\∃ x,xs[i]?=some x/\ygP K W' x v
 stop:∀ (W':Wd),Lf K W W'->WOk K W'->J.stop xs.length W'.H
noncomputable def yGm (K:Ck) (wi:TI) (e:XA):Prop:=∀ (W0 W:Wd) (ρ:PSt) (σ:St) (R:It->Hp->Prop) (xs:List PV) (h':AH),Good K W0 W ρ σ->e ρ W.h=some (xs,h')->(∀ J W',W'.h=h'->Le K W W'->yMK K W' J xs->R J W'.H)->wi σ W.H R
noncomputable def xIL (e:XE):XA:=fun ρ h=>ob (e ρ h) fun x h1=>match x with|.lst xs=>some (xs,h1)|.scr ns=>some (ns.map .int,h1)|_=>none
def xIT (e:XE):XA:=fun ρ h=>ob (e ρ h) fun x h1=>match x with|.tup xs=>some (xs,h1)|_=>none
def sgn (c:Nat):PV:=.str ⟨#[c]⟩
noncomputable def xIS (e:XE):XA:=fun ρ h=>ob (e ρ h) fun x h1=>match x with|.str z=>if z.length<=100000 then some (z.cps.toList.map sgn,h1) else none|_=>none
def yBd (lo:Int) (n:Nat):List PV:=(List.range n).map fun (k:Nat)=>.int (lo+(k:Int))
noncomputable def yJb (a:XA):XA:=fun ρ h=>ob (a ρ h) fun xs h1=>match xs with|[.int j]=>if -1000000000<=j/\j<=1000000000 then some (yBd 0 j.toNat,h1) else none|_=>none
theorem yjO {W:Wd}(w:WOk K W) {a:Addr}{vs:List V}(h:SqL K.K W.F a vs):SqL K.K W.H a vs:=Same.seq w.le h
theorem yfx {W:Wd}(w:WOk K W) {a:Addr}{vs:List V}(h:TpAt K.K W.F a vs):SqT K.K W.H a vs:=h.elim (fun h=>SqT.of (w.le _ _ h)) .inr
theorem yBZ (a:ygm K ta ea):yGm K (yJD K.K ta) (xIL ea):=by
 intro W0 W ρ σ R xs h' g e q
 obtain ⟨x,h1,e1,f1⟩:=yq e
 refine a W0 W ρ σ _ x h1 g e1 fun v W1 w1 l1 r1=>?_
 have key:∀ (a:Addr) (vs:List V),v=.ref a->SqL K.K W1.F a vs->RepL K W1.F W1.m xs vs->h1=h'->∃ a,v=.ref a/\(∃ xs,SqL K.K W1.H a xs)/\R (Itl K.K a) W1.H:=fun a vs ev hs rs eh=>by
  subst eh
  refine ⟨a,ev,⟨vs,yjO l1.ok hs⟩,q _ W1 w1 l1 ⟨fun i W' l w hi=>?_,fun i W' v' H2 l w hi hy=>?_,fun W' l w=>?_⟩⟩
  .obtain ⟨v',h1,_⟩:=rs.get (List.getElem?_eq_getElem hi)
   exact ⟨vs,v',yjO w (Same.seq l.fs hs),h1⟩
  .obtain ⟨h1,h2⟩:=hy
   have:=h2 vs (yjO w (Same.seq l.fs hs))
   obtain ⟨x,h3,h4⟩:=rs.get' this
   exact ⟨h1,x,h3,l.rep h4⟩
  .exact ⟨vs,yjO w (Same.seq l.fs hs),by rw [rs.len];exact Nat.le_refl _⟩
 split at f1
 .cases f1
  obtain ⟨a,vs,ev,hs,rs⟩:=r1
  exact key a vs ev (SqL.of hs) rs rfl
 .rename_i ns
  cases f1
  obtain ⟨a,ev,hs⟩:=r1
  exact key a _ ev hs (RepL.of_ints ns) rfl
 .cases f1
theorem yEB (a:ygm K ta ea):yGm K (yOs K.K ta) (xIT ea):=by
 intro W0 W ρ σ R xs h' g e q
 obtain ⟨x,h1,e1,f1⟩:=yq e
 refine a W0 W ρ σ _ x h1 g e1 fun v W1 w1 l1 r1=>?_
 split at f1
 .cases f1
  obtain ⟨a,vs,ev,hs,rs⟩:=r1
  refine ⟨a,ev,⟨vs,yfx l1.ok hs⟩,q _ W1 w1 l1 ⟨fun i W' l w hi=>?_,fun i W' v' H2 l w hi hy=>?_,fun W' l w=>?_⟩⟩
  .obtain ⟨v',h1,_⟩:=rs.get (List.getElem?_eq_getElem hi)
   exact ⟨vs,v',yfx w (hs.mono l.fs),h1⟩
  .obtain ⟨h1,h2⟩:=hy
   have:=h2 vs (yfx w (hs.mono l.fs))
   obtain ⟨x,h3,h4⟩:=rs.get' this
   exact ⟨h1,x,h3,l.rep h4⟩
  .exact ⟨vs,yfx w (hs.mono l.fs),by rw [rs.len];exact Nat.le_refl _⟩
 .cases f1
theorem yEC (a:ygm K ta ea):yGm K (yOI ta) (xIS ea):=by
 intro W0 W ρ σ R xs h' g e q
 obtain ⟨x,h1,e1,f1⟩:=yq e
 refine a W0 W ρ σ _ x h1 g e1 fun v W1 w1 l1 r1=>?_
 split at f1
 .rename_i z
  split at f1
  .rename_i hz
   cases f1
   have hl:z.length=z.cps.toList.length:=by simp [Str.length]
   refine ⟨z,r1,yKg hz,q _ W1 w1 l1 ⟨fun i W' l w hi=>?_,fun i W' v' H2 l w hi hy=>?_,fun W' l w=>?_⟩⟩
   .show i<z.length
    rw [hl];simpa using hi
   .obtain ⟨h1,c,h2,h3⟩:=hy
    exact ⟨h1,sgn c,by rw [List.getElem?_map,h2];rfl,h3⟩
   .show _=z.length
    rw [hl];simp
  .cases f1
 .cases f1
theorem yKh (W:Wd) (lo:Int) (n:Nat):yMK K W (Itr lo n) (yBd lo n):=by
 refine ⟨fun i W' l w hi=>?_,fun i W' v' H2 l w hi hy=>?_,fun W' l w=>?_⟩
 .show i<n
  simpa [yBd] using hi
 .obtain ⟨h1,h2⟩:=hy
  have hi:i<n:=by simpa [yBd] using hi
  exact ⟨h1,.int (lo+(i:Int)),by simp [yBd,hi],h2⟩
 .show n<=_
  simp [yBd]
theorem yCa {t:TA}{e:XA}(a:yxc K t e):yGm K (yJF t) (yJb e):=by
 intro W0 W ρ σ R xs h' g e q
 obtain ⟨ys,h1,e1,f1⟩:=yq e
 split at f1
 .rename_i j
  split at f1
  .rename_i hj
   cases f1
   refine a W0 W ρ σ _ _ _ g e1 fun vs W1 w1 l1 r1=>?_
   obtain ⟨v,r,rfl,rv,rr⟩:=r1
   obtain rfl:r=[]:=rr
   exact ⟨j,by rw [show v=.int j from rv],by omega,by omega,q _ W1 w1 l1 (yKh W1 0 _)⟩
  .cases f1
 .cases f1
theorem yHM {wi:TI}{it:XA}{g:TG}{y:XG}(a:yGm K wi it) (b:yGk K g y) (c:yoV K t s):yoV K (yMn wi g t) (ysZ it y s):=by
 intro W0 W ρ σ D o h' gd e q
 obtain ⟨xs,h1,e1,f1⟩:=yq e
 refine a W0 W ρ σ _ xs h1 gd e1 fun J W1 w1 l1 J1=>?_
 subst w1
 have q1:=q.from_ l1.lf
 refine ⟨fun i m σ H=>m=xs.length-i/\i<=xs.length/\∃ W' ρ',W'.H=H/\Lf K W1 W'/\Good K W0 W' ρ' σ/\ykc y s (xs.drop i) ρ' W'.h=some (o,h'),⟨_,rfl,Nat.zero_le _,W1,ρ,rfl,.refl,gd.step l1,by simpa using f1⟩,?_⟩
 rintro i m σ _ ⟨rfl,hi,W',ρ',rfl,l,g',f⟩
 by_cases hlt:i<xs.length
 .rw [List.drop_eq_getElem_cons hlt] at f
  obtain ⟨ρ1,k1,f⟩:=Option.bind_eq_some_iff.mp f
  obtain ⟨o1,h2,k2,f3⟩:=yq f
  refine .inr ⟨J1.go i W' l g'.ok hlt,fun σ2 H2=>i+1<=xs.length/\∃ W2 ρ2,W2.H=H2/\Lf K W1 W2/\Good K W0 W2 ρ2 σ2/\ykc y s (xs.drop (i+1)) ρ2 W2.h=some (o,h'),fun σ2 H2 ⟨n1,n2⟩=>⟨xs.length-(i+1),by omega,rfl,n1,n2⟩,fun v H2 hy=>?_⟩
  obtain ⟨rfl,x,hx,rx⟩:=J1.yld i W' v H2 l g'.ok hlt hy
  rw [List.getElem?_eq_getElem hlt] at hx
  cases hx
  refine b W0 W' ρ' ρ1 σ _ v _ g' rx k1 fun σ2 g2=>?_
  refine c W0 W' ρ1 σ2 _ o1 h2 g2 k2 ?_
  cases o1 with
  | nx ρ2=>exact fun W2 σ3 w2 l2 g3=>⟨hlt,W2,ρ2,rfl,l.trans l2,g3,by rw [w2];exact f3⟩
  | ct ρ2=>exact fun W2 σ3 w2 l2 g3=>⟨hlt,W2,ρ2,rfl,l.trans l2,g3,by rw [w2];exact f3⟩
  | bk ρ2=>cases f3;exact fun W2 σ3 w2 l2 g3=>q1 W2 σ3 w2 (l.trans l2) g3
  | rt x=>cases f3;exact q1
 .have ei:i=xs.length:=by omega
  subst ei
  refine .inl ⟨J1.stop W' l g'.ok,?_⟩
  rw [List.drop_length] at f
  cases f
  exact q1 W' σ rfl l g'
theorem yCb (n:Nat) (c:yxb K tA eA) (a:yoV K t s):yoV K (yFS tA t) (yvF n eA s):=by
 intro W0 W ρ σ D o h' gd e q
 refine ⟨fun m σ H=>∃ W' ρ',W'.H=H/\Lf K W W'/\Good K W0 W' ρ' σ/\whl eA s m ρ' W'.h=some (o,h'),⟨n,W,ρ,rfl,.refl,gd,e⟩,?_⟩
 rintro m σ _ ⟨W',ρ',rfl,l,g',f⟩
 cases m with
 | zero=>cases f
 | succ m =>
  obtain ⟨k,h1,e1,f1⟩:=yq f
  refine c W0 W' ρ' σ _ k h1 g' e1 fun W1 w1 l1=>?_
  subst w1
  cases k with
  | false =>
   rw [if_neg (by decide)] at f1 ⊢
   cases f1
   exact q W1 σ rfl (l.trans l1.lf) (g'.step l1)
  | true =>
   rw [if_pos rfl] at f1 ⊢
   obtain ⟨o1,h2,k2,f3⟩:=yq f1
   refine ⟨fun σ2 H2=>∃ W2 ρ2,W2.H=H2/\Lf K W W2/\Good K W0 W2 ρ2 σ2/\whl eA s m ρ2 W2.h=some (o,h'),fun σ2 H2 z=>⟨m,Nat.lt_succ_self _,z⟩,?_⟩
   refine a W0 W1 ρ' σ _ o1 h2 (g'.step l1) k2 ?_
   have l':=l.trans l1.lf
   cases o1 with
   | nx ρ2=>exact fun W2 σ3 w2 l2 g3=>⟨W2,ρ2,rfl,l'.trans l2,g3,by rw [w2];exact f3⟩
   | ct ρ2=>exact fun W2 σ3 w2 l2 g3=>⟨W2,ρ2,rfl,l'.trans l2,g3,by rw [w2];exact f3⟩
   | bk ρ2=>cases f3;exact fun W2 σ3 w2 l2 g3=>q W2 σ3 w2 (l'.trans l2) g3
   | rt x=>cases f3;exact q
theorem yCc {e:XE}{inn:PV->PSt}:∀ {xs:List PV}{h:AH}{ys:List PV}{h':AH},yqy e inn xs h=some (ys,h')->ys.length=xs.length
 | [],_,_,_,e=>by cases e;rfl
 | x::xs,_,_,_,e=>by
  obtain ⟨y,h1,e1,f1⟩:=yq e
  obtain ⟨ys,h2,e2,f2⟩:=yq f1
  cases f2
  rw [List.length_cons,List.length_cons,yCc e2]
theorem yED {W0 W W':Wd}{ρ:PSt}{σ:St}(g:Good K W0 W ρ σ) (l:Le K W W') (ix:List Nat) {x:PV}{v:V}(r:ygP K W' x v):Good K W' W' (yob ix ρ x) (inner ix σ v) where
 le:=.refl l.ok
 len:=by simp [yob,inner]
 val:=fun j y e=>by
  cases j with
  | zero=>simp [yob] at e;subst e;exact ⟨v,rfl,r⟩
  | succ j =>
   have e:(ix.map (yDJ ρ))[j]?=some (.val y):=e
   rw [List.getElem?_map] at e
   cases ei:ix[j]? with
   | none=>rw [ei] at e;cases e
   | some i =>
    rw [ei] at e
    have e:yDJ ρ i=.val y:=Option.some.inj e
    unfold yDJ at e
    split at e
    .rename_i z hz
     cases e
     obtain ⟨w,h1,h2⟩:=g.val i _ hz
     exact ⟨w,by show (ix.map fun i=>(σ[i]?).getD none)[j]?=_;rw [List.getElem?_map,ei];simp [h1],l.rep h2⟩
    .cases e
 own:=fun j d e=>by
  cases j with
  | zero=>simp [yob] at e
  | succ j =>
   have e:(ix.map (yDJ ρ))[j]?=some (.own d):=e
   rw [List.getElem?_map] at e
   cases ei:ix[j]? with
   | none=>rw [ei] at e;cases e
   | some i =>
    rw [ei] at e
    have e:yDJ ρ i=.own d:=Option.some.inj e
    unfold yDJ at e
    split at e<;>cases e
 ne:=fun j k d d' _ e _=>by
  cases j with
  | zero=>simp [yob] at e
  | succ j =>
   have e:(ix.map (yDJ ρ))[j]?=some (.own d):=e
   rw [List.getElem?_map] at e
   cases ei:ix[j]? with
   | none=>rw [ei] at e;cases e
   | some i =>
    rw [ei] at e
    have e:yDJ ρ i=.own d:=Option.some.inj e
    unfold yDJ at e
    split at e<;>cases e
theorem yyW {wi:TI}{it:XA}(ix:List Nat) (a:yGm K wi it) (b:ygm K ta ea):yBa K (yHm wi ix ta) (ylM it ix ea):=by
 intro W0 W ρ σ Q d h' gd e q
 obtain ⟨xs,h1,e1,f1⟩:=yq e
 split at f1
 .rename_i hlen
  obtain ⟨zs,h2,e2,f2⟩:=yq f1
  cases f2
  have hz:=yCc e2
  refine a W0 W ρ σ _ xs h1 gd e1 fun J W1 w1 l1 J1=>?_
  subst w1
  intro D hD
  have nm:=l1.ok.out hD
  have nf:=l1.ok.ff hD
  refine ⟨fun i m H=>m=xs.length-i/\i<=xs.length/\∃ W' acc done rest,W'.H=H/\Le K W1 W'/\D∉W'.m/\W'.F D=none/\H D=some (.lst acc)/\yhP K W' done acc/\done.length=i/\zs=done++rest/\yqy ea (yob ix ρ) (xs.drop i) W'.h=some (rest,h'),⟨_,rfl,Nat.zero_le _,yuV W1 D (.lst []),[],[],zs,rfl,ynl l1.ok hD,nm,nf,ybK,rfl,rfl,rfl,by rw [List.drop_zero];exact e2⟩,?_⟩
  rintro i m _ ⟨rfl,hi,W',acc,done,rest,rfl,l,n1,n2,hd,rd,ld,ez,f⟩
  by_cases hlt:i<xs.length
  .rw [List.drop_eq_getElem_cons hlt] at f
   obtain ⟨y,h3,k1,f3⟩:=yq f
   obtain ⟨ys,h4,k2,f4⟩:=yq f3
   cases f4
   refine .inr ⟨J1.go i W' l.lf l.ok hlt,fun v H2 hy=>?_⟩
   obtain ⟨rfl,x,hx,rx⟩:=J1.yld i W' v H2 l.lf l.ok hlt hy
   rw [List.getElem?_eq_getElem hlt] at hx
   cases hx
   refine b W' W' _ _ _ y h3 (yED gd (l1.trans l) ix rx) k1 fun w W2 w2 l2 r2=>?_
   obtain ⟨o2,n2'⟩:∃ o,W'.H D=some o:=⟨_,hd⟩
   have nm2:D∉W2.m:=fun z=>by rw [l2.mn D z n1] at hd;cases hd
   have nf2:W2.F D=none:=l2.new D _ hd n1 n2
   refine ⟨acc,l2.keep _ _ hd n1,?_,xs.length-(i+1),by omega,rfl,hlt,yHK W2 D (.lst (acc++[w])),acc++[w],done++[y],ys,rfl,yBY (l.trans l2) nm2 nf2 hD,nm2,nf2,ybK,(l2.repL rd).snoc r2,by simp [ld],by simp [ez],?_⟩
   .rw [rd.len,ld];exact big (by omega)
   .show yqy ea (yob ix ρ) (xs.drop (i+1)) W2.h=some (ys,h')
    rw [w2];exact k2
  .have ei:i=xs.length:=by omega
   subst ei
   rw [List.drop_length] at f
   cases f
   refine .inl ⟨J1.stop W' l.lf l.ok,?_⟩
   rw [List.append_nil] at ez
   subst ez
   exact q D W' rfl (l1.trans l) n1 (l1.fresh hD) (fun z=>by cases z) ⟨n2,acc,hd,rd⟩
 .cases f1
theorem yta {W:Wd}(w:WOk K W) {N:List Str}{xs:List PV}{vs:List V}(r:yhP K W xs vs):Good K W W (xs.map .val++List.replicate (N.length-xs.length) .no) (L2.start N vs) where
 le:=.refl w
 len:=by simp [L2.start,r.len]
 val:=fun j y e=>by
  by_cases hj:j<xs.length
  .rw [List.getElem?_append_left (by simpa using hj),List.getElem?_map,List.getElem?_eq_getElem hj] at e
   cases e
   obtain ⟨v,h1,h2⟩:=r.get (List.getElem?_eq_getElem hj)
   refine ⟨v,?_,h2⟩
   unfold L2.start
   rw [List.getElem?_append_left (by simp [r.len,hj]),List.getElem?_map,h1];rfl
  .rw [List.getElem?_append_right (by simp;omega),List.getElem?_replicate] at e
   split at e<;>cases e
 own:=fun j d e=>by
  by_cases hj:j<xs.length
  .rw [List.getElem?_append_left (by simpa using hj),List.getElem?_map,List.getElem?_eq_getElem hj] at e
   cases e
  .rw [List.getElem?_append_right (by simp;omega),List.getElem?_replicate] at e
   split at e<;>cases e
 ne:=fun j k d d' _ e _=>by
  by_cases hj:j<xs.length
  .rw [List.getElem?_append_left (by simpa using hj),List.getElem?_map,List.getElem?_eq_getElem hj] at e
   cases e
  .rw [List.getElem?_append_right (by simp;omega),List.getElem?_replicate] at e
   split at e<;>cases e
theorem yEE {N:List Str}{n:Nat}{vs:List V}{H:Hp}{Q:VK}{E:XK}{bk ct:St->Hp->Prop}(a:yoV K t s) (h:spE K n (yff N.length s) vs H Q E):t ⟨fun _ H'=>Q .non H',Q,bk,ct⟩ (L2.start N vs) H:=by
 obtain ⟨W,xs,x,h',rfl,w,r,_,e,q⟩:=h
 obtain ⟨o,h1,e1,f1⟩:=yq e
 refine a W W _ _ _ o h1 (yta w r) e1 ?_
 cases o with
 | rt y=>cases f1;exact fun W' v ew l rv=>q v W' ew l rv
 | nx ρ=>cases f1;exact fun W' σ' ew _ g=>q .non W' ew g.le rfl
 | bk ρ=>cases f1
 | ct ρ=>cases f1
theorem yHN {n:Nat}{f:Fn}{vs:List V}{H:Hp}{Q:VK}{E:XK}(h:spE K n f vs H Q E):vs.length=n:=by
 obtain ⟨W,xs,x,h',rfl,w,r,hn,_⟩:=h
 rw [r.len,hn]
end
end PX
namespace PX
open PySem L2
variable {K:Ck}
def oI (g:Int->Int->PV):P2:=fun x y h=>match x,y with|.int i,.int j=>some (g i j,h)|_,_=>none
noncomputable def oIc (C:Int->Int->Prop) [∀ i j,Decidable (C i j)] (g:Int->Int->PV):P2:=fun x y h=>match x,y with|.int i,.int j=>if C i j then some (g i j,h) else none|_,_=>none
abbrev yoc:P2:=oI fun i j=>.int (i+j)
abbrev yKi:P2:=oI fun i j=>.int (i-j)
noncomputable def MulOk (i j:Int):Prop:=(-18446744073709551616<i/\i<18446744073709551616)\/(-18446744073709551616<j/\j<18446744073709551616)
instance (i j:Int):Decidable (MulOk i j):=by unfold MulOk;infer_instance
def yCd (i j:Int):Prop:=(0<=i/\i<18446744073709551616)/\0<=j/\j<=1000000
instance (i j:Int):Decidable (yCd i j):=by unfold yCd;infer_instance
abbrev yGn:P2:=oIc MulOk fun i j=>.int (i*j)
abbrev oDiv:P2:=oIc (fun _ j=>0<j/\j<1073741824) fun i j=>.int (i/j)
abbrev oMod:P2:=oIc (fun _ j=>0<j) fun i j=>.int (i%j)
abbrev yMe:P2:=oIc yCd fun i j=>.int (i ^ j.toNat)
abbrev oLt:P2:=oI fun i j=>.bl (decide (i<j))
abbrev oLe:P2:=oI fun i j=>.bl (decide (i<=j))
abbrev oGt:P2:=oI fun i j=>.bl (decide (j<i))
abbrev yML:PV->AH->Option (PV×AH):=fun x h=>match x with|.int i=>some (.int (-i),h)|_=>none
theorem yKj {g:Int->Int->PV}{gV:Int->Int->V}(h:∀ (W:Wd) i j,ygP K W (g i j) (gV i j)):yfw K (rI0 gV) (oI g):=by
 intro W x y v u Q z h' w rx ry e q
 unfold oI at e
 split at e
 .rename_i i j
  cases e
  exact ⟨i,j,rx,ry,q _ W rfl (.refl w) (h W i j)⟩
 .cases e
theorem yEF {C:Int->Int->Prop} [∀ i j,Decidable (C i j)] {C':Int->Int->Prop}{g:Int->Int->PV}{gV:Int->Int->V}(hc:∀ i j,C i j->C' i j) (h:∀ (W:Wd) i j,ygP K W (g i j) (gV i j)):yfw K (rI C' gV) (oIc C g):=by
 intro W x y v u Q z h' w rx ry e q
 unfold oIc at e
 split at e
 .rename_i i j
  split at e
  .rename_i c
   cases e
   exact ⟨i,j,rx,ry,hc i j c,q _ W rfl (.refl w) (h W i j)⟩
  .cases e
 .cases e
theorem yjP:yfw K yMw yoc:=yKj fun _ _ _=>rfl
theorem yEG:yfw K yMx yKi:=yKj fun _ _ _=>rfl
theorem yCe:yfw K yMy yGn:=yEF (fun i j h=>by unfold CMul;rw [show (2:Int) ^ 64=18446744073709551616 by decide];exact h) fun _ _ _=>rfl
theorem yiZ:yfw K yMz oDiv:=yEF (fun i j h=>h) fun _ _ _=>rfl
theorem yio:yfw K yMA oMod:=yEF (fun i j h=>h) fun _ _ _=>rfl
theorem yHO:yfw K yMB yMe:=yEF (fun i j h=>by unfold yMr;rw [show 2 ^ 64=18446744073709551616 by decide];unfold yCd at h;omega) fun _ _ _=>rfl
theorem yJc:yfw K yOT oLt:=yKj fun _ _ _=>rfl
theorem yJd:yfw K yOU oLe:=yKj fun _ _ _=>rfl
theorem yKk:yfw K yOV oGt:=yKj fun _ _ _=>rfl
theorem yMM:yHt K yMC yML:=by
 intro W x v Q z h' w rx e q
 unfold yML at e
 split at e
 .rename_i i
  cases e
  exact ⟨i,rx,q _ W rfl (.refl w) rfl⟩
 .cases e
def sv:PV->Option V
 | .non=>some .non
 | .bl b=>some (.bl b)
 | .int i=>some (.int i)
 | .str s=>some (.str s)
 | _=>none
theorem ync {W:Wd}{x:PV}{v u:V}(e:sv x=some u) (r:ygP K W x v):v=u:=by
 cases x<;>cases e<;>exact r
noncomputable def oEq:P2:=fun x y h=>match sv x,sv y with|some v,some u=>if yFU v u=true then some (.bl (decide (v=u)),h) else none|_,_=>none
noncomputable def oNe:P2:=fun x y h=>match sv x,sv y with|some v,some u=>if yFU v u=true then some (.bl (!decide (v=u)),h) else none|_,_=>none
theorem yja:yfw K rEq oEq:=by
 intro W x y v u Q z h' w rx ry e q
 unfold oEq at e
 split at e
 .rename_i v' u' e1 e2
  obtain rfl:=ync e1 rx
  obtain rfl:=ync e2 ry
  split at e
  .rename_i c
   cases e
   exact ⟨c,q _ W rfl (.refl w) rfl⟩
  .cases e
 .cases e
theorem yEH:yfw K rNe oNe:=by
 intro W x y v u Q z h' w rx ry e q
 unfold oNe at e
 split at e
 .rename_i v' u' e1 e2
  obtain rfl:=ync e1 rx
  obtain rfl:=ync e2 ry
  split at e
  .rename_i c
   cases e
   exact ⟨c,q _ W rfl (.refl w) rfl⟩
  .cases e
 .cases e
def isN:PV->Bool
 | .non=>true
 | _=>false
def yJe:P2:=fun x y h=>match y with|.non=>some (.bl (isN x),h)|_=>none
def yEI:P2:=fun x y h=>match y with|.non=>some (.bl (!isN x),h)|_=>none
theorem yCf {W:Wd}{x:PV}{v:V}(r:ygP K W x v):decide (v=.non)=isN x:=by
 cases x with
 | non=>rw [show v=.non from r];rfl
 | bl b=>rw [show v=.bl b from r];rfl
 | int b=>rw [show v=.int b from r];rfl
 | str b=>rw [show v=.str b from r];rfl
 | ty b=>rw [show v=.ty b from r];rfl
 | cls b=>rw [show v=.ref _ from r];rfl
 | scr b=>obtain ⟨a,e,_⟩:=r;rw [e];rfl
 | lst b=>obtain ⟨a,_,e,_⟩:=r;rw [e];rfl
 | tup b=>obtain ⟨a,_,e,_⟩:=r;rw [e];rfl
 | ins k n b=>obtain ⟨a,_,_,e,_⟩:=r;rw [e];rfl
 | loc n=>obtain ⟨a,e,_⟩:=r;rw [e];rfl
theorem yHP:yfw K yOW yJe:=by
 intro W x y v u Q z h' w rx ry e q
 unfold yJe at e
 split at e
 .cases e
  exact ⟨ry,by rw [yCf rx];exact q _ W rfl (.refl w) rfl⟩
 .cases e
theorem yKl:yfw K yME yEI:=by
 intro W x y v u Q z h' w rx ry e q
 unfold yEI at e
 split at e
 .cases e
  exact ⟨ry,by rw [yCf rx];exact q _ W rfl (.refl w) rfl⟩
 .cases e
noncomputable def yip:P2:=fun x y h=>match x,y with|.str i,.str j=>if i.length+j.length<=100000 then some (.str (i++j),h) else none|_,_=>none
theorem ylN:yfw K yMD yip:=by
 intro W x y v u Q z h' w rx ry e q
 unfold yip at e
 split at e
 .rename_i i j
  split at e
  .rename_i c
   cases e
   exact ⟨i,j,rx,ry,yKg c,q _ W rfl (.refl w) rfl⟩
  .cases e
 .cases e
noncomputable def yKm:P2:=fun x y h=>match x,y with|.str s,.str j=>(match s.cps.toList with|[c]=>some (.bl (decide (c∈j.cps.toList)),h)|_=>none)|_,_=>none
theorem one_sign {s:Str}{c:Nat}(h:s.cps.toList=[c]):s=⟨#[c]⟩:=by
 obtain ⟨⟨l⟩⟩:=s
 have:l=[c]:=h
 rw [this]
theorem yKn:yfw K yOF yKm:=by
 intro W x y v u Q z h' w rx ry e q
 unfold yKm at e
 split at e
 .rename_i s j
  split at e
  .rename_i c hc
   cases e
   exact ⟨c,j,by rw [<- one_sign hc];exact rx,ry,q _ W rfl (.refl w) rfl⟩
  .cases e
 .cases e
noncomputable def ytG:P2:=fun x y h=>match y with
 | .int i=>(match x with
  | .lst xs=>(match atI xs i with|some v=>some (v,h)|none=>none)
  | .scr ns=>(match atI ns i with|some v=>some (.int v,h)|none=>none)
  | .loc n=>(match h[n]? with|some (.lst xs)=>(match atI xs i with|some v=>some (v,h)|none=>none)|_=>none)
  | _=>none)
 | _=>none
def ycT:P2:=fun x y h=>match x,y with|.tup xs,.int i=>(match atI xs i with|some v=>some (v,h)|none=>none)|_,_=>none
noncomputable def yHQ:P2:=fun x y h=>match x,y with|.str s,.int i=>(match atI s.cps.toList i with|some c=>if s.length<=100000 then some (sgn c,h) else none|none=>none)|_,_=>none
theorem RepL.at {F:Hp}{m:List Addr}{xs:List PV}{vs:List V}(r:RepL K F m xs vs) {i:Int}{x:PV}(e:atI xs i=some x):∃ v,atI vs i=some v/\Rep K F m x v:=by
 unfold atI at e ⊢
 rw [r.len]
 obtain ⟨j,e1,e2⟩:=Option.bind_eq_some_iff.mp e
 rw [e1]
 exact r.get e2
theorem WOk.loc {W:Wd}(w:WOk K W) {n:Nat}{d:Nd}{v:V}(e:W.h[n]?=Option.some d) (r:ygP K W (.loc n) v):∃ a,v=.ref a/\W.m[n]?=Option.some a/\NdAt K W.F W.H W.m d a:=by
 obtain ⟨a,ea,h⟩:=r
 exact ⟨a,ea,h,w.at_ n d a e h⟩
theorem ypa:yfw K (yOy K.K) ytG:=by
 intro W x y v u Q z h' w rx ry e q
 unfold ytG at e
 split at e
 .rename_i i
  split at e
  .rename_i xs
   split at e
   .rename_i y hy
    cases e
    obtain ⟨a,vs,ev,hs,rs⟩:=rx
    obtain ⟨v',h1,h2⟩:=rs.at hy
    exact ⟨a,vs,i,v',ev,ry,SqL.of (w.le _ _ hs),h1,q _ W rfl (.refl w) h2⟩
   .cases e
  .rename_i ns
   split at e
   .rename_i y hy
    cases e
    obtain ⟨a,ev,hs⟩:=rx
    refine ⟨a,_,i,.int y,ev,ry,yjO w hs,?_,q _ W rfl (.refl w) rfl⟩
    unfold atI at hy ⊢
    rw [List.length_map]
    obtain ⟨j,e1,e2⟩:=Option.bind_eq_some_iff.mp hy
    rw [e1]
    show (ns.map V.int)[j]?=_
    rw [List.getElem?_map,e2];rfl
   .cases e
  .rename_i n
   split at e
   .rename_i xs hn
    split at e
    .rename_i y hy
     cases e
     obtain ⟨a,ev,hm,hf,vs,hp,rs⟩:=w.loc hn rx
     obtain ⟨v',h1,h2⟩:=rs.at hy
     exact ⟨a,vs,i,v',ev,ry,SqL.of hp,h1,q _ W rfl (.refl w) h2⟩
    .cases e
   .cases e
  .cases e
 .cases e
theorem yby:yfw K (yOz K.K) ycT:=by
 intro W x y v u Q z h' w rx ry e q
 unfold ycT at e
 split at e
 .rename_i xs i
  split at e
  .rename_i y hy
   cases e
   obtain ⟨a,vs,ev,hs,rs⟩:=rx
   obtain ⟨v',h1,h2⟩:=rs.at hy
   exact ⟨a,vs,i,v',ev,ry,yfx w hs,h1,q _ W rfl (.refl w) h2⟩
  .cases e
 .cases e
theorem yHR:yfw K yOA yHQ:=by
 intro W x y v u Q z h' w rx ry e q
 unfold yHQ at e
 split at e
 .rename_i s i
  split at e
  .rename_i c hc
   split at e
   .rename_i hl
    cases e
    exact ⟨s,i,c,rx,ry,yKg hl,hc,q _ W rfl (.refl w) rfl⟩
   .cases e
  .cases e
 .cases e
noncomputable def yDK {α:Type}(xs:List α) (lo hi:Option Int):List α:=(xs.drop (HT.sIx xs.length 0 lo)).take (HT.sIx xs.length xs.length hi-HT.sIx xs.length 0 lo)
noncomputable def listOf (x:PV) (h:AH):Option (List PV):=match x with|.lst xs=>some xs|.scr ns=>some (ns.map .int)|.loc n=>(match h[n]? with|some (.lst xs)=>some xs|_=>none)|_=>none
theorem ypb {W:Wd}(w:WOk K W) {x:PV}{v:V}{xs:List PV}(e:listOf x W.h=some xs) (r:ygP K W x v):∃ a vs,v=.ref a/\SqL K.K W.H a vs/\yhP K W xs vs:=by
 unfold listOf at e
 split at e
 .cases e
  obtain ⟨a,vs,ev,hs,rs⟩:=r
  exact ⟨a,vs,ev,SqL.of (w.le _ _ hs),rs⟩
 .rename_i ns
  cases e
  obtain ⟨a,ev,hs⟩:=r
  exact ⟨a,_,ev,yjO w hs,RepL.of_ints ns⟩
 .rename_i n
  split at e
  .rename_i ys hn
   cases e
   obtain ⟨a,ev,hm,hf,vs,hp,rs⟩:=w.loc hn r
   exact ⟨a,vs,ev,SqL.of hp,rs⟩
  .cases e
 .cases e
noncomputable def yey (x:PV) (h:AH):Option (List PV):=match x with|.lst xs=>some xs|.loc n=>(match h[n]? with|some (.lst xs)=>some xs|_=>none)|_=>none
theorem ybQ {W:Wd}(w:WOk K W) {x:PV}{v:V}{xs:List PV}(e:yey x W.h=some xs) (r:ygP K W x v):∃ a vs,v=.ref a/\W.H a=some (.lst vs)/\yhP K W xs vs:=by
 unfold yey at e
 split at e
 .cases e
  obtain ⟨a,vs,ev,hs,rs⟩:=r
  exact ⟨a,vs,ev,w.le _ _ hs,rs⟩
 .rename_i n
  split at e
  .rename_i ys hn
   cases e
   obtain ⟨a,ev,hm,hf,vs,hp,rs⟩:=w.loc hn r
   exact ⟨a,vs,ev,hp,rs⟩
  .cases e
 .cases e
theorem yMf {W:Wd}(w:WOk K W) {p:Addr}(hp:W.H p=none) {xs:List PV}{vs:List V}(r:yhP K W xs vs) {Q:VK}(q:yzS K W (.lst xs) W.h Q):Q (.ref p) (upd W.H p (.lst vs)) :=
 q p (yuV W p (.lst vs)) rfl (ynl w hp) (w.out hp) hp (fun z=>by cases z) ⟨w.ff hp,vs,ybK,r⟩
noncomputable def yGo:PV->Option Int->Option Int->AH->Option (Nd×AH):=fun x lo hi h=>match listOf x h with|some xs=>some (.lst (yDK xs lo hi),h)|none=>none
theorem yEJ:yBU K (yOB K.K) yGo:=by
 intro W x v lo hi Q d h' w rx e q
 unfold yGo at e
 split at e
 .rename_i xs hx
  cases e
  obtain ⟨a,vs,ev,hs,rs⟩:=ypb w hx rx
  refine ⟨a,vs,ev,hs,fun p hp=>yMf w hp ?_ q⟩
  have:=(rs.drop (HT.sIx xs.length 0 lo)).take (HT.sIx xs.length xs.length hi-HT.sIx xs.length 0 lo)
  unfold yDK yJP
  rw [rs.len]
  exact this
 .cases e
noncomputable def yKo:P2O:=fun x y h=>match yey x h,yey y h with|some xs,some ys=>if xs.length+ys.length<=100000 then some (.lst (xs++ys),h) else none|_,_=>none
theorem yKp:yBO K yOD yKo:=by
 intro W x y v u Q d h' w rx ry e q
 unfold yKo at e
 split at e
 .rename_i xs ys hx hy
  split at e
  .rename_i hl
   cases e
   obtain ⟨a,vs,ev,hs,rs⟩:=ybQ w hx rx
   obtain ⟨b,us,eu,ht,ru⟩:=ybQ w hy ry
   refine ⟨a,b,vs,us,ev,eu,hs,ht,by rw [rs.len,ru.len];exact yKg hl,fun p hp=>yMf w hp (rs.app ru) q⟩
  .cases e
 .cases e
noncomputable def yGp (x:PV) (h:AH):Option Nat:=match x with|.tup xs=>some xs.length|.lst xs=>some xs.length|.scr ns=>some ns.length|.loc n=>(match h[n]? with|some (.lst xs)=>some xs.length|_=>none)|_=>none
noncomputable def ytH:List PV->AH->Option (PV×AH):=fun xs h=>match xs with|[x]=>(match yGp x h with|some n=>some (.int n,h)|none=>none)|_=>none
noncomputable def yzW:List PV->AH->Option (PV×AH):=fun xs h=>match xs with|[.str z]=>if z.length<=100000 then some (.int z.length,h) else none|_=>none
theorem yxd {W:Wd}{x:PV}{vs:List V}(r:yhP K W [x] vs):∃ v,vs=[v]/\ygP K W x v:=by
 obtain ⟨v,r',e,h,l⟩:=r
 exact ⟨v,by rw [e,show r'=[] from l],h⟩
theorem yOJ {W:Wd}{x y:PV}{vs:List V}(r:yhP K W [x,y] vs):∃ v u,vs=[v,u]/\ygP K W x v/\ygP K W y u:=by
 obtain ⟨v,r',e,h,l⟩:=r
 obtain ⟨u,e2,h2⟩:=yxd l
 exact ⟨v,u,by rw [e,e2],h,h2⟩
theorem ytb:yoY K (yMH K.K) ytH:=by
 intro W xs vs Q z h' w r e q
 unfold ytH at e
 split at e
 .rename_i x
  split at e
  .rename_i n hn
   cases e
   obtain ⟨v,rfl,rx⟩:=yxd r
   have fin:∀ (ys:List V),ys.length=n->Q (.int ys.length) W.H:=fun ys hl=>by rw [hl];exact q _ W rfl (.refl w) rfl
   unfold yGp at hn
   split at hn
   .cases hn
    obtain ⟨a,us,rfl,hs,rs⟩:=rx
    exact ⟨a,us,rfl,.inr (yfx w hs),fin _ rs.len⟩
   .rename_i ys
    cases hn
    obtain ⟨a,us,rfl,hs,rs⟩:=rx
    exact ⟨a,us,rfl,.inl (SqL.of (w.le _ _ hs)),fin _ rs.len⟩
   .rename_i ns
    cases hn
    obtain ⟨a,rfl,hs⟩:=rx
    exact ⟨a,_,rfl,.inl (yjO w hs),fin _ (by simp)⟩
   .split at hn
    .rename_i ys hy
     cases hn
     obtain ⟨a,rfl,hm,hf,us,hp,rs⟩:=w.loc hy rx
     exact ⟨a,us,rfl,.inl (SqL.of hp),fin _ rs.len⟩
    .cases hn
   .cases hn
  .cases e
 .cases e
theorem yCg:yoY K yMG yzW:=by
 intro W xs vs Q z h' w r e q
 unfold yzW at e
 split at e
 .rename_i s
  split at e
  .rename_i hl
   cases e
   obtain ⟨v,rfl,rx⟩:=yxd r
   exact ⟨s,by rw [show v=_ from rx],yKg hl,q _ W rfl (.refl w) rfl⟩
  .cases e
 .cases e
noncomputable def yxA:List PV->AH->Option (PV×AH):=fun xs h=>match xs with|[.int i]=>some (.int i,h)|[.bl k]=>some (.int (if k then 1 else 0),h)|_=>none
theorem yGq:yoY K yMF yxA:=by
 intro W xs vs Q z h' w r e q
 unfold yxA at e
 split at e
 .rename_i i
  cases e
  obtain ⟨v,rfl,rx⟩:=yxd r
  exact .inl ⟨i,by rw [show v=_ from rx],q _ W rfl (.refl w) rfl⟩
 .rename_i k
  cases e
  obtain ⟨v,rfl,rx⟩:=yxd r
  exact .inr ⟨k,by rw [show v=_ from rx],q _ W rfl (.refl w) rfl⟩
 .cases e
noncomputable def yEK:List PV->AH->Option (PV×AH):=fun xs h=>match xs with|[.int i]=>if i.natAbs.log2<1920 then some (.str (toString i:String),h) else none|_=>none
theorem yKq:yoY K yJS yEK:=by
 intro W xs vs Q z h' w r e q
 unfold yEK at e
 split at e
 .rename_i i
  split at e
  .rename_i hl
   cases e
   obtain ⟨v,rfl,rx⟩:=yxd r
   exact ⟨i,by rw [show v=_ from rx],hl,q _ W rfl (.refl w) rfl⟩
  .cases e
 .cases e
noncomputable def yCh:List PV->AH->Option (PV×AH):=fun xs h=>match xs with|[.str z]=>if z.cps.toList≠[]/\(∀ c∈z.cps.toList,48<=c/\c<=57)/\z.length<=640 then some (.int (yHk z.cps.toList),h) else none|_=>none
theorem yKr:yoY K yJT yCh:=by
 intro W xs vs Q z h' w r e q
 unfold yCh at e
 split at e
 .rename_i i
  split at e
  .rename_i hl
   cases e
   obtain ⟨v,rfl,rx⟩:=yxd r
   exact ⟨i,by rw [show v=_ from rx],hl.1,hl.2.1,hl.2.2,q _ W rfl (.refl w) rfl⟩
  .cases e
 .cases e
noncomputable def ydz:List PV->AH->Option (Nd×AH):=fun xs h=>match xs with|[.tup ys]=>some (.lst ys,h)|[x]=>(match listOf x h with|some ys=>some (.lst ys,h)|none=>none)|_=>none
theorem yhQ:yBP K (yHl K.K) ydz:=by
 intro W xs vs Q d h' w r e q
 unfold ydz at e
 split at e
 .rename_i ys
  cases e
  obtain ⟨v,rfl,a,us,rfl,hs,rs⟩:=yxd r
  exact ⟨a,us,rfl,.inr (yfx w hs),fun p hp=>yMf w hp rs q⟩
 .rename_i x _
  split at e
  .rename_i ys hy
   cases e
   obtain ⟨v,rfl,rx⟩:=yxd r
   obtain ⟨a,us,rfl,hs,rs⟩:=ypb w hy rx
   exact ⟨a,us,rfl,.inl hs,fun p hp=>yMf w hp rs q⟩
  .cases e
 .cases e
def strsOf:List PV->Option (List Str)
 | []=>some []
 | .str s::r=>(strsOf r).map (s::·)
 | _=>none
def intsOf:List PV->Option (List Int)
 | []=>some []
 | .int s::r=>(intsOf r).map (s::·)
 | _=>none
def yCi:List PV->Option (List Bool)
 | []=>some []
 | .bl s::r=>(yCi r).map (s::·)
 | _=>none
theorem ytc:∀ ss:List Str,strsOf (ss.map .str)=some ss
 | []=>rfl
 | s::ss=>by show (strsOf (ss.map .str)).map _=_;rw [ytc ss];rfl
theorem ymK:∀ ss:List Int,intsOf (ss.map .int)=some ss
 | []=>rfl
 | s::ss=>by show (intsOf (ss.map .int)).map _=_;rw [ymK ss];rfl
theorem yvG:∀ ss:List Bool,yCi (ss.map .bl)=some ss
 | []=>rfl
 | s::ss=>by show (yCi (ss.map .bl)).map _=_;rw [yvG ss];rfl
theorem ytd {F:Hp}{m:List Addr}:∀ {xs:List PV}{ss:List Str}{vs:List V},strsOf xs=some ss->RepL K F m xs vs->vs=ss.map V.str
 | [],_,_,e,r=>by cases e;exact r
 | x::xs,ss,_,e,⟨v,r',ev,h,l⟩=>by
  cases x<;>try cases e
  rename_i s
  obtain ⟨ts,e1,e2⟩:=Option.map_eq_some_iff.mp e
  subst e2
  rw [ev,show v=_ from h,ytd e1 l];rfl
theorem yte {F:Hp}{m:List Addr}:∀ {xs:List PV}{ss:List Int}{vs:List V},intsOf xs=some ss->RepL K F m xs vs->vs=ss.map V.int
 | [],_,_,e,r=>by cases e;exact r
 | x::xs,ss,_,e,⟨v,r',ev,h,l⟩=>by
  cases x<;>try cases e
  rename_i s
  obtain ⟨ts,e1,e2⟩:=Option.map_eq_some_iff.mp e
  subst e2
  rw [ev,show v=_ from h,yte e1 l];rfl
theorem yvH {F:Hp}{m:List Addr}:∀ {xs:List PV}{ss:List Bool}{vs:List V},yCi xs=some ss->RepL K F m xs vs->vs=ss.map V.bl
 | [],_,_,e,r=>by cases e;exact r
 | x::xs,ss,_,e,⟨v,r',ev,h,l⟩=>by
  cases x<;>try cases e
  rename_i s
  obtain ⟨ts,e1,e2⟩:=Option.map_eq_some_iff.mp e
  subst e2
  rw [ev,show v=_ from h,yvH e1 l];rfl
noncomputable def yBe:List PV->AH->Option (PV×AH):=fun xs h=>match xs with|[x]=>(match yey x h with|some ys=>(match intsOf ys with|some ns=>some (.int ns.sum,h)|none=>none)|none=>none)|_=>none
theorem yHS:yoY K yOH yBe:=by
 intro W xs vs Q z h' w r e q
 unfold yBe at e
 split at e
 .split at e
  .rename_i ys hy
   split at e
   .rename_i ns hn
    cases e
    obtain ⟨v,rfl,rx⟩:=yxd r
    obtain ⟨a,us,rfl,hs,rs⟩:=ybQ w hy rx
    have:=yte hn rs
    subst this
    exact ⟨a,ns,rfl,hs,q _ W rfl (.refl w) rfl⟩
   .cases e
  .cases e
 .cases e
noncomputable def yKs:List PV->AH->Option (PV×AH):=fun xs h=>match xs with|[x]=>(match yey x h with|some ys=>(match yCi ys with|some ns=>some (.bl (ns.all id),h)|none=>none)|none=>none)|_=>none
theorem yMN:yoY K yOG yKs:=by
 intro W xs vs Q z h' w r e q
 unfold yKs at e
 split at e
 .split at e
  .rename_i ys hy
   split at e
   .rename_i ns hn
    cases e
    obtain ⟨v,rfl,rx⟩:=yxd r
    obtain ⟨a,us,rfl,hs,rs⟩:=ybQ w hy rx
    have:=yvH hn rs
    subst this
    exact ⟨a,ns,rfl,hs,q _ W rfl (.refl w) rfl⟩
   .cases e
  .cases e
 .cases e
def isStr:PV->AH->Bool:=fun x _=>match x with|.str _=>true|_=>false
noncomputable def ykx:PM:=fun x xs h=>match x,xs with|.str sep,[y]=>(match yey y h with|some ys=>(match strsOf ys with|some ts=>if sep.length<=16/\(ts.map (·.length)).sum+ts.length<=1048576 then some (.str (Str.join sep ts),h) else none|none=>none)|none=>none)|_,_=>none
theorem ykd:yvD K "str" isStr rJoin ykx:=by
 refine ⟨fun W x v w r c=>?_,fun W x v xs vs Q z h' w rx r e q=>?_⟩
 .unfold isStr at c
  split at c
  .rw [show v=_ from r];rfl
  .cases c
 .unfold ykx at e
  split at e
  .rename_i sep y
   split at e
   .rename_i ys hy
    split at e
    .rename_i ts ht
     split at e
     .rename_i c
      cases e
      obtain ⟨u,rfl,ru⟩:=yxd r
      obtain ⟨a,us,rfl,hs,rs⟩:=ybQ w hy ru
      have:=ytd ht rs
      subst this
      exact ⟨sep,a,ts,rx,rfl,hs,c.1,c.2,q _ W rfl (.refl w) rfl⟩
     .cases e
    .cases e
   .cases e
  .cases e
end PX
namespace PX
open PySem L2
variable {K:Ck}
noncomputable def putN (f:Str) (x:PV) (ns:List Str) (xs:List PV):List Str×List PV:=if f∈ns then (ns,xs.set (ns.idxOf f) x) else (ns++[f],xs++[x])
theorem yyX (f:Str) (y:V):∀ (ns:List Str) (vs:List V),vs.length=ns.length->ysV f y (ns.zip vs)=if f∈ns then ns.zip (vs.set (ns.idxOf f) y) else (ns++[f]).zip (vs++[y])
 | [],[],_=>by simp [ysV]
 | n::ns,v::vs,hl=>by
  have ih:=yyX f y ns vs (by simpa using hl)
  show (if n=f then (n,y)::ns.zip vs else (n,v)::ysV f y (ns.zip vs))=_
  by_cases h:n=f
  .subst h
   simp [List.idxOf_cons_self]
  .have h':¬ f=n:=fun z=>h z.symm
   have hb:(n == f)=false:=by simpa using h
   rw [if_neg h,ih]
   by_cases hm:f∈ns
   .simp [hm,h',List.idxOf_cons,hb]
   .simp [hm,h']
theorem ytf {f:Str}:∀ {ns:List Str}{vs:List V},vs.length=ns.length->f∈ns->(ns.zip vs).lookup f=vs[ns.idxOf f]?
 | [],_,_,h=>by simp at h
 | n::ns,v::vs,hl,h=>by
  show List.lookup f ((n,v)::ns.zip vs)=_
  by_cases hn:f=n
  .subst hn
   rw [yMJ,List.idxOf_cons_self];rfl
  .rw [yJU hn,ytf (by simpa using hl) (by simpa [hn] using h)]
   have hb:(n == f)=false:=by simpa using fun z:n=f=>hn z.symm
   simp [List.idxOf_cons,hb]
theorem yiq {f:Str}:∀ {ns:List Str}{vs:List V},f∉ns->(ns.zip vs).lookup f=none
 | [],_,_=>by simp
 | n::ns,[],_=>by simp
 | n::ns,v::vs,h=>by
  show List.lookup f ((n,v)::ns.zip vs)=_
  rw [yJU (fun z:f=n=>h (by rw [z];exact List.mem_cons_self)),yiq fun z=>h (List.mem_cons_of_mem _ z)]
noncomputable def ypc (x:PV) (h:AH):Option (Nat×List Str×List PV):=match x with|.ins k ns xs=>some (k,ns,xs)|.loc n=>(match h[n]? with|some (.ins k ns xs)=>some (k,ns,xs)|_=>none)|_=>none
theorem yod {W:Wd}(w:WOk K W) {x:PV}{v:V}{k:Nat}{ns:List Str}{xs:List PV}(e:ypc x W.h=some (k,ns,xs)) (r:ygP K W x v):∃ a dx vs,v=.ref a/\W.H a=some (.ins (K.A k) dx (ns.zip vs))/\vs.length=ns.length/\yhP K W xs vs:=by
 unfold ypc at e
 split at e
 .cases e
  obtain ⟨a,dx,vs,ev,hs,hl,rs⟩:=r
  exact ⟨a,dx,vs,ev,w.le _ _ hs,hl,rs⟩
 .rename_i n
  split at e
  .rename_i hn
   cases e
   obtain ⟨a,ev,hm,hf,dx,vs,hp,hl,rs⟩:=w.loc hn r
   exact ⟨a,dx,vs,ev,hp,hl,rs⟩
  .cases e
 .cases e
noncomputable def ygJ (cs:List Nat) (f:Str) (e:XE):XE:=fun ρ h=>ob (e ρ h) fun x h1=>match ypc x h1 with|some (k,ns,xs)=>if k∈cs/\f∈ns then (match xs[ns.idxOf f]? with|some y=>some (y,h1)|none=>none) else none|none=>none
theorem yHT {cs:List Nat}{f:Str}{ta:TE}{ea:XE}(hc:∀ k∈cs,Cls K.K (K.A k)/\NoAttr K.K (K.A k) f) (a:ygm K ta ea):ygm K (yOv K.K ta f) (ygJ cs f ea):=by
 intro W0 W ρ σ Q z h' g e q
 obtain ⟨x,h1,e1,f1⟩:=yq e
 refine a W0 W ρ σ _ x h1 g e1 fun v W1 w1 l1 r1=>?_
 subst w1
 split at f1
 .rename_i k ns xs hi
  split at f1
  .rename_i c
   split at f1
   .rename_i y hy
    cases f1
    obtain ⟨a,dx,vs,ev,hp,hl,rs⟩:=yod l1.ok hi r1
    obtain ⟨u,h2,h3⟩:=rs.get hy
    exact ⟨a,_,dx,_,u,ev,hp,(hc k c.1).1,(hc k c.1).2,by rw [ytf hl c.2];exact h2,q _ W1 rfl l1 h3⟩
   .cases f1
  .cases f1
 .cases f1
noncomputable def yhi (cs:List Nat) (i:Nat) (f:Str) (e:XE):XS:=fun ρ h=>ob (e ρ h) fun x h1=>match ρ[i]? with
 | some (.own (.ins k ns xs))=>if k∈cs/\ns.length<1000 then some (.nx (ρ.set i (.own (.ins k (putN f x ns xs).1 (putN f x ns xs).2))),h1) else none
 | _=>none
theorem RepL.putN {F:Hp}{m:List Addr}{f:Str}{x:PV}{v:V}{ns:List Str}{xs:List PV}{vs:List V}(r:RepL K F m xs vs) (hl:vs.length=ns.length) (rx:Rep K F m x v) :
  ∃ us,ysV f v (ns.zip vs)=(PX.putN f x ns xs).1.zip us/\us.length=(PX.putN f x ns xs).1.length/\RepL K F m (PX.putN f x ns xs).2 us:=by
 rw [yyX f v ns vs hl]
 unfold PX.putN
 by_cases h:f∈ns
 .rw [if_pos h,if_pos h]
  exact ⟨_,rfl,by rw [List.length_set];exact hl,r.set _ rx⟩
 .rw [if_neg h,if_neg h]
  exact ⟨_,rfl,by rw [List.length_append,List.length_append,hl];rfl,r.snoc rx⟩
noncomputable def yGr (K:Ck) (t:TS) (s:XS):Prop:=∀ (W0 W:Wd) (ρ ρ':PSt) (σ:St) (D:Ends) (h':AH),Good K W0 W ρ σ->s ρ W.h=some (.nx ρ',h')->(∀ W',W'.h=h'->Lf K W W'->Good K W0 W' ρ' σ->D.nx σ W'.H)->t D σ W.H
theorem yEL {cs:List Nat}{i:Nat}{f:Str}{ta:TE}{ea:XE}(hc:∀ k∈cs,Cls K.K (K.A k)/\NoAttr K.K (K.A k) f) (a:ygm K ta ea):yGr K (yMs K.K (yIY i) ta f) (yhi cs i f ea):=by
 intro W0 W ρ ρ' σ D h' g e q
 obtain ⟨x,h1,e1,f1⟩:=yq e
 split at f1
 .rename_i k ns xs hi
  split at f1
  .rename_i c
   cases f1
   refine a W0 W ρ σ _ x _ g e1 fun v W1 w1 l1 r1=>?_
   have g1:=g.step l1
   obtain ⟨p,b1,b2,b3,b4,b5,dx,vs,b6,b7,b8⟩:=g1.own i _ hi
   obtain ⟨us,p1,p2,p3⟩:=b8.putN (f:=f) b7 r1
   refine ⟨_,b1,p,_,dx,_,rfl,b6,(hc k c.1).1,(hc k c.1).2,by rw [List.length_zip,b7];simpa using c.2,?_⟩
   rw [p1]
   exact q (yHK W1 p _) w1 (yGl l1 b2) (g1.mut hi b1 b2 b3 b5 (fun z=>by cases z) ⟨b5,dx,us,ybK,p2,p3⟩)
  .cases f1
 .cases f1
theorem yEM {t u:TS}{s s':XS}(a:yGr K t s) (b:yGr K u s'):yGr K (yMl t u) (yw s s'):=by
 intro W0 W ρ ρ' σ D h' g e q
 obtain ⟨o1,h1,e1,f1⟩:=yq e
 cases o1 with
 | nx ρ1=>exact a W0 W ρ ρ1 σ _ h1 g e1 fun W1 w1 l1 g1=>b W0 W1 ρ1 ρ' σ D h' g1 (by rw [w1];exact f1) fun W2 w2 l2 g2=>q W2 w2 (l1.trans l2) g2
 | rt y=>cases f1
 | bk y=>cases f1
 | ct y=>cases f1
noncomputable def yzX (N:Nat) (k:Nat) (s:XS):List PV->AH->Option (Nd×AH):=fun xs h=>ob (s (.own (.ins k [] [])::(xs.map .val++List.replicate (N-(xs.length+1)) .no)) h) fun o h1=>match o with|.nx ρ=>(match ρ[0]? with|some (PVar.own d)=>some (d,h1)|_=>none)|_=>none
noncomputable def spI (K:Ck) (n k:Nat) (f:List PV->AH->Option (Nd×AH)):Sp:=fun vs H Q _=>∃ (W:Wd) (x dx:Addr) (args:List V) (xs:List PV) (d:Nd) (h':AH),vs=.ref x::args/\W.H x=none/\W.H dx=none/\dx≠x/\H=upd (upd W.H dx (.own x)) x (.ins (K.A k) dx []) /\
 WOk K W/\yhP K W xs args/\xs.length=n/\f xs W.h=some (d,h')/\∀ W',W'.h=h'->Le K W W'->x∉W'.m->d≠.dead->NdAt K W'.F W'.H W'.m d x->Q .non W'.H
theorem yHU {n k:Nat}{f} {vs:List V}{H:Hp}{Q:VK}{E:XK}(h:spI K n k f vs H Q E):vs.length=n+1:=by
 obtain ⟨W,x,dx,args,xs,d,h',rfl,_,_,_,_,w,r,hn,_⟩:=h
 rw [List.length_cons,r.len,hn]
theorem yEN {N:List Str}{n k:Nat}{t:TS}{s:XS}{vs:List V}{H:Hp}{Q:VK}{E:XK}{bk ct:St->Hp->Prop}(hN:n+1<=N.length) (a:yGr K t s) (h:spI K n k (yzX N.length k s) vs H Q E):t ⟨fun _ H'=>Q .non H',Q,bk,ct⟩ (L2.start N vs) H:=by
 obtain ⟨W,x,dx,args,xs,d,h',rfl,hx,hd,hne,rfl,w,r,hn,e,q⟩:=h
 obtain ⟨o,h1,e1,f1⟩:=yq e
 have l1:Le K W (yuV W dx (.own x)):=ynl w hd
 have hx1:(yuV W dx (.own x)).H x=none:=(ybz hne.symm).trans hx
 have l2:Le K (yuV W dx (.own x)) (yuV (yuV W dx (.own x)) x (.ins (K.A k) dx [])):=ynl l1.ok hx1
 have l:=l1.trans l2
 have gs:=yta (K:=K) (N:=N.drop 1) w r
 have g:Good K W (yuV (yuV W dx (.own x)) x (.ins (K.A k) dx [])) (.own (.ins k [] [])::(xs.map .val++List.replicate (N.length-(xs.length+1)) .no)) (L2.start N (.ref x::args)):=by
  have es:L2.start N (.ref x::args)=some (.ref x)::L2.start (N.drop 1) args:=by
   have e3:N.length-(args.length+1)=(N.drop 1).length-args.length:=by rw [List.length_drop];omega
   unfold L2.start
   rw [List.map_cons,List.cons_append,List.length_cons,e3]
  have eN:N.length-(xs.length+1)=(N.drop 1).length-xs.length:=by rw [List.length_drop];omega
  rw [es,eN]
  have gs':=gs.step l
  have noown:∀ (j:Nat) (d:Nd),(xs.map PVar.val++List.replicate ((N.drop 1).length-xs.length) .no)[j]?≠some (.own d):=fun j d z=>by
   by_cases hj:j<xs.length
   .rw [List.getElem?_append_left (by simpa using hj),List.getElem?_map,List.getElem?_eq_getElem hj] at z
    cases z
   .rw [List.getElem?_append_right (by simp;omega),List.getElem?_replicate] at z
    split at z<;>cases z
  refine ⟨l,by rw [List.length_cons,List.length_cons,gs.len],fun j y z=>?_,fun j d z=>?_,fun i j d d' hij z z'=>?_⟩
  .cases j with
   | zero=>cases z
   | succ j=>exact gs'.val j y z
  .cases j with
   | zero=>cases z;exact ⟨x,rfl,w.out hx,hx,(fun z=>by cases z),w.ff hx,dx,[],ybK,rfl,rfl⟩
   | succ j=>exact absurd z (noown j d)
  .cases i with
   | zero =>
    cases j with
    | zero=>exact absurd rfl hij
    | succ j=>exact absurd z' (noown j d')
   | succ i=>exact absurd z (noown i d)
 cases o with
 | rt y=>cases f1
 | bk ρ=>cases f1
 | ct ρ=>cases f1
 | nx ρ =>
  refine a W _ _ ρ _ _ h1 g e1 fun W' ew lf g'=>?_
  dsimp only at f1
  split at f1
  .rename_i d' hd'
   cases f1
   obtain ⟨p,b1,b2,b3,b4,b5⟩:=g'.own 0 _ hd'
   have b1:some (some (V.ref x))=some (some (V.ref p)):=b1
   cases b1
   exact q W' ew g'.le b2 b4 b5
  .cases f1
def yke (f:List PV->AH->Option (Nd×AH)) (a:XA):XO:=fun ρ h=>ob (a ρ h) f
theorem yEO {n k:Nat}{f} {ex:XK}{t:TA}{e:XA}(a:yxc K t e) (hn:∀ ρ h xs h',e ρ h=some (xs,h')->xs.length=n):yBa K (yJN (K.A k) (spI K n k f) [] ex t) (yke f e):=by
 intro W0 W ρ σ Q d h' g e' q
 obtain ⟨xs,h1,e1,e2⟩:=yq e'
 refine a W0 W ρ σ _ xs h1 g e1 fun vs W1 w1 l1 r1=>?_
 subst w1
 intro x dx hx hd hne
 rw [List.append_nil]
 exact ⟨W1,x,dx,vs,xs,d,h',rfl,hx,hd,hne,rfl,l1.ok,r1,hn _ _ _ _ e1,e2,fun W2 w2 l2 hm hdd at_=>⟨rfl,q x W2 w2 (l1.trans l2) hm (l1.fresh hx) hdd at_⟩⟩
def ytg (k:Nat):XO:=fun _ h=>some (.ins k [] [],h)
theorem yCj {k:Nat}:yBa K (yGe (K.A k)) (ytg k):=by
 intro W0 W ρ σ Q d h' g e q
 cases e
 intro x dx hx hd hne
 have w:=g.ok
 have l1:Le K W (yuV W dx (.own x)):=ynl w hd
 have hx1:(yuV W dx (.own x)).H x=none:=(ybz hne.symm).trans hx
 have l2:Le K (yuV W dx (.own x)) (yuV (yuV W dx (.own x)) x (.ins (K.A k) dx [])):=ynl l1.ok hx1
 exact q x (yuV (yuV W dx (.own x)) x (.ins (K.A k) dx [])) rfl (l1.trans l2) (w.out hx) hx (fun z=>by cases z) ⟨w.ff hx,dx,[],ybK,rfl,rfl⟩
noncomputable def ylE (m:Str) (f:Nat->Fn) (e:XE):XE:=fun ρ h=>ob (e ρ h) fun x h1=>match ypc x h1 with|some (k,ns,_)=>if m∈ns then none else f k [x] h1|none=>none
theorem yEP {m:Str}{f:Nat->Fn}{ta:TE}{ea:XE}(a:ygm K ta ea):ygm K (yGf K.A m (fun k=>spE K 1 (f k)) ta) (ylE m f ea):=by
 intro W0 W ρ σ Q z h' g e q
 obtain ⟨x,h1,e1,f1⟩:=yq e
 refine a W0 W ρ σ _ x h1 g e1 fun v W1 w1 l1 r1=>?_
 subst w1
 split at f1
 .rename_i k ns xs hi
  split at f1
  .cases f1
  .rename_i hm
   obtain ⟨b,dx,vs,ev,hp,hl,rs⟩:=yod l1.ok hi r1
   exact ⟨b,k,dx,_,ev,hp,yiq hm,W1,[x],z,h',rfl,l1.ok,⟨v,[],rfl,r1,rfl⟩,rfl,f1,fun u W2 w2 l2 r2=>q u W2 w2 (l1.trans l2) r2⟩
 .cases f1
noncomputable def yKt (tb:List (Nat×Nat×Bool)) (x c:PV) (h:AH):Option Bool:=match c with
 | .ty n=>(match x with
  | .int _=>if n = "int" then some true else if n = "bool"\/n = "str"\/n = "list"\/n = "tuple"\/n = "dict" then some false else none
  | .bl _=>if n = "int"\/n = "bool" then some true else if n = "str"\/n = "list"\/n = "tuple"\/n = "dict" then some false else none
  | .str _=>if n = "str" then some true else if n = "int"\/n = "bool"\/n = "list"\/n = "tuple"\/n = "dict" then some false else none
  | .non=>if n = "int"\/n = "bool"\/n = "str"\/n = "list"\/n = "tuple"\/n = "dict" then some false else none
  | .tup _=>if n = "tuple" then some true else if n = "int"\/n = "bool"\/n = "str"\/n = "list"\/n = "dict" then some false else none
  | _=>(match yey x h with|some _=>if n = "list" then some true else if n = "int"\/n = "bool"\/n = "str"\/n = "tuple"\/n = "dict" then some false else none|none=>none))
 | .cls c'=>(match ypc x h with|some (k,_)=>(tb.find? fun r=>r.1 == k && r.2.1 == c').map (·.2.2)|none=>none)
 | _=>none
noncomputable def ylO (tb:List (Nat×Nat×Bool)):List PV->AH->Option (PV×AH):=fun xs h=>match xs with|[x,c]=>(match yKt tb x c h with|some b=>some (.bl b,h)|none=>none)|_=>none
theorem yoe {tb:List (Nat×Nat×Bool)}(ht:∀ r∈tb,∀ (H:Hp) (a dx:Addr) (fs:List (Str×V)),H a=some (.ins (K.A r.1) dx fs)->IsI K.K H (.ref a) (.ref (K.A r.2.1)) r.2.2):yoY K (yOE K.K) (ylO tb):=by
 intro W xs vs Q z h' w r e q
 unfold ylO at e
 split at e
 .rename_i x c
  split at e
  .rename_i b hb
   cases e
   obtain ⟨v,u,rfl,rx,ru⟩:=yOJ r
   refine ⟨v,u,b,rfl,?_,q _ W rfl (.refl w) rfl⟩
   unfold yKt at hb
   split at hb
   .rename_i n
    obtain rfl:u=.ty n:=ru
    split at hb
    .rw [show v=_ from rx]
     repeat' split at hb
     all_goals cases hb
     .rename_i hn;subst hn;exact yxj
     .rename_i hn;rcases hn with rfl|rfl|rfl|rfl|rfl
      .exact yvk
      .exact yxn
      .exact yvo
      .exact ytz
      .exact yvp
    .rw [show v=_ from rx]
     repeat' split at hb
     all_goals cases hb
     .rename_i hn;rcases hn with rfl|rfl
      .exact yzQ
      .exact yxl
     .rename_i hn;rcases hn with rfl|rfl|rfl|rfl
      .exact yzR
      .exact yxo
      .exact yvq
      .exact yxp
    .rw [show v=_ from rx]
     repeat' split at hb
     all_goals cases hb
     .rename_i hn;subst hn;exact yxm
     .rename_i hn;rcases hn with rfl|rfl|rfl|rfl|rfl
      .exact yxq
      .exact yvr
      .exact yvs
      .exact ytA
      .exact yvt
    .rw [show v=_ from rx]
     repeat' split at hb
     all_goals cases hb
     .rename_i hn;rcases hn with rfl|rfl|rfl|rfl|rfl|rfl
      .exact yxk
      .exact yvu
      .exact yxr
      .exact yvv
      .exact ytB
      .exact yvw
    .obtain ⟨a,us,rfl,hs,_⟩:=rx
     have hp:(∃ xs,W.H a=some (.tup xs))\/∃ o,K.K.lookup a=some o/\o.cls=.type "tuple":=hs.elim (fun h=>.inl ⟨_,w.le _ _ h⟩) fun ⟨o,its,n,e1,e2,_⟩=>.inr ⟨o,e1,e2⟩
     repeat' split at hb
     all_goals cases hb
     .rename_i hn;subst hn;exact ytD hp
     .rename_i hn;rcases hn with rfl|rfl|rfl|rfl|rfl
      .exact yxu hp
      .exact yvz hp
      .exact yxv hp
      .exact yvA hp
      .exact yvB hp
    .split at hb
     .rename_i ys hy
      obtain ⟨a,us,rfl,hp,_⟩:=ybQ w hy rx
      repeat' split at hb
      all_goals cases hb
      .rename_i hn;subst hn;exact yvl hp
      .rename_i hn;rcases hn with rfl|rfl|rfl|rfl|rfl
       .exact yxs hp
       .exact yvx hp
       .exact yxt hp
       .exact ytC hp
       .exact yvy hp
     .cases hb
   .rename_i c'
    obtain rfl:u=.ref (K.A c'):=ru
    split at hb
    .rename_i k p hi
     obtain ⟨r',h1,h2⟩:=Option.map_eq_some_iff.mp hb
     have hm:=List.mem_of_find?_eq_some h1
     have hp:=List.find?_some h1
     simp only [Bool.and_eq_true,beq_iff_eq] at hp
     obtain ⟨a,dx,us,rfl,hs,_⟩:=yod w hi rx
     obtain ⟨p1,p2⟩:=hp
     have:=ht r' hm W.H a dx (p.1.zip us) (by rw [p1];exact hs)
     rw [p2,h2] at this
     exact this
    .cases hb
   .cases hb
  .cases e
 .cases e
end PX
namespace PX
open PySem L2
section
variable {ρ:PSt}{h h1:AH}{x y z:PV}{a b c:XE}{ca cb:XT}{aa:XA}{eo:XO}{s u:XS}{i:Nat}{p:P2}
theorem yfG {α β:Type}{x:α}{h:AH}{f:α->AH->Option β}:ob (some (x,h)) f=f x h:=id rfl
theorem yMO {α β:Type}{f:α->AH->Option β}:ob (none:Option (α×AH)) f=none:=id rfl
theorem yMP {α β γ:Type}{o:Option (α×AH)}{f:α->AH->Option (β×AH)}{g:β->AH->Option γ}:ob (ob o f) g=ob o fun x h=>ob (f x h) g:=by cases o<;>rfl
theorem yMQ {α β:Type}{q:Prop} [Decidable q] {o o':Option (α×AH)}{f:α->AH->Option β}:ob (if q then o else o') f=if q then ob o f else ob o' f:=by split<;>rfl
theorem yyY:yj 0 (.val x::ρ) h=some (x,h):=id rfl
theorem yKu {v:PVar}{n:Nat}:yj (n+1) (v::ρ) h=yj n ρ h:=by simp [yj]
theorem x_c:xC x ρ h=some (x,h):=id rfl
theorem yOX:xOp p a b ρ h=ob (a ρ h) fun x h1=>ob (b ρ h1) fun y h2=>p x y h2:=id rfl
theorem yMR {p:P2O}:yJY p a b ρ h=ob (a ρ h) fun x h1=>ob (b ρ h1) fun y h2=>p x y h2:=id rfl
theorem yOY {p}:xUn p a ρ h=ob (a ρ h) fun x h1=>p x h1:=id rfl
theorem yOZ {k:Bool}:oB (.bl k) h=some (k,h):=id rfl
theorem yHV {p p':P2}:ysX p p' a b c ρ h=ob (a ρ h) fun x h1=>ob (b ρ h1) fun y h2=>ob (p x y h2) fun z h3=>ob (oB z h3) fun k h3=>if k=true then ob (c ρ h3) fun w h4=>p' y w h4 else some (.bl false,h3):=id rfl
theorem yKv:yz a ρ h=ob (a ρ h) oB:=id rfl
theorem yKw:yoW a b ρ h=ob (a ρ h) fun x h1=>ob (oB x h1) fun k h1=>if k=true then b ρ h1 else some (.bl false,h1):=id rfl
theorem yKx:yEm a ρ h=ob (a ρ h) fun x h1=>ob (oB x h1) fun k h1=>some (.bl (!k),h1):=id rfl
theorem yMS:yyU ca cb ρ h=ob (ca ρ h) fun k h1=>if k=true then cb ρ h1 else some (false,h1):=id rfl
theorem yPa:xOr ca cb ρ h=ob (ca ρ h) fun k h1=>if k=true then some (true,h1) else cb ρ h1:=id rfl
theorem yMT:yql ca ρ h=ob (ca ρ h) fun k h1=>some (!k,h1):=id rfl
theorem yPb:xIf ca a b ρ h=ob (ca ρ h) fun k h1=>if k=true then a ρ h1 else b ρ h1:=id rfl
theorem yMU:yp ρ h=some ([],h):=id rfl
theorem yKy:yc a aa ρ h=ob (a ρ h) fun x h1=>ob (aa ρ h1) fun xs h2=>some (x::xs,h2):=id rfl
theorem yMV:ysY aa ρ h=ob (aa ρ h) fun xs h1=>if xs.length<=1000 then some (.tup xs,h1) else none:=id rfl
theorem yMW:yjN aa ρ h=ob (aa ρ h) fun xs h1=>if xs.length<=1000 then some (.lst xs,h1) else none:=id rfl
def fzN:Nd->AH->Option (PV×AH)
 | .lst xs,h=>some (.lst xs,h)
 | .ins k ns xs,h=>some (.ins k ns xs,h)
 | _,_=>none
theorem yPc:xFz eo ρ h=ob (eo ρ h) fzN:=by
 unfold xFz;congr;funext d h1;cases d<;>rfl
theorem yMX {xs:List PV}:fzN (.lst xs) h=some (.lst xs,h):=id rfl
theorem yMY {k:Nat}{ns:List Str}{xs:List PV}:fzN (.ins k ns xs) h=some (.ins k ns xs,h):=id rfl
theorem yMZ:yIZ eo ρ h=ob (eo ρ h) fun d h1=>some (.loc h1.length,h1++[d]):=id rfl
theorem x_call {f:Fn}:yI f aa ρ h=ob (aa ρ h) f:=id rfl
theorem yPd {f}:xCB f aa ρ h=ob (aa ρ h) f:=id rfl
theorem yNa {f}:yBb f aa ρ h=ob (aa ρ h) f:=id rfl
theorem yPe {q} {p:PM}:xBM q p a aa ρ h=ob (a ρ h) fun x h1=>if q x h1=true then ob (aa ρ h1) fun xs h2=>p x xs h2 else none:=id rfl
theorem yHW {s:Str}:isStr (.str s) h=true:=id rfl
theorem yKz {f}:yke f aa ρ h=ob (aa ρ h) f:=id rfl
theorem yHX {k:Nat}:ytg k ρ h=some (.ins k [] [],h):=id rfl
theorem yKA:ybh ρ h=some (.nx ρ,h):=id rfl
noncomputable def sqK (u:XS):Out->AH->Option (Out×AH)
 | .nx ρ,h=>u ρ h
 | .rt x,h=>some (.rt x,h)
 | .bk ρ,h=>some (.bk ρ,h)
 | .ct ρ,h=>some (.ct ρ,h)
theorem yNb:yw s u ρ h=ob (s ρ h) (sqK u):=by
 unfold yw;congr;funext o h1;cases o<;>rfl
theorem yNc:sqK u (.nx ρ) h=u ρ h:=id rfl
theorem yNd:sqK u (.rt x) h=some (.rt x,h):=id rfl
theorem yKB:yqm a ρ h=ob (a ρ h) fun _ h1=>some (.nx ρ,h1):=id rfl
theorem yNe:ybq a ρ h=ob (a ρ h) fun x h1=>some (.rt x,h1):=id rfl
theorem yNf:ycC ca s u ρ h=ob (ca ρ h) fun k h1=>if k=true then s ρ h1 else u ρ h1:=id rfl
theorem yNg {g:XG}:ydy a g ρ h=ob (a ρ h) fun x h1=>(g x ρ).bind fun ρ'=>some (.nx ρ',h1):=id rfl
theorem yKC:yBV eo i ρ h=ob (eo ρ h) fun d h1=>some (.nx (ρ.set i (.own d)),h1):=id rfl
theorem yKD:yt i x ρ=some (ρ.set i (.val x)):=id rfl
theorem yKE:yDI [] ρ=some ρ:=id rfl
theorem yHY {g:XG}{r:XGs}{xs:List PV}:ylL g r (x::xs) ρ=(g x ρ).bind fun ρ'=>r xs ρ':=id rfl
theorem yKF {n:Nat}{g:XGs}{xs:List PV}:yBc n g (.tup xs) ρ=if xs.length=n then g xs ρ else none:=id rfl
theorem yNh:yKf i s ρ h=s (yxz i ρ) h:=id rfl
theorem yNi {v:PVar}:yxz 0 (v::ρ)=yEu v::ρ:=id rfl
theorem yNj {v:PVar}{n:Nat}:yxz (n+1) (v::ρ)=v::yxz n ρ:=id rfl
theorem yNk {xs:List PV}:yEu (.own (.lst xs))=.val (.lst xs):=id rfl
theorem yNl {it:XA}{g:XG}:ysZ it g s ρ h=ob (it ρ h) fun xs h1=>ykc g s xs ρ h1:=id rfl
theorem yKG {g:XG}:ykc g s [] ρ h=some (.nx ρ,h):=id rfl
noncomputable def frK (g:XG) (s:XS) (xs:List PV):Out->AH->Option (Out×AH)
 | .nx ρ,h=>ykc g s xs ρ h
 | .ct ρ,h=>ykc g s xs ρ h
 | .bk ρ,h=>some (.nx ρ,h)
 | .rt y,h=>some (.rt y,h)
theorem yof {g:XG}{xs:List PV}:ykc g s (x::xs) ρ h=(g x ρ).bind fun ρ1=>ob (s ρ1 h) (frK g s xs):=by
 unfold ykc;congr;funext ρ1;congr;funext o h1;cases o<;>rfl
def fnK:Out->AH->Option (PV×AH)
 | .rt x,h=>some (x,h)
 | .nx _,h=>some (.non,h)
 | _,_=>none
theorem yK {N:Nat}{xs:List PV}:yff N s xs h=ob (s (xs.map .val++List.replicate (N-xs.length) .no) h) fnK:=by
 unfold yff;congr;funext o h1;cases o<;>rfl
theorem yNm:fnK (.rt x) h=some (x,h):=id rfl
theorem yNn:fnK (.nx ρ) h=some (.non,h):=id rfl
def inK:Out->AH->Option (Nd×AH)
 | .nx (.own d::_),h=>some (d,h)
 | _,_=>none
theorem yxB {N k:Nat}{xs:List PV}:yzX N k s xs h=ob (s (.own (.ins k [] [])::(xs.map .val++List.replicate (N-(xs.length+1)) .no)) h) inK:=by
 unfold yzX;congr;funext o h1;cases o with
 | nx ρ=>cases ρ with
  | nil=>rfl
  | cons v ρ=>cases v<;>rfl
 | _=>rfl
theorem yNo {d:Nd}:inK (.nx (.own d::ρ)) h=some (d,h):=id rfl
noncomputable def ynV (cs:List Nat) (f:Str) (x:PV) (h:AH):Option (PV×AH):=match ypc x h with|some (k,ns,xs)=>if k∈cs/\f∈ns then (match xs[ns.idxOf f]? with|some y=>some (y,h)|none=>none) else none|none=>none
theorem yNp {cs:List Nat}{f:Str}:ygJ cs f a ρ h=ob (a ρ h) (ynV cs f):=id rfl
theorem ycD {cs:List Nat}{f:Str}{k:Nat}{ns:List Str}{xs:List PV}{y:PV}(hk:k∈cs) (hf:f∈ns) (hy:xs[ns.idxOf f]?=some y):ynV cs f (.ins k ns xs) h=some (y,h):=by
 unfold ynV ypc
 simp [hk,hf,hy]
noncomputable def yzY (cs:List Nat) (i:Nat) (f:Str) (ρ:PSt) (x:PV) (h:AH):Option (Out×AH):=match ρ[i]? with
 | some (.own (.ins k ns xs))=>if k∈cs/\ns.length<1000 then some (.nx (ρ.set i (.own (.ins k (putN f x ns xs).1 (putN f x ns xs).2))),h) else none
 | _=>none
theorem yKH {cs:List Nat}{f:Str}:yhi cs i f a ρ h=ob (a ρ h) (yzY cs i f ρ):=id rfl
theorem ynd {cs:List Nat}{f:Str}{k:Nat}{ns:List Str}{xs:List PV}(hk:k∈cs) (hl:ns.length<1000) (hf:f∉ns):yzY cs 0 f (.own (.ins k ns xs)::ρ) x h=some (.nx (.own (.ins k (ns++[f]) (xs++[x]))::ρ),h):=by
 unfold yzY putN
 simp [hk,hl,hf]
noncomputable def yjb (m:Str) (f:Nat->Fn) (x:PV) (h:AH):Option (PV×AH):=match ypc x h with|some (k,ns,_)=>if m∈ns then none else f k [x] h|none=>none
theorem yyZ {m:Str}{f:Nat->Fn}:ylE m f a ρ h=ob (a ρ h) (yjb m f):=id rfl
theorem ycj {m:Str}{f:Nat->Fn}{k:Nat}{ns:List Str}{xs:List PV}(hm:m∉ns):yjb m f (.ins k ns xs) h=f k [.ins k ns xs] h:=by
 unfold yjb ypc
 simp [hm]
theorem x_i {g:Int->Int->PV}{i j:Int}:oI g (.int i) (.int j) h=some (g i j,h):=id rfl
theorem yPf {C:Int->Int->Prop} [∀ i j,Decidable (C i j)] {g:Int->Int->PV}{i j:Int}:oIc C g (.int i) (.int j) h=if C i j then some (g i j,h) else none:=id rfl
theorem yKI {i j:Int}(h1:-18446744073709551616<j) (h2:j<18446744073709551616):MulOk i j=True:=eq_true (.inr ⟨h1,h2⟩)
theorem yNq {i j:Int}(h1:0<=i) (h2:i<18446744073709551616) (h3:0<=j) (h4:j<=1000000):yCd i j=True:=eq_true ⟨⟨h1,h2⟩,h3,h4⟩
theorem yNr {i j:Int}:oEq (.int i) (.int j) h=some (.bl (decide (i=j)),h):=by simp [oEq,sv,yFU]
theorem yNs {i j:Str}:oEq (.str i) (.str j) h=some (.bl (decide (i=j)),h):=by simp [oEq,sv,yFU]
theorem yNt {i j:Int}:oNe (.int i) (.int j) h=some (.bl (!decide (i=j)),h):=by simp [oNe,sv,yFU]
theorem yNu {i j:Str}:oNe (.str i) (.str j) h=some (.bl (!decide (i=j)),h):=by simp [oNe,sv,yFU]
theorem yNv:yJe x .non h=some (.bl (isN x),h):=id rfl
theorem yKJ:yEI x .non h=some (.bl (!isN x),h):=id rfl
theorem yza {i j:Str}:yip (.str i) (.str j) h=if i.length+j.length<=100000 then some (.str (i++j),h) else none:=id rfl
theorem yNw {c:Nat}{j:Str}:yKm (.str ⟨#[c]⟩) (.str j) h=some (.bl (decide (c∈j.cps.toList)),h):=id rfl
theorem yNx {xs:List PV}{i:Int}:ytG (.lst xs) (.int i) h=(atI xs i).bind fun v=>some (v,h):=by
 simp only [ytG];cases atI xs i<;>rfl
theorem yNy {xs:List PV}{i:Int}:ycT (.tup xs) (.int i) h=(atI xs i).bind fun v=>some (v,h):=by
 simp only [ycT];cases atI xs i<;>rfl
theorem yNz {s:Str}{i:Int}:yHQ (.str s) (.int i) h=(atI s.cps.toList i).bind fun c=>if s.length<=100000 then some (sgn c,h) else none:=by
 simp only [yHQ];cases atI s.cps.toList i<;>rfl
theorem yNA {xs:List PV}{lo hi:Option Int}:yGo (.lst xs) lo hi h=some (.lst (yDK xs lo hi),h):=id rfl
theorem yNB {xs:List Int}{lo hi:Option Int}:yGo (.scr xs) lo hi h=some (.lst (yDK (xs.map .int) lo hi),h):=id rfl
theorem yNC {xs ys:List PV}:yKo (.lst xs) (.lst ys) h=if xs.length+ys.length<=100000 then some (.lst (xs++ys),h) else none:=id rfl
theorem yND {p} {lo hi}:yHs p a lo hi ρ h=ob (a ρ h) fun x h1=>ob (lo ρ h1) fun l h2=>ob (hi ρ h2) fun u h3=>p x l u h3:=id rfl
theorem yKK:yvC a ρ h=ob (a ρ h) fun x h1=>match x with|.int i=>some (some i,h1)|_=>none:=id rfl
theorem yEQ:yoX ρ h=some (none,h):=id rfl
theorem yKL {xs:List PV}:ytH [.lst xs] h=some (.int xs.length,h):=id rfl
theorem yKM {z:Str}:yzW [.str z] h=if z.length<=100000 then some (.int z.length,h) else none:=id rfl
theorem yHZ {k:Bool}:yxA [.bl k] h=some (.int (if k then 1 else 0),h):=id rfl
theorem yKN {k:Int}:yEK [.int k] h=if k.natAbs.log2<1920 then some (.str (toString k:String),h) else none:=id rfl
theorem yIa {xs:List PV}:ydz [.lst xs] h=some (.lst xs,h):=id rfl
theorem yIb {xs:List PV}:ydz [.tup xs] h=some (.lst xs,h):=id rfl
theorem yGs {xs:List PV}(e:a ρ h=some (.lst xs,h1)):xIL a ρ h=some (xs,h1):=by unfold xIL;rw [e];rfl
theorem yKO {it:XA}{ix:List Nat}:ylM it ix a ρ h=ob (it ρ h) fun xs h1=>if xs.length<=100000 then ob (yqy a (yob ix ρ) xs h1) fun ys h2=>some (.lst ys,h2) else none:=id rfl
end
end PX
namespace L2
open PySem PySem.Spec PyProof.Rows
end L2
namespace L2
open PySem PySem.Spec PyProof.Rows
section
variable (P:Program) (w:World)
end
section
variable {P:Program}{w:World}{H H':Hp}{h h':Heap}{a:Addr}{o:HO}
end
section
variable {P:Program}{w:World}{H:Hp}{h h':Heap}{x e:Addr}{o':HO}
end
section
variable {fs fs' ex ex':List Addr}{H H1 H2:Hp}{h h1 h2 h':Heap}{a x e:Addr}{o:HO}
end
end L2
namespace L2
open PySem PySem.Spec PyProof.Rows
section
variable {X:Cx}{pins:List (Addr×Obj)}{σ:List (Option V)}{H H':Hp}{s:Shared}{h':Heap}
end
end L2
namespace L2
open PySem PySem.Spec PyProof.Rows
section
variable {X:Cx}
variable {a b:Expr}{ta tb:TE}{pos:Pos}
variable {tA tB':TT}{rest:List Expr}
end
end L2
namespace L2
open PySem PySem.Spec PyProof.Rows
section
variable {X:Cx}{pins:List (Addr×Obj)}{σ:St}{H:Hp}{s:Shared}{a:Addr}{xs ys:List V}
end
section
variable {X:Cx}{pins:List (Addr×Obj)}{σ:St}{H:Hp}{s:Shared}{E:Value->Shared->Prop}
end
section
variable {X:Cx}{st:Stmt}{rest:List Stmt}{t u:TS}{e:Expr}{te:TE}{pos:Pos}
end
section
variable {X:Cx}{pos:Pos}
end
section
variable {X:Cx}{pos:Pos}
end
end L2
namespace L2
open PySem PySem.Spec PyProof.Rows
section
variable {X:Cx}{tg:Expr}
end
end L2
namespace L2
open PySem PySem.Spec PyProof.Rows
section
variable {X:Cx}{a b c:Expr}{ta tb tc:TE}{pos:Pos}
end
section
variable {X:Cx}{a b c:Expr}{ta tb tc:TE}{pos:Pos}
end
end L2
namespace L2
open PySem PySem.Spec PyProof.Rows
section
variable {prog:Program}{w:World}{A:Around}{E:Value->Shared->Prop}{s:Shared}{K:PySem.W.Frag}{x dx C f:Addr}{mA:Str->Option Value}{name:Str}{v:Value}
end
section
variable {P:Program}{w:World}{H H':Hp}{h h':Heap}{a C dx:Addr}{fs fs':List (Str×V)}
end
section
variable {X:Cx}{pins:List (Addr×Obj)}{σ:St}{H:Hp}{s:Shared}{a C dx:Addr}{fs:List (Str×V)}{f:Str}{v:V}{A:Around}{E:Value->Shared->Prop}
end
section
variable {X:Cx}{o e value:Expr}{f:Str}{pos pos' tpos:Pos}{ta tv:TE}
end
section
variable {X:Cx}{pins:List (Addr×Obj)}{σ:St}{H:Hp}{s:Shared}{A:Around}{E:Value->Shared->Prop}{Q:Value->Shared->Prop}{c:Value}{b:Bool}
end
end L2
namespace L2
open PySem PySem.Spec PyProof.Rows
section
variable {X:Cx}{e:Expr}{es:List Expr}{te:TE}{t:TA}{pos:Pos}
end
section
variable {X:Cx}{pins:List (Addr×Obj)}{σ:St}{H:Hp}{s s':Shared}
end
section
variable {X:Cx}{CX:CXT}{k:Nat}{f C:Addr}{fd:FuncData}{ps:List Str}{sp:Sp}{dvs:List V}{ds:List Value}{E:XK}{x m:Str}{p pos apos:Pos}{e o:Expr}{es:List Expr}{ta:TE}{t:TA}
end
section
variable {X:Cx}{CX:CXT}{k:Nat}{f C:Addr}{fd:FuncData}{ps ks:List Str}{sp:Sp}{E:XK}{x m:Str}{p pos apos kpos:Pos}{e o:Expr}{es:List Expr}{kws:List Keyword}{te ta:TE}{t tk:TA}{nm:Option Str}
variable {g:List Value->List Value->List Value}{gV:List V->List V->List V}
end
end L2
namespace L2
open PySem PySem.Spec PyProof.Rows
section
variable {X:Cx}{x:Str}{p pos:Pos}{e:Expr}{es:List Expr}{t:TA}{id T:String}{r:List V->Hp->VK->Prop}
end
end L2
namespace L2
open PySem PySem.Spec PyProof.Rows
section
variable {κ:Type} [DecidableEq κ]
end
section
variable {P:Program}{w:World}{H:Hp}{h:Heap}{a:Addr}
end
section
variable {X:Cx}{pins:List (Addr×Obj)}{σ:St}{H:Hp}{s:Shared}{a:Addr}{y v:V}{u r:Value}{o:Option V}{A:Around}{E:Value->Shared->Prop}
end
section
variable {X:Cx}{pins:List (Addr×Obj)}{σ:St}{H:Hp}{s:Shared}{a:Addr}{kvs:List (Key×V)}{k:Key}{u:Value}{A:Around}{E:Value->Shared->Prop}
end
section
variable {X:Cx}{o i e value:Expr}{pos pos' tpos:Pos}{td ty tv:TE}
end
section
variable {X:Cx}{pos:Pos}
end
section
variable {X:Cx}{pins:List (Addr×Obj)}{σ:St}{H:Hp}{s:Shared}{a:Addr}{y d:V}{u r:Value}{o:Option V}{A:Around}{E:Value->Shared->Prop}
end
section
variable {X:Cx}{o e f:Expr}{apos cpos:Pos}{td ty tx:TE}
end
section
variable {X:Cx}{pins:List (Addr×Obj)}{σ:St}{H:Hp}{s:Shared}{a:Addr}{kvs:List (Key×V)}{A:Around}{E:Value->Shared->Prop}
end
section
variable {X:Cx}{pins:List (Addr×Obj)}{σ:St}{H:Hp}{s:Shared}{a:Addr}{y:V}{u:Value}{A:Around}{E:Value->Shared->Prop}
end
end L2
namespace Att
open PySem PySem.W PySem.Calls PyProof.Rows
section
variable {prog:Program}{w:World}{A:Around}{E:Value->Shared->Prop}{s:Shared}{K:Frag}
end
end Att
namespace L2
open PySem PySem.Spec PyProof.Rows
end L2
namespace L2
open PySem PySem.Spec PyProof.Rows
end L2
namespace L2
open PySem PySem.Spec PyProof.Rows
section
variable {P:Program}{w:World}{K:PySem.W.Frag}{mg:Str->Option Value}{base:Heap}
end
section
variable {X:Cx}
end
section
variable {κ:Type} [DecidableEq κ]
end
end L2
namespace PX
open PySem L2
variable {K:Ck}
theorem yGt {α:Type}{l:List α}(h:l.Nodup) {i j:Nat}(hi:i<l.length) (hj:j<l.length) (e:l[i]=l[j]):i=j:=by
 have p:=List.pairwise_iff_getElem.mp h
 rcases Nat.lt_trichotomy i j with z|z|z
 .exact absurd e (p i j hi hj z)
 .exact z
 .exact absurd e.symm (p j i hj hi z)
def yMg (W:Wd) (n:Nat) (a:Addr) (o:HO) (d:Nd):Wd:=⟨W.F,upd W.H a o,W.m,W.h.set n d⟩
theorem yxC {W:Wd}(w:WOk K W) {n:Nat}{d d':Nd}{a:Addr}{o:HO}(e:W.h[n]?=some d) (hm:W.m[n]?=some a) (hF:W.F a=none) (at':NdAt K W.F (upd W.H a o) W.m d' a) (nf:∀ ks xs,d≠.fz ks xs:=by intro _ _ z;cases z):Le K W (yMg W n a o d'):=by
 have hn:n<W.h.length:=(List.getElem?_eq_some_iff.mp e).1
 have ham:a∈W.m:=List.mem_of_getElem? hm
 refine ⟨⟨fun b u q=>?_,by show W.m.length=(W.h.set n d').length;rw [List.length_set];exact w.len,w.nd,fun j dj b e1 e2=>?_⟩,Same.refl _,List.prefix_refl _,fun b u q hb=>?_,fun b u _ _ f=>f,fun b z z'=>absurd z z',fun j ks xs e1=>?_⟩
 .have:b≠a:=ydK q hF
  exact (ybz this).trans (w.le _ _ q)
 .have e1:(W.h.set n d')[j]?=some dj:=e1
  by_cases hj:n=j
  .subst hj
   rw [List.getElem?_set_self hn] at e1
   cases e1
   have e2:W.m[n]?=some b:=e2
   rw [hm] at e2
   cases e2
   exact at'
  .rw [List.getElem?_set_ne hj] at e1
   have e2:W.m[j]?=some b:=e2
   have hb:b≠a:=fun z=>by
    subst z
    have h1:=(List.getElem?_eq_some_iff.mp hm)
    have h2:=(List.getElem?_eq_some_iff.mp e2)
    obtain ⟨l1,q1⟩:=h1
    obtain ⟨l2,q2⟩:=h2
    exact hj (yGt w.nd l1 l2 (q1.trans q2.symm))
   exact (w.at_ j dj b e1 e2).mono (Same.refl _) (List.prefix_refl _) (fun u q=>(ybz hb).trans q) id
 .have:b≠a:=fun z=>hb (z ▸ ham)
  exact (ybz this).trans q
 .have hj:n≠j:=fun z=>by
   subst z
   rw [e] at e1
   cases e1
   exact nf _ _ rfl
  refine ⟨(List.getElem?_set_ne hj).trans e1,fun b e2=>ybz fun z=>?_⟩
  subst z
  obtain ⟨l1,q1⟩:=List.getElem?_eq_some_iff.mp hm
  obtain ⟨l2,q2⟩:=List.getElem?_eq_some_iff.mp e2
  exact hj (yGt w.nd l1 l2 (q1.trans q2.symm))
def yvI:PV->AH->Bool:=fun x h=>match yey x h with|some _=>true|none=>false
theorem yzb {W:Wd}{x:PV}{v:V}(w:WOk K W) (r:ygP K W x v) (c:yvI x W.h=true):tyV K.K "list" v W.H:=by
 unfold yvI at c
 split at c
 .rename_i xs hx
  obtain ⟨a,vs,rfl,hs,_⟩:=ybQ w hx r
  exact .inl ⟨rfl,vs,SqL.of hs⟩
 .cases c
noncomputable def yCk:PM:=fun x ys h=>match x,ys with|.loc n,[y]=>(match h[n]? with|some (.lst xs)=>if xs.length<100000 then some (.non,h.set n (.lst (xs++[y]))) else none|_=>none)|_,_=>none
theorem yKP:yvD K "list" yvI yxi yCk:=by
 refine ⟨fun W x v w r c=>yzb w r c,fun W x v xs vs Q z h' w rx r e q=>?_⟩
 unfold yCk at e
 split at e
 .rename_i n y
  split at e
  .rename_i ys hn
   split at e
   .rename_i hl
    cases e
    obtain ⟨u,rfl,ru⟩:=yxd r
    obtain ⟨a,ev,hm,hf,us,hp,rs⟩:=w.loc hn rx
    refine ⟨a,us,u,ev,rfl,hp,by rw [rs.len];exact big hl,?_⟩
    exact q .non (yMg W n a (.lst (us++[u])) (.lst (ys++[y]))) rfl (yxC w hn hm hf ⟨hf,_,ybK,rs.snoc ru⟩) rfl
   .cases e
  .cases e
 .cases e
noncomputable def yqN:PM:=fun x ys h=>match x,ys with|.loc n,[]=>(match h[n]? with|some (.lst _)=>some (.non,h.set n (.lst []))|_=>none)|_,_=>none
theorem yER:yvD K "list" yvI yGc yqN:=by
 refine ⟨fun W x v w r c=>yzb w r c,fun W x v xs vs Q z h' w rx r e q=>?_⟩
 unfold yqN at e
 split at e
 .rename_i n
  split at e
  .rename_i ys hn
   cases e
   obtain rfl:vs=[]:=r
   obtain ⟨a,ev,hm,hf,us,hp,rs⟩:=w.loc hn rx
   refine ⟨a,us,ev,rfl,hp,?_⟩
   exact q .non (yMg W n a (.lst []) (.lst [])) rfl (yxC w hn hm hf ⟨hf,_,ybK,rfl⟩) rfl
  .cases e
 .cases e
end PX
namespace PX
open PySem L2
variable {K:Ck}
def itemsOf (x:PV) (h:AH):Option (List PV):=match x with|.tup xs=>some xs|_=>listOf x h
theorem yxD {W:Wd}(w:WOk K W) {x:PV}{v:V}{xs:List PV}(e:itemsOf x W.h=some xs) (r:ygP K W x v):∃ a vs,v=.ref a/\(SqL K.K W.H a vs\/SqT K.K W.H a vs)/\yhP K W xs vs:=by
 unfold itemsOf at e
 split at e
 .cases e
  obtain ⟨a,vs,ev,hs,rs⟩:=r
  exact ⟨a,vs,ev,.inr (yfx w hs),rs⟩
 .obtain ⟨a,vs,ev,hs,rs⟩:=ypb w e r
  exact ⟨a,vs,ev,.inl hs,rs⟩
def svs:List PV->Option (List V)
 | []=>some []
 | x::xs=>match sv x,svs xs with|some v,some vs=>some (v::vs)|_,_=>none
theorem yCl {F:Hp}{m:List Addr}:∀ {xs:List PV}{us vs:List V},svs xs=some us->RepL K F m xs vs->vs=us/\us.all ynX=true
 | [],_,_,e,r=>by cases e;exact ⟨r,rfl⟩
 | x::xs,us,_,e,⟨v,r,ev,h,l⟩=>by
  unfold svs at e
  split at e
  .rename_i u us' e1 e2
   cases e
   obtain ⟨h1,h2⟩:=yCl e2 l
   have hv:v=u:=by cases x<;>cases e1<;>exact h
   have hf:ynX u=true:=by cases x<;>cases e1<;>rfl
   exact ⟨by rw [ev,hv,h1],by rw [List.all_cons,hf,h2];rfl⟩
  .cases e
theorem yqO {x:PV}{u:V}(e:sv x=some u):ynX u=true:=by cases x<;>cases e<;>rfl
noncomputable def yBf (neg:Bool):P2:=fun x y h=>match sv x,itemsOf y h with|some v,some ys=>(match svs ys with|some us=>some (.bl (if neg then !inV v us else inV v us),h)|none=>none)|_,_=>none
theorem yES {neg:Bool}:yfw K (rIn K.K neg) (yBf neg):=by
 intro W x y v u Q z h' w rx ry e q
 unfold yBf at e
 split at e
 .rename_i v' ys ev ey
  split at e
  .rename_i us hu
   cases e
   obtain rfl:=ync ev rx
   obtain ⟨a,vs,rfl,hs,rs⟩:=yxD w ey ry
   obtain ⟨rfl,hf⟩:=yCl hu rs
   exact ⟨a,vs,rfl,hs,yqO ev,hf,q _ W rfl (.refl w) rfl⟩
  .cases e
 .cases e
def yNE:List V->Hp->VK->Prop:=fun xs H Q=>∃ i j,xs=[.int i,.int j]/\Q (.int (if j>i then j else i)) H
noncomputable def yqP:List PV->AH->Option (PV×AH):=fun xs h=>match xs with|[.int i,.int j]=>some (.int (if j>i then j else i),h)|_=>none
theorem yzc:yoY K yNE yqP:=by
 intro W xs vs Q z h' w r e q
 unfold yqP at e
 split at e
 .rename_i i j
  cases e
  obtain ⟨v,u,rfl,rv,ru⟩:=yOJ r
  exact ⟨i,j,by rw [show v=_ from rv,show u=_ from ru],q _ W rfl (.refl w) rfl⟩
 .cases e
end PX
namespace PX
open PySem L2
theorem yNF [i:Decidable True]:decide True=true:=by simp
theorem yNG [i:Decidable False]:decide False=false:=by simp
theorem yNH:(false=true)=False:=by simp
theorem yNI:(true=false)=False:=by simp
theorem yET {g:XG}{s:XS}{xs:List PV}(I:Nat->PSt->AH->Prop) (R:PV->AH->Prop) {ρ:PSt}{h:AH}(h0:I 0 ρ h)
  (step:∀ (i:Nat) (x:PV) (ρ:PSt) (h:AH),xs[i]?=some x->I i ρ h->∃ ρ1 o h',g x ρ=some ρ1/\s ρ1 h=some (o,h')/\(match o with|.nx ρ'=>I (i+1) ρ' h'|.ct ρ'=>I (i+1) ρ' h'|.bk _=>False|.rt y=>R y h')) :
  (∃ ρ' h',ykc g s xs ρ h=some (.nx ρ',h')/\I xs.length ρ' h')\/∃ y h',ykc g s xs ρ h=some (.rt y,h')/\R y h':=by
 have key:∀ (n i:Nat) (ρ:PSt) (h:AH),i+n=xs.length->I i ρ h->(∃ ρ' h',ykc g s (xs.drop i) ρ h=some (.nx ρ',h')/\I xs.length ρ' h')\/∃ y h',ykc g s (xs.drop i) ρ h=some (.rt y,h')/\R y h':=by
  intro n
  induction n with
  | zero =>
   intro i ρ h hi hI
   have:i=xs.length:=by omega
   subst this
   rw [List.drop_length]
   exact .inl ⟨ρ,h,rfl,hI⟩
  | succ n ih =>
   intro i ρ h hi hI
   have hlt:i<xs.length:=by omega
   obtain ⟨ρ1,o,h',e1,e2,e3⟩:=step i xs[i] ρ h (List.getElem?_eq_getElem hlt) hI
   rw [List.drop_eq_getElem_cons hlt,yof,e1,Option.bind_some,e2,yfG]
   cases o with
   | nx ρ'=>exact ih (i+1) ρ' h' (by omega) e3
   | ct ρ'=>exact ih (i+1) ρ' h' (by omega) e3
   | bk ρ'=>exact e3.elim
   | rt y=>exact .inr ⟨y,h',rfl,e3⟩
 simpa using key xs.length 0 ρ h (by omega) h0
theorem yIc {g:XG}{s:XS}{xs:List PV}(I:Nat->PSt->AH->Prop) {ρ:PSt}{h:AH}(h0:I 0 ρ h)
  (step:∀ (i:Nat) (x:PV) (ρ:PSt) (h:AH),xs[i]?=some x->I i ρ h->∃ ρ1 ρ' h',g x ρ=some ρ1/\(s ρ1 h=some (.nx ρ',h')\/s ρ1 h=some (.ct ρ',h'))/\I (i+1) ρ' h') :
  ∃ ρ' h',ykc g s xs ρ h=some (.nx ρ',h')/\I xs.length ρ' h':=by
 rcases yET I (fun _ _=>False) h0 (fun i x ρ h hx hI=>by
  obtain ⟨ρ1,ρ',h',e1,e2,e3⟩:=step i x ρ h hx hI
  rcases e2 with e2|e2
  .exact ⟨ρ1,.nx ρ',h',e1,e2,e3⟩
  .exact ⟨ρ1,.ct ρ',h',e1,e2,e3⟩) with q|⟨_,_,_,q⟩
 .exact q
 .exact q.elim
theorem yCm {β:Type}{g:XG}{s:XS}{xs:List PV}(I:Nat->PSt->AH->Prop) {ρ:PSt}{h:AH}{f:Out->AH->Option β}{r:Option β}(h0:I 0 ρ h)
  (step:∀ (i:Nat) (x:PV) (ρ:PSt) (h:AH),xs[i]?=some x->I i ρ h->∃ ρ1 ρ' h',g x ρ=some ρ1/\(s ρ1 h=some (.nx ρ',h')\/s ρ1 h=some (.ct ρ',h'))/\I (i+1) ρ' h')
  (fin:∀ ρ' h',I xs.length ρ' h'->f (.nx ρ') h'=r):ob (ykc g s xs ρ h) f=r:=by
 obtain ⟨ρ',h',e,hI⟩:=yIc I h0 step
 rw [e]
 exact fin ρ' h' hI
theorem yzd {c:XT}{s:XS}{n:Nat}{ρ:PSt}{h:AH}:whl c s (n+1) ρ h=ob (c ρ h) fun k h1=>if k=true then ob (s ρ h1) fun o h2=>(match o with|.nx ρ'=>whl c s n ρ' h2|.ct ρ'=>whl c s n ρ' h2|.bk ρ'=>some (.nx ρ',h2)|.rt y=>some (.rt y,h2)) else some (.nx ρ,h1):=rfl
theorem yCn (lo:Int) (n:Nat):(yBd lo n).length=n:=by simp [yBd]
theorem yId {lo:Int}{n i:Nat}{x:PV}(h:(yBd lo n)[i]?=some x):i<n/\x=.int (lo+i):=by
 have hl:=(List.getElem?_eq_some_iff.mp h).1
 rw [yCn] at hl
 refine ⟨hl,?_⟩
 simp [yBd,hl] at h
 exact h.symm
theorem yGu {a:XA}{ρ:PSt}{h h1:AH}{j:Int}(e:a ρ h=some ([.int j],h1)) (h0:-1000000000<=j) (h2:j<=1000000000):yJb a ρ h=some (yBd 0 j.toNat,h1):=by
 unfold yJb
 rw [e,yfG]
 show (if _ then _ else _)=_
 rw [if_pos ⟨h0,h2⟩]
theorem ytI {α:Type}{e:XE}{inn:PV->PSt}(f g:α->PV):∀ {ts:List α}{h:AH},(∀ t∈ts,e (inn (f t)) h=some (g t,h))->yqy e inn (ts.map f) h=some (ts.map g,h)
 | [],_,_=>rfl
 | t::ts,h,k=>by
  show ob (e (inn (f t)) h) (fun y h1=>ob (yqy e inn (ts.map f) h1) fun ys h2=>some (y::ys,h2))=_
  rw [k t List.mem_cons_self,yfG,ytI f g fun y hy=>k y (List.mem_cons_of_mem _ hy),yfG]
  rfl
theorem yne {i:Nat}{e:XE}{ρ:PSt}{h:AH}{xs:List PV}(hx:ρ[i]?=some (.own (.lst xs))):ynm i e ρ h=ob (e ρ h) fun x h1=>if xs.length<100000 then some (.nx (ρ.set i (.own (.lst (xs++[x])))),h1) else none:=by
 unfold ynm
 rw [hx]
theorem yqn {α:Type}{a0:α}{xs:List α}:atI (a0::xs) 0=some a0:=ynk (j:=0) rfl
theorem yth {α:Type}{a0 a1:α}{xs:List α}:atI (a0::a1::xs) 1=some a1:=ynk (j:=1) rfl
theorem yuW {α:Type}{a0 a1 a2:α}{xs:List α}:atI (a0::a1::a2::xs) 2=some a2:=ynk (j:=2) rfl
theorem yze {α:Type}{a0 a1 a2 a3:α}{xs:List α}:atI (a0::a1::a2::a3::xs) 3=some a3:=ynk (j:=3) rfl
theorem yMh {α:Type}{a0 a1 a2 a3 a4:α}{xs:List α}:atI (a0::a1::a2::a3::a4::xs) 4=some a4:=ynk (j:=4) rfl
theorem ymL {h:AH}{n:Nat}{xs:List PV}(e:h[n]?=some (.lst xs)):ydz [.loc n] h=some (.lst xs,h):=by
 unfold ydz listOf
 simp only [e]
theorem yqQ {h:AH}{n:Nat}{xs:List PV}(e:h[n]?=some (.lst xs)):yqN (.loc n) [] h=some (.non,h.set n (.lst [])):=by
 unfold yqN
 simp only [e]
theorem yxE {h:AH}{n:Nat}{xs:List PV}{y:PV}(e:h[n]?=some (.lst xs)) (hl:xs.length<100000):yCk (.loc n) [y] h=some (.non,h.set n (.lst (xs++[y]))):=by
 unfold yCk
 simp only [e]
 rw [if_pos hl]
theorem ykf {h:AH}{n:Nat}{xs:List PV}(e:h[n]?=some (.lst xs)):yvI (.loc n) h=true:=by
 unfold yvI yey
 simp only [e]
end PX
namespace PX
open PySem L2
variable {K:Ck}
section
variable {ta:TE}{ea:XE}
end
end PX
namespace PX
open PySem L2
variable {K:Ck}
end PX
namespace PX
open PySem L2
variable {K:Ck}
def Odd (K:PySem.W.Frag) (H:Hp):Prop:=∃ a o ob,H a=some o/\K.lookup a=some ob
inductive EqR (K:PySem.W.Frag) (H:Hp):Nat->V->V->Bool->Prop where
 | flat {n:Nat}{x y:V}(fx:ynX x=true) (fy:ynX y=true):EqR K H n x y (eqV x y)
 | same {n:Nat}{a:Addr}:EqR K H n (.ref a) (.ref a) true
 | odd {n:Nat}{x y:V}{b:Bool}(h:Odd K H):EqR K H n x y b
 | nt {n:Nat}{b:Addr}{ys:List V}(hb:SqT K H b ys):EqR K H (n+1) .non (.ref b) false
 | tn {n:Nat}{b:Addr}{ys:List V}(hb:SqT K H b ys):EqR K H (n+1) (.ref b) .non false
 | lst {n:Nat}{a b:Addr}{xs ys:List V}{e:Nat->Bool}(ha:H a=some (.lst xs)) (hb:H b=some (.lst ys)) (hl:xs.length=ys.length) (hne:a≠b) (he:∀ j x y,xs[j]?=some x->ys[j]?=some y->EqR K H n x y (e j)):EqR K H (n+1) (.ref a) (.ref b) ((List.range xs.length).all e)
 | lstN {n:Nat}{a b:Addr}{xs ys:List V}(ha:H a=some (.lst xs)) (hb:H b=some (.lst ys)) (hl:xs.length≠ys.length):EqR K H (n+1) (.ref a) (.ref b) false
 | tup {n:Nat}{a b:Addr}{xs ys:List V}{e:Nat->Bool}(ha:SqT K H a xs) (hb:SqT K H b ys) (hne:a≠b) (he:∀ j x y,xs[j]?=some x->ys[j]?=some y->EqR K H n x y (e j)):EqR K H (n+1) (.ref a) (.ref b) ((List.range (min xs.length ys.length)).all e && xs.length == ys.length)
inductive RcR (K:PySem.W.Frag) (H:Hp):V->V->Bool->Prop where
 | nt {b:Addr}{ys:List V}(hb:SqT K H b ys):RcR K H .non (.ref b) false
 | tn {b:Addr}{ys:List V}(hb:SqT K H b ys):RcR K H (.ref b) .non false
 | lst {a b:Addr}{xs ys:List V}{e:Nat->Bool}(ha:H a=some (.lst xs)) (hb:H b=some (.lst ys)) (hl:xs.length=ys.length) (he:∀ j x y,xs[j]?=some x->ys[j]?=some y->EqR K H 40 x y (e j)):RcR K H (.ref a) (.ref b) ((List.range xs.length).all e)
 | lstN {a b:Addr}{xs ys:List V}(ha:H a=some (.lst xs)) (hb:H b=some (.lst ys)) (hl:xs.length≠ys.length):RcR K H (.ref a) (.ref b) false
 | tup {a b:Addr}{xs ys:List V}{e:Nat->Bool}(ha:SqT K H a xs) (hb:SqT K H b ys) (he:∀ j x y,xs[j]?=some x->ys[j]?=some y->EqR K H 40 x y (e j)):RcR K H (.ref a) (.ref b) ((List.range (min xs.length ys.length)).all e && xs.length == ys.length)
def yOK (K:PySem.W.Frag):R2:=fun x y H Q=>∃ b,RcR K H x y b/\Q (.bl b) H
noncomputable def yuX (f:PV->PV->Option Bool):List PV->List PV->Option Bool
 | x::xs,y::ys=>(match f x y,yuX f xs ys with|some b,some c=>some (b && c)|_,_=>none)
 | _,_=>some true
noncomputable def pairE (f:PV->PV->Option Bool) (h:AH) (x y:PV):Option Bool:=match x,y with
 | .tup xs,.tup ys=>(match yuX f xs ys with|some b=>some (b && xs.length == ys.length)|none=>none)
 | .non,.tup _=>some false
 | .tup _,.non=>some false
 | x,y=>(match yey x h,yey y h with|some xs,some ys=>if xs.length=ys.length then yuX f xs ys else some false|_,_=>none)
noncomputable def eqP:Nat->AH->PV->PV->Option Bool
 | 0,_,_,_=>none
 | n+1,h,x,y=>match sv x,sv y with
  | some u,some v=>some (eqV u v)
  | _,_=>pairE (eqP n h) h x y
theorem yzf:∀ {v:V},ynX v=true->eqV v v=true
 | .non,_=>rfl
 | .bl b,_=>by cases b<;>rfl
 | .int i,_=>by simp [eqV]
 | .str s,_=>by simp [eqV]
noncomputable def unV:Value->Option V
 | .none=>some .non
 | .bool b=>some (.bl b)
 | .int i _=>some (.int i)
 | .str x _=>some (.str x)
 | .bytes b _=>some (.byt b)
 | .float b _=>some (.flt b)
 | .ref a=>some (.ref a)
 | .type n=>some (.ty n)
 | _=>none
theorem yGv:∀ {v:V}{u:Value},RelV v u->unV u=some v
 | .non,_,h=>by rw [show _=Value.none from h];rfl
 | .bl _,_,h=>by rw [show _=Value.bool _ from h];rfl
 | .int _,_,⟨_,h⟩=>by rw [h];rfl
 | .str _,_,⟨_,h⟩=>by rw [h];rfl
 | .byt _,_,⟨_,h⟩=>by rw [h];rfl
 | .flt _,_,⟨_,h⟩=>by rw [h];rfl
 | .ref _,_,h=>by rw [show _=Value.ref _ from h];rfl
 | .ty _,_,h=>by rw [show _=Value.type _ from h];rfl
theorem yIe {v w:V}{u:Value}(h1:RelV v u) (h2:RelV w u):v=w:=Option.some.inj ((yGv h1).symm.trans (yGv h2))
theorem yEU {vs ws:List V}{us:List Value}(h1:Vals vs us):Vals ws us->vs=ws:=by
 induction h1 generalizing ws with
 | nil=>intro h2;cases h2;rfl
 | cons r _ ih=>intro h2;cases h2 with|cons r2 t2=>rw [yIe r r2,ih t2]
theorem yKQ {F H:Hp}{a:Addr}{vs ws:List V}(s:Same F H) (h1:TpAt K.K F a vs) (h2:TpAt K.K F a ws):vs=ws\/Odd K.K H:=by
 rcases h1 with h1|⟨o,its,n,e1,e2,e3,e4,e5⟩
 .rcases h2 with h2|⟨o,its,n,e1,e2,e3,e4,e5⟩
  .rw [h1] at h2;cases h2;exact .inl rfl
  .exact .inr ⟨a,_,o,s _ _ h1,e1⟩
 .rcases h2 with h2|⟨o',its',n',e1',e2',e3',e4',e5'⟩
  .exact .inr ⟨a,_,o,s _ _ h2,e1⟩
  .rw [e1] at e1';cases e1'
   rw [e3] at e3';cases e3'
   exact .inl (yEU e5 e5')
theorem yqR {f:PV->PV->Option Bool}{W:Wd}(hf:∀ x y v b,f x y=some b->ygP K W x v->ygP K W y v->b=true\/Odd K.K W.H):∀ {xs ys:List PV}{vs:List V}{c:Bool},yhP K W xs vs->yhP K W ys vs->yuX f xs ys=some c->c=true\/Odd K.K W.H
 | [],_,_,_,_,_,e=>by simp [yuX] at e;exact .inl e
 | _::_,[],_,_,_,_,e=>by simp [yuX] at e;exact .inl e
 | x::xs,y::ys,_,c,⟨v,r,e1,h1,l1⟩,⟨u,q,e2,h2,l2⟩,e=>by
  rw [e1] at e2
  cases e2
  unfold yuX at e
  cases eb:f x y with
  | none=>rw [eb] at e;cases e
  | some b =>
   cases ec:yuX f xs ys with
   | none=>rw [eb,ec] at e;cases e
   | some c' =>
    rw [eb,ec] at e
    cases e
    rcases hf x y _ b eb h1 h2 with z|z
    .rcases yqR hf l1 l2 ec with z'|z'
     .exact .inl (by rw [z,z'];rfl)
     .exact .inr z'
    .exact .inr z
theorem yzZ {f:PV->PV->Option Bool}{W:Wd}(w:WOk K W) (hf:∀ x y v b,f x y=some b->ygP K W x v->ygP K W y v->b=true\/Odd K.K W.H) {x y:PV}{v:V}{b:Bool}(e:pairE f W.h x y=some b) (rx:ygP K W x v) (ry:ygP K W y v):b=true\/Odd K.K W.H:=by
 unfold pairE at e
 split at e
 .rename_i xs ys
  obtain ⟨a,vs,ev,ha,ra⟩:=rx
  obtain ⟨a',vs',ev',ha',ra'⟩:=ry
  rw [ev] at ev'
  cases ev'
  rcases yKQ w.le ha ha' with z|z
  .subst z
   cases ec:yuX f xs ys with
   | none=>rw [ec] at e;cases e
   | some c =>
    rw [ec] at e
    cases e
    rcases yqR hf ra ra' ec with z|z
    .left
     rw [z,<- ra.len,<- ra'.len]
     simp
    .exact .inr z
  .exact .inr z
 .obtain ⟨a',vs',ev',ha',ra'⟩:=ry
  have rx:v=.non:=rx
  rw [rx] at ev';cases ev'
 .obtain ⟨a',vs',ev',ha',ra'⟩:=rx
  have ry:v=.non:=ry
  rw [ry] at ev';cases ev'
 .split at e
  .rename_i xs ys hx hy
   obtain ⟨a,vs,ev,ha,ra⟩:=ybQ w hx rx
   obtain ⟨a',vs',ev',ha',ra'⟩:=ybQ w hy ry
   rw [ev] at ev'
   cases ev'
   rw [ha] at ha'
   cases ha'
   rw [if_pos (by rw [<- ra.len,<- ra'.len])] at e
   exact yqR hf ra ra' e
  .cases e
theorem ytJ {W:Wd}(w:WOk K W):∀ (n:Nat) (x y:PV) (v:V) (b:Bool),eqP n W.h x y=some b->ygP K W x v->ygP K W y v->b=true\/Odd K.K W.H
 | 0,_,_,_,_,e,_,_=>by cases e
 | n+1,x,y,v,b,e,rx,ry=>by
  unfold eqP at e
  split at e
  .rename_i u u' hu hu'
   cases e
   rw [<- ync hu rx,<- ync hu' ry]
   exact .inl (yzf (by rw [ync hu rx];exact yqO hu))
  .exact yzZ w (ytJ w n) e rx ry
theorem yqS {f:PV->PV->Option Bool}{W:Wd}{n:Nat}(hf:∀ x y v u b,f x y=some b->ygP K W x v->ygP K W y u->EqR K.K W.H n v u b):∀ {xs ys:List PV}{vs us:List V}{c:Bool},yhP K W xs vs->yhP K W ys us->yuX f xs ys=some c ->
  ∃ e:Nat->Bool,(∀ j v u,vs[j]?=some v->us[j]?=some u->EqR K.K W.H n v u (e j))/\c=(List.range (min vs.length us.length)).all e
 | [],_,_,_,c,h1,_,e=>by
  rw [show _=[] from h1]
  simp [yuX] at e
  exact ⟨fun _=>true,fun j v u hv=>by simp at hv,by simp [e]⟩
 | _::_,[],_,_,c,_,h2,e=>by
  rw [show _=[] from h2]
  simp [yuX] at e
  exact ⟨fun _=>true,fun j v u _ hu=>by simp at hu,by simp [e]⟩
 | x::xs,y::ys,_,_,c,⟨v,r,e1,h1,l1⟩,⟨u,q,e2,h2,l2⟩,e=>by
  subst e1 e2
  unfold yuX at e
  cases eb:f x y with
  | none=>rw [eb] at e;cases e
  | some b =>
   cases ec:yuX f xs ys with
   | none=>rw [eb,ec] at e;cases e
   | some c' =>
    rw [eb,ec] at e
    cases e
    obtain ⟨e',k1,k2⟩:=yqS hf l1 l2 ec
    refine ⟨fun j=>match j with|0=>b|j+1=>e' j,fun j v' u' hv hu=>?_,?_⟩
    .cases j with
     | zero =>
      simp at hv hu
      subst hv hu
      exact hf x y _ _ b eb h1 h2
     | succ j=>exact k1 j v' u' (by simpa using hv) (by simpa using hu)
    .rw [k2,List.length_cons,List.length_cons,show min (r.length+1) (q.length+1)=min r.length q.length+1 by omega,List.range_succ_eq_map,List.all_cons,List.all_map]
     rfl
theorem yzg {W:Wd}(w:WOk K W):∀ (n:Nat) (x y:PV) (v u:V) (b:Bool),eqP n W.h x y=some b->ygP K W x v->ygP K W y u->EqR K.K W.H n v u b
 | 0,_,_,_,_,_,e,_,_=>by cases e
 | n+1,x,y,v,u,b,e,rx,ry=>by
  have e0:=e
  unfold eqP at e
  split at e
  .rename_i v' u' hv hu
   cases e
   rw [ync hv rx,ync hu ry]
   exact .flat (yqO hv) (yqO hu)
  .unfold pairE at e
   split at e
   .rename_i xs ys _
    obtain ⟨a,vs,ev,ha,ra⟩:=rx
    obtain ⟨a',us,eu,ha',ra'⟩:=ry
    by_cases hab:a=a'
    .subst hab
     rcases ytJ w (n+1) _ _ v b e0 ⟨a,vs,ev,ha,ra⟩ (by rw [ev,<- eu];exact ⟨a,us,eu,ha',ra'⟩) with this|z
     .rw [this,ev,eu]
      exact .same
     .exact .odd z
    .cases ec:yuX (eqP n W.h) xs ys with
     | none=>rw [ec] at e;cases e
     | some c =>
      rw [ec] at e
      cases e
      obtain ⟨e',k1,k2⟩:=yqS (yzg w n) ra ra' ec
      rw [ev,eu,k2,<- ra.len,<- ra'.len]
      exact .tup (yfx w ha) (yfx w ha') hab k1
   .obtain ⟨a',us,eu,ha',ra'⟩:=ry
    cases e
    rw [show v=.non from rx,eu]
    exact .nt (yfx w ha')
   .obtain ⟨a',us,eu,ha',ra'⟩:=rx
    cases e
    rw [show u=.non from ry,eu]
    exact .tn (yfx w ha')
   .split at e
    .rename_i xs ys hx hy
     obtain ⟨a,vs,ev,ha,ra⟩:=ybQ w hx rx
     obtain ⟨a',us,eu,ha',ra'⟩:=ybQ w hy ry
     by_cases hab:a=a'
     .subst hab
      rcases ytJ w (n+1) _ _ v b e0 rx (by rw [ev,<- eu];exact ry) with this|z
      .rw [this,ev,eu]
       exact .same
      .exact .odd z
     .split at e
      .rename_i hl
       obtain ⟨e',k1,k2⟩:=yqS (yzg w n) ra ra' e
       have hl':vs.length=us.length:=by rw [ra.len,ra'.len,hl]
       rw [ev,eu,k2,<- hl',Nat.min_self]
       exact .lst ha ha' hl' hab k1
      .rename_i hl
       cases e
       rw [ev,eu]
       exact .lstN ha ha' (by rw [ra.len,ra'.len];exact hl)
    .cases e
def yAa:P2:=fun x y h=>match pairE (eqP 40 h) h x y with|some b=>some (.bl b,h)|none=>none
theorem yEV {W:Wd}(w:WOk K W) {x y:PV}{v u:V}{b:Bool}(e:pairE (eqP 40 W.h) W.h x y=some b) (rx:ygP K W x v) (ry:ygP K W y u):RcR K.K W.H v u b:=by
 unfold pairE at e
 split at e
 .rename_i xs ys
  obtain ⟨a,vs,ev,ha,ra⟩:=rx
  obtain ⟨a',us,eu,ha',ra'⟩:=ry
  cases ec:yuX (eqP 40 W.h) xs ys with
  | none=>rw [ec] at e;cases e
  | some c =>
   rw [ec] at e
   cases e
   obtain ⟨e',k1,k2⟩:=yqS (yzg w 40) ra ra' ec
   rw [ev,eu,k2,<- ra.len,<- ra'.len]
   exact .tup (yfx w ha) (yfx w ha') k1
 .obtain ⟨a',us,eu,ha',ra'⟩:=ry
  cases e
  rw [show v=.non from rx,eu]
  exact .nt (yfx w ha')
 .obtain ⟨a',us,eu,ha',ra'⟩:=rx
  cases e
  rw [show u=.non from ry,eu]
  exact .tn (yfx w ha')
 .split at e
  .rename_i xs ys hx hy
   obtain ⟨a,vs,ev,ha,ra⟩:=ybQ w hx rx
   obtain ⟨a',us,eu,ha',ra'⟩:=ybQ w hy ry
   split at e
   .rename_i hl
    obtain ⟨e',k1,k2⟩:=yqS (yzg w 40) ra ra' e
    have hl':vs.length=us.length:=by rw [ra.len,ra'.len,hl]
    rw [ev,eu,k2,<- hl',Nat.min_self]
    exact .lst ha ha' hl' k1
   .rename_i hl
    cases e
    rw [ev,eu]
    exact .lstN ha ha' (by rw [ra.len,ra'.len];exact hl)
  .cases e
theorem yxF:yfw K (yOK K.K) yAa:=by
 intro W x y v u Q z h' w rx ry e q
 unfold yAa at e
 split at e
 .rename_i b hb
  cases e
  exact ⟨b,yEV w hb rx ry,q _ W rfl (.refl w) rfl⟩
 .cases e
end PX
namespace PX
open PySem L2
variable {K:Ck}
def yqT:XS:=fun _ _=>none
theorem yEW:yoV K yFQ yqT:=fun _ _ _ _ _ _ _ _ e _=>by cases e
noncomputable def yW (k:Nat) (m:Str) (f:Fn) (e:XE) (as:XA):XE:=fun ρ h=>ob (e ρ h) fun x h1=>match ypc x h1 with
 | some (k',ns,_)=>if k'=k/\m∉ns then ob (as ρ h1) fun ys h2=>f (x::ys) h2 else none
 | none=>none
theorem yvJ {k n:Nat}{m:Str}{f:Fn}{ex:XK}{ta:TE}{t:TA}{ea:XE}{as:XA}(a:ygm K ta ea) (b:yxc K t as) (hn:∀ ρ h xs h',as ρ h=some (xs,h')->xs.length=n) :
  ygm K (yHd (K.A k) m (spE K (n+1) f) [] ex ta t) (yW k m f ea as):=by
 intro W0 W ρ σ Q z h' g e q
 obtain ⟨x,h1,e1,f1⟩:=yq e
 refine a W0 W ρ σ _ x h1 g e1 fun v W1 w1 l1 r1=>?_
 subst w1
 split at f1
 .rename_i k' ns xs hi
  split at f1
  .rename_i hc
   obtain ⟨ys,h2,e2,f2⟩:=yq f1
   obtain ⟨p,dx,vs,ev,hp,hl,rs⟩:=yod l1.ok hi r1
   rw [hc.1] at hp
   refine ⟨p,dx,_,ev,hp,yiq hc.2,?_⟩
   refine b W0 W1 ρ σ _ ys h2 (g.step l1) e2 fun us W2 w2 l2 r2=>?_
   subst w2
   rw [List.append_nil]
   exact ⟨W2,x::ys,z,h',rfl,l2.ok,⟨v,us,rfl,l2.rep r1,r2⟩,by rw [List.length_cons,hn _ _ _ _ e2],f2,fun u W3 w3 l3 r3=>q u W3 w3 ((l1.trans l2).trans l3) r3⟩
  .cases f1
 .cases f1
noncomputable def yCo (cs:List Nat) (f:Str) (eo ev:XE):XS:=fun ρ h=>ob (ev ρ h) fun y h1=>ob (eo ρ h1) fun x h2=>match x with
 | .loc n=>(match h2[n]? with|some (.ins k ns xs)=>if k∈cs/\ns.length<1000 then some (.nx ρ,h2.set n (.ins k (putN f y ns xs).1 (putN f y ns xs).2)) else none|_=>none)
 | _=>none
theorem yEX {cs:List Nat}{f:Str}{ta tv:TE}{ea ev:XE}(hc:∀ k∈cs,Cls K.K (K.A k)/\NoAttr K.K (K.A k) f) (a:ygm K ta ea) (c:ygm K tv ev):yoV K (yMs K.K ta tv f) (yCo cs f ea ev):=by
 intro W0 W ρ σ D o h' g e q
 obtain ⟨y,h1,e1,f1⟩:=yq e
 obtain ⟨x,h2,e2,f2⟩:=yq f1
 refine c W0 W ρ σ _ y h1 g e1 fun vy W1 w1 l1 r1=>?_
 subst w1
 refine a W0 W1 ρ σ _ x h2 (g.step l1) e2 fun vx W2 w2 l2 r2=>?_
 subst w2
 have w:=l2.ok
 split at f2
 .rename_i n
  split at f2
  .rename_i k ns xs hn
   split at f2
   .rename_i hk
    cases f2
    obtain ⟨p,ep,hm,hf,dx,us,hp,hl,rs⟩:=w.loc hn r2
    obtain ⟨us',p1,p2,p3⟩:=rs.putN (f:=f) hl (l2.rep r1)
    refine ⟨p,_,dx,_,ep,hp,(hc k hk.1).1,(hc k hk.1).2,by rw [List.length_zip,hl];simpa using hk.2,?_⟩
    rw [p1]
    have l4:Le K W2 (yMg W2 n p (.ins (K.A k) dx ((putN f y ns xs).1.zip us')) (.ins k (putN f y ns xs).1 (putN f y ns xs).2)):=yxC w hn hm hf ⟨hf,dx,us',ybK,p2,p3⟩
    have l:=l1.trans (l2.trans l4)
    exact q _ σ rfl l.lf (g.step l)
   .cases f2
  .cases f2
 .cases f2
end PX
namespace PX
open PySem L2
variable {K:Ck}
end PX
namespace PX
open PySem L2
variable {K:Ck}
section
variable {ta:TE}{ea:XE}{t:TS}{s:XS}
end
end PX
namespace PX
open PySem L2
variable {K:Ck}
end PX
namespace PX
open PySem L2
variable {K:Ck}
end PX
namespace PX
open PySem L2
variable {K:Ck}
end PX
namespace PX
open PySem L2
variable {K:Ck}
section
variable {ta:TE}{ea:XE}{t:TS}{s:XS}
end
end PX
namespace PX
open PySem L2
variable {K:Ck}
theorem yEY {a:Addr}{ss:List Str}(h:KTp K.K a (ss.map V.str)):ygm K (tC (.ref a)) (xC (.tup (ss.map PV.str))):=by
 intro W0 W ρ σ Q x h' g e q
 cases e
 refine q _ W rfl (.refl g.ok) ⟨a,_,rfl,.inr h,?_⟩
 clear h q
 induction ss with
 | nil=>exact rfl
 | cons s ss ih=>exact ⟨_,_,rfl,rfl,ih⟩
end PX
namespace PX
open PySem L2
variable {K:Ck}
end PX
namespace PX
open PySem L2
variable {K:Ck}
end PX
namespace PX
open PySem L2
variable {K:Ck}
noncomputable def yCp (c:Nat):List Nat->List (List Nat)
 | []=>[[]]
 | k::r=>if k=c then []::yCp c r else match yCp c r with|[]=>[[k]]|w::ws=>(k::w)::ws
theorem yvK {c:Nat}:∀ {w:List Nat},c∉w->yCp c w=[w]
 | [],_=>rfl
 | k::r,h=>by
  have h1:k≠c:=fun z=>h (z ▸ List.mem_cons_self ..)
  unfold yCp
  rw [if_neg h1,yvK fun z=>h (List.mem_cons_of_mem _ z)]
theorem yzh {c:Nat}:∀ {w r:List Nat},c∉w->yCp c (w++c::r)=w::yCp c r
 | [],r,_=>by
  rw [List.nil_append]
  show (if c=c then []::yCp c r else _)=_
  rw [if_pos rfl]
 | k::w,r,h=>by
  have h1:k≠c:=fun z=>h (z ▸ List.mem_cons_self ..)
  rw [List.cons_append]
  show (if k=c then []::yCp c (w++c::r) else match yCp c (w++c::r) with|[]=>[[k]]|w::ws=>(k::w)::ws)=_
  rw [if_neg h1,yzh fun z=>h (List.mem_cons_of_mem _ z)]
def yCq (z:Str):List Str:=(yCp 32 z.cps.toList).map fun w=>⟨w.toArray⟩
theorem yqU:∀ (ws:List Str),ws≠[]->(∀ w∈ws,32∉w.cps.toList)->yCq (Str.join " " ws)=ws
 | [],h,_=>absurd rfl h
 | [w],_,h=>by
  have h1:=yvK (h w (List.mem_singleton.mpr rfl))
  show (yCp 32 w.cps.toList).map _=_
  rw [h1];rfl
 | w::v::r,_,h=>by
  have ih:=yqU (v::r) (fun z=>by cases z) fun u hu=>h u (List.mem_cons_of_mem _ hu)
  show yCq (w++" "++Str.join " " (v::r))=_
  have e:(w++(" ":Str)++Str.join " " (v::r)).cps.toList=w.cps.toList++32::(Str.join " " (v::r)).cps.toList:=by
   show (w.cps++(" ":Str).cps++(Str.join " " (v::r)).cps).toList=_
   rw [show (" ":Str).cps = #[32] by rfl']
   simp
  unfold yCq at ih ⊢
  rw [e,yzh (h w (List.mem_cons_self ..)),List.map_cons,ih]
noncomputable def yGw:V->List V->Hp->VK->Prop:=fun x vs H Q=>∃ z:Str,x=.str z/\vs=[.str " "]/\z.length<=100000/\∀ p,H p=none->Q (.ref p) (upd H p (.lst ((yCq z).map V.str)))
noncomputable def yvL:PM:=fun x xs h=>match x,xs with|.str z,[.str y]=>if y = " "/\z.length<=100000 then some (.lst ((yCq z).map .str),h) else none|_,_=>none
theorem RepL.of_strs {F:Hp}{m:List Addr}:∀ (ts:List Str),RepL K F m (ts.map PV.str) (ts.map V.str)
 | []=>rfl
 | _::ts=>⟨_,_,rfl,rfl,RepL.of_strs ts⟩
theorem m_split:yvD K "str" isStr yGw yvL:=by
 refine ⟨fun W x v w r c=>?_,fun W x v xs vs Q z h' w rx r e q=>?_⟩
 .unfold isStr at c
  split at c
  .rw [show v=_ from r];rfl
  .cases c
 .unfold yvL at e
  split at e
  .rename_i z y
   split at e
   .rename_i c
    cases e
    obtain ⟨u,rfl,ru⟩:=yxd r
    have ru:u=.str y:=ru
    refine ⟨z,rx,by rw [ru,c.1],c.2,fun p hp=>?_⟩
    have l2:=yxx (o:=.lst ((yCq z).map V.str)) w hp
    exact q (.ref p) (yGg W p (.lst ((yCq z).map V.str))) rfl l2 ⟨p,_,rfl,ybK,RepL.of_strs _⟩
   .cases e
  .cases e
theorem yIf {z:Str}{h:AH}(e:z.length<=100000):yvL (.str z) [.str " "] h=some (.lst ((yCq z).map .str),h):=by
 unfold yvL;exact if_pos ⟨rfl,e⟩
def yKR:List V->Hp->VK->Prop:=fun xs H Q=>yJS xs H Q\/∃ z,xs=[.str z]/\Q (.str z) H
noncomputable def yxG:List PV->AH->Option (PV×AH):=fun xs h=>match xs with|[.int i]=>if i.natAbs.log2<1920 then some (.str (toString i:String),h) else none|[.str z]=>some (.str z,h)|_=>none
theorem yKS:yoY K yKR yxG:=by
 intro W xs vs Q z h' w r e q
 unfold yxG at e
 split at e
 .rename_i i
  split at e
  .rename_i hl
   cases e
   obtain ⟨v,rfl,rx⟩:=yxd r
   exact .inl ⟨i,by rw [show v=_ from rx],hl,q _ W rfl (.refl w) rfl⟩
  .cases e
 .rename_i z
  cases e
  obtain ⟨v,rfl,rx⟩:=yxd r
  exact .inr ⟨z,by rw [show v=_ from rx],q _ W rfl (.refl w) rfl⟩
 .cases e
theorem yIg {k:Int}{h:AH}:yxG [.int k] h=if k.natAbs.log2<1920 then some (.str (toString k:String),h) else none:=id rfl
def yDL:List PV->List PV->List PV
 | x::xs,y::ys=>.tup [x,y]::yDL xs ys
 | _,_=>[]
noncomputable def xIZ (a:XA):XA:=fun ρ h=>ob (a ρ h) fun vs h1=>match vs with|[.lst xs,.lst ys]=>if xs.length=ys.length then some (yDL xs ys,h1) else none|_=>none
noncomputable def Itz (K:PySem.W.Frag) (a b:Addr):It :=
  ⟨fun i H=>∃ xs ys x y,SqL K H a xs/\SqL K H b ys/\xs[i]?=some x/\ys[i]?=some y,
   fun i H v H'=>∃ p x y,H p=none/\v=.ref p/\H'=upd H p (.tup [x,y])/\(∀ xs,SqL K H a xs->xs[i]?=some x)/\∀ ys,SqL K H b ys->ys[i]?=some y,
   fun i H=>∃ xs ys,SqL K H a xs/\SqL K H b ys/\xs.length<=i⟩
noncomputable def yOL (K:PySem.W.Frag) (t:TA):TI:=fun σ H R=>t σ H fun vs H1=>∃ a b,vs=[.ref a,.ref b]/\(∃ xs,SqL K H1 a xs)/\(∃ ys,SqL K H1 b ys)/\R (Itz K a b) H1
theorem yzi:∀ {xs ys:List PV}{i:Nat}{x y:PV},xs[i]?=some x->ys[i]?=some y->(yDL xs ys)[i]?=some (.tup [x,y])
 | x::xs,y::ys,0,_,_,e,f=>by simp at e f;subst e;subst f;rfl
 | x::xs,y::ys,i+1,_,_,e,f=>by
  show (yDL xs ys)[i]?=_
  exact yzi (by simpa using e) (by simpa using f)
theorem ytK:∀ {xs ys:List PV},xs.length=ys.length->(yDL xs ys).length=xs.length
 | [],[],_=>rfl
 | x::xs,y::ys,e=>by
  show (yDL xs ys).length+1=_
  rw [ytK (by simpa using e)];rfl
structure yNJ (K:Ck) (W:Wd) (J:It) (xs:List PV):Prop where
 go:∀ (i:Nat) (W':Wd),Lf K W W'->WOk K W'->i<xs.length->J.go i W'.H
 yld:∀ (i:Nat) (W':Wd) (v:V) (H2:Hp),Lf K W W'->WOk K W'->i<xs.length->J.yld i W'.H v H2->∃ W2,W2.H=H2/\W2.h=W'.h/\Le K W' W2/\∃ x,xs[i]?=some x/\ygP K W2 x v
 stop:∀ (W':Wd),Lf K W W'->WOk K W'->J.stop xs.length W'.H
noncomputable def yKT (K:Ck) (wi:TI) (e:XA):Prop:=∀ (W0 W:Wd) (ρ:PSt) (σ:St) (R:It->Hp->Prop) (xs:List PV) (h':AH),Good K W0 W ρ σ->e ρ W.h=some (xs,h')->(∀ J W',W'.h=h'->Le K W W'->yNJ K W' J xs->R J W'.H)->wi σ W.H R
theorem yEZ {t:TA}{e:XA}(a:yxc K t e):yKT K (yOL K.K t) (xIZ e):=by
 intro W0 W ρ σ R xs h' g e q
 obtain ⟨ys,h1,e1,f1⟩:=yq e
 split at f1
 .rename_i us ws
  split at f1
  .rename_i hl
   cases f1
   refine a W0 W ρ σ _ _ _ g e1 fun vs W1 w1 l1 r1=>?_
   obtain ⟨v,r,rfl,⟨p,ps,rfl,hp,rp⟩,v2,r2,rfl,⟨p',ps',rfl,hp',rp'⟩,rr⟩:=r1
   obtain rfl:r2=[]:=rr
   have up:∀ {W':Wd}{b:Addr}{zs:List V},Lf K W1 W'->WOk K W'->W1.F b=some (.lst zs)->SqL K.K W'.H b zs:=fun l w hb=>yjO w (Same.seq l.fs (SqL.of hb))
   refine ⟨p,p',rfl,⟨ps,yjO l1.ok (SqL.of hp)⟩,⟨ps',yjO l1.ok (SqL.of hp')⟩,q _ W1 w1 l1 ⟨fun i W' l w hi=>?_,fun i W' v' H2 l w hi hy=>?_,fun W' l w=>?_⟩⟩
   .rw [ytK hl] at hi
    obtain ⟨x,hx,_⟩:=rp.get (List.getElem?_eq_getElem hi)
    obtain ⟨y,hy,_⟩:=rp'.get (List.getElem?_eq_getElem (hl ▸ hi))
    exact ⟨ps,ps',x,y,up l w hp,up l w hp',hx,hy⟩
   .obtain ⟨b,x,y,hb,rfl,rfl,k1,k2⟩:=hy
    obtain ⟨x',hx,rx⟩:=rp.get' (k1 ps (up l w hp))
    obtain ⟨y',hy,ry⟩:=rp'.get' (k2 ps' (up l w hp'))
    have l2:=yxx (o:=.tup [x,y]) w hb
    exact ⟨yGg W' b (.tup [x,y]),rfl,rfl,l2,.tup [x',y'],yzi hx hy,b,[x,y],rfl,.inl ybK,x,[y],rfl,l2.rep (l.rep rx),y,[],rfl,l2.rep (l.rep ry),rfl⟩
   .exact ⟨ps,ps',up l w hp,up l w hp',by rw [rp.len,ytK hl];exact Nat.le_refl _⟩
  .cases f1
 .cases f1
variable {t:TS}{s:XS}
theorem yFa {wi:TI}{it:XA}{g:TG}{y:XG}(a:yKT K wi it) (b:yGk K g y) (c:yoV K t s):yoV K (yMn wi g t) (ysZ it y s):=by
 intro W0 W ρ σ D o h' gd e q
 obtain ⟨xs,h1,e1,f1⟩:=yq e
 refine a W0 W ρ σ _ xs h1 gd e1 fun J W1 w1 l1 J1=>?_
 subst w1
 have q1:=q.from_ l1.lf
 refine ⟨fun i m σ H=>m=xs.length-i/\i<=xs.length/\∃ W' ρ',W'.H=H/\Lf K W1 W'/\Good K W0 W' ρ' σ/\ykc y s (xs.drop i) ρ' W'.h=some (o,h'),⟨_,rfl,Nat.zero_le _,W1,ρ,rfl,.refl,gd.step l1,by simpa using f1⟩,?_⟩
 rintro i m σ _ ⟨rfl,hi,W',ρ',rfl,l,g',f⟩
 by_cases hlt:i<xs.length
 .rw [List.drop_eq_getElem_cons hlt] at f
  obtain ⟨ρ1,k1,f⟩:=Option.bind_eq_some_iff.mp f
  obtain ⟨o1,h2,k2,f3⟩:=yq f
  refine .inr ⟨J1.go i W' l g'.ok hlt,fun σ2 H2=>i+1<=xs.length/\∃ W2 ρ2,W2.H=H2/\Lf K W1 W2/\Good K W0 W2 ρ2 σ2/\ykc y s (xs.drop (i+1)) ρ2 W2.h=some (o,h'),fun σ2 H2 ⟨n1,n2⟩=>⟨xs.length-(i+1),by omega,rfl,n1,n2⟩,fun v H2 hy=>?_⟩
  obtain ⟨Wz,rfl,eh,lz,x,hx,rx⟩:=J1.yld i W' v H2 l g'.ok hlt hy
  rw [List.getElem?_eq_getElem hlt] at hx
  cases hx
  rw [<- eh] at k2
  refine b W0 Wz ρ' ρ1 σ _ v _ (g'.step lz) rx k1 fun σ2 g2=>?_
  refine c W0 Wz ρ1 σ2 _ o1 h2 g2 k2 ?_
  have l:=l.trans lz.lf
  cases o1 with
  | nx ρ2=>exact fun W2 σ3 w2 l2 g3=>⟨hlt,W2,ρ2,rfl,l.trans l2,g3,by rw [w2];exact f3⟩
  | ct ρ2=>exact fun W2 σ3 w2 l2 g3=>⟨hlt,W2,ρ2,rfl,l.trans l2,g3,by rw [w2];exact f3⟩
  | bk ρ2=>cases f3;exact fun W2 σ3 w2 l2 g3=>q1 W2 σ3 w2 (l.trans l2) g3
  | rt x=>cases f3;exact q1
 .have ei:i=xs.length:=by omega
  subst ei
  refine .inl ⟨J1.stop W' l g'.ok,?_⟩
  rw [List.drop_length] at f
  cases f
  exact q1 W' σ rfl l g'
theorem yIh {i j:Nat}{ta:TA}{ea:XA}(a:yxc K ta ea):yoV K (yOr i j ta) (ydy (ysY ea) (yBc 2 (ylL (yt i) (ylL (yt j) yDI)))):=by
 intro W0 W ρ σ D o h' gd e q
 obtain ⟨x,h1,e1,f1⟩:=yq e
 obtain ⟨ρ',e2,f2⟩:=Option.bind_eq_some_iff.mp f1
 cases f2
 obtain ⟨xs,h2,e3,f3⟩:=yq e1
 split at f3
 .cases f3
  refine a W0 W ρ σ _ xs _ gd e3 fun vs W1 w1 l1 r1=>?_
  unfold yBc at e2
  simp only at e2
  split at e2
  .match xs,e2,r1 with
   | [x,y],e2,r1 =>
    cases e2
    obtain ⟨v,_,rfl,rv,w,_,rfl,rw,rr⟩:=r1
    obtain rfl:_=[]:=rr
    exact ⟨v,w,rfl,q W1 _ w1 l1.lf (((gd.step l1).set i rv).set j rw)⟩
   | [],e2,_=>cases e2
   | [_],e2,_=>cases e2
   | _::_::_::_,e2,_=>cases e2
  .cases e2
 .cases f3
end PX
namespace PX
open PySem L2
variable {K:Ck}
section
variable {F H:Hp}{m:List Addr}
end
variable {t:TA}{e:XA}
end PX
namespace PX
open PySem L2 PySem.Spec PyProof.Rows
section
variable (K:Ck)
noncomputable def cE (x:XE):TE:=fun σ H Q=>∃ (W0 W:Wd) (ρ:PSt) (y:PV) (h':AH),W.H=H/\Good K W0 W ρ σ/\x ρ W.h=some (y,h')/\∀ v W',W'.h=h'->Le K W W'->ygP K W' y v->Q v W'.H
noncomputable def cO (x:XO):TE:=fun σ H Q=>∃ (W0 W:Wd) (ρ:PSt) (d:Nd) (h':AH),W.H=H/\Good K W0 W ρ σ/\x ρ W.h=some (d,h')/\∀ p W',W'.h=h'->Le K W W'->p∉W'.m->W.H p=none->d≠.dead->NdAt K W'.F W'.H W'.m d p->Q (.ref p) W'.H
noncomputable def cT (x:XT):TT:=fun σ H Q=>∃ (W0 W:Wd) (ρ:PSt) (y:Bool) (h':AH),W.H=H/\Good K W0 W ρ σ/\x ρ W.h=some (y,h')/\∀ W',W'.h=h'->Le K W W'->Q y W'.H
noncomputable def cA (x:XA):TA:=fun σ H Q=>∃ (W0 W:Wd) (ρ:PSt) (y:List PV) (h':AH),W.H=H/\Good K W0 W ρ σ/\x ρ W.h=some (y,h')/\∀ v W',W'.h=h'->Le K W W'->yhP K W' y v->Q v W'.H
noncomputable def cP (x:PSt->AH->Option (Option Int×AH)):TO:=fun σ H Q=>∃ (W0 W:Wd) (ρ:PSt) (y:Option Int) (h':AH),W.H=H/\Good K W0 W ρ σ/\x ρ W.h=some (y,h')/\∀ W',W'.h=h'->Le K W W'->Q y W'.H
noncomputable def cI (x:XA):TI:=fun σ H R=>∃ (W0 W:Wd) (ρ:PSt) (y:List PV) (h':AH),W.H=H/\Good K W0 W ρ σ/\x ρ W.h=some (y,h')/\∀ J W',W'.h=h'->Le K W W'->yMK K W' J y->R J W'.H
noncomputable def cG (y:XG):TG:=fun v σ H Q=>∃ (W0 W:Wd) (ρ ρ':PSt) (x:PV),W.H=H/\Good K W0 W ρ σ/\ygP K W x v/\y x ρ=some ρ'/\∀ σ',Good K W0 W ρ' σ'->Q σ' W.H
noncomputable def cGs (y:XGs):TGs:=fun v σ H Q=>∃ (W0 W:Wd) (ρ ρ':PSt) (x:List PV),W.H=H/\Good K W0 W ρ σ/\yhP K W x v/\y x ρ=some ρ'/\∀ σ',Good K W0 W ρ' σ'->Q σ' W.H
noncomputable def cS (s:XS):TS:=fun D σ H=>∃ (W0 W:Wd) (ρ:PSt) (o:Out) (h':AH),W.H=H/\Good K W0 W ρ σ/\s ρ W.h=some (o,h')/\Ends.Ok K W0 W D h' o
noncomputable def cF (s:XS):TS:=fun D σ H=>∃ (W0 W:Wd) (ρ ρ':PSt) (h':AH),W.H=H/\Good K W0 W ρ σ/\s ρ W.h=some (.nx ρ',h')/\∀ W',W'.h=h'->Lf K W W'->Good K W0 W' ρ' σ->D.nx σ W'.H
end
section
variable {K:Ck}
theorem sE {x:XE}:ygm K (cE K x) x:=fun W0 W ρ σ Q y h' g e q=>⟨W0,W,ρ,y,h',rfl,g,e,q⟩
theorem sO {x:XO}:yBa K (cO K x) x:=fun W0 W ρ σ Q y h' g e q=>⟨W0,W,ρ,y,h',rfl,g,e,q⟩
theorem sT {x:XT}:yxb K (cT K x) x:=fun W0 W ρ σ Q y h' g e q=>⟨W0,W,ρ,y,h',rfl,g,e,q⟩
theorem sA {x:XA}:yxc K (cA K x) x:=fun W0 W ρ σ Q y h' g e q=>⟨W0,W,ρ,y,h',rfl,g,e,q⟩
theorem sP {x}:yJa K (cP K x) x:=fun W0 W ρ σ Q y h' g e q=>⟨W0,W,ρ,y,h',rfl,g,e,q⟩
theorem sI {x:XA}:yGm K (cI K x) x:=fun W0 W ρ σ Q y h' g e q=>⟨W0,W,ρ,y,h',rfl,g,e,q⟩
theorem sG {y:XG}:yGk K (cG K y) y:=fun W0 W ρ ρ' σ x v Q g r e q=>⟨W0,W,ρ,ρ',x,rfl,g,r,e,q⟩
theorem sGs {y:XGs}:yzV K (cGs K y) y:=fun W0 W ρ ρ' σ x v Q g r e q=>⟨W0,W,ρ,ρ',x,rfl,g,r,e,q⟩
theorem sS {s:XS}:yoV K (cS K s) s:=fun W0 W ρ σ D o h' g e q=>⟨W0,W,ρ,o,h',rfl,g,e,q⟩
theorem sF {s:XS}:yGr K (cF K s) s:=fun W0 W ρ ρ' σ D h' g e q=>⟨W0,W,ρ,ρ',h',rfl,g,e,q⟩
end
abbrev ckX (X:Cx) (A:Nat->Addr):Ck:=⟨X.K,A⟩
structure ZE (X:Cx) (A:Nat->Addr) (e:Expr) (x:XE):Prop where of:PE X e (cE (ckX X A) x)
structure ZO (X:Cx) (A:Nat->Addr) (e:Expr) (x:XO):Prop where of:PE X e (cO (ckX X A) x)
structure ZT (X:Cx) (A:Nat->Addr) (e:Expr) (x:XT):Prop where of:PT X e (cT (ckX X A) x)
structure ZW (X:Cx) (A:Nat->Addr) (e:Expr) (x:XT):Prop where of:PW X e (cT (ckX X A) x)
structure ZA (X:Cx) (A:Nat->Addr) (e:List Expr) (n:Nat) (x:XA):Prop where
 of:PA X e (cA (ckX X A) x)
 len:∀ ρ h xs h',x ρ h=some (xs,h')->xs.length=n
structure ZP (X:Cx) (A:Nat->Addr) (e:Option Expr) (x:PSt->AH->Option (Option Int×AH)):Prop where of:PO X e (cP (ckX X A) x)
structure ZI (X:Cx) (A:Nat->Addr) (tg e:Expr) (x:XA):Prop where of:PI X tg e (cI (ckX X A) x)
structure ZG (X:Cx) (A:Nat->Addr) (e:Expr) (y:XG):Prop where of:PG X e (cG (ckX X A) y)
structure ZGs (X:Cx) (A:Nat->Addr) (e:List Expr) (y:XGs):Prop where of:PGs X e (cGs (ckX X A) y)
structure ZS (X:Cx) (A:Nat->Addr) (e:Stmt) (s:XS):Prop where of:PS X e (cS (ckX X A) s)
structure ZSs (X:Cx) (A:Nat->Addr) (e:List Stmt) (s:XS):Prop where of:PSs X e (cS (ckX X A) s)
structure ZF (X:Cx) (A:Nat->Addr) (e:Stmt) (s:XS):Prop where of:PS X e (cF (ckX X A) s)
structure ZFs (X:Cx) (A:Nat->Addr) (e:List Stmt) (s:XS):Prop where of:PSs X e (cF (ckX X A) s)
section
variable {X:Cx}{A:Nat->Addr}{e:Expr}{es:List Expr}
theorem wE {t:TE}{x:XE}(p:PE X e t) (s:ygm (ckX X A) t x):ZE X A e x:=⟨fun pins st σ H Q I ⟨W0,W,ρ,y,h',eh,g,ex,q⟩=>by subst eh;exact p pins st σ _ Q I (s W0 W ρ σ Q y h' g ex q)⟩
theorem wO {t:TE}{x:XO}(p:PE X e t) (s:yBa (ckX X A) t x):ZO X A e x:=⟨fun pins st σ H Q I ⟨W0,W,ρ,y,h',eh,g,ex,q⟩=>by subst eh;exact p pins st σ _ Q I (s W0 W ρ σ Q y h' g ex q)⟩
theorem wT {t:TT}{x:XT}(p:PT X e t) (s:yxb (ckX X A) t x):ZT X A e x:=⟨fun pins st σ H Q I ⟨W0,W,ρ,y,h',eh,g,ex,q⟩=>by subst eh;exact p pins st σ _ Q I (s W0 W ρ σ Q y h' g ex q)⟩
theorem wW {t:TT}{x:XT}(p:PW X e t) (s:yxb (ckX X A) t x):ZW X A e x:=⟨fun wh pins st σ H Q I ⟨W0,W,ρ,y,h',eh,g,ex,q⟩=>by subst eh;exact p wh pins st σ _ Q I (s W0 W ρ σ Q y h' g ex q)⟩
theorem wA {t:TA}{x:XA}{n:Nat}(p:PA X es t) (s:yxc (ckX X A) t x) (l:∀ ρ h xs h',x ρ h=some (xs,h')->xs.length=n):ZA X A es n x:=⟨fun pos pins st σ H Q I ⟨W0,W,ρ,y,h',eh,g,ex,q⟩=>by subst eh;exact p pos pins st σ _ Q I (s W0 W ρ σ Q y h' g ex q),l⟩
theorem wP {o:Option Expr}{t:TO}{x} (p:PO X o t) (s:yJa (ckX X A) t x):ZP X A o x:=⟨fun pins st σ H Q I ⟨W0,W,ρ,y,h',eh,g,ex,q⟩=>by subst eh;exact p pins st σ _ Q I (s W0 W ρ σ Q y h' g ex q)⟩
theorem wI {tg:Expr}{t:TI}{x:XA}(p:PI X tg e t) (s:yGm (ckX X A) t x):ZI X A tg e x:=⟨fun pins st σ H Q I ⟨W0,W,ρ,y,h',eh,g,ex,q⟩=>by subst eh;exact p pins st σ _ Q I (s W0 W ρ σ Q y h' g ex q)⟩
theorem wG {t:TG}{y:XG}(p:PG X e t) (s:yGk (ckX X A) t y):ZG X A e y:=⟨fun pins st σ H v u Q I rv ⟨W0,W,ρ,ρ',x,eh,g,r,ex,q⟩=>by subst eh;exact p pins st σ _ v u Q I rv (s W0 W ρ ρ' σ x v Q g r ex q)⟩
theorem wGs {t:TGs}{y:XGs}(p:PGs X es t) (s:yzV (ckX X A) t y):ZGs X A es y:=⟨fun pins st σ H v u Q I rv ⟨W0,W,ρ,ρ',x,eh,g,r,ex,q⟩=>by subst eh;exact p pins st σ _ v u Q I rv (s W0 W ρ ρ' σ x v Q g r ex q)⟩
theorem wS {st:Stmt}{t:TS}{x:XS}(p:PS X st t) (s:yoV (ckX X A) t x):ZS X A st x:=⟨fun pins st σ H D I ⟨W0,W,ρ,o,h',eh,g,ex,q⟩=>by subst eh;exact p pins st σ _ D I (s W0 W ρ σ D o h' g ex q)⟩
theorem wSs {st:List Stmt}{t:TS}{x:XS}(p:PSs X st t) (s:yoV (ckX X A) t x):ZSs X A st x:=⟨fun pins st σ H D I ⟨W0,W,ρ,o,h',eh,g,ex,q⟩=>by subst eh;exact p pins st σ _ D I (s W0 W ρ σ D o h' g ex q)⟩
theorem wF {st:Stmt}{t:TS}{x:XS}(p:PS X st t) (s:yGr (ckX X A) t x):ZF X A st x:=⟨fun pins st σ H D I ⟨W0,W,ρ,ρ',h',eh,g,ex,q⟩=>by subst eh;exact p pins st σ _ D I (s W0 W ρ ρ' σ D h' g ex q)⟩
theorem wFs {st:List Stmt}{t:TS}{x:XS}(p:PSs X st t) (s:yGr (ckX X A) t x):ZFs X A st x:=⟨fun pins st σ H D I ⟨W0,W,ρ,ρ',h',eh,g,ex,q⟩=>by subst eh;exact p pins st σ _ D I (s W0 W ρ ρ' σ D h' g ex q)⟩
end
structure Nm (x:Str):Prop where
 d:(x == ("__debug__":Str))=false
 c:(x == ("__classdict__":Str))=false
 n:x≠"__name__"
section
variable {X:Cx}{A:Nat->Addr}{a b c o:Expr}{es:List Expr}{xa xb xc:XE}{xo:XO}{aa:XA}{pos p apos:Pos}{x:Str}{n k:Nat}
theorem yvM {j}:ZE X A (.Constant .none j pos) (xC .non):=wE yJn yHv
theorem yAb {b j}:ZE X A (.Constant (.bool b) j pos) (xC (.bl b)):=wE yMi yJZ
theorem z_int {i j}:ZE X A (.Constant (.int i) j pos) (xC (.int i)):=wE yJm yBQ
theorem z_str {x j}:ZE X A (.Constant (.str x) j pos) (xC (.str x)):=wE yJo yBR
theorem yKU {i:Nat}(m:Nm x) (hN:X.N[i]?=some x) (hv:Vis X.env.scope x):ZE X A (.Name x pos) (yj i):=wE (ycX hN hv m.d m.c) (yHu i)
theorem z_v (i:Nat) (m:Nm x) (hN:X.N[i]?=some x:=by rfl) (hv:Vis X.env.scope x:=by exact Or.inl rfl):ZE X A (.Name x pos) (yj i):=yKU m hN hv
theorem yCr {n:Int}{t:Tok}(m:Nm x) (hg:Gl X x) (hm:X.mg x=some (.int n t)):ZE X A (.Name x pos) (xC (.int n)):=wE (yHq hg hm m.d) yBQ
theorem yCs {n:Str}{t:Tok}(m:Nm x) (hg:Gl X x) (hm:X.mg x=some (.str n t)):ZE X A (.Name x pos) (xC (.str n)):=wE (yHr hg hm m.d) yBR
theorem ynf {k:Nat}(m:Nm x) (hg:Gl X x) (hm:X.mg x=some (.ref (A k))):ZE X A (.Name x pos) (xC (.cls k)):=wE (yBN hg hm m.d) (yHw (K:=ckX X A))
theorem yFb {n:String}(m:Nm x) (hg:Gl X x) (hm:X.mg x=none) (hv:bootBuiltins x=some (.type n)):ZE X A (.Name x pos) (xC (.ty n)):=wE (yJX hg hm hv m.n m.d) yKa
theorem yez (h:ZO X A a xo):ZE X A a (xFz xo):=wE h.of (yGh sO)
theorem yKV (h:ZO X A a xo):ZE X A a (yIZ xo):=wE h.of (yHC sO)
theorem ycZ {op:Operator}{r:R2}{q:P2}(ho:OpR X (binaryOp op) r) (hq:yfw (ckX X A) r q) (ha:ZE X A a xa) (hb:ZE X A b xb):ZE X A (.BinOp a op b pos) (xOp q xa xb):=wE (yJG ho ha.of hb.of) (yyV hq sE sE)
theorem yKW {op:Operator}{r:R2}{q:P2O}(ho:OpR X (binaryOp op) r) (hq:yBO (ckX X A) r q) (ha:ZE X A a xa) (hb:ZE X A b xb):ZO X A (.BinOp a op b pos) (yJY q xa xb):=wO (yJG ho ha.of hb.of) (yHx hq sE sE)
theorem yPg {op:UnaryOp}{r} {q} (ho:UnR X (unaryOp op) r) (hq:yHt (ckX X A) r q) (ha:ZE X A a xa):ZE X A (.UnaryOp op a pos) (xUn q xa):=wE (yMp ho ha.of) (yKb hq sE)
theorem yNK (ha:ZE X A a xa):ZE X A (.UnaryOp .Not a pos) (yEm xa):=wE (yJx ha.of) (yEo sE)
theorem yqo {op:CmpOp}{r:R2}{q:P2}(ho:OpR X (compareOp op) r) (hq:yfw (ckX X A) r q) (ha:ZE X A a xa) (hb:ZE X A b xb) (hm:behindInMarks op b=false):ZE X A (.Compare a [op] [b] pos) (xOp q xa xb):=wE (yGW ho ha.of hb.of hm) (yyV hq sE sE)
theorem yIi {op op':CmpOp}{r r':R2}{q q':P2}(ho:OpR X (compareOp op) r) (ho':OpR X (compareOp op') r') (hq:yfw (ckX X A) r q) (hq':yfw (ckX X A) r' q') (ha:ZE X A a xa) (hb:ZE X A b xb) (hc:ZE X A c xc) (hm:lastMarks [op,op'] [b,c]=false):ZE X A (.Compare a [op,op'] [b,c] pos) (ysX q q' xa xb xc):=wE (yDY ho ho' ha.of hb.of hc.of hm) (yvE hq hq' sE sE sE)
theorem ytL {op} (h:ZE X A a xa):ZE X A (.BoolOp op [a] pos) xa:=⟨yJv h.of⟩
theorem yso (ha:ZE X A a xa) (hb:ZE X A (.BoolOp .And (b::es) pos) xb):ZE X A (.BoolOp .And (a::b::es) pos) (yoW xa xb):=wE (yJw ha.of hb.of) (yEn sE sE)
section
variable {ca cb:XT}
theorem yNL (hc:ZT X A c ca) (ha:ZE X A a xa) (hb:ZE X A b xb):ZE X A (.IfExp c a b pos) (xIf ca xa xb):=wE (yDS hc.of ha.of hb.of) (yKe sT sE sE)
theorem yB {op:CmpOp}{r:R2}{q:P2}(ho:OpR X (compareOp op) r) (hq:yfw (ckX X A) r q) (ha:ZE X A a xa) (hb:ZE X A b xb) (hm:behindInMarks op b=false):ZT X A (.Compare a [op] [b] pos) (yz (xOp q xa xb)):=wT (yGY ho ha.of hb.of hm) (ytF (yyV hq sE sE))
theorem yFc {op op':CmpOp}{r r':R2}{q q':P2}(ho:OpR X (compareOp op) r) (ho':OpR X (compareOp op') r') (hq:yfw (ckX X A) r q) (hq':yfw (ckX X A) r' q') (ha:ZE X A a xa) (hb:ZE X A b xb) (hc:ZE X A c xc) (hm:lastMarks [op,op'] [b,c]=false):ZT X A (.Compare a [op,op'] [b,c] pos) (yz (ysX q q' xa xb xc)):=wT (yDZ ho ho' ha.of hb.of hc.of hm) (ytF (yvE hq hq' sE sE sE))
theorem yir (ha:ZT X A a ca):ZT X A (.UnaryOp .Not a pos) (yql ca):=wT (yJs ha.of) (yHz sT)
theorem yis (h:ZE X A a xa) (he:∀ whole,isTrue a X.env whole=(do let v <- whole;standAt a.pos;holding [v] (truthy v))):ZT X A a (yz xa):=wT (yJp h.of he) (yKc sE)
theorem yxH (h:ZW X A a ca):ZT X A a ca:=⟨PW.pt h.of⟩
theorem yti (ha:ZT X A a ca) (hb:ZW X A (.BoolOp .And (b::es) pos) cb):ZW X A (.BoolOp .And (a::b::es) pos) (yyU ca cb):=wW (yJr ha.of hb.of) (yHy sT sT)
theorem ytM (ha:ZT X A a ca) (hb:ZW X A (.BoolOp .Or (b::es) pos) cb):ZW X A (.BoolOp .Or (a::b::es) pos) (xOr ca cb):=wW (yMk ha.of hb.of) (yKd sT sT)
theorem ypd (ha:ZT X A a ca):ZW X A (.BoolOp .And [a] pos) ca:=⟨yGQ ha.of⟩
theorem yog (ha:ZT X A a ca):ZW X A (.BoolOp .Or [a] pos) ca:=⟨yJq ha.of⟩
end
theorem yf:ZA X A [] 0 yp:=wA yFX yxw yBT
theorem ya (ha:ZE X A a xa) (hr:ZA X A es n aa) (hs:starEach (a::es) X.env=(false,eval a X.env)::starEach es X.env):ZA X A (a::es) (n+1) (yc xa aa):=wA (yBB ha.of hr.of hs) (yEp sE sA) (yEs hr.len)
theorem yeK (h:ZA X A es n aa):ZO X A (.List es pos) (yjN aa):=wO (yJL h.of) (yHB sA)
theorem yqp {q} (h:ZA X A es n aa):ZE X A (.Tuple es q pos) (ysY aa):=wE (yJK h.of) (yHA sA)
theorem yIj:ZP X A none yoX:=wP yHh yzU
theorem yqV (h:ZE X A a xa):ZP X A (some a) (yvC xa):=wP (yHi h.of) (yEt sE)
section
variable {lo hi:Option Expr}{xl xh:PSt->AH->Option (Option Int×AH)}{p2:Pos}
theorem yFd {r} {q} (hr:SlR X r) (hq:yBU (ckX X A) r q) (ha:ZE X A a xa) (hl:ZP X A lo xl) (hh:ZP X A hi xh):ZO X A (.Subscript a (.Slice lo hi none p2) pos) (yHs q xa xl xh):=wO (yEf hr ha.of hl.of hh.of) (yHF hq sE sP sP)
end
theorem ydS {r:R2}{q:P2}(hr:IxR X r) (hq:yfw (ckX X A) r q) (ha:ZE X A a xa) (hb:ZE X A b xb) (hs:yBE b):ZE X A (.Subscript a b pos) (xOp q xa xb):=wE (yMu hr ha.of hb.of hs) (yyV hq sE sE)
theorem yco {cs:List Nat}{f:Str}(hc:∀ k∈cs,Cls X.K (A k)/\NoAttr X.K (A k) f) (ha:ZE X A a xa) (hb:attributeBase a f X.env (eval a X.env)=eval a X.env):ZE X A (.Attribute a f pos) (ygJ cs f xa):=wE (yJI ha.of hb) (yHT (K:=ckX X A) hc sE)
section
variable {f C:Addr}{fd:FuncData}{ps:List Str}{lv:Nat}{fn:Fn}
theorem yC (F:FnOk X.prog X.w X.K X.mg X.base CX0 lv f fd ps (spE (ckX X A) (n+1) fn)) (hr:Room lv X.A) (m:Nm x) (hg:Gl X x) (hm:X.mg x=some (.ref f)) (hk:keepIn X.K (.ref f)=true) (hb:Binds X.K fd ps [])
  (ha:ZA X A (a::es) (n+1) aa) (he:starEach (a::es) X.env=(false,eval a X.env)::starEach es X.env) (hpl:(backTo pos (starEach es X.env)).any (·.1)=false):ZE X A (.Call (.Name x p) (a::es) [] pos) (yI fn aa) :=
 wE (yHe F hr hg hm hk hb .nil yBI ha.of m.d he hpl) (yEr sA ha.len)
theorem yhj {k:Nat}{fi} (M:Mk X.K (A k) f) (F:FnOk X.prog X.w X.K X.mg X.base CX0 lv f fd ps (spI (ckX X A) (n+1) k fi)) (hr:Room (lv+1) X.A) (m:Nm x) (hg:Gl X x) (hm:X.mg x=some (.ref (A k))) (hb:Binds X.K fd ps [])
  (ha:ZA X A (a::es) (n+1) aa) (he:starEach (a::es) X.env=(false,eval a X.env)::starEach es X.env) (hpl:(backTo pos (starEach es X.env)).any (·.1)=false):ZO X A (.Call (.Name x p) (a::es) [] pos) (yke fi aa) :=
 wO (yHg M F hr hg hm hb .nil yBI ha.of m.d he hpl) (yEO (K:=ckX X A) (k:=k) sA ha.len)
theorem yxI {k:Nat}(hm:makesIn X.K (A k)=true) (hi:findIn X.K (.ref (A k)) "__init__" = some (some (.builtin "object.__init__"))) (hk:keepIn X.K (.ref (A k))=true) (m:Nm x) (hg:Gl X x) (hmg:X.mg x=some (.ref (A k))):ZO X A (.Call (.Name x p) [] [] pos) (ytg k) :=
 wO (yEk hm hi hk hg hmg m.d) (yCj (K:=ckX X A))
theorem yxJ {m:Str}{fm:Nat->Fn}{pl:Sem Bool}(he:ZE X A o xa) (G:yqK X.prog X.w X.K X.mg X.base lv A m (fun k=>spE (ckX X A) 1 (fm k))) (hr:Room lv X.A)
  (ht:eval (.Call (.Attribute o m apos) [] [] pos) X.env=(do
   let ov <- eval o X.env
   standAt apos.atName
   let (f,first) <- holding [ov] (getMethod ov m pl)
   callWith pos f first (backTo pos (starEach [] X.env)) (backToKw pos (keywordEach [] X.env)))):ZE X A (.Call (.Attribute o m apos) [] [] pos) (ylE m fm xa) :=
 wE (yBK he.of G hr ht) (yEP (K:=ckX X A) sE)
end
theorem ynn {id:String}{r} {q} (hc:CallR X (.builtin id) r) (hq:yoY (ckX X A) r q) (m:Nm x) (hg:Gl X x) (hm:X.mg x=none) (hv:bootBuiltins x=some (.builtin id)) (ha:ZA X A (a::es) n aa) (he:starEach (a::es) X.env=(false,eval a X.env)::starEach es X.env) (hpl:(backTo pos (starEach es X.env)).any (·.1)=false):ZE X A (.Call (.Name x p) (a::es) [] pos) (xCB q aa) :=
 wE (yEe hc hg hm hv ha.of m.n m.d he hpl) (yGi hq sA)
theorem yCt {T:String}{r} {q} (hc:CallR X (.type T) r) (hq:yoY (ckX X A) r q) (m:Nm x) (hg:Gl X x) (hm:X.mg x=none) (hv:bootBuiltins x=some (.type T)) (ha:ZA X A (a::es) n aa) (he:starEach (a::es) X.env=(false,eval a X.env)::starEach es X.env) (hpl:(backTo pos (starEach es X.env)).any (·.1)=false):ZE X A (.Call (.Name x p) (a::es) [] pos) (xCB q aa) :=
 wE (yvg hc hg hm hv ha.of m.n m.d he hpl) (yGi hq sA)
theorem yoh {T:String}{r} {q} (hc:CallR X (.type T) r) (hq:yBP (ckX X A) r q) (m:Nm x) (hg:Gl X x) (hm:X.mg x=none) (hv:bootBuiltins x=some (.type T)) (ha:ZA X A (a::es) n aa) (he:starEach (a::es) X.env=(false,eval a X.env)::starEach es X.env) (hpl:(backTo pos (starEach es X.env)).any (·.1)=false):ZO X A (.Call (.Name x p) (a::es) [] pos) (yBb q aa) :=
 wO (yvg hc hg hm hv ha.of m.n m.d he hpl) (yHD hq sA)
section
variable {name:Str}{cpos:Pos}{T id:String}{r:V->List V->Hp->VK->Prop}{cc:PV->AH->Bool}{q:PM}
theorem yxK (pa:PlainAttrs T) (slot:Slot T name id) (hty:typeOf (.builtin id)=pure (.type "method_descriptor")) (hm:MtR X id r) (hq:yvD (ckX X A) T cc r q) (ho:ZE X A o xa) (ha:ZA X A (a::es) n aa)
  (hbase:attributeBase o name X.env (eval o X.env)=eval o X.env)
  (hfew:((backTo cpos (starEach (a::es) X.env)).all (fun x=>!x.1) && (backToKw cpos (keywordEach [] X.env)).all (fun x=>x.1.isSome)
   && decide ((a::es).length+([]:List Keyword).length+(if ([]:List Keyword).isEmpty then 0 else 1)<30))=true)
  (hline:(apos.endLine == cpos.line)=true) (hs:starEach (a::es) X.env=(false,eval a X.env)::starEach es X.env) (hplain:(backTo cpos (starEach es X.env)).any (·.1)=false) :
  ZE X A (.Call (.Attribute o name apos) (a::es) [] cpos) (xBM cc q xa aa):=wE (yJR pa slot hty hm ho.of ha.of hbase hfew hline hs hplain) (yGj (K:=ckX X A) hq sE sA)
theorem yNM (pa:PlainAttrs T) (slot:Slot T name id) (hty:typeOf (.builtin id)=pure (.type "method_descriptor")) (hm:MtR X id r) (hq:yvD (ckX X A) T cc r q) (ho:ZE X A o xa)
  (hbase:attributeBase o name X.env (eval o X.env)=eval o X.env) (hline:(apos.endLine == cpos.line)=true) :
  ZE X A (.Call (.Attribute o name apos) [] [] cpos) (xBM cc q xa yp):=wE (yJQ pa slot hty hm ho.of hbase hline) (yHE (K:=ckX X A) hq sE)
theorem yvN {i:Nat}(ho:PE X o (yIY i)) (ha:ZE X A a xa)
  (hbase:attributeBase o "append" X.env (eval o X.env)=eval o X.env)
  (hfew:((backTo cpos (starEach [a] X.env)).all (fun x=>!x.1) && (backToKw cpos (keywordEach [] X.env)).all (fun x=>x.1.isSome)
   && decide ([a].length+([]:List Keyword).length+(if ([]:List Keyword).isEmpty then 0 else 1)<30))=true)
  (hline:(apos.endLine == cpos.line)=true) (hs:starEach [a] X.env=(false,eval a X.env)::starEach [] X.env) (hplain:(backTo cpos (starEach [] X.env)).any (·.1)=false)
  (hsw:swapsWith (.Call (.Attribute o "append" apos) [a] [] cpos) none pos.line X.env=pure false) :
  ZS X A (.Expr (.Call (.Attribute o "append" apos) [a] [] cpos) pos) (ynm i xa) :=
 wS (yBm (yJR PySem.F.plainAttrs_list PySem.F.slot_list_append PySem.F.type_list_append ynZ ho (yBB ha.of yFX hs) hbase hfew hline hs hplain) hsw) (yEA (K:=ckX X A) i sE)
end
section
variable {tg:Expr}
theorem yhD (h:ZE X A a xa):ZI X A tg a (xIL xa):=wI (yGU h.of) (yBZ (K:=ckX X A) sE)
theorem yKX (h:ZE X A a xa):ZI X A tg a (xIT xa):=wI (yJE h.of) (yEB (K:=ckX X A) sE)
theorem yKY (h:ZE X A a xa):ZI X A tg a (xIS xa):=wI (yJV h.of) (yEC sE)
theorem yCu (hg:Gl X "range") (hm:X.mg "range" = none) (ha:ZA X A [a] n aa) (hs:starEach [a] X.env=[(false,eval a X.env)]):ZI X A tg (.Call (.Name "range" p) [a] [] pos) (yJb aa):=wI (yBo hg hm ha.of hs) (yCa sA)
end
theorem yky {i:Nat}(hN:X.N.Nodup) (hi:X.N[i]?=some x) (hx:Loc X.env.scope x) (hf:X.fn x=true\/X.env.scope.names.lookup x=some .local):ZG X A (.Name x pos) (yt i):=wG (ytt hN hi hx hf) (yqM i)
theorem yIk:ZGs X A [] yDI:=wGs yGT yEx
theorem yzj {y:XG}{ys:XGs}(h1:ZG X A a y) (h2:ZGs X A es ys) (hs:(assignEach (a::es) X.env).map (·.2)=assign a X.env::(assignEach es X.env).map (·.2)):ZGs X A (a::es) (ylL y ys):=wGs (yDU h1.of h2.of hs) (yBW sG sGs)
theorem yKZ {ys:XGs}{q:Nat}(hc:X.calm=true) (h:ZGs X A es ys) (hn:(assignEach es X.env).length=n) (hst:(assignEach es X.env).findIdx? (·.1)=none):ZG X A (.Tuple es q pos) (yBc n ys):=wG (yJB hc h.of hn hst) (yEy (K:=ckX X A) sGs)
theorem ypP {elt iter:Expr}{px:Pos}{scope:Scope}{cpos:Pos}{it:XA}{xe:XE}(ix:List Nat) (fr:List Str) (hc:X.calm=true) (hi:ZI X A (.Name x px) iter it) (hfr:FrOk X scope ix fr)
  (he:∀ (cl:List (Str×Addr)) (C:Addr) (s₃:Shared) (H₃:Hp) (fp:List Addr) (pins:List (Addr×Obj)),ZE (cxC X scope cl C (x::fr) s₃ H₃ fp pins) A elt xe)
  (hnd:(x::fr).Nodup) (hkind:scope.kind=.function) (hcell:∀ y∈scope.names,y.2≠.cell)
  (hnames:∀ y∈scope.names,y.2=.local->scope.names.lookup y.1=some .local) (hfree0:∀ y∈scope.names,y.2=.free->y.1∈fr) (hx:scope.names.lookup x=some .local)
  (hs:∀ v,foldedSetIterable iter X.env v=pure v):ZO X A (.ListComp elt [⟨.Name x px,iter,[],0⟩] scope cpos) (ylM it ix xe) :=
 wO (yHo ix fr hc hi.of hfr (te:=cE (ckX X A) xe) (fun cl C s₃ H₃ fp pins=>(he cl C s₃ H₃ fp pins).of) hnd hkind hcell hnames hfree0 hx hs) (yyW (K:=ckX X A) ix sI sE)
section
variable {st:Stmt}{rest:List Stmt}{s u:XS}
theorem yl (h:ZE X A a xa):ZS X A (.Return (some a) pos) (ybq xa):=wS (yJz h.of) (yHH sE)
theorem ylP (h:ZE X A a xa) (hs:swapsWith a none pos.line X.env=pure false):ZS X A (.Expr a pos) (yqm xa):=wS (yBm h.of hs) (yEw sE)
theorem yD {i:Nat}{pos':Pos}(hN:X.N.Nodup) (hi:X.N[i]?=some x) (hx:Loc X.env.scope x) (h:ZE X A a xa) (hs:swapsWith a (some (.Name x pos')) pos.line X.env=pure false) (hf:X.fn x=true\/X.env.scope.names.lookup x=some .local):ZS X A (.Assign [.Name x pos'] a pos) (ydy xa (yt i)) :=
 wS (yFR hN hi hx h.of hs hf) (yBX sE (yqM i))
theorem yCv {i:Nat}{pos':Pos}(hN:X.N.Nodup) (hi:X.N[i]?=some x) (hx:Loc X.env.scope x) (h:ZO X A a xo) (hs:swapsWith a (some (.Name x pos')) pos.line X.env=pure false) (hf:X.fn x=true\/X.env.scope.names.lookup x=some .local):ZS X A (.Assign [.Name x pos'] a pos) (yBV xo i) :=
 wS (yFR hN hi hx h.of hs hf) (yEz i sO)
theorem yeM {cs:List Nat}{f:Str}{pos':Pos}{i:Nat}(hc:∀ k∈cs,Cls X.K (A k)/\NoAttr X.K (A k) f) (ho:PE X o (yIY i)) (h:ZE X A a xa) (hs:swapsWith a (some (.Attribute o f pos')) pos.line X.env=pure false):ZF X A (.Assign [.Attribute o f pos'] a pos) (yhi cs i f xa):=wF (yFW ho h.of hs) (yEL (K:=ckX X A) hc sE)
theorem ybr {ca:XT}{l m:List Stmt}(hc:ZT X A c ca) (ha:ZSs X A l s) (hb:ZSs X A m u):ZS X A (.If c l m pos) (ycC ca s u):=wS (yMm hc.of ha.of hb.of) (yHI sT sS sS)
theorem yqW {tg iter:Expr}{it:XA}{y:XG}(hp:PassesOwn (model X.prog X.w) X.A X.env X.xe) (hc:X.calm=true) (hi:ZI X A tg iter it) (hg:ZG X A tg y) (hb:ZSs X A rest s) (hs:∀ x,foldedSetIterable iter X.env x=pure x):ZS X A (.For tg iter rest [] pos) (ysZ it y s):=wS (yFT hp hc hi.of hg.of hb.of hs) (yHM sI sG sS)
theorem yFe {ca:XT}(fu:Nat) (hp:PassesOwn (model X.prog X.w) X.A X.env X.xe) (hc:ZT X A c ca) (hb:ZSs X A rest s):ZS X A (.While c rest [] pos) (yvF fu ca s):=wS (yDV hp hc.of hb.of) (yCb fu sT sS)
theorem yv:ZSs X A [] ybh:=wSs yGR yEv
theorem yi (h:ZS X A st s):ZSs X A [st] s:=⟨yBl h.of⟩
theorem ye (h:ZS X A st s) (hr:ZSs X A rest u):ZSs X A (st::rest) (yw s u):=wSs (yyN h.of hr.of) (yHG sS sS)
theorem yCw (i:Nat) (h:ZSs X A rest s):ZSs X A rest (yKf i s):=wSs h.of (yHJ i sS)
theorem ykz (h:ZF X A st s):ZFs X A [st] s:=⟨yBl h.of⟩
theorem yeF (h:ZF X A st s) (hr:ZFs X A rest u):ZFs X A (st::rest) (yw s u):=wFs (yyN h.of hr.of) (yEM sF sF)
end
end
section
variable {P:Program}{w:World}{K:PySem.W.Frag}{mg:Str->Option Value}{base:Heap}{A:Nat->Addr}
theorem zfn {x qual:Str}{st:Stmt}{f:Addr}{fd:FuncData}{N ps:List Str}{k:Nat}{s:XS}(F:Fun K x qual st f fd) (S:yn N ps (yb st))
  (h:∀ (cdv:Value) (Ar:Around) (outer:List Env) (sh:Shared) (H:Hp) (E:XK),Room k (Ar.deeper (envOfC qual (yb st) sh.heap.objs.size f cdv))->ZSs (yFY CX0 P w K mg base N qual (yb st) f cdv Ar outer sh H E).nox A (yg st) s) :
  FnOk P w K mg base CX0 (k+1) f fd ps (spE ⟨K,A⟩ ps.length (yff N.length s)) :=
 F.ok S (fun _ _ _ _ h=>yHN h) fun cdv Ar outer sh H vs Q E hr hq=>⟨_,(h cdv Ar outer sh H E hr).of,yEE (K:=⟨K,A⟩) sS hq⟩
theorem zin {x qual:Str}{st:Stmt}{f:Addr}{fd:FuncData}{N ps:List Str}{k kc n:Nat}{s:XS}(F:Fun K x qual st f fd) (S:yn N ps (yb st)) (hn:ps.length=n+1) (hN:n+1<=N.length)
  (h:∀ (cdv:Value) (Ar:Around) (outer:List Env) (sh:Shared) (H:Hp) (E:XK),Room k (Ar.deeper (envOfC qual (yb st) sh.heap.objs.size f cdv))->ZFs (yFY CX0 P w K mg base N qual (yb st) f cdv Ar outer sh H E).nox A (yg st) s) :
  FnOk P w K mg base CX0 (k+1) f fd ps (spI ⟨K,A⟩ n kc (yzX N.length kc s)) :=
 F.ok S (fun _ _ _ _ h=>(yHU h).trans hn.symm) fun cdv Ar outer sh H vs Q E hr hq=>⟨_,(h cdv Ar outer sh H E hr).of,yEN (K:=⟨K,A⟩) hN sF hq⟩
end
end PX
namespace PX
open PySem L2 PySem.Spec PyProof.Rows
section
variable {X:Cx}{A:Nat->Addr}{a b c o i:Expr}{es:List Expr}{xa xb xc xd xk xv:XE}{xo:XO}{aa:XA}{pos p apos cpos pos':Pos}{x:Str}{n k:Nat}
end
end PX
namespace PX
open PySem L2 PySem.Spec PyProof.Rows
theorem yzk:bootBuiltins "max" = some (.builtin "max"):=by rfl'
section
variable {X:Cx}{A:Nat->Addr}{a b c o:Expr}{es:List Expr}{xa xb xc:XE}{pos p apos cpos:Pos}{x:Str}{n k:Nat}
end
section
variable {X:Cx}{A:Nat->Addr}{tg a b c:Expr}{p pos:Pos}{aa:XA}{n:Nat}
end
section
theorem ylQ {xs:List V}{its:List Value}(r:Vals xs its) {j:Nat}(hj:j<its.toArray.size):∃ x,xs[j]?=some x/\RelV x its.toArray[j]:=by
 have hl:=r.length
 have j1:j<its.length:=by simpa using hj
 have x1:xs[j]?=some xs[j]:=List.getElem?_eq_getElem (by omega)
 obtain ⟨u1,q1,w1⟩:=r.get x1
 have g1:its.toArray[j]=u1:=by
  have:=List.getElem?_eq_getElem j1
  rw [q1] at this
  simpa using (Option.some.inj this).symm
 exact ⟨_,x1,by rw [g1];exact w1⟩
variable {X:Cx}
theorem yGx {pins:List (Addr×Obj)}{σ:L2.St}{H:Hp}{s:Shared}(I:Inv X pins σ H s) {n:Nat}{x y:V}{b:Bool}(r:EqR X.K H n x y b):∀ {A:Around}{u v:Value},RelV x u->RelV y v->A.units+n<cLine->SeqAt.EqAt A s u v b:=by
 induction r with
 | flat fx fy=>exact fun rx ry _=>yFZ rx ry fx fy
 | same =>
  intro A u v rx ry _
  cases rx
  cases ry
  exact SeqAt.EqAt.same _
 | odd h =>
  obtain ⟨a,o,ob,h1,h2⟩:=h
  have:=(I.bs a ob (I.ok.mod.kin a ob h2)).2
  rw [h1] at this
  cases this
 | nt hb =>
  intro A u v rx ry hu
  cases rx
  cases ry
  obtain ⟨i2,r2,p2,z2⟩:=I.tuple hb
  exact SeqAt.EqAt.none_tuple p2 (by omega)
 | tn hb =>
  intro A u v rx ry hu
  cases rx
  cases ry
  obtain ⟨i2,r2,p2,z2⟩:=I.tuple hb
  exact SeqAt.EqAt.tuple_none p2 (by omega)
 | @lst n a b xs ys e ha hb hl hne he ih =>
  intro A u v rx ry hu
  cases rx
  cases ry
  obtain ⟨i1,n1,r1,e1,z1⟩:=I.lst ha
  obtain ⟨i2,n2,r2,e2,z2⟩:=I.lst hb
  have l1:=r1.length
  have l2:=r2.length
  rw [show xs.length=i1.toArray.size by simp only [List.size_toArray];omega]
  refine SeqAt.EqAt.of_refs hne (SeqAt.RcAt.lists ⟨_,e1,rfl,n1,rfl⟩ ⟨_,e2,rfl,n2,rfl⟩ (by simp only [List.size_toArray];omega) (by omega) fun j j1 j2=>?_)
  obtain ⟨x1,q1,w1⟩:=ylQ r1 j1
  obtain ⟨y1,q2,w2⟩:=ylQ r2 j2
  exact ih j x1 y1 q1 q2 w1 w2 (by show A.units+1+n<cLine;omega)
 | @lstN n a b xs ys ha hb hl =>
  intro A u v rx ry hu
  cases rx
  cases ry
  obtain ⟨i1,n1,r1,e1,z1⟩:=I.lst ha
  obtain ⟨i2,n2,r2,e2,z2⟩:=I.lst hb
  have l1:=r1.length
  have l2:=r2.length
  have hne:a≠b:=fun z=>by subst z;rw [ha] at hb;cases hb;exact hl rfl
  exact SeqAt.EqAt.of_refs hne (SeqAt.RcAt.lists_lengths ⟨_,e1,rfl,n1,rfl⟩ ⟨_,e2,rfl,n2,rfl⟩ (by simp only [List.size_toArray,bne_iff_ne];omega) (by omega))
 | @tup n a b xs ys e ha hb hne he ih =>
  intro A u v rx ry hu
  cases rx
  cases ry
  obtain ⟨i1,r1,p1,z1⟩:=I.tuple ha
  obtain ⟨i2,r2,p2,z2⟩:=I.tuple hb
  have l1:=r1.length
  have l2:=r2.length
  rw [show xs.length=i1.toArray.size by simp only [List.size_toArray];omega,show ys.length=i2.toArray.size by simp only [List.size_toArray];omega]
  refine SeqAt.EqAt.of_refs hne (SeqAt.RcAt.tuples p1 p2 (by omega) fun j j1 j2=>?_)
  obtain ⟨x1,q1,w1⟩:=ylQ r1 j1
  obtain ⟨y1,q2,w2⟩:=ylQ r2 j2
  exact ih j x1 y1 q1 q2 w1 w2 (by show A.units+1+n<cLine;omega)
theorem yqX (hu:X.A.units+60<cLine):OpR X (compareOp .Eq) (yOK X.K):=by
 intro pins s σ H x y v u Q I rx ry h
 obtain ⟨b,hb,q⟩:=h
 cases hb with
 | nt hb =>
  cases rx
  cases ry
  obtain ⟨i2,r2,p2,z2⟩:=I.tuple hb
  exact SeqAt.RcAt.none_tuple p2 (by omega) _ _ _ _ ⟨.bl _,H,I,rfl,q⟩
 | tn hb =>
  cases rx
  cases ry
  obtain ⟨i2,r2,p2,z2⟩:=I.tuple hb
  exact SeqAt.RcAt.tuple_none p2 (by omega) _ _ _ _ ⟨.bl _,H,I,rfl,q⟩
 | @lst a b xs ys e ha hb hl he =>
  cases rx
  cases ry
  obtain ⟨i1,n1,r1,e1,z1⟩:=I.lst ha
  obtain ⟨i2,n2,r2,e2,z2⟩:=I.lst hb
  have l1:=r1.length
  have l2:=r2.length
  rw [show xs.length=i1.toArray.size by simp only [List.size_toArray];omega] at q
  refine SeqAt.RcAt.lists ⟨_,e1,rfl,n1,rfl⟩ ⟨_,e2,rfl,n2,rfl⟩ (by simp only [List.size_toArray];omega) (by omega) (fun j j1 j2=>?_) _ _ _ _ ⟨.bl _,H,I,rfl,q⟩
  obtain ⟨x1,q1,w1⟩:=ylQ r1 j1
  obtain ⟨y1,q2,w2⟩:=ylQ r2 j2
  exact yGx I (he j x1 y1 q1 q2) w1 w2 (by show X.A.units+1+40<cLine;omega)
 | @lstN a b xs ys ha hb hl =>
  cases rx
  cases ry
  obtain ⟨i1,n1,r1,e1,z1⟩:=I.lst ha
  obtain ⟨i2,n2,r2,e2,z2⟩:=I.lst hb
  have l1:=r1.length
  have l2:=r2.length
  exact SeqAt.RcAt.lists_lengths ⟨_,e1,rfl,n1,rfl⟩ ⟨_,e2,rfl,n2,rfl⟩ (by simp only [List.size_toArray,bne_iff_ne];omega) (by omega) _ _ _ _ ⟨.bl _,H,I,rfl,q⟩
 | @tup a b xs ys e ha hb he =>
  cases rx
  cases ry
  obtain ⟨i1,r1,p1,z1⟩:=I.tuple ha
  obtain ⟨i2,r2,p2,z2⟩:=I.tuple hb
  have l1:=r1.length
  have l2:=r2.length
  rw [show xs.length=i1.toArray.size by simp only [List.size_toArray];omega,show ys.length=i2.toArray.size by simp only [List.size_toArray];omega] at q
  refine SeqAt.RcAt.tuples p1 p2 (by omega) (fun j j1 j2=>?_) _ _ _ _ ⟨.bl _,H,I,rfl,q⟩
  obtain ⟨x1,q1,w1⟩:=ylQ r1 j1
  obtain ⟨y1,q2,w2⟩:=ylQ r2 j2
  exact yGx I (he j x1 y1 q1 q2) w1 w2 (by show X.A.units+1+40<cLine;omega)
theorem yqY {k:Nat}{A:Around}(r:Room k A):A.units+60<cLine:=by have:=r.un;omega
end
end PX
namespace PX
open PySem L2 PySem.Spec PyProof.Rows
section
variable {X:Cx}{A:Nat->Addr}{o e:Expr}{es:List Expr}{xa xb:XE}{aa:XA}{pos apos pos':Pos}{m f:Str}{n k kc:Nat}{pl:Sem Bool}{p:Fn}{fa:Addr}{fd:FuncData}{ps:List Str}
theorem yhR {st:Stmt}:ZS X A st yqT:=wS yDT (yEW (K:=ckX X A))
theorem ydA (ho:ZE X A o xa) (c:Cls X.K (A kc)) (hm:yku X.K (A kc) m fa) (F:FnOk X.prog X.w X.K X.mg X.base CX0 k fa fd ps (spE (ckX X A) (n+1) p)) (hr:Room k X.A) (hb:Binds X.K fd ps []) (ha:ZA X A (e::es) n aa)
  (hst:starEach (e::es) X.env=(false,eval e X.env)::starEach es X.env) (hpl:(backTo pos (starEach es X.env)).any (·.1)=false)
  (ht:eval (.Call (.Attribute o m apos) (e::es) [] pos) X.env=(do
   let ov <- eval o X.env
   standAt apos.atName
   let (f,first) <- holding [ov] (getMethod ov m pl)
   callWith pos f first (backTo pos (starEach (e::es) X.env)) (backToKw pos (keywordEach [] X.env)))) :
  ZE X A (.Call (.Attribute o m apos) (e::es) [] pos) (yW kc m p xa aa):=wE (yHf ho.of c hm F hr hb .nil yBI ha.of hst hpl ht) (yvJ (K:=ckX X A) sE sA ha.len)
theorem ybJ (ho:ZE X A o xa) (c:Cls X.K (A kc)) (hm:yku X.K (A kc) m fa) (F:FnOk X.prog X.w X.K X.mg X.base CX0 k fa fd ps (spE (ckX X A) 1 p)) (hr:Room k X.A) (hb:Binds X.K fd ps [])
  (ht:eval (.Call (.Attribute o m apos) [] [] pos) X.env=(do
   let ov <- eval o X.env
   standAt apos.atName
   let (f,first) <- holding [ov] (getMethod ov m pl)
   callWith pos f first (backTo pos (starEach [] X.env)) (backToKw pos (keywordEach [] X.env)))) :
  ZE X A (.Call (.Attribute o m apos) [] [] pos) (yW kc m p xa yp):=wE (yEc ho.of c hm F hr hb .nil yBI ht) (yvJ (K:=ckX X A) (n:=0) sE yxw yBT)
theorem yIl {cs:List Nat}{value:Expr}(hc:∀ k∈cs,Cls X.K (A k)/\NoAttr X.K (A k) f) (ho:ZE X A o xa) (hv:ZE X A value xb) (hs:swapsWith value (some (.Attribute o f pos')) pos.line X.env=pure false) :
  ZS X A (.Assign [.Attribute o f pos'] value pos) (yCo cs f xa xb):=wS (yFW ho.of hv.of hs) (yEX (K:=ckX X A) hc sE sE)
end
end PX
namespace KasS
open PySem PySem.W PyProof.Rows
def run {α:Type}(lt:Nat->Nat->Bool):KasT α->α
 | .ret a=>a
 | .ask i j k=>run lt (k (lt i j))
section
variable (key:Nat->Int)
variable {key}
section
variable {P:Nat->Prop}{lt:Nat->Nat->Bool}
end
end
end KasS
namespace KasS
open PySem PySem.W PyProof.Rows PySem.Calls
section
variable {prog:Program}{w:World}{A:Around}{E:Value->Shared->Prop}{s:Shared}
end
end KasS
namespace PXS
open PySem L2 PySem.Spec PyProof.Rows KasS PX
section
variable {X:Cx}
variable {A:Nat->Addr}{o:Expr}{xa:XE}{pos p apos cpos:Pos}{x:Str}
end
end PXS
namespace PX
open PySem L2 PySem.Spec PyProof.Rows
section
variable {X:Cx}{A:Nat->Addr}{tg a:Expr}{p pos:Pos}{xa:XE}
end
end PX
namespace PX
open PySem L2 PySem.Spec PyProof.Rows
section
variable {X:Cx}{A:Nat->Addr}{a o:Expr}{xa xb:XE}{pos apos cpos:Pos}
end
end PX
namespace L2
open PySem PySem.Spec PyProof.Rows PX
end L2
namespace PX
open PySem L2 PySem.Spec PyProof.Rows
variable {X:Cx}{A:Nat->Addr}{x:Str}
end PX
namespace L2
open PySem PySem.Spec PyProof.Rows PX
theorem yIm {y:Str}{py spos:Pos}{iy:Nat}{X:Cx}{elt iter:Expr}{x:Str}{px:Pos}{scope:Scope}{cpos:Pos}{wi:TI}{te:TE}(ix:List Nat) (fr:List Str) (hc:X.calm=true) (hi:PI X (.Name x px) iter wi) (hfr:FrOk X scope ix fr)
  (he:∀ (cl:List (Str×Addr)) (C:Addr) (s₃:Shared) (H₃:Hp) (fp:List Addr) (pins:List (Addr×Obj)),PE (cxC X scope cl C (x::fr) s₃ H₃ fp pins) elt te)
  (hnd:(x::fr).Nodup) (hkind:scope.kind=.function) (hcell:∀ y∈scope.names,y.2≠.cell)
  (hnames:∀ y∈scope.names,y.2=.local->scope.names.lookup y.1=some .local) (hfree0:∀ y∈scope.names,y.2=.free->y.1∈fr) (hx:scope.names.lookup x=some .local)
  (hs:∀ v,foldedSetIterable iter X.env v=pure v)
  (hN:X.N.Nodup) (hyi:X.N[iy]?=some y) (hyx:Loc X.env.scope y) (hyf:X.fn y=true\/X.env.scope.names.lookup y=some .local) (hsw:swapsWith (.ListComp elt [⟨.Name x px,iter,[],0⟩] scope cpos) (some (.Name y py)) spos.line X.env=pure true) :
  PS X (.Assign [.Name y py] (.ListComp elt [⟨.Name x px,iter,[],0⟩] scope cpos) spos) (yMd (yHm wi ix te) (yzG iy)):=by
 intro pins s σ H D0 I h
 have hfn:X.env.scope.kind=.function:=I.ok.kind
 have hfree:∀ y∈scope.names,y.2=.free->X.env.kindOf y.1=some .cell/\scope.names.lookup y.1=some .free:=fun y hy e=>by
  obtain ⟨j,hj,ej⟩:=List.getElem_of_mem (hfree0 y hy e)
  obtain ⟨i,_,_,h3,h4⟩:=hfr.get (j:=j) (y:=y.1) (by rw [List.getElem?_eq_getElem hj,ej])
  exact ⟨h4,h3⟩
 obtain ⟨cl,ecl,hcl1,hcl2⟩:=yjd (env:=X.env) scope.names [] fun n hn=>I.ok.has n (.inl (hfree _ hn rfl).1)
 have hclos:closureFor scope X.env=pure cl:=by
  unfold closureFor
  have:(forIn scope.names ([]:List (Str×Addr)) (fun (x:Str×NameKind) (r:List (Str×Addr))=>if (x.2 == NameKind.free)=true then do let c <- cellOf X.env x.1;pure (ForInStep.yield ((x.1,c)::r)) else pure (ForInStep.yield r)):Sem (List (Str×Addr)))=pure cl:=ecl
  first
   | exact (by simpa using congrArg (· >>= fun r=>pure r) this)
   | (rw [show (pure cl:Sem (List (Str×Addr)))=(pure cl >>= fun r=>pure r) from rfl,<- this];rfl)
 have hcle:∀ y c,cl.lookup y=some c->X.env.cells.lookup y=some c/\(y,NameKind.free)∈scope.names:=fun y c e=>by
  by_cases hy:(y,NameKind.free)∈scope.names
  .exact ⟨by rw [<- hcl1 y hy];exact e,hy⟩
  .rw [hcl2 y hy] at e;simp at e
 rw [exec_Assign_Name_used _ _ _ _ hsw]
 refine wpAny_bind (wpAny_standAt (wpAny_bind ?_))
 show wpAny _ X.A (do let _ <- comprehension (.ListComp elt [⟨.Name x px,iter,[],0⟩] scope cpos) scope X.env _ (newList []) false (eval iter X.env) (some (assign (.Name y py) X.env))) _ _ s
 refine wpAny_bind (wpAny_mono (wpAny_comprehension_free (use:=some (assign (.Name y py) X.env)) (Q:=fun _ s'=>SP X pins D0 .next s') rfl hs hclos hkind hnames ?_) (fun _ s' hq=>wpAny_pure (wpAny_pure hq)) fun _ _ e=>e)
 refine thn (hi pins s σ H _ I h) fun v s1 h1=>thn h1 fun itv s2 h2=>?_
 obtain ⟨it,fp,tn,J,H2,e,I2,T,st2,f2,q2⟩:=h2
 subst e
 refine wpAny_newObj_type ?_
 generalize hs3:({ s2 with heap:=s2.heap.push { cls:=.type "list",dict:=none,data:=.seq ([]:List Value).toArray } }:Shared)=s3
 generalize hD:s2.heap.objs.size=D
 have hDn:H2 D=none:=by rw [<- hD];exact I2.hok.fresh (Nat.le_refl _)
 have I3:Inv X pins σ (upd H2 D (.lst [])) s3:=by
  rw [<- hs3,<- hD]
  exact I2.lnew (t':=s2.toks) (ys:=[]) (its:=[]) .nil (Nat.zero_le _)
 have k3:∀ b o,s2.heap.get? b=some o->s3.heap.get? b=some o:=fun b o e=>by rw [<- hs3];exact Heap.get?_push_of_some _ e
 have st3:tn 0 s3.heap:=T.keep _ _ _ st2 fun b _ o e=>k3 b o e
 have fne:∀ b∈fp,b≠D:=fun b hb=>by
  obtain ⟨o,e,_⟩:=T.obj _ _ st2 b hb
  rw [<- hD]
  exact Nat.ne_of_lt (Heap.lt_size e)
 have f3:∀ b∈fp,yzH X pins (upd H2 D (.lst [])) b:=fun b hb=>⟨by rw [ybz (fne b hb)];exact (f2 b hb).1,(f2 b hb).2⟩
 have q3:=q2 D hDn
 generalize upd H2 D (.lst [])=H3 at I3 f3 q3
 obtain ⟨W,⟨m0,w0⟩,turn⟩:=q3
 refine wpAny_newFunctionEnv hcell (by intro y hy;simp at hy) (fun h4 hns hsb=>?_) hkind
 try dsimp only at hns hsb ⊢
 generalize hC:s3.heap.objs.size=C at hns hsb ⊢
 have k4:∀ b o,s3.heap.get? b=some o->h4.get? b=some o:=fun b o e=>(hsb.2 b (by rw [<- hC];exact Nat.ne_of_lt (Heap.lt_size e))).trans (Heap.get?_push_of_some _ e)
 have Cne:∀ b o,s3.heap.get? b=some o->b≠C:=fun b o e=>by rw [<- hC];exact Nat.ne_of_lt (Heap.lt_size e)
 have stk:=I3.stkSub
 have pinF:∀ p∈X.pn++pins,p.1∉frs X.stack:=fun p hp z=>by
  obtain ⟨_,_,n1,n2,_⟩:=I3.pin p hp
  rcases List.mem_cons.mp (stk _ z) with z|z
  .exact n1 z
  .exact n2 z
 have okC:(cxC X scope cl C (x::fr) s3 H3 fp pins).Ok:=by
  refine ⟨I3.ok.mod,by show (relabel scope X.env).kind=_;exact hkind,I3.ok.glob,I3.ok.blt,Nat.le_of_eq hC,fun y z c h1 h2=>I3.ok.inj y z c (hcle y c h1).1 (hcle z c h2).1,fun y hy=>?_,fun y c hf _=>(by cases hf),I3.ok.hd,I3.ok.frames,.inl rfl,fun b hb=>⟨?_,fun y c e z=>?_⟩,I3.bs,?_,fun b o e hb=>?_,fun b hb z=>?_,I3.stack,I3.stkFree⟩
  .have hy:((relabel scope X.env).names.lookup y=some .cell)\/((relabel scope X.env).names.lookup y=some .free):=hy
   rw [show (relabel scope X.env).names.lookup y=_ from yfF y scope.names] at hy
   cases e:scope.names.lookup y with
   | none=>rw [e] at hy;simp at hy
   | some k =>
    have hm:(y,k)∈scope.names:=PySem.mem_of_lookup e
    have hkf:k=.free:=by
     rw [e] at hy
     cases k<;>simp at hy ⊢
     exact absurd rfl (hcell _ hm)
    subst hkf
    obtain ⟨c,hc'⟩:=I3.ok.has y (.inl (hfree _ hm rfl).1)
    exact ⟨c,by show cl.lookup y=_;rw [hcl1 y hm];exact hc'⟩
  .obtain ⟨o,e,_⟩:=T.obj _ _ st3 b hb
   exact Cne b o e
  .exact (f3 b hb).2.2.2.2.1 y c (hcle y c e).1 z
  .exact Nat.le_trans I3.ok.bsz I3.sz
  .rcases (f3 b hb).2.2.2.1 with z|z
   .exact I3.ok.noex b o e z
   .exact absurd (Nat.lt_of_lt_of_le (Heap.lt_size e) (Nat.le_trans I3.ok.bsz z)) (Nat.lt_irrefl _)
  .rcases List.mem_cons.mp (stk _ z) with z|z
   .exact (f3 b hb).2.1 z
   .exact (f3 b hb).2.2.1 z
 have inn:∀ v,(inner ix σ v)=some v::ix.map fun i=>(σ[i]?).getD none:=fun _=>rfl
 have I4:Inv (cxC X scope cl C (x::fr) s3 H3 fp pins) [] (none::ix.map fun i=>(σ[i]?).getD none) H3 { s3 with heap:=h4,toks:=s3.toks+([]:List (Str×Value)).length }:=by
  refine ⟨okC,rfl,I3.bare,Un.kept k4,⟨_,hns,fun j y v e1 e2 e3=>?_⟩,fun y c e=>?_,I3.hok.fresh (Nat.le_of_eq hC),fun y c e=>I3.freeC y c (hcle y c e).1,fun p hp=>?_,I3.hok.kept k4,?_⟩
  .match j,e1,e2 with
   | 0,e1,e2=>simp at e2
   | j+1,e1,e2 =>
    obtain ⟨i,hi1,hi2,hi3,hi4⟩:=hfr.get (j:=j) (y:=y) (by have e1':(x::fr)[j+1]?=some y:=e1;simpa using e1')
    have e2':σ[i]?=some (some v):=by
     have e2:(ix.map fun i=>(σ[i]?).getD none)[j]?=some (some v):=by simpa using e2
     rw [List.getElem?_map,hi1] at e2
     simp at e2
     cases z:σ[i]? with
     | none=>rw [z] at e2;simp at e2
     | some o=>rw [z] at e2;simp at e2;rw [e2]
    obtain ⟨m,_,hl⟩:=I3.loc
    obtain ⟨u,r,l⟩:=hl i y v hi2 e2' (.inr (.inl hi4))
    refine ⟨u,r,?_⟩
    rcases l with ⟨k,_⟩|⟨k,c,ec,z⟩
    .rw [hi4] at k;cases k
    .have hm:(y,NameKind.free)∈scope.names:=PySem.mem_of_lookup hi3
     refine .inr ⟨.inl ?_,c,by show cl.lookup y=_;rw [hcl1 y hm];exact ec,?_⟩
     .show (relabel scope X.env).names.lookup y=_
      rw [show (relabel scope X.env).names.lookup y=_ from yfF y scope.names,hi3]
      simp [hfn,hi4]
     .obtain ⟨o,ho,hd⟩:=z
      exact ⟨o,k4 _ _ ho,hd⟩
  .obtain ⟨v,o,ho,hd⟩:=I3.cell y c (hcle y c e).1
   exact ⟨v,o,k4 _ _ ho,hd⟩
  .have hp:p∈X.pn++pins:=by simpa [cxC] using hp
   obtain ⟨e,n,ne,nf,d⟩:=I3.pin p hp
   exact ⟨k4 _ _ e,n,Cne _ _ e,pinF p hp,d⟩
  .show (none::ix.map fun i=>(σ[i]?).getD none).length=(x::fr).length
   rw [List.length_cons,List.length_cons,List.length_map,hfr.len]
 have st4:tn 0 h4:=T.keep _ _ _ st3 fun b _ o e=>k4 b o e
 have f4:∀ b∈fp,b≠C/\b∉frs X.stack/\(∀ y c,cl.lookup y=some c->c≠b)/\∀ p∈(X.pn++pins)++([]:List (Addr×Obj)),p.1≠b:=fun b hb=>by
  obtain ⟨o,e,_⟩:=T.obj _ _ st3 b hb
  refine ⟨Cne b o e,fun z=>?_,fun y c e=>(f3 b hb).2.2.2.2.1 y c (hcle y c e).1,fun p hp=>(f3 b hb).2.2.2.2.2 p (by simpa using hp)⟩
  rcases List.mem_cons.mp (stk _ z) with z|z
  .exact (f3 b hb).2.1 z
  .exact (f3 b hb).2.2.1 z
 have stat:∀ {H':Hp},(∀ b∈fp,H' b=none)->∀ b∈fp,yzH (cxC X scope cl C (x::fr) s3 H3 fp pins) [] H' b:=fun hn b hb=>⟨hn b hb,(f4 b hb).1,(f4 b hb).2.1,.inl hb,(f4 b hb).2.2.1,(f4 b hb).2.2.2⟩
 have fin:∀ {σ':St}{H':Hp}{s':Shared},Inv (cxC X scope cl C (x::fr) s3 H3 fp pins) [] σ' H' s'->yzG iy (.ref D) σ H' D0.nx->compPost (model X.prog X.w) X.A X.xe (some (assign (.Name y py) X.env)) (fun _ s'=>SP X pins D0 .next s') (.ref D) C (.ok .next) s':=fun {σ' H' s'} I' q'=>by
  obtain ⟨m,hn,_⟩:=I'.loc
  have hCn:H' C=none:=I'.free
  have U:=I'.base
  have U':Un (frs X.stack) fp H3 H' s3.heap s'.heap:=⟨U.keep,U.slot,U.free,U.there,U.tups,U.frzs,U.tbls⟩
  have IX:Inv X pins σ H' s':=I3.call' (s':=s') (by show s'.os=s3.os;exact I'.os) U' I'.hok I'.bare fun b hb=>⟨(f3 b hb).2.2.2.1,(f3 b hb).2.1,(f3 b hb).2.2.2.2.1,(f3 b hb).2.2.2.2.2⟩
  have hCf:yzH X pins H' C:=I3.fpOk (Nat.le_of_eq hC) hCn
  obtain ⟨o,es,ep,eo,r1,r2,r3⟩:=hn
  have IP:=IX.pinned (fp:=[C]) (fun b hb=>by have e:b=C:=(by simpa using hb);subst e;exact hCf) (fun b hb=>by have e:b=C:=(by simpa using hb);subst e;exact ⟨o,eo,fun v z=>by rw [r1] at z;cases z⟩)
  refine thn (ytt hN hyi hyx hyf _ s' σ H' (.ref D) (.ref D) D0.nx IP rfl q') fun _ s2 ⟨σ2,H2',I2',q2'⟩=>?_
  have pc:=I2'.pin (C,o) (List.mem_append_right _ (List.mem_append_right _ (ygM (by simp) eo)))
  exact ⟨m,⟨o,es,ep,pc.1,r1,r2,r3⟩,fun h' sb=>⟨σ2,H2',I2'.unpinned.turned (t':=s2.toks) (fun b ob hb e=>(sb.2 b hb).trans e) pc.2.1 hCf.2.1 hCf.2.2.2.1 hCf.2.2.2.2.1 hCf.2.2.2.2.2,q2'⟩⟩
 have loop:∀ s5:Shared,s5={ s3 with heap:=h4,toks:=s3.toks+([]:List (Str×Value)).length } ->
   codeAny (model X.prog X.w) X.A (.compLoop (.ListComp elt [⟨.Name x px,iter,[],0⟩] scope cpos) 0 (.ref it) (.ref D) (compEnvC scope cl C X.env)) (compPost (model X.prog X.w) X.A X.xe (some (assign (.Name y py) X.env)) (fun _ s'=>SP X pins D0 .next s') (.ref D) C) s5:=by
  rintro s5 rfl
  refine codeAny_loop rfl (fun n s'=>∃ i o H',Inv (cxC X scope cl C (x::fr) s3 H3 fp pins) [] (o::ix.map fun i=>(σ[i]?).getD none) H' s'/\tn i s'.heap/\(∀ b∈fp,H' b=none)/\W i n H') ?_ m0 ⟨0,none,H3,I4,st4,fun b hb=>(f3 b hb).1,w0⟩
  rintro n s6 ⟨i,o,H6,I6,st6,fr6,w6⟩
  show wpAny _ _ ((compTurn (.ListComp elt [⟨.Name x px,iter,[],0⟩] scope cpos) 0 (.ref it) (.ref D) (compEnvC scope cl C X.env)).onRaise (fun x=>do noteFrame x (compEnvC scope cl C X.env);theTreesLotGoes x)) _ _ s6
  refine wpAny_noted ?_
  rw [compTurn_list1]
  rcases turn i n H6 w6 with ⟨stop,qn⟩|⟨go,step⟩
  .refine wpAny_bind (wpAny_standAt (wpAny_bind (thn (T.done (cxC X scope cl C (x::fr) s3 H3 fp pins) rfl rfl rfl hc i [] s6 _ H6 _ I6 (stat fr6) st6 stop) fun r s7 ⟨hr,I7⟩=>?_)))
   subst hr
   exact wpAny_pure (fin I7 qn)
  .refine wpAny_bind (wpAny_standAt (wpAny_bind (thn (T.item (cxC X scope cl C (x::fr) s3 H3 fp pins) rfl rfl rfl hc i [] s6 _ H6 _ I6 (stat fr6) st6 go) fun r s7 ⟨u,hr,h7⟩=>?_)))
   subst hr
   refine wpAny_bind (thn h7 fun _ s8 ⟨y,H8,I8,r8,y8,st8,fr8⟩=>?_)
   have I8':=I8.pinned (stat fr8) (T.obj _ _ st8)
   have hx':Loc (cxC X scope cl C (x::fr) s3 H3 fp pins).env.scope x:=.inl (lookup_relabel_local hx)
   refine wpAny_bind (wpAny_mono (ytt (X:=cxC X scope cl C (x::fr) s3 H3 fp pins) (i:=0) (x:=x) (pos:=px) hnd rfl hx' (.inr (lookup_relabel_local hx)) _ s8 _ H8 y u (fun σ9 H9=>σ9=inner ix σ y/\H9=H8) I8' r8 ⟨rfl,rfl⟩) (fun _ s9 ⟨σ9,H9,I9,e9,e9'⟩=>?_) fun _ _ f=>f.elim)
   subst e9 e9'
   refine wpAny_bind (wpAny_bind (wpAny_mono (he cl C s3 H3 fp pins _ s9 _ _ _ I9 (step y _ y8)) (fun v s10 ⟨z,H10,I10,r10,acc,a10,l10,m',hm',w10⟩=>?_) fun _ _ f=>f.elim))
   refine wpAny_bind (wpAny_mono (ynZ (X:=cxC X scope cl C (x::fr) s3 H3 fp pins) _ s10 _ H10 (.ref D) [z] (.ref D) [v] (fun _ H11=>H11=upd H10 D (.lst (acc++[z]))) I10 rfl (.cons r10 .nil) ⟨D,acc,z,rfl,rfl,a10,l10,rfl⟩) (fun _ s11 ⟨_,H11,I11,_,e11⟩=>?_) fun _ _ f=>f.elim)
   subst e11
   refine wpAny_pure (wpAny_pure ⟨rfl,m',hm',i+1,some y,_,I11.unpinned,T.keep _ _ _ st8 fun b hb o e=>(I11.pin (b,o) (List.mem_append_right _ (List.mem_append_right _ (ygM hb e)))).1,fun b hb=>?_,w10⟩)
   obtain ⟨o,e,d⟩:=T.obj _ _ st8 b hb
   exact (I11.pin (b,o) (List.mem_append_right _ (List.mem_append_right _ (ygM hb e)))).2.1
 exact codeAny_compStart_list (loop _ rfl) (T.self X.A 0 _ _ _ st4 (loop _ rfl))
end L2
namespace PX
open PySem L2 PySem.Spec PyProof.Rows
variable {X:Cx}{A:Nat->Addr}{x y:Str}{py spos:Pos}{iy:Nat}
theorem yFf {elt iter:Expr}{px:Pos}{scope:Scope}{cpos:Pos}{it:XA}{xe:XE}(ix:List Nat) (fr:List Str) (hc:X.calm=true) (hi:ZI X A (.Name x px) iter it) (hfr:FrOk X scope ix fr)
  (he:∀ (cl:List (Str×Addr)) (C:Addr) (s₃:Shared) (H₃:Hp) (fp:List Addr) (pins:List (Addr×Obj)),ZE (cxC X scope cl C (x::fr) s₃ H₃ fp pins) A elt xe)
  (hnd:(x::fr).Nodup) (hkind:scope.kind=.function) (hcell:∀ y∈scope.names,y.2≠.cell) (hnames:∀ y∈scope.names,y.2=.local->scope.names.lookup y.1=some .local) (hfree0:∀ y∈scope.names,y.2=.free->y.1∈fr) (hx:scope.names.lookup x=some .local) (hs:∀ v,foldedSetIterable iter X.env v=pure v)
  (hN:X.N.Nodup) (hyi:X.N[iy]?=some y) (hyx:Loc X.env.scope y) (hyf:X.fn y=true\/X.env.scope.names.lookup y=some .local) (hsw:swapsWith (.ListComp elt [⟨.Name x px,iter,[],0⟩] scope cpos) (some (.Name y py)) spos.line X.env=pure true):ZS X A (.Assign [.Name y py] (.ListComp elt [⟨.Name x px,iter,[],0⟩] scope cpos) spos) (ydy (xFz (ylM it ix xe)) (yt iy)) :=
 wS (yIm ix fr hc hi.of hfr (te:=cE (ckX X A) xe) (fun cl C s₃ H₃ fp pins=>(he cl C s₃ H₃ fp pins).of) hnd hkind hcell hnames hfree0 hx hs hN hyi hyx hyf hsw) (yBX (yGh (yyW (K:=ckX X A) ix sI sE)) (yqM iy))
end PX
namespace PX
open PySem L2 PySem.Spec PyProof.Rows KasS PXS
section
variable {X:Cx}{A:Nat->Addr}
theorem yqJ {vs:List Value}{ns:List Int}(h:IntsAre vs ns):Vals (ns.map V.int) vs:=by
 induction h with
 | nil=>exact .nil
 | cons n t _ ih=>exact .cons ⟨t,rfl⟩ ih
variable {a:Expr}{xa:XE}{aa:XA}{pos p:Pos}{x:Str}{n:Nat}
end
end PX
namespace PX
open PySem L2 PySem.Spec PyProof.Rows KasS PXS
section
variable {X:Cx}{A:Nat->Addr}{tg a:Expr}{p pos:Pos}{xa:XE}
end
end PX
namespace PX
open PySem L2 PySem.Spec PyProof.Rows
section
variable {X:Cx}{A:Nat->Addr}
variable {pos p apos:Pos}{x m:Str}{e:Expr}{es:List Expr}{aa:XA}{n:Nat}
theorem yLa {a:Addr}{ss:List Str}(nm:Nm x) (hg:Gl X x) (hm:X.mg x=some (.ref a)) (hk:KTp X.K a (ss.map V.str)):ZE X A (.Name x pos) (xC (.tup (ss.map PV.str))):=wE (yBN hg hm nm.d) (yEY (K:=ckX X A) hk)
end
section
variable {P:Program}{w:World}{K:PySem.W.Frag}{mg:Str->Option Value}{base:Heap}{A:Nat->Addr}
end
end PX
namespace PX
open PySem L2 PySem.Spec PyProof.Rows
section
variable {X:Cx}{A:Nat->Addr}
end
end PX
namespace PX
open PySem L2 PySem.Spec PyProof.Rows
section
variable {prog:Program}{w:World}{A:Around}{E:Value->Shared->Prop}{s:Shared}
end
section
variable {X:Cx}{A:Nat->Addr}
end
end PX
namespace PX
open PySem L2 PySem.Spec PyProof.Rows
open Builtin Builtin.Str in
section
variable {prog:Program}{w:World}{A:Around}{E:Value->Shared->Prop}{s:Shared}
theorem yAc {x y:Str}{t u:Tok}{Q:Value->Shared->Prop}(hy:(y.length == 0)=false) (hz:x.length+2<=sizeLine)
  (h:∀ (l:List (Str×Tok)) (k:Nat),l.map (·.1)=Txt.split x y->Q (.ref s.heap.objs.size) { s with heap:=s.heap.push { cls:=.type "list",data:=.seq (strValues l).toArray },toks:=k }) :
  wpAny (model prog w) A (call (.builtin "str.split") [.str x t,.str y u]) Q E s:=by
 have h2:(partsBetween x (occurrences x y 0 x.length (x.length+1)) y.length).length<=sizeLine:=by
  have:=StrLaws.occ_length_le x y 0 x.length (x.length+1)
  rw [length_partsBetween]
  omega
 by_cases c1:(decide (x.length<y.length) || decide (strKind x<strKind y))=true
 .exact call_meets F.slot_str_split (typeIs_str _ _ _) F.entry_str_split (F.args_str_split_2 _ _) (meets_str_split_cannot_occur x y t u c1) (h [(x,t)] s.toks (if_pos c1).symm)
 .have c1':(decide (x.length<y.length) || decide (strKind x<strKind y))=false:=by simpa using c1
  by_cases c2:(occurrences x y 0 x.length (x.length+1)).isEmpty=true
  .exact call_meets F.slot_str_split (typeIs_str _ _ _) F.entry_str_split (F.args_str_split_2 _ _) (meets_str_split_not_found x y t u c1' hy c2) (h [(x,t)] s.toks ((if_neg c1).trans (if_pos c2)).symm)
  .refine call_meets F.slot_str_split (typeIs_str _ _ _) F.entry_str_split (F.args_str_split_2 _ _) (meets_str_split_sep x y t u c1' hy (by simpa using c2) (by omega) h2) ?_
   show wants Q E _ { s with toks:=_,heap:=s.heap.push { cls:=.type "list",data:=.seq (strsFrom s.toks (partsBetween x (occurrences x y 0 x.length (x.length+1)) y.length)).toArray } }
   rw [strsFrom_eq]
   exact h _ _ ((numbered_texts _ _).trans ((if_neg c1).trans (if_neg c2)).symm)
end
theorem yzl (z:Str):Txt.split z " " = yCq z:=by
 have e:(" ":Str)=⟨#[32]⟩:=by rfl'
 have h:=yqU (Txt.split z " ") (fun q=>by have:=split_pos z " ";rw [q] at this;simp at this) (by rw [e];exact StrLaws.split_free z 32)
 rw [StrLaws.join_split] at h
 exact h.symm
theorem yvO:∀ (l:List (Str×Tok)),Vals ((l.map (·.1)).map V.str) (strValues l)
 | []=>.nil
 | (_,t)::l=>.cons ⟨t,rfl⟩ (yvO l)
section
variable {X:Cx}{A:Nat->Addr}
theorem yCx:CallR X (.type "str") yKR:=call_str_int.or fun pins s σ H xs us Q I r h=>by
 obtain ⟨x,rfl,q⟩:=h
 obtain ⟨u,rfl,t,rfl⟩:=vals1 r
 exact PySem.P.str_of_str ⟨.str x,H,I,⟨t,rfl⟩,q⟩
theorem yFg:MtR X "str.split" yGw:=by
 intro pins s σ H x xs v us Q I rx rv h
 obtain ⟨z,rfl,rfl,hz,q⟩:=h
 obtain ⟨t,rfl⟩:=rx
 obtain ⟨u,rfl,ru⟩:=vals1 rv
 obtain ⟨t',rfl⟩:=ru
 have hs:z.length+2<=sizeLine:=by simp only [PySem.sizeLine_eq];omega
 refine yAc (by decide) hs fun l k e=>?_
 have e2:l.map (·.1)=yCq z:=e.trans (yzl z)
 have e3:=split_le z " "
 rw [yzl] at e3
 refine ⟨.ref s.heap.objs.size,_,I.laid (t':=k) (o:=.lst ((yCq z).map V.str)) (fun b o e=>Heap.get?_push_of_some _ e) (Nat.le_refl _) ?_,rfl,q _ (I.hok.fresh (Nat.le_refl _))⟩
 exact ⟨by rw [List.length_map];exact Nat.le_trans e3 hs,strValues l,0,e2 ▸ yvO l,Heap.get?_push_size _ rfl⟩
end
section
variable {X:Cx}{pins:List (Addr×Obj)}{σ:L2.St}{H:Hp}{s:Shared}{h':Heap}
theorem yCy {t':Nat}{fp:List Addr}(I:Inv X pins σ H s) (k:∀ b o,b∉fp->s.heap.get? b=some o->h'.get? b=some o) (hf:∀ b∈fp,yzH X pins H b):Inv X pins σ H { s with heap:=h',toks:=t' }:=by
 have nit:∀ b u,H b=some u->b∉fp:=fun b u e z=>by rw [(hf b z).1] at e;cases e
 refine I.step (g':=s.gens) (d':=s.drawn) (ch:=fp) (fun b hb=>?_) (fun b o _ _ hc e _=>k b o hc e) (fun b o _ _ hc e _=>⟨o.slots,k b o hc e⟩) (fun _ _ _ _ n=>n)
  (fun b o hc e=>⟨o,k b o hc e⟩) (fun _ _ e=>e) (fun _ _ _ e=>e) (fun b ps e=>⟨#[],by rw [e];simp⟩) (fun m hm=>?_) (fun b u e=>?_) I.bare
 .obtain ⟨f0,f1,f2,f3,f4,f5⟩:=hf b hb
  exact ⟨f3,f1,f4,f5⟩
 .obtain ⟨o,es,ep,ho,r⟩:=hm
  exact ⟨o,es,ep,k _ o (fun z=>(hf _ z).2.1 rfl) ho,r⟩
 .refine (I.hok b u e).stay (fun c v hc q=>k c v ?_ q) (fun _ q=>q) fun _ _ q=>q
  rcases hc with z|z
  .rw [z];exact nit b u e
  .exact nit c _ z
end
section
noncomputable def ZSt (n a b:Addr) (i:Nat) (h:Heap):Prop:=IsZip h (n+4) (n+2) (n+3) .none/\IsPair h (n+2) (.ref n) (.ref (n+1))/\(∃ c d,IsPair h (n+3) c d)/\h.IsListIter n a i/\h.IsListIter (n+1) b i
abbrev zfp (n:Addr):List Addr:=[n+4,n+2,n+3,n,n+1]
theorem apN (n:Nat):n+2≠n+4/\n+3≠n+4/\n≠n+4/\n+1≠n+4/\n+2≠n+3/\n+2≠n/\n+2≠n+1/\n+3≠n/\n+3≠n+1/\n≠n+1:=by omega
theorem ZSt.ap {n a b:Addr}{i:Nat}{h:Heap}{xs ys:Array Value}(st:ZSt n a b i h) (ha:h.IsList a xs) (hb:h.IsList b ys):ZipApart (n+4) (n+2) (n+3) n (n+1) a b:=by
 obtain ⟨z0,z1,⟨c,d,z2⟩,⟨o3,e3,c3,d3⟩,⟨o4,e4,c4,d4⟩⟩:=st
 obtain ⟨oa,ea,ca,_⟩:=ha
 obtain ⟨ob,eb,cb,_⟩:=hb
 have ne:∀ {p q:Addr}{o o':Obj},h.get? p=some o->h.get? q=some o'->o.cls≠o'.cls->p≠q:=fun e e' c z=>by subst z;rw [e] at e';cases e';exact c rfl
 obtain ⟨p0,p1,p2,p3,p4,p5,p6,p7,p8,p9⟩:=apN n
 exact ⟨p0,p1,p2,p3,p4,p5,p6,p7,p8,p9,
  ne ea z0 (by rw [ca];show Value.type "list"≠Value.type "zip";decide),ne ea z2 (by rw [ca];show Value.type "list"≠Value.type "tuple";decide),ne ea e3 (by rw [ca,c3];decide),ne ea e4 (by rw [ca,c4];decide),
  ne eb z0 (by rw [cb];show Value.type "list"≠Value.type "zip";decide),ne eb z2 (by rw [cb];show Value.type "list"≠Value.type "tuple";decide),ne eb e3 (by rw [cb,c3];decide),ne eb e4 (by rw [cb,c4];decide)⟩
theorem ZSt.keep {n a b:Addr}{i:Nat}{h h':Heap}(st:ZSt n a b i h) (k:∀ c∈zfp n,∀ o,h.get? c=some o->h'.get? c=some o):ZSt n a b i h':=by
 obtain ⟨z0,z1,⟨c,d,z2⟩,z3,z4⟩:=st
 exact ⟨k _ (by simp) _ z0,k _ (by simp) _ z1,⟨c,d,k _ (by simp) _ z2⟩,z3.at fun o e=>k _ (by simp) o e,z4.at fun o e=>k _ (by simp) o e⟩
theorem yFh {P:Program}{w:World}{K:PySem.W.Frag}{elts:List Expr}{x1} {tp:Pos}(a b n:Addr):Turn P w K (.Tuple elts x1 tp) (Itz K a b) (zfp n) (n+4) (ZSt n a b) where
 mem:=by simp
 obj:=fun i h st c hc=>by
  obtain ⟨z0,z1,⟨c,d,z2⟩,⟨o3,e3,c3,d3⟩,⟨o4,e4,c4,d4⟩⟩:=st
  simp only [zfp,List.mem_cons,List.not_mem_nil,or_false] at hc
  rcases hc with rfl|rfl|rfl|rfl|rfl
  .exact ⟨_,z0,fun v z=>by have z':Data.fields _=Data.cell v:=z;cases z'⟩
  .exact ⟨_,z1,fun v z=>by have z':Data.seq _ _=Data.cell v:=z;cases z'⟩
  .exact ⟨_,z2,fun v z=>by have z':Data.seq _ _=Data.cell v:=z;cases z'⟩
  .exact ⟨_,e3,fun v z=>by rw [d3] at z;cases z⟩
  .exact ⟨_,e4,fun v z=>by rw [d4] at z;cases z⟩
 keep:=fun i h h' st k=>st.keep k
 item:=by
  intro X hP hw hK hc i pins s σ H E I hf st hg
  subst hP hw hK
  obtain ⟨xs,ys,x,y,hx,hy,ex,ey⟩:=hg
  obtain ⟨its,rv,p,hz⟩:=I.list hx
  obtain ⟨its',rv',p',hz'⟩:=I.list hy
  obtain ⟨u,hu,ru⟩:=rv.get ex
  obtain ⟨u',hu',ru'⟩:=rv'.get ey
  have D:=st.ap p.isList p'.isList
  obtain ⟨z0,z1,⟨c0,d0,z2⟩,z3,z4⟩:=st
  refine wpAny_pyNext_zip_item D z0 z1 z2 z3 z4 p.isList p'.isList (x:=u) (y:=u') (by simpa using hu) (by simpa using hu') fun h' a1 a2 a3 a4 a5 a6 kk=>⟨_,rfl,?_⟩
  refine wpAny_letOwnedTupleGo_zip (s:={ s with heap:=h' }) a1 fun h'' d1 sb=>?_
  have fr:H s.heap.objs.size=none:=I.hok.fresh (Nat.le_refl _)
  have lts:∀ c∈zfp n,c≠s.heap.objs.size:=by
   intro c hc
   simp only [zfp,List.mem_cons,List.not_mem_nil,or_false] at hc
   rcases hc with rfl|rfl|rfl|rfl|rfl
   .exact Nat.ne_of_lt (Heap.lt_size z0)
   .exact Nat.ne_of_lt (Heap.lt_size z1)
   .exact Nat.ne_of_lt (Heap.lt_size z2)
   .obtain ⟨_,e,_⟩:=z3;exact Nat.ne_of_lt (Heap.lt_size e)
   .obtain ⟨_,e,_⟩:=z4;exact Nat.ne_of_lt (Heap.lt_size e)
  have I1:Inv X pins σ (upd H s.heap.objs.size (.tup [x,y])) { s with heap:=s.heap.push { cls:=.type "tuple",data:=.seq #[u,u'] } } :=
   I.laid (t':=s.toks) (fun b o e=>Heap.get?_push_of_some _ e) (Nat.le_refl _) ⟨Nat.le_of_lt (yvj (show [x,y].length<=1000 by simp)),[u,u'],.cons ru (.cons ru' .nil),⟨_,Heap.get?_push_size _ rfl,rfl,_,rfl⟩⟩
  have hf':∀ c∈zfp n,yzH X pins (upd H s.heap.objs.size (.tup [x,y])) c:=fun c hc=>⟨by rw [ybz (lts c hc)];exact (hf c hc).1,(hf c hc).2⟩
  have n4:s.heap.objs.size≠n+4:=fun z=>lts (n+4) (by simp) z.symm
  have I2:Inv X pins σ (upd H s.heap.objs.size (.tup [x,y])) { s with heap:=h'' }:=yCy (s:={ s with heap:=s.heap.push { cls:=.type "tuple",data:=.seq #[u,u'] } }) (t':=s.toks) I1 (fun c o hc e=>by
   have hc':c≠n+4/\c≠n+2/\c≠n+3/\c≠n/\c≠n+1:=by simpa [zfp] using hc
   rw [sb.2 c hc'.1]
   by_cases q:c=s.heap.objs.size
   .subst q
    rw [show (s.heap.push { cls:=.type "tuple",data:=.seq #[u,u'] }).get? s.heap.objs.size=_ from Heap.get?_push_size _ rfl] at e
    cases e
    exact a5
   .have hlt:=Heap.lt_size e
    have hlt:c<s.heap.objs.size:=by
     have:c<(s.heap.push { cls:=.type "tuple",data:=.seq #[u,u'] }).objs.size:=hlt
     rw [Heap.size_push] at this
     exact Nat.lt_of_le_of_ne (Nat.le_of_lt_succ this) q
    refine kk c o hc'.1 hc'.2.2.1 hc'.2.2.2.1 hc'.2.2.2.2 ?_
    obtain ⟨e1,e2⟩:=Heap.get?_some_iff.mp e
    refine Heap.get?_some_iff.mpr ⟨?_,e2⟩
    have hne:=Nat.ne_of_lt hlt
    revert e1
    cases hs:s.heap
    rw [hs] at hne
    simp [Heap.push,Array.getElem?_push,hne]) hf'
  have z1':IsPair h'' (n+2) (.ref n) (.ref (n+1)):=sb.extBut _ _ D.TIz (kk _ _ D.TIz D.TITO D.TIi1 D.TIi2 z1)
  exact ⟨.ref s.heap.objs.size,_,I2,rfl,⟨_,x,y,fr,rfl,rfl,fun zs hs=>by rw [I.list_inj hs hx];exact ex,fun zs hs=>by rw [I.list_inj hs hy];exact ey⟩,
   ⟨d1,z1',⟨_,_,sb.extBut _ _ D.TOz a2⟩,a3.extBut sb.extBut D.i1z,a4.extBut sb.extBut D.i2z⟩,fun c hc=>(hf' c hc).1⟩
 done:=by
  intro X hP hw hK hc i pins s σ H E I hf st hg
  subst hP hw hK
  obtain ⟨xs,ys,hx,hy,hl⟩:=hg
  obtain ⟨its,rv,p,hz⟩:=I.list hx
  obtain ⟨its',rv',p',hz'⟩:=I.list hy
  have D:=st.ap p.isList p'.isList
  obtain ⟨z0,z1,⟨c0,d0,z2⟩,z3,z4⟩:=st
  have hl':=rv.length
  exact wpAny_pyNext_zip_end (I.ok.hd hc) D z0 z1 z2 z3 z4 p.isList p'.isList (.inl (by simp;omega)) fun h' kk=>⟨rfl,yCy (t':=s.toks) I (fun c o hc e=>by
   have hc':c≠n+4/\c≠n+2/\c≠n+3/\c≠n/\c≠n+1:=by simpa [zfp] using hc
   exact kk c o hc'.1 hc'.2.2.1 hc'.2.2.2.1 hc'.2.2.2.2 e) hf⟩
 self:=fun _ _ _ _ _ st h=>wpAny_pyIter_zip st.1 h
theorem yLb:bootBuiltins "zip" = some (.type "zip"):=by rfl'
variable {X:Cx}{A:Nat->Addr}{elts:List Expr}{x1:Nat}{tp p pos:Pos}{a b:Expr}{aa:XA}{n:Nat}
theorem yLc {ta:TA}(hg:Gl X "zip") (hm:X.mg "zip" = none) (ha:PA X [a,b] ta) (hs:starEach [a,b] X.env=[(false,eval a X.env),(false,eval b X.env)]) (hs2:starEach [b] X.env=[(false,eval b X.env)]) :
  PI X (.Tuple elts x1 tp) (.Call (.Name "zip" p) [a,b] [] pos) (yOL X.K ta):=by
 intro pins s σ H R I h
 refine Call_ (yuY I hg hm yLb (PyProof.Rows.callWith_type1 (thn (ha pos pins s σ H _ I h) fun us s1 ⟨vs,H1,I1,r1,q1⟩=>?_) (by rw [hs,hs2]) (by rw [hs2];rfl)))
 obtain ⟨l1,l2,e,⟨xs,hx⟩,⟨ys,hy⟩,q⟩:=q1
 subst e
 cases r1 with
 | cons r rr =>
  cases rr with
  | cons r' rr =>
   cases rr
   cases r
   cases r'
   obtain ⟨its,rv,p,hz⟩:=I1.list hx
   obtain ⟨its',rv',p',hz'⟩:=I1.list hy
   refine call_zip_2 p.isList p'.isList fun h' c1 c2 c3 c4 c5 c6 kk=>?_
   have I2:Inv X pins σ H1 { s1 with heap:=h' }:=I1.kept (t':=s1.toks) kk
   refine wpAny_pyIter_zip (s:={ s1 with heap:=h' }) c1 ⟨_,zfp s1.heap.objs.size,_,_,H1,rfl,I2,yFh l1 l2 _,⟨c1,c2,⟨_,_,c3⟩,c4,c5⟩,fun c hc=>?_,q⟩
   have:s1.heap.objs.size<=c:=by
    simp only [zfp,List.mem_cons,List.not_mem_nil,or_false] at hc
    rcases hc with rfl|rfl|rfl|rfl|rfl
    .exact Nat.le_add_right _ _
    .exact Nat.le_add_right _ _
    .exact Nat.le_add_right _ _
    .exact Nat.le_refl _
    .exact Nat.le_add_right _ _
   obtain ⟨f0,f1,f2,f3,f4,f5⟩:=I1.fpOk this (I1.hok.fresh this)
   exact ⟨f0,f1,f2,f3,f4,f5⟩
theorem yIn {rest:List Stmt}{s:XS}{y:XG}{q:Pos}(hp:PassesOwn (model X.prog X.w) X.A X.env X.xe) (hc:X.calm=true) (hgl:Gl X "zip") (hm:X.mg "zip" = none) (ha:ZA X A [a,b] n aa) (hs1:starEach [a,b] X.env=[(false,eval a X.env),(false,eval b X.env)]) (hs2:starEach [b] X.env=[(false,eval b X.env)])
  (hg:ZG X A (.Tuple elts x1 tp) y) (hb:ZSs X A rest s) (hs:∀ x,foldedSetIterable (.Call (.Name "zip" p) [a,b] [] pos) X.env x=pure x):ZS X A (.For (.Tuple elts x1 tp) (.Call (.Name "zip" p) [a,b] [] pos) rest [] q) (ysZ (xIZ aa) y s) :=
 wS (yFT hp hc (yLc hgl hm ha.of hs1 hs2) hg.of hb.of hs) (yFa (K:=ckX X A) (yEZ sA) sG sS)
end
section
variable {X:Cx}{A:Nat->Addr}{pos:Pos}
theorem yLd {i j n:Nat}{x y:Str}{a b:Expr}{aa:XA}{px py pt:Pos}{kt k2 pt2} (hc:X.calm=true) (hN:X.N.Nodup) (hi:X.N[i]?=some x) (hj:X.N[j]?=some y) (hij:i≠j) (hx:X.env.scope.names.lookup x=some .local) (hy:X.env.scope.names.lookup y=some .local) (ha:ZA X A [a,b] n aa)
  (hw:swappedStores [.Tuple [.Name x px,.Name y py] kt pt] (.Tuple [a,b] k2 pt2) X.env=pure (some [x,y])) (hs:swapsWithSole [.Tuple [.Name x px,.Name y py] kt pt] (.Tuple [a,b] k2 pt2) pos.line X.env=pure false) :
  ZS X A (.Assign [.Tuple [.Name x px,.Name y py] kt pt] (.Tuple [a,b] k2 pt2) pos) (ydy (ysY aa) (yBc 2 (ylL (yt i) (ylL (yt j) yDI)))):=wS (yJC hc hN hi hj hij hx hy ha.of hw hs) (yIh (K:=ckX X A) sA)
end
end PX
namespace PX
open PySem L2 PySem.Spec PyProof.Rows
section
variable {X:Cx}{A:Nat->Addr}{a:Expr}{es:List Expr}{p pos:Pos}{x:Str}{aa:XA}{n lv:Nat}{f:Addr}{fd:FuncData}{ps:List Str}{fn:Fn}
end
end PX
namespace My
open PySem L2 PX
theorem yOM:("":Str).length=0:=by rfl'
theorem yLe:(" ":Str).length=1:=by rfl'
theorem yLf:(" )":Str).length=2:=by rfl'
theorem yON:(" ; ":Str).length=3:=by rfl'
theorem yLg:(" else ":Str).length=6:=by rfl'
theorem yLh:(" or ":Str).length=4:=by rfl'
theorem yOO:("(":Str).length=1:=by rfl'
theorem yLi:("( ":Str).length=2:=by rfl'
theorem yOP:(")":Str).length=1:=by rfl'
theorem yIo:("abcdefgh":Str).length=8:=by rfl'
theorem yIp:("abcdefghijklmnopqrstuvwxyz":Str).length=26:=by rfl'
theorem yNN:("either":Str).length=6:=by rfl'
theorem yIq:("either ":Str).length=7:=by rfl'
theorem yNO:("else":Str).length=4:=by rfl'
theorem yNP:("if":Str).length=2:=by rfl'
theorem yIr:("if ":Str).length=3:=by rfl'
theorem yNQ:("let":Str).length=3:=by rfl'
theorem yNR:("on":Str).length=2:=by rfl'
theorem yNS:("or":Str).length=2:=by rfl'
theorem yNT:("put":Str).length=3:=by rfl'
theorem yNU:("take":Str).length=4:=by rfl'
theorem yNV:("throw":Str).length=5:=by rfl'
theorem yNW:("try":Str).length=3:=by rfl'
theorem yNX:("wait":Str).length=4:=by rfl'
theorem yGy {f:Nat->Fn}{h:AH}:yjb "long" f (.ins 0 [] []) h=f 0 [.ins 0 [] []] h:=ycj (by rfl')
theorem yFi {f:Nat->Fn}{h:AH}:yjb "shown" f (.ins 0 [] []) h=f 0 [.ins 0 [] []] h:=ycj (by rfl')
theorem yxL {v0 v1:PV}{h:AH}:ynV [1,2,3,4,5,7,8] "slot" (.ins 1 ["slot","number"] [v0,v1]) h=some (v0,h):=ycD (by decide) (by rfl') (by rw [show List.idxOf ("slot":Str) ["slot","number"]=0 by rfl'];rfl)
theorem ytN {v0 v1:PV}{h:AH}:ynV [1] "number" (.ins 1 ["slot","number"] [v0,v1]) h=some (v1,h):=ycD (by decide) (by rfl') (by rw [show List.idxOf ("number":Str) ["slot","number"]=1 by rfl'];rfl)
theorem yIs {v0 v1:PV}{f:Nat->Fn}{h:AH}:yjb "long" f (.ins 1 ["slot","number"] [v0,v1]) h=f 1 [.ins 1 ["slot","number"] [v0,v1]] h:=ycj (by rfl')
theorem yGz {v0 v1:PV}{f:Nat->Fn}{h:AH}:yjb "shown" f (.ins 1 ["slot","number"] [v0,v1]) h=f 1 [.ins 1 ["slot","number"] [v0,v1]] h:=ycj (by rfl')
theorem yIt {x:PV}{ρ:PSt}{h:AH}:yzY [1,2,3,4,5,7,8] 0 "slot" (.own (.ins 1 [] [])::ρ) x h=some (.nx (.own (.ins 1 ["slot"] [x])::ρ),h):=ynd (by decide) (by decide) (by rfl')
theorem ysp {v0 v1 v2 v3:PV}{h:AH}:ynV [2] "word" (.ins 2 ["word","slot","one","other"] [v0,v1,v2,v3]) h=some (v0,h):=ycD (by decide) (by rfl') (by rw [show List.idxOf ("word":Str) ["word","slot","one","other"]=0 by rfl'];rfl)
theorem ysq {v0 v1 v2 v3:PV}{h:AH}:ynV [1,2,3,4,5,7,8] "slot" (.ins 2 ["word","slot","one","other"] [v0,v1,v2,v3]) h=some (v1,h):=ycD (by decide) (by rfl') (by rw [show List.idxOf ("slot":Str) ["word","slot","one","other"]=1 by rfl'];rfl)
theorem ytO {v0 v1 v2 v3:PV}{h:AH}:ynV [2] "one" (.ins 2 ["word","slot","one","other"] [v0,v1,v2,v3]) h=some (v2,h):=ycD (by decide) (by rfl') (by rw [show List.idxOf ("one":Str) ["word","slot","one","other"]=2 by rfl'];rfl)
theorem yqZ {v0 v1 v2 v3:PV}{h:AH}:ynV [2] "other" (.ins 2 ["word","slot","one","other"] [v0,v1,v2,v3]) h=some (v3,h):=ycD (by decide) (by rfl') (by rw [show List.idxOf ("other":Str) ["word","slot","one","other"]=3 by rfl'];rfl)
theorem yDM {v0 v1 v2 v3:PV}{f:Nat->Fn}{h:AH}:yjb "long" f (.ins 2 ["word","slot","one","other"] [v0,v1,v2,v3]) h=f 2 [.ins 2 ["word","slot","one","other"] [v0,v1,v2,v3]] h:=ycj (by rfl')
theorem yCz {v0 v1 v2 v3:PV}{f:Nat->Fn}{h:AH}:yjb "shown" f (.ins 2 ["word","slot","one","other"] [v0,v1,v2,v3]) h=f 2 [.ins 2 ["word","slot","one","other"] [v0,v1,v2,v3]] h:=ycj (by rfl')
theorem yvP {v0 v1:PV}{h:AH}:ynV [1,2,3,4,5,7,8] "slot" (.ins 3 ["slot","place"] [v0,v1]) h=some (v0,h):=ycD (by decide) (by rfl') (by rw [show List.idxOf ("slot":Str) ["slot","place"]=0 by rfl'];rfl)
theorem ytP {v0 v1:PV}{h:AH}:ynV [3,4] "place" (.ins 3 ["slot","place"] [v0,v1]) h=some (v1,h):=ycD (by decide) (by rfl') (by rw [show List.idxOf ("place":Str) ["slot","place"]=1 by rfl'];rfl)
theorem yGA {v0 v1:PV}{f:Nat->Fn}{h:AH}:yjb "long" f (.ins 3 ["slot","place"] [v0,v1]) h=f 3 [.ins 3 ["slot","place"] [v0,v1]] h:=ycj (by rfl')
theorem yFj {v0 v1:PV}{f:Nat->Fn}{h:AH}:yjb "shown" f (.ins 3 ["slot","place"] [v0,v1]) h=f 3 [.ins 3 ["slot","place"] [v0,v1]] h:=ycj (by rfl')
theorem yvQ {v0 v1:PV}{h:AH}:ynV [3,4] "place" (.ins 4 ["place","slot"] [v0,v1]) h=some (v0,h):=ycD (by decide) (by rfl') (by rw [show List.idxOf ("place":Str) ["place","slot"]=0 by rfl'];rfl)
theorem yxM {v0 v1:PV}{h:AH}:ynV [1,2,3,4,5,7,8] "slot" (.ins 4 ["place","slot"] [v0,v1]) h=some (v1,h):=ycD (by decide) (by rfl') (by rw [show List.idxOf ("slot":Str) ["place","slot"]=1 by rfl'];rfl)
theorem yIu {v0 v1:PV}{f:Nat->Fn}{h:AH}:yjb "long" f (.ins 4 ["place","slot"] [v0,v1]) h=f 4 [.ins 4 ["place","slot"] [v0,v1]] h:=ycj (by rfl')
theorem yGB {v0 v1:PV}{f:Nat->Fn}{h:AH}:yjb "shown" f (.ins 4 ["place","slot"] [v0,v1]) h=f 4 [.ins 4 ["place","slot"] [v0,v1]] h:=ycj (by rfl')
theorem yAd {v0 v1 v2:PV}{h:AH}:ynV [1,2,3,4,5,7,8] "slot" (.ins 5 ["slot","parts","others"] [v0,v1,v2]) h=some (v0,h):=ycD (by decide) (by rfl') (by rw [show List.idxOf ("slot":Str) ["slot","parts","others"]=0 by rfl'];rfl)
theorem yxN {v0 v1 v2:PV}{h:AH}:ynV [5,6,7] "parts" (.ins 5 ["slot","parts","others"] [v0,v1,v2]) h=some (v1,h):=ycD (by decide) (by rfl') (by rw [show List.idxOf ("parts":Str) ["slot","parts","others"]=1 by rfl'];rfl)
theorem yvR {v0 v1 v2:PV}{h:AH}:ynV [5,6,7] "others" (.ins 5 ["slot","parts","others"] [v0,v1,v2]) h=some (v2,h):=ycD (by decide) (by rfl') (by rw [show List.idxOf ("others":Str) ["slot","parts","others"]=2 by rfl'];rfl)
theorem yJf {v0 v1 v2:PV}{f:Nat->Fn}{h:AH}:yjb "long" f (.ins 5 ["slot","parts","others"] [v0,v1,v2]) h=f 5 [.ins 5 ["slot","parts","others"] [v0,v1,v2]] h:=ycj (by rfl')
theorem yIv {v0 v1 v2:PV}{f:Nat->Fn}{h:AH}:yjb "shown" f (.ins 5 ["slot","parts","others"] [v0,v1,v2]) h=f 5 [.ins 5 ["slot","parts","others"] [v0,v1,v2]] h:=ycj (by rfl')
theorem yAe {x:PV}{ρ:PSt}{h:AH}:yzY [1,2,3,4,5,7,8] 0 "slot" (.own (.ins 5 [] [])::ρ) x h=some (.nx (.own (.ins 5 ["slot"] [x])::ρ),h):=ynd (by decide) (by decide) (by rfl')
theorem yxO {v0:PV}{x:PV}{ρ:PSt}{h:AH}:yzY [5,6,7] 0 "parts" (.own (.ins 5 ["slot"] [v0])::ρ) x h=some (.nx (.own (.ins 5 ["slot","parts"] [v0,x])::ρ),h):=ynd (by decide) (by decide) (by rfl')
theorem yvS {v0 v1:PV}{x:PV}{ρ:PSt}{h:AH}:yzY [5,6,7] 0 "others" (.own (.ins 5 ["slot","parts"] [v0,v1])::ρ) x h=some (.nx (.own (.ins 5 ["slot","parts","others"] [v0,v1,x])::ρ),h):=ynd (by decide) (by decide) (by rfl')
theorem yra {v0 v1:PV}{h:AH}:ynV [5,6,7] "parts" (.ins 6 ["parts","others"] [v0,v1]) h=some (v0,h):=ycD (by decide) (by rfl') (by rw [show List.idxOf ("parts":Str) ["parts","others"]=0 by rfl'];rfl)
theorem yqq {v0 v1:PV}{h:AH}:ynV [5,6,7] "others" (.ins 6 ["parts","others"] [v0,v1]) h=some (v1,h):=ycD (by decide) (by rfl') (by rw [show List.idxOf ("others":Str) ["parts","others"]=1 by rfl'];rfl)
theorem yDN {v0 v1:PV}{f:Nat->Fn}{h:AH}:yjb "long" f (.ins 6 ["parts","others"] [v0,v1]) h=f 6 [.ins 6 ["parts","others"] [v0,v1]] h:=ycj (by rfl')
theorem yCA {v0 v1:PV}{f:Nat->Fn}{h:AH}:yjb "shown" f (.ins 6 ["parts","others"] [v0,v1]) h=f 6 [.ins 6 ["parts","others"] [v0,v1]] h:=ycj (by rfl')
theorem yrb {x:PV}{ρ:PSt}{h:AH}:yzY [5,6,7] 0 "parts" (.own (.ins 6 [] [])::ρ) x h=some (.nx (.own (.ins 6 ["parts"] [x])::ρ),h):=ynd (by decide) (by decide) (by rfl')
theorem yqr {v0:PV}{x:PV}{ρ:PSt}{h:AH}:yzY [5,6,7] 0 "others" (.own (.ins 6 ["parts"] [v0])::ρ) x h=some (.nx (.own (.ins 6 ["parts","others"] [v0,x])::ρ),h):=ynd (by decide) (by decide) (by rfl')
theorem yvT {v0 v1 v2 v3:PV}{h:AH}:ynV [5,6,7] "parts" (.ins 7 ["parts","name","slot","others"] [v0,v1,v2,v3]) h=some (v0,h):=ycD (by decide) (by rfl') (by rw [show List.idxOf ("parts":Str) ["parts","name","slot","others"]=0 by rfl'];rfl)
theorem yxP {v0 v1 v2 v3:PV}{h:AH}:ynV [7,8] "name" (.ins 7 ["parts","name","slot","others"] [v0,v1,v2,v3]) h=some (v1,h):=ycD (by decide) (by rfl') (by rw [show List.idxOf ("name":Str) ["parts","name","slot","others"]=1 by rfl'];rfl)
theorem yxQ {v0 v1 v2 v3:PV}{h:AH}:ynV [1,2,3,4,5,7,8] "slot" (.ins 7 ["parts","name","slot","others"] [v0,v1,v2,v3]) h=some (v2,h):=ycD (by decide) (by rfl') (by rw [show List.idxOf ("slot":Str) ["parts","name","slot","others"]=2 by rfl'];rfl)
theorem ytQ {v0 v1 v2 v3:PV}{h:AH}:ynV [5,6,7] "others" (.ins 7 ["parts","name","slot","others"] [v0,v1,v2,v3]) h=some (v3,h):=ycD (by decide) (by rfl') (by rw [show List.idxOf ("others":Str) ["parts","name","slot","others"]=3 by rfl'];rfl)
theorem yIw {v0 v1 v2 v3:PV}{f:Nat->Fn}{h:AH}:yjb "long" f (.ins 7 ["parts","name","slot","others"] [v0,v1,v2,v3]) h=f 7 [.ins 7 ["parts","name","slot","others"] [v0,v1,v2,v3]] h:=ycj (by rfl')
theorem yGC {v0 v1 v2 v3:PV}{f:Nat->Fn}{h:AH}:yjb "shown" f (.ins 7 ["parts","name","slot","others"] [v0,v1,v2,v3]) h=f 7 [.ins 7 ["parts","name","slot","others"] [v0,v1,v2,v3]] h:=ycj (by rfl')
theorem yvU {x:PV}{ρ:PSt}{h:AH}:yzY [5,6,7] 0 "parts" (.own (.ins 7 [] [])::ρ) x h=some (.nx (.own (.ins 7 ["parts"] [x])::ρ),h):=ynd (by decide) (by decide) (by rfl')
theorem yxR {v0:PV}{x:PV}{ρ:PSt}{h:AH}:yzY [7,8] 0 "name" (.own (.ins 7 ["parts"] [v0])::ρ) x h=some (.nx (.own (.ins 7 ["parts","name"] [v0,x])::ρ),h):=ynd (by decide) (by decide) (by rfl')
theorem yxS {v0 v1:PV}{x:PV}{ρ:PSt}{h:AH}:yzY [1,2,3,4,5,7,8] 0 "slot" (.own (.ins 7 ["parts","name"] [v0,v1])::ρ) x h=some (.nx (.own (.ins 7 ["parts","name","slot"] [v0,v1,x])::ρ),h):=ynd (by decide) (by decide) (by rfl')
theorem ytR {v0 v1 v2:PV}{x:PV}{ρ:PSt}{h:AH}:yzY [5,6,7] 0 "others" (.own (.ins 7 ["parts","name","slot"] [v0,v1,v2])::ρ) x h=some (.nx (.own (.ins 7 ["parts","name","slot","others"] [v0,v1,v2,x])::ρ),h):=ynd (by decide) (by decide) (by rfl')
theorem ytS {v0 v1:PV}{h:AH}:ynV [7,8] "name" (.ins 8 ["name","slot"] [v0,v1]) h=some (v0,h):=ycD (by decide) (by rfl') (by rw [show List.idxOf ("name":Str) ["name","slot"]=0 by rfl'];rfl)
theorem ytT {v0 v1:PV}{h:AH}:ynV [1,2,3,4,5,7,8] "slot" (.ins 8 ["name","slot"] [v0,v1]) h=some (v1,h):=ycD (by decide) (by rfl') (by rw [show List.idxOf ("slot":Str) ["name","slot"]=1 by rfl'];rfl)
theorem yFk {v0 v1:PV}{f:Nat->Fn}{h:AH}:yjb "long" f (.ins 8 ["name","slot"] [v0,v1]) h=f 8 [.ins 8 ["name","slot"] [v0,v1]] h:=ycj (by rfl')
theorem yDO {v0 v1:PV}{f:Nat->Fn}{h:AH}:yjb "shown" f (.ins 8 ["name","slot"] [v0,v1]) h=f 8 [.ins 8 ["name","slot"] [v0,v1]] h:=ycj (by rfl')
theorem yCB {v0 v1:PV}{h:AH}:ynV [10] "words" (.ins 10 ["words","at"] [v0,v1]) h=some (v0,h):=ycD (by decide) (by rfl') (by rw [show List.idxOf ("words":Str) ["words","at"]=0 by rfl'];rfl)
theorem yGD {v0 v1:PV}{h:AH}:ynV [10] "at" (.ins 10 ["words","at"] [v0,v1]) h=some (v1,h):=ycD (by decide) (by rfl') (by rw [show List.idxOf ("at":Str) ["words","at"]=1 by rfl'];rfl)
section
local macro_rules | `(tactic| simp_all? only [$ls,*])=>`(tactic| simp only [yfG,yMO,yMP,yyY,yKu,x_c,yOX,yMR,yOY,yOZ,yHV,yKv,yKw,yKx,yMS,yPa,yMT,yPb,yMU,yKy,yMV,yMW,yPc,yMX,yMY,yMZ,x_call,yPd,yNa,yPe,yHW,yKz,yHX,yKA,yNb,yNc,yNd,yKB,yNe,yNf,yNg,yKC,yKD,yKE,yHY,yKF,yNh,yNi,yNj,yNk,yNl,yNm,yNn,yNo,x_i,yPf,yNp,yKH,yyZ,yKI,yNq,yNr,yNs,yNt,yNu,yNv,yKJ,yza,yNw,yNx,yNy,yNz,yNA,yNB,yNC,yND,yKK,yEQ,yKL,yKM,yHZ,yKN,yIa,yIb,yKO,yMQ,Option.bind_some,Option.bind_none,List.set_cons_zero,List.set_cons_succ,List.length_cons,List.length_nil,decide_eq_true_eq,Bool.not_eq_true',decide_eq_false_iff_not,if_true,if_false,ite_true,ite_false,and_self,Int.reducePow,Int.reduceToNat,Int.reduceLT,Int.reduceLE,Int.reduceNeg,Int.reduceAdd,Int.reduceSub,Nat.reduceLT,Nat.reduceLeDiff,Nat.reduceAdd,true_and,and_true,reduceIte,Nat.reduceEqDiff,eq_self,yqn,yth,yuW,yze,yMh,yNF,yNG,yNH,yNI,Int.reduceEq,Bool.not_true,Bool.not_false,yLe,yLf,yLg,yLh,yLi,yIo,yIp,yIq,yIr,yxL,ytN,ysp,ysq,ytO,yqZ,yvP,ytP,yvQ,yxM,yAd,yxN,yvR,yAe,yxO,yvS,yra,yqq,yrb,yqr,yvT,yxP,yxQ,ytQ,yvU,yxR,yxS,ytR,ytS,ytT,$ls,*])
local macro_rules | `(tactic| walk_at "px")=>`(tactic| simp_all? only [yfG])
noncomputable def yeN:List (Nat×Nat×Bool):=[(1,1,true),(2,2,true),(3,3,true),(4,4,true),(5,5,true),(6,6,true),(7,7,true),(8,8,true),(9,9,true),(1,0,true),(2,0,true),(3,0,true),(4,0,true),(5,0,true),(6,0,true),(7,0,true),(8,0,true),(9,0,true)]
structure Fa (ck:Ck):Prop where
 fl_slot:∀ k∈([1,2,3,4,5,7,8]:List Nat),Cls ck.K (ck.A k)/\NoAttr ck.K (ck.A k) "slot"
 fl_number:∀ k∈([1]:List Nat),Cls ck.K (ck.A k)/\NoAttr ck.K (ck.A k) "number"
 fl_word:∀ k∈([2]:List Nat),Cls ck.K (ck.A k)/\NoAttr ck.K (ck.A k) "word"
 fl_one:∀ k∈([2]:List Nat),Cls ck.K (ck.A k)/\NoAttr ck.K (ck.A k) "one"
 fl_other:∀ k∈([2]:List Nat),Cls ck.K (ck.A k)/\NoAttr ck.K (ck.A k) "other"
 fl_place:∀ k∈([3,4]:List Nat),Cls ck.K (ck.A k)/\NoAttr ck.K (ck.A k) "place"
 fl_name:∀ k∈([7,8]:List Nat),Cls ck.K (ck.A k)/\NoAttr ck.K (ck.A k) "name"
 fl_parts:∀ k∈([5,6,7]:List Nat),Cls ck.K (ck.A k)/\NoAttr ck.K (ck.A k) "parts"
 fl_others:∀ k∈([5,6,7]:List Nat),Cls ck.K (ck.A k)/\NoAttr ck.K (ck.A k) "others"
 fl_words:∀ k∈([10]:List Nat),Cls ck.K (ck.A k)/\NoAttr ck.K (ck.A k) "words"
 fl_at:∀ k∈([10]:List Nat),Cls ck.K (ck.A k)/\NoAttr ck.K (ck.A k) "at"
 isa:∀ r∈yeN,∀ (H:Hp) (a dx:Addr) (fs:List (Str×V)),H a=some (.ins (ck.A r.1) dx fs)->IsI ck.K H (.ref a) (.ref (ck.A r.2.1)) r.2.2
def yeu:List PV->AH->Option (Nd×AH):=yzX 3 1 (yw (yhi [1,2,3,4,5,7,8] 0 "slot" (yj 1)) (yhi [1] 0 "number" (yj 2)))
noncomputable def ycB:List PV->AH->Option (Nd×AH):=yzX 5 2 (yw (yhi [2] 0 "word" (yj 1)) (yw (yhi [1,2,3,4,5,7,8] 0 "slot" (yj 2)) (yw (yhi [2] 0 "one" (yj 3)) (yhi [2] 0 "other" (yj 4)))))
def ydM:List PV->AH->Option (Nd×AH):=yzX 3 3 (yw (yhi [1,2,3,4,5,7,8] 0 "slot" (yj 1)) (yhi [3,4] 0 "place" (yj 2)))
def yev:List PV->AH->Option (Nd×AH):=yzX 3 4 (yw (yhi [3,4] 0 "place" (yj 1)) (yhi [1,2,3,4,5,7,8] 0 "slot" (yj 2)))
noncomputable def yda:List PV->AH->Option (Nd×AH):=yzX 4 5 (yw (yhi [1,2,3,4,5,7,8] 0 "slot" (yj 1)) (yw (yhi [5,6,7] 0 "parts" (xFz (yBb (ydz) (yc (yj 2) (yp))))) (yhi [5,6,7] 0 "others" (xFz (yBb (ydz) (yc (yj 3) (yp)))))))
noncomputable def ybH:List PV->AH->Option (Nd×AH):=yzX 3 6 (yw (yhi [5,6,7] 0 "parts" (xFz (yBb (ydz) (yc (yj 1) (yp))))) (yhi [5,6,7] 0 "others" (xFz (yBb (ydz) (yc (yj 2) (yp))))))
noncomputable def ycx:List PV->AH->Option (Nd×AH):=yzX 5 7 (yw (yhi [5,6,7] 0 "parts" (xFz (yBb (ydz) (yc (yj 1) (yp))))) (yw (yhi [7,8] 0 "name" (yj 2)) (yw (yhi [1,2,3,4,5,7,8] 0 "slot" (yj 3)) (yhi [5,6,7] 0 "others" (xFz (yBb (ydz) (yc (yj 4) (yp))))))))
def ycW:List PV->AH->Option (Nd×AH):=yzX 3 8 (yw (yhi [7,8] 0 "name" (yj 1)) (yhi [1,2,3,4,5,7,8] 0 "slot" (yj 2)))
def yno:Fn:=yff 1 (ybq (xC (.int 0)))
def yje:Fn:=yff 1 (ybq (xC (.str "")))
def ype:Fn:=yff 1 (ybq (xC (.int 1)))
noncomputable def yit:Fn:=yff 1 (ybq (xBM isStr (ykx) (xC (.str " ")) (yc (xFz (yjN (yc (xC (.str "let")) (yc (ygJ [1,2,3,4,5,7,8] "slot" (yj 0)) (yc (xCB (yEK) (yc (ygJ [1] "number" (yj 0)) (yp))) (yp)))))) (yp))))
def ykA:Fn:=yff 1 (ybq (xC (.int 1)))
noncomputable def yfH:Fn:=yff 1 (ybq (xBM isStr (ykx) (xC (.str " ")) (yc (xFz (yjN (yc (ygJ [2] "word" (yj 0)) (yc (ygJ [1,2,3,4,5,7,8] "slot" (yj 0)) (yc (ygJ [2] "one" (yj 0)) (yc (ygJ [2] "other" (yj 0)) (yp))))))) (yp))))
def ynp:Fn:=yff 1 (ybq (xC (.int 1)))
noncomputable def yhk:Fn:=yff 1 (ybq (xBM isStr (ykx) (xC (.str " ")) (yc (xFz (yjN (yc (xC (.str "take")) (yc (ygJ [1,2,3,4,5,7,8] "slot" (yj 0)) (yc (ygJ [3,4] "place" (yj 0)) (yp)))))) (yp))))
def ypf:Fn:=yff 1 (ybq (xC (.int 1)))
noncomputable def yiu:Fn:=yff 1 (ybq (xBM isStr (ykx) (xC (.str " ")) (yc (xFz (yjN (yc (xC (.str "put")) (yc (ygJ [3,4] "place" (yj 0)) (yc (ygJ [1,2,3,4,5,7,8] "slot" (yj 0)) (yp)))))) (yp))))
def ylR:Fn:=yff 1 (ybq (xC (.int 1)))
noncomputable def ygn:Fn:=yff 1 (ybq (xBM isStr (ykx) (xC (.str " ")) (yc (xFz (yjN (yc (xC (.str "throw")) (yc (ygJ [7,8] "name" (yj 0)) (yc (ygJ [1,2,3,4,5,7,8] "slot" (yj 0)) (yp)))))) (yp))))
def ynq:Fn:=yff 1 (ybq (xC (.int 1)))
def yjf:Fn:=yff 1 (ybq (xC (.str "wait")))
mutual
noncomputable def ylA:Nat->Nat->Fn
 | 0,_=>fun _ _=>none
 | n+1,k=>match k with|0=>yno|1=>ype|2=>ykA|3=>ynp|4=>ypf|5=>yoi n|6=>yhS n|7=>ymM n|8=>ylR|9=>ynq|_=>fun _ _=>none
noncomputable def ycE:Nat->Fn
 | 0=>fun _ _=>none
 | n+1=>yff 1 (ybq (xCB (yBe) (yc (xFz (ylM (xIL (yj 0)) [] (ylE "long" (ylA n) (yj 0)))) (yp))))
noncomputable def yoi:Nat->Fn
 | 0=>fun _ _=>none
 | n+1=>yff 1 (ybq (xOp yoc (xOp yoc (xC (.int 2)) (yI (ycE n) (yc (ygJ [5,6,7] "parts" (yj 0)) (yp)))) (yI (ycE n) (yc (ygJ [5,6,7] "others" (yj 0)) (yp)))))
noncomputable def yhS:Nat->Fn
 | 0=>fun _ _=>none
 | n+1=>yff 1 (ybq (xOp yoc (xOp yoc (xC (.int 3)) (yI (ycE n) (yc (ygJ [5,6,7] "parts" (yj 0)) (yp)))) (yI (ycE n) (yc (ygJ [5,6,7] "others" (yj 0)) (yp)))))
noncomputable def ymM:Nat->Fn
 | 0=>fun _ _=>none
 | n+1=>yff 1 (ybq (xOp yoc (xOp yoc (xC (.int 3)) (yI (ycE n) (yc (ygJ [5,6,7] "parts" (yj 0)) (yp)))) (yI (ycE n) (yc (ygJ [5,6,7] "others" (yj 0)) (yp)))))
end
mutual
noncomputable def ylS:Nat->Nat->Fn
 | 0,_=>fun _ _=>none
 | n+1,k=>match k with|0=>yje|1=>yit|2=>yfH|3=>yhk|4=>yiu|5=>ymN n|6=>yhc n|7=>ykB n|8=>ygn|9=>yjf|_=>fun _ _=>none
noncomputable def ygf:Nat->Fn
 | 0=>fun _ _=>none
 | n+1=>yff 1 (ybq (xBM isStr (ykx) (xC (.str " ; ")) (yc (xFz (ylM (xIL (yj 0)) [] (ylE "shown" (ylS n) (yj 0)))) (yp))))
noncomputable def ydb:Nat->Fn
 | 0=>fun _ _=>none
 | n+1=>yff 2 (yw (ydy (yI (ygf n) (yc (yj 0) (yp))) (yt 1)) (yw (ycC (yz (xOp (oEq) (yj 1) (xC (.str "")))) (ybq (xC (.str "( )"))) (ybh)) (ybq (xBM isStr (ykx) (xC (.str " ")) (yc (xFz (yjN (yc (xC (.str "(")) (yc (yj 1) (yc (xC (.str ")")) (yp)))))) (yp))))))
noncomputable def ymN:Nat->Fn
 | 0=>fun _ _=>none
 | n+1=>yff 1 (ybq (xBM isStr (ykx) (xC (.str " ")) (yc (xFz (yjN (yc (xC (.str "if")) (yc (ygJ [1,2,3,4,5,7,8] "slot" (yj 0)) (yc (yI (ydb n) (yc (ygJ [5,6,7] "parts" (yj 0)) (yp))) (yc (xC (.str "else")) (yc (yI (ydb n) (yc (ygJ [5,6,7] "others" (yj 0)) (yp))) (yp)))))))) (yp))))
noncomputable def yhc:Nat->Fn
 | 0=>fun _ _=>none
 | n+1=>yff 1 (ybq (xBM isStr (ykx) (xC (.str " ")) (yc (xFz (yjN (yc (xC (.str "either")) (yc (yI (ydb n) (yc (ygJ [5,6,7] "parts" (yj 0)) (yp))) (yc (xC (.str "or")) (yc (yI (ydb n) (yc (ygJ [5,6,7] "others" (yj 0)) (yp))) (yp))))))) (yp))))
noncomputable def ykB:Nat->Fn
 | 0=>fun _ _=>none
 | n+1=>yff 1 (ybq (xBM isStr (ykx) (xC (.str " ")) (yc (xFz (yjN (yc (xC (.str "try")) (yc (yI (ydb n) (yc (ygJ [5,6,7] "parts" (yj 0)) (yp))) (yc (xC (.str "on")) (yc (ygJ [7,8] "name" (yj 0)) (yc (ygJ [1,2,3,4,5,7,8] "slot" (yj 0)) (yc (yI (ydb n) (yc (ygJ [5,6,7] "others" (yj 0)) (yp))) (yp))))))))) (yp))))
end
def yeO:Fn:=yff 2 (ybq (xCB (yKs) (yc (xFz (ylM (xIS (yj 0)) [1] (xOp (yKm) (yj 0) (yj 1)))) (yp))))
noncomputable def yiv:Fn:=yff 2 (yw (ycC (xOr (yql (yz (ysX (oLe) (oLe) (xC (.int 1)) (xCB (yzW) (yc (yj 0) (yp))) (xC (.int 20))))) (yql (yz (yI yeO (yc (yj 0) (yc (xC (.str "0123456789")) (yp))))))) (ybq (xC .non)) (ybh)) (yw (ycC (yyU (yz (xOp (oEq) (xOp (yHQ) (yj 0) (xC (.int 0))) (xC (.str "0")))) (yz (xOp (oNe) (yj 0) (xC (.str "0"))))) (ybq (xC .non)) (ybh)) (yw (ydy (xCB (yCh) (yc (yj 0) (yp))) (yt 1)) (ybq (xIf (yz (xOp (oLt) (yj 1) (xC (.int 18446744073709551616)))) (yj 1) (xC .non))))))
noncomputable def yoj:Fn:=yff 1 (ybq (xOp (yBf false) (yj 0) (xC (.tup [.str "plus",.str "minus",.str "times",.str "less",.str "same"]))))
noncomputable def ylT:Fn:=yff 1 (ybq (yoW (xOp (oEq) (xCB (yzW) (yc (yj 0) (yp))) (xC (.int 1))) (xOp (yKm) (yj 0) (xC (.str "abcdefgh")))))
noncomputable def ylU:Fn:=yff 1 (ybq (yoW (ysX (oLe) (oLe) (xC (.int 1)) (xCB (yzW) (yc (yj 0) (yp))) (xC (.int 8))) (yI yeO (yc (yj 0) (yc (xC (.str "abcdefghijklmnopqrstuvwxyz")) (yp))))))
noncomputable def yfg:List PV->AH->Option (Nd×AH):=yzX 2 10 (yw (yhi [10] 0 "words" (xFz (yBb (ydz) (yc (yj 1) (yp))))) (yhi [10] 0 "at" (xC (.int 0))))
noncomputable def ykg:Fn:=yff 1 (yw (ycC (yz (xOp (oEq) (yj 0) (xC (.str "")))) (ybq (xFz (yjN (yp)))) (ybh)) (ybq (xBM isStr (yvL) (yj 0) (yc (xC (.str " ")) (yp)))))
noncomputable def yU:Fn:=yff 1 (yw (ycC (yz (xOp (oLt) (ygJ [10] "at" (yj 0)) (xCB (ytH) (yc (ygJ [10] "words" (yj 0)) (yp))))) (ybq (xOp (ytG) (ygJ [10] "words" (yj 0)) (ygJ [10] "at" (yj 0)))) (ybh)) (ybq (xC .non)))
noncomputable def ybe:Fn:=yff 2 (yw (ydy (yW 10 "ahead" yU (yj 0) (yp)) (yt 1)) (yw (ycC (yz (xOp (yJe) (yj 1) (xC .non))) (yqT) (ybh)) (yw (yCo [10] "at" (yj 0) (xOp yoc (ygJ [10] "at" (yj 0)) (xC (.int 1)))) (ybq (yj 1)))))
def yN:Fn:=yff 3 (yw (ydy (yW 10 "taken" ybe (yj 0) (yp)) (yt 2)) (ycC (yz (xOp (oNe) (yj 2) (yj 1))) (yqT) (ybh)))
noncomputable def yr:Fn:=yff 2 (yw (ydy (yW 10 "taken" ybe (yj 0) (yp)) (yt 1)) (yw (ycC (yql (yz (yI ylT (yc (yj 1) (yp))))) (yqT) (ybh)) (ybq (yj 1))))
noncomputable def ybB:Fn:=yff 2 (yw (ydy (yW 10 "taken" ybe (yj 0) (yp)) (yt 1)) (yw (ycC (yql (yz (yI ylU (yc (yj 1) (yp))))) (yqT) (ybh)) (ybq (yj 1))))
noncomputable def ycg:Fn:=yff 3 (yw (ydy (yW 10 "taken" ybe (yj 0) (yp)) (yt 1)) (yw (ydy (yI yiv (yc (yj 1) (yp))) (yt 2)) (yw (ycC (yz (xOp (yJe) (yj 2) (xC .non))) (yqT) (ybh)) (ybq (yj 2)))))
noncomputable def ych:Fn:=yff 5 (yw (ydy (yW 10 "slot_taken" yr (yj 0) (yp)) (yt 2)) (yw (ydy (yW 10 "slot_taken" yr (yj 0) (yp)) (yt 3)) (yw (ydy (yW 10 "slot_taken" yr (yj 0) (yp)) (yt 4)) (ybq (xFz (yke ycB (yc (yj 1) (yc (yj 2) (yc (yj 3) (yc (yj 4) (yp)))))))))))
noncomputable def ycp:Fn:=yff 5 (yw (ycC (yz (xOp (oEq) (yj 1) (xC (.str "let")))) (yw (ydy (yW 10 "slot_taken" yr (yj 0) (yp)) (yt 2)) (ybq (xFz (yke yeu (yc (yj 2) (yc (yW 10 "number_taken" ycg (yj 0) (yp)) (yp))))))) (ybh)) (yw (ycC (yz (xOp (oEq) (yj 1) (xC (.str "take")))) (yw (ydy (yW 10 "slot_taken" yr (yj 0) (yp)) (yt 2)) (ybq (xFz (yke ydM (yc (yj 2) (yc (yW 10 "slot_taken" yr (yj 0) (yp)) (yp))))))) (ybh)) (yw (ycC (yz (xOp (oEq) (yj 1) (xC (.str "put")))) (yw (ydy (yW 10 "slot_taken" yr (yj 0) (yp)) (yt 3)) (ybq (xFz (yke yev (yc (yj 3) (yc (yW 10 "slot_taken" yr (yj 0) (yp)) (yp))))))) (ybh)) (yw (ycC (yz (xOp (oEq) (yj 1) (xC (.str "throw")))) (yw (ydy (yW 10 "name_taken" ybB (yj 0) (yp)) (yt 4)) (ybq (xFz (yke ycW (yc (yj 4) (yc (yW 10 "slot_taken" yr (yj 0) (yp)) (yp))))))) (ybh)) (yw (ycC (yz (xOp (oEq) (yj 1) (xC (.str "wait")))) (ybq (xFz (ytg 9))) (ybh)) (yw (ycC (yz (yI yoj (yc (yj 1) (yp)))) (ybq (yW 10 "reckon_taken" ych (yj 0) (yc (yj 1) (yp)))) (ybh)) (yqT)))))))
mutual
noncomputable def ybR:Nat->Fn
 | 0=>fun _ _=>none
 | n+1=>yff 3 (yw (ycC (xOr (yz (xOp (yJe) (yW 10 "ahead" yU (yj 0) (yp)) (xC .non))) (yz (xOp (oEq) (yW 10 "ahead" yU (yj 0) (yp)) (xC (.str ")"))))) (ybq (xFz (yjN (yp)))) (ybh)) (yw (yBV (yjN (yc (yW 10 "part_taken" (yS n) (yj 0) (yc (yj 1) (yp))) (yp))) 2) (yw (yvF 100 (yz (xOp (oEq) (yW 10 "ahead" yU (yj 0) (yp)) (xC (.str ";")))) (yw (yqm (yW 10 "pass_over" yN (yj 0) (yc (xC (.str ";")) (yp)))) (ynm 2 (yW 10 "part_taken" (yS n) (yj 0) (yc (yj 1) (yp)))))) (yKf 2 (ybq (yj 2))))))
noncomputable def yX:Nat->Fn
 | 0=>fun _ _=>none
 | n+1=>yff 3 (yw (yqm (yW 10 "pass_over" yN (yj 0) (yc (xC (.str "(")) (yp)))) (yw (ydy (yW 10 "list_taken" (ybR n) (yj 0) (yc (yj 1) (yp))) (yt 2)) (yw (yqm (yW 10 "pass_over" yN (yj 0) (yc (xC (.str ")")) (yp)))) (ybq (yj 2)))))
noncomputable def yS:Nat->Fn
 | 0=>fun _ _=>none
 | n+1=>yff 3 (yw (ycC (yz (xOp (oGt) (yj 1) (xC (.int 8)))) (yqT) (ybh)) (yw (ydy (yW 10 "taken" ybe (yj 0) (yp)) (yt 2)) (yw (ycC (yz (xOp (oEq) (yj 2) (xC (.str "if")))) (ybq (yW 10 "if_taken" (yfh n) (yj 0) (yc (xOp yoc (yj 1) (xC (.int 1))) (yp)))) (ybh)) (yw (ycC (yz (xOp (oEq) (yj 2) (xC (.str "either")))) (ybq (yW 10 "either_taken" (ydc n) (yj 0) (yc (xOp yoc (yj 1) (xC (.int 1))) (yp)))) (ybh)) (yw (ycC (yz (xOp (oEq) (yj 2) (xC (.str "try")))) (ybq (yW 10 "try_taken" (yeG n) (yj 0) (yc (xOp yoc (yj 1) (xC (.int 1))) (yp)))) (ybh)) (ybq (yW 10 "plain_taken" ycp (yj 0) (yc (yj 2) (yp)))))))))
noncomputable def yfh:Nat->Fn
 | 0=>fun _ _=>none
 | n+1=>yff 5 (yw (ydy (yW 10 "slot_taken" yr (yj 0) (yp)) (yt 2)) (yw (ydy (yW 10 "side_taken" (yX n) (yj 0) (yc (yj 1) (yp))) (yt 3)) (yw (yqm (yW 10 "pass_over" yN (yj 0) (yc (xC (.str "else")) (yp)))) (yw (ydy (yW 10 "side_taken" (yX n) (yj 0) (yc (yj 1) (yp))) (yt 4)) (ybq (xFz (yke yda (yc (yj 2) (yc (yj 3) (yc (yj 4) (yp)))))))))))
noncomputable def ydc:Nat->Fn
 | 0=>fun _ _=>none
 | n+1=>yff 4 (yw (ydy (yW 10 "side_taken" (yX n) (yj 0) (yc (yj 1) (yp))) (yt 2)) (yw (yqm (yW 10 "pass_over" yN (yj 0) (yc (xC (.str "or")) (yp)))) (yw (ydy (yW 10 "side_taken" (yX n) (yj 0) (yc (yj 1) (yp))) (yt 3)) (ybq (xFz (yke ybH (yc (yj 2) (yc (yj 3) (yp)))))))))
noncomputable def yeG:Nat->Fn
 | 0=>fun _ _=>none
 | n+1=>yff 6 (yw (ydy (yW 10 "side_taken" (yX n) (yj 0) (yc (yj 1) (yp))) (yt 2)) (yw (yqm (yW 10 "pass_over" yN (yj 0) (yc (xC (.str "on")) (yp)))) (yw (ydy (yW 10 "name_taken" ybB (yj 0) (yp)) (yt 3)) (yw (ydy (yW 10 "slot_taken" yr (yj 0) (yp)) (yt 4)) (yw (ydy (yW 10 "side_taken" (yX n) (yj 0) (yc (yj 1) (yp))) (yt 5)) (ybq (xFz (yke ycx (yc (yj 2) (yc (yj 3) (yc (yj 4) (yc (yj 5) (yp)))))))))))))
end
noncomputable def yvV:Fn:=yff 3 (yw (ydy (yIZ (yke yfg (yc (yI ykg (yc (yj 0) (yp))) (yp)))) (yt 1)) (yw (ydy (yW 10 "list_taken" (ybR 45) (yj 1) (yc (xC (.int 0)) (yp))) (yt 2)) (yw (ycC (yz (xOp (yEI) (yW 10 "ahead" yU (yj 1) (yp)) (xC .non))) (yqT) (ybh)) (yw (ycC (yz (xOp (oGt) (xOp yoc (yI (ycE 45) (yc (yj 2) (yp))) (xC (.int 1))) (xC (.int 80)))) (yqT) (ybh)) (ybq (yj 2))))))
def ykh:Fn:=yff 1 (ybq (yI (ygf 45) (yc (yj 0) (yp))))
noncomputable def yhl:Fn:=yff 1 (ybq (yoW (xCB (ylO yeN) (yc (yj 0) (yc (xC (.ty "int")) (yp)))) (yEm (xCB (ylO yeN) (yc (yj 0) (yc (xC (.ty "bool")) (yp)))))))
noncomputable def yfR:Fn:=yff 7 (yw (ycC (yz (xOp (oEq) (xOp oMod (yj 0) (xC (.int 4))) (xC (.int 1)))) (ybq (xOp (ytG) (xFz (yjN (yc (xC (.str "on")) (yc (xC (.str "else")) (yc (xC (.str "a")) (yc (xC (.str "wait")) (yc (xC (.str "or")) (yc (xC (.str "let")) (yc (xC (.str "throw")) (yc (xC (.str "if")) (yp))))))))))) (xOp oMod (xOp oDiv (yj 0) (xC (.int 4))) (xC (.int 8))))) (ybh)) (yw (ydy (xC (.str "abcdefghijklmnopqrstuvwxyz")) (yt 1)) (yw (ydy (xOp yoc (xC (.int 1)) (xOp oMod (xOp oDiv (yj 0) (xC (.int 4))) (xC (.int 8)))) (yt 2)) (yw (ydy (xOp oMod (xOp oDiv (yj 0) (xC (.int 32))) (yj 2)) (yt 3)) (yw (ydy (xC (.str "")) (yt 4)) (yw (ysZ (yJb (yc (yj 2) (yp))) (yt 5) (yw (ydy (xOp yoc (xOp oDiv (yj 0) (xC (.int 256))) (xOp yGn (yj 5) (yj 5))) (yt 6)) (yw (ycC (yz (xOp (oEq) (yj 5) (yj 3))) (ydy (xOp yoc (yj 6) (xOp oDiv (yj 0) (xC (.int 6656)))) (yt 6)) (ybh)) (ydy (xOp yip (yj 4) (xOp (yHQ) (yj 1) (xOp oMod (yj 6) (xC (.int 26))))) (yt 4))))) (ybq (yj 4))))))))
def ydB:Fn:=yff 1 (ybq (xOp (yHQ) (xC (.str "abcdefgh")) (xOp oMod (yj 0) (xC (.int 8)))))
noncomputable def ygo:Fn:=yff 1 (yw (ycC (yz (xOp (oEq) (xOp oMod (yj 0) (xC (.int 3))) (xC (.int 0)))) (ybq (xOp oMod (xOp oDiv (yj 0) (xC (.int 3))) (xC (.int 12)))) (ybh)) (yw (ycC (yz (xOp (oEq) (xOp oMod (yj 0) (xC (.int 3))) (xC (.int 1)))) (ybq (xOp yKi (xOp yKi (xOp yMe (xC (.int 2)) (xC (.int 64))) (xC (.int 1))) (xOp oMod (xOp oDiv (yj 0) (xC (.int 3))) (xC (.int 5))))) (ybh)) (ybq (xOp oMod (xOp oDiv (yj 0) (xC (.int 3))) (xOp yMe (xC (.int 2)) (xC (.int 64)))))))
noncomputable def yhm:Fn:=yff 5 (yw (ydy (xOp oMod (yj 0) (xC (.int 10))) (yt 1)) (yw (ydy (xOp oMod (xOp yGn (xOp oDiv (yj 0) (xC (.int 10))) (xC (.int 48271))) (xC (.int 2147483647))) (yt 2)) (yw (ydy (yI ydB (yc (yj 2) (yp))) (yt 3)) (yw (ydy (yI ydB (yc (xOp oDiv (yj 2) (xC (.int 8))) (yp))) (yt 4)) (yw (ycC (yz (xOp (oLt) (yj 1) (xC (.int 2)))) (ybq (ysY (yc (xC (.str "let")) (yc (yj 3) (yc (yI ygo (yc (xOp oDiv (yj 0) (xC (.int 10))) (yp))) (yp)))))) (ybh)) (yw (ycC (yz (xOp (oLt) (yj 1) (xC (.int 4)))) (ybq (ysY (yc (xOp (ytG) (xFz (yjN (yc (xC (.str "plus")) (yc (xC (.str "minus")) (yc (xC (.str "times")) (yc (xC (.str "less")) (yc (xC (.str "same")) (yp)))))))) (xOp oMod (xOp oDiv (yj 2) (xC (.int 512))) (xC (.int 5)))) (yc (yj 3) (yc (yj 4) (yc (yI ydB (yc (xOp oDiv (yj 2) (xC (.int 64))) (yp))) (yp))))))) (ybh)) (yw (ycC (yz (xOp (oLt) (yj 1) (xC (.int 6)))) (ybq (ysY (yc (xC (.str "take")) (yc (yj 3) (yc (yj 4) (yp)))))) (ybh)) (yw (ycC (yz (xOp (oLt) (yj 1) (xC (.int 8)))) (ybq (ysY (yc (xC (.str "put")) (yc (yj 3) (yc (yj 4) (yp)))))) (ybh)) (yw (ycC (yz (xOp (oEq) (yj 1) (xC (.int 8)))) (ybq (ysY (yc (xC (.str "throw")) (yc (yI yfR (yc (xOp oDiv (yj 0) (xC (.int 10))) (yp))) (yc (yj 3) (yp)))))) (ybh)) (ybq (ysY (yc (xC (.str "wait")) (yp)))))))))))))
noncomputable def ydd:Fn:=yff 5 (yw (ydy (xOp oMod (xOp yGn (yj 0) (xC (.int 69621))) (xC (.int 2147483629))) (yt 3)) (yw (ycC (yz (xOp (oEq) (xOp oMod (yj 3) (xC (.int 2))) (xC (.int 1)))) (ydy (ysY (yc (yj 2) (yc (yj 1) (yp)))) (yBc 2 (ylL (yt 1) (ylL (yt 2) (yDI))))) (ybh)) (yw (ydy (xOp oMod (xOp oDiv (yj 3) (xC (.int 2))) (xC (.int 3))) (yt 4)) (yw (ycC (yz (xOp (oEq) (yj 4) (xC (.int 0)))) (ybq (ysY (yc (xC (.str "if")) (yc (yI ydB (yc (xOp oDiv (yj 3) (xC (.int 6))) (yp))) (yc (yj 1) (yc (yj 2) (yp))))))) (ybh)) (yw (ycC (yz (xOp (oEq) (yj 4) (xC (.int 1)))) (ybq (ysY (yc (xC (.str "either")) (yc (yj 1) (yc (yj 2) (yp)))))) (ybh)) (ybq (ysY (yc (xC (.str "try")) (yc (yj 1) (yc (yI yfR (yc (yj 0) (yp))) (yc (yI ydB (yc (xOp oDiv (yj 3) (xC (.int 6))) (yp))) (yc (yj 2) (yp)))))))))))))
noncomputable def yH:Fn:=yff 1 (yw (ycC (yz (xOp (oEq) (xOp (ycT) (yj 0) (xC (.int 0))) (xC (.str "if")))) (ybq (xFz (yjN (yc (xOp (ycT) (yj 0) (xC (.int 2))) (yc (xOp (ycT) (yj 0) (xC (.int 3))) (yp)))))) (ybh)) (yw (ycC (yz (xOp (oEq) (xOp (ycT) (yj 0) (xC (.int 0))) (xC (.str "either")))) (ybq (xFz (yjN (yc (xOp (ycT) (yj 0) (xC (.int 1))) (yc (xOp (ycT) (yj 0) (xC (.int 2))) (yp)))))) (ybh)) (yw (ycC (yz (xOp (oEq) (xOp (ycT) (yj 0) (xC (.int 0))) (xC (.str "try")))) (ybq (xFz (yjN (yc (xOp (ycT) (yj 0) (xC (.int 1))) (yc (xOp (ycT) (yj 0) (xC (.int 4))) (yp)))))) (ybh)) (ybq (xFz (yjN (yp)))))))
noncomputable def ybP:Nat->Fn
 | 0=>fun _ _=>none
 | n+1=>yff 4 (yw (ydy (xUn yML (xC (.int 1))) (yt 1)) (yw (ysZ (xIL (yj 0)) (yt 2) (yw (ysZ (xIL (yI yH (yc (yj 2) (yp)))) (yt 3) (ydy (xCB (yqP) (yc (yj 1) (yc (xOp yoc (xC (.int 1)) (yI (ybP n) (yc (yj 3) (yp)))) (yp)))) (yt 1))) (ydy (xCB (yqP) (yc (yj 1) (yc (xC (.int 0)) (yp)))) (yt 1)))) (ybq (yj 1))))
noncomputable def ybC:Nat->Fn
 | 0=>fun _ _=>none
 | n+1=>yff 3 (yw (ydy (xC (.int 0)) (yt 1)) (yw (ysZ (xIL (yj 0)) (yt 2) (yw (ydy (xOp yoc (xOp yoc (yj 1) (xC (.int 1))) (xCB (yBe) (yc (xFz (ylM (xIL (yI yH (yc (yj 2) (yp)))) [] (yI (ybC n) (yc (yj 0) (yp))))) (yp)))) (yt 1)) (ydy (xOp yoc (xOp yoc (yj 1) (xCB (yxA) (yc (xOp (yBf false) (xOp (ycT) (yj 2) (xC (.int 0))) (ysY (yc (xC (.str "if")) (yc (xC (.str "either")) (yc (xC (.str "try")) (yp)))))) (yp)))) (xCB (yxA) (yc (xOp (yBf false) (xOp (ycT) (yj 2) (xC (.int 0))) (ysY (yc (xC (.str "either")) (yc (xC (.str "try")) (yp))))) (yp)))) (yt 1)))) (ybq (yj 1))))
noncomputable def ygQ:Fn:=yff 5 (yw (ydy (xOp oMod (yj 1) (xOp yMe (xC (.int 10)) (xC (.int 60)))) (yt 1)) (yw (ycC (yz (xOp (oGt) (xOp oMod (yj 1) (xC (.int 3))) (xC (.int 0)))) (ydy (xFz (yJY yKo (yj 0) (xFz (yjN (yc (yI yhm (yc (xOp oDiv (yj 1) (xC (.int 3))) (yp))) (yp)))))) (yt 2)) (yw (ydy (xCB (yqP) (yc (xC (.int 0)) (yc (xOp yKi (xCB (ytH) (yc (yj 0) (yp))) (xOp oMod (xOp oDiv (yj 1) (xC (.int 3))) (xC (.int 4)))) (yp)))) (yt 3)) (yw (ydy (xCB (yqP) (yc (xC (.int 0)) (yc (xOp yKi (yj 3) (xOp oMod (xOp oDiv (yj 1) (xC (.int 12))) (xC (.int 3)))) (yp)))) (yt 4)) (ydy (xFz (yJY yKo (xFz (yHs yGo (yj 0) (yoX) (yvC (yj 4)))) (xFz (yjN (yc (yI ydd (yc (xOp oDiv (yj 1) (xC (.int 36))) (yc (xFz (yHs yGo (yj 0) (yvC (yj 3)) (yoX))) (yc (xFz (yHs yGo (yj 0) (yvC (yj 4)) (yvC (yj 3)))) (yp))))) (yp)))))) (yt 2))))) (yw (ycC (xOr (yz (xOp (oGt) (yI (ybP 15) (yc (yj 2) (yp))) (xC (.int 8)))) (yz (xOp (oGt) (yI (ybC 15) (yc (yj 2) (yp))) (xC (.int 79))))) (ybq (yj 0)) (ybh)) (ybq (yj 2)))))
mutual
noncomputable def ycF:Nat->Fn
 | 0=>fun _ _=>none
 | n+1=>yff 1 (yw (ycC (yz (xOp (yAa) (yj 0) (xFz (yjN (yp))))) (ybq (xC (.str "( )"))) (ybh)) (ybq (xOp yip (xOp yip (xC (.str "( ")) (yI (ygR n) (yc (yj 0) (yp)))) (xC (.str " )")))))
noncomputable def ygR:Nat->Fn
 | 0=>fun _ _=>none
 | n+1=>yff 4 (yw (yBV (yjN (yp)) 1) (yw (ysZ (xIL (yj 0)) (yt 2) (ycC (yz (xOp (oEq) (xOp (ycT) (yj 2) (xC (.int 0))) (xC (.str "if")))) (ynm 1 (xOp yip (xOp yip (xOp yip (xOp yip (xOp yip (xC (.str "if ")) (xOp (ycT) (yj 2) (xC (.int 1)))) (xC (.str " "))) (yI (ycF n) (yc (xOp (ycT) (yj 2) (xC (.int 2))) (yp)))) (xC (.str " else "))) (yI (ycF n) (yc (xOp (ycT) (yj 2) (xC (.int 3))) (yp))))) (ycC (yz (xOp (oEq) (xOp (ycT) (yj 2) (xC (.int 0))) (xC (.str "either")))) (ynm 1 (xOp yip (xOp yip (xOp yip (xC (.str "either ")) (yI (ycF n) (yc (xOp (ycT) (yj 2) (xC (.int 1))) (yp)))) (xC (.str " or "))) (yI (ycF n) (yc (xOp (ycT) (yj 2) (xC (.int 2))) (yp))))) (ycC (yz (xOp (oEq) (xOp (ycT) (yj 2) (xC (.int 0))) (xC (.str "try")))) (yw (ydy (xFz (yjN (yc (xC (.str "try")) (yc (yI (ycF n) (yc (xOp (ycT) (yj 2) (xC (.int 1))) (yp))) (yc (xC (.str "on")) (yc (xOp (ycT) (yj 2) (xC (.int 2))) (yc (xOp (ycT) (yj 2) (xC (.int 3))) (yc (yI (ycF n) (yc (xOp (ycT) (yj 2) (xC (.int 4))) (yp))) (yp))))))))) (yt 3)) (ynm 1 (xBM isStr (ykx) (xC (.str " ")) (yc (yj 3) (yp))))) (ynm 1 (xBM isStr (ykx) (xC (.str " ")) (yc (xFz (ylM (xIT (yj 2)) [] (xCB (yxG) (yc (yj 0) (yp))))) (yp)))))))) (yKf 1 (ybq (xBM isStr (ykx) (xC (.str " ; ")) (yc (yj 1) (yp)))))))
end
noncomputable def yfi:Fn:=yff 2 (yw (ycC (yz (xOp (oEq) (xOp (ycT) (yj 1) (xC (.int 0))) (xC (.str "let")))) (ybq (yoW (xCB (ylO yeN) (yc (yj 0) (yc (xC (.cls 1)) (yp)))) (yoW (xOp (yAa) (xFz (yjN (yc (ygJ [1,2,3,4,5,7,8] "slot" (yj 0)) (yc (ygJ [1] "number" (yj 0)) (yp))))) (xFz (yjN (yc (xOp (ycT) (yj 1) (xC (.int 1))) (yc (xOp (ycT) (yj 1) (xC (.int 2))) (yp)))))) (yI yhl (yc (ygJ [1] "number" (yj 0)) (yp)))))) (ybh)) (yw (ycC (yz (xOp (oEq) (xOp (ycT) (yj 1) (xC (.int 0))) (xC (.str "take")))) (ybq (yoW (xCB (ylO yeN) (yc (yj 0) (yc (xC (.cls 3)) (yp)))) (xOp (yAa) (xFz (yjN (yc (ygJ [1,2,3,4,5,7,8] "slot" (yj 0)) (yc (ygJ [3,4] "place" (yj 0)) (yp))))) (xFz (yjN (yc (xOp (ycT) (yj 1) (xC (.int 1))) (yc (xOp (ycT) (yj 1) (xC (.int 2))) (yp)))))))) (ybh)) (yw (ycC (yz (xOp (oEq) (xOp (ycT) (yj 1) (xC (.int 0))) (xC (.str "put")))) (ybq (yoW (xCB (ylO yeN) (yc (yj 0) (yc (xC (.cls 4)) (yp)))) (xOp (yAa) (xFz (yjN (yc (ygJ [3,4] "place" (yj 0)) (yc (ygJ [1,2,3,4,5,7,8] "slot" (yj 0)) (yp))))) (xFz (yjN (yc (xOp (ycT) (yj 1) (xC (.int 1))) (yc (xOp (ycT) (yj 1) (xC (.int 2))) (yp)))))))) (ybh)) (yw (ycC (yz (xOp (oEq) (xOp (ycT) (yj 1) (xC (.int 0))) (xC (.str "throw")))) (ybq (yoW (xCB (ylO yeN) (yc (yj 0) (yc (xC (.cls 8)) (yp)))) (xOp (yAa) (xFz (yjN (yc (ygJ [7,8] "name" (yj 0)) (yc (ygJ [1,2,3,4,5,7,8] "slot" (yj 0)) (yp))))) (xFz (yjN (yc (xOp (ycT) (yj 1) (xC (.int 1))) (yc (xOp (ycT) (yj 1) (xC (.int 2))) (yp)))))))) (ybh)) (yw (ycC (yz (xOp (oEq) (xOp (ycT) (yj 1) (xC (.int 0))) (xC (.str "wait")))) (ybq (xCB (ylO yeN) (yc (yj 0) (yc (xC (.cls 9)) (yp))))) (ybh)) (yw (ycC (yql (yz (xCB (ylO yeN) (yc (yj 0) (yc (xC (.cls 2)) (yp)))))) (ybq (xC (.bl false))) (ybh)) (ybq (xOp (yAa) (xFz (yjN (yc (ygJ [2] "word" (yj 0)) (yc (ygJ [1,2,3,4,5,7,8] "slot" (yj 0)) (yc (ygJ [2] "one" (yj 0)) (yc (ygJ [2] "other" (yj 0)) (yp))))))) (xFz (yBb (ydz) (yc (yj 1) (yp))))))))))))
noncomputable def ydC:Nat->Fn
 | 0=>fun _ _=>none
 | n+1=>yff 5 (yw (ycC (xOr (yql (yz (xCB (ylO yeN) (yc (yj 0) (yc (xC (.ty "list")) (yp)))))) (yz (xOp (oNe) (xCB (ytH) (yc (yj 0) (yp))) (xCB (ytH) (yc (yj 1) (yp)))))) (ybq (xC (.bl false))) (ybh)) (yw (ysZ (xIZ (yc (yj 0) (yc (yj 1) (yp)))) (yBc 2 (ylL (yt 2) (ylL (yt 3) (yDI)))) (yw (ycC (yql (yz (xCB (ylO yeN) (yc (yj 2) (yc (xC (.cls 0)) (yp)))))) (ybq (xC (.bl false))) (ybh)) (yw (ydy (yI yH (yc (yj 3) (yp))) (yt 4)) (ycC (yz (xOp (yAa) (yj 4) (xFz (yjN (yp))))) (ycC (yql (yz (yI yfi (yc (yj 2) (yc (yj 3) (yp)))))) (ybq (xC (.bl false))) (ybh)) (yw (ycC (yyU (yz (xOp (oEq) (xOp (ycT) (yj 3) (xC (.int 0))) (xC (.str "if")))) (xOr (yql (yz (xCB (ylO yeN) (yc (yj 2) (yc (xC (.cls 5)) (yp)))))) (yz (xOp (oNe) (ygJ [1,2,3,4,5,7,8] "slot" (yj 2)) (xOp (ycT) (yj 3) (xC (.int 1))))))) (ybq (xC (.bl false))) (ybh)) (yw (ycC (yyU (yz (xOp (oEq) (xOp (ycT) (yj 3) (xC (.int 0))) (xC (.str "either")))) (yql (yz (xCB (ylO yeN) (yc (yj 2) (yc (xC (.cls 6)) (yp))))))) (ybq (xC (.bl false))) (ybh)) (yw (ycC (yyU (yz (xOp (oEq) (xOp (ycT) (yj 3) (xC (.int 0))) (xC (.str "try")))) (yql (yz (xCB (ylO yeN) (yc (yj 2) (yc (xC (.cls 7)) (yp))))))) (ybq (xC (.bl false))) (ybh)) (yw (ycC (yyU (yz (xOp (oEq) (xOp (ycT) (yj 3) (xC (.int 0))) (xC (.str "try")))) (xOr (yz (xOp (oNe) (ygJ [7,8] "name" (yj 2)) (xOp (ycT) (yj 3) (xC (.int 2))))) (yz (xOp (oNe) (ygJ [1,2,3,4,5,7,8] "slot" (yj 2)) (xOp (ycT) (yj 3) (xC (.int 3))))))) (ybq (xC (.bl false))) (ybh)) (ycC (xOr (yql (yz (yI (ydC n) (yc (ygJ [5,6,7] "parts" (yj 2)) (yc (xOp (ytG) (yj 4) (xC (.int 0))) (yp)))))) (yql (yz (yI (ydC n) (yc (ygJ [5,6,7] "others" (yj 2)) (yc (xOp (ytG) (yj 4) (xC (.int 1))) (yp))))))) (ybq (xC (.bl false))) (ybh)))))))))) (ybq (xC (.bl true)))))
mutual
noncomputable def ybD:Nat->Fn
 | 0=>fun _ _=>none
 | n+1=>yff 3 (yw (ycC (yz (xOp (oEq) (xOp (ycT) (yj 0) (xC (.int 0))) (xC (.str "let")))) (ybq (xFz (yke yeu (yc (xOp (ycT) (yj 0) (xC (.int 1))) (yc (xOp (ycT) (yj 0) (xC (.int 2))) (yp)))))) (ybh)) (yw (ycC (yz (xOp (oEq) (xOp (ycT) (yj 0) (xC (.int 0))) (xC (.str "take")))) (ybq (xFz (yke ydM (yc (xOp (ycT) (yj 0) (xC (.int 1))) (yc (xOp (ycT) (yj 0) (xC (.int 2))) (yp)))))) (ybh)) (yw (ycC (yz (xOp (oEq) (xOp (ycT) (yj 0) (xC (.int 0))) (xC (.str "put")))) (ybq (xFz (yke yev (yc (xOp (ycT) (yj 0) (xC (.int 1))) (yc (xOp (ycT) (yj 0) (xC (.int 2))) (yp)))))) (ybh)) (yw (ycC (yz (xOp (oEq) (xOp (ycT) (yj 0) (xC (.int 0))) (xC (.str "throw")))) (ybq (xFz (yke ycW (yc (xOp (ycT) (yj 0) (xC (.int 1))) (yc (xOp (ycT) (yj 0) (xC (.int 2))) (yp)))))) (ybh)) (yw (ycC (yz (xOp (oEq) (xOp (ycT) (yj 0) (xC (.int 0))) (xC (.str "wait")))) (ybq (xFz (ytg 9))) (ybh)) (yw (ycC (yz (xOp (yBf true) (xOp (ycT) (yj 0) (xC (.int 0))) (ysY (yc (xC (.str "if")) (yc (xC (.str "either")) (yc (xC (.str "try")) (yp))))))) (ybq (xFz (yke ycB (yc (xOp (ycT) (yj 0) (xC (.int 0))) (yc (xOp (ycT) (yj 0) (xC (.int 1))) (yc (xOp (ycT) (yj 0) (xC (.int 2))) (yc (xOp (ycT) (yj 0) (xC (.int 3))) (yp)))))))) (ybh)) (yw (ydy (xFz (ylM (xIL (yI yH (yc (yj 0) (yp)))) [] (yI (ydV n) (yc (yj 0) (yp))))) (yt 1)) (yw (ycC (yz (xOp (oEq) (xOp (ycT) (yj 0) (xC (.int 0))) (xC (.str "if")))) (ydy (xFz (yke yda (yc (xOp (ycT) (yj 0) (xC (.int 1))) (yc (xOp (ytG) (yj 1) (xC (.int 0))) (yc (xOp (ytG) (yj 1) (xC (.int 1))) (yp)))))) (yt 2)) (ycC (yz (xOp (oEq) (xOp (ycT) (yj 0) (xC (.int 0))) (xC (.str "either")))) (ydy (xFz (yke ybH (yc (xOp (ytG) (yj 1) (xC (.int 0))) (yc (xOp (ytG) (yj 1) (xC (.int 1))) (yp))))) (yt 2)) (ydy (xFz (yke ycx (yc (xOp (ytG) (yj 1) (xC (.int 0))) (yc (xOp (ycT) (yj 0) (xC (.int 2))) (yc (xOp (ycT) (yj 0) (xC (.int 3))) (yc (xOp (ytG) (yj 1) (xC (.int 1))) (yp))))))) (yt 2)))) (yw (yqm (xBM yvI (yqN) (xOp (ytG) (yj 1) (xC (.int 0))) (yp))) (yw (yqm (xBM yvI (yCk) (xOp (ytG) (yj 1) (xC (.int 1))) (yc (xFz (ytg 9)) (yp)))) (ybq (yj 2))))))))))))
noncomputable def ydV:Nat->Fn
 | 0=>fun _ _=>none
 | n+1=>yff 1 (ybq (yIZ (ylM (xIL (yj 0)) [] (yI (ybD n) (yc (yj 0) (yp))))))
end
def ygp:Fn:=yff 1 (ybq (xFz (ylM (xIL (yj 0)) [] (yI (ybD 30) (yc (yj 0) (yp))))))
noncomputable def yfI:Fn:=yff 4 (yw (ysZ (yJb (yc (xOp oMod (yj 1) (xC (.int 9))) (yp))) (yt 2) (yw (ydy (xFz (yjN (yc (yI ydd (yc (xOp yoc (xOp oDiv (yj 1) (xC (.int 9))) (xOp yGn (yj 2) (xC (.int 7919)))) (yc (yj 0) (yc (xFz (yjN (yp))) (yp))))) (yp)))) (yt 3)) (ycC (yyU (yz (xOp (oLe) (yI (ybP 15) (yc (yj 3) (yp))) (xC (.int 8)))) (yz (xOp (oLe) (yI (ybC 15) (yc (yj 3) (yp))) (xC (.int 79))))) (ydy (yj 3) (yt 0)) (ybh)))) (ybq (yj 0)))
noncomputable def ygg:Fn:=yff 5 (yw (ydy (yI ygp (yc (yj 0) (yp))) (yt 1)) (yw (ydy (xFz (yBb (ydz) (yc (yj 1) (yp)))) (yt 2)) (yw (ydy (yI ykh (yc (yj 2) (yp))) (yt 3)) (yw (ycC (xOr (yz (xOp (oNe) (xCB (ytH) (yc (yj 2) (yp))) (xCB (ytH) (yc (yj 1) (yp))))) (yql (yz (yI (ydC 15) (yc (yj 2) (yc (yj 0) (yp))))))) (ybq (xC (.bl false))) (ybh)) (yw (ycC (xOr (yql (yz (xCB (ylO yeN) (yc (yj 3) (yc (xC (.ty "str")) (yp)))))) (yz (xOp (oNe) (yj 3) (yI (ygR 30) (yc (yj 0) (yp)))))) (ybq (xC (.bl false))) (ybh)) (yw (ycC (yz (xOp (oNe) (xCB (yBe) (yc (xFz (ylM (xIL (yj 1)) [] (ylE "long" (ylA 45) (yj 0)))) (yp))) (yI (ybC 15) (yc (yj 0) (yp))))) (ybq (xC (.bl false))) (ybh)) (yw (ydy (yI yvV (yc (yj 3) (yp))) (yt 4)) (ybq (yoW (yI (ydC 15) (yc (yj 4) (yc (yj 0) (yp)))) (xOp (oEq) (yI ykh (yc (yj 4) (yp))) (yj 3)))))))))))
noncomputable def yFl:Fn:=yff 4 (yw (ydy (xFz (yjN (yp))) (yt 1)) (yw (ydy (xC (.int 7)) (yt 2)) (yw (ysZ (xIL (xFz (yHs yGo (yj 0) (yoX) (yvC (xC (.int 63)))))) (yt 3) (yw (ydy (yI ygQ (yc (yj 1) (yc (yj 3) (yp)))) (yt 1)) (ydy (xOp oMod (xOp yoc (xOp yGn (yj 2) (xC (.int 48271))) (yj 3)) (xC (.int 2147483647))) (yt 2)))) (ybq (yoW (yI ygg (yc (yj 1) (yp))) (yI ygg (yc (yI yfI (yc (yj 1) (yc (yj 2) (yp)))) (yp))))))))
abbrev B64:Int:=18446744073709551616
inductive T where
 | base
 | let_ (r:Str) (n:Int)
 | reckon (w r s t:Str)
 | take (r s:Str)
 | put (s t:Str)
 | if_ (r:Str) (a b:List T)
 | either (a b:List T)
 | try_ (a:List T) (nm r:Str) (b:List T)
 | throw (nm r:Str)
 | wait
noncomputable def kd:T->Nat
 | .base=>0|.let_ ..=>1|.reckon ..=>2|.take ..=>3|.put ..=>4|.if_ ..=>5|.either ..=>6|.try_ ..=>7|.throw ..=>8|.wait=>9
def ycl (inner:Str):Str:=if inner = "" then "( )" else Str.join " " ["(",inner,")"]
mutual
noncomputable def ycQ:T->Str
 | .base=>""
 | .let_ r n=>Str.join " " ["let",r,(toString n:String)]
 | .reckon w r s t=>Str.join " " [w,r,s,t]
 | .take r s=>Str.join " " ["take",r,s]
 | .put s t=>Str.join " " ["put",s,t]
 | .if_ r a b=>Str.join " " ["if",r,ycl (Str.join " ; " (yL a)),"else",ycl (Str.join " ; " (yL b))]
 | .either a b=>Str.join " " ["either",ycl (Str.join " ; " (yL a)),"or",ycl (Str.join " ; " (yL b))]
 | .try_ a nm r b=>Str.join " " ["try",ycl (Str.join " ; " (yL a)),"on",nm,r,ycl (Str.join " ; " (yL b))]
 | .throw nm r=>Str.join " " ["throw",nm,r]
 | .wait=>"wait"
noncomputable def yL:List T->List Str
 | []=>[]
 | t::r=>ycQ t::yL r
end
mutual
noncomputable def yiw:T->Int
 | .base=>0
 | .if_ _ a b=>2+(ybE a).sum+(ybE b).sum
 | .either a b=>3+(ybE a).sum+(ybE b).sum
 | .try_ a _ _ b=>3+(ybE a).sum+(ybE b).sum
 | _=>1
noncomputable def ybE:List T->List Int
 | []=>[]
 | t::r=>yiw t::ybE r
end
mutual
noncomputable def ylV:T->Nat
 | .if_ _ a b=>1+max (ybi a) (ybi b)
 | .either a b=>1+max (ybi a) (ybi b)
 | .try_ a _ _ b=>1+max (ybi a) (ybi b)
 | _=>0
noncomputable def ybi:List T->Nat
 | []=>0
 | t::r=>max (ylV t) (ybi r)
end
mutual
noncomputable def wT:T->Nat
 | .base=>0
 | .let_ r n=>10+r.length+(Str.ofString (toString n)).length
 | .reckon w r s t=>10+w.length+r.length+s.length+t.length
 | .take r s=>10+r.length+s.length
 | .put s t=>10+s.length+t.length
 | .if_ r a b=>40+r.length+wL a+wL b
 | .either a b=>40+wL a+wL b
 | .try_ a nm r b=>40+nm.length+r.length+wL a+wL b
 | .throw nm r=>10+nm.length+r.length
 | .wait=>10
noncomputable def wL:List T->Nat
 | []=>0
 | t::r=>5+wT t+wL r
end
def yJg (c:Int):Int:=if c%3=0 then c/3%12 else if c%3=1 then B64-1-c/3%5 else c/3%B64
def slotsV:Str:="abcdefgh"
def lettersV:Str:="abcdefghijklmnopqrstuvwxyz"
def yvW (z:Str) (i:Int):Str:=⟨#[(z.cps.toList[i.toNat]?).getD 0]⟩
def yok (n:Int):Str:=yvW slotsV (n%8)
def wordsL:List Str:=["on","else","a","wait","or","let","throw","if"]
noncomputable def nameStep (c at':Int) (k:Nat):Str:=yvW lettersV ((if (k:Int)=at' then c/256+(k:Int)*(k:Int)+c/6656 else c/256+(k:Int)*(k:Int))%26)
def ylB (c at':Int):Nat->Str
 | 0=>""
 | k+1=>ylB c at' k++nameStep c at' k
def yAf (c:Int):Str:=if c%4=1 then (wordsL[(c/4%8).toNat]?).getD "" else ylB c (c/32%(1+c/4%8)) (1+c/4%8).toNat
def yCC (m:Int):Str:=((["plus","minus","times","less","same"]:List Str)[(m/512%5).toNat]?).getD ""
def yBg (c:Int):Int:=c*48271%2147483647
noncomputable def yvX (w c:Int):T :=
 if w=0 then .let_ (yok (yBg c)) (yJg c)
 else if w=1 then .reckon (yCC (yBg c)) (yok (yBg c)) (yok (yBg c/8)) (yok (yBg c/64))
 else if w=2 then .take (yok (yBg c)) (yok (yBg c/8))
 else if w=3 then .put (yok (yBg c)) (yok (yBg c/8))
 else if w=4 then .throw (yAf c) (yok (yBg c))
 else .wait
theorem ylW (a b:Str):(a++b).length=a.length+b.length:=by
 show (a.cps++b.cps).size=_
 simp [Str.length]
theorem ygq (sep:Str):∀ l:List Str,(Str.join sep l).length<=(l.map (·.length)).sum+sep.length*l.length
 | []=>Nat.zero_le _
 | [x]=>by simp [Str.join]
 | x::y::r=>by
  have ih:=ygq sep (y::r)
  show (x++sep++Str.join sep (y::r)).length<=_
  rw [ylW,ylW]
  simp only [List.map_cons,List.sum_cons,List.length_cons] at *
  have e:sep.length*(r.length+1+1)=sep.length*(r.length+1)+sep.length:=by rw [Nat.mul_succ]
  omega
theorem ycO (x:Str):(ycl x).length<=x.length+10:=by
 unfold ycl
 split
 .exact Nat.le_trans (show ("( )":Str).length<=10 by rfl') (Nat.le_add_left _ _)
 .have:=ygq " " ["(",x,")"]
  have e1:(" ":Str).length=1:=by rfl'
  have e2:("(":Str).length=1:=by rfl'
  have e3:(")":Str).length=1:=by rfl'
  simp only [List.map_cons,List.map_nil,List.sum_cons,List.sum_nil,List.length_cons,List.length_nil,e1,e2,e3] at this
  omega
theorem l1:(" ":Str).length=1:=by rfl'
theorem l3:(" ; ":Str).length=3:=by rfl'
theorem lk (s:Str) (h:s.length<=6):s.length<=6:=h
theorem yLj:("let":Str).length=3:=by rfl'
theorem yGE:("take":Str).length=4:=by rfl'
theorem yLk:("put":Str).length=3:=by rfl'
theorem yFm:("if":Str).length=2:=by rfl'
theorem yzm:("else":Str).length=4:=by rfl'
theorem yqz:("either":Str).length=6:=by rfl'
theorem yFn:("or":Str).length=2:=by rfl'
theorem yCD:("try":Str).length=3:=by rfl'
theorem yCE:("on":Str).length=2:=by rfl'
theorem yCF:("throw":Str).length=5:=by rfl'
theorem yLl:("wait":Str).length=4:=by rfl'
theorem yGF:("":Str).length=0:=by rfl'
mutual
theorem yCG:∀ t:T,(ycQ t).length<=wT t
 | .base=>by show ("":Str).length<=0;rw [yGF];omega
 | .let_ r n=>by
  have:=ygq " " ["let",r,(toString n:String)]
  simp only [List.map_cons,List.map_nil,List.sum_cons,List.sum_nil,List.length_cons,List.length_nil,l1,yLj] at this
  show (Str.join " " ["let",r,(toString n:String)]).length<=10+r.length+(Str.ofString (toString n)).length
  omega
 | .reckon w r s t=>by
  have:=ygq " " [w,r,s,t]
  simp only [List.map_cons,List.map_nil,List.sum_cons,List.sum_nil,List.length_cons,List.length_nil,l1] at this
  show (Str.join " " [w,r,s,t]).length<=10+w.length+r.length+s.length+t.length
  omega
 | .take r s=>by
  have:=ygq " " ["take",r,s]
  simp only [List.map_cons,List.map_nil,List.sum_cons,List.sum_nil,List.length_cons,List.length_nil,l1,yGE] at this
  show (Str.join " " ["take",r,s]).length<=10+r.length+s.length
  omega
 | .put s t=>by
  have:=ygq " " ["put",s,t]
  simp only [List.map_cons,List.map_nil,List.sum_cons,List.sum_nil,List.length_cons,List.length_nil,l1,yLk] at this
  show (Str.join " " ["put",s,t]).length<=10+s.length+t.length
  omega
 | .if_ r a b=>by
  have ha:=ybf a
  have hb:=ybf b
  have h1:=ycO (Str.join " ; " (yL a))
  have h2:=ycO (Str.join " ; " (yL b))
  have:=ygq " " ["if",r,ycl (Str.join " ; " (yL a)),"else",ycl (Str.join " ; " (yL b))]
  simp only [List.map_cons,List.map_nil,List.sum_cons,List.sum_nil,List.length_cons,List.length_nil,l1,yFm,yzm] at this
  show (Str.join " " ["if",r,ycl (Str.join " ; " (yL a)),"else",ycl (Str.join " ; " (yL b))]).length<=40+r.length+wL a+wL b
  omega
 | .either a b=>by
  have ha:=ybf a
  have hb:=ybf b
  have h1:=ycO (Str.join " ; " (yL a))
  have h2:=ycO (Str.join " ; " (yL b))
  have:=ygq " " ["either",ycl (Str.join " ; " (yL a)),"or",ycl (Str.join " ; " (yL b))]
  simp only [List.map_cons,List.map_nil,List.sum_cons,List.sum_nil,List.length_cons,List.length_nil,l1,yqz,yFn] at this
  show (Str.join " " ["either",ycl (Str.join " ; " (yL a)),"or",ycl (Str.join " ; " (yL b))]).length<=40+wL a+wL b
  omega
 | .try_ a nm r b=>by
  have ha:=ybf a
  have hb:=ybf b
  have h1:=ycO (Str.join " ; " (yL a))
  have h2:=ycO (Str.join " ; " (yL b))
  have:=ygq " " ["try",ycl (Str.join " ; " (yL a)),"on",nm,r,ycl (Str.join " ; " (yL b))]
  simp only [List.map_cons,List.map_nil,List.sum_cons,List.sum_nil,List.length_cons,List.length_nil,l1,yCD,yCE] at this
  show (Str.join " " ["try",ycl (Str.join " ; " (yL a)),"on",nm,r,ycl (Str.join " ; " (yL b))]).length<=40+nm.length+r.length+wL a+wL b
  omega
 | .throw nm r=>by
  have:=ygq " " ["throw",nm,r]
  simp only [List.map_cons,List.map_nil,List.sum_cons,List.sum_nil,List.length_cons,List.length_nil,l1,yCF] at this
  show (Str.join " " ["throw",nm,r]).length<=10+nm.length+r.length
  omega
 | .wait=>by show ("wait":Str).length<=10;rw [yLl];omega
theorem ymO:∀ ts:List T,((yL ts).map (·.length)).sum+5*ts.length<=wL ts/\(yL ts).length=ts.length
 | []=>⟨Nat.le_refl _,rfl⟩
 | t::r=>by
  have h1:=yCG t
  have h2:=ymO r
  refine ⟨?_,?_⟩
  .show ((ycQ t).length::(yL r).map (·.length)).sum+5*(t::r).length<=5+wT t+wL r
   simp only [List.sum_cons,List.length_cons]
   omega
  .show (ycQ t::yL r).length=_
   simp only [List.length_cons]
   omega
theorem ybf:∀ ts:List T,(Str.join " ; " (yL ts)).length<=wL ts:=fun ts=>by
 have h:=ymO ts
 have j:=ygq " ; " (yL ts)
 rw [l3,h.2] at j
 omega
end
theorem yvY:∀ ts:List T,ybE ts=ts.map yiw
 | []=>rfl
 | t::r=>by
  show yiw t::ybE r=_
  rw [yvY r];rfl
theorem ypg:∀ {ts:List T}{t:T},t∈ts->ylV t<=ybi ts
 | u::r,t,h=>by
  show ylV t<=max (ylV u) (ybi r)
  rcases List.mem_cons.mp h with rfl|h
  .omega
  .have:=ypg h
   omega
theorem yFo:∀ {ts:List T}{t:T},t∈ts->wT t<=wL ts
 | u::r,t,h=>by
  show wT t<=5+wT u+wL r
  rcases List.mem_cons.mp h with rfl|h
  .omega
  .have:=yFo h
   omega
theorem w_count:∀ ts:List T,5*ts.length<=wL ts
 | []=>Nat.le_refl _
 | t::r=>by
  have:=w_count r
  show 5*(r.length+1)<=5+wT t+wL r
  omega
theorem yhn (a b c:Str):a++b++c=a++(b++c):=by
 show (⟨(a.cps++b.cps)++c.cps⟩:Str)=⟨a.cps++(b.cps++c.cps)⟩
 rw [Array.append_assoc]
theorem ylC (a:Int) {b:Int}(h:0<b):0<=a%b/\a%b<b:=⟨Int.emod_nonneg a (by omega),Int.emod_lt_of_pos a h⟩
theorem yvZ (c at':Int):∀ k:Nat,(ylB c at' k).length=k
 | 0=>by show ("":Str).length=0;rfl'
 | k+1=>by
  show (ylB c at' k++nameStep c at' k).length=_
  rw [ylW,yvZ c at' k]
  rfl
theorem yLm (i:Int):∃ s,atI (wordsL.map PV.str) (i%8)=some (.str s)/\s=(wordsL[(i%8).toNat]?).getD ""/\s.length<=8:=by
 have h:=ylC i (show (0:Int)<8 by decide)
 generalize i%8=k at *
 have:k=0\/k=1\/k=2\/k=3\/k=4\/k=5\/k=6\/k=7:=by omega
 rcases this with rfl|rfl|rfl|rfl|rfl|rfl|rfl|rfl
 all_goals exact ⟨_,rfl,rfl,by rfl'⟩
theorem yLn (m:Int):∃ s,atI [PV.str "plus",PV.str "minus",PV.str "times",PV.str "less",PV.str "same"] (m/512%5)=some (.str s)/\s=yCC m/\s.length<=8:=by
 unfold yCC
 have h:=ylC (m/512) (show (0:Int)<5 by decide)
 generalize m/512%5=k at *
 have:k=0\/k=1\/k=2\/k=3\/k=4:=by omega
 rcases this with rfl|rfl|rfl|rfl|rfl
 all_goals exact ⟨_,rfl,rfl,by rfl'⟩
theorem yLo (c:Int):0<=yJg c/\yJg c<B64:=by
 unfold yJg B64
 repeat' split
 all_goals omega
theorem yGG:B64<10 ^ 20:=by decide
theorem yCH (w c:Int):ylV (yvX w c)=0:=by
 unfold yvX
 repeat' split
 all_goals rfl
theorem yCI {z:Str}{i:Int}(h0:0<=i) (h:i<z.cps.toList.length):atI z.cps.toList i=some ((z.cps.toList[i.toNat]?).getD 0):=by
 obtain ⟨j,rfl⟩:∃ j:Nat,i=(j:Int):=⟨i.toNat,by omega⟩
 have hl:j<z.cps.toList.length:=by omega
 rw [ynk (List.getElem?_eq_getElem hl),Int.toNat_natCast,List.getElem?_eq_getElem hl];rfl
def plain:T->Prop
 | .if_ ..=>False
 | .either ..=>False
 | .try_ ..=>False
 | _=>True
theorem yFp (sep x:Str) (r:List Str) (h:1<=x.length):1<=(Str.join sep (x::r)).length:=by
 cases r with
 | nil=>exact h
 | cons y r =>
  show 1<=(x++sep++Str.join sep (y::r)).length
  rw [ylW,ylW];omega
mutual
noncomputable def ybd:T->PV
 | .base=>.ins 0 [] []
 | .let_ r n=>.ins 1 ["slot","number"] [.str r,.int n]
 | .reckon w r s t=>.ins 2 ["word","slot","one","other"] [.str w,.str r,.str s,.str t]
 | .take r s=>.ins 3 ["slot","place"] [.str r,.str s]
 | .put s t=>.ins 4 ["place","slot"] [.str s,.str t]
 | .if_ r a b=>.ins 5 ["slot","parts","others"] [.str r,.lst (yG a),.lst (yG b)]
 | .either a b=>.ins 6 ["parts","others"] [.lst (yG a),.lst (yG b)]
 | .try_ a nm r b=>.ins 7 ["parts","name","slot","others"] [.lst (yG a),.str nm,.str r,.lst (yG b)]
 | .throw nm r=>.ins 8 ["name","slot"] [.str nm,.str r]
 | .wait=>.ins 9 [] []
noncomputable def yG:List T->List PV
 | []=>[]
 | t::r=>ybd t::yG r
end
theorem yki:∀ ts:List T,yG ts=ts.map ybd
 | []=>rfl
 | t::r=>by show ybd t::yG r=_;rw [yki r];rfl
section
variable {h:AH}
theorem yCJ (c:Int):ydB [.int c] h=some (.str (yok c),h):=by
 unfold ydB
 rw [yK]
 show ob (ybq _ [.val (.int c)] h) fnK=_
 have b:=ylC c (show (0:Int)<8 by decide)
 walk_at "px"
 rw [yCI (z:="abcdefgh") b.1 (by rw [show ("abcdefgh":Str).cps.toList.length=8 by rfl'];exact b.2)]
 rfl
theorem yCK (c:Int):ygo [.int c] h=some (.int (yJg c),h):=by
 unfold ygo
 rw [yK]
 show ob (yw _ _ [.val (.int c)] h) fnK=_
 walk_at "px"
 unfold yJg
 split
 .rfl
 .split<;>rfl
theorem yFq (c:Int):yhl [.int c] h=some (.bl true,h):=by
 unfold yhl
 rw [yK]
 show ob (ybq _ [.val (.int c)] h) fnK=_
 walk_at "px"
 rfl
theorem yCL (c:Int):yfR [.int c] h=some (.str (yAf c),h):=by
 unfold yfR
 rw [yK]
 show ob (yw _ _ [.val (.int c),.no,.no,.no,.no,.no,.no] h) fnK=_
 have b:=ylC (c/4) (show (0:Int)<8 by decide)
 walk_at "px"
 unfold yAf
 split
 .obtain ⟨s,h1,h2,_⟩:=yLm (c/4)
  rw [show [PV.str "on",PV.str "else",PV.str "a",PV.str "wait",PV.str "or",PV.str "let",PV.str "throw",PV.str "if"]=wordsL.map PV.str from rfl,h1,<- h2]
  rfl
 rw [if_pos (by omega)]
 rw [yGu (j:=1+c/4%8) (h1:=h) (by walk_at "px") (by omega) (by omega),yfG]
 generalize hz:1+c/4%8=sz at *
 refine yCm (fun i ρ h1=>∃ c1 c2:PVar,ρ=[.val (.int c),.val (.str "abcdefghijklmnopqrstuvwxyz"),.val (.int sz),.val (.int (c/32%sz)),.val (.str (ylB c (c/32%sz) i)),c1,c2]/\h1=h) ⟨.no,.no,rfl,rfl⟩ ?_ ?_
 .rintro i x ρ h1 hx ⟨c1,c2,rfl,rfl⟩
  obtain ⟨hi,rfl⟩:=yId hx
  rw [Int.zero_add]
  have hat:∀ k:Int,atI ("abcdefghijklmnopqrstuvwxyz":Str).cps.toList (k%26)=some ((("abcdefghijklmnopqrstuvwxyz":Str).cps.toList[(k%26).toNat]?).getD 0):=fun k=>yCI (ylC k (by decide)).1 (by rw [show ("abcdefghijklmnopqrstuvwxyz":Str).cps.toList.length=26 by rfl'];exact (ylC k (by decide)).2)
  have hm:MulOk (i:Int) (i:Int):=.inl ⟨by omega,by omega⟩
  refine ⟨_,[.val (.int c),.val (.str "abcdefghijklmnopqrstuvwxyz"),.val (.int sz),.val (.int (c/32%sz)),.val (.str (ylB c (c/32%sz) (i+1))),.val (.int i),.val (.int (if (i:Int)=c/32%sz then c/256+(i:Int)*i+c/6656 else c/256+(i:Int)*i))],h1,rfl,.inl ?_,_,_,rfl,rfl⟩
  walk_at "px"
  rw [if_pos hm]
  split
  .rename_i hk
   rw [hat,Option.bind_some]
   simp only [yfG,yza,sgn]
   rw [if_pos (by rw [yvZ];show i+1<=100000;omega)]
   simp only [yfG,Option.bind_some,ylB,nameStep,if_pos hk]
   rfl
  .rename_i hk
   rw [hat,Option.bind_some]
   simp only [yfG,yza,sgn]
   rw [if_pos (by rw [yvZ];show i+1<=100000;omega)]
   simp only [yfG,Option.bind_some,ylB,nameStep,if_neg hk]
   rfl
 .rintro ρ' h' ⟨c1,c2,rfl,rfl⟩
  walk_at "px"
  rw [yCn]
theorem ygK {sep:Str}{xs:List PV}{ts:List Str}(e:strsOf xs=some ts) (hs:sep.length<=16) (hl:(ts.map (·.length)).sum+ts.length<=1048576):ykx (.str sep) [.lst xs] h=some (.str (Str.join sep ts),h):=by
 unfold ykx yey
 simp only [e]
 exact if_pos ⟨hs,hl⟩
theorem j1:(" ":Str).length<=16:=by rfl'
theorem yCM {r:Str}{n:Int}(hz:n.natAbs.log2<1920) (hw:wT (.let_ r n)<=100000):yit [ybd (.let_ r n)] h=some (.str (ycQ (.let_ r n)),h):=by
 have hw:10+r.length+(Str.ofString (toString n)).length<=100000:=hw
 unfold yit
 rw [yK]
 show ob (ybq _ [.val (.ins 1 ["slot","number"] [.str r,.int n])] h) fnK=_
 walk_at "px"
 rw [if_pos hz]
 rw [ygK (ts:=["let",r,(toString n:String)]) rfl j1 (by simp only [List.map_cons,List.map_nil,List.sum_cons,List.sum_nil,List.length_cons,List.length_nil,yLj];omega)]
 rfl
theorem ywa {w r s t:Str}(hw:wT (.reckon w r s t)<=100000):yfH [ybd (.reckon w r s t)] h=some (.str (ycQ (.reckon w r s t)),h):=by
 have hw:10+w.length+r.length+s.length+t.length<=100000:=hw
 unfold yfH
 rw [yK]
 show ob (ybq _ [.val (.ins 2 ["word","slot","one","other"] [.str w,.str r,.str s,.str t])] h) fnK=_
 walk_at "px"
 rw [ygK (ts:=[w,r,s,t]) rfl j1 (by simp only [List.map_cons,List.map_nil,List.sum_cons,List.sum_nil,List.length_cons,List.length_nil];omega)]
 rfl
theorem yAg {r s:Str}(hw:wT (.take r s)<=100000):yhk [ybd (.take r s)] h=some (.str (ycQ (.take r s)),h):=by
 have hw:10+r.length+s.length<=100000:=hw
 unfold yhk
 rw [yK]
 show ob (ybq _ [.val (.ins 3 ["slot","place"] [.str r,.str s])] h) fnK=_
 walk_at "px"
 rw [ygK (ts:=["take",r,s]) rfl j1 (by simp only [List.map_cons,List.map_nil,List.sum_cons,List.sum_nil,List.length_cons,List.length_nil,yGE];omega)]
 rfl
theorem yCN {s t:Str}(hw:wT (.put s t)<=100000):yiu [ybd (.put s t)] h=some (.str (ycQ (.put s t)),h):=by
 have hw:10+s.length+t.length<=100000:=hw
 unfold yiu
 rw [yK]
 show ob (ybq _ [.val (.ins 4 ["place","slot"] [.str s,.str t])] h) fnK=_
 walk_at "px"
 rw [ygK (ts:=["put",s,t]) rfl j1 (by simp only [List.map_cons,List.map_nil,List.sum_cons,List.sum_nil,List.length_cons,List.length_nil,yLk];omega)]
 rfl
theorem yxT {nm r:Str}(hw:wT (.throw nm r)<=100000):ygn [ybd (.throw nm r)] h=some (.str (ycQ (.throw nm r)),h):=by
 have hw:10+nm.length+r.length<=100000:=hw
 unfold ygn
 rw [yK]
 show ob (ybq _ [.val (.ins 8 ["name","slot"] [.str nm,.str r])] h) fnK=_
 walk_at "px"
 rw [ygK (ts:=["throw",nm,r]) rfl j1 (by simp only [List.map_cons,List.map_nil,List.sum_cons,List.sum_nil,List.length_cons,List.length_nil,yCF];omega)]
 rfl
theorem yAh:yje [ybd .base] h=some (.str (ycQ .base),h):=rfl
theorem yAi:yjf [ybd .wait] h=some (.str (ycQ .wait),h):=rfl
theorem yxU {i:Nat}{ρ:PSt}{xs:List PV}(e:yj i ρ h=some (.lst xs,h)):xIL (yj i) ρ h=some (xs,h):=yGs e
mutual
noncomputable def yrc:T->Prop
 | .let_ _ n=>n.natAbs.log2<1920
 | .if_ _ a b=>yix a/\yix b
 | .either a b=>yix a/\yix b
 | .try_ a _ _ b=>yix a/\yix b
 | _=>True
noncomputable def yix:List T->Prop
 | []=>True
 | t::r=>yrc t/\yix r
end
theorem yrd:∀ {ts:List T}{t:T},yix ts->t∈ts->yrc t
 | t::r,u,h,hm=>by
  rcases List.mem_cons.mp hm with e|e
  .rw [e];exact h.1
  .exact yrd h.2 e
theorem yAj (t:T):∃ ns xs,ybd t=.ins (kd t) ns xs/\("shown":Str)∉ns/\("long":Str)∉ns:=by
 cases t
 all_goals exact ⟨_,_,rfl,by rfl',by rfl'⟩
theorem yre {m:Str}{f:Nat->Fn}(t:T) (hm:m = "shown"\/m = "long"):yjb m f (ybd t) h=f (kd t) [ybd t] h:=by
 obtain ⟨ns,xs,e,h1,h2⟩:=yAj t
 rw [e]
 rcases hm with rfl|rfl
 .exact ycj h1
 .exact ycj h2
theorem ytj:∀ ts:List T,strsOf ((yL ts).map PV.str)=some (yL ts):=fun ts=>ytc _
def yph (n:Nat):Prop:=∀ (h:AH) (t:T),4*ylV t+1<=n->wT t<=100000->yrc t->ylS n (kd t) [ybd t] h=some (.str (ycQ t),h)
theorem yol {n:Nat}(G:yph n) {ts:List T}(hd:4*ybi ts+1<=n) (hw:wL ts<=100000) (hn:yix ts):ygf (n+1) [.lst (yG ts)] h=some (.str (Str.join " ; " (yL ts)),h):=by
 unfold ygf
 rw [yK]
 show ob (ybq _ [.val (.lst (yG ts))] h) fnK=_
 have wc:=w_count ts
 have sl:=ymO ts
 walk_at "px"
 rw [yxU rfl,yfG,yki]
 rw [if_pos (by rw [List.length_map];omega)]
 have e:yqy (ylE "shown" (ylS n) (yj 0)) (yob [] [PVar.val (PV.lst (ts.map ybd))]) (ts.map ybd) h=some ((yL ts).map PV.str,h):=by
  have:∀ us:List T,(∀ t∈us,t∈ts)->yqy (ylE "shown" (ylS n) (yj 0)) (yob [] [PVar.val (PV.lst (ts.map ybd))]) (us.map ybd) h=some ((yL us).map PV.str,h):=by
   intro us
   induction us with
   | nil=>intro _;rfl
   | cons t r ih =>
    intro hm
    have ht:=hm t List.mem_cons_self
    have e1:ylE "shown" (ylS n) (yj 0) (yob [] [PVar.val (PV.lst (ts.map ybd))] (ybd t)) h=some (.str (ycQ t),h):=by
     show ylE "shown" (ylS n) (yj 0) [.val (ybd t)] h=_
     rw [yyZ,yyY,yfG,yre t (.inl rfl)]
     have:=ypg ht
     have:=yFo ht
     exact G h t (by omega) (by omega) (yrd hn ht)
    show ob (ylE "shown" (ylS n) (yj 0) (yob [] [PVar.val (PV.lst (ts.map ybd))] (ybd t)) h) _=_
    rw [e1,yfG,ih fun u hu=>hm u (List.mem_cons_of_mem _ hu)]
    rfl
  exact this ts fun _ h=>h
 rw [e]
 walk_at "px"
 rw [ygK (ytj ts) (by rw [l3];decide) (by omega)]
 rfl
theorem yfj {n:Nat}(G:yph n) {ts:List T}(hd:4*ybi ts+1<=n) (hw:wL ts<=100000) (hn:yix ts):ydb (n+2) [.lst (yG ts)] h=some (.str (ycl (Str.join " ; " (yL ts))),h):=by
 unfold ydb
 rw [yK]
 show ob (yw _ _ [.val (.lst (yG ts)),.no] h) fnK=_
 have hl:=ybf ts
 walk_at "px"
 rw [yol G hd hw hn]
 unfold ycl
 generalize Str.join " ; " (yL ts)=z at *
 walk_at "px"
 split
 .rfl
 .rw [ygK (ts:=["(",z,")"]) rfl j1 (by
   have e2:("(":Str).length=1:=by rfl'
   have e3:(")":Str).length=1:=by rfl'
   simp only [List.map_cons,List.map_nil,List.sum_cons,List.sum_nil,List.length_cons,List.length_nil,e2,e3]
   omega)]
  rfl
theorem yFr {n:Nat}(G:yph n) {r:Str}{x y:List T}(hd:4*ylV (.if_ r x y)+1<=n+4) (hw:wT (.if_ r x y)<=100000) (hn:yrc (.if_ r x y)):ymN (n+3) [ybd (.if_ r x y)] h=some (.str (ycQ (.if_ r x y)),h):=by
 have hd:4*(1+max (ybi x) (ybi y))+1<=n+4:=hd
 have hw:40+r.length+wL x+wL y<=100000:=hw
 have b1:=ycO (Str.join " ; " (yL x))
 have b2:=ycO (Str.join " ; " (yL y))
 have c1:=ybf x
 have c2:=ybf y
 unfold ymN
 rw [yK]
 show ob (ybq _ [.val (.ins 5 ["slot","parts","others"] [.str r,.lst (yG x),.lst (yG y)])] h) fnK=_
 walk_at "px"
 rw [yfj G (ts:=x) (by omega) (by omega) hn.1]
 walk_at "px"
 rw [yfj G (ts:=y) (by omega) (by omega) hn.2]
 walk_at "px"
 rw [ygK (ts:=["if",r,ycl (Str.join " ; " (yL x)),"else",ycl (Str.join " ; " (yL y))]) rfl j1 (by simp only [List.map_cons,List.map_nil,List.sum_cons,List.sum_nil,List.length_cons,List.length_nil,yFm,yzm,yqz,yFn,yCD,yCE];omega)]
 rfl
theorem ywb {n:Nat}(G:yph n) {x y:List T}(hd:4*ylV (.either x y)+1<=n+4) (hw:wT (.either x y)<=100000) (hn:yrc (.either x y)):yhc (n+3) [ybd (.either x y)] h=some (.str (ycQ (.either x y)),h):=by
 have hd:4*(1+max (ybi x) (ybi y))+1<=n+4:=hd
 have hw:40+wL x+wL y<=100000:=hw
 have b1:=ycO (Str.join " ; " (yL x))
 have b2:=ycO (Str.join " ; " (yL y))
 have c1:=ybf x
 have c2:=ybf y
 unfold yhc
 rw [yK]
 show ob (ybq _ [.val (.ins 6 ["parts","others"] [.lst (yG x),.lst (yG y)])] h) fnK=_
 walk_at "px"
 rw [yfj G (ts:=x) (by omega) (by omega) hn.1]
 walk_at "px"
 rw [yfj G (ts:=y) (by omega) (by omega) hn.2]
 walk_at "px"
 rw [ygK (ts:=["either",ycl (Str.join " ; " (yL x)),"or",ycl (Str.join " ; " (yL y))]) rfl j1 (by simp only [List.map_cons,List.map_nil,List.sum_cons,List.sum_nil,List.length_cons,List.length_nil,yFm,yzm,yqz,yFn,yCD,yCE];omega)]
 rfl
theorem yCO {n:Nat}(G:yph n) {nm r:Str}{x y:List T}(hd:4*ylV (.try_ x nm r y)+1<=n+4) (hw:wT (.try_ x nm r y)<=100000) (hn:yrc (.try_ x nm r y)):ykB (n+3) [ybd (.try_ x nm r y)] h=some (.str (ycQ (.try_ x nm r y)),h):=by
 have hd:4*(1+max (ybi x) (ybi y))+1<=n+4:=hd
 have hw:40+nm.length+r.length+wL x+wL y<=100000:=hw
 have b1:=ycO (Str.join " ; " (yL x))
 have b2:=ycO (Str.join " ; " (yL y))
 have c1:=ybf x
 have c2:=ybf y
 unfold ykB
 rw [yK]
 show ob (ybq _ [.val (.ins 7 ["parts","name","slot","others"] [.lst (yG x),.str nm,.str r,.lst (yG y)])] h) fnK=_
 walk_at "px"
 rw [yfj G (ts:=x) (by omega) (by omega) hn.1]
 walk_at "px"
 rw [yfj G (ts:=y) (by omega) (by omega) hn.2]
 walk_at "px"
 rw [ygK (ts:=["try",ycl (Str.join " ; " (yL x)),"on",nm,r,ycl (Str.join " ; " (yL y))]) rfl j1 (by simp only [List.map_cons,List.map_nil,List.sum_cons,List.sum_nil,List.length_cons,List.length_nil,yFm,yzm,yqz,yFn,yCD,yCE];omega)]
 rfl
theorem yqA:∀ n:Nat,yph n
 | 0=>fun h t hd=>by omega
 | n+1=>fun h t hd hw hn=>by
  cases t with
  | base=>exact yAh
  | let_ r m=>exact yCM hn hw
  | reckon w r s u=>exact ywa hw
  | take r s=>exact yAg hw
  | put r s=>exact yCN hw
  | throw nm r=>exact yxT hw
  | wait=>exact yAi
  | if_ r x y =>
   have h1:4*(1+max (ybi x) (ybi y))+1<=n+1:=hd
   obtain ⟨m,rfl⟩:∃ m,n=m+3:=⟨n-3,by omega⟩
   exact yFr (yqA m) hd hw hn
  | either x y =>
   have h1:4*(1+max (ybi x) (ybi y))+1<=n+1:=hd
   obtain ⟨m,rfl⟩:∃ m,n=m+3:=⟨n-3,by omega⟩
   exact ywb (yqA m) hd hw hn
  | try_ x nm r y =>
   have h1:4*(1+max (ybi x) (ybi y))+1<=n+1:=hd
   obtain ⟨m,rfl⟩:∃ m,n=m+3:=⟨n-3,by omega⟩
   exact yCO (yqA m) hd hw hn
def ywc (n:Nat):Prop:=∀ (h:AH) (t:T),3*ylV t+1<=n->wT t<=100000->ylA n (kd t) [ybd t] h=some (.int (yiw t),h)
theorem yeP {n:Nat}(G:ywc n) {ts:List T}(hd:3*ybi ts+1<=n) (hw:wL ts<=100000):ycE (n+1) [.lst (yG ts)] h=some (.int (ybE ts).sum,h):=by
 unfold ycE
 rw [yK]
 show ob (ybq _ [.val (.lst (yG ts))] h) fnK=_
 have wc:=w_count ts
 walk_at "px"
 rw [yxU rfl,yfG,yki]
 rw [if_pos (by rw [List.length_map];omega)]
 have e:yqy (ylE "long" (ylA n) (yj 0)) (yob [] [PVar.val (PV.lst (ts.map ybd))]) (ts.map ybd) h=some ((ybE ts).map PV.int,h):=by
  have:∀ us:List T,(∀ t∈us,t∈ts)->yqy (ylE "long" (ylA n) (yj 0)) (yob [] [PVar.val (PV.lst (ts.map ybd))]) (us.map ybd) h=some ((ybE us).map PV.int,h):=by
   intro us
   induction us with
   | nil=>intro _;rfl
   | cons t r ih =>
    intro hm
    have ht:=hm t List.mem_cons_self
    have e1:ylE "long" (ylA n) (yj 0) (yob [] [PVar.val (PV.lst (ts.map ybd))] (ybd t)) h=some (.int (yiw t),h):=by
     show ylE "long" (ylA n) (yj 0) [.val (ybd t)] h=_
     rw [yyZ,yyY,yfG,yre t (.inr rfl)]
     have:=ypg ht
     have:=yFo ht
     exact G h t (by omega) (by omega)
    show ob (ylE "long" (ylA n) (yj 0) (yob [] [PVar.val (PV.lst (ts.map ybd))] (ybd t)) h) _=_
    rw [e1,yfG,ih fun u hu=>hm u (List.mem_cons_of_mem _ hu)]
    rfl
  exact this ts fun _ h=>h
 rw [e]
 walk_at "px"
 show ob (yBe [.lst ((ybE ts).map PV.int)] h) _=_
 unfold yBe yey
 simp only [ymK]
 rfl
theorem yIx {n:Nat}(G:ywc n) {r:Str}{x y:List T}(hd:3*ylV (.if_ r x y)+1<=n+3) (hw:wT (.if_ r x y)<=100000):yoi (n+2) [ybd (.if_ r x y)] h=some (.int (yiw (.if_ r x y)),h):=by
 have hd:3*(1+max (ybi x) (ybi y))+1<=n+3:=hd
 have hw:40+r.length+wL x+wL y<=100000:=hw
 unfold yoi
 rw [yK]
 show ob (ybq _ [.val (.ins 5 ["slot","parts","others"] [.str r,.lst (yG x),.lst (yG y)])] h) fnK=_
 walk_at "px"
 rw [yeP G (ts:=x) (by omega) (by omega)]
 walk_at "px"
 rw [yeP G (ts:=y) (by omega) (by omega)]
 walk_at "px"
 rfl
theorem yxV {n:Nat}(G:ywc n) {x y:List T}(hd:3*ylV (.either x y)+1<=n+3) (hw:wT (.either x y)<=100000):yhS (n+2) [ybd (.either x y)] h=some (.int (yiw (.either x y)),h):=by
 have hd:3*(1+max (ybi x) (ybi y))+1<=n+3:=hd
 have hw:40+wL x+wL y<=100000:=hw
 unfold yhS
 rw [yK]
 show ob (ybq _ [.val (.ins 6 ["parts","others"] [.lst (yG x),.lst (yG y)])] h) fnK=_
 walk_at "px"
 rw [yeP G (ts:=x) (by omega) (by omega)]
 walk_at "px"
 rw [yeP G (ts:=y) (by omega) (by omega)]
 walk_at "px"
 rfl
theorem yFs {n:Nat}(G:ywc n) {nm r:Str}{x y:List T}(hd:3*ylV (.try_ x nm r y)+1<=n+3) (hw:wT (.try_ x nm r y)<=100000):ymM (n+2) [ybd (.try_ x nm r y)] h=some (.int (yiw (.try_ x nm r y)),h):=by
 have hd:3*(1+max (ybi x) (ybi y))+1<=n+3:=hd
 have hw:40+nm.length+r.length+wL x+wL y<=100000:=hw
 unfold ymM
 rw [yK]
 show ob (ybq _ [.val (.ins 7 ["parts","name","slot","others"] [.lst (yG x),.str nm,.str r,.lst (yG y)])] h) fnK=_
 walk_at "px"
 rw [yeP G (ts:=x) (by omega) (by omega)]
 walk_at "px"
 rw [yeP G (ts:=y) (by omega) (by omega)]
 walk_at "px"
 rfl
theorem yrf:∀ n:Nat,ywc n
 | 0=>fun h t hd=>by omega
 | n+1=>fun h t hd hw=>by
  cases t with
  | base=>rfl
  | let_ r m=>rfl
  | reckon w r s u=>rfl
  | take r s=>rfl
  | put r s=>rfl
  | throw nm r=>rfl
  | wait=>rfl
  | if_ r x y =>
   have h1:3*(1+max (ybi x) (ybi y))+1<=n+1:=hd
   obtain ⟨m,rfl⟩:∃ m,n=m+2:=⟨n-2,by omega⟩
   exact yIx (yrf m) hd hw
  | either x y =>
   have h1:3*(1+max (ybi x) (ybi y))+1<=n+1:=hd
   obtain ⟨m,rfl⟩:∃ m,n=m+2:=⟨n-2,by omega⟩
   exact yxV (yrf m) hd hw
  | try_ x nm r y =>
   have h1:3*(1+max (ybi x) (ybi y))+1<=n+1:=hd
   obtain ⟨m,rfl⟩:∃ m,n=m+2:=⟨n-2,by omega⟩
   exact yFs (yrf m) hd hw
end
def yBh (m:Nat):List Nat:=(Nat.toDigits 10 m).map Char.toNat
theorem yLp:∀ d:Nat,d<10->(Nat.digitChar d).toNat=48+d:=by
 intro d h
 have:d=0\/d=1\/d=2\/d=3\/d=4\/d=5\/d=6\/d=7\/d=8\/d=9:=by omega
 rcases this with rfl|rfl|rfl|rfl|rfl|rfl|rfl|rfl|rfl|rfl
 all_goals decide
theorem yFt (cs:List Nat) (c:Nat):yHk (cs++[c])=yHk cs*10+((c:Int)-48):=by
 unfold yHk
 rw [List.foldl_append];rfl
theorem yCP:∀ m:Nat,yBh m≠[]/\(∀ c∈yBh m,48<=c/\c<=57)/\yHk (yBh m)=m/\(m≠0->(yBh m)[0]?≠some 48)/\(m=0->yBh m=[48]):=by
 intro m
 induction m using Nat.strongRecOn with
 | ind m ih =>
  unfold yBh at *
  by_cases h:m<10
  .rw [Nat.toDigits_of_lt_base h,List.map_singleton,yLp m h]
   refine ⟨by simp,fun c hc=>?_,?_,fun hm e=>?_,fun e=>by subst e;rfl⟩
   .rw [List.mem_singleton.mp hc];omega
   .show (0:Int)*10+(((48+m:Nat):Int)-48)=m
    omega
   .have:48+m=48:=by simpa using e
    omega
  .rw [Nat.toDigits_of_base_le (by decide) (by omega),List.map_append,List.map_singleton,yLp (m%10) (by omega)]
   obtain ⟨h1,h2,h3,h4,h5⟩:=ih (m/10) (by omega)
   refine ⟨by simp,fun c hc=>?_,?_,fun _ e=>?_,fun e=>by omega⟩
   .rcases List.mem_append.mp hc with hc|hc
    .exact h2 c hc
    .rw [List.mem_singleton.mp hc];omega
   .rw [yFt,h3];omega
   .refine h4 (by omega) ?_
    generalize (Nat.toDigits 10 (m/10)).map Char.toNat=l at *
    cases l with
    | nil=>exact absurd rfl h1
    | cons a l=>simpa using e
theorem yCQ {n:Int}(h:0<=n):(Str.ofString (toString n)).cps.toList=yBh n.toNat:=by
 obtain ⟨m,rfl⟩:∃ m:Nat,n=m:=⟨n.toNat,by omega⟩
 rw [Str.ofString_eq_toList]
 show (toString m).toList.map Char.toNat=_
 rw [Int.toNat_natCast,show (toString m)=m.repr from rfl,Nat.toList_repr];rfl
def ygL (r:Str):Prop:=∃ c:Nat,97<=c/\c<=104/\r=⟨#[c]⟩
def ytk (z:Str):Prop:=1<=z.length/\z.length<=8/\∀ c∈z.cps.toList,97<=c/\c<=122
def ywd (w:Str):Prop:=w = "plus"\/w = "minus"\/w = "times"\/w = "less"\/w = "same"
mutual
noncomputable def gdT:T->Prop
 | .base=>False
 | .let_ r n=>ygL r/\0<=n/\n<B64
 | .reckon w r s t=>ywd w/\ygL r/\ygL s/\ygL t
 | .take r s=>ygL r/\ygL s
 | .put r s=>ygL r/\ygL s
 | .if_ r a b=>ygL r/\gdL a/\gdL b
 | .either a b=>gdL a/\gdL b
 | .try_ a nm r b=>ytk nm/\ygL r/\gdL a/\gdL b
 | .throw nm r=>ytk nm/\ygL r
 | .wait=>True
noncomputable def gdL:List T->Prop
 | []=>True
 | t::r=>gdT t/\gdL r
end
def wsd (l:List Str):List Str:=("(":Str)::(l++[(")":Str)])
mutual
noncomputable def wdT:T->List Str
 | .base=>[]
 | .let_ r n=>["let",r,(toString n:String)]
 | .reckon w r s t=>[w,r,s,t]
 | .take r s=>["take",r,s]
 | .put s t=>["put",s,t]
 | .if_ r a b=>("if":Str)::r::(wsd (wdL a)++("else":Str)::wsd (wdL b))
 | .either a b=>("either":Str)::(wsd (wdL a)++("or":Str)::wsd (wdL b))
 | .try_ a nm r b=>("try":Str)::(wsd (wdL a)++("on":Str)::nm::r::wsd (wdL b))
 | .throw nm r=>["throw",nm,r]
 | .wait=>["wait"]
noncomputable def wdL:List T->List Str
 | []=>[]
 | t::r=>wdT t++wdR r
noncomputable def wdR:List T->List Str
 | []=>[]
 | t::r=>";"::(wdT t++wdR r)
end
theorem yFu:∀ {t:T},gdT t->wdT t≠[]
 | .base,g=>g.elim
 | .let_ ..,_=>fun z=>by cases z
 | .reckon ..,_=>fun z=>by cases z
 | .take ..,_=>fun z=>by cases z
 | .put ..,_=>fun z=>by cases z
 | .if_ ..,_=>fun z=>by cases z
 | .either ..,_=>fun z=>by cases z
 | .try_ ..,_=>fun z=>by cases z
 | .throw ..,_=>fun z=>by cases z
 | .wait,_=>fun z=>by cases z
theorem yfk {sep:Str}:∀ {a b:List Str},a≠[]->b≠[]->Str.join sep (a++b)=Str.join sep a++sep++Str.join sep b
 | [],_,h,_=>absurd rfl h
 | [x],[],_,h=>absurd rfl h
 | [x],y::b,_,_=>rfl
 | x::y::a,b,_,hb=>by
  have ih:=yfk (sep:=sep) (a:=y::a) (b:=b) (fun z=>by cases z) hb
  show x++sep++Str.join sep ((y::a)++b)=x++sep++Str.join sep (y::a)++sep++Str.join sep b
  rw [ih];simp only [yhn]
theorem ywe {sep x:Str}{b:List Str}(h:b≠[]):Str.join sep (x::b)=x++sep++Str.join sep b:=yfk (a:=[x]) (fun z=>by cases z) h
theorem yLq:(" ; ":Str) = " "++";"++" ":=by rfl'
theorem yLr:("( )":Str) = "("++" "++")":=by rfl'
def fr (w:Str):Prop:=32∉w.cps.toList/\w.length≠0/\w.length<=20
theorem ycU {r:Str}(h:ygL r):fr r:=by
 obtain ⟨c,h1,h2,rfl⟩:=h
 refine ⟨fun z=>?_,(fun z:1=0=>by cases z),(show 1<=20 by decide)⟩
 have:32=c:=by simpa using z
 omega
theorem ytU {r:Str}(h:ytk r):fr r:=⟨fun z=>by have:=h.2.2 _ z;omega,by have:=h.1;omega,by have:=h.2.1;omega⟩
theorem yCR {n:Int}(h:0<=n) (h2:n<B64):fr (toString n:String):=by
 have e:=yCQ h
 obtain ⟨h3,h4,_⟩:=yCP n.toNat
 refine ⟨fun z=>?_,fun z=>h3 ?_,str_len h (by decide) (Int.lt_trans h2 yGG)⟩
 .rw [e] at z
  have:=h4 _ z
  omega
 .rw [<- e]
  have:(Str.ofString (toString n)).cps.size=0:=z
  exact List.eq_nil_of_length_eq_zero (by simpa using this)
theorem yCS {r:Str}(h:ywd r):fr r:=by
 rcases h with rfl|rfl|rfl|rfl|rfl
 all_goals exact ⟨by rfl',by rfl',by rfl'⟩
theorem yzn (s:Str) (h:decide (32∉s.cps.toList/\s.length≠0/\s.length<=20)=true):fr s:=(show 32∉s.cps.toList/\s.length≠0/\s.length<=20 from of_decide_eq_true h)
def frs (l:List Str):Prop:=∀ w∈l,fr w
theorem ykC:frs []:=fun _ h=>by cases h
theorem ybk {w:Str}{l:List Str}(h:fr w) (k:frs l):frs (w::l):=fun x hx=>(List.mem_cons.mp hx).elim (fun e=>e ▸ h) (k x)
theorem ypi {a b:List Str}(h:frs a) (k:frs b):frs (a++b):=fun x hx=>(List.mem_append.mp hx).elim (h x) (k x)
theorem yNY:fr "let":=yzn _ (by rfl')
theorem yLs:fr "take":=yzn _ (by rfl')
theorem yNZ:fr "put":=yzn _ (by rfl')
theorem yPh:fr "if":=yzn _ (by rfl')
theorem yLt:fr "else":=yzn _ (by rfl')
theorem yFv:fr "either":=yzn _ (by rfl')
theorem yPi:fr "or":=yzn _ (by rfl')
theorem yOa:fr "try":=yzn _ (by rfl')
theorem yPj:fr "on":=yzn _ (by rfl')
theorem yIy:fr "throw":=yzn _ (by rfl')
theorem yLu:fr "wait":=yzn _ (by rfl')
theorem yPk:fr "(":=yzn _ (by rfl')
theorem yPl:fr ")":=yzn _ (by rfl')
theorem yPm:fr ";":=yzn _ (by rfl')
theorem ytl {l:List Str}(h:frs l):frs (wsd l):=ybk yPk (ypi h (ybk yPl ykC))
mutual
theorem yIz:∀ {t:T},gdT t->frs (wdT t)
 | .base,g=>g.elim
 | .let_ r n,g=>ybk yNY (ybk (ycU g.1) (ybk (yCR g.2.1 g.2.2) ykC))
 | .reckon w r s t,g=>ybk (yCS g.1) (ybk (ycU g.2.1) (ybk (ycU g.2.2.1) (ybk (ycU g.2.2.2) ykC)))
 | .take r s,g=>ybk yLs (ybk (ycU g.1) (ybk (ycU g.2) ykC))
 | .put r s,g=>ybk yNZ (ybk (ycU g.1) (ybk (ycU g.2) ykC))
 | .if_ r a b,g=>ybk yPh (ybk (ycU g.1) (ypi (ytl (ynr g.2.1)) (ybk yLt (ytl (ynr g.2.2)))))
 | .either a b,g=>ybk yFv (ypi (ytl (ynr g.1)) (ybk yPi (ytl (ynr g.2))))
 | .try_ a nm r b,g=>ybk yOa (ypi (ytl (ynr g.2.2.1)) (ybk yPj (ybk (ytU g.1) (ybk (ycU g.2.1) (ytl (ynr g.2.2.2))))))
 | .throw nm r,g=>ybk yIy (ybk (ytU g.1) (ybk (ycU g.2) ykC))
 | .wait,_=>ybk yLu ykC
theorem ynr:∀ {ts:List T},gdL ts->frs (wdL ts)
 | [],_=>ykC
 | _::_,g=>ypi (yIz g.1) (yLv g.2)
theorem yLv:∀ {ts:List T},gdL ts->frs (wdR ts)
 | [],_=>ykC
 | _::_,g=>ybk yPm (ypi (yIz g.1) (yLv g.2))
end
theorem yxW {sep:Str}{l:List Str}(h:frs l) (hl:l≠[]):Str.join sep l≠"":=by
 cases l with
 | nil=>exact absurd rfl hl
 | cons x r =>
  intro e
  have h1:=(h x List.mem_cons_self).2.1
  have:=yFp sep x r (by omega)
  rw [e,yGF] at this
  omega
theorem yAk (l:List Str):wsd l≠[]:=fun z=>by cases z
theorem ykj {l:List Str}(h:frs l):ycl (Str.join " " l)=Str.join " " (wsd l):=by
 unfold ycl
 by_cases e:l=[]
 .subst e
  rw [if_pos (by rfl')]
  exact yLr
 .rw [if_neg (yxW h e)]
  show "("++" "++(Str.join " " l++" "++")")=Str.join " " (("(":Str)::(l++[(")":Str)]))
  rw [ywe (by simp),yfk e (fun z=>by cases z)]
  rfl
theorem yzo:∀ (t:T) (r:List T),(∀ u∈t::r,ycQ u=Str.join " " (wdT u))->gdL (t::r)->Str.join " ; " (yL (t::r))=Str.join " " (wdT t++wdR r)
 | t,[],h,_=>by
  show ycQ t=Str.join " " (wdT t++[])
  rw [List.append_nil];exact h t List.mem_cons_self
 | t,u::r,h,g=>by
  have ih:=yzo u r (fun v hv=>h v (List.mem_cons_of_mem _ hv)) g.2
  show ycQ t++" ; "++Str.join " ; " (yL (u::r))=Str.join " " (wdT t++(";":Str)::(wdT u++wdR r))
  have ne:wdT u++wdR r≠[]:=fun z=>yFu g.2.1 (List.append_eq_nil_iff.mp z).1
  rw [ih,h t List.mem_cons_self,yfk (yFu g.1) (fun z=>by cases z),ywe ne,yLq]
  simp only [yhn]
mutual
theorem yzp:∀ (t:T),gdT t->ycQ t=Str.join " " (wdT t)
 | .base,g=>g.elim
 | .let_ ..,_=>rfl
 | .reckon ..,_=>rfl
 | .take ..,_=>rfl
 | .put ..,_=>rfl
 | .throw ..,_=>rfl
 | .wait,_=>rfl
 | .if_ r a b,g=>by
  show Str.join " " ["if",r,ycl (Str.join " ; " (yL a)),"else",ycl (Str.join " ; " (yL b))]=Str.join " " ((["if",r]:List Str)++(wsd (wdL a)++((["else"]:List Str)++wsd (wdL b))))
  rw [yho a g.2.1,yho b g.2.2,ykj (ynr g.2.1),ykj (ynr g.2.2),yfk (a:=["if",r]) (fun z=>by cases z) (fun z=>by cases z),yfk (yAk _) (fun z=>by cases z),yfk (a:=["else"]) (fun z=>by cases z) (yAk _)]
  simp only [Str.join,yhn]
 | .either a b,g=>by
  show Str.join " " ["either",ycl (Str.join " ; " (yL a)),"or",ycl (Str.join " ; " (yL b))]=Str.join " " ((["either"]:List Str)++(wsd (wdL a)++((["or"]:List Str)++wsd (wdL b))))
  rw [yho a g.1,yho b g.2,ykj (ynr g.1),ykj (ynr g.2),yfk (a:=["either"]) (fun z=>by cases z) (fun z=>by cases z),yfk (yAk _) (fun z=>by cases z),yfk (a:=["or"]) (fun z=>by cases z) (yAk _)]
  simp only [Str.join,yhn]
 | .try_ a nm r b,g=>by
  show Str.join " " ["try",ycl (Str.join " ; " (yL a)),"on",nm,r,ycl (Str.join " ; " (yL b))]=Str.join " " ((["try"]:List Str)++(wsd (wdL a)++((["on",nm,r]:List Str)++wsd (wdL b))))
  rw [yho a g.2.2.1,yho b g.2.2.2,ykj (ynr g.2.2.1),ykj (ynr g.2.2.2),yfk (a:=["try"]) (fun z=>by cases z) (fun z=>by cases z),yfk (yAk _) (fun z=>by cases z),yfk (a:=["on",nm,r]) (fun z=>by cases z) (yAk _)]
  simp only [Str.join,yhn]
theorem yho:∀ (ts:List T),gdL ts->Str.join " ; " (yL ts)=Str.join " " (wdL ts)
 | [],_=>rfl
 | t::r,g=>yzo t r (ywf (t::r) g) g
theorem ywf:∀ (ts:List T),gdL ts->∀ u∈ts,ycQ u=Str.join " " (wdT u)
 | [],_,u,h=>by cases h
 | t::r,g,u,h=>by
  rcases List.mem_cons.mp h with e|h
  .rw [e];exact yzp t g.1
  .exact ywf r g.2 u h
end
section
variable {h:AH}
theorem yOb {z:Str}{i:Nat}{ρ:PSt}(e:yj i ρ h=some (.str z,h)) (hl:z.length<=100000):xIS (yj i) ρ h=some (z.cps.toList.map sgn,h):=by
 unfold xIS
 rw [e,yfG]
 exact if_pos hl
theorem ytm {x y:Str}(hl:x.length<=1000):yeO [.str x,.str y] h=some (.bl (x.cps.toList.all fun c=>decide (c∈y.cps.toList)),h):=by
 unfold yeO
 rw [yK]
 show ob (ybq _ [.val (.str x),.val (.str y)] h) fnK=_
 have hz:x.cps.toList.length=x.length:=by simp [Str.length]
 walk_at "px"
 rw [yOb rfl (by omega),yfG]
 rw [if_pos (by rw [List.length_map];omega)]
 rw [ytI (f:=sgn) (g:=fun c=>.bl (decide (c∈y.cps.toList))) fun c _=>rfl]
 walk_at "px"
 show ob (yKs [.lst (x.cps.toList.map fun c=>PV.bl (decide (c∈y.cps.toList)))] h) _=_
 unfold yKs yey
 rw [show (x.cps.toList.map fun c=>PV.bl (decide (c∈y.cps.toList)))=(x.cps.toList.map fun c=>decide (c∈y.cps.toList)).map PV.bl by rw [List.map_map];rfl]
 simp only [yvG,List.all_map]
 rfl
theorem yCT {c:Nat}(h1:97<=c) (h2:c<=104):c∈("abcdefgh":Str).cps.toList:=by
 rw [show ("abcdefgh":Str).cps.toList=[97,98,99,100,101,102,103,104] by rfl']
 have:c=97\/c=98\/c=99\/c=100\/c=101\/c=102\/c=103\/c=104:=by omega
 rcases this with rfl|rfl|rfl|rfl|rfl|rfl|rfl|rfl
 all_goals decide
theorem yxX {c:Nat}(h1:97<=c) (h2:c<=122):c∈("abcdefghijklmnopqrstuvwxyz":Str).cps.toList:=by
 rw [show ("abcdefghijklmnopqrstuvwxyz":Str).cps.toList=(List.range 26).map (· + 97) by rfl']
 exact List.mem_map.mpr ⟨c-97,List.mem_range.mpr (by omega),by omega⟩
theorem yFw {c:Nat}(h1:48<=c) (h2:c<=57):c∈("0123456789":Str).cps.toList:=by
 rw [show ("0123456789":Str).cps.toList=(List.range 10).map (· + 48) by rfl']
 exact List.mem_map.mpr ⟨c-48,List.mem_range.mpr (by omega),by omega⟩
theorem yAl {r:Str}(g:ygL r):ylT [.str r] h=some (.bl true,h):=by
 obtain ⟨c,h1,h2,rfl⟩:=g
 unfold ylT
 rw [yK]
 show ob (ybq _ [.val (.str ⟨#[c]⟩)] h) fnK=_
 walk_at "px"
 rw [show (⟨#[c]⟩:Str).length=1 from rfl]
 walk_at "px"
 simp only [yCT h1 h2]
 rfl
theorem yAm {r:Str}(g:ytk r):ylU [.str r] h=some (.bl true,h):=by
 obtain ⟨h1,h2,h3⟩:=g
 unfold ylU
 rw [yK]
 show ob (ybq _ [.val (.str r)] h) fnK=_
 walk_at "px"
 rw [ytm (by omega)]
 rw [List.all_eq_true.mpr fun c hc=>decide_eq_true (yxX (h3 c hc).1 (h3 c hc).2)]
 simp only [show (1:Int)<=r.length by omega,show (r.length:Int)<=8 by omega]
 walk_at "px"
 rw [if_pos (by omega)]
theorem yAn {r:Str}(g:ywd r):yoj [.str r] h=some (.bl true,h):=by
 rcases g with rfl|rfl|rfl|rfl|rfl
 all_goals rfl
theorem ywg {n:Int}(h0:0<=n) (h1:n<B64):yiv [.str (toString n:String)] h=some (.int n,h):=by
 obtain ⟨d1,d2,d3,d4,d5⟩:=yCP n.toNat
 have hl:=str_len h0 (k:=20) (by decide) (Int.lt_trans h1 yGG)
 have hn:(Str.ofString (toString n)).length≠0:=(yCR h0 h1).2.1
 have e:=yCQ h0
 have hz:n=0->Str.ofString (toString n) = "0":=fun z=>by subst z;rfl'
 have hat:atI (Str.ofString (toString n)).cps.toList 0=some ((yBh n.toNat).headD 0):=by
  rw [e]
  cases q:yBh n.toNat with
  | nil=>exact absurd q d1
  | cons a l=>exact yqn
 have hh:(yBh n.toNat).headD 0=48->n=0:=fun q=>Classical.byContradiction fun z=>d4 (by omega) (by
  cases q2:yBh n.toNat with
  | nil=>exact absurd q2 d1
  | cons a l=>rw [q2] at q;simpa using q)
 generalize hs:Str.ofString (toString n)=z at *
 unfold yiv
 rw [yK]
 show ob (yw _ _ [.val (.str z),.no] h) fnK=_
 have ml:z.cps.toList.all (fun c=>decide (c∈("0123456789":Str).cps.toList))=true:=List.all_eq_true.mpr fun c hc=>decide_eq_true (yFw (d2 c (e ▸ hc)).1 (d2 c (e ▸ hc)).2)
 walk_at "px"
 rw [if_pos (by omega:z.length<=100000)]
 simp only [show (1:Int)<=z.length by omega,show (z.length:Int)<=20 by omega]
 walk_at "px"
 rw [ytm (by omega),ml]
 walk_at "px"
 rw [hat]
 walk_at "px"
 have hb:∀ h:AH,yCh [.str z] h=some (.int n,h):=fun h=>by
  unfold yCh
  show (if _ then _ else _)=_
  rw [if_pos ⟨by rw [e];exact d1,by rw [e];exact d2,by omega⟩,e,d3,Int.toNat_of_nonneg h0]
 rw [if_neg (not_not_intro trivial),if_pos (by omega)]
 simp only [sgn,hb]
 walk_at "px"
 rw [if_pos h1]
 split
 .rename_i q
  have q:(yBh n.toNat).headD 0=48:=by
   have q2:=congrArg (fun s:Str=>s.cps.toList) q
   rw [show ("0":Str).cps.toList=[48] by rfl'] at q2
   simpa using q2
  rw [if_neg (not_not_intro (hz (hh q)))]
 .rfl
end
theorem ytV:(("let":Str) = "if")=False:=eq_false (by rfl')
theorem ylX:(("let":Str) = "either")=False:=eq_false (by rfl')
theorem yrg:(("let":Str) = "try")=False:=eq_false (by rfl')
theorem ypj:(("take":Str) = "let")=False:=eq_false (by rfl')
theorem yrh:(("take":Str) = "if")=False:=eq_false (by rfl')
theorem ykD:(("take":Str) = "either")=False:=eq_false (by rfl')
theorem ypk:(("take":Str) = "try")=False:=eq_false (by rfl')
theorem yri:(("put":Str) = "let")=False:=eq_false (by rfl')
theorem ypl:(("put":Str) = "take")=False:=eq_false (by rfl')
theorem ytW:(("put":Str) = "if")=False:=eq_false (by rfl')
theorem ylY:(("put":Str) = "either")=False:=eq_false (by rfl')
theorem yrj:(("put":Str) = "try")=False:=eq_false (by rfl')
theorem yns:(("throw":Str) = "let")=False:=eq_false (by rfl')
theorem ylZ:(("throw":Str) = "take")=False:=eq_false (by rfl')
theorem ynt:(("throw":Str) = "put")=False:=eq_false (by rfl')
theorem ypm:(("throw":Str) = "if")=False:=eq_false (by rfl')
theorem yjQ:(("throw":Str) = "either")=False:=eq_false (by rfl')
theorem ynu:(("throw":Str) = "try")=False:=eq_false (by rfl')
theorem ypn:(("wait":Str) = "let")=False:=eq_false (by rfl')
theorem ynv:(("wait":Str) = "take")=False:=eq_false (by rfl')
theorem ypo:(("wait":Str) = "put")=False:=eq_false (by rfl')
theorem yma:(("wait":Str) = "throw")=False:=eq_false (by rfl')
theorem yrk:(("wait":Str) = "if")=False:=eq_false (by rfl')
theorem ykE:(("wait":Str) = "either")=False:=eq_false (by rfl')
theorem ypp:(("wait":Str) = "try")=False:=eq_false (by rfl')
theorem ytX:(("if":Str) = "let")=False:=eq_false (by rfl')
theorem yrl:(("if":Str) = "take")=False:=eq_false (by rfl')
theorem ytY:(("if":Str) = "put")=False:=eq_false (by rfl')
theorem ypq:(("if":Str) = "throw")=False:=eq_false (by rfl')
theorem yrm:(("if":Str) = "wait")=False:=eq_false (by rfl')
theorem ynw:(("if":Str) = "either")=False:=eq_false (by rfl')
theorem ytZ:(("if":Str) = "try")=False:=eq_false (by rfl')
theorem ymb:(("either":Str) = "let")=False:=eq_false (by rfl')
theorem ykF:(("either":Str) = "take")=False:=eq_false (by rfl')
theorem ymc:(("either":Str) = "put")=False:=eq_false (by rfl')
theorem yjR:(("either":Str) = "throw")=False:=eq_false (by rfl')
theorem ykG:(("either":Str) = "wait")=False:=eq_false (by rfl')
theorem yfS:(("either":Str) = "if")=False:=eq_false (by rfl')
theorem ymd:(("either":Str) = "try")=False:=eq_false (by rfl')
theorem yrn:(("try":Str) = "let")=False:=eq_false (by rfl')
theorem ypr:(("try":Str) = "take")=False:=eq_false (by rfl')
theorem yro:(("try":Str) = "put")=False:=eq_false (by rfl')
theorem ynx:(("try":Str) = "throw")=False:=eq_false (by rfl')
theorem yps:(("try":Str) = "wait")=False:=eq_false (by rfl')
theorem ykH:(("try":Str) = "if")=False:=eq_false (by rfl')
theorem yhp:(("try":Str) = "either")=False:=eq_false (by rfl')
theorem ypt {w:Str}(g:ywd w):(w = "let")=False/\(w = "take")=False/\(w = "put")=False/\(w = "throw")=False/\(w = "wait")=False/\(w = "if")=False/\(w = "either")=False/\(w = "try")=False:=by
 rcases g with rfl|rfl|rfl|rfl|rfl
 all_goals exact ⟨eq_false (by rfl'),eq_false (by rfl'),eq_false (by rfl'),eq_false (by rfl'),eq_false (by rfl'),eq_false (by rfl'),eq_false (by rfl'),eq_false (by rfl')⟩
local macro_rules | `(tactic| walk_at "qq")=>`(tactic| simp_all? only [ytV,ylX,yrg,ypj,yrh,ykD,ypk,yri,ypl,ytW,ylY,yrj,yns,ylZ,ynt,ypm,yjQ,ynu,ypn,ynv,ypo,yma,yrk,ykE,ypp,ytX,yrl,ytY,ypq,yrm,ynw,ytZ,ymb,ykF,ymc,yjR,ykG,yfS,ymd,yrn,ypr,yro,ynx,yps,ykH,yhp,↓reduceIte])
local macro_rules | `(tactic| walk_at "qt")=>`(tactic| simp_all? only [yqn,yth,yuW,yze,yMh,ytV,ylX,yrg,ypj,yrh,ykD,ypk,yri,ypl,ytW,ylY,yrj,yns,ylZ,ynt,ypm,yjQ,ynu,ypn,ynv,ypo,yma,yrk,ykE,ypp,ytX,yrl,ytY,ypq,yrm,ynw,ytZ,ymb,ykF,ymc,yjR,ykG,yfS,ymd,yrn,ypr,yro,ynx,yps,ykH,yhp,↓reduceIte])
section
def rdr (ws:List Str) (k:Nat):Nd:=.ins 10 ["words","at"] [.lst (ws.map .str),.int k]
def hR (h:AH) (o:Nat) (ws:List Str) (k:Nat):AH:=h.set o (rdr ws k)
variable {h:AH}{o:Nat}{ws:List Str}{k:Nat}
theorem yFx (ho:o<h.length):(hR h o ws k)[o]?=some (.ins 10 ["words","at"] [.lst (ws.map .str),.int k]):=List.getElem?_set_self ho
theorem yLw {j:Nat}:(hR h o ws k).set o (.ins 10 ["words","at"] [.lst (ws.map .str),.int j])=hR h o ws j:=by unfold hR rdr;rw [List.set_set]
theorem yzq (ho:o<h.length):ynV [10] "words" (.loc o) (hR h o ws k)=some (.lst (ws.map .str),hR h o ws k):=by
 unfold ynV ypc
 simp only [yFx ho]
 rw [if_pos (by rfl'),show List.idxOf ("words":Str) ["words","at"]=0 by rfl']
 rfl
theorem yIA (ho:o<h.length):ynV [10] "at" (.loc o) (hR h o ws k)=some (.int k,hR h o ws k):=by
 unfold ynV ypc
 simp only [yFx ho]
 rw [if_pos (by rfl'),show List.idxOf ("at":Str) ["words","at"]=1 by rfl']
 rfl
theorem mR {m:Str}{f:Fn}{ys:List PV}{a:XE}{aa:XA}{ρ:PSt}{h0 h2:AH}(ho:o<h.length) (hm:m∉(["words","at"]:List Str)) (ea:a ρ h0=some (.loc o,hR h o ws k)) (eb:aa ρ (hR h o ws k)=some (ys,h2)):yW 10 m f a aa ρ h0=f (.loc o::ys) h2:=by
 unfold yW ypc
 rw [ea,yfG]
 simp only [yFx ho]
 rw [if_pos ⟨trivial,hm⟩,eb];rfl
theorem pR (ho:o<h.length) {j:Nat}{eo ev:XE}{ρ:PSt}(e1:ev ρ (hR h o ws k)=some (.int (j:Int),hR h o ws k)) (e2:eo ρ (hR h o ws k)=some (.loc o,hR h o ws k)):yCo [10] "at" eo ev ρ (hR h o ws k)=some (.nx ρ,hR h o ws j):=by
 unfold yCo
 rw [e1,yfG,e2,yfG]
 simp only [yFx ho]
 rw [if_pos ⟨by decide,by decide⟩]
 show some (Out.nx ρ,(hR h o ws k).set o (.ins 10 (putN "at" (.int j) ["words","at"] [.lst (ws.map .str),.int k]).1 (putN "at" (.int j) ["words","at"] [.lst (ws.map .str),.int k]).2))=_
 rw [show putN "at" (.int j) ["words","at"] [.lst (ws.map .str),.int k]=(([("words":Str),"at"]:List Str),[PV.lst (ws.map .str),.int j]) from rfl,yLw]
theorem yua {w:Str}{r:List Str}(e:ws.drop k=w::r):ws[k]?=some w/\k<ws.length/\ws.drop (k+1)=r:=by
 have hk:k<ws.length:=Classical.byContradiction fun z=>by rw [List.drop_of_length_le (by omega)] at e;cases e
 rw [List.drop_eq_getElem_cons hk] at e
 cases e
 exact ⟨List.getElem?_eq_getElem hk,hk,rfl⟩
theorem yOc (e:ws.drop k=[]):ws.length<=k:=List.drop_eq_nil_iff.mp e
theorem ykI {w:Str}{r:List Str}(ho:o<h.length) (hl:ws.length<=100000) (e:ws.drop k=w::r):yU [.loc o] (hR h o ws k)=some (.str w,hR h o ws k):=by
 obtain ⟨e1,e2,_⟩:=yua e
 unfold yU
 rw [yK]
 show ob (yw _ _ [.val (.loc o)] (hR h o ws k)) fnK=_
 have e3:atI (ws.map PV.str) (k:Int)=some (.str w):=ynk (by rw [List.getElem?_map,e1];rfl)
 simp_all? only [yzq ho,yIA ho,List.length_map,Int.ofNat_lt,e2,e3,↓reduceIte]
theorem yub (ho:o<h.length) (hl:ws.length<=100000) (e:ws.drop k=[]):yU [.loc o] (hR h o ws k)=some (.non,hR h o ws k):=by
 have e2:=yOc e
 unfold yU
 rw [yK]
 show ob (yw _ _ [.val (.loc o)] (hR h o ws k)) fnK=_
 simp_all? only [yzq ho,yIA ho,List.length_map,Int.ofNat_lt,show ¬ k<ws.length by omega,↓reduceIte]
theorem yjg {w:Str}{r:List Str}(ho:o<h.length) (hl:ws.length<=100000) (e:ws.drop k=w::r):ybe [.loc o] (hR h o ws k)=some (.str w,hR h o ws (k+1)):=by
 unfold ybe
 rw [yK]
 show ob (yw _ _ [.val (.loc o),.no] (hR h o ws k)) fnK=_
 walk_at "px"
 rw [mR ho (by rfl') rfl rfl,ykI ho hl e]
 walk_at "px"
 rw [if_neg (by intro z;cases z),pR (j:=k+1) ho (by walk_at "px";simp only [yIA ho];walk_at "px";rfl) rfl]
 walk_at "px"
theorem ypu {w:Str}{r:List Str}(ho:o<h.length) (hl:ws.length<=100000) (e:ws.drop k=w::r):yN [.loc o,.str w] (hR h o ws k)=some (.non,hR h o ws (k+1)):=by
 unfold yN
 rw [yK]
 show ob (yw _ _ [.val (.loc o),.val (.str w),.no] (hR h o ws k)) fnK=_
 walk_at "px"
 rw [mR ho (by rfl') rfl rfl,yjg ho hl e]
 walk_at "px"
theorem ybM {w:Str}{r:List Str}(g:ygL w) (ho:o<h.length) (hl:ws.length<=100000) (e:ws.drop k=w::r):yr [.loc o] (hR h o ws k)=some (.str w,hR h o ws (k+1)):=by
 unfold yr
 rw [yK]
 show ob (yw _ _ [.val (.loc o),.no] (hR h o ws k)) fnK=_
 walk_at "px"
 rw [mR ho (by rfl') rfl rfl,yjg ho hl e]
 simp_all? only [yAl g]
theorem yom {w:Str}{r:List Str}(g:ytk w) (ho:o<h.length) (hl:ws.length<=100000) (e:ws.drop k=w::r):ybB [.loc o] (hR h o ws k)=some (.str w,hR h o ws (k+1)):=by
 unfold ybB
 rw [yK]
 show ob (yw _ _ [.val (.loc o),.no] (hR h o ws k)) fnK=_
 walk_at "px"
 rw [mR ho (by rfl') rfl rfl,yjg ho hl e]
 simp_all? only [yAm g]
theorem yrp {n:Int}{r:List Str}(h0:0<=n) (h1:n<B64) (ho:o<h.length) (hl:ws.length<=100000) (e:ws.drop k=Str.ofString (toString n)::r):ycg [.loc o] (hR h o ws k)=some (.int n,hR h o ws (k+1)):=by
 unfold ycg
 rw [yK]
 show ob (yw _ _ [.val (.loc o),.no,.no] (hR h o ws k)) fnK=_
 walk_at "px"
 rw [mR ho (by rfl') rfl rfl,yjg ho hl e]
 simp_all? only [ywg h0 h1]
 rw [if_neg (by intro z;cases z)]
theorem yLx {r:Str}{n:Int}{h:AH}:yeu [.str r,.int n] h=some (.ins 1 ["slot","number"] [.str r,.int n],h):=rfl
theorem yzr {w r s t:Str}{h:AH}:ycB [.str w,.str r,.str s,.str t] h=some (.ins 2 ["word","slot","one","other"] [.str w,.str r,.str s,.str t],h):=rfl
theorem yGH {r s:Str}{h:AH}:ydM [.str r,.str s] h=some (.ins 3 ["slot","place"] [.str r,.str s],h):=rfl
theorem yLy {r s:Str}{h:AH}:yev [.str r,.str s] h=some (.ins 4 ["place","slot"] [.str r,.str s],h):=rfl
theorem yCU {r s:Str}{h:AH}:ycW [.str r,.str s] h=some (.ins 8 ["name","slot"] [.str r,.str s],h):=rfl
theorem yPn {r:Str}{a b:List PV}{h:AH}:yda [.str r,.lst a,.lst b] h=some (.ins 5 ["slot","parts","others"] [.str r,.lst a,.lst b],h):=rfl
theorem yFy {a b:List PV}{h:AH}:ybH [.lst a,.lst b] h=some (.ins 6 ["parts","others"] [.lst a,.lst b],h):=rfl
theorem yOd {r s:Str}{a b:List PV}{h:AH}:ycx [.lst a,.str r,.str s,.lst b] h=some (.ins 7 ["parts","name","slot","others"] [.lst a,.str r,.str s,.lst b],h):=rfl
theorem yrq {w a b c:Str}{r:List Str}(ga:ygL a) (gb:ygL b) (gc:ygL c) (ho:o<h.length) (hl:ws.length<=100000) (e:ws.drop k=a::b::c::r):ych [.loc o,.str w] (hR h o ws k)=some (ybd (.reckon w a b c),hR h o ws (k+3)):=by
 have e1:=(yua e).2.2
 have e2:=(yua e1).2.2
 unfold ych
 rw [yK]
 show ob (yw _ _ [.val (.loc o),.val (.str w),.no,.no,.no] (hR h o ws k)) fnK=_
 walk_at "px"
 rw [mR ho (by rfl') rfl rfl,ybM ga ho hl e]
 walk_at "px"
 rw [mR ho (by rfl') rfl rfl,ybM gb ho hl e1]
 walk_at "px"
 rw [mR ho (by rfl') rfl rfl,ybM gc ho hl e2]
 simp_all? only [yzr]
 rfl
theorem ysr {t:T}{w:Str}{tl rest:List Str}(g:gdT t) (hp:plain t) (ew:wdT t=w::tl) (ho:o<h.length) (hl:ws.length<=100000) (e:ws.drop k=tl++rest):ycp [.loc o,.str w] (hR h o ws k)=some (ybd t,hR h o ws (k+tl.length)):=by
 unfold ycp
 rw [yK]
 show ob (yw _ _ [.val (.loc o),.val (.str w),.no,.no,.no] (hR h o ws k)) fnK=_
 cases t with
 | base=>exact g.elim
 | if_ r a b=>exact hp.elim
 | either a b=>exact hp.elim
 | try_ a nm r b=>exact hp.elim
 | let_ r n =>
  cases ew
  have e1:=(yua e).2.2
  walk_at "qq"
  rw [mR ho (by rfl') rfl rfl,ybM g.1 ho hl e]
  walk_at "px"
  rw [mR ho (by rfl') rfl rfl,yrp g.2.1 g.2.2 ho hl e1]
  simp_all? only [yLx]
  rfl
 | take r s =>
  cases ew
  have e1:=(yua e).2.2
  walk_at "qq"
  rw [mR ho (by rfl') rfl rfl,ybM g.1 ho hl e]
  walk_at "px"
  rw [mR ho (by rfl') rfl rfl,ybM g.2 ho hl e1]
  simp_all? only [yGH]
  rfl
 | put r s =>
  cases ew
  have e1:=(yua e).2.2
  walk_at "qq"
  rw [mR ho (by rfl') rfl rfl,ybM g.1 ho hl e]
  walk_at "px"
  rw [mR ho (by rfl') rfl rfl,ybM g.2 ho hl e1]
  simp_all? only [yLy]
  rfl
 | throw nm r =>
  cases ew
  have e1:=(yua e).2.2
  walk_at "qq"
  rw [mR ho (by rfl') rfl rfl,yom g.1 ho hl e]
  walk_at "px"
  rw [mR ho (by rfl') rfl rfl,ybM g.2 ho hl e1]
  simp_all? only [yCU]
  rfl
 | wait =>
  cases ew
  walk_at "qq"
  rfl
 | reckon w a b c =>
  cases ew
  obtain ⟨n1,n2,n3,n4,n5,_,_,_⟩:=ypt g.1
  simp_all? only [n1,n2,n3,n4,n5,yAn g.1,↓reduceIte]
  rw [mR ho (by rfl') rfl rfl,yrq g.2.1 g.2.2.1 g.2.2.2 ho hl e]
  walk_at "px"
end
mutual
noncomputable def rdT:T->Int
 | .if_ _ a b=>max 0 (max (1+rdL a) (1+rdL b))
 | .either a b=>max 0 (max (1+rdL a) (1+rdL b))
 | .try_ a _ _ b=>max 0 (max (1+rdL a) (1+rdL b))
 | _=>0
noncomputable def rdL:List T->Int
 | []=>-1
 | t::r=>max (rdT t) (rdL r)
end
mutual
noncomputable def yDP:T->Prop
 | .if_ _ a b=>yxe a/\yxe b/\a.length<=90/\b.length<=90
 | .either a b=>yxe a/\yxe b/\a.length<=90/\b.length<=90
 | .try_ a _ _ b=>yxe a/\yxe b/\a.length<=90/\b.length<=90
 | _=>True
noncomputable def yxe:List T->Prop
 | []=>True
 | t::r=>yDP t/\yxe r
end
theorem yLz:∀ t:T,0<=rdT t
 | .base=>by show (0:Int)<=0;omega
 | .let_ ..=>by show (0:Int)<=0;omega
 | .reckon ..=>by show (0:Int)<=0;omega
 | .take ..=>by show (0:Int)<=0;omega
 | .put ..=>by show (0:Int)<=0;omega
 | .throw ..=>by show (0:Int)<=0;omega
 | .wait=>by show (0:Int)<=0;omega
 | .if_ _ a b=>by show 0<=max 0 (max (1+rdL a) (1+rdL b));omega
 | .either a b=>by show 0<=max 0 (max (1+rdL a) (1+rdL b));omega
 | .try_ a _ _ b=>by show 0<=max 0 (max (1+rdL a) (1+rdL b));omega
theorem fw:∀ {t:T},gdT t->∃ w tl,wdT t=w::tl/\w≠")"
 | .base,g=>g.elim
 | .let_ ..,_=>⟨_,_,rfl,by rfl'⟩
 | .reckon ..,g=>⟨_,_,rfl,by rcases g.1 with rfl|rfl|rfl|rfl|rfl;all_goals rfl'⟩
 | .take ..,_=>⟨_,_,rfl,by rfl'⟩
 | .put ..,_=>⟨_,_,rfl,by rfl'⟩
 | .if_ ..,_=>⟨_,_,rfl,by rfl'⟩
 | .either ..,_=>⟨_,_,rfl,by rfl'⟩
 | .try_ ..,_=>⟨_,_,rfl,by rfl'⟩
 | .throw ..,_=>⟨_,_,rfl,by rfl'⟩
 | .wait,_=>⟨_,_,rfl,by rfl'⟩
theorem yIB:((")":Str) = ";")=False:=eq_false (by rfl')
theorem ymP {ws a b:List Str}{k:Nat}(e:ws.drop k=a++b):ws.drop (k+a.length)=b:=by
 rw [<- List.drop_drop,e,List.drop_left]
def ends (rest:List Str):Prop:=rest=[]\/∃ r,rest=(")":Str)::r
section
variable {h:AH}{o:Nat}{ws:List Str}{k:Nat}
noncomputable def yrr (h:AH) (o:Nat) (ws:List Str) (n:Nat):Prop:=∀ (t:T) (k:Nat) (rest:List Str) (ar:Int),gdT t->yDP t->rdT t+ar<=8->4*ylV t+1<=n->ws.drop k=wdT t++rest->yS n [.loc o,.int ar] (hR h o ws k)=some (ybd t,hR h o ws (k+(wdT t).length))
def yuc:XT:=yz (xOp (oEq) (yW 10 "ahead" yU (yj 0) (yp)) (xC (.str ";")))
noncomputable def yxY (n:Nat):XS:=yw (yqm (yW 10 "pass_over" yN (yj 0) (yc (xC (.str ";")) (yp)))) (ynm 2 (yW 10 "part_taken" (yS n) (yj 0) (yc (yj 1) (yp))))
theorem yCV {n:Nat}(G:yrr h o ws n) (ho:o<h.length) (hl:ws.length<=100000) {rest:List Str}(hr:ends rest) {ar:Int}:∀ (r:List T) (acc:List PV) (k fu:Nat),gdL r->yxe r->rdL r+ar<=8->4*ybi r+1<=n->r.length<fu->acc.length+r.length<=1000->ws.drop k=wdR r++rest ->
  whl yuc (yxY n) fu [.val (.loc o),.val (.int ar),.own (.lst acc)] (hR h o ws k)=some (.nx [.val (.loc o),.val (.int ar),.own (.lst (acc++yG r))],hR h o ws (k+(wdR r).length))
 | [],acc,k,fu+1,_,_,_,_,_,_,e=>by
  rw [yzd]
  have e:ws.drop k=rest:=e
  have c:yuc [.val (.loc o),.val (.int ar),.own (.lst acc)] (hR h o ws k)=some (false,hR h o ws k):=by
   unfold yuc
   walk_at "px"
   rw [mR ho (by rfl') rfl rfl]
   rcases hr with rfl|⟨r,rfl⟩
   .rw [yub ho hl e]
    walk_at "px"
    rfl
   .rw [ykI ho hl e]
    simp_all? only [yIB]
  rw [c,yfG,if_neg (by intro z;cases z)]
  show _=some (Out.nx [.val (.loc o),.val (.int ar),.own (.lst (acc++[]))],hR h o ws (k+0))
  rw [List.append_nil];rfl
 | t::r,acc,k,fu+1,g,f,hd,hf,hu,ha,e=>by
  rw [yzd]
  have e:ws.drop k=(";":Str)::(wdT t++wdR r++rest):=e
  have hd:max (rdT t) (rdL r)+ar<=8:=hd
  have hf:4*max (ylV t) (ybi r)+1<=n:=hf
  have e1:=(yua e).2.2
  rw [List.append_assoc] at e1
  have hu:r.length+1<fu+1:=hu
  have ha:acc.length+(r.length+1)<=1000:=ha
  have c:yuc [.val (.loc o),.val (.int ar),.own (.lst acc)] (hR h o ws k)=some (true,hR h o ws k):=by
   unfold yuc
   walk_at "px"
   rw [mR ho (by rfl') rfl rfl,ykI ho hl e]
   walk_at "px"
  have b:yxY n [.val (.loc o),.val (.int ar),.own (.lst acc)] (hR h o ws k)=some (.nx [.val (.loc o),.val (.int ar),.own (.lst (acc++[ybd t]))],hR h o ws (k+1+(wdT t).length)):=by
   unfold yxY
   walk_at "px"
   rw [mR ho (by rfl') rfl rfl,ypu ho hl e]
   walk_at "px"
   rw [yne rfl,mR ho (by rfl') rfl rfl,G t (k+1) _ ar g.1 f.1 (by omega) (by omega) e1]
   walk_at "px"
   rw [if_pos (by omega)]
  rw [c,yfG,if_pos rfl,b,yfG]
  show whl yuc (yxY n) fu _ _=_
  rw [yCV G ho hl hr r (acc++[ybd t]) (k+1+(wdT t).length) fu g.2 f.2 (by omega) (by omega) (by omega) (by rw [List.length_append,List.length_singleton];omega) (ymP e1)]
  show _=some (Out.nx [.val (.loc o),.val (.int ar),.own (.lst (acc++(ybd t::yG r)))],hR h o ws (k+((wdT t++wdR r).length+1)))
  rw [List.append_assoc,List.length_append,List.singleton_append,show k+1+(wdT t).length+(wdR r).length=k+((wdT t).length+(wdR r).length+1) by omega]
theorem list_eq {n:Nat}(G:yrr h o ws n) (ho:o<h.length) (hl:ws.length<=100000) {rest:List Str}(hr:ends rest) {ar:Int}{ts:List T}{k:Nat}(g:gdL ts) (f:yxe ts) (hc:ts.length<=90) (hd:rdL ts+ar<=8) (hf:4*ybi ts+1<=n) (e:ws.drop k=wdL ts++rest) :
  ybR (n+1) [.loc o,.int ar] (hR h o ws k)=some (.lst (yG ts),hR h o ws (k+(wdL ts).length)):=by
 unfold ybR
 rw [yK]
 show ob (yw _ (yw _ (yw (yvF 100 yuc (yxY n)) _)) [.val (.loc o),.val (.int ar),.no] (hR h o ws k)) fnK=_
 cases ts with
 | nil =>
  have e:ws.drop k=rest:=e
  walk_at "px"
  rw [mR ho (by rfl') rfl rfl]
  rcases hr with rfl|⟨r,rfl⟩
  .rw [yub ho hl e]
   walk_at "px"
   rw [if_pos (show isN PV.non=true from rfl)];rfl
  .rw [ykI ho hl e]
   walk_at "px"
   rw [if_neg (by intro z;cases z),mR ho (by rfl') rfl rfl,ykI ho hl e]
   walk_at "px"
   rfl
 | cons t r =>
  have e:ws.drop k=wdT t++wdR r++rest:=e
  have hd:max (rdT t) (rdL r)+ar<=8:=hd
  have hf:4*max (ylV t) (ybi r)+1<=n:=hf
  have hc:r.length+1<=90:=hc
  obtain ⟨w,tl,ew,nw⟩:=fw g.1
  have e0:ws.drop k=w::(tl++wdR r++rest):=by rw [e,ew];rfl
  rw [List.append_assoc] at e
  walk_at "px"
  rw [mR ho (by rfl') rfl rfl,ykI ho hl e0]
  walk_at "px"
  rw [if_neg (by intro z;cases z),mR ho (by rfl') rfl rfl,ykI ho hl e0]
  simp_all? only [nw,↓reduceIte]
  rw [mR ho (by rfl') rfl rfl,G t k _ ar g.1 f.1 (by omega) (by omega) e]
  walk_at "px"
  rw [show yvF 100 yuc (yxY n) [PVar.val (PV.loc o),PVar.val (PV.int ar),PVar.own (Nd.lst [ybd t])] (hR h o ws (k+(wdT t).length))=whl yuc (yxY n) 100 [PVar.val (PV.loc o),PVar.val (PV.int ar),PVar.own (Nd.lst [ybd t])] (hR h o ws (k+(wdT t).length)) from rfl,
   yCV G ho hl hr r [ybd t] (k+(wdT t).length) 100 g.2 f.2 (by omega) (by omega) (by omega) (by rw [List.length_singleton];omega) (ymP e)]
  walk_at "px"
  show some (PV.lst ([ybd t]++yG r),_)=some (PV.lst (ybd t::yG r),hR h o ws (k+(wdT t++wdR r).length))
  rw [List.length_append,<- Nat.add_assoc];rfl
theorem ypv {n:Nat}(G:yrr h o ws n) (ho:o<h.length) (hl:ws.length<=100000) {rest:List Str}{ar:Int}{ts:List T}{k:Nat}(g:gdL ts) (f:yxe ts) (hc:ts.length<=90) (hd:rdL ts+ar<=8) (hf:4*ybi ts+1<=n) (e:ws.drop k=wsd (wdL ts)++rest) :
  yX (n+2) [.loc o,.int ar] (hR h o ws k)=some (.lst (yG ts),hR h o ws (k+(wsd (wdL ts)).length)):=by
 have e:ws.drop k=("(":Str)::(wdL ts++(")":Str)::rest):=by
  rw [e];unfold wsd;simp
 have e1:=(yua e).2.2
 have e2:=ymP e1
 unfold yX
 rw [yK]
 show ob (yw _ _ [.val (.loc o),.val (.int ar),.no] (hR h o ws k)) fnK=_
 walk_at "px"
 rw [mR ho (by rfl') rfl rfl,ypu ho hl e]
 walk_at "px"
 rw [mR ho (by rfl') rfl rfl,list_eq G ho hl (.inr ⟨_,rfl⟩) g f hc hd hf e1]
 walk_at "px"
 rw [mR ho (by rfl') rfl rfl,ypu ho hl e2]
 walk_at "px"
 rw [show (wsd (wdL ts)).length=(wdL ts).length+2 by unfold wsd;simp,show k+1+(wdL ts).length+1=k+((wdL ts).length+2) by omega]
theorem yOe {n:Nat}(G:yrr h o ws n) (ho:o<h.length) (hl:ws.length<=100000) {rest:List Str}{ar:Int}{r:Str}{a b:List T}{k:Nat}(g:gdT (.if_ r a b)) (f:yDP (.if_ r a b)) (hd:max (rdL a) (rdL b)+ar<=8) (hf:4*max (ybi a) (ybi b)+1<=n) (e:ws.drop k=r::(wsd (wdL a)++("else":Str)::(wsd (wdL b)++rest))) :
  yfh (n+3) [.loc o,.int ar] (hR h o ws k)=some (ybd (.if_ r a b),hR h o ws (k+1+(wsd (wdL a)).length+1+(wsd (wdL b)).length)):=by
 have e1:=(yua e).2.2
 have e2:=ymP e1
 have e3:=(yua e2).2.2
 unfold yfh
 rw [yK]
 show ob (yw _ _ [.val (.loc o),.val (.int ar),.no,.no,.no] (hR h o ws k)) fnK=_
 walk_at "px"
 rw [mR ho (by rfl') rfl rfl,ybM g.1 ho hl e]
 walk_at "px"
 rw [mR ho (by rfl') rfl rfl,ypv G ho hl g.2.1 f.1 f.2.2.1 (by omega) (by omega) e1]
 walk_at "px"
 rw [mR ho (by rfl') rfl rfl,ypu ho hl e2]
 walk_at "px"
 rw [mR ho (by rfl') rfl rfl,ypv G ho hl g.2.2 f.2.1 f.2.2.2 (by omega) (by omega) e3]
 simp_all? only [yPn]
 rfl
theorem yCW {n:Nat}(G:yrr h o ws n) (ho:o<h.length) (hl:ws.length<=100000) {rest:List Str}{ar:Int}{a b:List T}{k:Nat}(g:gdT (.either a b)) (f:yDP (.either a b)) (hd:max (rdL a) (rdL b)+ar<=8) (hf:4*max (ybi a) (ybi b)+1<=n) (e1:ws.drop k=wsd (wdL a)++("or":Str)::(wsd (wdL b)++rest)) :
  ydc (n+3) [.loc o,.int ar] (hR h o ws k)=some (ybd (.either a b),hR h o ws (k+(wsd (wdL a)).length+1+(wsd (wdL b)).length)):=by
 have e2:=ymP e1
 have e3:=(yua e2).2.2
 unfold ydc
 rw [yK]
 show ob (yw _ _ [.val (.loc o),.val (.int ar),.no,.no] (hR h o ws k)) fnK=_
 walk_at "px"
 rw [mR ho (by rfl') rfl rfl,ypv G ho hl g.1 f.1 f.2.2.1 (by omega) (by omega) e1]
 walk_at "px"
 rw [mR ho (by rfl') rfl rfl,ypu ho hl e2]
 walk_at "px"
 rw [mR ho (by rfl') rfl rfl,ypv G ho hl g.2 f.2.1 f.2.2.2 (by omega) (by omega) e3]
 simp_all? only [yFy]
 rfl
theorem yLA {n:Nat}(G:yrr h o ws n) (ho:o<h.length) (hl:ws.length<=100000) {rest:List Str}{ar:Int}{nm r:Str}{a b:List T}{k:Nat}(g:gdT (.try_ a nm r b)) (f:yDP (.try_ a nm r b)) (hd:max (rdL a) (rdL b)+ar<=8) (hf:4*max (ybi a) (ybi b)+1<=n) (e1:ws.drop k=wsd (wdL a)++("on":Str)::nm::r::(wsd (wdL b)++rest)) :
  yeG (n+3) [.loc o,.int ar] (hR h o ws k)=some (ybd (.try_ a nm r b),hR h o ws (k+(wsd (wdL a)).length+1+1+1+(wsd (wdL b)).length)):=by
 have e2:=ymP e1
 have e3:=(yua e2).2.2
 have e4:=(yua e3).2.2
 have e5:=(yua e4).2.2
 unfold yeG
 rw [yK]
 show ob (yw _ _ [.val (.loc o),.val (.int ar),.no,.no,.no,.no] (hR h o ws k)) fnK=_
 walk_at "px"
 rw [mR ho (by rfl') rfl rfl,ypv G ho hl g.2.2.1 f.1 f.2.2.1 (by omega) (by omega) e1]
 walk_at "px"
 rw [mR ho (by rfl') rfl rfl,ypu ho hl e2]
 walk_at "px"
 rw [mR ho (by rfl') rfl rfl,yom g.1 ho hl e3]
 walk_at "px"
 rw [mR ho (by rfl') rfl rfl,ybM g.2.1 ho hl e4]
 walk_at "px"
 rw [mR ho (by rfl') rfl rfl,ypv G ho hl g.2.2.2 f.2.1 f.2.2.2 (by omega) (by omega) e5]
 simp_all? only [yOd]
 rfl
theorem yij {n:Nat}(ho:o<h.length) (hl:ws.length<=100000) {t:T}{rest:List Str}{ar:Int}(g:gdT t) (hp:plain t) (hd:ar<=8) (e:ws.drop k=wdT t++rest):yS (n+1) [.loc o,.int ar] (hR h o ws k)=some (ybd t,hR h o ws (k+(wdT t).length)):=by
 obtain ⟨w,tl,ew,_⟩:=fw g
 have e0:ws.drop k=w::(tl++rest):=by rw [e,ew];rfl
 have nw:(w = "if")=False/\(w = "either")=False/\(w = "try")=False:=by
  cases t with
  | base=>exact g.elim
  | if_ r a b=>exact hp.elim
  | either a b=>exact hp.elim
  | try_ a nm r b=>exact hp.elim
  | reckon w a b c=>cases ew;exact (ypt g.1).2.2.2.2.2
  | let_ r n=>cases ew;exact ⟨ytV,ylX,yrg⟩
  | take r s=>cases ew;exact ⟨yrh,ykD,ypk⟩
  | put r s=>cases ew;exact ⟨ytW,ylY,yrj⟩
  | throw r s=>cases ew;exact ⟨ypm,yjQ,ynu⟩
  | wait=>cases ew;exact ⟨yrk,ykE,ypp⟩
 unfold yS
 rw [yK]
 show ob (yw _ _ [.val (.loc o),.val (.int ar),.no] (hR h o ws k)) fnK=_
 simp_all? only [show (ar>8)=False from eq_false (by omega),↓reduceIte]
 rw [mR ho (by rfl') rfl rfl,yjg ho hl e0]
 simp_all? only [nw.1,nw.2.1,nw.2.2,↓reduceIte]
 rw [mR ho (by rfl') rfl rfl,ysr g hp ew ho hl (yua e0).2.2]
 walk_at "px"
 rw [ew,List.length_cons,show k+(tl.length+1)=k+1+tl.length by omega]
theorem yud (ho:o<h.length) (hl:ws.length<=100000):∀ n:Nat,yrr h o ws n
 | 0=>fun t k rest ar g f hd hf=>by omega
 | n+1=>fun t k rest ar g f hd hf e=>by
  have nn:=yLz t
  cases t with
  | if_ r a b =>
   have h1:4*(1+max (ybi a) (ybi b))+1<=n+1:=hf
   have h2:max 0 (max (1+rdL a) (1+rdL b))+ar<=8:=hd
   obtain ⟨m,rfl⟩:∃ m,n=m+3:=⟨n-3,by omega⟩
   have e:ws.drop k=("if":Str)::(r::(wsd (wdL a)++("else":Str)::(wsd (wdL b)++rest))):=by rw [e];simp [wdT]
   unfold yS
   rw [yK]
   show ob (yw _ _ [.val (.loc o),.val (.int ar),.no] (hR h o ws k)) fnK=_
   simp_all? only [show (ar>8)=False from eq_false (by omega),↓reduceIte]
   rw [mR ho (by rfl') rfl rfl,yjg ho hl e]
   walk_at "px"
   rw [mR ho (by rfl') rfl rfl,yOe (yud ho hl m) ho hl g f (by omega) (by omega) (yua e).2.2]
   walk_at "px"
   rw [show (wdT (.if_ r a b)).length=(wsd (wdL a)).length+(wsd (wdL b)).length+3 by simp [wdT];omega]
   rw [show k+1+1+(wsd (wdL a)).length+1+(wsd (wdL b)).length=k+((wsd (wdL a)).length+(wsd (wdL b)).length+3) by omega]
  | either a b =>
   have h1:4*(1+max (ybi a) (ybi b))+1<=n+1:=hf
   have h2:max 0 (max (1+rdL a) (1+rdL b))+ar<=8:=hd
   obtain ⟨m,rfl⟩:∃ m,n=m+3:=⟨n-3,by omega⟩
   have e:ws.drop k=("either":Str)::(wsd (wdL a)++("or":Str)::(wsd (wdL b)++rest)):=by rw [e];simp [wdT]
   unfold yS
   rw [yK]
   show ob (yw _ _ [.val (.loc o),.val (.int ar),.no] (hR h o ws k)) fnK=_
   simp_all? only [show (ar>8)=False from eq_false (by omega),↓reduceIte]
   rw [mR ho (by rfl') rfl rfl,yjg ho hl e]
   simp_all? only [yfS,↓reduceIte]
   rw [mR ho (by rfl') rfl rfl,yCW (yud ho hl m) ho hl g f (by omega) (by omega) (yua e).2.2]
   walk_at "px"
   rw [show (wdT (.either a b)).length=(wsd (wdL a)).length+(wsd (wdL b)).length+2 by simp [wdT];omega]
   rw [show k+1+(wsd (wdL a)).length+1+(wsd (wdL b)).length=k+((wsd (wdL a)).length+(wsd (wdL b)).length+2) by omega]
  | try_ a nm r b =>
   have h1:4*(1+max (ybi a) (ybi b))+1<=n+1:=hf
   have h2:max 0 (max (1+rdL a) (1+rdL b))+ar<=8:=hd
   obtain ⟨m,rfl⟩:∃ m,n=m+3:=⟨n-3,by omega⟩
   have e:ws.drop k=("try":Str)::(wsd (wdL a)++("on":Str)::nm::r::(wsd (wdL b)++rest)):=by rw [e];simp [wdT]
   unfold yS
   rw [yK]
   show ob (yw _ _ [.val (.loc o),.val (.int ar),.no] (hR h o ws k)) fnK=_
   simp_all? only [show (ar>8)=False from eq_false (by omega),↓reduceIte]
   rw [mR ho (by rfl') rfl rfl,yjg ho hl e]
   simp_all? only [ykH,yhp,↓reduceIte]
   rw [mR ho (by rfl') rfl rfl,yLA (yud ho hl m) ho hl g f (by omega) (by omega) (yua e).2.2]
   walk_at "px"
   rw [show (wdT (.try_ a nm r b)).length=(wsd (wdL a)).length+(wsd (wdL b)).length+4 by simp [wdT];omega]
   rw [show k+1+(wsd (wdL a)).length+1+1+1+(wsd (wdL b)).length=k+((wsd (wdL a)).length+(wsd (wdL b)).length+4) by omega]
  | base=>exact g.elim
  | let_ r n=>exact yij ho hl g trivial (by omega) e
  | reckon w r s t=>exact yij ho hl g trivial (by omega) e
  | take r s=>exact yij ho hl g trivial (by omega) e
  | put r s=>exact yij ho hl g trivial (by omega) e
  | throw r s=>exact yij ho hl g trivial (by omega) e
  | wait=>exact yij ho hl g trivial (by omega) e
end
mutual
theorem yzs:∀ {t:T},gdT t->1<=yiw t
 | .base,g=>g.elim
 | .let_ ..,_=>by show (1:Int)<=1;omega
 | .reckon ..,_=>by show (1:Int)<=1;omega
 | .take ..,_=>by show (1:Int)<=1;omega
 | .put ..,_=>by show (1:Int)<=1;omega
 | .throw ..,_=>by show (1:Int)<=1;omega
 | .wait,_=>by show (1:Int)<=1;omega
 | .if_ r a b,g=>by
  have h1:=ycG g.2.1
  have h2:=ycG g.2.2
  show 1<=2+(ybE a).sum+(ybE b).sum
  omega
 | .either a b,g=>by
  have h1:=ycG g.1
  have h2:=ycG g.2
  show 1<=3+(ybE a).sum+(ybE b).sum
  omega
 | .try_ a nm r b,g=>by
  have h1:=ycG g.2.2.1
  have h2:=ycG g.2.2.2
  show 1<=3+(ybE a).sum+(ybE b).sum
  omega
theorem ycG:∀ {ts:List T},gdL ts->(ts.length:Int)<=(ybE ts).sum
 | [],_=>Int.le_refl _
 | t::r,g=>by
  have h1:=yzs g.1
  have h2:=ycG g.2
  show ((r.length+1:Nat):Int)<=(yiw t::ybE r).sum
  rw [List.sum_cons]
  omega
end
mutual
theorem yLB:∀ {t:T},gdT t->(wT t:Int)+5<=100*yiw t
 | .base,g=>g.elim
 | .let_ r n,g=>by
  have h1:=(ycU g.1).2.2
  have h2:=(yCR g.2.1 g.2.2).2.2
  show ((10+r.length+(Str.ofString (toString n)).length:Nat):Int)+5<=100*1
  omega
 | .reckon w r s t,g=>by
  have h1:=(yCS g.1).2.2
  have h2:=(ycU g.2.1).2.2
  have h3:=(ycU g.2.2.1).2.2
  have h4:=(ycU g.2.2.2).2.2
  show ((10+w.length+r.length+s.length+t.length:Nat):Int)+5<=100*1
  omega
 | .take r s,g=>by
  have h1:=(ycU g.1).2.2
  have h2:=(ycU g.2).2.2
  show ((10+r.length+s.length:Nat):Int)+5<=100*1
  omega
 | .put r s,g=>by
  have h1:=(ycU g.1).2.2
  have h2:=(ycU g.2).2.2
  show ((10+r.length+s.length:Nat):Int)+5<=100*1
  omega
 | .throw r s,g=>by
  have h1:=(ytU g.1).2.2
  have h2:=(ycU g.2).2.2
  show ((10+r.length+s.length:Nat):Int)+5<=100*1
  omega
 | .wait,_=>by show ((10:Nat):Int)+5<=100*1;omega
 | .if_ r a b,g=>by
  have h0:=(ycU g.1).2.2
  have h1:=yme g.2.1
  have h2:=yme g.2.2
  show ((40+r.length+wL a+wL b:Nat):Int)+5<=100*(2+(ybE a).sum+(ybE b).sum)
  omega
 | .either a b,g=>by
  have h1:=yme g.1
  have h2:=yme g.2
  show ((40+wL a+wL b:Nat):Int)+5<=100*(3+(ybE a).sum+(ybE b).sum)
  omega
 | .try_ a nm r b,g=>by
  have h0:=(ycU g.2.1).2.2
  have h3:=(ytU g.1).2.2
  have h1:=yme g.2.2.1
  have h2:=yme g.2.2.2
  show ((40+nm.length+r.length+wL a+wL b:Nat):Int)+5<=100*(3+(ybE a).sum+(ybE b).sum)
  omega
theorem yme:∀ {ts:List T},gdL ts->(wL ts:Int)<=100*(ybE ts).sum
 | [],_=>Int.le_refl _
 | t::r,g=>by
  have h1:=yLB g.1
  have h2:=yme g.2
  show ((5+wT t+wL r:Nat):Int)<=100*(yiw t::ybE r).sum
  rw [List.sum_cons]
  omega
end
mutual
theorem yLC:∀ {t:T},gdT t->yiw t<=90->yDP t
 | .base,g,_=>g.elim
 | .let_ ..,_,_=>trivial
 | .reckon ..,_,_=>trivial
 | .take ..,_,_=>trivial
 | .put ..,_,_=>trivial
 | .throw ..,_,_=>trivial
 | .wait,_,_=>trivial
 | .if_ r a b,g,l=>by
  have h1:=ycG g.2.1
  have h2:=ycG g.2.2
  have l:2+(ybE a).sum+(ybE b).sum<=90:=l
  exact ⟨ykJ g.2.1 (by omega),ykJ g.2.2 (by omega),by omega,by omega⟩
 | .either a b,g,l=>by
  have h1:=ycG g.1
  have h2:=ycG g.2
  have l:3+(ybE a).sum+(ybE b).sum<=90:=l
  exact ⟨ykJ g.1 (by omega),ykJ g.2 (by omega),by omega,by omega⟩
 | .try_ a nm r b,g,l=>by
  have h1:=ycG g.2.2.1
  have h2:=ycG g.2.2.2
  have l:3+(ybE a).sum+(ybE b).sum<=90:=l
  exact ⟨ykJ g.2.2.1 (by omega),ykJ g.2.2.2 (by omega),by omega,by omega⟩
theorem ykJ:∀ {ts:List T},gdL ts->(ybE ts).sum<=90->yxe ts
 | [],_,_=>trivial
 | t::r,g,l=>by
  have h1:=yzs g.1
  have h2:=ycG g.2
  have l:(yiw t::ybE r).sum<=90:=l
  rw [List.sum_cons] at l
  exact ⟨yLC g.1 (by omega),ykJ g.2 (by omega)⟩
end
mutual
theorem yLD:∀ t:T,(ylV t:Int)<=rdT t+1
 | .base=>by show (0:Int)<=0+1;omega
 | .let_ ..=>by show (0:Int)<=0+1;omega
 | .reckon ..=>by show (0:Int)<=0+1;omega
 | .take ..=>by show (0:Int)<=0+1;omega
 | .put ..=>by show (0:Int)<=0+1;omega
 | .throw ..=>by show (0:Int)<=0+1;omega
 | .wait=>by show (0:Int)<=0+1;omega
 | .if_ r a b=>by
  have h1:=ymf a
  have h2:=ymf b
  show ((1+max (ybi a) (ybi b):Nat):Int)<=max 0 (max (1+rdL a) (1+rdL b))+1
  omega
 | .either a b=>by
  have h1:=ymf a
  have h2:=ymf b
  show ((1+max (ybi a) (ybi b):Nat):Int)<=max 0 (max (1+rdL a) (1+rdL b))+1
  omega
 | .try_ a nm r b=>by
  have h1:=ymf a
  have h2:=ymf b
  show ((1+max (ybi a) (ybi b):Nat):Int)<=max 0 (max (1+rdL a) (1+rdL b))+1
  omega
theorem ymf:∀ ts:List T,(ybi ts:Int)<=rdL ts+1
 | []=>by show (0:Int) <= -1+1;omega
 | t::r=>by
  have h1:=yLD t
  have h2:=ymf r
  show ((max (ylV t) (ybi r):Nat):Int)<=max (rdT t) (rdL r)+1
  omega
end
theorem yCX (l:List Str):(wsd l).length=l.length+2:=by unfold wsd;simp
mutual
theorem yGI:∀ t:T,(wdT t).length<=wT t
 | .base=>by show 0<=0;omega
 | .let_ r n=>by show 3<=10+r.length+(Str.ofString (toString n)).length;omega
 | .reckon w r s t=>by show 4<=10+w.length+r.length+s.length+t.length;omega
 | .take r s=>by show 3<=10+r.length+s.length;omega
 | .put r s=>by show 3<=10+r.length+s.length;omega
 | .throw r s=>by show 3<=10+r.length+s.length;omega
 | .wait=>by show 1<=10;omega
 | .if_ r a b=>by
  have h1:=yny a
  have h2:=yny b
  show (("if":Str)::r::(wsd (wdL a)++("else":Str)::wsd (wdL b))).length<=40+r.length+wL a+wL b
  simp only [List.length_cons,List.length_append,yCX]
  omega
 | .either a b=>by
  have h1:=yny a
  have h2:=yny b
  show (("either":Str)::(wsd (wdL a)++("or":Str)::wsd (wdL b))).length<=40+wL a+wL b
  simp only [List.length_cons,List.length_append,yCX]
  omega
 | .try_ a nm r b=>by
  have h1:=yny a
  have h2:=yny b
  show (("try":Str)::(wsd (wdL a)++("on":Str)::nm::r::wsd (wdL b))).length<=40+nm.length+r.length+wL a+wL b
  simp only [List.length_cons,List.length_append,yCX]
  omega
theorem yny:∀ ts:List T,(wdL ts).length<=wL ts
 | []=>Nat.le_refl _
 | t::r=>by
  have h1:=yGI t
  have h2:=yCY r
  show (wdT t++wdR r).length<=5+wT t+wL r
  rw [List.length_append]
  omega
theorem yCY:∀ ts:List T,(wdR ts).length<=wL ts
 | []=>Nat.le_refl _
 | t::r=>by
  have h1:=yGI t
  have h2:=yCY r
  show (wdT t++wdR r).length+1<=5+wT t+wL r
  rw [List.length_append]
  omega
end
structure OkL (ts:List T):Prop where
 gd:gdL ts
 rd:rdL ts<=8
 lg:(ybE ts).sum<=79
theorem OkL.len {ts:List T}(g:OkL ts):ts.length<=79:=by have:=ycG g.gd;have:=g.lg;omega
theorem OkL.w {ts:List T}(g:OkL ts):wL ts<=7900:=by have:=yme g.gd;have:=g.lg;omega
theorem OkL.dep {ts:List T}(g:OkL ts):ybi ts<=9:=by have:=ymf ts;have:=g.rd;omega
def ykv (ts:List T):Str:=Str.join " ; " (yL ts)
section
variable {h:AH}
theorem yxZ {ts:List T}(g:OkL ts):ykg [.str (ykv ts)] h=some (.lst ((wdL ts).map .str),h):=by
 have hl:=ybf ts
 have hw:=g.w
 have et:ykv ts=Str.join " " (wdL ts):=yho ts g.gd
 unfold ykg
 rw [yK]
 show ob (yw _ _ [.val (.str (ykv ts))] h) fnK=_
 walk_at "px"
 cases ts with
 | nil =>
  rw [if_pos (show ykv [] = "" by rfl')]
  rfl
 | cons t r =>
  have ne:wdL (t::r)≠[]:=fun z=>yFu g.gd.1 (List.append_eq_nil_iff.mp z).1
  rw [if_neg (by rw [et];exact yxW (ynr g.gd) ne),yIf (by unfold ykv;omega)]
  walk_at "px"
  rw [et,yqU _ ne fun w hw=>(ynr g.gd w hw).1]
theorem yIC {ts:List T}(g:OkL ts):∃ h',yvV [.str (ykv ts)] h=some (.lst (yG ts),h'):=by
 have hw:=g.w
 have hwl:=yny ts
 have hd:=g.dep
 have hl:=g.lg
 refine ⟨hR (h++[rdr (wdL ts) 0]) h.length (wdL ts) (0+(wdL ts).length),?_⟩
 unfold yvV
 rw [yK]
 show ob (yw _ _ [.val (.str (ykv ts)),.no,.no] h) fnK=_
 walk_at "px"
 rw [yxZ g]
 walk_at "px"
 rw [show yfg [PV.lst (List.map PV.str (wdL ts))] h=some (rdr (wdL ts) 0,h) from rfl]
 walk_at "px"
 have ho:h.length<(h++[rdr (wdL ts) 0]).length:=by simp
 have e0:h++[rdr (wdL ts) 0]=hR (h++[rdr (wdL ts) 0]) h.length (wdL ts) 0:=by unfold hR;simp
 generalize hG:h++[rdr (wdL ts) 0]=G at *
 have e1:(wdL ts).drop 0=wdL ts++[]:=by simp
 have hdr:(wdL ts).drop (0+(wdL ts).length)=[]:=by simp
 have rd:=g.rd
 rw [mR (ws:=wdL ts) (k:=0) ho (by rfl') (by rw [<- e0];rfl) rfl,list_eq (n:=44) (yud ho (by omega) 44) ho (by omega) (.inl rfl) g.gd (ykJ g.gd (by omega)) (by have:=g.len;omega) (by omega) (by omega) e1]
 walk_at "px"
 rw [mR ho (by rfl') rfl rfl,yub ho (by omega) hdr]
 walk_at "px"
 rw [if_neg (by intro z;cases z),yeP (n:=44) (yrf 44) (by omega) (by omega)]
 walk_at "px"
 rw [if_neg (by omega)]
end
mutual
noncomputable def yfy:T->PV
 | .base=>.tup []
 | .let_ r n=>.tup [.str "let",.str r,.int n]
 | .reckon w r s t=>.tup [.str w,.str r,.str s,.str t]
 | .take r s=>.tup [.str "take",.str r,.str s]
 | .put r s=>.tup [.str "put",.str r,.str s]
 | .if_ r a b=>.tup [.str "if",.str r,.lst (ym a),.lst (ym b)]
 | .either a b=>.tup [.str "either",.lst (ym a),.lst (ym b)]
 | .try_ a nm r b=>.tup [.str "try",.lst (ym a),.str nm,.str r,.lst (ym b)]
 | .throw nm r=>.tup [.str "throw",.str nm,.str r]
 | .wait=>.tup [.str "wait"]
noncomputable def ym:List T->List PV
 | []=>[]
 | t::r=>yfy t::ym r
end
theorem ykk:∀ ts:List T,ym ts=ts.map yfy
 | []=>rfl
 | t::r=>by show yfy t::ym r=_;rw [ykk r];rfl
theorem ykl (ts:List T):(ym ts).length=ts.length:=by rw [ykk,List.length_map]
def ysn:T->List (List T)
 | .if_ _ a b=>[a,b]
 | .either a b=>[a,b]
 | .try_ a _ _ b=>[a,b]
 | _=>[]
section
variable {h:AH}
theorem yhT {t:T}(g:gdT t):yH [yfy t] h=some (.lst ((ysn t).map fun a=>.lst (ym a)),h):=by
 unfold yH
 rw [yK]
 cases t with
 | base=>exact g.elim
 | reckon w r s t =>
  obtain ⟨n1,n2,n3,n4,n5,n6,n7,n8⟩:=ypt g.1
  show ob (yw _ _ [.val (.tup [.str w,.str r,.str s,.str t])] h) fnK=_
  simp_all? only [yqn,yth,yuW,yze,yMh,n6,n7,n8,↓reduceIte]
  rfl
 | let_ r n =>
  show ob (yw _ _ [.val (.tup [.str "let",.str r,.int n])] h) fnK=_
  walk_at "qt"
  rfl
 | take r s =>
  show ob (yw _ _ [.val (.tup [.str "take",.str r,.str s])] h) fnK=_
  walk_at "qt"
  rfl
 | put r s =>
  show ob (yw _ _ [.val (.tup [.str "put",.str r,.str s])] h) fnK=_
  walk_at "qt"
  rfl
 | throw r s =>
  show ob (yw _ _ [.val (.tup [.str "throw",.str r,.str s])] h) fnK=_
  walk_at "qt"
  rfl
 | wait =>
  show ob (yw _ _ [.val (.tup [.str "wait"])] h) fnK=_
  walk_at "qt"
  rfl
 | if_ r a b =>
  show ob (yw _ _ [.val (.tup [.str "if",.str r,.lst (ym a),.lst (ym b)])] h) fnK=_
  walk_at "qt"
  rfl
 | either a b =>
  show ob (yw _ _ [.val (.tup [.str "either",.lst (ym a),.lst (ym b)])] h) fnK=_
  walk_at "qt"
  rfl
 | try_ a nm r b =>
  show ob (yw _ _ [.val (.tup [.str "try",.lst (ym a),.str nm,.str r,.lst (ym b)])] h) fnK=_
  walk_at "qt"
  rfl
end
section
def yya (n:Nat):XS:=ydy (xCB (yqP) (yc (yj 1) (yc (xOp yoc (xC (.int 1)) (yI (ybP n) (yc (yj 3) (yp)))) (yp)))) (yt 1)
noncomputable def yAo (n:Nat):XS:=yw (ysZ (xIL (yI yH (yc (yj 2) (yp)))) (yt 3) (yya n)) (ydy (xCB (yqP) (yc (yj 1) (yc (xC (.int 0)) (yp)))) (yt 1))
def yue (n:Nat):Prop:=∀ (ts:List T) (h:AH),gdL ts->ybi ts+1<=n->ybP n [.lst (ym ts)] h=some (.int (rdL ts),h)
theorem yLE (a b:Int):(if b>a then b else a)=max a b:=by
 rw [Int.max_def]
 by_cases h:b>a
 .rw [if_pos h,if_pos (by omega)]
 .rw [if_neg h]
  by_cases h2:a<=b
  .rw [if_pos h2];omega
  .rw [if_neg h2]
theorem yuf {a b:Int}{h:AH}:yqP [.int a,.int b] h=some (.int (max a b),h):=by
 show some (PV.int (if b>a then b else a),h)=_
 rw [yLE]
theorem yzt {n:Nat}(G:yue n) {a:List T}(g:gdL a) (hd:ybi a+1<=n) (x0 v:PVar) (acc:Int) (h:AH):yya n [x0,.val (.int acc),v,.val (.lst (ym a))] h=some (.nx [x0,.val (.int (max acc (1+rdL a))),v,.val (.lst (ym a))],h):=by
 unfold yya
 walk_at "px"
 rw [G a h g hd]
 simp_all? only [yuf]
theorem yCZ {s:XS}{x0 v c3 c3':PVar}{x y:PV}{a1 a2 a3:Int}{h:AH}(e1:s [x0,.val (.int a1),v,.val x] h=some (.nx [x0,.val (.int a2),v,.val x],h)) (e2:s [x0,.val (.int a2),v,.val y] h=some (.nx [x0,.val (.int a3),v,.val y],h)) :
  ykc (yt 3) s [x,y] [x0,.val (.int a1),v,c3] h=some (.nx [x0,.val (.int a3),v,.val y],h):=by
 rw [yof,show yt 3 x [x0,.val (.int a1),v,c3]=some [x0,.val (.int a1),v,.val x] from rfl,Option.bind_some,e1,yfG]
 show ykc (yt 3) s [y] [x0,.val (.int a2),v,.val x] h=_
 rw [yof,show yt 3 y [x0,.val (.int a2),v,.val x]=some [x0,.val (.int a2),v,.val y] from rfl,Option.bind_some,e2,yfG]
 rfl
theorem yAp {n:Nat}(G:yue n) {t:T}(g:gdT t) (hd:ylV t<=n) (x0 c3:PVar) (acc:Int) (h:AH):∃ c3',yAo n [x0,.val (.int acc),.val (yfy t),c3] h=some (.nx [x0,.val (.int (max acc (rdT t))),.val (yfy t),c3'],h):=by
 unfold yAo
 walk_at "px"
 rw [yGs (xs:=(ysn t).map fun a=>PV.lst (ym a)) (h1:=h) (by walk_at "px";rw [yhT g]),yfG]
 have two:∀ (a b:List T),ysn t=[a,b]->gdL a->gdL b->ybi a+1<=n->ybi b+1<=n->rdT t=max 0 (max (1+rdL a) (1+rdL b))->∃ c3',ob (ykc (yt 3) (yya n) ((ysn t).map fun a=>PV.lst (ym a)) [x0,.val (.int acc),.val (yfy t),c3] h) (sqK (ydy (xCB yqP (yc (yj 1) (yc (xC (.int 0)) yp))) (yt 1)))=some (Out.nx [x0,.val (.int (max acc (rdT t))),.val (yfy t),c3'],h):=by
  intro a b es ga gb da db er
  refine ⟨.val (.lst (ym b)),?_⟩
  rw [es]
  show ob (ykc (yt 3) (yya n) [PV.lst (ym a),PV.lst (ym b)] _ h) _=_
  rw [yCZ (c3':=c3) (yzt G ga da x0 _ acc h) (yzt G gb db x0 _ _ h)]
  simp_all? only [yuf]
  rw [er,show max (max (max acc (1+rdL a)) (1+rdL b)) 0=max acc (max 0 (max (1+rdL a) (1+rdL b))) by omega]
 have nil_:ysn t=[]->rdT t=0->∃ c3',ob (ykc (yt 3) (yya n) ((ysn t).map fun a=>PV.lst (ym a)) [x0,.val (.int acc),.val (yfy t),c3] h) (sqK (ydy (xCB yqP (yc (yj 1) (yc (xC (.int 0)) yp))) (yt 1)))=some (Out.nx [x0,.val (.int (max acc (rdT t))),.val (yfy t),c3'],h):=by
  intro es er
  refine ⟨c3,?_⟩
  rw [es,er]
  show ob (ykc (yt 3) (yya n) [] _ h) _=_
  rw [yKG]
  simp_all? only [yuf]
 cases t with
 | base=>exact g.elim
 | let_ r m=>exact nil_ rfl rfl
 | reckon w r s t=>exact nil_ rfl rfl
 | take r s=>exact nil_ rfl rfl
 | put r s=>exact nil_ rfl rfl
 | throw r s=>exact nil_ rfl rfl
 | wait=>exact nil_ rfl rfl
 | if_ r a b =>
  have hd:1+max (ybi a) (ybi b)<=n:=hd
  exact two a b rfl g.2.1 g.2.2 (by omega) (by omega) rfl
 | either a b =>
  have hd:1+max (ybi a) (ybi b)<=n:=hd
  exact two a b rfl g.1 g.2 (by omega) (by omega) rfl
 | try_ a nm r b =>
  have hd:1+max (ybi a) (ybi b)<=n:=hd
  exact two a b rfl g.2.2.1 g.2.2.2 (by omega) (by omega) rfl
theorem ytn {n:Nat}(G:yue n) (x0:PVar) (h:AH):∀ (us:List T) (acc:Int) (c2 c3:PVar),gdL us->ybi us<=n->-1<=acc->∃ c2' c3',ykc (yt 2) (yAo n) (ym us) [x0,.val (.int acc),c2,c3] h=some (.nx [x0,.val (.int (max acc (rdL us))),c2',c3'],h)
 | [],acc,c2,c3,_,_,ha=>⟨c2,c3,by
  show some (Out.nx [x0,.val (.int acc),c2,c3],h)=some (Out.nx [x0,.val (.int (max acc (-1))),c2,c3],h)
  rw [show max acc (-1)=acc by omega]⟩
 | t::r,acc,c2,c3,g,hd,ha=>by
  have hd:max (ylV t) (ybi r)<=n:=hd
  obtain ⟨d3,e⟩:=yAp G g.1 (by omega) x0 c3 acc h
  obtain ⟨d2,d3',e2⟩:=ytn G x0 h r (max acc (rdT t)) (.val (yfy t)) d3 g.2 (by omega) (by omega)
  refine ⟨d2,d3',?_⟩
  show ykc (yt 2) (yAo n) (yfy t::ym r) _ h=some (Out.nx [x0,.val (.int (max acc (max (rdT t) (rdL r)))),d2,d3'],h)
  rw [yof,show yt 2 (yfy t) [x0,.val (.int acc),c2,c3]=some [x0,.val (.int acc),.val (yfy t),c3] from rfl,Option.bind_some,e,yfG]
  show ykc (yt 2) (yAo n) (ym r) _ h=_
  rw [e2,show max (max acc (rdT t)) (rdL r)=max acc (max (rdT t) (rdL r)) by omega]
theorem yug:∀ n:Nat,yue n
 | 0=>fun ts h g hd=>by omega
 | n+1=>fun ts h g hd=>by
  unfold ybP
  rw [yK]
  show ob (yw _ (yw (ysZ (xIL (yj 0)) (yt 2) (yAo n)) _) [.val (.lst (ym ts)),.no,.no,.no] h) fnK=_
  walk_at "px"
  rw [yxU rfl,yfG]
  obtain ⟨c2,c3,e⟩:=ytn (yug n) (.val (.lst (ym ts))) h ts (-1) .no .no g (by omega) (by omega)
  rw [e]
  walk_at "px"
  rw [show max (-1) (rdL ts)=rdL ts by cases ts with
   | nil=>rfl
   | cons t r =>
    have:=yLz t
    show max (-1) (max (rdT t) (rdL r))=max (rdT t) (rdL r)
    omega]
end
section
theorem yzu:∀ l:List Str,svs (l.map PV.str)=some (l.map V.str)
 | []=>rfl
 | a::l=>by
  show svs (PV.str a::l.map PV.str)=_
  unfold svs
  rw [yzu l];rfl
theorem yOQ {w:Str}{l:List Str}{neg:Bool}{h:AH}:yBf neg (.str w) (.tup (l.map .str)) h=some (.bl (if neg then !(l.any fun a=>a == w) else l.any fun a=>a == w),h):=by
 unfold yBf
 show (match svs (l.map PV.str) with|some us=>some (PV.bl (if neg=true then !inV (.str w) us else inV (.str w) us),h)|none=>none)=_
 rw [yzu]
 show some (PV.bl (if neg=true then !inV (.str w) (l.map V.str) else inV (.str w) (l.map V.str)),h)=_
 have:inV (.str w) (l.map V.str)=l.any fun a=>a == w:=by
  unfold inV
  rw [List.any_map];rfl
 rw [this]
theorem yLF {w a b c:Str}{neg:Bool}{h:AH}:yBf neg (.str w) (.tup [.str a,.str b,.str c]) h=some (.bl (if neg then !(a == w || (b == w || (c == w || false))) else (a == w || (b == w || (c == w || false)))),h):=yOQ (l:=[a,b,c])
theorem yPo {w a b:Str}{neg:Bool}{h:AH}:yBf neg (.str w) (.tup [.str a,.str b]) h=some (.bl (if neg then !(a == w || (b == w || false)) else (a == w || (b == w || false))),h):=yOQ (l:=[a,b])
def yyb (n:Nat):Prop:=∀ (ts:List T) (h:AH),gdL ts->ybi ts+1<=n->ybC n [.lst (ym ts)] h=some (.int (ybE ts).sum,h)
noncomputable def yto (n:Nat):XS:=yw (ydy (xOp yoc (xOp yoc (yj 1) (xC (.int 1))) (xCB (yBe) (yc (xFz (ylM (xIL (yI yH (yc (yj 2) (yp)))) [] (yI (ybC n) (yc (yj 0) (yp))))) (yp)))) (yt 1)) (ydy (xOp yoc (xOp yoc (yj 1) (xCB (yxA) (yc (xOp (yBf false) (xOp (ycT) (yj 2) (xC (.int 0))) (ysY (yc (xC (.str "if")) (yc (xC (.str "either")) (yc (xC (.str "try")) (yp)))))) (yp)))) (xCB (yxA) (yc (xOp (yBf false) (xOp (ycT) (yj 2) (xC (.int 0))) (ysY (yc (xC (.str "either")) (yc (xC (.str "try")) (yp))))) (yp)))) (yt 1))
noncomputable def yGJ:T->Str
 | .let_ ..=>"let" | .reckon w ..=>w|.take ..=>"take" | .put ..=>"put" | .if_ ..=>"if" | .either ..=>"either" | .try_ ..=>"try" | .throw ..=>"throw" | _=>"wait"
theorem yID {t:T}(g:gdT t):∃ xs,yfy t=.tup (.str (yGJ t)::xs):=by
 cases t with
 | base=>exact g.elim
 | _=>exact ⟨_,rfl⟩
theorem nos {w:Str}(h:("if" == w || ("either" == w || ("try" == w || false)))=false):("if" == w || ("either" == w || ("try" == w || false)))=decide (([]:List (List T))≠[])/\("either" == w || ("try" == w || false))=decide (([]:List (List T))≠[]/\¬ w = "if"):=by
 rw [h,decide_eq_false (by simp),decide_eq_false (by simp)]
 exact ⟨rfl,(Bool.or_eq_false_iff.mp h).2⟩
theorem yLG {t:T}(g:gdT t):("if" == yGJ t || ("either" == yGJ t || ("try" == yGJ t || false)))=decide (ysn t≠[])/\("either" == yGJ t || ("try" == yGJ t || false))=decide (ysn t≠[]/\¬ yGJ t = "if"):=by
 cases t with
 | base=>exact g.elim
 | reckon w r s t =>
  refine nos (w:=w) ?_
  rcases g.1 with rfl|rfl|rfl|rfl|rfl
  all_goals rfl'
 | if_ r a b =>
  show (("if":Str) == "if" || (("either":Str) == "if" || (("try":Str) == "if" || false)))=decide ([a,b]≠[])/\(("either":Str) == "if" || (("try":Str) == "if" || false))=decide ([a,b]≠[]/\¬ ("if":Str) = "if")
  refine ⟨by rw [decide_eq_true (by simp)];rfl',by rw [decide_eq_false (by simp)];rfl'⟩
 | either a b =>
  show (("if":Str) == "either" || (("either":Str) == "either" || (("try":Str) == "either" || false)))=decide ([a,b]≠[])/\(("either":Str) == "either" || (("try":Str) == "either" || false))=decide ([a,b]≠[]/\¬ ("either":Str) = "if")
  refine ⟨by rw [decide_eq_true (by simp)];rfl',by rw [decide_eq_true (by simp only [yfS];simp)];rfl'⟩
 | try_ a nm r b =>
  show (("if":Str) == "try" || (("either":Str) == "try" || (("try":Str) == "try" || false)))=decide ([a,b]≠[])/\(("either":Str) == "try" || (("try":Str) == "try" || false))=decide ([a,b]≠[]/\¬ ("try":Str) = "if")
  refine ⟨by rw [decide_eq_true (by simp)];rfl',by rw [decide_eq_true (by simp only [ykH];simp)];rfl'⟩
 | let_ r n=>exact nos (w:="let") (by rfl')
 | take r n=>exact nos (w:="take") (by rfl')
 | put r n=>exact nos (w:="put") (by rfl')
 | throw r n=>exact nos (w:="throw") (by rfl')
 | wait=>exact nos (w:="wait") (by rfl')
theorem yFz {t:T}(g:gdT t):yiw t=1+((ysn t).map fun a=>(ybE a).sum).sum+(if ysn t≠[] then 1 else 0)+(if ysn t≠[]/\¬ yGJ t = "if" then 1 else 0):=by
 cases t with
 | base=>exact g.elim
 | if_ r a b =>
  show 2+(ybE a).sum+(ybE b).sum=1+([(ybE a).sum,(ybE b).sum]).sum+(if [a,b]≠[] then 1 else 0)+(if [a,b]≠[]/\¬ ("if":Str) = "if" then 1 else 0)
  rw [if_pos (by simp),if_neg (by simp)]
  simp only [List.sum_cons,List.sum_nil];omega
 | either a b =>
  show 3+(ybE a).sum+(ybE b).sum=1+([(ybE a).sum,(ybE b).sum]).sum+(if [a,b]≠[] then 1 else 0)+(if [a,b]≠[]/\¬ ("either":Str) = "if" then 1 else 0)
  rw [if_pos (by simp),if_pos (by simp only [yfS];simp)]
  simp only [List.sum_cons,List.sum_nil];omega
 | try_ a nm r b =>
  show 3+(ybE a).sum+(ybE b).sum=1+([(ybE a).sum,(ybE b).sum]).sum+(if [a,b]≠[] then 1 else 0)+(if [a,b]≠[]/\¬ ("try":Str) = "if" then 1 else 0)
  rw [if_pos (by simp),if_pos (by simp only [ykH];simp)]
  simp only [List.sum_cons,List.sum_nil];omega
 | _=>rfl
theorem yLH {t:T}(g:gdT t) {n:Nat}(hd:ylV t<=n):∀ a∈ysn t,gdL a/\ybi a+1<=n:=by
 intro a ha
 cases t with
 | base=>exact g.elim
 | if_ r x y =>
  have hd:1+max (ybi x) (ybi y)<=n:=hd
  simp only [ysn,List.mem_cons,List.not_mem_nil,or_false] at ha
  rcases ha with rfl|rfl
  .exact ⟨g.2.1,by omega⟩
  .exact ⟨g.2.2,by omega⟩
 | either x y =>
  have hd:1+max (ybi x) (ybi y)<=n:=hd
  simp only [ysn,List.mem_cons,List.not_mem_nil,or_false] at ha
  rcases ha with rfl|rfl
  .exact ⟨g.1,by omega⟩
  .exact ⟨g.2,by omega⟩
 | try_ x nm r y =>
  have hd:1+max (ybi x) (ybi y)<=n:=hd
  simp only [ysn,List.mem_cons,List.not_mem_nil,or_false] at ha
  rcases ha with rfl|rfl
  .exact ⟨g.2.2.1,by omega⟩
  .exact ⟨g.2.2.2,by omega⟩
 | _=>cases ha
theorem yIE (t:T):(ysn t).length<=2:=by cases t<;>exact Nat.le_of_ble_eq_true rfl
theorem yAq {n:Nat}(G:yyb n) {t:T}(g:gdT t) (hd:ylV t<=n) (x0:PVar) (acc:Int) (h:AH):yto n [x0,.val (.int acc),.val (yfy t)] h=some (.nx [x0,.val (.int (acc+yiw t)),.val (yfy t)],h):=by
 have hs:=yIE t
 have ho:=yLH g hd
 obtain ⟨xs,et⟩:=yID g
 obtain ⟨f1,f2⟩:=yLG g
 unfold yto
 walk_at "px"
 rw [yGs (xs:=(ysn t).map fun a=>PV.lst (ym a)) (h1:=h) (by walk_at "px";rw [yhT g]),yfG]
 rw [if_pos (by rw [List.length_map];omega),ytI (f:=fun a=>PV.lst (ym a)) (g:=fun a=>PV.int (ybE a).sum) fun a ha=>by
  show yI (ybC n) (yc (yj 0) yp) [.val (.lst (ym a))] h=_
  walk_at "px"
  rw [G a h (ho a ha).1 (ho a ha).2]]
 walk_at "px"
 rw [show yBe [.lst ((ysn t).map fun a=>PV.int (ybE a).sum)] h=some (.int ((ysn t).map fun a=>(ybE a).sum).sum,h) by
  rw [show ((ysn t).map fun a=>PV.int (ybE a).sum)=((ysn t).map fun a=>(ybE a).sum).map PV.int by rw [List.map_map];rfl]
  unfold yBe yey
  simp only [ymK]]
 rw [et]
 simp_all? only [yqn,yLF,yPo]
 rw [f1,f2]
 simp only [decide_eq_true_eq]
 rw [yFz g]
 simp only [Int.add_assoc]
theorem ytp {n:Nat}(G:yyb n) (x0:PVar) (h:AH):∀ (us:List T) (acc:Int) (c2:PVar),gdL us->ybi us<=n->∃ c2',ykc (yt 2) (yto n) (ym us) [x0,.val (.int acc),c2] h=some (.nx [x0,.val (.int (acc+(ybE us).sum)),c2'],h)
 | [],acc,c2,_,_=>⟨c2,by
  show some (Out.nx [x0,.val (.int acc),c2],h)=some (Out.nx [x0,.val (.int (acc+0)),c2],h)
  rw [Int.add_zero]⟩
 | t::r,acc,c2,g,hd=>by
  have hd:max (ylV t) (ybi r)<=n:=hd
  have e:=yAq G g.1 (by omega) x0 acc h
  obtain ⟨d2,e2⟩:=ytp G x0 h r (acc+yiw t) (.val (yfy t)) g.2 (by omega)
  refine ⟨d2,?_⟩
  show ykc (yt 2) (yto n) (yfy t::ym r) _ h=some (Out.nx [x0,.val (.int (acc+(yiw t::ybE r).sum)),d2],h)
  rw [yof,show yt 2 (yfy t) [x0,.val (.int acc),c2]=some [x0,.val (.int acc),.val (yfy t)] from rfl,Option.bind_some,e,yfG]
  show ykc (yt 2) (yto n) (ym r) _ h=_
  rw [e2,List.sum_cons,Int.add_assoc]
theorem yqB:∀ n:Nat,yyb n
 | 0=>fun ts h g hd=>by omega
 | n+1=>fun ts h g hd=>by
  unfold ybC
  rw [yK]
  show ob (yw _ (yw (ysZ (xIL (yj 0)) (yt 2) (yto n)) _) [.val (.lst (ym ts)),.no,.no] h) fnK=_
  walk_at "px"
  rw [yxU rfl,yfG]
  obtain ⟨c2,e⟩:=ytp (yqB n) (.val (.lst (ym ts))) h ts 0 .no g (by omega)
  rw [e]
  walk_at "px"
  rw [Int.zero_add]
end
section
variable {h:AH}
theorem yrs {xs:List PV}:yAa (.lst xs) (.lst []) h=some (.bl (decide (xs=[])),h):=by
 cases xs with
 | nil=>rfl
 | cons x xs=>rfl
theorem yGK {a b:Str}(hl:a.length+b.length<=100000):yip (.str a) (.str b) h=some (.str (a++b),h):=by rw [yza,if_pos hl]
theorem yPp:("if ":Str) = "if"++" ":=by rfl'
theorem yLI:(" else ":Str) = " "++"else"++" ":=by rfl'
theorem yFA:("either ":Str) = "either"++" ":=by rfl'
theorem yPq:(" or ":Str) = " "++"or"++" ":=by rfl'
theorem yOf:("( ":Str) = "("++" ":=by rfl'
theorem yOg:(" )":Str) = " "++")":=by rfl'
theorem yOh:("( ":Str).length=2:=by rfl'
noncomputable def yrt (n:Nat):Prop:=∀ (ts:List T) (h:AH),gdL ts->wL ts<=50000->2*ybi ts+1<=n->ygR n [.lst (ym ts)] h=some (.str (ykv ts),h)
theorem yAr {n:Nat}(G:yrt n) {ts:List T}(g:gdL ts) (hw:wL ts<=50000) (hd:2*ybi ts+1<=n):ycF (n+1) [.lst (ym ts)] h=some (.str (ycl (ykv ts)),h):=by
 have hl:(ykv ts).length<=wL ts:=ybf ts
 unfold ycF
 rw [yK]
 show ob (yw _ _ [.val (.lst (ym ts))] h) fnK=_
 simp_all? only [yrs]
 cases ts with
 | nil =>
  rw [if_pos (show ym []=[] from rfl),show ycl (ykv []) = "( )" by rfl']
 | cons t r =>
  rw [if_neg (by intro z;cases z),G _ h g hw hd]
  have ne:ykv (t::r)≠"":=by
   rw [show ykv (t::r)=Str.join " " (wdL (t::r)) from yho _ g]
   exact yxW (ynr g) fun z=>yFu g.1 (List.append_eq_nil_iff.mp z).1
  simp_all? only []
  rw [if_pos (by omega),if_pos (by rw [ylW,yOh];omega)]
  unfold ycl
  rw [if_neg ne,yOf,yOg]
  show some (PV.str ("("++" "++ykv (t::r)++(" "++")")),h)=some (PV.str ("("++" "++(ykv (t::r)++" "++")")),h)
  simp only [yhn]
noncomputable def ypw (n:Nat):XS:=ycC (yz (xOp (oEq) (xOp (ycT) (yj 2) (xC (.int 0))) (xC (.str "if")))) (ynm 1 (xOp yip (xOp yip (xOp yip (xOp yip (xOp yip (xC (.str "if ")) (xOp (ycT) (yj 2) (xC (.int 1)))) (xC (.str " "))) (yI (ycF n) (yc (xOp (ycT) (yj 2) (xC (.int 2))) (yp)))) (xC (.str " else "))) (yI (ycF n) (yc (xOp (ycT) (yj 2) (xC (.int 3))) (yp))))) (ycC (yz (xOp (oEq) (xOp (ycT) (yj 2) (xC (.int 0))) (xC (.str "either")))) (ynm 1 (xOp yip (xOp yip (xOp yip (xC (.str "either ")) (yI (ycF n) (yc (xOp (ycT) (yj 2) (xC (.int 1))) (yp)))) (xC (.str " or "))) (yI (ycF n) (yc (xOp (ycT) (yj 2) (xC (.int 2))) (yp))))) (ycC (yz (xOp (oEq) (xOp (ycT) (yj 2) (xC (.int 0))) (xC (.str "try")))) (yw (ydy (xFz (yjN (yc (xC (.str "try")) (yc (yI (ycF n) (yc (xOp (ycT) (yj 2) (xC (.int 1))) (yp))) (yc (xC (.str "on")) (yc (xOp (ycT) (yj 2) (xC (.int 2))) (yc (xOp (ycT) (yj 2) (xC (.int 3))) (yc (yI (ycF n) (yc (xOp (ycT) (yj 2) (xC (.int 4))) (yp))) (yp))))))))) (yt 3)) (ynm 1 (xBM isStr (ykx) (xC (.str " ")) (yc (yj 3) (yp))))) (ynm 1 (xBM isStr (ykx) (xC (.str " ")) (yc (xFz (ylM (xIT (yj 2)) [] (xCB (yxG) (yc (yj 0) (yp))))) (yp))))))
theorem yGL {n:Int}(h0:0<=n) (h1:n<B64):n.natAbs.log2<1920:=by
 by_cases hz:n.natAbs=0
 .rw [hz];decide
 .rw [Nat.log2_lt hz]
  have e1:n.natAbs<2 ^ 64:=by
   have:(2:Nat) ^ 64=18446744073709551616:=by decide
   rw [this]
   unfold B64 at h1
   omega
  exact Nat.lt_of_lt_of_le e1 (Nat.pow_le_pow_right (by decide) (by decide))
abbrev sE_:XE:=xCB yxG (yc (yj 0) yp)
theorem yAs {z:Str}{xs:List PV}{ρ:PSt}:yqy sE_ (yob [] ρ) (.str z::xs) h=ob (yqy sE_ (yob [] ρ) xs h) fun ys h2=>some (.str z::ys,h2):=rfl
theorem yOi {m:Int}{xs:List PV}{ρ:PSt}(hz:m.natAbs.log2<1920):yqy sE_ (yob [] ρ) (.int m::xs) h=ob (yqy sE_ (yob [] ρ) xs h) fun ys h2=>some (.str (toString m:String)::ys,h2):=by
 show ob (sE_ [.val (.int m)] h) (fun y h1=>ob (yqy sE_ (yob [] ρ) xs h1) fun ys h2=>some (y::ys,h2))=_
 rw [show sE_ [.val (.int m)] h=some (.str (toString m:String),h) by
  show yxG [.int m] h=_
  rw [yIg,if_pos hz]]
 rfl
theorem yAt {ρ:PSt}:yqy sE_ (yob [] ρ) [] h=some ([],h):=rfl
theorem yAu {xs:List PV}{x0 x1 x3:PVar}:xIT (yj 2) [x0,x1,.val (.tup xs),x3] h=some (xs,h):=rfl
theorem yik {n:Nat}{t:T}(g:gdT t) (hp:plain t) (x0 c3:PVar) (acc:List PV) (ha:acc.length<90000):ypw n [x0,.own (.lst acc),.val (yfy t),c3] h=some (.nx [x0,.own (.lst (acc++[.str (ycQ t)])),.val (yfy t),c3],h):=by
 have hf:=yIz g
 have hb:(∀ l:List Str,frs l->l.length<=10->(l.map (·.length)).sum+l.length<=1048576):=by
  have:∀ l:List Str,frs l->(l.map (·.length)).sum<=20*l.length:=by
   intro l
   induction l with
   | nil=>intro _;exact Nat.le_refl _
   | cons a l ih =>
    intro h
    have h1:=(h a List.mem_cons_self).2.2
    have h2:=ih fun x hx=>h x (List.mem_cons_of_mem _ hx)
    simp only [List.map_cons,List.sum_cons,List.length_cons]
    omega
  intro l h1 h2
  have:=this l h1
  omega
 rw [yzp t g]
 unfold ypw
 cases t with
 | base=>exact g.elim
 | if_ r a b=>exact hp.elim
 | either a b=>exact hp.elim
 | try_ a nm r b=>exact hp.elim
 | let_ r m =>
  show ycC _ _ _ [x0,.own (.lst acc),.val (.tup [PV.str "let",.str r,.int m]),c3] h=_
  walk_at "qt"
  rw [yne rfl]
  walk_at "px"
  rw [yAu,yfG,if_pos (show [PV.str "let",.str r,.int m].length<=100000 from Nat.le_of_ble_eq_true rfl)]
  simp only [yAs,yAt,yOi (yGL g.2.1 g.2.2),yfG]
  rw [ygK (ts:=wdT (.let_ r m)) rfl j1 (hb _ hf (Nat.le_of_ble_eq_true rfl))]
  walk_at "px"
  rw [if_pos (by omega)]
  rfl
 | take r s =>
  show ycC _ _ _ [x0,.own (.lst acc),.val (.tup [PV.str "take",.str r,.str s]),c3] h=_
  walk_at "qt"
  rw [yne rfl]
  walk_at "px"
  rw [yAu,yfG,if_pos (show [PV.str "take",.str r,.str s].length<=100000 from Nat.le_of_ble_eq_true rfl)]
  simp only [yAs,yAt,yfG]
  rw [ygK (ts:=wdT (.take r s)) rfl j1 (hb _ hf (Nat.le_of_ble_eq_true rfl))]
  walk_at "px"
  rw [if_pos (by omega)]
  rfl
 | put r s =>
  show ycC _ _ _ [x0,.own (.lst acc),.val (.tup [PV.str "put",.str r,.str s]),c3] h=_
  walk_at "qt"
  rw [yne rfl]
  walk_at "px"
  rw [yAu,yfG,if_pos (show [PV.str "put",.str r,.str s].length<=100000 from Nat.le_of_ble_eq_true rfl)]
  simp only [yAs,yAt,yfG]
  rw [ygK (ts:=wdT (.put r s)) rfl j1 (hb _ hf (Nat.le_of_ble_eq_true rfl))]
  walk_at "px"
  rw [if_pos (by omega)]
  rfl
 | throw r s =>
  show ycC _ _ _ [x0,.own (.lst acc),.val (.tup [PV.str "throw",.str r,.str s]),c3] h=_
  walk_at "qt"
  rw [yne rfl]
  walk_at "px"
  rw [yAu,yfG,if_pos (show [PV.str "throw",.str r,.str s].length<=100000 from Nat.le_of_ble_eq_true rfl)]
  simp only [yAs,yAt,yfG]
  rw [ygK (ts:=wdT (.throw r s)) rfl j1 (hb _ hf (Nat.le_of_ble_eq_true rfl))]
  walk_at "px"
  rw [if_pos (by omega)]
  rfl
 | wait =>
  show ycC _ _ _ [x0,.own (.lst acc),.val (.tup [PV.str "wait"]),c3] h=_
  walk_at "qt"
  rw [yne rfl]
  walk_at "px"
  rw [yAu,yfG,if_pos (show [PV.str "wait"].length<=100000 from Nat.le_of_ble_eq_true rfl)]
  simp only [yAs,yAt,yfG]
  rw [ygK (ts:=wdT (.wait)) rfl j1 (hb _ hf (Nat.le_of_ble_eq_true rfl))]
  walk_at "px"
  rw [if_pos (by omega)]
  rfl
 | reckon w r s u =>
  show ycC _ _ _ [x0,.own (.lst acc),.val (.tup [PV.str w,.str r,.str s,.str u]),c3] h=_
  obtain ⟨n1,n2,n3,n4,n5,n6,n7,n8⟩:=ypt g.1
  simp_all? only [yqn,n6,n7,n8,↓reduceIte]
  rw [yne rfl]
  walk_at "px"
  rw [yAu,yfG,if_pos (show [PV.str w,.str r,.str s,.str u].length<=100000 from Nat.le_of_ble_eq_true rfl)]
  simp only [yAs,yAt,yfG]
  rw [ygK (ts:=wdT (.reckon w r s u)) rfl j1 (hb _ hf (Nat.le_of_ble_eq_true rfl))]
  walk_at "px"
  rw [if_pos (by omega)]
  rfl
theorem yIF {n:Nat}(G:yrt n) {r:Str}{a b:List T}(g:gdT (.if_ r a b)) (hw:wT (.if_ r a b)<=50000) (hd:2*max (ybi a) (ybi b)+1<=n) (x0 c3:PVar) (acc:List PV) (ha:acc.length<90000):ypw (n+1) [x0,.own (.lst acc),.val (yfy (.if_ r a b)),c3] h=some (.nx [x0,.own (.lst (acc++[.str (ycQ (.if_ r a b))])),.val (yfy (.if_ r a b)),c3],h):=by
 have hw:40+r.length+wL a+wL b<=50000:=hw
 have b1:=ycO (ykv a)
 have b2:=ycO (ykv b)
 have c1:(ykv a).length<=wL a:=ybf a
 have c2:(ykv b).length<=wL b:=ybf b
 unfold ypw
 show ycC _ _ _ [x0,.own (.lst acc),.val (.tup [.str "if",.str r,.lst (ym a),.lst (ym b)]),c3] h=_
 walk_at "qt"
 rw [yne rfl]
 simp_all? only [yqn,yth,yuW,yze,yAr G g.2.1 (by omega:wL a<=50000) (by omega),yAr G g.2.2 (by omega:wL b<=50000) (by omega),yGK,ylW]
 rw [if_pos (by omega),if_pos (by omega),if_pos (by omega),if_pos (by omega),if_pos (by omega),if_pos (by omega)]
 have e:"if "++r++" "++ycl (ykv a)++" else "++ycl (ykv b)=ycQ (.if_ r a b):=by
  show _ = "if"++" "++(r++" "++(ycl (ykv a)++" "++("else"++" "++ycl (ykv b))))
  rw [yPp,yLI]
  simp only [yhn]
 rw [e];rfl
theorem yyc {n:Nat}(G:yrt n) {a b:List T}(g:gdT (.either a b)) (hw:wT (.either a b)<=50000) (hd:2*max (ybi a) (ybi b)+1<=n) (x0 c3:PVar) (acc:List PV) (ha:acc.length<90000):ypw (n+1) [x0,.own (.lst acc),.val (yfy (.either a b)),c3] h=some (.nx [x0,.own (.lst (acc++[.str (ycQ (.either a b))])),.val (yfy (.either a b)),c3],h):=by
 have hw:40+wL a+wL b<=50000:=hw
 have b1:=ycO (ykv a)
 have b2:=ycO (ykv b)
 have c1:(ykv a).length<=wL a:=ybf a
 have c2:(ykv b).length<=wL b:=ybf b
 unfold ypw
 show ycC _ _ _ [x0,.own (.lst acc),.val (.tup [.str "either",.lst (ym a),.lst (ym b)]),c3] h=_
 walk_at "qt"
 rw [yne rfl]
 simp_all? only [yqn,yth,yuW,yze,yAr G g.1 (by omega:wL a<=50000) (by omega),yAr G g.2 (by omega:wL b<=50000) (by omega),yGK,ylW]
 rw [if_pos (by omega),if_pos (by omega),if_pos (by omega),if_pos (by omega)]
 have e:"either "++ycl (ykv a)++" or "++ycl (ykv b)=ycQ (.either a b):=by
  show _ = "either"++" "++(ycl (ykv a)++" "++("or"++" "++ycl (ykv b)))
  rw [yFA,yPq]
  simp only [yhn]
 rw [e];rfl
theorem yFB {n:Nat}(G:yrt n) {nm r:Str}{a b:List T}(g:gdT (.try_ a nm r b)) (hw:wT (.try_ a nm r b)<=50000) (hd:2*max (ybi a) (ybi b)+1<=n) (x0 c3:PVar) (acc:List PV) (ha:acc.length<90000):∃ c3',ypw (n+1) [x0,.own (.lst acc),.val (yfy (.try_ a nm r b)),c3] h=some (.nx [x0,.own (.lst (acc++[.str (ycQ (.try_ a nm r b))])),.val (yfy (.try_ a nm r b)),c3'],h):=by
 have hw:40+nm.length+r.length+wL a+wL b<=50000:=hw
 have b1:=ycO (ykv a)
 have b2:=ycO (ykv b)
 have c1:(ykv a).length<=wL a:=ybf a
 have c2:(ykv b).length<=wL b:=ybf b
 refine ⟨.val (.lst [.str "try",.str (ycl (ykv a)),.str "on",.str nm,.str r,.str (ycl (ykv b))]),?_⟩
 unfold ypw
 show ycC _ _ _ [x0,.own (.lst acc),.val (.tup [.str "try",.lst (ym a),.str nm,.str r,.lst (ym b)]),c3] h=_
 walk_at "qt"
 simp_all? only [yqn,yth,yuW,yze,yMh,yAr G g.2.2.1 (by omega:wL a<=50000) (by omega),yAr G g.2.2.2 (by omega:wL b<=50000) (by omega)]
 rw [yne rfl]
 walk_at "px"
 rw [ygK (ts:=["try",ycl (ykv a),"on",nm,r,ycl (ykv b)]) rfl j1 (by simp only [List.map_cons,List.map_nil,List.sum_cons,List.sum_nil,List.length_cons,List.length_nil,yCD,yCE];omega)]
 walk_at "px"
 rw [if_pos (by omega)]
 rfl
theorem yDa {n:Nat}(G:∀ m,m<n->yrt m) {t:T}(g:gdT t) (hw:wT t<=50000) (hd:2*ylV t<=n) (x0 c3:PVar) (acc:List PV) (ha:acc.length<90000):∃ c3',ypw n [x0,.own (.lst acc),.val (yfy t),c3] h=some (.nx [x0,.own (.lst (acc++[.str (ycQ t)])),.val (yfy t),c3'],h):=by
 cases t with
 | if_ r a b =>
  have h1:2*(1+max (ybi a) (ybi b))<=n:=hd
  obtain ⟨m,rfl⟩:∃ m,n=m+1:=⟨n-1,by omega⟩
  exact ⟨_,yIF (G m (by omega)) g hw (by omega) x0 c3 acc ha⟩
 | either a b =>
  have h1:2*(1+max (ybi a) (ybi b))<=n:=hd
  obtain ⟨m,rfl⟩:∃ m,n=m+1:=⟨n-1,by omega⟩
  exact ⟨_,yyc (G m (by omega)) g hw (by omega) x0 c3 acc ha⟩
 | try_ a nm r b =>
  have h1:2*(1+max (ybi a) (ybi b))<=n:=hd
  obtain ⟨m,rfl⟩:∃ m,n=m+1:=⟨n-1,by omega⟩
  exact yFB (G m (by omega)) g hw (by omega) x0 c3 acc ha
 | base=>exact g.elim
 | let_ r m=>exact ⟨_,yik g trivial x0 c3 acc ha⟩
 | reckon w r s u=>exact ⟨_,yik g trivial x0 c3 acc ha⟩
 | take r s=>exact ⟨_,yik g trivial x0 c3 acc ha⟩
 | put r s=>exact ⟨_,yik g trivial x0 c3 acc ha⟩
 | throw r s=>exact ⟨_,yik g trivial x0 c3 acc ha⟩
 | wait=>exact ⟨_,yik g trivial x0 c3 acc ha⟩
theorem ywh {n:Nat}(G:∀ m,m<n->yrt m) (x0:PVar):∀ (us:List T) (acc:List PV) (c2 c3:PVar),gdL us->wL us<=50000->2*ybi us<=n->acc.length+us.length<=90000->∃ c2' c3',ykc (yt 2) (ypw n) (ym us) [x0,.own (.lst acc),c2,c3] h=some (.nx [x0,.own (.lst (acc++(yL us).map .str)),c2',c3'],h)
 | [],acc,c2,c3,_,_,_,_=>⟨c2,c3,by
  show some (Out.nx [x0,.own (.lst acc),c2,c3],h)=some (Out.nx [x0,.own (.lst (acc++[])),c2,c3],h)
  rw [List.append_nil]⟩
 | t::r,acc,c2,c3,g,hw,hd,hl=>by
  have hd:2*max (ylV t) (ybi r)<=n:=hd
  have hw:5+wT t+wL r<=50000:=hw
  have hl:acc.length+(r.length+1)<=90000:=hl
  obtain ⟨d3,e⟩:=yDa (h:=h) G g.1 (by omega) (by omega) x0 c3 acc (by omega)
  obtain ⟨d2,d3',e2⟩:=ywh G x0 r (acc++[.str (ycQ t)]) (.val (yfy t)) d3 g.2 (by omega) (by omega) (by rw [List.length_append,List.length_singleton];omega)
  refine ⟨d2,d3',?_⟩
  show ykc (yt 2) (ypw n) (yfy t::ym r) _ h=some (Out.nx [x0,.own (.lst (acc++(.str (ycQ t)::(yL r).map .str))),d2,d3'],h)
  rw [yof,show yt 2 (yfy t) [x0,.own (.lst acc),c2,c3]=some [x0,.own (.lst acc),.val (yfy t),c3] from rfl,Option.bind_some,e,yfG]
  show ykc (yt 2) (ypw n) (ym r) _ h=_
  rw [e2,List.append_assoc];rfl
theorem yIG:∀ n:Nat,yrt n:=by
 intro n
 induction n using Nat.strongRecOn with
 | ind n ih =>
  intro ts h g hw hd
  obtain ⟨m,rfl⟩:∃ m,n=m+1:=⟨n-1,by omega⟩
  have hc:=w_count ts
  have sl:=ymO ts
  unfold ygR
  rw [yK]
  show ob (yw _ (yw (ysZ (xIL (yj 0)) (yt 2) (ypw m)) _) [.val (.lst (ym ts)),.no,.no,.no] h) fnK=_
  walk_at "px"
  rw [yxU rfl,yfG]
  obtain ⟨c2,c3,e⟩:=ywh (h:=h) (n:=m) (fun k hk=>ih k (by omega)) (.val (.lst (ym ts))) ts [] .no .no g hw (by omega) (by show 0+ts.length<=90000;omega)
  rw [e]
  walk_at "px"
  rw [List.nil_append,ygK (ytj ts) (by rw [l3];decide) (by omega)]
  walk_at "px"
  rfl
end
section
variable {h:AH}
theorem yiy (n:Int):ygL (yok n):=by
 unfold yok yvW
 have hm:=ylC n (show (0:Int)<8 by decide)
 rw [show slotsV.cps.toList=[97,98,99,100,101,102,103,104] by rfl']
 generalize n%8=k at *
 have:k=0\/k=1\/k=2\/k=3\/k=4\/k=5\/k=6\/k=7:=by omega
 rcases this with rfl|rfl|rfl|rfl|rfl|rfl|rfl|rfl
 all_goals exact ⟨_,by decide,by decide,rfl⟩
theorem yIH (k:Int):∀ c∈(yvW lettersV (k%26)).cps.toList,97<=c/\c<=122:=by
 intro c hc
 have hm:=ylC k (show (0:Int)<26 by decide)
 unfold yvW at hc
 have e:lettersV.cps.toList=(List.range 26).map (· + 97):=by rfl'
 rw [e] at hc
 have hj:(k%26).toNat<26:=by omega
 have:c=(k%26).toNat+97:=by
  simp [hj] at hc
  exact hc
 omega
theorem yII (a b:Str):(a++b).cps.toList=a.cps.toList++b.cps.toList:=by
 show (a.cps++b.cps).toList=_
 simp
theorem yLJ (c at':Int):∀ k:Nat,∀ x∈(ylB c at' k).cps.toList,97<=x/\x<=122
 | 0,x,hx=>by
  rw [show (ylB c at' 0).cps.toList=[] from by show ("":Str).cps.toList=[];rfl'] at hx
  cases hx
 | k+1,x,hx=>by
  rw [show ylB c at' (k+1)=ylB c at' k++nameStep c at' k from rfl,yII] at hx
  rcases List.mem_append.mp hx with hx|hx
  .exact yLJ c at' k x hx
  .exact yIH _ x hx
theorem yDb (c:Int):ytk (yAf c):=by
 unfold yAf
 split
 .have hm:=ylC (c/4) (show (0:Int)<8 by decide)
  generalize c/4%8=k at *
  have:k=0\/k=1\/k=2\/k=3\/k=4\/k=5\/k=6\/k=7:=by omega
  rcases this with rfl|rfl|rfl|rfl|rfl|rfl|rfl|rfl
  all_goals exact ⟨by rfl',by rfl',by rfl'⟩
 .have hm:=ylC (c/4) (show (0:Int)<8 by decide)
  refine ⟨by rw [yvZ];omega,by rw [yvZ];omega,yLJ _ _ _⟩
theorem yIJ (m:Int):ywd (yCC m):=by
 unfold yCC
 have hm:=ylC (m/512) (show (0:Int)<5 by decide)
 generalize m/512%5=k at *
 have:k=0\/k=1\/k=2\/k=3\/k=4:=by omega
 rcases this with rfl|rfl|rfl|rfl|rfl
 .exact .inl rfl
 .exact .inr (.inl rfl)
 .exact .inr (.inr (.inl rfl))
 .exact .inr (.inr (.inr (.inl rfl)))
 .exact .inr (.inr (.inr (.inr rfl)))
theorem yFC (w c:Int):gdT (yvX w c):=by
 unfold yvX
 repeat' split
 .exact ⟨yiy _,yLo c⟩
 .exact ⟨yIJ _,yiy _,yiy _,yiy _⟩
 .exact ⟨yiy _,yiy _⟩
 .exact ⟨yiy _,yiy _⟩
 .exact ⟨yDb _,yiy _⟩
 .trivial
noncomputable def yAv (c:Int):Int:=if c%10<2 then 0 else if c%10<4 then 1 else if c%10<6 then 2 else if c%10<8 then 3 else if c%10=8 then 4 else 5
theorem yFD (c:Int):yhm [.int c] h=some (yfy (yvX (yAv c) (c/10)),h):=by
 unfold yhm
 rw [yK]
 show ob (yw _ _ [.val (.int c),.no,.no,.no,.no] h) fnK=_
 obtain ⟨w,hw,ew,_⟩:=yLn (yBg (c/10))
 unfold yBg at hw
 simp_all? only [yCJ,yCK,yCL,hw,Option.bind_some]
 rw [ew]
 by_cases q0:c%10<2
 .rw [if_pos q0,show yAv c=0 by unfold yAv;rw [if_pos q0]];rfl
 .rw [if_neg q0]
  by_cases q1:c%10<4
  .rw [if_pos q1,show yAv c=1 by unfold yAv;rw [if_neg q0,if_pos q1]];rfl
  .rw [if_neg q1]
   by_cases q2:c%10<6
   .rw [if_pos q2,show yAv c=2 by unfold yAv;rw [if_neg q0,if_neg q1,if_pos q2]];rfl
   .rw [if_neg q2]
    by_cases q3:c%10<8
    .rw [if_pos q3,show yAv c=3 by unfold yAv;rw [if_neg q0,if_neg q1,if_neg q2,if_pos q3]];rfl
    .rw [if_neg q3]
     by_cases q4:c%10=8
     .rw [if_pos q4,show yAv c=4 by unfold yAv;rw [if_neg q0,if_neg q1,if_neg q2,if_neg q3,if_pos q4]];rfl
     .rw [if_neg q4,show yAv c=5 by unfold yAv;rw [if_neg q0,if_neg q1,if_neg q2,if_neg q3,if_neg q4]];rfl
theorem yzv (c:Int) {a b:List T}(ga:gdL a) (gb:gdL b):∃ t,ydd [.int c,.lst (ym a),.lst (ym b)] h=some (yfy t,h)/\gdT t/\ylV t=1+max (ybi a) (ybi b):=by
 have key:∀ (x y:List T),gdL x->gdL y->max (ybi x) (ybi y)=max (ybi a) (ybi b)->∃ t,(if c*69621%2147483629/2%3=0 then some (yfy (.if_ (yok (c*69621%2147483629/6)) x y),h) else if c*69621%2147483629/2%3=1 then some (yfy (.either x y),h) else some (yfy (.try_ x (yAf c) (yok (c*69621%2147483629/6)) y),h))=some (yfy t,h)/\gdT t/\ylV t=1+max (ybi a) (ybi b):=by
  intro x y gx gy e
  split
  .exact ⟨_,rfl,⟨yiy _,gx,gy⟩,by rw [<- e];rfl⟩
  .split
   .exact ⟨_,rfl,⟨gx,gy⟩,by rw [<- e];rfl⟩
   .exact ⟨_,rfl,⟨yDb _,yiy _,gx,gy⟩,by rw [<- e];rfl⟩
 unfold ydd
 rw [yK]
 show ∃ t,ob (yw _ _ [.val (.int c),.val (.lst (ym a)),.val (.lst (ym b)),.no,.no] h) fnK=_/\_
 simp_all? only [yCJ,yCL]
 split
 .exact key b a gb ga (Nat.max_comm _ _)
 .exact key a b ga gb rfl
end
section
variable {h:AH}
theorem gdL_iff:∀ {ts:List T},gdL ts ↔ ∀ t∈ts,gdT t
 | []=>⟨(fun _ t h=>by cases h),fun _=>trivial⟩
 | t::r=>⟨fun g u hu=>(List.mem_cons.mp hu).elim (fun e=>e ▸ g.1) (gdL_iff.mp g.2 u),fun g=>⟨g t List.mem_cons_self,gdL_iff.mpr fun u hu=>g u (List.mem_cons_of_mem _ hu)⟩⟩
theorem yuh:∀ {ts:List T}{n:Nat},(∀ t∈ts,ylV t<=n)->ybi ts<=n
 | [],n,_=>Nat.zero_le _
 | t::r,n,g=>by
  have h1:=g t List.mem_cons_self
  have h2:=yuh (ts:=r) fun u hu=>g u (List.mem_cons_of_mem _ hu)
  show max (ylV t) (ybi r)<=n
  omega
theorem yDc {ts us:List T}(g:gdL ts) (h:∀ t∈us,t∈ts):gdL us/\ybi us<=ybi ts:=⟨gdL_iff.mpr fun t ht=>gdL_iff.mp g t (h t ht),yuh fun t ht=>ypg (h t ht)⟩
theorem yzw {ts us:List T}(g:OkL ts) (gu:gdL us) (hd:ybi us<=11):∃ ts',OkL ts'/\(ob (ybP 15 [.lst (ym us)] h) fun x h1=>ob (oGt x (.int 8) h1) fun y h2=>ob (oB y h2) fun z h3=>if z=true then some (PV.lst (ym ts),h3) else ob (ybC 15 [.lst (ym us)] h3) fun x h4=>ob (oGt x (.int 79) h4) fun y h5=>ob (oB y h5) fun z h6=>if z=true then some (PV.lst (ym ts),h6) else some (PV.lst (ym us),h6))=some (.lst (ym ts'),h):=by
 rw [yug 15 us h gu (by omega)]
 simp_all? only []
 by_cases q:rdL us>8
 .rw [if_pos q]
  exact ⟨ts,g,rfl⟩
 .rw [if_neg q,yqB 15 us h gu (by omega)]
  simp_all? only []
  by_cases q2:(ybE us).sum>79
  .rw [if_pos q2]
   exact ⟨ts,g,rfl⟩
  .rw [if_neg q2]
   exact ⟨us,⟨gu,by omega,by omega⟩,rfl⟩
theorem yyd (ts:List T) (lo hi:Option Int):∃ us,yDK (ym ts) lo hi=ym us/\(∀ t∈us,t∈ts)/\us.length<=ts.length:=by
 unfold yDK
 rw [ykk,<- List.map_drop,<- List.map_take]
 refine ⟨_,(ykk _).symm,fun t ht=>List.mem_of_mem_drop (List.mem_of_mem_take ht),?_⟩
 rw [List.length_take,List.length_drop]
 omega
theorem yzx (ts:List T) (t:T):ym ts++[yfy t]=ym (ts++[t]):=by rw [ykk,ykk,List.map_append];rfl
theorem yDd {ts:List T}{t:T}(g:gdL ts) (gt:gdT t):gdL (ts++[t]):=gdL_iff.mpr fun u hu=>(List.mem_append.mp hu).elim (gdL_iff.mp g u) fun e=>by rw [List.mem_singleton.mp e];exact gt
theorem yzy {ts:List T}{t:T}{n:Nat}(h1:ybi ts<=n) (h2:ylV t<=n):ybi (ts++[t])<=n:=yuh fun u hu=>(List.mem_append.mp hu).elim (fun z=>Nat.le_trans (ypg z) h1) fun e=>by rw [List.mem_singleton.mp e];exact h2
theorem yIK {ts:List T}(g:OkL ts) (c:Int):∃ ts',OkL ts'/\ygQ [.lst (ym ts),.int c] h=some (.lst (ym ts'),h):=by
 have hl:=g.len
 have hdp:=g.dep
 unfold ygQ
 rw [yK]
 show ∃ ts',OkL ts'/\ob (yw _ _ [.val (.lst (ym ts)),.val (.int c),.no,.no,.no] h) fnK=_
 simp_all? only [yFD,yuf,ykl]
 generalize c%1000000000000000000000000000000000000000000000000000000000000=d
 by_cases q:0<d%3
 .rw [if_pos q,if_pos (by omega),yzx]
  exact yzw g (yDd g.gd (yFC _ _)) (yzy (by omega) (by rw [yCH];omega))
 .rw [if_neg q]
  generalize max 0 ((ts.length:Int)-d/3%4)=cu
  generalize max 0 (cu-d/12%3)=lo
  obtain ⟨x,ex,mx,_⟩:=yyd ts (some cu) none
  obtain ⟨y,ey,my,_⟩:=yyd ts (some lo) (some cu)
  obtain ⟨z,ez,mz,lz⟩:=yyd ts none (some lo)
  rw [ex,ey,ez]
  obtain ⟨gx,dx⟩:=yDc g.gd mx
  obtain ⟨gy,dy⟩:=yDc g.gd my
  obtain ⟨gz,dz⟩:=yDc g.gd mz
  obtain ⟨t,et,gt,dt⟩:=yzv (h:=h) (d/36) gx gy
  rw [et]
  simp_all? only [ykl]
  rw [if_pos (by omega),yzx]
  exact yzw g (yDd gz gt) (yzy (by omega) (by omega))
end
section
variable {h:AH}
theorem ywi {n:Nat}:∀ {xs:List PV}{us:List V},svs xs=some us->yuX (eqP (n+1) h) xs xs=some true
 | [],_,_=>rfl
 | x::xs,us,e=>by
  unfold svs at e
  split at e
  .rename_i u us' e1 e2
   cases e
   show (match eqP (n+1) h x x,yuX (eqP (n+1) h) xs xs with|some b,some c=>some (b && c)|_,_=>none)=_
   rw [ywi e2]
   have:eqP (n+1) h x x=some (eqV u u):=by
    show (match sv x,sv x with|some u,some v=>some (eqV u v)|_,_=>pairE (eqP n h) h x x)=_
    rw [e1]
   rw [this,yzf (yqO e1)]
   rfl
  .cases e
theorem yon {xs:List PV}{us:List V}(e:svs xs=some us):yAa (.lst xs) (.lst xs) h=some (.bl true,h):=by
 unfold yAa pairE yey
 simp only [ywi (n:=39) e,if_true]
theorem yLK {ns:List Str}{xs:List PV}:ylO yeN [.ins 1 ns xs,.cls 1] h=some (.bl true,h):=rfl
theorem yLL {ns:List Str}{xs:List PV}:ylO yeN [.ins 2 ns xs,.cls 2] h=some (.bl true,h):=rfl
theorem yLM {ns:List Str}{xs:List PV}:ylO yeN [.ins 3 ns xs,.cls 3] h=some (.bl true,h):=rfl
theorem yLN {ns:List Str}{xs:List PV}:ylO yeN [.ins 4 ns xs,.cls 4] h=some (.bl true,h):=rfl
theorem yLO {ns:List Str}{xs:List PV}:ylO yeN [.ins 5 ns xs,.cls 5] h=some (.bl true,h):=rfl
theorem yLP {ns:List Str}{xs:List PV}:ylO yeN [.ins 5 ns xs,.cls 0] h=some (.bl true,h):=rfl
theorem yLQ {ns:List Str}{xs:List PV}:ylO yeN [.ins 6 ns xs,.cls 6] h=some (.bl true,h):=rfl
theorem yLR {ns:List Str}{xs:List PV}:ylO yeN [.ins 6 ns xs,.cls 0] h=some (.bl true,h):=rfl
theorem yLS {ns:List Str}{xs:List PV}:ylO yeN [.ins 7 ns xs,.cls 7] h=some (.bl true,h):=rfl
theorem yLT {ns:List Str}{xs:List PV}:ylO yeN [.ins 7 ns xs,.cls 0] h=some (.bl true,h):=rfl
theorem yLU {ns:List Str}{xs:List PV}:ylO yeN [.ins 8 ns xs,.cls 8] h=some (.bl true,h):=rfl
theorem yLV {ns:List Str}{xs:List PV}:ylO yeN [.ins 9 ns xs,.cls 9] h=some (.bl true,h):=rfl
theorem yDe {t:T}(g:gdT t) (hp:plain t):yfi [ybd t,yfy t] h=some (.bl true,h):=by
 unfold yfi
 rw [yK]
 cases t with
 | base=>exact g.elim
 | if_ r a b=>exact hp.elim
 | either a b=>exact hp.elim
 | try_ a nm r b=>exact hp.elim
 | let_ r m =>
  show ob (yw _ _ [.val (.ins 1 ["slot","number"] [.str r,.int m]),.val (.tup [.str "let",.str r,.int m])] h) fnK=_
  walk_at "qt"
  simp_all? only [yLK,yon (xs:=[.str r,.int m]) rfl,yFq]
 | take r s =>
  show ob (yw _ _ [.val (.ins 3 ["slot","place"] [.str r,.str s]),.val (.tup [.str "take",.str r,.str s])] h) fnK=_
  walk_at "qt"
  simp_all? only [yLM,yon (xs:=[.str r,.str s]) rfl]
 | put r s =>
  show ob (yw _ _ [.val (.ins 4 ["place","slot"] [.str r,.str s]),.val (.tup [.str "put",.str r,.str s])] h) fnK=_
  walk_at "qt"
  simp_all? only [yLN,yon (xs:=[.str r,.str s]) rfl]
 | throw r s =>
  show ob (yw _ _ [.val (.ins 8 ["name","slot"] [.str r,.str s]),.val (.tup [.str "throw",.str r,.str s])] h) fnK=_
  walk_at "qt"
  simp_all? only [yLU,yon (xs:=[.str r,.str s]) rfl]
 | wait =>
  show ob (yw _ _ [.val (.ins 9 [] []),.val (.tup [.str "wait"])] h) fnK=_
  walk_at "qt"
  simp_all? only [yLV]
 | reckon w r s u =>
  show ob (yw _ _ [.val (.ins 2 ["word","slot","one","other"] [.str w,.str r,.str s,.str u]),.val (.tup [.str w,.str r,.str s,.str u])] h) fnK=_
  obtain ⟨n1,n2,n3,n4,n5,n6,n7,n8⟩:=ypt g.1
  simp_all? only [yqn,n1,n2,n3,n4,n5,↓reduceIte]
  simp_all? only [yLL,yon (xs:=[.str w,.str r,.str s,.str u]) rfl]
end
section
variable {h:AH}
noncomputable def ypx (n:Nat):XS:=yw (ycC (yql (yz (xCB (ylO yeN) (yc (yj 2) (yc (xC (.cls 0)) (yp)))))) (ybq (xC (.bl false))) (ybh)) (yw (ydy (yI yH (yc (yj 3) (yp))) (yt 4)) (ycC (yz (xOp (yAa) (yj 4) (xFz (yjN (yp))))) (ycC (yql (yz (yI yfi (yc (yj 2) (yc (yj 3) (yp)))))) (ybq (xC (.bl false))) (ybh)) (yw (ycC (yyU (yz (xOp (oEq) (xOp (ycT) (yj 3) (xC (.int 0))) (xC (.str "if")))) (xOr (yql (yz (xCB (ylO yeN) (yc (yj 2) (yc (xC (.cls 5)) (yp)))))) (yz (xOp (oNe) (ygJ [1,2,3,4,5,7,8] "slot" (yj 2)) (xOp (ycT) (yj 3) (xC (.int 1))))))) (ybq (xC (.bl false))) (ybh)) (yw (ycC (yyU (yz (xOp (oEq) (xOp (ycT) (yj 3) (xC (.int 0))) (xC (.str "either")))) (yql (yz (xCB (ylO yeN) (yc (yj 2) (yc (xC (.cls 6)) (yp))))))) (ybq (xC (.bl false))) (ybh)) (yw (ycC (yyU (yz (xOp (oEq) (xOp (ycT) (yj 3) (xC (.int 0))) (xC (.str "try")))) (yql (yz (xCB (ylO yeN) (yc (yj 2) (yc (xC (.cls 7)) (yp))))))) (ybq (xC (.bl false))) (ybh)) (yw (ycC (yyU (yz (xOp (oEq) (xOp (ycT) (yj 3) (xC (.int 0))) (xC (.str "try")))) (xOr (yz (xOp (oNe) (ygJ [7,8] "name" (yj 2)) (xOp (ycT) (yj 3) (xC (.int 2))))) (yz (xOp (oNe) (ygJ [1,2,3,4,5,7,8] "slot" (yj 2)) (xOp (ycT) (yj 3) (xC (.int 3))))))) (ybq (xC (.bl false))) (ybh)) (ycC (xOr (yql (yz (yI (ydC n) (yc (ygJ [5,6,7] "parts" (yj 2)) (yc (xOp (ytG) (yj 4) (xC (.int 0))) (yp)))))) (yql (yz (yI (ydC n) (yc (ygJ [5,6,7] "others" (yj 2)) (yc (xOp (ytG) (yj 4) (xC (.int 1))) (yp))))))) (ybq (xC (.bl false))) (ybh))))))))
def ytq (n:Nat):Prop:=∀ (ts:List T) (h:AH),gdL ts->ybi ts+1<=n->ydC n [.lst (yG ts),.lst (ym ts)] h=some (.bl true,h)
theorem yil {n:Nat}{t:T}(g:gdT t) (hp:plain t) (x0 x1 c4:PVar):ypx n [x0,x1,.val (ybd t),.val (yfy t),c4] h=some (.nx [x0,x1,.val (ybd t),.val (yfy t),.val (.lst [])],h):=by
 have es:ysn t=[]:=by cases t<;>first|rfl|exact hp.elim
 have ei:ylO yeN [ybd t,.cls 0] h=some (.bl true,h):=by cases t<;>first|rfl|exact g.elim
 have e4:=yhT (h:=h) g
 rw [es] at e4
 have e4:yH [yfy t] h=some (.lst [],h):=e4
 unfold ypx
 simp_all? only [ei,e4,yrs,yDe g hp,↓reduceIte]
theorem yIL {n:Nat}(G:ytq n) {r:Str}{a b:List T}(g:gdT (.if_ r a b)) (hd:max (ybi a) (ybi b)+1<=n) (x0 x1 c4:PVar):ypx n [x0,x1,.val (ybd (.if_ r a b)),.val (yfy (.if_ r a b)),c4] h=some (.nx [x0,x1,.val (ybd (.if_ r a b)),.val (yfy (.if_ r a b)),.val (.lst [.lst (ym a),.lst (ym b)])],h):=by
 have e4:yH [.tup [.str "if",.str r,.lst (ym a),.lst (ym b)]] h=some (.lst [.lst (ym a),.lst (ym b)],h):=yhT g
 have q1:=G a h g.2.1 (by omega)
 have q2:=G b h g.2.2 (by omega)
 unfold ypx
 show yw _ _ [x0,x1,.val (.ins 5 ["slot","parts","others"] [.str r,.lst (yG a),.lst (yG b)]),.val (.tup [.str "if",.str r,.lst (ym a),.lst (ym b)]),c4] h=_
 simp_all? only [yLP,yLO,e4,yrs,yqn,yth,q1,q2,ynw,ytZ,↓reduceIte]
 rw [if_neg (by intro z;cases z)];rfl
theorem yye {n:Nat}(G:ytq n) {a b:List T}(g:gdT (.either a b)) (hd:max (ybi a) (ybi b)+1<=n) (x0 x1 c4:PVar):ypx n [x0,x1,.val (ybd (.either a b)),.val (yfy (.either a b)),c4] h=some (.nx [x0,x1,.val (ybd (.either a b)),.val (yfy (.either a b)),.val (.lst [.lst (ym a),.lst (ym b)])],h):=by
 have e4:yH [.tup [.str "either",.lst (ym a),.lst (ym b)]] h=some (.lst [.lst (ym a),.lst (ym b)],h):=yhT g
 have q1:=G a h g.1 (by omega)
 have q2:=G b h g.2 (by omega)
 unfold ypx
 show yw _ _ [x0,x1,.val (.ins 6 ["parts","others"] [.lst (yG a),.lst (yG b)]),.val (.tup [.str "either",.lst (ym a),.lst (ym b)]),c4] h=_
 simp_all? only [yLR,yLQ,e4,yrs,yqn,yth,q1,q2,yfS,ymd,↓reduceIte]
 rw [if_neg (by intro z;cases z)];rfl
theorem yFE {n:Nat}(G:ytq n) {nm r:Str}{a b:List T}(g:gdT (.try_ a nm r b)) (hd:max (ybi a) (ybi b)+1<=n) (x0 x1 c4:PVar):ypx n [x0,x1,.val (ybd (.try_ a nm r b)),.val (yfy (.try_ a nm r b)),c4] h=some (.nx [x0,x1,.val (ybd (.try_ a nm r b)),.val (yfy (.try_ a nm r b)),.val (.lst [.lst (ym a),.lst (ym b)])],h):=by
 have e4:yH [.tup [.str "try",.lst (ym a),.str nm,.str r,.lst (ym b)]] h=some (.lst [.lst (ym a),.lst (ym b)],h):=yhT g
 have q1:=G a h g.2.2.1 (by omega)
 have q2:=G b h g.2.2.2 (by omega)
 unfold ypx
 show yw _ _ [x0,x1,.val (.ins 7 ["parts","name","slot","others"] [.lst (yG a),.str nm,.str r,.lst (yG b)]),.val (.tup [.str "try",.lst (ym a),.str nm,.str r,.lst (ym b)]),c4] h=_
 simp_all? only [yLT,yLS,e4,yrs,yqn,yth,yuW,yze,q1,q2,ykH,yhp,↓reduceIte]
 rw [if_neg (by intro z;cases z)];rfl
theorem yDf {n:Nat}(G:ytq n) {t:T}(g:gdT t) (hd:ylV t<=n) (x0 x1 c4:PVar):∃ c4',ypx n [x0,x1,.val (ybd t),.val (yfy t),c4] h=some (.nx [x0,x1,.val (ybd t),.val (yfy t),c4'],h):=by
 cases t with
 | if_ r a b =>
  have h1:1+max (ybi a) (ybi b)<=n:=hd
  exact ⟨_,yIL G g (by omega) x0 x1 c4⟩
 | either a b =>
  have h1:1+max (ybi a) (ybi b)<=n:=hd
  exact ⟨_,yye G g (by omega) x0 x1 c4⟩
 | try_ a nm r b =>
  have h1:1+max (ybi a) (ybi b)<=n:=hd
  exact ⟨_,yFE G g (by omega) x0 x1 c4⟩
 | base=>exact g.elim
 | let_ r m=>exact ⟨_,yil g trivial x0 x1 c4⟩
 | reckon w r s u=>exact ⟨_,yil g trivial x0 x1 c4⟩
 | take r s=>exact ⟨_,yil g trivial x0 x1 c4⟩
 | put r s=>exact ⟨_,yil g trivial x0 x1 c4⟩
 | throw r s=>exact ⟨_,yil g trivial x0 x1 c4⟩
 | wait=>exact ⟨_,yil g trivial x0 x1 c4⟩
theorem ywj {n:Nat}(G:ytq n) (x0 x1:PVar):∀ (us:List T) (c2 c3 c4:PVar),gdL us->ybi us<=n->∃ c2' c3' c4',ykc (yBc 2 (ylL (yt 2) (ylL (yt 3) (yDI)))) (ypx n) (yDL (yG us) (ym us)) [x0,x1,c2,c3,c4] h=some (.nx [x0,x1,c2',c3',c4'],h)
 | [],c2,c3,c4,_,_=>⟨c2,c3,c4,rfl⟩
 | t::r,c2,c3,c4,g,hd=>by
  have hd:max (ylV t) (ybi r)<=n:=hd
  obtain ⟨d4,e⟩:=yDf (h:=h) G g.1 (by omega) x0 x1 c4
  obtain ⟨d2,d3,d4',e2⟩:=ywj G x0 x1 r (.val (ybd t)) (.val (yfy t)) d4 g.2 (by omega)
  refine ⟨d2,d3,d4',?_⟩
  show ykc _ (ypx n) (.tup [ybd t,yfy t]::yDL (yG r) (ym r)) _ h=_
  rw [yof,show yBc 2 (ylL (yt 2) (ylL (yt 3) (yDI))) (.tup [ybd t,yfy t]) [x0,x1,c2,c3,c4]=some [x0,x1,.val (ybd t),.val (yfy t),c4] from rfl,Option.bind_some,e,yfG]
  show ykc _ (ypx n) (yDL (yG r) (ym r)) _ h=_
  rw [e2]
theorem ygS (ts:List T):(yG ts).length=ts.length:=by rw [yki,List.length_map]
theorem yOj {xs ys:List PV}{r:PSt}(hl:xs.length=ys.length):xIZ (yc (yj 0) (yc (yj 1) yp)) (.val (.lst xs)::.val (.lst ys)::r) h=some (yDL xs ys,h):=by
 show (if xs.length=ys.length then _ else _)=_
 rw [if_pos hl]
theorem yFF {xs:List PV}:ylO yeN [.lst xs,.ty "list"] h=some (.bl true,h):=rfl
theorem yyf:∀ n:Nat,ytq n
 | 0=>fun ts h g hd=>by omega
 | n+1=>fun ts h g hd=>by
  unfold ydC
  rw [yK]
  show ob (yw _ (yw (ysZ (xIZ (yc (yj 0) (yc (yj 1) yp))) (yBc 2 (ylL (yt 2) (ylL (yt 3) (yDI)))) (ypx n)) _) [.val (.lst (yG ts)),.val (.lst (ym ts)),.no,.no,.no] h) fnK=_
  simp_all? only [yFF,ygS,ykl,↓reduceIte]
  rw [yOj (by rw [ygS,ykl]),yfG]
  obtain ⟨c2,c3,c4,e⟩:=ywj (h:=h) (yyf n) (.val (.lst (yG ts))) (.val (.lst (ym ts))) ts .no .no .no g (by omega)
  rw [e]
  walk_at "px"
end
section
theorem ypy {h g:AH}{m:Nat}{x:Nd}(p:h <+: g) (hm:h.length<=m):h <+: g.set m x:=by
 obtain ⟨r,rfl⟩:=p
 rw [List.set_append_right _ _ hm]
 exact ⟨_,rfl⟩
theorem yLW {h g:AH}{m:Nat}{x:Nd}(p:h <+: g) (e:h[m]?=some x):g[m]?=some x:=by
 obtain ⟨r,rfl⟩:=p
 rw [List.getElem?_append_left (List.getElem?_eq_some_iff.mp e).1];exact e
theorem yOk {h:AH}{m:Nat}{x:Nd}(e:h[m]?=some x):m<h.length:=(List.getElem?_eq_some_iff.mp e).1
variable {h:AH}
theorem yIM {r a b:PV}{xs ys:List PV}(ha:ydz [a] h=some (.lst xs,h)) (hb:ydz [b] h=some (.lst ys,h)):yda [r,a,b] h=some (.ins 5 ["slot","parts","others"] [r,.lst xs,.lst ys],h):=by
 unfold yda
 rw [yxB]
 show ob (yw _ _ [.own (.ins 5 [] []),.val r,.val a,.val b] h) inK=_
 walk_at "px"
 rw [ha]
 walk_at "px"
 rw [hb]
 walk_at "px"
theorem yyg {a b:PV}{xs ys:List PV}(ha:ydz [a] h=some (.lst xs,h)) (hb:ydz [b] h=some (.lst ys,h)):ybH [a,b] h=some (.ins 6 ["parts","others"] [.lst xs,.lst ys],h):=by
 unfold ybH
 rw [yxB]
 show ob (yw _ _ [.own (.ins 6 [] []),.val a,.val b] h) inK=_
 walk_at "px"
 rw [ha]
 walk_at "px"
 rw [hb]
 walk_at "px"
theorem yFG {a nm r b:PV}{xs ys:List PV}(ha:ydz [a] h=some (.lst xs,h)) (hb:ydz [b] h=some (.lst ys,h)):ycx [a,nm,r,b] h=some (.ins 7 ["parts","name","slot","others"] [.lst xs,nm,r,.lst ys],h):=by
 unfold ycx
 rw [yxB]
 show ob (yw _ _ [.own (.ins 7 [] []),.val a,.val nm,.val r,.val b] h) inK=_
 walk_at "px"
 rw [ha]
 walk_at "px"
 rw [hb]
 walk_at "px"
def ypQ (n:Nat):Prop:=∀ (t:T) (h:AH),gdT t->yDP t->2*ylV t+1<=n->∃ h',ybD n [yfy t] h=some (ybd t,h')/\h <+: h'
abbrev mE (n:Nat):XE:=yI (ybD n) (yc (yj 0) (yp))
theorem yui {n:Nat}(G:ypQ n) (ρ:PSt):∀ (us:List T) (h:AH),gdL us->yxe us->2*ybi us+1<=n->∃ h',yqy (mE n) (yob [] ρ) (ym us) h=some (yG us,h')/\h <+: h'
 | [],h,_,_,_=>⟨h,rfl,List.prefix_refl _⟩
 | t::r,h,g,f,hd=>by
  have hd:2*max (ylV t) (ybi r)+1<=n:=hd
  obtain ⟨h1,e1,p1⟩:=G t h g.1 f.1 (by omega)
  obtain ⟨h2,e2,p2⟩:=yui G ρ r h1 g.2 f.2 (by omega)
  refine ⟨h2,?_,p1.trans p2⟩
  show ob (ybD n [yfy t] h) (fun y h1=>ob (yqy (mE n) (yob [] ρ) (ym r) h1) fun ys h2=>some (y::ys,h2))=_
  rw [e1,yfG,e2];rfl
theorem yDg {n:Nat}(G:ypQ n) {us:List T}{h:AH}(g:gdL us) (f:yxe us) (hl:us.length<=90) (hd:2*ybi us+1<=n):∃ m h',ydV (n+1) [.lst (ym us)] h=some (.loc m,h')/\h <+: h'/\h.length<=m/\h'[m]?=some (.lst (yG us)):=by
 obtain ⟨h1,e1,p1⟩:=yui G [.val (.lst (ym us))] us h g f hd
 refine ⟨h1.length,h1++[.lst (yG us)],?_,p1.trans ⟨_,rfl⟩,p1.length_le,by simp⟩
 unfold ydV
 rw [yK]
 show ob (ybq (yIZ (ylM _ [] (mE n))) [.val (.lst (ym us))] h) fnK=_
 walk_at "px"
 rw [yxU rfl,yfG,if_pos (by rw [ykl];omega),e1]
 walk_at "px"
theorem yFH {us:List T}{h:AH}(g:gdL us) (f:yxe us) (hl:us.length<=90) (hd:ybi us<=10) (G:ypQ 30):∃ h',ygp [.lst (ym us)] h=some (.lst (yG us),h'):=by
 obtain ⟨h1,e1,p1⟩:=yui G [.val (.lst (ym us))] us h g f (by omega)
 refine ⟨h1,?_⟩
 unfold ygp
 rw [yK]
 show ob (ybq (xFz (ylM _ [] (mE 30))) [.val (.lst (ym us))] h) fnK=_
 walk_at "px"
 rw [yxU rfl,yfG,if_pos (by rw [ykl];omega),e1]
 walk_at "px"
theorem yim {n:Nat}{t:T}(g:gdT t) (hp:plain t):ybD (n+1) [yfy t] h=some (ybd t,h):=by
 unfold ybD
 rw [yK]
 cases t with
 | base=>exact g.elim
 | if_ r a b=>exact hp.elim
 | either a b=>exact hp.elim
 | try_ a nm r b=>exact hp.elim
 | let_ r m =>
  show ob (yw _ _ [.val (.tup [.str "let",.str r,.int m]),.no,.no] h) fnK=_
  simp_all? only [yqn,yth,yuW,yLx]
  rfl
 | take r s =>
  show ob (yw _ _ [.val (.tup [.str "take",.str r,.str s]),.no,.no] h) fnK=_
  simp_all? only [yqn,yth,yuW,yGH,ypj,↓reduceIte]
  rfl
 | put r s =>
  show ob (yw _ _ [.val (.tup [.str "put",.str r,.str s]),.no,.no] h) fnK=_
  simp_all? only [yqn,yth,yuW,yLy,yri,ypl,↓reduceIte]
  rfl
 | throw r s =>
  show ob (yw _ _ [.val (.tup [.str "throw",.str r,.str s]),.no,.no] h) fnK=_
  simp_all? only [yqn,yth,yuW,yCU,yns,ylZ,ynt,↓reduceIte]
  rfl
 | wait =>
  show ob (yw _ _ [.val (.tup [.str "wait"]),.no,.no] h) fnK=_
  simp_all? only [yqn,ypn,ynv,ypo,yma,↓reduceIte]
  rfl
 | reckon w r s u =>
  obtain ⟨n1,n2,n3,n4,n5,n6,n7,n8⟩:=ypt g.1
  have hf:("if" == w || ("either" == w || ("try" == w || false)))=false:=by
   rcases g.1 with rfl|rfl|rfl|rfl|rfl
   all_goals rfl'
  show ob (yw _ _ [.val (.tup [.str w,.str r,.str s,.str u]),.no,.no] h) fnK=_
  simp_all? only [yqn,yth,yuW,yze,yzr,n1,n2,n3,n4,n5,yLF,hf,↓reduceIte]
  rfl
theorem yru {n:Nat}(G:ypQ n) (ρ:PSt) {a b:List T}{h:AH}(ga:gdL a) (gb:gdL b) (fa:yxe a) (fb:yxe b) (la:a.length<=90) (lb:b.length<=90) (hd:2*max (ybi a) (ybi b)+1<=n) :
  ∃ m k h',yqy (yI (ydV (n+1)) (yc (yj 0) (yp))) (yob [] ρ) [.lst (ym a),.lst (ym b)] h=some ([.loc m,.loc k],h')/\h <+: h'/\h.length<=m/\h.length<=k/\m≠k/\h'[m]?=some (.lst (yG a))/\h'[k]?=some (.lst (yG b)):=by
 obtain ⟨m,h1,e1,p1,l1,q1⟩:=yDg (h:=h) G ga fa la (by omega)
 obtain ⟨k,h2,e2,p2,l2,q2⟩:=yDg (h:=h1) G gb fb lb (by omega)
 have lt:=yOk q1
 refine ⟨m,k,h2,?_,p1.trans p2,l1,by omega,by omega,yLW p2 q1,q2⟩
 show ob (ydV (n+1) [.lst (ym a)] h) (fun y h1=>ob (yqy (yI (ydV (n+1)) (yc (yj 0) (yp))) (yob [] ρ) [.lst (ym b)] h1) fun ys h2=>some (y::ys,h2))=_
 rw [e1,yfG]
 show ob (ob (ydV (n+1) [.lst (ym b)] h1) (fun y h1=>ob (yqy (yI (ydV (n+1)) (yc (yj 0) (yp))) (yob [] ρ) [] h1) fun ys h2=>some (y::ys,h2))) _=_
 rw [e2];rfl
theorem yOl:(("if":Str) == "if" || (("either":Str) == "if" || (("try":Str) == "if" || false)))=true:=by rfl'
theorem yDh:(("if":Str) == "either" || (("either":Str) == "either" || (("try":Str) == "either" || false)))=true:=by rfl'
theorem yLX:(("if":Str) == "try" || (("either":Str) == "try" || (("try":Str) == "try" || false)))=true:=by rfl'
theorem yIN {n:Nat}(G:ypQ n) {r:Str}{a b:List T}{h:AH}(g:gdT (.if_ r a b)) (f:yDP (.if_ r a b)) (hd:2*max (ybi a) (ybi b)+1<=n):∃ h',ybD (n+2) [yfy (.if_ r a b)] h=some (ybd (.if_ r a b),h')/\h <+: h':=by
 obtain ⟨m,k,h2,e,p,l1,l2,ne,q1,q2⟩:=yru (h:=h) G [.val (.tup [.str "if",.str r,.lst (ym a),.lst (ym b)]),.no,.no] g.2.1 g.2.2 f.1 f.2.1 f.2.2.1 f.2.2.2 hd
 have e4:yH [.tup [.str "if",.str r,.lst (ym a),.lst (ym b)]] h=some (.lst [.lst (ym a),.lst (ym b)],h):=yhT g
 have q2':(h2.set m (.lst []))[k]?=some (.lst (yG b)):=by rw [List.getElem?_set_ne ne];exact q2
 refine ⟨(h2.set m (.lst [])).set k (.lst (yG b++[.ins 9 [] []])),?_,ypy (ypy p l1) l2⟩
 have lb:(yG b).length<100000:=by rw [ygS];have:=f.2.2.2;omega
 unfold ybD
 rw [yK]
 show ob (yw _ _ [.val (.tup [.str "if",.str r,.lst (ym a),.lst (ym b)]),.no,.no] h) fnK=_
 simp_all? only [yqn,yth,yuW,yze,ytX,yrl,ytY,ypq,yrm,yLF,yOl,↓reduceIte]
 rw [yGs (xs:=[.lst (ym a),.lst (ym b)]) (h1:=h) (by walk_at "px";rw [e4]),yfG,if_pos (Nat.le_of_ble_eq_true rfl),e,yfG]
 simp_all? only [yqn,yth,yuW,yze,Option.bind_some,yIM (ymL q1) (ymL q2),ykf q1,yqQ q1,ykf q2',yxE q2' lb,↓reduceIte]
 rfl
theorem yyh {n:Nat}(G:ypQ n) {a b:List T}{h:AH}(g:gdT (.either a b)) (f:yDP (.either a b)) (hd:2*max (ybi a) (ybi b)+1<=n):∃ h',ybD (n+2) [yfy (.either a b)] h=some (ybd (.either a b),h')/\h <+: h':=by
 obtain ⟨m,k,h2,e,p,l1,l2,ne,q1,q2⟩:=yru (h:=h) G [.val (.tup [.str "either",.lst (ym a),.lst (ym b)]),.no,.no] g.1 g.2 f.1 f.2.1 f.2.2.1 f.2.2.2 hd
 have e4:yH [.tup [.str "either",.lst (ym a),.lst (ym b)]] h=some (.lst [.lst (ym a),.lst (ym b)],h):=yhT g
 have q2':(h2.set m (.lst []))[k]?=some (.lst (yG b)):=by rw [List.getElem?_set_ne ne];exact q2
 refine ⟨(h2.set m (.lst [])).set k (.lst (yG b++[.ins 9 [] []])),?_,ypy (ypy p l1) l2⟩
 have lb:(yG b).length<100000:=by rw [ygS];have:=f.2.2.2;omega
 unfold ybD
 rw [yK]
 show ob (yw _ _ [.val (.tup [.str "either",.lst (ym a),.lst (ym b)]),.no,.no] h) fnK=_
 simp_all? only [yqn,yth,yuW,yze,ymb,ykF,ymc,yjR,ykG,yfS,yLF,yDh,↓reduceIte]
 rw [yGs (xs:=[.lst (ym a),.lst (ym b)]) (h1:=h) (by walk_at "px";rw [e4]),yfG,if_pos (Nat.le_of_ble_eq_true rfl),e,yfG]
 simp_all? only [yqn,yth,yuW,yze,Option.bind_some,yyg (ymL q1) (ymL q2),ykf q1,yqQ q1,ykf q2',yxE q2' lb,↓reduceIte]
 rfl
theorem yFI {n:Nat}(G:ypQ n) {nm r:Str}{a b:List T}{h:AH}(g:gdT (.try_ a nm r b)) (f:yDP (.try_ a nm r b)) (hd:2*max (ybi a) (ybi b)+1<=n):∃ h',ybD (n+2) [yfy (.try_ a nm r b)] h=some (ybd (.try_ a nm r b),h')/\h <+: h':=by
 obtain ⟨m,k,h2,e,p,l1,l2,ne,q1,q2⟩:=yru (h:=h) G [.val (.tup [.str "try",.lst (ym a),.str nm,.str r,.lst (ym b)]),.no,.no] g.2.2.1 g.2.2.2 f.1 f.2.1 f.2.2.1 f.2.2.2 hd
 have e4:yH [.tup [.str "try",.lst (ym a),.str nm,.str r,.lst (ym b)]] h=some (.lst [.lst (ym a),.lst (ym b)],h):=yhT g
 have q2':(h2.set m (.lst []))[k]?=some (.lst (yG b)):=by rw [List.getElem?_set_ne ne];exact q2
 refine ⟨(h2.set m (.lst [])).set k (.lst (yG b++[.ins 9 [] []])),?_,ypy (ypy p l1) l2⟩
 have lb:(yG b).length<100000:=by rw [ygS];have:=f.2.2.2;omega
 unfold ybD
 rw [yK]
 show ob (yw _ _ [.val (.tup [.str "try",.lst (ym a),.str nm,.str r,.lst (ym b)]),.no,.no] h) fnK=_
 simp_all? only [yqn,yth,yuW,yze,yrn,ypr,yro,ynx,yps,ykH,yhp,yLF,yLX,↓reduceIte]
 rw [yGs (xs:=[.lst (ym a),.lst (ym b)]) (h1:=h) (by walk_at "px";rw [e4]),yfG,if_pos (Nat.le_of_ble_eq_true rfl),e,yfG]
 simp_all? only [yqn,yth,yuW,yze,Option.bind_some,yFG (ymL q1) (ymL q2),ykf q1,yqQ q1,ykf q2',yxE q2' lb,↓reduceIte]
 rfl
theorem yIO:∀ n:Nat,ypQ n:=by
 intro n
 induction n using Nat.strongRecOn with
 | ind n ih =>
  intro t h g f hd
  cases t with
  | if_ r a b =>
   have h1:2*(1+max (ybi a) (ybi b))+1<=n:=hd
   obtain ⟨m,rfl⟩:∃ m,n=m+2:=⟨n-2,by omega⟩
   exact yIN (ih m (by omega)) g f (by omega)
  | either a b =>
   have h1:2*(1+max (ybi a) (ybi b))+1<=n:=hd
   obtain ⟨m,rfl⟩:∃ m,n=m+2:=⟨n-2,by omega⟩
   exact yyh (ih m (by omega)) g f (by omega)
  | try_ a nm r b =>
   have h1:2*(1+max (ybi a) (ybi b))+1<=n:=hd
   obtain ⟨m,rfl⟩:∃ m,n=m+2:=⟨n-2,by omega⟩
   exact yFI (ih m (by omega)) g f (by omega)
  | base=>exact g.elim
  | let_ r m=>obtain ⟨k,rfl⟩:∃ k,n=k+1:=⟨n-1,by omega⟩;exact ⟨h,yim g trivial,List.prefix_refl _⟩
  | reckon w r s u=>obtain ⟨k,rfl⟩:∃ k,n=k+1:=⟨n-1,by omega⟩;exact ⟨h,yim g trivial,List.prefix_refl _⟩
  | take r s=>obtain ⟨k,rfl⟩:∃ k,n=k+1:=⟨n-1,by omega⟩;exact ⟨h,yim g trivial,List.prefix_refl _⟩
  | put r s=>obtain ⟨k,rfl⟩:∃ k,n=k+1:=⟨n-1,by omega⟩;exact ⟨h,yim g trivial,List.prefix_refl _⟩
  | throw r s=>obtain ⟨k,rfl⟩:∃ k,n=k+1:=⟨n-1,by omega⟩;exact ⟨h,yim g trivial,List.prefix_refl _⟩
  | wait=>obtain ⟨k,rfl⟩:∃ k,n=k+1:=⟨n-1,by omega⟩;exact ⟨h,yim g trivial,List.prefix_refl _⟩
end
mutual
theorem yIP:∀ {t:T},gdT t->yrc t
 | .base,g=>g.elim
 | .let_ ..,g=>yGL g.2.1 g.2.2
 | .reckon ..,_=>trivial
 | .take ..,_=>trivial
 | .put ..,_=>trivial
 | .throw ..,_=>trivial
 | .wait,_=>trivial
 | .if_ ..,g=>⟨yjh g.2.1,yjh g.2.2⟩
 | .either ..,g=>⟨yjh g.1,yjh g.2⟩
 | .try_ ..,g=>⟨yjh g.2.2.1,yjh g.2.2.2⟩
theorem yjh:∀ {ts:List T},gdL ts->yix ts
 | [],_=>trivial
 | _::_,g=>⟨yIP g.1,yjh g.2⟩
end
section
variable {h:AH}
theorem ywk {ts:List T}(g:OkL ts):ykh [.lst (yG ts)] h=some (.str (ykv ts),h):=by
 have:=g.dep
 have:=g.w
 unfold ykh
 rw [yK]
 show ob (ybq _ [.val (.lst (yG ts))] h) fnK=_
 walk_at "px"
 rw [yol (n:=44) (yqA 44) (by omega) (by omega) (yjh g.gd)]
 walk_at "px"
 rfl
theorem yIQ {z:Str}:ylO yeN [.str z,.ty "str"] h=some (.bl true,h):=rfl
theorem yFJ {ts:List T}(g:OkL ts) (ρ:PSt):yqy (ylE "long" (ylA 45) (yj 0)) (yob [] ρ) (yG ts) h=some (ts.map fun t=>.int (yiw t),h):=by
 have hd:=g.dep
 have hw:=g.w
 rw [yki]
 refine ytI (f:=ybd) (g:=fun t=>.int (yiw t)) fun t ht=>?_
 show ylE "long" (ylA 45) (yj 0) [.val (ybd t)] h=_
 rw [yyZ,yyY,yfG,yre t (.inr rfl)]
 have:=ypg ht
 have:=yFo ht
 exact yrf 45 h t (by omega) (by omega)
theorem yzz {ts:List T}(g:OkL ts):∃ h',ygg [.lst (ym ts)] h=some (.bl true,h'):=by
 have hd:=g.dep
 have hw:=g.w
 have hl:=g.len
 have lg:=g.lg
 obtain ⟨h1,e1⟩:=yFH (h:=h) g.gd (ykJ g.gd (by omega)) (by omega) (by omega) (yIO 30)
 obtain ⟨h2,e2⟩:=yIC (h:=h1) g
 refine ⟨h2,?_⟩
 have s1:=yyf 15 ts h1 g.gd (by omega)
 have s2:=yyf 15 ts h2 g.gd (by omega)
 have t1:=yIG 30 ts h1 g.gd (by omega) (by omega)
 have l1:=yqB 15 ts h1 g.gd (by omega)
 unfold ygg
 rw [yK]
 show ob (yw _ _ [.val (.lst (ym ts)),.no,.no,.no,.no] h) fnK=_
 simp_all? only [e1,ywk g,s1,t1,yIQ,ygS,↓reduceIte]
 rw [yGs (xs:=yG ts) (h1:=h1) rfl,yfG,if_pos (by rw [ygS];omega),yFJ g]
 walk_at "px"
 rw [show yBe [.lst (ts.map fun t=>PV.int (yiw t))] h1=some (.int (ybE ts).sum,h1) by
  rw [yvY,show (ts.map fun t=>PV.int (yiw t))=(ts.map yiw).map PV.int by rw [List.map_map];rfl]
  unfold yBe yey
  simp only [ymK]]
 simp_all? only [l1,e2,s2,ywk g,↓reduceIte]
noncomputable def yFK:XS:=yw (ydy (xFz (yjN (yc (yI ydd (yc (xOp yoc (xOp oDiv (yj 1) (xC (.int 9))) (xOp yGn (yj 2) (xC (.int 7919)))) (yc (yj 0) (yc (xFz (yjN (yp))) (yp))))) (yp)))) (yt 3)) (ycC (yyU (yz (xOp (oLe) (yI (ybP 15) (yc (yj 3) (yp))) (xC (.int 8)))) (yz (xOp (oLe) (yI (ybC 15) (yc (yj 3) (yp))) (xC (.int 79))))) (ydy (yj 3) (yt 0)) (ybh))
theorem yDi {us:List T}(g:OkL us) (c k:Int) (c3:PVar):∃ vs c3',OkL vs/\yFK [.val (.lst (ym us)),.val (.int c),.val (.int k),c3] h=some (.nx [.val (.lst (ym vs)),.val (.int c),.val (.int k),c3'],h):=by
 have hd:=g.dep
 obtain ⟨t,et,gt,dt⟩:=yzv (h:=h) (c/9+k*7919) g.gd (b:=[]) trivial
 have et:ydd [.int (c/9+k*7919),.lst (ym us),.lst []] h=some (yfy t,h):=et
 have dt:ylV t=1+max (ybi us) 0:=dt
 have hd2:ybi [t]<=11:=yuh fun u hu=>by rw [List.mem_singleton.mp hu];omega
 have r1:ybP 15 [.lst [yfy t]] h=some (.int (rdL [t]),h):=yug 15 [t] h ⟨gt,trivial⟩ (by omega)
 have l1:ybC 15 [.lst [yfy t]] h=some (.int (ybE [t]).sum,h):=yqB 15 [t] h ⟨gt,trivial⟩ (by omega)
 unfold yFK
 simp_all? only [et,r1,l1]
 by_cases q:rdL [t]<=8
 .rw [if_pos q]
  by_cases q2:(ybE [t]).sum<=79
  .rw [if_pos q2]
   exact ⟨[t],_,⟨⟨gt,trivial⟩,q,q2⟩,rfl⟩
  .rw [if_neg q2]
   exact ⟨us,_,g,rfl⟩
 .rw [if_neg q]
  exact ⟨us,_,g,rfl⟩
theorem yAw {ts:List T}(g:OkL ts) (c:Int):∃ us,OkL us/\yfI [.lst (ym ts),.int c] h=some (.lst (ym us),h):=by
 have b:=ylC c (show (0:Int)<9 by decide)
 unfold yfI
 rw [yK]
 show ∃ us,OkL us/\ob (yw (ysZ _ (yt 2) yFK) _ [.val (.lst (ym ts)),.val (.int c),.no,.no] h) fnK=_
 walk_at "px"
 rw [yGu (j:=c%9) (h1:=h) (by walk_at "px") (by omega) (by omega),yfG]
 have loop:∀ (xs:List PV) (us:List T) (c2 c3:PVar),(∀ x∈xs,∃ k:Int,x=.int k)->OkL us->∃ vs d2 d3,OkL vs/\ykc (yt 2) yFK xs [.val (.lst (ym us)),.val (.int c),c2,c3] h=some (.nx [.val (.lst (ym vs)),.val (.int c),d2,d3],h):=by
  intro xs
  induction xs with
  | nil=>exact fun us c2 c3 _ g=>⟨us,c2,c3,g,rfl⟩
  | cons x xs ih =>
   intro us c2 c3 hx g
   obtain ⟨k,rfl⟩:=hx x List.mem_cons_self
   obtain ⟨vs,d3,gv,e⟩:=yDi (h:=h) g c k c3
   obtain ⟨ws,e2,e3,gw,f⟩:=ih vs (.val (.int k)) d3 (fun y hy=>hx y (List.mem_cons_of_mem _ hy)) gv
   refine ⟨ws,e2,e3,gw,?_⟩
   rw [yof,show yt 2 (.int k) [.val (.lst (ym us)),.val (.int c),c2,c3]=some [.val (.lst (ym us)),.val (.int c),.val (.int k),c3] from rfl,Option.bind_some,e,yfG]
   exact f
 obtain ⟨vs,d2,d3,gv,e⟩:=loop (yBd 0 (c%9).toNat) ts .no .no (fun x hx=>by
  obtain ⟨k,_,rfl⟩:=List.mem_map.mp hx
  exact ⟨_,rfl⟩) g
 rw [e]
 exact ⟨vs,gv,by walk_at "px"⟩
noncomputable def yAx:XS:=yw (ydy (yI ygQ (yc (yj 1) (yc (yj 3) (yp)))) (yt 1)) (ydy (xOp oMod (xOp yoc (xOp yGn (yj 2) (xC (.int 48271))) (yj 3)) (xC (.int 2147483647))) (yt 2))
theorem yzA (x0:PVar):∀ (ns:List Int) (us:List T) (m:Int) (c3:PVar),OkL us->∃ vs m' d3,OkL vs/\ykc (yt 3) yAx (ns.map PV.int) [x0,.val (.lst (ym us)),.val (.int m),c3] h=some (.nx [x0,.val (.lst (ym vs)),.val (.int m'),d3],h)
 | [],us,m,c3,g=>⟨us,m,c3,g,rfl⟩
 | n::ns,us,m,c3,g=>by
  obtain ⟨vs,gv,e⟩:=yIK (h:=h) g n
  obtain ⟨ws,m',d3,gw,f⟩:=yzA x0 ns vs ((m*48271+n)%2147483647) (.val (.int n)) gv
  refine ⟨ws,m',d3,gw,?_⟩
  have b:yAx [x0,.val (.lst (ym us)),.val (.int m),.val (.int n)] h=some (.nx [x0,.val (.lst (ym vs)),.val (.int ((m*48271+n)%2147483647)),.val (.int n)],h):=by
   unfold yAx
   simp_all? only [e]
  show ykc (yt 3) yAx (.int n::ns.map PV.int) _ h=_
  rw [yof,show yt 3 (.int n) [x0,.val (.lst (ym us)),.val (.int m),c3]=some [x0,.val (.lst (ym us)),.val (.int m),.val (.int n)] from rfl,Option.bind_some,b,yfG]
  exact f
theorem yLY:OkL []:=⟨trivial,by show (-1:Int)<=8;omega,by show (0:Int)<=79;omega⟩
theorem yLZ (ns:List Int) (hl:ns.length<=63):∃ h',yFl [.scr ns] h=some (.bl true,h'):=by
 unfold yFl
 rw [yK]
 show ∃ h',ob (yw _ (yw _ (yw (ysZ _ (yt 3) yAx) _)) [.val (.scr ns),.no,.no,.no] h) fnK=_
 walk_at "px"
 rw [yGs (xs:=(yDK ns none (some 63)).map PV.int) (h1:=h) (by
  walk_at "px"
  unfold yDK
  rw [List.length_map,List.map_take,List.map_drop]),yfG]
 obtain ⟨vs,m',d3,gv,e⟩:=yzA (h:=h) (.val (.scr ns)) (yDK ns none (some 63)) [] 7 .no yLY
 have e:ykc (yt 3) yAx ((yDK ns none (some 63)).map PV.int) [.val (.scr ns),.val (.lst []),.val (.int 7),.no] h=_:=e
 rw [e]
 obtain ⟨h1,e1⟩:=yzz (h:=h) gv
 obtain ⟨us,gu,e2⟩:=yAw (h:=h1) gv m'
 obtain ⟨h2,e3⟩:=yzz (h:=h1) gu
 refine ⟨h2,?_⟩
 simp_all? only [e1,e2,e3]
end
end
def top (i:Nat):Stmt:=PySem.Challenge.pw_retryhall_k07_whole_written_and_read.main.body.getD i (.Pass ⟨0,0,0,0⟩)
abbrev ybY:Stmt:=inClass (top 8) 0
abbrev ybt:Stmt:=inClass (top 9) 0
abbrev ybN:Stmt:=inClass (top 10) 0
abbrev ybZ:Stmt:=inClass (top 11) 0
abbrev ycq:Stmt:=inClass (top 12) 0
abbrev ybu:Stmt:=inClass (top 13) 0
abbrev yca:Stmt:=inClass (top 14) 0
abbrev ybA:Stmt:=inClass (top 15) 0
abbrev ydW:Stmt:=inClass (top 7) 1
abbrev yde:Stmt:=inClass (top 7) 0
abbrev yfl:Stmt:=inClass (top 8) 2
abbrev ydX:Stmt:=inClass (top 8) 1
abbrev ycr:Stmt:=inClass (top 9) 2
abbrev ycb:Stmt:=inClass (top 9) 1
abbrev ydY:Stmt:=inClass (top 10) 2
abbrev ydf:Stmt:=inClass (top 10) 1
abbrev yfm:Stmt:=inClass (top 11) 2
abbrev ydZ:Stmt:=inClass (top 11) 1
abbrev ydg:Stmt:=inClass (top 15) 2
abbrev ycs:Stmt:=inClass (top 15) 1
abbrev yea:Stmt:=inClass (top 16) 1
abbrev ydh:Stmt:=inClass (top 16) 0
abbrev yeb:Stmt:=top 5
abbrev ydi:Stmt:=top 4
abbrev ydj:Stmt:=top 6
abbrev ygr:Stmt:=inClass (top 12) 2
abbrev yfn:Stmt:=inClass (top 12) 1
abbrev yct:Stmt:=inClass (top 13) 2
abbrev ycc:Stmt:=inClass (top 13) 1
abbrev yfo:Stmt:=inClass (top 14) 2
abbrev yec:Stmt:=inClass (top 14) 1
abbrev ydk:Stmt:=top 27
abbrev yed:Stmt:=top 23
abbrev ygs:Stmt:=top 24
abbrev ygt:Stmt:=top 25
abbrev ygu:Stmt:=top 26
abbrev ybv:Stmt:=inClass (top 34) 0
abbrev yfp:Stmt:=top 33
abbrev ycd:Stmt:=inClass (top 34) 1
abbrev yce:Stmt:=inClass (top 34) 2
abbrev ybl:Stmt:=inClass (top 34) 3
abbrev yY:Stmt:=inClass (top 34) 4
abbrev yZ:Stmt:=inClass (top 34) 5
abbrev yO:Stmt:=inClass (top 34) 6
abbrev yP:Stmt:=inClass (top 34) 14
abbrev yT:Stmt:=inClass (top 34) 13
abbrev yba:Stmt:=inClass (top 34) 7
abbrev ybb:Stmt:=inClass (top 34) 8
abbrev ybc:Stmt:=inClass (top 34) 9
abbrev ybw:Stmt:=inClass (top 34) 10
abbrev yQ:Stmt:=inClass (top 34) 11
abbrev ybm:Stmt:=inClass (top 34) 12
abbrev yoo:Stmt:=top 32
abbrev ygv:Stmt:=top 31
abbrev ydl:Stmt:=top 36
abbrev yee:Stmt:=top 37
abbrev yef:Stmt:=top 38
abbrev ycu:Stmt:=top 39
abbrev ydm:Stmt:=top 40
abbrev ydn:Stmt:=top 41
abbrev ydo:Stmt:=top 42
abbrev ydp:Stmt:=top 43
abbrev yeg:Stmt:=top 44
abbrev yeh:Stmt:=top 45
abbrev ygw:Stmt:=top 46
abbrev yei:Stmt:=top 47
abbrev ycv:Stmt:=top 48
abbrev yej:Stmt:=top 49
abbrev yek:Stmt:=top 50
abbrev yel:Stmt:=top 51
abbrev ycw:Stmt:=top 51
abbrev ycf:Stmt:=top 52
abbrev ydq:Stmt:=top 53
abbrev yqs:Stmt:=top 54
theorem yrv:yn ["self","slot","number"] ["self","slot","number"] (yb ybY):=⟨rfl,rfl,rfl,by rfl',rfl,by rfl',by rfl'⟩
theorem yop:yn ["self","word","slot","one","other"] ["self","word","slot","one","other"] (yb ybt):=⟨rfl,rfl,rfl,by rfl',rfl,by rfl',by rfl'⟩
theorem yqt:yn ["self","slot","place"] ["self","slot","place"] (yb ybN):=⟨rfl,rfl,rfl,by rfl',rfl,by rfl',by rfl'⟩
theorem yrw:yn ["self","place","slot"] ["self","place","slot"] (yb ybZ):=⟨rfl,rfl,rfl,by rfl',rfl,by rfl',by rfl'⟩
theorem yss:yn ["self","slot","parts","others"] ["self","slot","parts","others"] (yb ycq):=⟨rfl,rfl,rfl,by rfl',rfl,by rfl',by rfl'⟩
theorem yoq:yn ["self","parts","others"] ["self","parts","others"] (yb ybu):=⟨rfl,rfl,rfl,by rfl',rfl,by rfl',by rfl'⟩
theorem yrx:yn ["self","parts","name","slot","others"] ["self","parts","name","slot","others"] (yb yca):=⟨rfl,rfl,rfl,by rfl',rfl,by rfl',by rfl'⟩
theorem ypz:yn ["self","name","slot"] ["self","name","slot"] (yb ybA):=⟨rfl,rfl,rfl,by rfl',rfl,by rfl',by rfl'⟩
theorem ywl:yn ["self"] ["self"] (yb ydW):=⟨rfl,rfl,rfl,by rfl',rfl,by rfl',by rfl'⟩
theorem yuj:yn ["self"] ["self"] (yb yde):=⟨rfl,rfl,rfl,by rfl',rfl,by rfl',by rfl'⟩
theorem yyi:yn ["self"] ["self"] (yb yfl):=⟨rfl,rfl,rfl,by rfl',rfl,by rfl',by rfl'⟩
theorem ywm:yn ["self"] ["self"] (yb ydX):=⟨rfl,rfl,rfl,by rfl',rfl,by rfl',by rfl'⟩
theorem yst:yn ["self"] ["self"] (yb ycr):=⟨rfl,rfl,rfl,by rfl',rfl,by rfl',by rfl'⟩
theorem yry:yn ["self"] ["self"] (yb ycb):=⟨rfl,rfl,rfl,by rfl',rfl,by rfl',by rfl'⟩
theorem ywn:yn ["self"] ["self"] (yb ydY):=⟨rfl,rfl,rfl,by rfl',rfl,by rfl',by rfl'⟩
theorem yuk:yn ["self"] ["self"] (yb ydf):=⟨rfl,rfl,rfl,by rfl',rfl,by rfl',by rfl'⟩
theorem yyj:yn ["self"] ["self"] (yb yfm):=⟨rfl,rfl,rfl,by rfl',rfl,by rfl',by rfl'⟩
theorem ywo:yn ["self"] ["self"] (yb ydZ):=⟨rfl,rfl,rfl,by rfl',rfl,by rfl',by rfl'⟩
theorem yul:yn ["self"] ["self"] (yb ydg):=⟨rfl,rfl,rfl,by rfl',rfl,by rfl',by rfl'⟩
theorem ysu:yn ["self"] ["self"] (yb ycs):=⟨rfl,rfl,rfl,by rfl',rfl,by rfl',by rfl'⟩
theorem ywp:yn ["self"] ["self"] (yb yea):=⟨rfl,rfl,rfl,by rfl',rfl,by rfl',by rfl'⟩
theorem yum:yn ["self"] ["self"] (yb ydh):=⟨rfl,rfl,rfl,by rfl',rfl,by rfl',by rfl'⟩
theorem ywq:yn ["parts"] ["parts"] (yb yeb):=⟨rfl,rfl,rfl,by rfl',rfl,by rfl',by rfl'⟩
theorem yun:yn ["parts"] ["parts"] (yb ydi):=⟨rfl,rfl,rfl,by rfl',rfl,by rfl',by rfl'⟩
theorem yor:yn ["parts","inner"] ["parts"] (yb ydj):=⟨rfl,rfl,rfl,by rfl',rfl,by rfl',by rfl'⟩
theorem yAy:yn ["self"] ["self"] (yb ygr):=⟨rfl,rfl,rfl,by rfl',rfl,by rfl',by rfl'⟩
theorem yyk:yn ["self"] ["self"] (yb yfn):=⟨rfl,rfl,rfl,by rfl',rfl,by rfl',by rfl'⟩
theorem ysv:yn ["self"] ["self"] (yb yct):=⟨rfl,rfl,rfl,by rfl',rfl,by rfl',by rfl'⟩
theorem yrz:yn ["self"] ["self"] (yb ycc):=⟨rfl,rfl,rfl,by rfl',rfl,by rfl',by rfl'⟩
theorem yyl:yn ["self"] ["self"] (yb yfo):=⟨rfl,rfl,rfl,by rfl',rfl,by rfl',by rfl'⟩
theorem ywr:yn ["self"] ["self"] (yb yec):=⟨rfl,rfl,rfl,by rfl',rfl,by rfl',by rfl'⟩
theorem yuo:yn ["text","signs"] ["text","signs"] (yb ydk):=⟨rfl,rfl,rfl,by rfl',rfl,by rfl',by rfl'⟩
theorem ypR:yn ["text","number"] ["text"] (yb yed):=⟨rfl,rfl,rfl,by rfl',rfl,by rfl',by rfl'⟩
theorem yAz:yn ["text"] ["text"] (yb ygs):=⟨rfl,rfl,rfl,by rfl',rfl,by rfl',by rfl'⟩
theorem yAA:yn ["text"] ["text"] (yb ygt):=⟨rfl,rfl,rfl,by rfl',rfl,by rfl',by rfl'⟩
theorem yAB:yn ["text"] ["text"] (yb ygu):=⟨rfl,rfl,rfl,by rfl',rfl,by rfl',by rfl'⟩
theorem yos:yn ["self","words"] ["self","words"] (yb ybv):=⟨rfl,rfl,rfl,by rfl',rfl,by rfl',by rfl'⟩
theorem yym:yn ["text"] ["text"] (yb yfp):=⟨rfl,rfl,rfl,by rfl',rfl,by rfl',by rfl'⟩
theorem yrA:yn ["self"] ["self"] (yb ycd):=⟨rfl,rfl,rfl,by rfl',rfl,by rfl',by rfl'⟩
theorem ymg:yn ["self","word"] ["self"] (yb yce):=⟨rfl,rfl,rfl,by rfl',rfl,by rfl',by rfl'⟩
theorem yiz:yn ["self","wanted","word"] ["self","wanted"] (yb ybl):=⟨rfl,rfl,rfl,by rfl',rfl,by rfl',by rfl'⟩
theorem yhG:yn ["self","word"] ["self"] (yb yY):=⟨rfl,rfl,rfl,by rfl',rfl,by rfl',by rfl'⟩
theorem yhH:yn ["self","word"] ["self"] (yb yZ):=⟨rfl,rfl,rfl,by rfl',rfl,by rfl',by rfl'⟩
theorem yeA:yn ["self","word","number"] ["self"] (yb yO):=⟨rfl,rfl,rfl,by rfl',rfl,by rfl',by rfl'⟩
theorem ycP:yn ["self","word","slot","one","other"] ["self","word"] (yb yP):=⟨rfl,rfl,rfl,by rfl',rfl,by rfl',by rfl'⟩
theorem yci:yn ["self","word","slot","place","name"] ["self","word"] (yb yT):=⟨rfl,rfl,rfl,by rfl',rfl,by rfl',by rfl'⟩
theorem yhI:yn ["self","around","parts"] ["self","around"] (yb yba):=⟨rfl,rfl,rfl,by rfl',rfl,by rfl',by rfl'⟩
theorem yhJ:yn ["self","around","parts"] ["self","around"] (yb ybb):=⟨rfl,rfl,rfl,by rfl',rfl,by rfl',by rfl'⟩
theorem yhK:yn ["self","around","word"] ["self","around"] (yb ybc):=⟨rfl,rfl,rfl,by rfl',rfl,by rfl',by rfl'⟩
theorem yeH:yn ["self","around","slot","parts","others"] ["self","around"] (yb ybw):=⟨rfl,rfl,rfl,by rfl',rfl,by rfl',by rfl'⟩
theorem yeB:yn ["self","around","parts","others"] ["self","around"] (yb yQ):=⟨rfl,rfl,rfl,by rfl',rfl,by rfl',by rfl'⟩
theorem ycH:yn ["self","around","parts","name","slot","others"] ["self","around"] (yb ybm):=⟨rfl,rfl,rfl,by rfl',rfl,by rfl',by rfl'⟩
theorem sc_read:yn ["text","reader","deed"] ["text"] (yb yoo):=⟨rfl,rfl,rfl,by rfl',rfl,by rfl',by rfl'⟩
theorem yAC:yn ["deed"] ["deed"] (yb ygv):=⟨rfl,rfl,rfl,by rfl',rfl,by rfl',by rfl'⟩
theorem yup:yn ["_law_found"] ["_law_found"] (yb ydl):=⟨rfl,rfl,rfl,by rfl',rfl,by rfl',by rfl'⟩
theorem ydr:yn ["_law_cell","_law_letters","_law_size","_law_at","_law_name_here","_law_k","_law_sign"] ["_law_cell"] (yb yee):=⟨rfl,rfl,rfl,by rfl',rfl,by rfl',by rfl'⟩
theorem yws:yn ["_law_number_here"] ["_law_number_here"] (yb yef):=⟨rfl,rfl,rfl,by rfl',rfl,by rfl',by rfl'⟩
theorem ysw:yn ["_law_cell"] ["_law_cell"] (yb ycu):=⟨rfl,rfl,rfl,by rfl',rfl,by rfl',by rfl'⟩
theorem ygx:yn ["_law_cell","_law_way","_law_mixed","_law_one","_law_other"] ["_law_cell"] (yb ydm):=⟨rfl,rfl,rfl,by rfl',rfl,by rfl',by rfl'⟩
theorem yhU:yn ["_law_cell","_law_one","_law_other","_law_mixed","_law_way"] ["_law_cell","_law_one","_law_other"] (yb ydn):=⟨rfl,rfl,rfl,by rfl',rfl,by rfl',by rfl'⟩
theorem yuq:yn ["_law_part"] ["_law_part"] (yb ydo):=⟨rfl,rfl,rfl,by rfl',rfl,by rfl',by rfl'⟩
theorem yfq:yn ["_law_parts","_law_found","_law_part","_law_side"] ["_law_parts"] (yb ydp):=⟨rfl,rfl,rfl,by rfl',rfl,by rfl',by rfl'⟩
theorem yhq:yn ["_law_parts","_law_many","_law_part"] ["_law_parts"] (yb yeg):=⟨rfl,rfl,rfl,by rfl',rfl,by rfl',by rfl'⟩
theorem ygh:yn ["_law_parts","_law_cell","_law_made_here","_law_cut","_law_low"] ["_law_parts","_law_cell"] (yb yeh):=⟨rfl,rfl,rfl,by rfl',rfl,by rfl',by rfl'⟩
theorem yAD:yn ["_law_parts"] ["_law_parts"] (yb ygw):=⟨rfl,rfl,rfl,by rfl',rfl,by rfl',by rfl'⟩
theorem yji:yn ["_law_parts","_law_found","_law_part","_law_some"] ["_law_parts"] (yb yei):=⟨rfl,rfl,rfl,by rfl',rfl,by rfl',by rfl'⟩
theorem ysx:yn ["_law_part","_law_due"] ["_law_part","_law_due"] (yb ycv):=⟨rfl,rfl,rfl,by rfl',rfl,by rfl',by rfl'⟩
theorem yjj:yn ["_law_parts","_law_due","_law_part","_law_row","_law_sides_here"] ["_law_parts","_law_due"] (yb yej):=⟨rfl,rfl,rfl,by rfl',rfl,by rfl',by rfl'⟩
theorem yhr:yn ["_law_part","_law_sides_here","_law_made_here"] ["_law_part"] (yb yek):=⟨rfl,rfl,rfl,by rfl',rfl,by rfl',by rfl'⟩
theorem ywt:yn ["_law_parts"] ["_law_parts"] (yb yel):=⟨rfl,rfl,rfl,by rfl',rfl,by rfl',by rfl'⟩
theorem ysy:yn ["_law_parts"] ["_law_parts"] (yb ycw):=⟨rfl,rfl,rfl,by rfl',rfl,by rfl',by rfl'⟩
theorem ygy:yn ["_law_parts","_law_number_here","_law_k","_law_made_here"] ["_law_parts","_law_number_here"] (yb ycf):=⟨rfl,rfl,rfl,by rfl',rfl,by rfl',by rfl'⟩
theorem ygz:yn ["_law_parts","_law_deed_here","_law_handed","_law_text_here","_law_again"] ["_law_parts"] (yb ydq):=⟨rfl,rfl,rfl,by rfl',rfl,by rfl',by rfl'⟩
theorem sc_law:yn ["_law_script","_law_parts","_law_number_here","_law_cell"] ["_law_script"] (yb yqs):=⟨rfl,rfl,rfl,by rfl',rfl,by rfl',by rfl'⟩
theorem ml1 {α:Type}{P:List α->Prop}(h:∀ a,P [a]):∀ us:List α,us.length=1->P us
 | [_],_=>h _
theorem ml2 {α:Type}{P:List α->Prop}(h:∀ a b,P [a,b]):∀ us:List α,us.length=2->P us
 | [_,_],_=>h _ _
theorem ml3 {α:Type}{P:List α->Prop}(h:∀ a b c,P [a,b,c]):∀ us:List α,us.length=3->P us
 | [_,_,_],_=>h _ _ _
theorem ml4 {α:Type}{P:List α->Prop}(h:∀ a b c d,P [a,b,c,d]):∀ us:List α,us.length=4->P us
 | [_,_,_,_],_=>h _ _ _ _
theorem ml5 {α:Type}{P:List α->Prop}(h:∀ a b c d e,P [a,b,c,d,e]):∀ us:List α,us.length=5->P us
 | [_,_,_,_,_],_=>h _ _ _ _ _
set_option genInjectivity false in
set_option genSizeOf false in
structure Ads where
 A:Nat->Addr
 yfJ:Addr
 yfK:FuncData
 ydN:Addr
 ydO:FuncData
 yeQ:Addr
 yeR:FuncData
 yfL:Addr
 yfM:FuncData
 ygA:Addr
 ygB:FuncData
 ydP:Addr
 ydQ:FuncData
 yfN:Addr
 yfO:FuncData
 yes:Addr
 yet:FuncData
 ykK:Addr
 ykL:FuncData
 yjk:Addr
 yjl:FuncData
 ymQ:Addr
 ymR:FuncData
 ykM:Addr
 ykN:FuncData
 yhV:Addr
 yhW:FuncData
 yhd:Addr
 yhe:FuncData
 ykO:Addr
 ykP:FuncData
 yjm:Addr
 yjn:FuncData
 ymS:Addr
 ymT:FuncData
 ykQ:Addr
 ykR:FuncData
 yjo:Addr
 yjp:FuncData
 yhX:Addr
 yhY:FuncData
 ykS:Addr
 ykT:FuncData
 yjq:Addr
 yjr:FuncData
 ykU:Addr
 ykV:FuncData
 yjs:Addr
 yjt:FuncData
 ymh:Addr
 ymi:FuncData
 yrB:Addr
 yrC:FuncData
 ypA:Addr
 ypB:FuncData
 ykW:Addr
 ykX:FuncData
 yjS:Addr
 yjT:FuncData
 ypC:Addr
 ypD:FuncData
 ynz:Addr
 ynA:FuncData
 yhs:Addr
 yht:FuncData
 ykY:Addr
 ykZ:FuncData
 yot:Addr
 you:FuncData
 yov:Addr
 yow:FuncData
 yox:Addr
 yoy:FuncData
 yfr:Addr
 yfs:FuncData
 ymU:Addr
 ymV:FuncData
 yew:Addr
 yex:FuncData
 ycy:Addr
 ycz:FuncData
 yeI:Addr
 yeJ:FuncData
 ybS:Addr
 ybT:FuncData
 ycI:Addr
 ycJ:FuncData
 yds:Addr
 ydt:FuncData
 ydu:Addr
 ydv:FuncData
 ydH:Addr
 ydI:FuncData
 yem:Addr
 yen:FuncData
 yfT:Addr
 yfU:FuncData
 yfV:Addr
 yfW:FuncData
 ygT:Addr
 ygU:FuncData
 yeS:Addr
 yeT:FuncData
 ygC:Addr
 ygD:FuncData
 a_read:Addr
 d_read:FuncData
 yoz:Addr
 yoA:FuncData
 yju:Addr
 yjv:FuncData
 yiA:Addr
 yiB:FuncData
 yiC:Addr
 yiD:FuncData
 yhZ:Addr
 yia:FuncData
 yjw:Addr
 yjx:FuncData
 yhu:Addr
 yhv:FuncData
 yeU:Addr
 yeV:FuncData
 yhw:Addr
 yhx:FuncData
 ygV:Addr
 ygW:FuncData
 yla:Addr
 ylb:FuncData
 yrD:Addr
 yrE:FuncData
 ylc:Addr
 yle:FuncData
 yib:Addr
 yic:FuncData
 ylf:Addr
 ylg:FuncData
 ylh:Addr
 yli:FuncData
 ynB:Addr
 ynC:FuncData
 yid:Addr
 yie:FuncData
 yhf:Addr
 yhg:FuncData
 yjy:Addr
 yjz:FuncData
 a_law:Addr
 d_law:FuncData
 k_FIGURES:Tok
 k_LETTERS:Tok
 k_MOST_AROUND:Tok
 k_MOST_ROWS:Tok
 k_SLOTS:Tok
 k_WIDE:Tok
 k_WORDS:Addr
abbrev yV (K:PySem.W.Frag) (t:Ads):Ck:=⟨K,t.A⟩
structure Txt (K:PySem.W.Frag) (mg:Str->Option Value) (t:Ads):Prop where
 ysz:Fun K "__init__" "Let.__init__" ybY t.yfJ t.yfK
 yng:Binds K t.yfK ["self","slot","number"] []
 ypE:Fun K "__init__" "Reckon.__init__" ybt t.ydN t.ydO
 ykm:Binds K t.ydO ["self","word","slot","one","other"] []
 yrF:Fun K "__init__" "Take.__init__" ybN t.yeQ t.yeR
 ymj:Binds K t.yeR ["self","slot","place"] []
 ysA:Fun K "__init__" "Put.__init__" ybZ t.yfL t.yfM
 ynh:Binds K t.yfM ["self","place","slot"] []
 yur:Fun K "__init__" "If.__init__" ycq t.ygA t.ygB
 yoB:Binds K t.ygB ["self","slot","parts","others"] []
 ypF:Fun K "__init__" "Either.__init__" ybu t.ydP t.ydQ
 ykn:Binds K t.ydQ ["self","parts","others"] []
 ysB:Fun K "__init__" "Try.__init__" yca t.yfN t.yfO
 yni:Binds K t.yfO ["self","parts","name","slot","others"] []
 yqu:Fun K "__init__" "Throw.__init__" ybA t.yes t.yet
 ylD:Binds K t.yet ["self","name","slot"] []
 yyn:Fun K "long" "Part.long" ydW t.ykK t.ykL
 yyo:Binds K t.ykL ["self"] []
 ywu:Fun K "shown" "Part.shown" yde t.yjk t.yjl
 ywv:Binds K t.yjl ["self"] []
 yAE:Fun K "long" "Let.long" yfl t.ymQ t.ymR
 yAF:Binds K t.ymR ["self"] []
 yyp:Fun K "shown" "Let.shown" ydX t.ykM t.ykN
 yyq:Binds K t.ykN ["self"] []
 yus:Fun K "long" "Reckon.long" ycr t.yhV t.yhW
 yut:Binds K t.yhW ["self"] []
 ysC:Fun K "shown" "Reckon.shown" ycb t.yhd t.yhe
 ysD:Binds K t.yhe ["self"] []
 yyr:Fun K "long" "Take.long" ydY t.ykO t.ykP
 yys:Binds K t.ykP ["self"] []
 yww:Fun K "shown" "Take.shown" ydf t.yjm t.yjn
 ywx:Binds K t.yjn ["self"] []
 yAG:Fun K "long" "Put.long" yfm t.ymS t.ymT
 yAH:Binds K t.ymT ["self"] []
 yyt:Fun K "shown" "Put.shown" ydZ t.ykQ t.ykR
 yyu:Binds K t.ykR ["self"] []
 ywy:Fun K "long" "Throw.long" ydg t.yjo t.yjp
 ywz:Binds K t.yjp ["self"] []
 yuu:Fun K "shown" "Throw.shown" ycs t.yhX t.yhY
 yuv:Binds K t.yhY ["self"] []
 yyv:Fun K "long" "Wait.long" yea t.ykS t.ykT
 yyw:Binds K t.ykT ["self"] []
 ywA:Fun K "shown" "Wait.shown" ydh t.yjq t.yjr
 ywB:Binds K t.yjr ["self"] []
 yeW:Fun K "list_long" "list_long" yeb t.ykU t.ykV
 yfX:Binds K t.ykV ["parts"] []
 yfY:mg "list_long" = some (.ref t.ykU)
 ymk:Fun K "list_shown" "list_shown" ydi t.yjs t.yjt
 ypS:Binds K t.yjt ["parts"] []
 ypT:mg "list_shown" = some (.ref t.yjs)
 yeX:Fun K "side_shown" "side_shown" ydj t.ymh t.ymi
 ygi:Binds K t.ymi ["parts"] []
 ygj:mg "side_shown" = some (.ref t.ymh)
 yDj:Fun K "long" "If.long" ygr t.yrB t.yrC
 yDk:Binds K t.yrC ["self"] []
 yAI:Fun K "shown" "If.shown" yfn t.ypA t.ypB
 yAJ:Binds K t.ypB ["self"] []
 yuw:Fun K "long" "Either.long" yct t.ykW t.ykX
 yux:Binds K t.ykX ["self"] []
 ysE:Fun K "shown" "Either.shown" ycc t.yjS t.yjT
 ysF:Binds K t.yjT ["self"] []
 yAK:Fun K "long" "Try.long" yfo t.ypC t.ypD
 yAL:Binds K t.ypD ["self"] []
 yyx:Fun K "shown" "Try.shown" yec t.ynz t.ynA
 yyy:Binds K t.ynA ["self"] []
 yml:Fun K "is_made_of" "is_made_of" ydk t.yhs t.yht
 ypU:Binds K t.yht ["text","signs"] []
 ypV:mg "is_made_of" = some (.ref t.yhs)
 yrG:Fun K "number_of" "number_of" yed t.ykY t.ykZ
 yyz:Binds K t.ykZ ["text"] []
 yyA:mg "number_of" = some (.ref t.ykY)
 ywC:Fun K "is_word" "is_word" ygs t.yot t.you
 yDl:Binds K t.you ["text"] []
 yDm:mg "is_word" = some (.ref t.yot)
 ywD:Fun K "is_slot" "is_slot" ygt t.yov t.yow
 yDn:Binds K t.yow ["text"] []
 yDo:mg "is_slot" = some (.ref t.yov)
 ywE:Fun K "is_name" "is_name" ygu t.yox t.yoy
 yDp:Binds K t.yoy ["text"] []
 yDq:mg "is_name" = some (.ref t.yox)
 ypG:Fun K "__init__" "Reader.__init__" ybv t.yfr t.yfs
 ypH:Binds K t.yfs ["self","words"] []
 ytr:Fun K "words_of" "words_of" yfp t.ymU t.ymV
 yAM:Binds K t.ymV ["text"] []
 yAN:mg "words_of" = some (.ref t.ymU)
 ysG:Fun K "ahead" "Reader.ahead" ycd t.yew t.yex
 yfP:Binds K t.yex ["self"] []
 ysH:Fun K "taken" "Reader.taken" yce t.ycy t.ycz
 yfQ:Binds K t.ycz ["self"] []
 yoC:Fun K "pass_over" "Reader.pass_over" ybl t.yeI t.yeJ
 yck:Binds K t.yeJ ["self","wanted"] []
 ynD:Fun K "slot_taken" "Reader.slot_taken" yY t.ybS t.ybT
 yJ:Binds K t.ybT ["self"] []
 ynE:Fun K "name_taken" "Reader.name_taken" yZ t.ycI t.ycJ
 yiE:Binds K t.ycJ ["self"] []
 ymm:Fun K "number_taken" "Reader.number_taken" yO t.yds t.ydt
 ymn:Binds K t.ydt ["self"] []
 ymo:Fun K "reckon_taken" "Reader.reckon_taken" yP t.ydu t.ydv
 ymp:Binds K t.ydv ["self","word"] []
 ymY:Fun K "plain_taken" "Reader.plain_taken" yT t.ydH t.ydI
 ymZ:Binds K t.ydI ["self","word"] []
 ynF:Fun K "list_taken" "Reader.list_taken" yba t.yem t.yen
 yiF:Binds K t.yen ["self","around"] []
 ynG:Fun K "side_taken" "Reader.side_taken" ybb t.yfT t.yfU
 ybU:Binds K t.yfU ["self","around"] []
 ynH:Fun K "part_taken" "Reader.part_taken" ybc t.yfV t.yfW
 yiG:Binds K t.yfW ["self","around"] []
 ypI:Fun K "if_taken" "Reader.if_taken" ybw t.ygT t.ygU
 ypJ:Binds K t.ygU ["self","around"] []
 ymq:Fun K "either_taken" "Reader.either_taken" yQ t.yeS t.yeT
 ymr:Binds K t.yeT ["self","around"] []
 yoD:Fun K "try_taken" "Reader.try_taken" ybm t.ygC t.ygD
 yoE:Binds K t.ygD ["self","around"] []
 F_read:Fun K "read" "read" yoo t.a_read t.d_read
 b_read:Binds K t.d_read ["text"] []
 m_read:mg "read" = some (.ref t.a_read)
 yrH:Fun K "shown" "shown" ygv t.yoz t.yoA
 ywF:Binds K t.yoA ["deed"] []
 ywG:mg "shown" = some (.ref t.yoz)
 ypW:Fun K "_law_whole" "_law_whole" ydl t.yju t.yjv
 ywH:Binds K t.yjv ["_law_found"] []
 ywI:mg "_law_whole" = some (.ref t.yju)
 ynI:Fun K "_law_name" "_law_name" yee t.yiA t.yiB
 yrI:Binds K t.yiB ["_law_cell"] []
 yrJ:mg "_law_name" = some (.ref t.yiA)
 ygX:Fun K "_law_slot" "_law_slot" yef t.yiC t.yiD
 yiH:Binds K t.yiD ["_law_number_here"] []
 yiI:mg "_law_slot" = some (.ref t.yiC)
 yoF:Fun K "_law_number" "_law_number" ycu t.yhZ t.yia
 yuy:Binds K t.yia ["_law_cell"] []
 yuz:mg "_law_number" = some (.ref t.yhZ)
 ypX:Fun K "_law_plain" "_law_plain" ydm t.yjw t.yjx
 ywJ:Binds K t.yjx ["_law_cell"] []
 ywK:mg "_law_plain" = some (.ref t.yjw)
 yms:Fun K "_law_sided" "_law_sided" ydn t.yhu t.yhv
 ypY:Binds K t.yhv ["_law_cell","_law_one","_law_other"] []
 ypZ:mg "_law_sided" = some (.ref t.yhu)
 yhy:Fun K "_law_sides" "_law_sides" ydo t.yeU t.yeV
 yjA:Binds K t.yeV ["_law_part"] []
 yjB:mg "_law_sides" = some (.ref t.yeU)
 yjC:Fun K "_law_round" "_law_round" ydp t.yhw t.yhx
 ymt:Binds K t.yhx ["_law_parts"] []
 ymu:mg "_law_round" = some (.ref t.yhw)
 yiJ:Fun K "_law_long" "_law_long" yeg t.ygV t.ygW
 ylj:Binds K t.ygW ["_law_parts"] []
 ylk:mg "_law_long" = some (.ref t.ygV)
 yrK:Fun K "_law_more" "_law_more" yeh t.yla t.ylb
 yyB:Binds K t.ylb ["_law_parts","_law_cell"] []
 yyC:mg "_law_more" = some (.ref t.yla)
 yiK:Fun K "_law_in" "_law_in" ygw t.yrD t.yrE
 yko:Binds K t.yrE ["_law_parts"] []
 ykp:mg "_law_in" = some (.ref t.yrD)
 ynJ:Fun K "_law_text" "_law_text" yei t.ylc t.yle
 yrL:Binds K t.yle ["_law_parts"] []
 yrM:mg "_law_text" = some (.ref t.ylc)
 yoG:Fun K "_law_values" "_law_values" ycv t.yib t.yic
 yuA:Binds K t.yic ["_law_part","_law_due"] []
 yuB:mg "_law_values" = some (.ref t.yib)
 yiL:Fun K "_law_same" "_law_same" yej t.ylf t.ylg
 yll:Binds K t.ylg ["_law_parts","_law_due"] []
 ylm:mg "_law_same" = some (.ref t.ylf)
 ynK:Fun K "_law_made" "_law_made" yek t.ylh t.yli
 yrN:Binds K t.yli ["_law_part"] []
 yrO:mg "_law_made" = some (.ref t.ylh)
 yrP:Fun K "_law_deed" "_law_deed" yel t.ynB t.ynC
 yyD:Binds K t.ynC ["_law_parts"] []
 yyE:mg "_law_deed" = some (.ref t.ynB)
 yoH:Fun K "_law_deed" "_law_deed" ycw t.yid t.yie
 yuC:Binds K t.yie ["_law_parts"] []
 yuD:mg "_law_deed" = some (.ref t.yid)
 ynj:Fun K "_law_wrapped" "_law_wrapped" ycf t.yhf t.yhg
 ysI:Binds K t.yhg ["_law_parts","_law_number_here"] []
 ysJ:mg "_law_wrapped" = some (.ref t.yhf)
 ymv:Fun K "_law_right" "_law_right" ydq t.yjy t.yjz
 yqa:Binds K t.yjz ["_law_parts"] []
 yqb:mg "_law_right" = some (.ref t.yjy)
 F_law:Fun K "law" "law" yqs t.a_law t.d_law
 b_law:Binds K t.d_law ["_law_script"] []
 m_law:mg "law" = some (.ref t.a_law)
 m_Part:mg "Part" = some (.ref (t.A 0))
 mk_Part:makesIn K (t.A 0)=true
 io_Part:findIn K (.ref (t.A 0)) "__init__" = some (some (.builtin "object.__init__"))
 kp_Part:keepIn K (.ref (t.A 0))=true
 m_Let:mg "Let" = some (.ref (t.A 1))
 mk_Let:Mk K (t.A 1) t.yfJ
 m_Reckon:mg "Reckon" = some (.ref (t.A 2))
 mk_Reckon:Mk K (t.A 2) t.ydN
 m_Take:mg "Take" = some (.ref (t.A 3))
 mk_Take:Mk K (t.A 3) t.yeQ
 m_Put:mg "Put" = some (.ref (t.A 4))
 mk_Put:Mk K (t.A 4) t.yfL
 m_If:mg "If" = some (.ref (t.A 5))
 mk_If:Mk K (t.A 5) t.ygA
 m_Either:mg "Either" = some (.ref (t.A 6))
 mk_Either:Mk K (t.A 6) t.ydP
 m_Try:mg "Try" = some (.ref (t.A 7))
 mk_Try:Mk K (t.A 7) t.yfN
 m_Throw:mg "Throw" = some (.ref (t.A 8))
 mk_Throw:Mk K (t.A 8) t.yes
 m_Wait:mg "Wait" = some (.ref (t.A 9))
 mk_Wait:makesIn K (t.A 9)=true
 io_Wait:findIn K (.ref (t.A 9)) "__init__" = some (some (.builtin "object.__init__"))
 kp_Wait:keepIn K (.ref (t.A 9))=true
 m_Reader:mg "Reader" = some (.ref (t.A 10))
 mk_Reader:Mk K (t.A 10) t.yfr
 me_Part_long:yku K (t.A 0) "long" t.ykK
 me_Let_long:yku K (t.A 1) "long" t.ymQ
 me_Reckon_long:yku K (t.A 2) "long" t.yhV
 me_Take_long:yku K (t.A 3) "long" t.ykO
 me_Put_long:yku K (t.A 4) "long" t.ymS
 me_If_long:yku K (t.A 5) "long" t.yrB
 me_Either_long:yku K (t.A 6) "long" t.ykW
 me_Try_long:yku K (t.A 7) "long" t.ypC
 me_Throw_long:yku K (t.A 8) "long" t.yjo
 me_Wait_long:yku K (t.A 9) "long" t.ykS
 me_Part_shown:yku K (t.A 0) "shown" t.yjk
 me_Let_shown:yku K (t.A 1) "shown" t.ykM
 me_Reckon_shown:yku K (t.A 2) "shown" t.yhd
 me_Take_shown:yku K (t.A 3) "shown" t.yjm
 me_Put_shown:yku K (t.A 4) "shown" t.ykQ
 me_If_shown:yku K (t.A 5) "shown" t.ypA
 me_Either_shown:yku K (t.A 6) "shown" t.yjS
 me_Try_shown:yku K (t.A 7) "shown" t.ynz
 me_Throw_shown:yku K (t.A 8) "shown" t.yhX
 me_Wait_shown:yku K (t.A 9) "shown" t.yjq
 yeY:yku K (t.A 10) "ahead" t.yew
 yeZ:yku K (t.A 10) "taken" t.ycy
 ybV:yku K (t.A 10) "pass_over" t.yeI
 yE:yku K (t.A 10) "slot_taken" t.ybS
 yhL:yku K (t.A 10) "name_taken" t.ycI
 ylF:yku K (t.A 10) "number_taken" t.yds
 yhM:yku K (t.A 10) "list_taken" t.yem
 ybO:yku K (t.A 10) "side_taken" t.yfT
 yhN:yku K (t.A 10) "part_taken" t.yfV
 yoI:yku K (t.A 10) "if_taken" t.ygT
 ylG:yku K (t.A 10) "either_taken" t.yeS
 ynL:yku K (t.A 10) "try_taken" t.ygC
 ymw:yku K (t.A 10) "plain_taken" t.ydH
 ylH:yku K (t.A 10) "reckon_taken" t.ydu
 cl:∀ k,Cls K (t.A k)
 fa:Fa (yV K t)
 z_all:mg "all" = none
 z_bool:mg "bool" = none
 z_int:mg "int" = none
 z_isinstance:mg "isinstance" = none
 z_len:mg "len" = none
 z_list:mg "list" = none
 z_max:mg "max" = none
 z_range:mg "range" = none
 z_str:mg "str" = none
 z_sum:mg "sum" = none
 z_zip:mg "zip" = none
 m_FIGURES:mg "FIGURES" = some (.str "0123456789" t.k_FIGURES)
 m_LETTERS:mg "LETTERS" = some (.str "abcdefghijklmnopqrstuvwxyz" t.k_LETTERS)
 m_MOST_AROUND:mg "MOST_AROUND" = some (.int 8 t.k_MOST_AROUND)
 m_MOST_ROWS:mg "MOST_ROWS" = some (.int 80 t.k_MOST_ROWS)
 m_SLOTS:mg "SLOTS" = some (.str "abcdefgh" t.k_SLOTS)
 m_WIDE:mg "WIDE" = some (.int 18446744073709551616 t.k_WIDE)
 m_WORDS:mg "WORDS" = some (.ref t.k_WORDS)
 kt_WORDS:KTp K t.k_WORDS ((["plus","minus","times","less","same"]:List Str).map V.str)
theorem yrQ:Nm "Either":=⟨by rfl',by rfl',by rfl'⟩
theorem yAO:Nm "FIGURES":=⟨by rfl',by rfl',by rfl'⟩
theorem yIR:Nm "If":=⟨by rfl',by rfl',by rfl'⟩
theorem yAP:Nm "LETTERS":=⟨by rfl',by rfl',by rfl'⟩
theorem yDr:Nm "Let":=⟨by rfl',by rfl',by rfl'⟩
theorem ysK:Nm "MOST_AROUND":=⟨by rfl',by rfl',by rfl'⟩
theorem ywL:Nm "MOST_ROWS":=⟨by rfl',by rfl',by rfl'⟩
theorem yIS:Nm "Part":=⟨by rfl',by rfl',by rfl'⟩
theorem yDs:Nm "Put":=⟨by rfl',by rfl',by rfl'⟩
theorem yDt:Nm "Reader":=⟨by rfl',by rfl',by rfl'⟩
theorem yrR:Nm "Reckon":=⟨by rfl',by rfl',by rfl'⟩
theorem yFL:Nm "SLOTS":=⟨by rfl',by rfl',by rfl'⟩
theorem yyF:Nm "Take":=⟨by rfl',by rfl',by rfl'⟩
theorem yuE:Nm "Throw":=⟨by rfl',by rfl',by rfl'⟩
theorem yDu:Nm "Try":=⟨by rfl',by rfl',by rfl'⟩
theorem yIT:Nm "WIDE":=⟨by rfl',by rfl',by rfl'⟩
theorem yFM:Nm "WORDS":=⟨by rfl',by rfl',by rfl'⟩
theorem yuF:Nm "Wait":=⟨by rfl',by rfl',by rfl'⟩
theorem yoJ:Nm "_law_again":=⟨by rfl',by rfl',by rfl'⟩
theorem yAQ:Nm "_law_at":=⟨by rfl',by rfl',by rfl'⟩
theorem yy:Nm "_law_cell":=⟨by rfl',by rfl',by rfl'⟩
theorem ynM:Nm "_law_cut":=⟨by rfl',by rfl',by rfl'⟩
theorem yqc:Nm "_law_deed":=⟨by rfl',by rfl',by rfl'⟩
theorem ygY:Nm "_law_deed_here":=⟨by rfl',by rfl',by rfl'⟩
theorem ybx:Nm "_law_due":=⟨by rfl',by rfl',by rfl'⟩
theorem ybn:Nm "_law_found":=⟨by rfl',by rfl',by rfl'⟩
theorem yjU:Nm "_law_handed":=⟨by rfl',by rfl',by rfl'⟩
theorem yin:Nm "_law_in":=⟨by rfl',by rfl',by rfl'⟩
theorem yoK:Nm "_law_k":=⟨by rfl',by rfl',by rfl'⟩
theorem yrS:Nm "_law_letters":=⟨by rfl',by rfl',by rfl'⟩
theorem yjD:Nm "_law_long":=⟨by rfl',by rfl',by rfl'⟩
theorem yrT:Nm "_law_low":=⟨by rfl',by rfl',by rfl'⟩
theorem yqd:Nm "_law_made":=⟨by rfl',by rfl',by rfl'⟩
theorem ybW:Nm "_law_made_here":=⟨by rfl',by rfl',by rfl'⟩
theorem ymx:Nm "_law_many":=⟨by rfl',by rfl',by rfl'⟩
theorem ydw:Nm "_law_mixed":=⟨by rfl',by rfl',by rfl'⟩
theorem ywM:Nm "_law_more":=⟨by rfl',by rfl',by rfl'⟩
theorem yqe:Nm "_law_name":=⟨by rfl',by rfl',by rfl'⟩
theorem ykq:Nm "_law_name_here":=⟨by rfl',by rfl',by rfl'⟩
theorem ysL:Nm "_law_number":=⟨by rfl',by rfl',by rfl'⟩
theorem ycK:Nm "_law_number_here":=⟨by rfl',by rfl',by rfl'⟩
theorem yeo:Nm "_law_one":=⟨by rfl',by rfl',by rfl'⟩
theorem yep:Nm "_law_other":=⟨by rfl',by rfl',by rfl'⟩
theorem yd:Nm "_law_part":=⟨by rfl',by rfl',by rfl'⟩
theorem yu:Nm "_law_parts":=⟨by rfl',by rfl',by rfl'⟩
theorem yuG:Nm "_law_plain":=⟨by rfl',by rfl',by rfl'⟩
theorem yoL:Nm "_law_right":=⟨by rfl',by rfl',by rfl'⟩
theorem yln:Nm "_law_round":=⟨by rfl',by rfl',by rfl'⟩
theorem yeq:Nm "_law_row":=⟨by rfl',by rfl',by rfl'⟩
theorem yjE:Nm "_law_same":=⟨by rfl',by rfl',by rfl'⟩
theorem ysM:Nm "_law_script":=⟨by rfl',by rfl',by rfl'⟩
theorem ymy:Nm "_law_side":=⟨by rfl',by rfl',by rfl'⟩
theorem yoM:Nm "_law_sided":=⟨by rfl',by rfl',by rfl'⟩
theorem yif:Nm "_law_sides":=⟨by rfl',by rfl',by rfl'⟩
theorem yR:Nm "_law_sides_here":=⟨by rfl',by rfl',by rfl'⟩
theorem yqf:Nm "_law_sign":=⟨by rfl',by rfl',by rfl'⟩
theorem yqg:Nm "_law_size":=⟨by rfl',by rfl',by rfl'⟩
theorem yhz:Nm "_law_slot":=⟨by rfl',by rfl',by rfl'⟩
theorem ywN:Nm "_law_some":=⟨by rfl',by rfl',by rfl'⟩
theorem yqh:Nm "_law_text":=⟨by rfl',by rfl',by rfl'⟩
theorem yft:Nm "_law_text_here":=⟨by rfl',by rfl',by rfl'⟩
theorem ysN:Nm "_law_values":=⟨by rfl',by rfl',by rfl'⟩
theorem yfZ:Nm "_law_way":=⟨by rfl',by rfl',by rfl'⟩
theorem yuH:Nm "_law_whole":=⟨by rfl',by rfl',by rfl'⟩
theorem ywO:Nm "_law_word":=⟨by rfl',by rfl',by rfl'⟩
theorem yrU:Nm "_law_wrapped":=⟨by rfl',by rfl',by rfl'⟩
theorem yMa:Nm "all":=⟨by rfl',by rfl',by rfl'⟩
theorem ydR:Nm "around":=⟨by rfl',by rfl',by rfl'⟩
theorem yIU:Nm "bool":=⟨by rfl',by rfl',by rfl'⟩
theorem yyG:Nm "deed":=⟨by rfl',by rfl',by rfl'⟩
theorem yzB:Nm "inner":=⟨by rfl',by rfl',by rfl'⟩
theorem yzC:Nm "int":=⟨by rfl',by rfl',by rfl'⟩
theorem yoN:Nm "is_made_of":=⟨by rfl',by rfl',by rfl'⟩
theorem yAR:Nm "is_name":=⟨by rfl',by rfl',by rfl'⟩
theorem yAS:Nm "is_slot":=⟨by rfl',by rfl',by rfl'⟩
theorem yAT:Nm "is_word":=⟨by rfl',by rfl',by rfl'⟩
theorem ybo:Nm "isinstance":=⟨by rfl',by rfl',by rfl'⟩
theorem yoO:Nm "len":=⟨by rfl',by rfl',by rfl'⟩
theorem yjV:Nm "list":=⟨by rfl',by rfl',by rfl'⟩
theorem yfa:Nm "list_long":=⟨by rfl',by rfl',by rfl'⟩
theorem yoP:Nm "list_shown":=⟨by rfl',by rfl',by rfl'⟩
theorem yzD:Nm "max":=⟨by rfl',by rfl',by rfl'⟩
theorem yuI:Nm "name":=⟨by rfl',by rfl',by rfl'⟩
theorem ymz:Nm "number":=⟨by rfl',by rfl',by rfl'⟩
theorem ywP:Nm "number_of":=⟨by rfl',by rfl',by rfl'⟩
theorem yGM:Nm "one":=⟨by rfl',by rfl',by rfl'⟩
theorem yzE:Nm "other":=⟨by rfl',by rfl',by rfl'⟩
theorem ykr:Nm "others":=⟨by rfl',by rfl',by rfl'⟩
theorem yDv:Nm "part":=⟨by rfl',by rfl',by rfl'⟩
theorem yfu:Nm "parts":=⟨by rfl',by rfl',by rfl'⟩
theorem yuJ:Nm "place":=⟨by rfl',by rfl',by rfl'⟩
theorem yIV:Nm "read":=⟨by rfl',by rfl',by rfl'⟩
theorem ywQ:Nm "reader":=⟨by rfl',by rfl',by rfl'⟩
theorem yk:Nm "self":=⟨by rfl',by rfl',by rfl'⟩
theorem yzF:Nm "shown":=⟨by rfl',by rfl',by rfl'⟩
theorem yfv:Nm "side_shown":=⟨by rfl',by rfl',by rfl'⟩
theorem yIW:Nm "sign":=⟨by rfl',by rfl',by rfl'⟩
theorem yFN:Nm "signs":=⟨by rfl',by rfl',by rfl'⟩
theorem yhE:Nm "slot":=⟨by rfl',by rfl',by rfl'⟩
theorem yDw:Nm "str":=⟨by rfl',by rfl',by rfl'⟩
theorem yDx:Nm "sum":=⟨by rfl',by rfl',by rfl'⟩
theorem ygE:Nm "text":=⟨by rfl',by rfl',by rfl'⟩
theorem yDy:Nm "wanted":=⟨by rfl',by rfl',by rfl'⟩
theorem ydD:Nm "word":=⟨by rfl',by rfl',by rfl'⟩
theorem yFO:Nm "words":=⟨by rfl',by rfl',by rfl'⟩
theorem yyH:Nm "words_of":=⟨by rfl',by rfl',by rfl'⟩
section
variable {P:Program}{w:World}{K:PySem.W.Frag}{mg:Str->Option Value}{base:Heap}{t:Ads}
theorem ymA {n:Nat}{ck:Ck}{vs:List V}{H:Hp}{Q:VK}{E:XK}(h:spE ck n (fun _ _=>none) vs H Q E):False:=by
 obtain ⟨_,_,_,_,_,_,_,_,q,_⟩:=h
 cases q
theorem ycV {f:Addr}{fd:FuncData}{ps:List Str}{k n:Nat}{ck:Ck}:FnOk P w K mg base CX0 k f fd ps (spE ck n fun _ _=>none):=⟨fun vs H Q E h=>(ymA h).elim,fun A outer s H args us vs Q E _ _ _ _ h=>(ymA h).elim⟩
theorem yrV (T:Txt K mg t) :FnOk P w K mg base CX0 (0+1) t.yfJ t.yfK ["self","slot","number"] (spI (yV K t) 2 1 yeu):=by
 have fa:=T.fa
 exact zin T.ysz yrv rfl (by decide) fun cdv Ar outer sh H E hr=>(yeF (yeM fa.fl_slot (ycX (i:=0) rfl (Or.inl rfl) yk.d yk.c) (z_v 1 yhE) rfl) (ykz (yeM fa.fl_number (ycX (i:=0) rfl (Or.inl rfl) yk.d yk.c) (z_v 2 ymz) rfl)))
theorem yoQ (T:Txt K mg t) :FnOk P w K mg base CX0 (0+1) t.ydN t.ydO ["self","word","slot","one","other"] (spI (yV K t) 4 2 ycB):=by
 have fa:=T.fa
 exact zin T.ypE yop rfl (by decide) fun cdv Ar outer sh H E hr=>(yeF (yeM fa.fl_word (ycX (i:=0) rfl (Or.inl rfl) yk.d yk.c) (z_v 1 ydD) rfl) (yeF (yeM fa.fl_slot (ycX (i:=0) rfl (Or.inl rfl) yk.d yk.c) (z_v 2 yhE) rfl) (yeF (yeM fa.fl_one (ycX (i:=0) rfl (Or.inl rfl) yk.d yk.c) (z_v 3 yGM) rfl) (ykz (yeM fa.fl_other (ycX (i:=0) rfl (Or.inl rfl) yk.d yk.c) (z_v 4 yzE) rfl)))))
theorem yqv (T:Txt K mg t) :FnOk P w K mg base CX0 (0+1) t.yeQ t.yeR ["self","slot","place"] (spI (yV K t) 2 3 ydM):=by
 have fa:=T.fa
 exact zin T.yrF yqt rfl (by decide) fun cdv Ar outer sh H E hr=>(yeF (yeM fa.fl_slot (ycX (i:=0) rfl (Or.inl rfl) yk.d yk.c) (z_v 1 yhE) rfl) (ykz (yeM fa.fl_place (ycX (i:=0) rfl (Or.inl rfl) yk.d yk.c) (z_v 2 yuJ) rfl)))
theorem yrW (T:Txt K mg t) :FnOk P w K mg base CX0 (0+1) t.yfL t.yfM ["self","place","slot"] (spI (yV K t) 2 4 yev):=by
 have fa:=T.fa
 exact zin T.ysA yrw rfl (by decide) fun cdv Ar outer sh H E hr=>(yeF (yeM fa.fl_place (ycX (i:=0) rfl (Or.inl rfl) yk.d yk.c) (z_v 1 yuJ) rfl) (ykz (yeM fa.fl_slot (ycX (i:=0) rfl (Or.inl rfl) yk.d yk.c) (z_v 2 yhE) rfl)))
theorem ysO (T:Txt K mg t) :FnOk P w K mg base CX0 (0+1) t.ygA t.ygB ["self","slot","parts","others"] (spI (yV K t) 3 5 yda):=by
 have fa:=T.fa
 exact zin T.yur yss rfl (by decide) fun cdv Ar outer sh H E hr=>(yeF (yeM fa.fl_slot (ycX (i:=0) rfl (Or.inl rfl) yk.d yk.c) (z_v 1 yhE) rfl) (yeF (yeM fa.fl_parts (ycX (i:=0) rfl (Or.inl rfl) yk.d yk.c) (yez (yoh ycY yhQ yjV rfl T.z_list yjM (ya (z_v 2 yfu) yf rfl) rfl rfl)) rfl) (ykz (yeM fa.fl_others (ycX (i:=0) rfl (Or.inl rfl) yk.d yk.c) (yez (yoh ycY yhQ yjV rfl T.z_list yjM (ya (z_v 3 ykr) yf rfl) rfl rfl)) rfl))))
theorem yoR (T:Txt K mg t) :FnOk P w K mg base CX0 (0+1) t.ydP t.ydQ ["self","parts","others"] (spI (yV K t) 2 6 ybH):=by
 have fa:=T.fa
 exact zin T.ypF yoq rfl (by decide) fun cdv Ar outer sh H E hr=>(yeF (yeM fa.fl_parts (ycX (i:=0) rfl (Or.inl rfl) yk.d yk.c) (yez (yoh ycY yhQ yjV rfl T.z_list yjM (ya (z_v 1 yfu) yf rfl) rfl rfl)) rfl) (ykz (yeM fa.fl_others (ycX (i:=0) rfl (Or.inl rfl) yk.d yk.c) (yez (yoh ycY yhQ yjV rfl T.z_list yjM (ya (z_v 2 ykr) yf rfl) rfl rfl)) rfl)))
theorem yrX (T:Txt K mg t) :FnOk P w K mg base CX0 (0+1) t.yfN t.yfO ["self","parts","name","slot","others"] (spI (yV K t) 4 7 ycx):=by
 have fa:=T.fa
 exact zin T.ysB yrx rfl (by decide) fun cdv Ar outer sh H E hr=>(yeF (yeM fa.fl_parts (ycX (i:=0) rfl (Or.inl rfl) yk.d yk.c) (yez (yoh ycY yhQ yjV rfl T.z_list yjM (ya (z_v 1 yfu) yf rfl) rfl rfl)) rfl) (yeF (yeM fa.fl_name (ycX (i:=0) rfl (Or.inl rfl) yk.d yk.c) (z_v 2 yuI) rfl) (yeF (yeM fa.fl_slot (ycX (i:=0) rfl (Or.inl rfl) yk.d yk.c) (z_v 3 yhE) rfl) (ykz (yeM fa.fl_others (ycX (i:=0) rfl (Or.inl rfl) yk.d yk.c) (yez (yoh ycY yhQ yjV rfl T.z_list yjM (ya (z_v 4 ykr) yf rfl) rfl rfl)) rfl)))))
theorem ypK (T:Txt K mg t) :FnOk P w K mg base CX0 (0+1) t.yes t.yet ["self","name","slot"] (spI (yV K t) 2 8 ycW):=by
 have fa:=T.fa
 exact zin T.yqu ypz rfl (by decide) fun cdv Ar outer sh H E hr=>(yeF (yeM fa.fl_name (ycX (i:=0) rfl (Or.inl rfl) yk.d yk.c) (z_v 1 yuI) rfl) (ykz (yeM fa.fl_slot (ycX (i:=0) rfl (Or.inl rfl) yk.d yk.c) (z_v 2 yhE) rfl)))
theorem ywR (T:Txt K mg t) :FnOk P w K mg base CX0 (0+1) t.ykK t.ykL ["self"] (spE (yV K t) 1 yno):=by
 have fa:=T.fa
 exact zfn T.yyn ywl fun cdv Ar outer sh H E hr=>(yi (yl z_int))
theorem yuK (T:Txt K mg t) :FnOk P w K mg base CX0 (0+1) t.yjk t.yjl ["self"] (spE (yV K t) 1 yje):=by
 have fa:=T.fa
 exact zfn T.ywu yuj fun cdv Ar outer sh H E hr=>(yi (yl z_str))
theorem yyI (T:Txt K mg t) :FnOk P w K mg base CX0 (0+1) t.ymQ t.ymR ["self"] (spE (yV K t) 1 ype):=by
 have fa:=T.fa
 exact zfn T.yAE yyi fun cdv Ar outer sh H E hr=>(yi (yl z_int))
theorem ywS (T:Txt K mg t) :FnOk P w K mg base CX0 (0+1) t.ykM t.ykN ["self"] (spE (yV K t) 1 yit):=by
 have fa:=T.fa
 exact zfn T.yyp ywm fun cdv Ar outer sh H E hr=>(yi (yl (yxK PySem.F.plainAttrs_str PySem.F.slot_str_join PySem.F.type_str_join ygO ykd z_str (ya (yez (yeK (ya z_str (ya (yco fa.fl_slot (z_v 0 yk) rfl) (ya (yCt call_str_int yKq yDw rfl T.z_str yBM (ya (yco fa.fl_number (z_v 0 yk) rfl) yf rfl) rfl rfl) yf rfl) rfl) rfl))) yf rfl) rfl rfl rfl rfl rfl)))
theorem ysP (T:Txt K mg t) :FnOk P w K mg base CX0 (0+1) t.yhV t.yhW ["self"] (spE (yV K t) 1 ykA):=by
 have fa:=T.fa
 exact zfn T.yus yst fun cdv Ar outer sh H E hr=>(yi (yl z_int))
theorem yrY (T:Txt K mg t) :FnOk P w K mg base CX0 (0+1) t.yhd t.yhe ["self"] (spE (yV K t) 1 yfH):=by
 have fa:=T.fa
 exact zfn T.ysC yry fun cdv Ar outer sh H E hr=>(yi (yl (yxK PySem.F.plainAttrs_str PySem.F.slot_str_join PySem.F.type_str_join ygO ykd z_str (ya (yez (yeK (ya (yco fa.fl_word (z_v 0 yk) rfl) (ya (yco fa.fl_slot (z_v 0 yk) rfl) (ya (yco fa.fl_one (z_v 0 yk) rfl) (ya (yco fa.fl_other (z_v 0 yk) rfl) yf rfl) rfl) rfl) rfl))) yf rfl) rfl rfl rfl rfl rfl)))
theorem ywT (T:Txt K mg t) :FnOk P w K mg base CX0 (0+1) t.ykO t.ykP ["self"] (spE (yV K t) 1 ynp):=by
 have fa:=T.fa
 exact zfn T.yyr ywn fun cdv Ar outer sh H E hr=>(yi (yl z_int))
theorem yuL (T:Txt K mg t) :FnOk P w K mg base CX0 (0+1) t.yjm t.yjn ["self"] (spE (yV K t) 1 yhk):=by
 have fa:=T.fa
 exact zfn T.yww yuk fun cdv Ar outer sh H E hr=>(yi (yl (yxK PySem.F.plainAttrs_str PySem.F.slot_str_join PySem.F.type_str_join ygO ykd z_str (ya (yez (yeK (ya z_str (ya (yco fa.fl_slot (z_v 0 yk) rfl) (ya (yco fa.fl_place (z_v 0 yk) rfl) yf rfl) rfl) rfl))) yf rfl) rfl rfl rfl rfl rfl)))
theorem yyJ (T:Txt K mg t) :FnOk P w K mg base CX0 (0+1) t.ymS t.ymT ["self"] (spE (yV K t) 1 ypf):=by
 have fa:=T.fa
 exact zfn T.yAG yyj fun cdv Ar outer sh H E hr=>(yi (yl z_int))
theorem ywU (T:Txt K mg t) :FnOk P w K mg base CX0 (0+1) t.ykQ t.ykR ["self"] (spE (yV K t) 1 yiu):=by
 have fa:=T.fa
 exact zfn T.yyt ywo fun cdv Ar outer sh H E hr=>(yi (yl (yxK PySem.F.plainAttrs_str PySem.F.slot_str_join PySem.F.type_str_join ygO ykd z_str (ya (yez (yeK (ya z_str (ya (yco fa.fl_place (z_v 0 yk) rfl) (ya (yco fa.fl_slot (z_v 0 yk) rfl) yf rfl) rfl) rfl))) yf rfl) rfl rfl rfl rfl rfl)))
theorem yuM (T:Txt K mg t) :FnOk P w K mg base CX0 (0+1) t.yjo t.yjp ["self"] (spE (yV K t) 1 ylR):=by
 have fa:=T.fa
 exact zfn T.ywy yul fun cdv Ar outer sh H E hr=>(yi (yl z_int))
theorem ysQ (T:Txt K mg t) :FnOk P w K mg base CX0 (0+1) t.yhX t.yhY ["self"] (spE (yV K t) 1 ygn):=by
 have fa:=T.fa
 exact zfn T.yuu ysu fun cdv Ar outer sh H E hr=>(yi (yl (yxK PySem.F.plainAttrs_str PySem.F.slot_str_join PySem.F.type_str_join ygO ykd z_str (ya (yez (yeK (ya z_str (ya (yco fa.fl_name (z_v 0 yk) rfl) (ya (yco fa.fl_slot (z_v 0 yk) rfl) yf rfl) rfl) rfl))) yf rfl) rfl rfl rfl rfl rfl)))
theorem ywV (T:Txt K mg t) :FnOk P w K mg base CX0 (0+1) t.ykS t.ykT ["self"] (spE (yV K t) 1 ynq):=by
 have fa:=T.fa
 exact zfn T.yyv ywp fun cdv Ar outer sh H E hr=>(yi (yl z_int))
theorem yuN (T:Txt K mg t) :FnOk P w K mg base CX0 (0+1) t.yjq t.yjr ["self"] (spE (yV K t) 1 yjf):=by
 have fa:=T.fa
 exact zfn T.ywA yum fun cdv Ar outer sh H E hr=>(yi (yl z_str))
structure yPr (P:Program) (w:World) (K:PySem.W.Frag) (mg:Str->Option Value) (base:Heap) (t:Ads) (n:Nat):Prop where
 yrZ:FnOk P w K mg base CX0 (n+1) t.ykU t.ykV ["parts"] (spE (yV K t) 1 (ycE n))
 ysa:FnOk P w K mg base CX0 (n+1) t.yrB t.yrC ["self"] (spE (yV K t) 1 (yoi n))
 ylo:FnOk P w K mg base CX0 (n+1) t.ykW t.ykX ["self"] (spE (yV K t) 1 (yhS n))
 ypL:FnOk P w K mg base CX0 (n+1) t.ypC t.ypD ["self"] (spE (yV K t) 1 (ymM n))
 m_long:yqK P w K mg base (n+1) t.A "long" (fun k=>spE (yV K t) 1 (ylA n k))
theorem yDz (T:Txt K mg t)  (ymW:FnOk P w K mg base CX0 (1) t.ymQ t.ymR ["self"] (spE (yV K t) 1 ype)) (ylp:FnOk P w K mg base CX0 (1) t.ykK t.ykL ["self"] (spE (yV K t) 1 yno)) (ymX:FnOk P w K mg base CX0 (1) t.ymS t.ymT ["self"] (spE (yV K t) 1 ypf)) (yig:FnOk P w K mg base CX0 (1) t.yhV t.yhW ["self"] (spE (yV K t) 1 ykA)) (ylq:FnOk P w K mg base CX0 (1) t.ykO t.ykP ["self"] (spE (yV K t) 1 ynp)) (yjF:FnOk P w K mg base CX0 (1) t.yjo t.yjp ["self"] (spE (yV K t) 1 ylR)) (ylr:FnOk P w K mg base CX0 (1) t.ykS t.ykT ["self"] (spE (yV K t) 1 ynq)):∀ n,yPr P w K mg base t n
 | 0=>⟨ycV,ycV,ycV,ycV,fun c=>⟨T.cl c,.inl fun _ _ _ _ h=>ymA h⟩⟩
 | n+1=>by
  have fa:=T.fa
  have I:=yDz T ymW ylp ymX yig ylq yjF ylr n
  have ydE:=I.yrZ
  have yDA:=I.ysa
  have yuO:=I.ylo
  have yAU:=I.ypL
  have G_long:=I.m_long
  exact ⟨zfn T.yeW ywq fun cdv Ar outer sh H E hr=>(yi (yl (ynn (yty rfl) yHS yDx rfl T.z_sum yBL (ya (yez (ypP [] [] rfl (yhD (z_v 0 yfu)) True.intro (fun _ _ _ _ _ _=>(yxJ (z_v 0 yDv) G_long (hr.mono (by omega)) rfl)) (by rfl') rfl (by rfl') (by rfl') (by rfl') rfl (fun _=>rfl))) yf rfl) rfl rfl))),
   zfn T.yDj yAy fun cdv Ar outer sh H E hr=>(yi (yl (ycZ yfE yjP (ycZ yfE yjP z_int (yC ydE (hr.mono (by omega)) yfa rfl T.yfY T.yeW.kp T.yfX (ya (yco fa.fl_parts (z_v 0 yk) rfl) yf rfl) rfl rfl)) (yC ydE (hr.mono (by omega)) yfa rfl T.yfY T.yeW.kp T.yfX (ya (yco fa.fl_others (z_v 0 yk) rfl) yf rfl) rfl rfl)))),
   zfn T.yuw ysv fun cdv Ar outer sh H E hr=>(yi (yl (ycZ yfE yjP (ycZ yfE yjP z_int (yC ydE (hr.mono (by omega)) yfa rfl T.yfY T.yeW.kp T.yfX (ya (yco fa.fl_parts (z_v 0 yk) rfl) yf rfl) rfl rfl)) (yC ydE (hr.mono (by omega)) yfa rfl T.yfY T.yeW.kp T.yfX (ya (yco fa.fl_others (z_v 0 yk) rfl) yf rfl) rfl rfl)))),
   zfn T.yAK yyl fun cdv Ar outer sh H E hr=>(yi (yl (ycZ yfE yjP (ycZ yfE yjP z_int (yC ydE (hr.mono (by omega)) yfa rfl T.yfY T.yeW.kp T.yfX (ya (yco fa.fl_parts (z_v 0 yk) rfl) yf rfl) rfl rfl)) (yC ydE (hr.mono (by omega)) yfa rfl T.yfY T.yeW.kp T.yfX (ya (yco fa.fl_others (z_v 0 yk) rfl) yf rfl) rfl rfl)))),
   fun c=>⟨T.cl c,match c with|0=>.inr ⟨_,_,_,T.me_Part_long,ylp.mono (by omega),T.yyo⟩|1=>.inr ⟨_,_,_,T.me_Let_long,ymW.mono (by omega),T.yAF⟩|2=>.inr ⟨_,_,_,T.me_Reckon_long,yig.mono (by omega),T.yut⟩|3=>.inr ⟨_,_,_,T.me_Take_long,ylq.mono (by omega),T.yys⟩|4=>.inr ⟨_,_,_,T.me_Put_long,ymX.mono (by omega),T.yAH⟩|5=>.inr ⟨_,_,_,T.me_If_long,I.ysa.mono (by omega),T.yDk⟩|6=>.inr ⟨_,_,_,T.me_Either_long,I.ylo.mono (by omega),T.yux⟩|7=>.inr ⟨_,_,_,T.me_Try_long,I.ypL.mono (by omega),T.yAL⟩|8=>.inr ⟨_,_,_,T.me_Throw_long,yjF.mono (by omega),T.ywz⟩|9=>.inr ⟨_,_,_,T.me_Wait_long,ylr.mono (by omega),T.yyw⟩|10=>.inl fun _ _ _ _ h=>ymA h|c+11=>.inl fun _ _ _ _ h=>ymA h⟩⟩
structure yPs (P:Program) (w:World) (K:PySem.W.Frag) (mg:Str->Option Value) (base:Heap) (t:Ads) (n:Nat):Prop where
 yqi:FnOk P w K mg base CX0 (n+1) t.yjs t.yjt ["parts"] (spE (yV K t) 1 (ygf n))
 yqj:FnOk P w K mg base CX0 (n+1) t.ymh t.ymi ["parts"] (spE (yV K t) 1 (ydb n))
 ypM:FnOk P w K mg base CX0 (n+1) t.ypA t.ypB ["self"] (spE (yV K t) 1 (ymN n))
 yjW:FnOk P w K mg base CX0 (n+1) t.yjS t.yjT ["self"] (spE (yV K t) 1 (yhc n))
 ynN:FnOk P w K mg base CX0 (n+1) t.ynz t.ynA ["self"] (spE (yV K t) 1 (ykB n))
 m_shown:yqK P w K mg base (n+1) t.A "shown" (fun k=>spE (yV K t) 1 (ylS n k))
theorem yDB (T:Txt K mg t)  (yls:FnOk P w K mg base CX0 (1) t.ykM t.ykN ["self"] (spE (yV K t) 1 yit)) (yjG:FnOk P w K mg base CX0 (1) t.yjk t.yjl ["self"] (spE (yV K t) 1 yje)) (ylt:FnOk P w K mg base CX0 (1) t.ykQ t.ykR ["self"] (spE (yV K t) 1 yiu)) (yhh:FnOk P w K mg base CX0 (1) t.yhd t.yhe ["self"] (spE (yV K t) 1 yfH)) (yjH:FnOk P w K mg base CX0 (1) t.yjm t.yjn ["self"] (spE (yV K t) 1 yhk)) (yih:FnOk P w K mg base CX0 (1) t.yhX t.yhY ["self"] (spE (yV K t) 1 ygn)) (yjI:FnOk P w K mg base CX0 (1) t.yjq t.yjr ["self"] (spE (yV K t) 1 yjf)):∀ n,yPs P w K mg base t n
 | 0=>⟨ycV,ycV,ycV,ycV,ycV,fun c=>⟨T.cl c,.inl fun _ _ _ _ h=>ymA h⟩⟩
 | n+1=>by
  have fa:=T.fa
  have I:=yDB T yls yjG ylt yhh yjH yih yjI n
  have yhA:=I.yqi
  have yfb:=I.yqj
  have yAV:=I.ypM
  have ysR:=I.yjW
  have yyK:=I.ynN
  have G_shown:=I.m_shown
  exact ⟨zfn T.ymk yun fun cdv Ar outer sh H E hr=>(yi (yl (yxK PySem.F.plainAttrs_str PySem.F.slot_str_join PySem.F.type_str_join ygO ykd z_str (ya (yez (ypP [] [] rfl (yhD (z_v 0 yfu)) True.intro (fun _ _ _ _ _ _=>(yxJ (z_v 0 yDv) G_shown (hr.mono (by omega)) rfl)) (by rfl') rfl (by rfl') (by rfl') (by rfl') rfl (fun _=>rfl))) yf rfl) rfl rfl rfl rfl rfl))),
   zfn T.yeX yor fun cdv Ar outer sh H E hr=>(ye (yD (i:=1) yor.nd rfl (Or.inl rfl) (yC yhA (hr.mono (by omega)) yoP rfl T.ypT T.ymk.kp T.ypS (ya (z_v 0 yfu) yf rfl) rfl rfl) rfl (Or.inl rfl)) (ye (ybr (yB ycS yja (z_v 1 yzB) z_str (yx _)) (yi (yl z_str)) yv) (yi (yl (yxK PySem.F.plainAttrs_str PySem.F.slot_str_join PySem.F.type_str_join ygO ykd z_str (ya (yez (yeK (ya z_str (ya (z_v 1 yzB) (ya z_str yf rfl) rfl) rfl))) yf rfl) rfl rfl rfl rfl rfl))))),
   zfn T.yAI yyk fun cdv Ar outer sh H E hr=>(yi (yl (yxK PySem.F.plainAttrs_str PySem.F.slot_str_join PySem.F.type_str_join ygO ykd z_str (ya (yez (yeK (ya z_str (ya (yco fa.fl_slot (z_v 0 yk) rfl) (ya (yC yfb (hr.mono (by omega)) yfv rfl T.ygj T.yeX.kp T.ygi (ya (yco fa.fl_parts (z_v 0 yk) rfl) yf rfl) rfl rfl) (ya z_str (ya (yC yfb (hr.mono (by omega)) yfv rfl T.ygj T.yeX.kp T.ygi (ya (yco fa.fl_others (z_v 0 yk) rfl) yf rfl) rfl rfl) yf rfl) rfl) rfl) rfl) rfl))) yf rfl) rfl rfl rfl rfl rfl))),
   zfn T.ysE yrz fun cdv Ar outer sh H E hr=>(yi (yl (yxK PySem.F.plainAttrs_str PySem.F.slot_str_join PySem.F.type_str_join ygO ykd z_str (ya (yez (yeK (ya z_str (ya (yC yfb (hr.mono (by omega)) yfv rfl T.ygj T.yeX.kp T.ygi (ya (yco fa.fl_parts (z_v 0 yk) rfl) yf rfl) rfl rfl) (ya z_str (ya (yC yfb (hr.mono (by omega)) yfv rfl T.ygj T.yeX.kp T.ygi (ya (yco fa.fl_others (z_v 0 yk) rfl) yf rfl) rfl rfl) yf rfl) rfl) rfl) rfl))) yf rfl) rfl rfl rfl rfl rfl))),
   zfn T.yyx ywr fun cdv Ar outer sh H E hr=>(yi (yl (yxK PySem.F.plainAttrs_str PySem.F.slot_str_join PySem.F.type_str_join ygO ykd z_str (ya (yez (yeK (ya z_str (ya (yC yfb (hr.mono (by omega)) yfv rfl T.ygj T.yeX.kp T.ygi (ya (yco fa.fl_parts (z_v 0 yk) rfl) yf rfl) rfl rfl) (ya z_str (ya (yco fa.fl_name (z_v 0 yk) rfl) (ya (yco fa.fl_slot (z_v 0 yk) rfl) (ya (yC yfb (hr.mono (by omega)) yfv rfl T.ygj T.yeX.kp T.ygi (ya (yco fa.fl_others (z_v 0 yk) rfl) yf rfl) rfl rfl) yf rfl) rfl) rfl) rfl) rfl) rfl))) yf rfl) rfl rfl rfl rfl rfl))),
   fun c=>⟨T.cl c,match c with|0=>.inr ⟨_,_,_,T.me_Part_shown,yjG.mono (by omega),T.ywv⟩|1=>.inr ⟨_,_,_,T.me_Let_shown,yls.mono (by omega),T.yyq⟩|2=>.inr ⟨_,_,_,T.me_Reckon_shown,yhh.mono (by omega),T.ysD⟩|3=>.inr ⟨_,_,_,T.me_Take_shown,yjH.mono (by omega),T.ywx⟩|4=>.inr ⟨_,_,_,T.me_Put_shown,ylt.mono (by omega),T.yyu⟩|5=>.inr ⟨_,_,_,T.me_If_shown,I.ypM.mono (by omega),T.yAJ⟩|6=>.inr ⟨_,_,_,T.me_Either_shown,I.yjW.mono (by omega),T.ysF⟩|7=>.inr ⟨_,_,_,T.me_Try_shown,I.ynN.mono (by omega),T.yyy⟩|8=>.inr ⟨_,_,_,T.me_Throw_shown,yih.mono (by omega),T.yuv⟩|9=>.inr ⟨_,_,_,T.me_Wait_shown,yjI.mono (by omega),T.ywB⟩|10=>.inl fun _ _ _ _ h=>ymA h|c+11=>.inl fun _ _ _ _ h=>ymA h⟩⟩
theorem yuP (T:Txt K mg t) :FnOk P w K mg base CX0 (0+1) t.yhs t.yht ["text","signs"] (spE (yV K t) 2 yeO):=by
 have fa:=T.fa
 exact zfn T.yml yuo fun cdv Ar outer sh H E hr=>(yi (yl (ynn (yEj rfl) yMN yMa rfl T.z_all yJW (ya (yez (ypP [1] ["signs"] rfl (yKY (z_v 0 ygE)) ⟨rfl,rfl,rfl,True.intro⟩ (fun _ _ _ _ _ _=>(yqo yvm yKn (z_v 0 yIW) (yKU (i:=1) yFN rfl (Or.inr (Or.inl rfl))) (by with_unfolding_all rfl))) (by rfl') rfl (by rfl') (by rfl') (by rfl') rfl (fun _=>rfl))) yf rfl) rfl rfl)))
theorem ywW (T:Txt K mg t) (ygk:FnOk P w K mg base CX0 (1) t.yhs t.yht ["text","signs"] (spE (yV K t) 2 yeO)):FnOk P w K mg base CX0 (1+1) t.ykY t.ykZ ["text"] (spE (yV K t) 1 yiv):=by
 have fa:=T.fa
 exact zfn T.yrG ypR fun cdv Ar outer sh H E hr=>(ye (ybr (yxH (ytM (yir (yFc yzL yzL yJd yJd z_int (ynn ylK yCg yoO rfl T.z_len yoa (ya (z_v 0 ygE) yf rfl) rfl rfl) z_int (by with_unfolding_all rfl))) (yog (yir (yis (yC ygk (hr.mono (by omega)) yoN rfl T.ypV T.yml.kp T.ypU (ya (z_v 0 ygE) (ya (yCs yAO rfl T.m_FIGURES) yf rfl) rfl) rfl rfl) (fun _=>rfl)))))) (yi (yl yvM)) yv) (ye (ybr (yxH (yti (yB ycS yja (ydS yBF yHR (z_v 0 ygE) z_int (fun _ _=>rfl)) z_str (yx _)) (ypd (yB ytu yEH (z_v 0 ygE) z_str (yx _))))) (yi (yl yvM)) yv) (ye (yD (i:=1) ypR.nd rfl (Or.inl rfl) (yCt yvn yKr yzC rfl T.z_int yyT (ya (z_v 0 ygE) yf rfl) rfl rfl) rfl (Or.inl rfl)) (yi (yl (yNL (yB yzK yJc (z_v 1 ymz) (yCr yIT rfl T.m_WIDE) (yx _)) (z_v 1 ymz) yvM))))))
theorem yAW (T:Txt K mg t) :FnOk P w K mg base CX0 (0+1) t.yot t.you ["text"] (spE (yV K t) 1 yoj):=by
 have fa:=T.fa
 exact zfn T.ywC yAz fun cdv Ar outer sh H E hr=>(yi (yl (yqo yqH yES (z_v 0 ygE) (yLa (ss:=["plus","minus","times","less","same"]) yFM rfl T.m_WORDS T.kt_WORDS) (by with_unfolding_all rfl))))
theorem yAX (T:Txt K mg t) :FnOk P w K mg base CX0 (0+1) t.yov t.yow ["text"] (spE (yV K t) 1 ylT):=by
 have fa:=T.fa
 exact zfn T.ywD yAA fun cdv Ar outer sh H E hr=>(yi (yl (yso (yqo ycS yja (ynn ylK yCg yoO rfl T.z_len yoa (ya (z_v 0 ygE) yf rfl) rfl rfl) z_int (yx _)) (ytL (yqo yvm yKn (z_v 0 ygE) (yCs yFL rfl T.m_SLOTS) (by with_unfolding_all rfl))))))
theorem yAY (T:Txt K mg t) (ygk:FnOk P w K mg base CX0 (1) t.yhs t.yht ["text","signs"] (spE (yV K t) 2 yeO)):FnOk P w K mg base CX0 (1+1) t.yox t.yoy ["text"] (spE (yV K t) 1 ylU):=by
 have fa:=T.fa
 exact zfn T.ywE yAB fun cdv Ar outer sh H E hr=>(yi (yl (yso (yIi yzL yzL yJd yJd z_int (ynn ylK yCg yoO rfl T.z_len yoa (ya (z_v 0 ygE) yf rfl) rfl rfl) z_int (by with_unfolding_all rfl)) (ytL (yC ygk (hr.mono (by omega)) yoN rfl T.ypV T.yml.kp T.ypU (ya (z_v 0 ygE) (ya (yCs yAP rfl T.m_LETTERS) yf rfl) rfl) rfl rfl)))))
theorem yoS (T:Txt K mg t) :FnOk P w K mg base CX0 (0+1) t.yfr t.yfs ["self","words"] (spI (yV K t) 1 10 yfg):=by
 have fa:=T.fa
 exact zin T.ypG yos rfl (by decide) fun cdv Ar outer sh H E hr=>(yeF (yeM fa.fl_words (ycX (i:=0) rfl (Or.inl rfl) yk.d yk.c) (yez (yoh ycY yhQ yjV rfl T.z_list yjM (ya (z_v 1 yFO) yf rfl) rfl rfl)) rfl) (ykz (yeM fa.fl_at (ycX (i:=0) rfl (Or.inl rfl) yk.d yk.c) z_int rfl)))
theorem yyL (T:Txt K mg t) :FnOk P w K mg base CX0 (0+1) t.ymU t.ymV ["text"] (spE (yV K t) 1 ykg):=by
 have fa:=T.fa
 exact zfn T.ytr yym fun cdv Ar outer sh H E hr=>(ye (ybr (yB ycS yja (z_v 0 ygE) z_str (yx _)) (yi (yl (yez (yeK yf)))) yv) (yi (yl (yxK PySem.F.plainAttrs_str PySem.F.slot_str_split PySem.F.type_str_split yFg m_split (z_v 0 ygE) (ya z_str yf rfl) rfl rfl rfl rfl rfl))))
theorem ysb (T:Txt K mg t) :FnOk P w K mg base CX0 (0+1) t.yew t.yex ["self"] (spE (yV K t) 1 yU):=by
 have fa:=T.fa
 exact zfn T.ysG yrA fun cdv Ar outer sh H E hr=>(ye (ybr (yB yzK yJc (yco fa.fl_at (z_v 0 yk) rfl) (ynn yge ytb yoO rfl T.z_len yoa (ya (yco fa.fl_words (z_v 0 yk) rfl) yf rfl) rfl rfl) (yx _)) (yi (yl (ydS ygN ypa (yco fa.fl_words (z_v 0 yk) rfl) (yco fa.fl_at (z_v 0 yk) rfl) (fun _ _=>rfl)))) yv) (yi (yl yvM)))
theorem ysc (T:Txt K mg t) (ybs:FnOk P w K mg base CX0 (1) t.yew t.yex ["self"] (spE (yV K t) 1 yU)):FnOk P w K mg base CX0 (1+1) t.ycy t.ycz ["self"] (spE (yV K t) 1 ybe):=by
 have fa:=T.fa
 exact zfn T.ysH ymg fun cdv Ar outer sh H E hr=>(ye (yD (i:=1) ymg.nd rfl (Or.inl rfl) (ybJ (z_v 0 yk) (T.cl 10) T.yeY ybs (hr.mono (by omega)) T.yfP rfl) rfl (Or.inl rfl)) (ye (ybr (yB yBw yHP (z_v 1 ydD) yvM (yx _)) (yi yhR) yv) (ye (yIl fa.fl_at (z_v 0 yk) (ycZ yfE yjP (yco fa.fl_at (z_v 0 yk) rfl) z_int) rfl) (yi (yl (z_v 1 ydD))))))
theorem ynO (T:Txt K mg t) (yM:FnOk P w K mg base CX0 (2) t.ycy t.ycz ["self"] (spE (yV K t) 1 ybe)):FnOk P w K mg base CX0 (2+1) t.yeI t.yeJ ["self","wanted"] (spE (yV K t) 2 yN):=by
 have fa:=T.fa
 exact zfn T.yoC yiz fun cdv Ar outer sh H E hr=>(ye (yD (i:=2) yiz.nd rfl (Or.inl rfl) (ybJ (z_v 0 yk) (T.cl 10) T.yeZ yM (hr.mono (by omega)) T.yfQ rfl) rfl (Or.inl rfl)) (yi (ybr (yB ytu yEH (z_v 2 ydD) (z_v 1 yDy) (yx _)) (yi yhR) yv)))
theorem yna (T:Txt K mg t) (yM:FnOk P w K mg base CX0 (2) t.ycy t.ycz ["self"] (spE (yV K t) 1 ybe)) (ysd:FnOk P w K mg base CX0 (1) t.yov t.yow ["text"] (spE (yV K t) 1 ylT)):FnOk P w K mg base CX0 (2+1) t.ybS t.ybT ["self"] (spE (yV K t) 1 yr):=by
 have fa:=T.fa
 exact zfn T.ynD yhG fun cdv Ar outer sh H E hr=>(ye (yD (i:=1) yhG.nd rfl (Or.inl rfl) (ybJ (z_v 0 yk) (T.cl 10) T.yeZ yM (hr.mono (by omega)) T.yfQ rfl) rfl (Or.inl rfl)) (ye (ybr (yir (yis (yC ysd (hr.mono (by omega)) yAS rfl T.yDo T.ywD.kp T.yDn (ya (z_v 1 ydD) yf rfl) rfl rfl) (fun _=>rfl))) (yi yhR) yv) (yi (yl (z_v 1 ydD)))))
theorem ynb (T:Txt K mg t) (yM:FnOk P w K mg base CX0 (2) t.ycy t.ycz ["self"] (spE (yV K t) 1 ybe)) (yse:FnOk P w K mg base CX0 (2) t.yox t.yoy ["text"] (spE (yV K t) 1 ylU)):FnOk P w K mg base CX0 (2+1) t.ycI t.ycJ ["self"] (spE (yV K t) 1 ybB):=by
 have fa:=T.fa
 exact zfn T.ynE yhH fun cdv Ar outer sh H E hr=>(ye (yD (i:=1) yhH.nd rfl (Or.inl rfl) (ybJ (z_v 0 yk) (T.cl 10) T.yeZ yM (hr.mono (by omega)) T.yfQ rfl) rfl (Or.inl rfl)) (ye (ybr (yir (yis (yC yse (hr.mono (by omega)) yAR rfl T.yDq T.ywE.kp T.yDp (ya (z_v 1 ydD) yf rfl) rfl rfl) (fun _=>rfl))) (yi yhR) yv) (yi (yl (z_v 1 ydD)))))
theorem ylI (T:Txt K mg t) (yM:FnOk P w K mg base CX0 (2) t.ycy t.ycz ["self"] (spE (yV K t) 1 ybe)) (ynP:FnOk P w K mg base CX0 (2) t.ykY t.ykZ ["text"] (spE (yV K t) 1 yiv)):FnOk P w K mg base CX0 (2+1) t.yds t.ydt ["self"] (spE (yV K t) 1 ycg):=by
 have fa:=T.fa
 exact zfn T.ymm yeA fun cdv Ar outer sh H E hr=>(ye (yD (i:=1) yeA.nd rfl (Or.inl rfl) (ybJ (z_v 0 yk) (T.cl 10) T.yeZ yM (hr.mono (by omega)) T.yfQ rfl) rfl (Or.inl rfl)) (ye (yD (i:=2) yeA.nd rfl (Or.inl rfl) (yC ynP (hr.mono (by omega)) ywP rfl T.yyA T.yrG.kp T.yyz (ya (z_v 1 ydD) yf rfl) rfl rfl) rfl (Or.inl rfl)) (ye (ybr (yB yBw yHP (z_v 2 ymz) yvM (yx _)) (yi yhR) yv) (yi (yl (z_v 2 ymz))))))
theorem ylJ (T:Txt K mg t) (yo:FnOk P w K mg base CX0 (3) t.ybS t.ybT ["self"] (spE (yV K t) 1 yr)) (ybX:FnOk P w K mg base CX0 (1) t.ydN t.ydO ["self","word","slot","one","other"] (spI (yV K t) 4 2 ycB)):FnOk P w K mg base CX0 (3+1) t.ydu t.ydv ["self","word"] (spE (yV K t) 2 ych):=by
 have fa:=T.fa
 exact zfn T.ymo ycP fun cdv Ar outer sh H E hr=>(ye (yD (i:=2) ycP.nd rfl (Or.inl rfl) (ybJ (z_v 0 yk) (T.cl 10) T.yE yo (hr.mono (by omega)) T.yJ rfl) rfl (Or.inl rfl)) (ye (yD (i:=3) ycP.nd rfl (Or.inl rfl) (ybJ (z_v 0 yk) (T.cl 10) T.yE yo (hr.mono (by omega)) T.yJ rfl) rfl (Or.inl rfl)) (ye (yD (i:=4) ycP.nd rfl (Or.inl rfl) (ybJ (z_v 0 yk) (T.cl 10) T.yE yo (hr.mono (by omega)) T.yJ rfl) rfl (Or.inl rfl)) (yi (yl (yez (yhj T.mk_Reckon ybX (hr.mono (by omega)) yrR rfl T.m_Reckon T.ykm (ya (z_v 1 ydD) (ya (z_v 2 yhE) (ya (z_v 3 yGM) (ya (z_v 4 yzE) yf rfl) rfl) rfl) rfl) rfl rfl)))))))
theorem ymB (T:Txt K mg t) (ydF:FnOk P w K mg base CX0 (1) t.yfJ t.yfK ["self","slot","number"] (spI (yV K t) 2 1 yeu)) (ydG:FnOk P w K mg base CX0 (1) t.yfL t.yfM ["self","place","slot"] (spI (yV K t) 2 4 yev)) (ybF:FnOk P w K mg base CX0 (3) t.ycI t.ycJ ["self"] (spE (yV K t) 1 ybB)) (yfc:FnOk P w K mg base CX0 (3) t.yds t.ydt ["self"] (spE (yV K t) 1 ycg)) (yfd:FnOk P w K mg base CX0 (4) t.ydu t.ydv ["self","word"] (spE (yV K t) 2 ych)) (yo:FnOk P w K mg base CX0 (3) t.ybS t.ybT ["self"] (spE (yV K t) 1 yr)) (ycL:FnOk P w K mg base CX0 (1) t.yeQ t.yeR ["self","slot","place"] (spI (yV K t) 2 3 ydM)) (ycm:FnOk P w K mg base CX0 (1) t.yes t.yet ["self","name","slot"] (spI (yV K t) 2 8 ycW)) (ysf:FnOk P w K mg base CX0 (1) t.yot t.you ["text"] (spE (yV K t) 1 yoj)):FnOk P w K mg base CX0 (4+1) t.ydH t.ydI ["self","word"] (spE (yV K t) 2 ycp):=by
 have fa:=T.fa
 exact zfn T.ymY yci fun cdv Ar outer sh H E hr=>(ye (ybr (yB ycS yja (z_v 1 ydD) z_str (yx _)) (ye (yD (i:=2) yci.nd rfl (Or.inl rfl) (ybJ (z_v 0 yk) (T.cl 10) T.yE yo (hr.mono (by omega)) T.yJ rfl) rfl (Or.inl rfl)) (yi (yl (yez (yhj T.mk_Let ydF (hr.mono (by omega)) yDr rfl T.m_Let T.yng (ya (z_v 2 yhE) (ya (ybJ (z_v 0 yk) (T.cl 10) T.ylF yfc (hr.mono (by omega)) T.ymn rfl) yf rfl) rfl) rfl rfl))))) yv) (ye (ybr (yB ycS yja (z_v 1 ydD) z_str (yx _)) (ye (yD (i:=2) yci.nd rfl (Or.inl rfl) (ybJ (z_v 0 yk) (T.cl 10) T.yE yo (hr.mono (by omega)) T.yJ rfl) rfl (Or.inl rfl)) (yi (yl (yez (yhj T.mk_Take ycL (hr.mono (by omega)) yyF rfl T.m_Take T.ymj (ya (z_v 2 yhE) (ya (ybJ (z_v 0 yk) (T.cl 10) T.yE yo (hr.mono (by omega)) T.yJ rfl) yf rfl) rfl) rfl rfl))))) yv) (ye (ybr (yB ycS yja (z_v 1 ydD) z_str (yx _)) (ye (yD (i:=3) yci.nd rfl (Or.inl rfl) (ybJ (z_v 0 yk) (T.cl 10) T.yE yo (hr.mono (by omega)) T.yJ rfl) rfl (Or.inl rfl)) (yi (yl (yez (yhj T.mk_Put ydG (hr.mono (by omega)) yDs rfl T.m_Put T.ynh (ya (z_v 3 yuJ) (ya (ybJ (z_v 0 yk) (T.cl 10) T.yE yo (hr.mono (by omega)) T.yJ rfl) yf rfl) rfl) rfl rfl))))) yv) (ye (ybr (yB ycS yja (z_v 1 ydD) z_str (yx _)) (ye (yD (i:=4) yci.nd rfl (Or.inl rfl) (ybJ (z_v 0 yk) (T.cl 10) T.yhL ybF (hr.mono (by omega)) T.yiE rfl) rfl (Or.inl rfl)) (yi (yl (yez (yhj T.mk_Throw ycm (hr.mono (by omega)) yuE rfl T.m_Throw T.ylD (ya (z_v 4 yuI) (ya (ybJ (z_v 0 yk) (T.cl 10) T.yE yo (hr.mono (by omega)) T.yJ rfl) yf rfl) rfl) rfl rfl))))) yv) (ye (ybr (yB ycS yja (z_v 1 ydD) z_str (yx _)) (yi (yl (yez (yxI T.mk_Wait T.io_Wait T.kp_Wait yuF rfl T.m_Wait)))) yv) (ye (ybr (yis (yC ysf (hr.mono (by omega)) yAT rfl T.yDm T.ywC.kp T.yDl (ya (z_v 1 ydD) yf rfl) rfl rfl) (fun _=>rfl)) (yi (yl (ydA (z_v 0 yk) (T.cl 10) T.ylH yfd (hr.mono (by omega)) T.ymp (ya (z_v 1 ydD) yf rfl) rfl rfl rfl))) yv) (yi yhR)))))))
structure yPt (P:Program) (w:World) (K:PySem.W.Frag) (mg:Str->Option Value) (base:Heap) (t:Ads) (n:Nat):Prop where
 yiM:FnOk P w K mg base CX0 (n+6) t.yem t.yen ["self","around"] (spE (yV K t) 2 (ybR n))
 yiN:FnOk P w K mg base CX0 (n+6) t.yfT t.yfU ["self","around"] (spE (yV K t) 2 (yX n))
 yiO:FnOk P w K mg base CX0 (n+6) t.yfV t.yfW ["self","around"] (spE (yV K t) 2 (yS n))
 yks:FnOk P w K mg base CX0 (n+6) t.ygT t.ygU ["self","around"] (spE (yV K t) 2 (yfh n))
 yhB:FnOk P w K mg base CX0 (n+6) t.yeS t.yeT ["self","around"] (spE (yV K t) 2 (ydc n))
 yjJ:FnOk P w K mg base CX0 (n+6) t.ygC t.ygD ["self","around"] (spE (yV K t) 2 (yeG n))
theorem yDC (T:Txt K mg t) (ybI:FnOk P w K mg base CX0 (1) t.ydP t.ydQ ["self","parts","others"] (spI (yV K t) 2 6 ybH)) (ydx:FnOk P w K mg base CX0 (1) t.ygA t.ygB ["self","slot","parts","others"] (spI (yV K t) 3 5 yda)) (ybs:FnOk P w K mg base CX0 (1) t.yew t.yex ["self"] (spE (yV K t) 1 yU)) (ybF:FnOk P w K mg base CX0 (3) t.ycI t.ycJ ["self"] (spE (yV K t) 1 ybB)) (ybp:FnOk P w K mg base CX0 (3) t.yeI t.yeJ ["self","wanted"] (spE (yV K t) 2 yN)) (ydJ:FnOk P w K mg base CX0 (5) t.ydH t.ydI ["self","word"] (spE (yV K t) 2 ycp)) (yo:FnOk P w K mg base CX0 (3) t.ybS t.ybT ["self"] (spE (yV K t) 1 yr)) (yM:FnOk P w K mg base CX0 (2) t.ycy t.ycz ["self"] (spE (yV K t) 1 ybe)) (ycA:FnOk P w K mg base CX0 (1) t.yfN t.yfO ["self","parts","name","slot","others"] (spI (yV K t) 4 7 ycx)) :∀ n,yPt P w K mg base t n
 | 0=>⟨ycV,ycV,ycV,ycV,ycV,ycV⟩
 | n+1=>by
  have fa:=T.fa
  have I:=yDC T ybI ydx ybs ybF ybp ydJ yo yM ycA n
  have ycM:=I.yiM
  have ybG:=I.yiN
  have yga:=I.yiO
  have ykt:=I.yks
  have yhC:=I.yhB
  have yjK:=I.yjJ
  exact ⟨zfn T.ynF yhI fun cdv Ar outer sh H E hr=>(ye (ybr (yxH (ytM (yB yBw yHP (ybJ (z_v 0 yk) (T.cl 10) T.yeY ybs (hr.mono (by omega)) T.yfP rfl) yvM (yx _)) (yog (yB ycS yja (ybJ (z_v 0 yk) (T.cl 10) T.yeY ybs (hr.mono (by omega)) T.yfP rfl) z_str (yx _))))) (yi (yl (yez (yeK yf)))) yv) (ye (yCv (i:=2) yhI.nd rfl (Or.inl rfl) (yeK (ya (ydA (z_v 0 yk) (T.cl 10) T.yhN yga (hr.mono (by omega)) T.yiG (ya (z_v 1 ydR) yf rfl) rfl rfl rfl) yf rfl)) rfl (Or.inl rfl)) (ye (yFe 100 PassesOwn.never (yB ycS yja (ybJ (z_v 0 yk) (T.cl 10) T.yeY ybs (hr.mono (by omega)) T.yfP rfl) z_str (yx _)) (ye (ylP (ydA (z_v 0 yk) (T.cl 10) T.ybV ybp (hr.mono (by omega)) T.yck (ya z_str yf rfl) rfl rfl rfl) rfl) (yi (yvN (ycX (i:=2) rfl (Or.inl rfl) yfu.d yfu.c) (ydA (z_v 0 yk) (T.cl 10) T.yhN yga (hr.mono (by omega)) T.yiG (ya (z_v 1 ydR) yf rfl) rfl rfl rfl) rfl rfl rfl rfl rfl rfl)))) (yCw 2 (yi (yl (z_v 2 yfu))))))),
   zfn T.ynG yhJ fun cdv Ar outer sh H E hr=>(ye (ylP (ydA (z_v 0 yk) (T.cl 10) T.ybV ybp (hr.mono (by omega)) T.yck (ya z_str yf rfl) rfl rfl rfl) rfl) (ye (yD (i:=2) yhJ.nd rfl (Or.inl rfl) (ydA (z_v 0 yk) (T.cl 10) T.yhM ycM (hr.mono (by omega)) T.yiF (ya (z_v 1 ydR) yf rfl) rfl rfl rfl) rfl (Or.inl rfl)) (ye (ylP (ydA (z_v 0 yk) (T.cl 10) T.ybV ybp (hr.mono (by omega)) T.yck (ya z_str yf rfl) rfl rfl rfl) rfl) (yi (yl (z_v 2 yfu)))))),
   zfn T.ynH yhK fun cdv Ar outer sh H E hr=>(ye (ybr (yB yBu yKk (z_v 1 ydR) (yCr ysK rfl T.m_MOST_AROUND) (yx _)) (yi yhR) yv) (ye (yD (i:=2) yhK.nd rfl (Or.inl rfl) (ybJ (z_v 0 yk) (T.cl 10) T.yeZ yM (hr.mono (by omega)) T.yfQ rfl) rfl (Or.inl rfl)) (ye (ybr (yB ycS yja (z_v 2 ydD) z_str (yx _)) (yi (yl (ydA (z_v 0 yk) (T.cl 10) T.yoI ykt (hr.mono (by omega)) T.ypJ (ya (ycZ yfE yjP (z_v 1 ydR) z_int) yf rfl) rfl rfl rfl))) yv) (ye (ybr (yB ycS yja (z_v 2 ydD) z_str (yx _)) (yi (yl (ydA (z_v 0 yk) (T.cl 10) T.ylG yhC (hr.mono (by omega)) T.ymr (ya (ycZ yfE yjP (z_v 1 ydR) z_int) yf rfl) rfl rfl rfl))) yv) (ye (ybr (yB ycS yja (z_v 2 ydD) z_str (yx _)) (yi (yl (ydA (z_v 0 yk) (T.cl 10) T.ynL yjK (hr.mono (by omega)) T.yoE (ya (ycZ yfE yjP (z_v 1 ydR) z_int) yf rfl) rfl rfl rfl))) yv) (yi (yl (ydA (z_v 0 yk) (T.cl 10) T.ymw ydJ (hr.mono (by omega)) T.ymZ (ya (z_v 2 ydD) yf rfl) rfl rfl rfl)))))))),
   zfn T.ypI yeH fun cdv Ar outer sh H E hr=>(ye (yD (i:=2) yeH.nd rfl (Or.inl rfl) (ybJ (z_v 0 yk) (T.cl 10) T.yE yo (hr.mono (by omega)) T.yJ rfl) rfl (Or.inl rfl)) (ye (yD (i:=3) yeH.nd rfl (Or.inl rfl) (ydA (z_v 0 yk) (T.cl 10) T.ybO ybG (hr.mono (by omega)) T.ybU (ya (z_v 1 ydR) yf rfl) rfl rfl rfl) rfl (Or.inl rfl)) (ye (ylP (ydA (z_v 0 yk) (T.cl 10) T.ybV ybp (hr.mono (by omega)) T.yck (ya z_str yf rfl) rfl rfl rfl) rfl) (ye (yD (i:=4) yeH.nd rfl (Or.inl rfl) (ydA (z_v 0 yk) (T.cl 10) T.ybO ybG (hr.mono (by omega)) T.ybU (ya (z_v 1 ydR) yf rfl) rfl rfl rfl) rfl (Or.inl rfl)) (yi (yl (yez (yhj T.mk_If ydx (hr.mono (by omega)) yIR rfl T.m_If T.yoB (ya (z_v 2 yhE) (ya (z_v 3 yfu) (ya (z_v 4 ykr) yf rfl) rfl) rfl) rfl rfl)))))))),
   zfn T.ymq yeB fun cdv Ar outer sh H E hr=>(ye (yD (i:=2) yeB.nd rfl (Or.inl rfl) (ydA (z_v 0 yk) (T.cl 10) T.ybO ybG (hr.mono (by omega)) T.ybU (ya (z_v 1 ydR) yf rfl) rfl rfl rfl) rfl (Or.inl rfl)) (ye (ylP (ydA (z_v 0 yk) (T.cl 10) T.ybV ybp (hr.mono (by omega)) T.yck (ya z_str yf rfl) rfl rfl rfl) rfl) (ye (yD (i:=3) yeB.nd rfl (Or.inl rfl) (ydA (z_v 0 yk) (T.cl 10) T.ybO ybG (hr.mono (by omega)) T.ybU (ya (z_v 1 ydR) yf rfl) rfl rfl rfl) rfl (Or.inl rfl)) (yi (yl (yez (yhj T.mk_Either ybI (hr.mono (by omega)) yrQ rfl T.m_Either T.ykn (ya (z_v 2 yfu) (ya (z_v 3 ykr) yf rfl) rfl) rfl rfl))))))),
   zfn T.yoD ycH fun cdv Ar outer sh H E hr=>(ye (yD (i:=2) ycH.nd rfl (Or.inl rfl) (ydA (z_v 0 yk) (T.cl 10) T.ybO ybG (hr.mono (by omega)) T.ybU (ya (z_v 1 ydR) yf rfl) rfl rfl rfl) rfl (Or.inl rfl)) (ye (ylP (ydA (z_v 0 yk) (T.cl 10) T.ybV ybp (hr.mono (by omega)) T.yck (ya z_str yf rfl) rfl rfl rfl) rfl) (ye (yD (i:=3) ycH.nd rfl (Or.inl rfl) (ybJ (z_v 0 yk) (T.cl 10) T.yhL ybF (hr.mono (by omega)) T.yiE rfl) rfl (Or.inl rfl)) (ye (yD (i:=4) ycH.nd rfl (Or.inl rfl) (ybJ (z_v 0 yk) (T.cl 10) T.yE yo (hr.mono (by omega)) T.yJ rfl) rfl (Or.inl rfl)) (ye (yD (i:=5) ycH.nd rfl (Or.inl rfl) (ydA (z_v 0 yk) (T.cl 10) T.ybO ybG (hr.mono (by omega)) T.ybU (ya (z_v 1 ydR) yf rfl) rfl rfl rfl) rfl (Or.inl rfl)) (yi (yl (yez (yhj T.mk_Try ycA (hr.mono (by omega)) yDu rfl T.m_Try T.yni (ya (z_v 2 yfu) (ya (z_v 3 yuI) (ya (z_v 4 yhE) (ya (z_v 5 ykr) yf rfl) rfl) rfl) rfl) rfl rfl)))))))))⟩
theorem yIX (T:Txt K mg t) (ygZ:FnOk P w K mg base CX0 (1) t.yfr t.yfs ["self","words"] (spI (yV K t) 1 10 yfg)) (ybs:FnOk P w K mg base CX0 (1) t.yew t.yex ["self"] (spE (yV K t) 1 yU)) (ycM:FnOk P w K mg base CX0 (51) t.yem t.yen ["self","around"] (spE (yV K t) 2 (ybR 45))) (ydE:FnOk P w K mg base CX0 (46) t.ykU t.ykV ["parts"] (spE (yV K t) 1 (ycE 45))) (ypN:FnOk P w K mg base CX0 (1) t.ymU t.ymV ["text"] (spE (yV K t) 1 ykg)):FnOk P w K mg base CX0 (51+1) t.a_read t.d_read ["text"] (spE (yV K t) 1 yvV):=by
 have fa:=T.fa
 exact zfn T.F_read sc_read fun cdv Ar outer sh H E hr=>(ye (yD (i:=1) sc_read.nd rfl (Or.inl rfl) (yKV (yhj T.mk_Reader ygZ (hr.mono (by omega)) yDt rfl T.m_Reader T.ypH (ya (yC ypN (hr.mono (by omega)) yyH rfl T.yAN T.ytr.kp T.yAM (ya (z_v 0 ygE) yf rfl) rfl rfl) yf rfl) rfl rfl)) rfl (Or.inl rfl)) (ye (yD (i:=2) sc_read.nd rfl (Or.inl rfl) (ydA (z_v 1 ywQ) (T.cl 10) T.yhM ycM (hr.mono (by omega)) T.yiF (ya z_int yf rfl) rfl rfl rfl) rfl (Or.inl rfl)) (ye (ybr (yB yGV yKl (ybJ (z_v 1 ywQ) (T.cl 10) T.yeY ybs (hr.mono (by omega)) T.yfP rfl) yvM (yx _)) (yi yhR) yv) (ye (ybr (yB yBu yKk (ycZ yfE yjP (yC ydE (hr.mono (by omega)) yfa rfl T.yfY T.yeW.kp T.yfX (ya (z_v 2 yyG) yf rfl) rfl rfl) z_int) (yCr ywL rfl T.m_MOST_ROWS) (yx _)) (yi yhR) yv) (yi (yl (z_v 2 yyG)))))))
theorem yAZ (T:Txt K mg t) (yhA:FnOk P w K mg base CX0 (46) t.yjs t.yjt ["parts"] (spE (yV K t) 1 (ygf 45))):FnOk P w K mg base CX0 (46+1) t.yoz t.yoA ["deed"] (spE (yV K t) 1 ykh):=by
 have fa:=T.fa
 exact zfn T.yrH yAC fun cdv Ar outer sh H E hr=>(yi (yl (yC yhA (hr.mono (by omega)) yoP rfl T.ypT T.ymk.kp T.ypS (ya (z_v 0 yyG) yf rfl) rfl rfl)))
theorem yuQ (T:Txt K mg t) :FnOk P w K mg base CX0 (0+1) t.yju t.yjv ["_law_found"] (spE (yV K t) 1 yhl):=by
 have fa:=T.fa
 exact zfn T.ypW yup fun cdv Ar outer sh H E hr=>(yi (yl (yso (ynn ybL (yoe (K:=ckX _ _) fa.isa) ybo rfl T.z_isinstance ybj (ya (z_v 0 ybn) (ya (yFb yzC rfl T.z_int yyT) yf rfl) rfl) rfl rfl) (ytL (yNK (ynn ybL (yoe (K:=ckX _ _) fa.isa) ybo rfl T.z_isinstance ybj (ya (z_v 0 ybn) (ya (yFb yIU rfl T.z_bool yHp) yf rfl) rfl) rfl rfl))))))
theorem ywX (T:Txt K mg t) :FnOk P w K mg base CX0 (0+1) t.yiA t.yiB ["_law_cell"] (spE (yV K t) 1 yfR):=by
 have fa:=T.fa
 exact zfn T.ynI ydr fun cdv Ar outer sh H E hr=>(ye (ybr (yB ycS yja (ycZ yeL yio (z_v 0 yy) z_int) z_int (yx _)) (yi (yl (ydS ygN ypa (yez (yeK (ya z_str (ya z_str (ya z_str (ya z_str (ya z_str (ya z_str (ya z_str (ya z_str yf rfl) rfl) rfl) rfl) rfl) rfl) rfl) rfl))) (ycZ yeL yio (ycZ ycR yiZ (z_v 0 yy) z_int) z_int) (fun _ _=>rfl)))) yv) (ye (yD (i:=1) ydr.nd rfl (Or.inl rfl) z_str rfl (Or.inl rfl)) (ye (yD (i:=2) ydr.nd rfl (Or.inl rfl) (ycZ yfE yjP z_int (ycZ yeL yio (ycZ ycR yiZ (z_v 0 yy) z_int) z_int)) rfl (Or.inl rfl)) (ye (yD (i:=3) ydr.nd rfl (Or.inl rfl) (ycZ yeL yio (ycZ ycR yiZ (z_v 0 yy) z_int) (z_v 2 yqg)) rfl (Or.inl rfl)) (ye (yD (i:=4) ydr.nd rfl (Or.inl rfl) z_str rfl (Or.inl rfl)) (ye (yqW PassesOwn.never rfl (yCu rfl T.z_range (ya (z_v 2 yqg) yf rfl) rfl) (yky (i:=5) ydr.nd rfl (Or.inl rfl) (Or.inl rfl)) (ye (yD (i:=6) ydr.nd rfl (Or.inl rfl) (ycZ yfE yjP (ycZ ycR yiZ (z_v 0 yy) z_int) (ycZ yuZ yCe (z_v 5 yoK) (z_v 5 yoK))) rfl (Or.inl rfl)) (ye (ybr (yB ycS yja (z_v 5 yoK) (z_v 3 yAQ) (yx _)) (yi (yD (i:=6) ydr.nd rfl (Or.inl rfl) (ycZ yfE yjP (z_v 6 yqf) (ycZ ycR yiZ (z_v 0 yy) z_int)) rfl (Or.inl rfl))) yv) (yi (yD (i:=4) ydr.nd rfl (Or.inl rfl) (ycZ ydL ylN (z_v 4 ykq) (ydS yBF yHR (z_v 1 yrS) (ycZ yeL yio (z_v 6 yqf) z_int) (fun _ _=>rfl))) rfl (Or.inl rfl))))) (fun _=>rfl)) (yi (yl (z_v 4 ykq)))))))))
theorem ywY (T:Txt K mg t) :FnOk P w K mg base CX0 (0+1) t.yiC t.yiD ["_law_number_here"] (spE (yV K t) 1 ydB):=by
 have fa:=T.fa
 exact zfn T.ygX yws fun cdv Ar outer sh H E hr=>(yi (yl (ydS yBF yHR z_str (ycZ yeL yio (z_v 0 ycK) z_int) (fun _ _=>rfl))))
theorem ysS (T:Txt K mg t) :FnOk P w K mg base CX0 (0+1) t.yhZ t.yia ["_law_cell"] (spE (yV K t) 1 ygo):=by
 have fa:=T.fa
 exact zfn T.yoF ysw fun cdv Ar outer sh H E hr=>(ye (ybr (yB ycS yja (ycZ yeL yio (z_v 0 yy) z_int) z_int (yx _)) (yi (yl (ycZ yeL yio (ycZ ycR yiZ (z_v 0 yy) z_int) z_int))) yv) (ye (ybr (yB ycS yja (ycZ yeL yio (z_v 0 yy) z_int) z_int (yx _)) (yi (yl (ycZ yyP yEG (ycZ yyP yEG (ycZ yBq yHO z_int z_int) z_int) (ycZ yeL yio (ycZ ycR yiZ (z_v 0 yy) z_int) z_int)))) yv) (yi (yl (ycZ yeL yio (ycZ ycR yiZ (z_v 0 yy) z_int) (ycZ yBq yHO z_int z_int))))))
theorem yuR (T:Txt K mg t) (yha:FnOk P w K mg base CX0 (1) t.yiA t.yiB ["_law_cell"] (spE (yV K t) 1 yfR)) (ylu:FnOk P w K mg base CX0 (1) t.yhZ t.yia ["_law_cell"] (spE (yV K t) 1 ygo)) (yer:FnOk P w K mg base CX0 (1) t.yiC t.yiD ["_law_number_here"] (spE (yV K t) 1 ydB)):FnOk P w K mg base CX0 (1+1) t.yjw t.yjx ["_law_cell"] (spE (yV K t) 1 yhm):=by
 have fa:=T.fa
 exact zfn T.ypX ygx fun cdv Ar outer sh H E hr=>(ye (yD (i:=1) ygx.nd rfl (Or.inl rfl) (ycZ yeL yio (z_v 0 yy) z_int) rfl (Or.inl rfl)) (ye (yD (i:=2) ygx.nd rfl (Or.inl rfl) (ycZ yeL yio (ycZ yuZ yCe (ycZ ycR yiZ (z_v 0 yy) z_int) z_int) z_int) rfl (Or.inl rfl)) (ye (yD (i:=3) ygx.nd rfl (Or.inl rfl) (yC yer (hr.mono (by omega)) yhz rfl T.yiI T.ygX.kp T.yiH (ya (z_v 2 ydw) yf rfl) rfl rfl) rfl (Or.inl rfl)) (ye (yD (i:=4) ygx.nd rfl (Or.inl rfl) (yC yer (hr.mono (by omega)) yhz rfl T.yiI T.ygX.kp T.yiH (ya (ycZ ycR yiZ (z_v 2 ydw) z_int) yf rfl) rfl rfl) rfl (Or.inl rfl)) (ye (ybr (yB yzK yJc (z_v 1 yfZ) z_int (yx _)) (yi (yl (yqp (ya z_str (ya (z_v 3 yeo) (ya (yC ylu (hr.mono (by omega)) ysL rfl T.yuz T.yoF.kp T.yuy (ya (ycZ ycR yiZ (z_v 0 yy) z_int) yf rfl) rfl rfl) yf rfl) rfl) rfl)))) yv) (ye (ybr (yB yzK yJc (z_v 1 yfZ) z_int (yx _)) (yi (yl (yqp (ya (ydS ygN ypa (yez (yeK (ya z_str (ya z_str (ya z_str (ya z_str (ya z_str yf rfl) rfl) rfl) rfl) rfl))) (ycZ yeL yio (ycZ ycR yiZ (z_v 2 ydw) z_int) z_int) (fun _ _=>rfl)) (ya (z_v 3 yeo) (ya (z_v 4 yep) (ya (yC yer (hr.mono (by omega)) yhz rfl T.yiI T.ygX.kp T.yiH (ya (ycZ ycR yiZ (z_v 2 ydw) z_int) yf rfl) rfl rfl) yf rfl) rfl) rfl) rfl)))) yv) (ye (ybr (yB yzK yJc (z_v 1 yfZ) z_int (yx _)) (yi (yl (yqp (ya z_str (ya (z_v 3 yeo) (ya (z_v 4 yep) yf rfl) rfl) rfl)))) yv) (ye (ybr (yB yzK yJc (z_v 1 yfZ) z_int (yx _)) (yi (yl (yqp (ya z_str (ya (z_v 3 yeo) (ya (z_v 4 yep) yf rfl) rfl) rfl)))) yv) (ye (ybr (yB ycS yja (z_v 1 yfZ) z_int (yx _)) (yi (yl (yqp (ya z_str (ya (yC yha (hr.mono (by omega)) yqe rfl T.yrJ T.ynI.kp T.yrI (ya (ycZ ycR yiZ (z_v 0 yy) z_int) yf rfl) rfl rfl) (ya (z_v 3 yeo) yf rfl) rfl) rfl)))) yv) (yi (yl (yqp (ya z_str yf rfl)))))))))))))
theorem yuS (T:Txt K mg t) (yha:FnOk P w K mg base CX0 (1) t.yiA t.yiB ["_law_cell"] (spE (yV K t) 1 yfR)) (yer:FnOk P w K mg base CX0 (1) t.yiC t.yiD ["_law_number_here"] (spE (yV K t) 1 ydB)):FnOk P w K mg base CX0 (1+1) t.yhu t.yhv ["_law_cell","_law_one","_law_other"] (spE (yV K t) 3 ydd):=by
 have fa:=T.fa
 exact zfn T.yms yhU fun cdv Ar outer sh H E hr=>(ye (yD (i:=3) yhU.nd rfl (Or.inl rfl) (ycZ yeL yio (ycZ yuZ yCe (z_v 0 yy) z_int) z_int) rfl (Or.inl rfl)) (ye (ybr (yB ycS yja (ycZ yeL yio (z_v 3 ydw) z_int) z_int (yx _)) (yi (yLd (i:=1) (j:=2) rfl yhU.nd rfl rfl (by decide) rfl rfl (ya (z_v 2 yep) (ya (z_v 1 yeo) yf rfl) rfl) rfl rfl)) yv) (ye (yD (i:=4) yhU.nd rfl (Or.inl rfl) (ycZ yeL yio (ycZ ycR yiZ (z_v 3 ydw) z_int) z_int) rfl (Or.inl rfl)) (ye (ybr (yB ycS yja (z_v 4 yfZ) z_int (yx _)) (yi (yl (yqp (ya z_str (ya (yC yer (hr.mono (by omega)) yhz rfl T.yiI T.ygX.kp T.yiH (ya (ycZ ycR yiZ (z_v 3 ydw) z_int) yf rfl) rfl rfl) (ya (z_v 1 yeo) (ya (z_v 2 yep) yf rfl) rfl) rfl) rfl)))) yv) (ye (ybr (yB ycS yja (z_v 4 yfZ) z_int (yx _)) (yi (yl (yqp (ya z_str (ya (z_v 1 yeo) (ya (z_v 2 yep) yf rfl) rfl) rfl)))) yv) (yi (yl (yqp (ya z_str (ya (z_v 1 yeo) (ya (yC yha (hr.mono (by omega)) yqe rfl T.yrJ T.ynI.kp T.yrI (ya (z_v 0 yy) yf rfl) rfl rfl) (ya (yC yer (hr.mono (by omega)) yhz rfl T.yiI T.ygX.kp T.yiH (ya (ycZ ycR yiZ (z_v 3 ydw) z_int) yf rfl) rfl rfl) (ya (z_v 2 yep) yf rfl) rfl) rfl) rfl) rfl)))))))))
theorem yuT (T:Txt K mg t) :FnOk P w K mg base CX0 (0+1) t.yeU t.yeV ["_law_part"] (spE (yV K t) 1 yH):=by
 have fa:=T.fa
 exact zfn T.yhy yuq fun cdv Ar outer sh H E hr=>(ye (ybr (yB ycS yja (ydS yF yby (z_v 0 yd) z_int (fun _ _=>rfl)) z_str (yx _)) (yi (yl (yez (yeK (ya (ydS yF yby (z_v 0 yd) z_int (fun _ _=>rfl)) (ya (ydS yF yby (z_v 0 yd) z_int (fun _ _=>rfl)) yf rfl) rfl))))) yv) (ye (ybr (yB ycS yja (ydS yF yby (z_v 0 yd) z_int (fun _ _=>rfl)) z_str (yx _)) (yi (yl (yez (yeK (ya (ydS yF yby (z_v 0 yd) z_int (fun _ _=>rfl)) (ya (ydS yF yby (z_v 0 yd) z_int (fun _ _=>rfl)) yf rfl) rfl))))) yv) (ye (ybr (yB ycS yja (ydS yF yby (z_v 0 yd) z_int (fun _ _=>rfl)) z_str (yx _)) (yi (yl (yez (yeK (ya (ydS yF yby (z_v 0 yd) z_int (fun _ _=>rfl)) (ya (ydS yF yby (z_v 0 yd) z_int (fun _ _=>rfl)) yf rfl) rfl))))) yv) (yi (yl (yez (yeK yf)))))))
structure yPu (P:Program) (w:World) (K:PySem.W.Frag) (mg:Str->Option Value) (base:Heap) (t:Ads) (n:Nat):Prop where
 yqk:FnOk P w K mg base CX0 (n+2) t.yhw t.yhx ["_law_parts"] (spE (yV K t) 1 (ybP n))
theorem yDD (T:Txt K mg t) (ybg:FnOk P w K mg base CX0 (1) t.yeU t.yeV ["_law_part"] (spE (yV K t) 1 yH)) :∀ n,yPu P w K mg base t n
 | 0=>⟨ycV⟩
 | n+1=>by
  have fa:=T.fa
  have I:=yDD T ybg n
  have ydT:=I.yqk
  exact ⟨zfn T.yjC yfq fun cdv Ar outer sh H E hr=>(ye (yD (i:=1) yfq.nd rfl (Or.inl rfl) (yPg yJH yMM z_int) rfl (Or.inl rfl)) (ye (yqW PassesOwn.never rfl (yhD (z_v 0 yu)) (yky (i:=2) yfq.nd rfl (Or.inl rfl) (Or.inl rfl)) (ye (yqW PassesOwn.never rfl (yhD (yC ybg (hr.mono (by omega)) yif rfl T.yjB T.yhy.kp T.yjA (ya (z_v 2 yd) yf rfl) rfl rfl)) (yky (i:=3) yfq.nd rfl (Or.inl rfl) (Or.inl rfl)) (yi (yD (i:=1) yfq.nd rfl (Or.inl rfl) (ynn (ynW rfl) yzc yzD rfl T.z_max yzk (ya (z_v 1 ybn) (ya (ycZ yfE yjP z_int (yC ydT (hr.mono (by omega)) yln rfl T.ymu T.yjC.kp T.ymt (ya (z_v 3 ymy) yf rfl) rfl rfl)) yf rfl) rfl) rfl rfl) rfl (Or.inl rfl))) (fun _=>rfl)) (yi (yD (i:=1) yfq.nd rfl (Or.inl rfl) (ynn (ynW rfl) yzc yzD rfl T.z_max yzk (ya (z_v 1 ybn) (ya z_int yf rfl) rfl) rfl rfl) rfl (Or.inl rfl)))) (fun _=>rfl)) (yi (yl (z_v 1 ybn)))))⟩
structure yPv (P:Program) (w:World) (K:PySem.W.Frag) (mg:Str->Option Value) (base:Heap) (t:Ads) (n:Nat):Prop where
 ysg:FnOk P w K mg base CX0 (n+2) t.ygV t.ygW ["_law_parts"] (spE (yV K t) 1 (ybC n))
theorem yDE (T:Txt K mg t) (ybg:FnOk P w K mg base CX0 (1) t.yeU t.yeV ["_law_part"] (spE (yV K t) 1 yH)) :∀ n,yPv P w K mg base t n
 | 0=>⟨ycV⟩
 | n+1=>by
  have fa:=T.fa
  have I:=yDE T ybg n
  have ycN:=I.ysg
  exact ⟨zfn T.yiJ yhq fun cdv Ar outer sh H E hr=>(ye (yD (i:=1) yhq.nd rfl (Or.inl rfl) z_int rfl (Or.inl rfl)) (ye (yqW PassesOwn.never rfl (yhD (z_v 0 yu)) (yky (i:=2) yhq.nd rfl (Or.inl rfl) (Or.inl rfl)) (ye (yD (i:=1) yhq.nd rfl (Or.inl rfl) (ycZ yfE yjP (ycZ yfE yjP (z_v 1 ymx) z_int) (ynn (yty rfl) yHS yDx rfl T.z_sum yBL (ya (yez (ypP [] [] rfl (yhD (yC ybg (hr.mono (by omega)) yif rfl T.yjB T.yhy.kp T.yjA (ya (z_v 2 yd) yf rfl) rfl rfl)) True.intro (fun _ _ _ _ _ _=>(yC ycN (hr.mono (by omega)) yjD rfl T.ylk T.yiJ.kp T.ylj (ya (z_v 0 ymy) yf rfl) rfl rfl)) (by rfl') rfl (by rfl') (by rfl') (by rfl') rfl (fun _=>rfl))) yf rfl) rfl rfl)) rfl (Or.inl rfl)) (yi (yD (i:=1) yhq.nd rfl (Or.inl rfl) (ycZ yfE yjP (ycZ yfE yjP (z_v 1 ymx) (yCt yvb yGq yzC rfl T.z_int yyT (ya (yqo yqH yES (ydS yF yby (z_v 2 yd) z_int (fun _ _=>rfl)) (yqp (ya z_str (ya z_str (ya z_str yf rfl) rfl) rfl)) (by with_unfolding_all rfl)) yf rfl) rfl rfl)) (yCt yvb yGq yzC rfl T.z_int yyT (ya (yqo yqH yES (ydS yF yby (z_v 2 yd) z_int (fun _ _=>rfl)) (yqp (ya z_str (ya z_str yf rfl) rfl)) (by with_unfolding_all rfl)) yf rfl) rfl rfl)) rfl (Or.inl rfl)))) (fun _=>rfl)) (yi (yl (z_v 1 ymx)))))⟩
theorem ywZ (T:Txt K mg t) (ycN:FnOk P w K mg base CX0 (17) t.ygV t.ygW ["_law_parts"] (spE (yV K t) 1 (ybC 15))) (ymC:FnOk P w K mg base CX0 (2) t.yjw t.yjx ["_law_cell"] (spE (yV K t) 1 yhm)) (ydT:FnOk P w K mg base CX0 (17) t.yhw t.yhx ["_law_parts"] (spE (yV K t) 1 (ybP 15))) (ygl:FnOk P w K mg base CX0 (2) t.yhu t.yhv ["_law_cell","_law_one","_law_other"] (spE (yV K t) 3 ydd)):FnOk P w K mg base CX0 (17+1) t.yla t.ylb ["_law_parts","_law_cell"] (spE (yV K t) 2 ygQ):=by
 have fa:=T.fa
 exact zfn T.yrK ygh fun cdv Ar outer sh H E hr=>(ye (yD (i:=1) ygh.nd rfl (Or.inl rfl) (ycZ yeL yio (z_v 1 yy) (ycZ yBq yHO z_int z_int)) rfl (Or.inl rfl)) (ye (ybr (yB yBu yKk (ycZ yeL yio (z_v 1 yy) z_int) z_int (yx _)) (yi (yD (i:=2) ygh.nd rfl (Or.inl rfl) (yez (yKW yGd yKp (z_v 0 yu) (yez (yeK (ya (yC ymC (hr.mono (by omega)) yuG rfl T.ywK T.ypX.kp T.ywJ (ya (ycZ ycR yiZ (z_v 1 yy) z_int) yf rfl) rfl rfl) yf rfl))))) rfl (Or.inl rfl))) (ye (yD (i:=3) ygh.nd rfl (Or.inl rfl) (ynn (ynW rfl) yzc yzD rfl T.z_max yzk (ya z_int (ya (ycZ yyP yEG (ynn yge ytb yoO rfl T.z_len yoa (ya (z_v 0 yu) yf rfl) rfl rfl) (ycZ yeL yio (ycZ ycR yiZ (z_v 1 yy) z_int) z_int)) yf rfl) rfl) rfl rfl) rfl (Or.inl rfl)) (ye (yD (i:=4) ygh.nd rfl (Or.inl rfl) (ynn (ynW rfl) yzc yzD rfl T.z_max yzk (ya z_int (ya (ycZ yyP yEG (z_v 3 ynM) (ycZ yeL yio (ycZ ycR yiZ (z_v 1 yy) z_int) z_int)) yf rfl) rfl) rfl rfl) rfl (Or.inl rfl)) (yi (yD (i:=2) ygh.nd rfl (Or.inl rfl) (yez (yKW yGd yKp (yez (yFd ytx yEJ (z_v 0 yu) yIj (yqV (z_v 4 yrT)))) (yez (yeK (ya (yC ygl (hr.mono (by omega)) yoM rfl T.ypZ T.yms.kp T.ypY (ya (ycZ ycR yiZ (z_v 1 yy) z_int) (ya (yez (yFd ytx yEJ (z_v 0 yu) (yqV (z_v 3 ynM)) yIj)) (ya (yez (yFd ytx yEJ (z_v 0 yu) (yqV (z_v 4 yrT)) (yqV (z_v 3 ynM)))) yf rfl) rfl) rfl) rfl rfl) yf rfl))))) rfl (Or.inl rfl)))))) (ye (ybr (yxH (ytM (yB yBu yKk (yC ydT (hr.mono (by omega)) yln rfl T.ymu T.yjC.kp T.ymt (ya (z_v 2 ybW) yf rfl) rfl rfl) z_int (yx _)) (yog (yB yBu yKk (yC ycN (hr.mono (by omega)) yjD rfl T.ylk T.yiJ.kp T.ylj (ya (z_v 2 ybW) yf rfl) rfl rfl) z_int (yx _))))) (yi (yl (z_v 0 yu))) yv) (yi (yl (z_v 2 ybW))))))
structure yPw (P:Program) (w:World) (K:PySem.W.Frag) (mg:Str->Option Value) (base:Heap) (t:Ads) (n:Nat):Prop where
 yxa:FnOk P w K mg base CX0 (n+1) t.yrD t.yrE ["_law_parts"] (spE (yV K t) 1 (ycF n))
 ysh:FnOk P w K mg base CX0 (n+1) t.ylc t.yle ["_law_parts"] (spE (yV K t) 1 (ygR n))
theorem yDF (T:Txt K mg t)  :∀ n,yPw P w K mg base t n
 | 0=>⟨ycV,ycV⟩
 | n+1=>by
  have fa:=T.fa
  have I:=yDF T  n
  have yiP:=I.yxa
  have yiQ:=I.ysh
  exact ⟨zfn T.yiK yAD fun cdv Ar outer sh H E hr=>(ye (ybr (yB (yqX (yqY hr)) yxF (z_v 0 yu) (yez (yeK yf)) (yx _)) (yi (yl z_str)) yv) (yi (yl (ycZ ydL ylN (ycZ ydL ylN z_str (yC yiQ (hr.mono (by omega)) yqh rfl T.yrM T.ynJ.kp T.yrL (ya (z_v 0 yu) yf rfl) rfl rfl)) z_str)))),
   zfn T.ynJ yji fun cdv Ar outer sh H E hr=>(ye (yCv (i:=1) yji.nd rfl (Or.inl rfl) (yeK yf) rfl (Or.inl rfl)) (ye (yqW PassesOwn.never rfl (yhD (z_v 0 yu)) (yky (i:=2) yji.nd rfl (Or.inl rfl) (Or.inl rfl)) (yi (ybr (yB ycS yja (ydS yF yby (z_v 2 yd) z_int (fun _ _=>rfl)) z_str (yx _)) (yi (yvN (ycX (i:=1) rfl (Or.inl rfl) ybn.d ybn.c) (ycZ ydL ylN (ycZ ydL ylN (ycZ ydL ylN (ycZ ydL ylN (ycZ ydL ylN z_str (ydS yF yby (z_v 2 yd) z_int (fun _ _=>rfl))) z_str) (yC yiP (hr.mono (by omega)) yin rfl T.ykp T.yiK.kp T.yko (ya (ydS yF yby (z_v 2 yd) z_int (fun _ _=>rfl)) yf rfl) rfl rfl)) z_str) (yC yiP (hr.mono (by omega)) yin rfl T.ykp T.yiK.kp T.yko (ya (ydS yF yby (z_v 2 yd) z_int (fun _ _=>rfl)) yf rfl) rfl rfl)) rfl rfl rfl rfl rfl rfl)) (yi (ybr (yB ycS yja (ydS yF yby (z_v 2 yd) z_int (fun _ _=>rfl)) z_str (yx _)) (yi (yvN (ycX (i:=1) rfl (Or.inl rfl) ybn.d ybn.c) (ycZ ydL ylN (ycZ ydL ylN (ycZ ydL ylN z_str (yC yiP (hr.mono (by omega)) yin rfl T.ykp T.yiK.kp T.yko (ya (ydS yF yby (z_v 2 yd) z_int (fun _ _=>rfl)) yf rfl) rfl rfl)) z_str) (yC yiP (hr.mono (by omega)) yin rfl T.ykp T.yiK.kp T.yko (ya (ydS yF yby (z_v 2 yd) z_int (fun _ _=>rfl)) yf rfl) rfl rfl)) rfl rfl rfl rfl rfl rfl)) (yi (ybr (yB ycS yja (ydS yF yby (z_v 2 yd) z_int (fun _ _=>rfl)) z_str (yx _)) (ye (yD (i:=3) yji.nd rfl (Or.inl rfl) (yez (yeK (ya z_str (ya (yC yiP (hr.mono (by omega)) yin rfl T.ykp T.yiK.kp T.yko (ya (ydS yF yby (z_v 2 yd) z_int (fun _ _=>rfl)) yf rfl) rfl rfl) (ya z_str (ya (ydS yF yby (z_v 2 yd) z_int (fun _ _=>rfl)) (ya (ydS yF yby (z_v 2 yd) z_int (fun _ _=>rfl)) (ya (yC yiP (hr.mono (by omega)) yin rfl T.ykp T.yiK.kp T.yko (ya (ydS yF yby (z_v 2 yd) z_int (fun _ _=>rfl)) yf rfl) rfl rfl) yf rfl) rfl) rfl) rfl) rfl) rfl))) rfl (Or.inl rfl)) (yi (yvN (ycX (i:=1) rfl (Or.inl rfl) ybn.d ybn.c) (yxK PySem.F.plainAttrs_str PySem.F.slot_str_join PySem.F.type_str_join ygO ykd z_str (ya (z_v 3 ywN) yf rfl) rfl rfl rfl rfl rfl) rfl rfl rfl rfl rfl rfl))) (yi (yvN (ycX (i:=1) rfl (Or.inl rfl) ybn.d ybn.c) (yxK PySem.F.plainAttrs_str PySem.F.slot_str_join PySem.F.type_str_join ygO ykd z_str (ya (yez (ypP [] [] rfl (yKX (z_v 2 yd)) True.intro (fun _ _ _ _ _ _=>(yCt yCx yKS yDw rfl T.z_str yBM (ya (z_v 0 ywO) yf rfl) rfl rfl)) (by rfl') rfl (by rfl') (by rfl') (by rfl') rfl (fun _=>rfl))) yf rfl) rfl rfl rfl rfl rfl) rfl rfl rfl rfl rfl rfl)))))))) (fun _=>rfl)) (yCw 1 (yi (yl (yxK PySem.F.plainAttrs_str PySem.F.slot_str_join PySem.F.type_str_join ygO ykd z_str (ya (z_v 1 ybn) yf rfl) rfl rfl rfl rfl rfl))))))⟩
theorem ysT (T:Txt K mg t) (ymD:FnOk P w K mg base CX0 (1) t.yju t.yjv ["_law_found"] (spE (yV K t) 1 yhl)):FnOk P w K mg base CX0 (1+1) t.yib t.yic ["_law_part","_law_due"] (spE (yV K t) 2 yfi):=by
 have fa:=T.fa
 exact zfn T.yoG ysx fun cdv Ar outer sh H E hr=>(ye (ybr (yB ycS yja (ydS yF yby (z_v 1 ybx) z_int (fun _ _=>rfl)) z_str (yx _)) (yi (yl (yso (ynn ybL (yoe (K:=ckX _ _) fa.isa) ybo rfl T.z_isinstance ybj (ya (z_v 0 yd) (ya (ynf yDr rfl T.m_Let) yf rfl) rfl) rfl rfl) (yso (yqo (yqX (yqY hr)) yxF (yez (yeK (ya (yco fa.fl_slot (z_v 0 yd) rfl) (ya (yco fa.fl_number (z_v 0 yd) rfl) yf rfl) rfl))) (yez (yeK (ya (ydS yF yby (z_v 1 ybx) z_int (fun _ _=>rfl)) (ya (ydS yF yby (z_v 1 ybx) z_int (fun _ _=>rfl)) yf rfl) rfl))) (yx _)) (ytL (yC ymD (hr.mono (by omega)) yuH rfl T.ywI T.ypW.kp T.ywH (ya (yco fa.fl_number (z_v 0 yd) rfl) yf rfl) rfl rfl)))))) yv) (ye (ybr (yB ycS yja (ydS yF yby (z_v 1 ybx) z_int (fun _ _=>rfl)) z_str (yx _)) (yi (yl (yso (ynn ybL (yoe (K:=ckX _ _) fa.isa) ybo rfl T.z_isinstance ybj (ya (z_v 0 yd) (ya (ynf yyF rfl T.m_Take) yf rfl) rfl) rfl rfl) (ytL (yqo (yqX (yqY hr)) yxF (yez (yeK (ya (yco fa.fl_slot (z_v 0 yd) rfl) (ya (yco fa.fl_place (z_v 0 yd) rfl) yf rfl) rfl))) (yez (yeK (ya (ydS yF yby (z_v 1 ybx) z_int (fun _ _=>rfl)) (ya (ydS yF yby (z_v 1 ybx) z_int (fun _ _=>rfl)) yf rfl) rfl))) (yx _)))))) yv) (ye (ybr (yB ycS yja (ydS yF yby (z_v 1 ybx) z_int (fun _ _=>rfl)) z_str (yx _)) (yi (yl (yso (ynn ybL (yoe (K:=ckX _ _) fa.isa) ybo rfl T.z_isinstance ybj (ya (z_v 0 yd) (ya (ynf yDs rfl T.m_Put) yf rfl) rfl) rfl rfl) (ytL (yqo (yqX (yqY hr)) yxF (yez (yeK (ya (yco fa.fl_place (z_v 0 yd) rfl) (ya (yco fa.fl_slot (z_v 0 yd) rfl) yf rfl) rfl))) (yez (yeK (ya (ydS yF yby (z_v 1 ybx) z_int (fun _ _=>rfl)) (ya (ydS yF yby (z_v 1 ybx) z_int (fun _ _=>rfl)) yf rfl) rfl))) (yx _)))))) yv) (ye (ybr (yB ycS yja (ydS yF yby (z_v 1 ybx) z_int (fun _ _=>rfl)) z_str (yx _)) (yi (yl (yso (ynn ybL (yoe (K:=ckX _ _) fa.isa) ybo rfl T.z_isinstance ybj (ya (z_v 0 yd) (ya (ynf yuE rfl T.m_Throw) yf rfl) rfl) rfl rfl) (ytL (yqo (yqX (yqY hr)) yxF (yez (yeK (ya (yco fa.fl_name (z_v 0 yd) rfl) (ya (yco fa.fl_slot (z_v 0 yd) rfl) yf rfl) rfl))) (yez (yeK (ya (ydS yF yby (z_v 1 ybx) z_int (fun _ _=>rfl)) (ya (ydS yF yby (z_v 1 ybx) z_int (fun _ _=>rfl)) yf rfl) rfl))) (yx _)))))) yv) (ye (ybr (yB ycS yja (ydS yF yby (z_v 1 ybx) z_int (fun _ _=>rfl)) z_str (yx _)) (yi (yl (ynn ybL (yoe (K:=ckX _ _) fa.isa) ybo rfl T.z_isinstance ybj (ya (z_v 0 yd) (ya (ynf yuF rfl T.m_Wait) yf rfl) rfl) rfl rfl))) yv) (ye (ybr (yir (yis (ynn ybL (yoe (K:=ckX _ _) fa.isa) ybo rfl T.z_isinstance ybj (ya (z_v 0 yd) (ya (ynf yrR rfl T.m_Reckon) yf rfl) rfl) rfl rfl) (fun _=>rfl))) (yi (yl yAb)) yv) (yi (yl (yqo (yqX (yqY hr)) yxF (yez (yeK (ya (yco fa.fl_word (z_v 0 yd) rfl) (ya (yco fa.fl_slot (z_v 0 yd) rfl) (ya (yco fa.fl_one (z_v 0 yd) rfl) (ya (yco fa.fl_other (z_v 0 yd) rfl) yf rfl) rfl) rfl) rfl))) (yez (yoh ycY yhQ yjV rfl T.z_list yjM (ya (z_v 1 ybx) yf rfl) rfl rfl)) (yx _))))))))))
structure yPx (P:Program) (w:World) (K:PySem.W.Frag) (mg:Str->Option Value) (base:Heap) (t:Ads) (n:Nat):Prop where
 ysi:FnOk P w K mg base CX0 (n+3) t.ylf t.ylg ["_law_parts","_law_due"] (spE (yV K t) 2 (ydC n))
theorem yDG (T:Txt K mg t) (ybg:FnOk P w K mg base CX0 (1) t.yeU t.yeV ["_law_part"] (spE (yV K t) 1 yH)) (yii:FnOk P w K mg base CX0 (2) t.yib t.yic ["_law_part","_law_due"] (spE (yV K t) 2 yfi)) :∀ n,yPx P w K mg base t n
 | 0=>⟨ycV⟩
 | n+1=>by
  have fa:=T.fa
  have I:=yDG T ybg yii n
  have ygb:=I.ysi
  exact ⟨zfn T.yiL yjj fun cdv Ar outer sh H E hr=>(ye (ybr (yxH (ytM (yir (yis (ynn ybL (yoe (K:=ckX _ _) fa.isa) ybo rfl T.z_isinstance ybj (ya (z_v 0 yu) (ya (yFb yjV rfl T.z_list yjM) yf rfl) rfl) rfl rfl) (fun _=>rfl))) (yog (yB ytu yEH (ynn yge ytb yoO rfl T.z_len yoa (ya (z_v 0 yu) yf rfl) rfl rfl) (ynn yge ytb yoO rfl T.z_len yoa (ya (z_v 1 ybx) yf rfl) rfl rfl) (yx _))))) (yi (yl yAb)) yv) (ye (yIn PassesOwn.never rfl rfl T.z_zip (ya (z_v 0 yu) (ya (z_v 1 ybx) yf rfl) rfl) rfl rfl (yKZ rfl (yzj (yky (i:=2) yjj.nd rfl (Or.inl rfl) (Or.inl rfl)) (yzj (yky (i:=3) yjj.nd rfl (Or.inl rfl) (Or.inl rfl)) yIk rfl) rfl) rfl rfl) (ye (ybr (yir (yis (ynn ybL (yoe (K:=ckX _ _) fa.isa) ybo rfl T.z_isinstance ybj (ya (z_v 2 yd) (ya (ynf yIS rfl T.m_Part) yf rfl) rfl) rfl rfl) (fun _=>rfl))) (yi (yl yAb)) yv) (ye (yD (i:=4) yjj.nd rfl (Or.inl rfl) (yC ybg (hr.mono (by omega)) yif rfl T.yjB T.yhy.kp T.yjA (ya (z_v 3 yeq) yf rfl) rfl rfl) rfl (Or.inl rfl)) (yi (ybr (yB (yqX (yqY hr)) yxF (z_v 4 yR) (yez (yeK yf)) (yx _)) (yi (ybr (yir (yis (yC yii (hr.mono (by omega)) ysN rfl T.yuB T.yoG.kp T.yuA (ya (z_v 2 yd) (ya (z_v 3 yeq) yf rfl) rfl) rfl rfl) (fun _=>rfl))) (yi (yl yAb)) yv)) (ye (ybr (yxH (yti (yB ycS yja (ydS yF yby (z_v 3 yeq) z_int (fun _ _=>rfl)) z_str (yx _)) (ypd (yxH (ytM (yir (yis (ynn ybL (yoe (K:=ckX _ _) fa.isa) ybo rfl T.z_isinstance ybj (ya (z_v 2 yd) (ya (ynf yIR rfl T.m_If) yf rfl) rfl) rfl rfl) (fun _=>rfl))) (yog (yB ytu yEH (yco fa.fl_slot (z_v 2 yd) rfl) (ydS yF yby (z_v 3 yeq) z_int (fun _ _=>rfl)) (yx _)))))))) (yi (yl yAb)) yv) (ye (ybr (yxH (yti (yB ycS yja (ydS yF yby (z_v 3 yeq) z_int (fun _ _=>rfl)) z_str (yx _)) (ypd (yir (yis (ynn ybL (yoe (K:=ckX _ _) fa.isa) ybo rfl T.z_isinstance ybj (ya (z_v 2 yd) (ya (ynf yrQ rfl T.m_Either) yf rfl) rfl) rfl rfl) (fun _=>rfl)))))) (yi (yl yAb)) yv) (ye (ybr (yxH (yti (yB ycS yja (ydS yF yby (z_v 3 yeq) z_int (fun _ _=>rfl)) z_str (yx _)) (ypd (yir (yis (ynn ybL (yoe (K:=ckX _ _) fa.isa) ybo rfl T.z_isinstance ybj (ya (z_v 2 yd) (ya (ynf yDu rfl T.m_Try) yf rfl) rfl) rfl rfl) (fun _=>rfl)))))) (yi (yl yAb)) yv) (ye (ybr (yxH (yti (yB ycS yja (ydS yF yby (z_v 3 yeq) z_int (fun _ _=>rfl)) z_str (yx _)) (ypd (yxH (ytM (yB ytu yEH (yco fa.fl_name (z_v 2 yd) rfl) (ydS yF yby (z_v 3 yeq) z_int (fun _ _=>rfl)) (yx _)) (yog (yB ytu yEH (yco fa.fl_slot (z_v 2 yd) rfl) (ydS yF yby (z_v 3 yeq) z_int (fun _ _=>rfl)) (yx _)))))))) (yi (yl yAb)) yv) (yi (ybr (yxH (ytM (yir (yis (yC ygb (hr.mono (by omega)) yjE rfl T.ylm T.yiL.kp T.yll (ya (yco fa.fl_parts (z_v 2 yd) rfl) (ya (ydS ygN ypa (z_v 4 yR) z_int (fun _ _=>rfl)) yf rfl) rfl) rfl rfl) (fun _=>rfl))) (yog (yir (yis (yC ygb (hr.mono (by omega)) yjE rfl T.ylm T.yiL.kp T.yll (ya (yco fa.fl_others (z_v 2 yd) rfl) (ya (ydS ygN ypa (z_v 4 yR) z_int (fun _ _=>rfl)) yf rfl) rfl) rfl rfl) (fun _=>rfl)))))) (yi (yl yAb)) yv)))))))))) (fun _=>rfl)) (yi (yl yAb))))⟩
structure yPy (P:Program) (w:World) (K:PySem.W.Frag) (mg:Str->Option Value) (base:Heap) (t:Ads) (n:Nat):Prop where
 ysj:FnOk P w K mg base CX0 (n+3) t.ylh t.yli ["_law_part"] (spE (yV K t) 1 (ybD n))
 ysk:FnOk P w K mg base CX0 (n+3) t.ynB t.ynC ["_law_parts"] (spE (yV K t) 1 (ydV n))
theorem yDH (T:Txt K mg t) (ybI:FnOk P w K mg base CX0 (1) t.ydP t.ydQ ["self","parts","others"] (spI (yV K t) 2 6 ybH)) (ydx:FnOk P w K mg base CX0 (1) t.ygA t.ygB ["self","slot","parts","others"] (spI (yV K t) 3 5 yda)) (ydF:FnOk P w K mg base CX0 (1) t.yfJ t.yfK ["self","slot","number"] (spI (yV K t) 2 1 yeu)) (ydG:FnOk P w K mg base CX0 (1) t.yfL t.yfM ["self","place","slot"] (spI (yV K t) 2 4 yev)) (ybX:FnOk P w K mg base CX0 (1) t.ydN t.ydO ["self","word","slot","one","other"] (spI (yV K t) 4 2 ycB)) (ycL:FnOk P w K mg base CX0 (1) t.yeQ t.yeR ["self","slot","place"] (spI (yV K t) 2 3 ydM)) (ycm:FnOk P w K mg base CX0 (1) t.yes t.yet ["self","name","slot"] (spI (yV K t) 2 8 ycW)) (ycA:FnOk P w K mg base CX0 (1) t.yfN t.yfO ["self","parts","name","slot","others"] (spI (yV K t) 4 7 ycx)) (ybg:FnOk P w K mg base CX0 (1) t.yeU t.yeV ["_law_part"] (spE (yV K t) 1 yH)) :∀ n,yPy P w K mg base t n
 | 0=>⟨ycV,ycV⟩
 | n+1=>by
  have fa:=T.fa
  have I:=yDH T ybI ydx ydF ydG ybX ycL ycm ycA ybg n
  have yiR:=I.ysj
  have ysl:=I.ysk
  exact ⟨zfn T.ynK yhr fun cdv Ar outer sh H E hr=>(ye (ybr (yB ycS yja (ydS yF yby (z_v 0 yd) z_int (fun _ _=>rfl)) z_str (yx _)) (yi (yl (yez (yhj T.mk_Let ydF (hr.mono (by omega)) yDr rfl T.m_Let T.yng (ya (ydS yF yby (z_v 0 yd) z_int (fun _ _=>rfl)) (ya (ydS yF yby (z_v 0 yd) z_int (fun _ _=>rfl)) yf rfl) rfl) rfl rfl)))) yv) (ye (ybr (yB ycS yja (ydS yF yby (z_v 0 yd) z_int (fun _ _=>rfl)) z_str (yx _)) (yi (yl (yez (yhj T.mk_Take ycL (hr.mono (by omega)) yyF rfl T.m_Take T.ymj (ya (ydS yF yby (z_v 0 yd) z_int (fun _ _=>rfl)) (ya (ydS yF yby (z_v 0 yd) z_int (fun _ _=>rfl)) yf rfl) rfl) rfl rfl)))) yv) (ye (ybr (yB ycS yja (ydS yF yby (z_v 0 yd) z_int (fun _ _=>rfl)) z_str (yx _)) (yi (yl (yez (yhj T.mk_Put ydG (hr.mono (by omega)) yDs rfl T.m_Put T.ynh (ya (ydS yF yby (z_v 0 yd) z_int (fun _ _=>rfl)) (ya (ydS yF yby (z_v 0 yd) z_int (fun _ _=>rfl)) yf rfl) rfl) rfl rfl)))) yv) (ye (ybr (yB ycS yja (ydS yF yby (z_v 0 yd) z_int (fun _ _=>rfl)) z_str (yx _)) (yi (yl (yez (yhj T.mk_Throw ycm (hr.mono (by omega)) yuE rfl T.m_Throw T.ylD (ya (ydS yF yby (z_v 0 yd) z_int (fun _ _=>rfl)) (ya (ydS yF yby (z_v 0 yd) z_int (fun _ _=>rfl)) yf rfl) rfl) rfl rfl)))) yv) (ye (ybr (yB ycS yja (ydS yF yby (z_v 0 yd) z_int (fun _ _=>rfl)) z_str (yx _)) (yi (yl (yez (yxI T.mk_Wait T.io_Wait T.kp_Wait yuF rfl T.m_Wait)))) yv) (ye (ybr (yB yvi yES (ydS yF yby (z_v 0 yd) z_int (fun _ _=>rfl)) (yqp (ya z_str (ya z_str (ya z_str yf rfl) rfl) rfl)) (by with_unfolding_all rfl)) (yi (yl (yez (yhj T.mk_Reckon ybX (hr.mono (by omega)) yrR rfl T.m_Reckon T.ykm (ya (ydS yF yby (z_v 0 yd) z_int (fun _ _=>rfl)) (ya (ydS yF yby (z_v 0 yd) z_int (fun _ _=>rfl)) (ya (ydS yF yby (z_v 0 yd) z_int (fun _ _=>rfl)) (ya (ydS yF yby (z_v 0 yd) z_int (fun _ _=>rfl)) yf rfl) rfl) rfl) rfl) rfl rfl)))) yv) (ye (yFf (iy:=1) [] [] rfl (yhD (yC ybg (hr.mono (by omega)) yif rfl T.yjB T.yhy.kp T.yjA (ya (z_v 0 yd) yf rfl) rfl rfl)) True.intro (fun _ _ _ _ _ _=>(yC ysl (hr.mono (by omega)) yqc rfl T.yyE T.yrP.kp T.yyD (ya (z_v 0 ymy) yf rfl) rfl rfl)) (by rfl') rfl (by rfl') (by rfl') (by rfl') rfl (fun _=>rfl) yhr.nd rfl (Or.inl rfl) (Or.inl rfl) rfl) (ye (ybr (yB ycS yja (ydS yF yby (z_v 0 yd) z_int (fun _ _=>rfl)) z_str (yx _)) (yi (yD (i:=2) yhr.nd rfl (Or.inl rfl) (yez (yhj T.mk_If ydx (hr.mono (by omega)) yIR rfl T.m_If T.yoB (ya (ydS yF yby (z_v 0 yd) z_int (fun _ _=>rfl)) (ya (ydS ygN ypa (z_v 1 yR) z_int (fun _ _=>rfl)) (ya (ydS ygN ypa (z_v 1 yR) z_int (fun _ _=>rfl)) yf rfl) rfl) rfl) rfl rfl)) rfl (Or.inl rfl))) (yi (ybr (yB ycS yja (ydS yF yby (z_v 0 yd) z_int (fun _ _=>rfl)) z_str (yx _)) (yi (yD (i:=2) yhr.nd rfl (Or.inl rfl) (yez (yhj T.mk_Either ybI (hr.mono (by omega)) yrQ rfl T.m_Either T.ykn (ya (ydS ygN ypa (z_v 1 yR) z_int (fun _ _=>rfl)) (ya (ydS ygN ypa (z_v 1 yR) z_int (fun _ _=>rfl)) yf rfl) rfl) rfl rfl)) rfl (Or.inl rfl))) (yi (yD (i:=2) yhr.nd rfl (Or.inl rfl) (yez (yhj T.mk_Try ycA (hr.mono (by omega)) yDu rfl T.m_Try T.yni (ya (ydS ygN ypa (z_v 1 yR) z_int (fun _ _=>rfl)) (ya (ydS yF yby (z_v 0 yd) z_int (fun _ _=>rfl)) (ya (ydS yF yby (z_v 0 yd) z_int (fun _ _=>rfl)) (ya (ydS ygN ypa (z_v 1 yR) z_int (fun _ _=>rfl)) yf rfl) rfl) rfl) rfl) rfl rfl)) rfl (Or.inl rfl)))))) (ye (ylP (yNM PySem.F.plainAttrs_list PySem.F.slot_list_clear PySem.F.type_list_clear yEg yER (ydS ygN ypa (z_v 1 yR) z_int (fun _ _=>rfl)) rfl rfl) rfl) (ye (ylP (yxK PySem.F.plainAttrs_list PySem.F.slot_list_append PySem.F.type_list_append ynZ yKP (ydS ygN ypa (z_v 1 yR) z_int (fun _ _=>rfl)) (ya (yez (yxI T.mk_Wait T.io_Wait T.kp_Wait yuF rfl T.m_Wait)) yf rfl) rfl rfl rfl rfl rfl) rfl) (yi (yl (z_v 2 ybW))))))))))))),
   zfn T.yrP ywt fun cdv Ar outer sh H E hr=>(yi (yl (yKV (ypP [] [] rfl (yhD (z_v 0 yu)) True.intro (fun _ _ _ _ _ _=>(yC yiR (hr.mono (by omega)) yqd rfl T.yrO T.ynK.kp T.yrN (ya (z_v 0 yd) yf rfl) rfl rfl)) (by rfl') rfl (by rfl') (by rfl') (by rfl') rfl (fun _=>rfl)))))⟩
theorem ysU (T:Txt K mg t) (yiR:FnOk P w K mg base CX0 (33) t.ylh t.yli ["_law_part"] (spE (yV K t) 1 (ybD 30))):FnOk P w K mg base CX0 (33+1) t.yid t.yie ["_law_parts"] (spE (yV K t) 1 ygp):=by
 have fa:=T.fa
 exact zfn T.yoH ysy fun cdv Ar outer sh H E hr=>(yi (yl (yez (ypP [] [] rfl (yhD (z_v 0 yu)) True.intro (fun _ _ _ _ _ _=>(yC yiR (hr.mono (by omega)) yqd rfl T.yrO T.ynK.kp T.yrN (ya (z_v 0 yd) yf rfl) rfl rfl)) (by rfl') rfl (by rfl') (by rfl') (by rfl') rfl (fun _=>rfl)))))
theorem ysm (T:Txt K mg t) (ycN:FnOk P w K mg base CX0 (17) t.ygV t.ygW ["_law_parts"] (spE (yV K t) 1 (ybC 15))) (ydT:FnOk P w K mg base CX0 (17) t.yhw t.yhx ["_law_parts"] (spE (yV K t) 1 (ybP 15))) (ygl:FnOk P w K mg base CX0 (2) t.yhu t.yhv ["_law_cell","_law_one","_law_other"] (spE (yV K t) 3 ydd)):FnOk P w K mg base CX0 (17+1) t.yhf t.yhg ["_law_parts","_law_number_here"] (spE (yV K t) 2 yfI):=by
 have fa:=T.fa
 exact zfn T.ynj ygy fun cdv Ar outer sh H E hr=>(ye (yqW PassesOwn.never rfl (yCu rfl T.z_range (ya (ycZ yeL yio (z_v 1 ycK) z_int) yf rfl) rfl) (yky (i:=2) ygy.nd rfl (Or.inl rfl) (Or.inl rfl)) (ye (yD (i:=3) ygy.nd rfl (Or.inl rfl) (yez (yeK (ya (yC ygl (hr.mono (by omega)) yoM rfl T.ypZ T.yms.kp T.ypY (ya (ycZ yfE yjP (ycZ ycR yiZ (z_v 1 ycK) z_int) (ycZ yuZ yCe (z_v 2 yoK) z_int)) (ya (z_v 0 yu) (ya (yez (yeK yf)) yf rfl) rfl) rfl) rfl rfl) yf rfl))) rfl (Or.inl rfl)) (yi (ybr (yxH (yti (yB yzL yJd (yC ydT (hr.mono (by omega)) yln rfl T.ymu T.yjC.kp T.ymt (ya (z_v 3 ybW) yf rfl) rfl rfl) z_int (yx _)) (ypd (yB yzL yJd (yC ycN (hr.mono (by omega)) yjD rfl T.ylk T.yiJ.kp T.ylj (ya (z_v 3 ybW) yf rfl) rfl rfl) z_int (yx _))))) (yi (yD (i:=0) ygy.nd rfl (Or.inl rfl) (z_v 3 ybW) rfl (Or.inl rfl))) yv))) (fun _=>rfl)) (yi (yl (z_v 0 yu))))
theorem yuU (T:Txt K mg t) (ylv:FnOk P w K mg base CX0 (34) t.yid t.yie ["_law_parts"] (spE (yV K t) 1 ygp)) (ycN:FnOk P w K mg base CX0 (17) t.ygV t.ygW ["_law_parts"] (spE (yV K t) 1 (ybC 15))) (ygb:FnOk P w K mg base CX0 (18) t.ylf t.ylg ["_law_parts","_law_due"] (spE (yV K t) 2 (ydC 15))) (yiQ:FnOk P w K mg base CX0 (31) t.ylc t.yle ["_law_parts"] (spE (yV K t) 1 (ygR 30))) (G_read:FnOk P w K mg base CX0 (52) t.a_read t.d_read ["text"] (spE (yV K t) 1 yvV)) (yoT:FnOk P w K mg base CX0 (47) t.yoz t.yoA ["deed"] (spE (yV K t) 1 ykh)) (G_long:yqK P w K mg base 46 t.A "long" (fun k=>spE (yV K t) 1 (ylA 45 k))):FnOk P w K mg base CX0 (52+1) t.yjy t.yjz ["_law_parts"] (spE (yV K t) 1 ygg):=by
 have fa:=T.fa
 exact zfn T.ymv ygz fun cdv Ar outer sh H E hr=>(ye (yD (i:=1) ygz.nd rfl (Or.inl rfl) (yC ylv (hr.mono (by omega)) yqc rfl T.yuD T.yoH.kp T.yuC (ya (z_v 0 yu) yf rfl) rfl rfl) rfl (Or.inl rfl)) (ye (yD (i:=2) ygz.nd rfl (Or.inl rfl) (yez (yoh ycY yhQ yjV rfl T.z_list yjM (ya (z_v 1 ygY) yf rfl) rfl rfl)) rfl (Or.inl rfl)) (ye (yD (i:=3) ygz.nd rfl (Or.inl rfl) (yC yoT (hr.mono (by omega)) yzF rfl T.ywG T.yrH.kp T.ywF (ya (z_v 2 yjU) yf rfl) rfl rfl) rfl (Or.inl rfl)) (ye (ybr (yxH (ytM (yB ytu yEH (ynn yge ytb yoO rfl T.z_len yoa (ya (z_v 2 yjU) yf rfl) rfl rfl) (ynn yge ytb yoO rfl T.z_len yoa (ya (z_v 1 ygY) yf rfl) rfl rfl) (yx _)) (yog (yir (yis (yC ygb (hr.mono (by omega)) yjE rfl T.ylm T.yiL.kp T.yll (ya (z_v 2 yjU) (ya (z_v 0 yu) yf rfl) rfl) rfl rfl) (fun _=>rfl)))))) (yi (yl yAb)) yv) (ye (ybr (yxH (ytM (yir (yis (ynn ybL (yoe (K:=ckX _ _) fa.isa) ybo rfl T.z_isinstance ybj (ya (z_v 3 yft) (ya (yFb yDw rfl T.z_str yBM) yf rfl) rfl) rfl rfl) (fun _=>rfl))) (yog (yB ytu yEH (z_v 3 yft) (yC yiQ (hr.mono (by omega)) yqh rfl T.yrM T.ynJ.kp T.yrL (ya (z_v 0 yu) yf rfl) rfl rfl) (yx _))))) (yi (yl yAb)) yv) (ye (ybr (yB ytu yEH (ynn (yty rfl) yHS yDx rfl T.z_sum yBL (ya (yez (ypP [] [] rfl (yhD (z_v 1 ygY)) True.intro (fun _ _ _ _ _ _=>(yxJ (z_v 0 yd) G_long (hr.mono (by omega)) rfl)) (by rfl') rfl (by rfl') (by rfl') (by rfl') rfl (fun _=>rfl))) yf rfl) rfl rfl) (yC ycN (hr.mono (by omega)) yjD rfl T.ylk T.yiJ.kp T.ylj (ya (z_v 0 yu) yf rfl) rfl rfl) (yx _)) (yi (yl yAb)) yv) (ye (yD (i:=4) ygz.nd rfl (Or.inl rfl) (yC G_read (hr.mono (by omega)) yIV rfl T.m_read T.F_read.kp T.b_read (ya (z_v 3 yft) yf rfl) rfl rfl) rfl (Or.inl rfl)) (yi (yl (yso (yC ygb (hr.mono (by omega)) yjE rfl T.ylm T.yiL.kp T.yll (ya (z_v 4 yoJ) (ya (z_v 0 yu) yf rfl) rfl) rfl rfl) (ytL (yqo ycS yja (yC yoT (hr.mono (by omega)) yzF rfl T.ywG T.yrH.kp T.ywF (ya (z_v 4 yoJ) yf rfl) rfl rfl) (z_v 3 yft) (yx _)))))))))))))
theorem yMb (T:Txt K mg t) (ynQ:FnOk P w K mg base CX0 (18) t.yla t.ylb ["_law_parts","_law_cell"] (spE (yV K t) 2 ygQ)) (yjL:FnOk P w K mg base CX0 (53) t.yjy t.yjz ["_law_parts"] (spE (yV K t) 1 ygg)) (yjX:FnOk P w K mg base CX0 (18) t.yhf t.yhg ["_law_parts","_law_number_here"] (spE (yV K t) 2 yfI)):FnOk P w K mg base CX0 (53+1) t.a_law t.d_law ["_law_script"] (spE (yV K t) 1 yFl):=by
 have fa:=T.fa
 exact zfn T.F_law sc_law fun cdv Ar outer sh H E hr=>(ye (yD (i:=1) sc_law.nd rfl (Or.inl rfl) (yez (yeK yf)) rfl (Or.inl rfl)) (ye (yD (i:=2) sc_law.nd rfl (Or.inl rfl) z_int rfl (Or.inl rfl)) (ye (yqW PassesOwn.never rfl (yhD (yez (yFd ytx yEJ (z_v 0 ysM) yIj (yqV z_int)))) (yky (i:=3) sc_law.nd rfl (Or.inl rfl) (Or.inl rfl)) (ye (yD (i:=1) sc_law.nd rfl (Or.inl rfl) (yC ynQ (hr.mono (by omega)) ywM rfl T.yyC T.yrK.kp T.yyB (ya (z_v 1 yu) (ya (z_v 3 yy) yf rfl) rfl) rfl rfl) rfl (Or.inl rfl)) (yi (yD (i:=2) sc_law.nd rfl (Or.inl rfl) (ycZ yeL yio (ycZ yfE yjP (ycZ yuZ yCe (z_v 2 ycK) z_int) (z_v 3 yy)) z_int) rfl (Or.inl rfl)))) (fun _=>rfl)) (yi (yl (yso (yC yjL (hr.mono (by omega)) yoL rfl T.yqb T.ymv.kp T.yqa (ya (z_v 1 yu) yf rfl) rfl rfl) (ytL (yC yjL (hr.mono (by omega)) yoL rfl T.yqb T.ymv.kp T.yqa (ya (yC yjX (hr.mono (by omega)) yrU rfl T.ysJ T.ynj.kp T.ysI (ya (z_v 1 yu) (ya (z_v 2 ycK) yf rfl) rfl) rfl rfl) yf rfl) rfl rfl))))))))
noncomputable def yFP (K:PySem.W.Frag):Sp:=fun vs H Q _=>∃ (a:Addr) (ns:List Int),vs=[.ref a]/\SqL K H a (ns.map V.int)/\ns.length<=63/\∀ H',Q (.bl true) H'
theorem yMc {A:Nat->Addr}:∀ vs H Q E,yFP K vs H Q E->spE ⟨K,A⟩ 1 yFl vs H Q E:=by
 rintro _ H Q E ⟨a,ns,rfl,hS,hl,q⟩
 obtain ⟨h',e⟩:=yLZ (h:=[]) ns hl
 exact ⟨⟨H,H,[],[]⟩,[.scr ns],.bl true,h',rfl,⟨Same.refl _,rfl,List.nodup_nil,fun n d a e=>by simp at e⟩,⟨.ref a,[],rfl,⟨a,rfl,hS⟩,rfl⟩,rfl,e,fun v W' _ _ rv=>by rw [show v=_ from rv];exact q _⟩
end
theorem all_mk {l:PySem.W.OpenLaw}{w:World}{K:PySem.W.Frag}{h:Heap}{mg:Str->Option Value}{fa CPart CLet CReckon CTake CPut CIf CEither CTry CThrow CWait CReader f1 f2 f3 f4 f5 f6 f7 f8 f9 f10 f11 f12 f13 f14 f15 f16 f17 f18 f19 f20 f21 f22 f23 f24 f25 f26 f27 f28 f29 f30 f31 f32 f33 f34 f35 f36 f37 f38 f39 f40 f41 f42 f43 f44 f45 f46 f47 f48 f49 f50 f51 f52 f53 f54 f55 f56 f57 f58 f59 f60 f61 f62 f63 f64 f65 f66 f67 f68 f69 f70 f71 f72 f73 f74 u7:Addr}{u1 u2 u3 u4 u5 u6:Tok}(X:K.In h) (G:h.Ns mainGlobals mg) (hfa:mg "law" = some (.ref fa))
  {od1 an1 od2 an2 od3 an3 od4 an4 od5 an5 od6 an6 od7 an7 od8 an8 od9 an9 od10 an10 od11 an11 od12 an12 od13 an13 od14 an14 od15 an15 od16 an16 od17 an17 od18 an18 od19 an19 od20 an20 od21 an21 od22 an22 od23 an23 od24 an24 od25 an25 od26 an26 od27 an27 od28 an28 od29 an29 od30 an30 od31 an31 od32 an32 od33 an33 od34 an34 od35 an35 od36 an36 od37 an37 od38 an38 od39 an39 od40 an40 od41 an41 od42 an42 od43 an43 od44 an44 od45 an45 od46 an46 od47 an47 od48 an48 od49 an49 od50 an50 od51 an51 od52 an52 od53 an53 od54 an54 od55 an55 od56 an56 od57 an57 od58 an58 od59 an59 od60 an60 od61 an61 od62 an62 od63 an63 od64 an64 od65 an65 od66 an66 od67 an67 od68 an68 od69 an69 od70 an70 od71 an71 od72 an72 od73 an73 od74 an74:Option Addr}{sl1 sl2 sl3 sl4 sl5 sl6 sl7 sl8 sl9 sl10 sl11 sl12 sl13 sl14 sl15 sl16 sl17 sl18 sl19 sl20 sl21 sl22 sl23 sl24 sl25 sl26 sl27 sl28 sl29 sl30 sl31 sl32 sl33 sl34 sl35 sl36 sl37 sl38 sl39 sl40 sl41 sl42 sl43 sl44 sl45 sl46 sl47 sl48 sl49 sl50 sl51 sl52 sl53 sl54 sl55 sl56 sl57 sl58 sl59 sl60 sl61 sl62 sl63 sl64 sl65 sl66 sl67 sl68 sl69 sl70 sl71 sl72 sl73 sl74:Array (Option Value)}{oc1 kV1 dc1 pm1 cd1 ct1 oc2 kV2 dc2 pm2 cd2 ct2 oc3 kV3 dc3 pm3 cd3 ct3 oc4 kV4 dc4 pm4 cd4 ct4 oc5 kV5 dc5 pm5 cd5 ct5 oc6 kV6 dc6 pm6 cd6 ct6 oc7 kV7 dc7 pm7 cd7 ct7 oc8 kV8 dc8 pm8 cd8 ct8 oc9 kV9 dc9 pm9 cd9 ct9 oc10 kV10 dc10 pm10 cd10 ct10 oc11 kV11 dc11 pm11 cd11 ct11 oc12 kV12 dc12 pm12 cd12 ct12 oc13 kV13 dc13 pm13 cd13 ct13 oc14 kV14 dc14 pm14 cd14 ct14 oc15 kV15 dc15 pm15 cd15 ct15 oc16 kV16 dc16 pm16 cd16 ct16 oc17 kV17 dc17 pm17 cd17 ct17 oc18 kV18 dc18 pm18 cd18 ct18 oc19 kV19 dc19 pm19 cd19 ct19 oc20 kV20 dc20 pm20 cd20 ct20 oc21 kV21 dc21 pm21 cd21 ct21 oc22 kV22 dc22 pm22 cd22 ct22 oc23 kV23 dc23 pm23 cd23 ct23 oc24 kV24 dc24 pm24 cd24 ct24 oc25 kV25 dc25 pm25 cd25 ct25 oc26 kV26 dc26 pm26 cd26 ct26 oc27 kV27 dc27 pm27 cd27 ct27 oc28 kV28 dc28 pm28 cd28 ct28 oc29 kV29 dc29 pm29 cd29 ct29 oc30 kV30 dc30 pm30 cd30 ct30 oc31 kV31 dc31 pm31 cd31 ct31 oc32 kV32 dc32 pm32 cd32 ct32 oc33 kV33 dc33 pm33 cd33 ct33 oc34 kV34 dc34 pm34 cd34 ct34 oc35 kV35 dc35 pm35 cd35 ct35 oc36 kV36 dc36 pm36 cd36 ct36 oc37 kV37 dc37 pm37 cd37 ct37 oc38 kV38 dc38 pm38 cd38 ct38 oc39 kV39 dc39 pm39 cd39 ct39 oc40 kV40 dc40 pm40 cd40 ct40 oc41 kV41 dc41 pm41 cd41 ct41 oc42 kV42 dc42 pm42 cd42 ct42 oc43 kV43 dc43 pm43 cd43 ct43 oc44 kV44 dc44 pm44 cd44 ct44 oc45 kV45 dc45 pm45 cd45 ct45 oc46 kV46 dc46 pm46 cd46 ct46 oc47 kV47 dc47 pm47 cd47 ct47 oc48 kV48 dc48 pm48 cd48 ct48 oc49 kV49 dc49 pm49 cd49 ct49 oc50 kV50 dc50 pm50 cd50 ct50 oc51 kV51 dc51 pm51 cd51 ct51 oc52 kV52 dc52 pm52 cd52 ct52 oc53 kV53 dc53 pm53 cd53 ct53 oc54 kV54 dc54 pm54 cd54 ct54 oc55 kV55 dc55 pm55 cd55 ct55 oc56 kV56 dc56 pm56 cd56 ct56 oc57 kV57 dc57 pm57 cd57 ct57 oc58 kV58 dc58 pm58 cd58 ct58 oc59 kV59 dc59 pm59 cd59 ct59 oc60 kV60 dc60 pm60 cd60 ct60 oc61 kV61 dc61 pm61 cd61 ct61 oc62 kV62 dc62 pm62 cd62 ct62 oc63 kV63 dc63 pm63 cd63 ct63 oc64 kV64 dc64 pm64 cd64 ct64 oc65 kV65 dc65 pm65 cd65 ct65 oc66 kV66 dc66 pm66 cd66 ct66 oc67 kV67 dc67 pm67 cd67 ct67 oc68 kV68 dc68 pm68 cd68 ct68 oc69 kV69 dc69 pm69 cd69 ct69 oc70 kV70 dc70 pm70 cd70 ct70 oc71 kV71 dc71 pm71 cd71 ct71 oc72 kV72 dc72 pm72 cd72 ct72 oc73 kV73 dc73 pm73 cd73 ct73 oc74 kV74 dc74 pm74 cd74 ct74:Value}{qd7:Option Addr}{qn7:Nat}{qs7:Array (Option Value)}{qt7_0 qt7_1 qt7_2 qt7_3 qt7_4:Tok}
  (nCPart:nsIn K mainGlobals "Part" = some (some (.ref CPart)))
  (nCLet:nsIn K mainGlobals "Let" = some (some (.ref CLet)))
  (nCReckon:nsIn K mainGlobals "Reckon" = some (some (.ref CReckon)))
  (nCTake:nsIn K mainGlobals "Take" = some (some (.ref CTake)))
  (nCPut:nsIn K mainGlobals "Put" = some (some (.ref CPut)))
  (nCIf:nsIn K mainGlobals "If" = some (some (.ref CIf)))
  (nCEither:nsIn K mainGlobals "Either" = some (some (.ref CEither)))
  (nCTry:nsIn K mainGlobals "Try" = some (some (.ref CTry)))
  (nCThrow:nsIn K mainGlobals "Throw" = some (some (.ref CThrow)))
  (nCWait:nsIn K mainGlobals "Wait" = some (some (.ref CWait)))
  (nCReader:nsIn K mainGlobals "Reader" = some (some (.ref CReader)))
  (yiS:findIn K (.ref CLet) "__init__" = some (some (.ref f1)))
  (ygF:findIn K (.ref CReckon) "__init__" = some (some (.ref f2)))
  (yhF:findIn K (.ref CTake) "__init__" = some (some (.ref f3)))
  (yiT:findIn K (.ref CPut) "__init__" = some (some (.ref f4)))
  (yjY:findIn K (.ref CIf) "__init__" = some (some (.ref f5)))
  (ygG:findIn K (.ref CEither) "__init__" = some (some (.ref f6)))
  (yiU:findIn K (.ref CTry) "__init__" = some (some (.ref f7)))
  (yhb:findIn K (.ref CThrow) "__init__" = some (some (.ref f8)))
  (ygH:findIn K (.ref CReader) "__init__" = some (some (.ref f37)))
  (ymE:findIn K (.ref CPart) "long" = some (some (.ref f9)))
  (ynR:findIn K (.ref CLet) "long" = some (some (.ref f11)))
  (yjZ:findIn K (.ref CReckon) "long" = some (some (.ref f13)))
  (ymF:findIn K (.ref CTake) "long" = some (some (.ref f15)))
  (ynS:findIn K (.ref CPut) "long" = some (some (.ref f17)))
  (ypO:findIn K (.ref CIf) "long" = some (some (.ref f26)))
  (yka:findIn K (.ref CEither) "long" = some (some (.ref f28)))
  (ynT:findIn K (.ref CTry) "long" = some (some (.ref f30)))
  (ylw:findIn K (.ref CThrow) "long" = some (some (.ref f19)))
  (ymG:findIn K (.ref CWait) "long" = some (some (.ref f21)))
  (ylx:findIn K (.ref CPart) "shown" = some (some (.ref f10)))
  (ymH:findIn K (.ref CLet) "shown" = some (some (.ref f12)))
  (yiV:findIn K (.ref CReckon) "shown" = some (some (.ref f14)))
  (yly:findIn K (.ref CTake) "shown" = some (some (.ref f16)))
  (ymI:findIn K (.ref CPut) "shown" = some (some (.ref f18)))
  (ynU:findIn K (.ref CIf) "shown" = some (some (.ref f27)))
  (yiW:findIn K (.ref CEither) "shown" = some (some (.ref f29)))
  (ymJ:findIn K (.ref CTry) "shown" = some (some (.ref f31)))
  (ykb:findIn K (.ref CThrow) "shown" = some (some (.ref f20)))
  (ylz:findIn K (.ref CWait) "shown" = some (some (.ref f22)))
  (yiX:findIn K (.ref CReader) "ahead" = some (some (.ref f39)))
  (yiY:findIn K (.ref CReader) "taken" = some (some (.ref f40)))
  (ygc:findIn K (.ref CReader) "pass_over" = some (some (.ref f41)))
  (yfz:findIn K (.ref CReader) "slot_taken" = some (some (.ref f42)))
  (yfA:findIn K (.ref CReader) "name_taken" = some (some (.ref f43)))
  (yeC:findIn K (.ref CReader) "number_taken" = some (some (.ref f44)))
  (yfB:findIn K (.ref CReader) "list_taken" = some (some (.ref f47)))
  (yfC:findIn K (.ref CReader) "side_taken" = some (some (.ref f48)))
  (yfD:findIn K (.ref CReader) "part_taken" = some (some (.ref f49)))
  (ygI:findIn K (.ref CReader) "if_taken" = some (some (.ref f50)))
  (yeD:findIn K (.ref CReader) "either_taken" = some (some (.ref f51)))
  (ygd:findIn K (.ref CReader) "try_taken" = some (some (.ref f52)))
  (yfe:findIn K (.ref CReader) "plain_taken" = some (some (.ref f46)))
  (yeE:findIn K (.ref CReader) "reckon_taken" = some (some (.ref f45)))
  (i1:isFn K (.ref f1)=true)
  (l1:K.lookup f1=some ⟨oc1,od1,.func (fnOf "__init__" "Let.__init__" (yh ybY) (yg ybY) (yb ybY) .none kV1 dc1 pm1 an1 cd1 ct1),sl1⟩)
  (c1:codeIn K cd1 "Let.__init__" = true)
  (k1:keepIn K (.ref f1)=true)
  (i2:isFn K (.ref f2)=true)
  (l2:K.lookup f2=some ⟨oc2,od2,.func (fnOf "__init__" "Reckon.__init__" (yh ybt) (yg ybt) (yb ybt) .none kV2 dc2 pm2 an2 cd2 ct2),sl2⟩)
  (c2:codeIn K cd2 "Reckon.__init__" = true)
  (k2:keepIn K (.ref f2)=true)
  (i3:isFn K (.ref f3)=true)
  (l3:K.lookup f3=some ⟨oc3,od3,.func (fnOf "__init__" "Take.__init__" (yh ybN) (yg ybN) (yb ybN) .none kV3 dc3 pm3 an3 cd3 ct3),sl3⟩)
  (c3:codeIn K cd3 "Take.__init__" = true)
  (k3:keepIn K (.ref f3)=true)
  (i4:isFn K (.ref f4)=true)
  (l4:K.lookup f4=some ⟨oc4,od4,.func (fnOf "__init__" "Put.__init__" (yh ybZ) (yg ybZ) (yb ybZ) .none kV4 dc4 pm4 an4 cd4 ct4),sl4⟩)
  (c4:codeIn K cd4 "Put.__init__" = true)
  (k4:keepIn K (.ref f4)=true)
  (i5:isFn K (.ref f5)=true)
  (l5:K.lookup f5=some ⟨oc5,od5,.func (fnOf "__init__" "If.__init__" (yh ycq) (yg ycq) (yb ycq) .none kV5 dc5 pm5 an5 cd5 ct5),sl5⟩)
  (c5:codeIn K cd5 "If.__init__" = true)
  (k5:keepIn K (.ref f5)=true)
  (i6:isFn K (.ref f6)=true)
  (l6:K.lookup f6=some ⟨oc6,od6,.func (fnOf "__init__" "Either.__init__" (yh ybu) (yg ybu) (yb ybu) .none kV6 dc6 pm6 an6 cd6 ct6),sl6⟩)
  (c6:codeIn K cd6 "Either.__init__" = true)
  (k6:keepIn K (.ref f6)=true)
  (i7:isFn K (.ref f7)=true)
  (l7:K.lookup f7=some ⟨oc7,od7,.func (fnOf "__init__" "Try.__init__" (yh yca) (yg yca) (yb yca) .none kV7 dc7 pm7 an7 cd7 ct7),sl7⟩)
  (c7:codeIn K cd7 "Try.__init__" = true)
  (k7:keepIn K (.ref f7)=true)
  (i8:isFn K (.ref f8)=true)
  (l8:K.lookup f8=some ⟨oc8,od8,.func (fnOf "__init__" "Throw.__init__" (yh ybA) (yg ybA) (yb ybA) .none kV8 dc8 pm8 an8 cd8 ct8),sl8⟩)
  (c8:codeIn K cd8 "Throw.__init__" = true)
  (k8:keepIn K (.ref f8)=true)
  (i9:isFn K (.ref f9)=true)
  (l9:K.lookup f9=some ⟨oc9,od9,.func (fnOf "long" "Part.long" (yh ydW) (yg ydW) (yb ydW) .none kV9 dc9 pm9 an9 cd9 ct9),sl9⟩)
  (c9:codeIn K cd9 "Part.long" = true)
  (k9:keepIn K (.ref f9)=true)
  (i10:isFn K (.ref f10)=true)
  (l10:K.lookup f10=some ⟨oc10,od10,.func (fnOf "shown" "Part.shown" (yh yde) (yg yde) (yb yde) .none kV10 dc10 pm10 an10 cd10 ct10),sl10⟩)
  (c10:codeIn K cd10 "Part.shown" = true)
  (k10:keepIn K (.ref f10)=true)
  (i11:isFn K (.ref f11)=true)
  (l11:K.lookup f11=some ⟨oc11,od11,.func (fnOf "long" "Let.long" (yh yfl) (yg yfl) (yb yfl) .none kV11 dc11 pm11 an11 cd11 ct11),sl11⟩)
  (c11:codeIn K cd11 "Let.long" = true)
  (k11:keepIn K (.ref f11)=true)
  (i12:isFn K (.ref f12)=true)
  (l12:K.lookup f12=some ⟨oc12,od12,.func (fnOf "shown" "Let.shown" (yh ydX) (yg ydX) (yb ydX) .none kV12 dc12 pm12 an12 cd12 ct12),sl12⟩)
  (c12:codeIn K cd12 "Let.shown" = true)
  (k12:keepIn K (.ref f12)=true)
  (i13:isFn K (.ref f13)=true)
  (l13:K.lookup f13=some ⟨oc13,od13,.func (fnOf "long" "Reckon.long" (yh ycr) (yg ycr) (yb ycr) .none kV13 dc13 pm13 an13 cd13 ct13),sl13⟩)
  (c13:codeIn K cd13 "Reckon.long" = true)
  (k13:keepIn K (.ref f13)=true)
  (i14:isFn K (.ref f14)=true)
  (l14:K.lookup f14=some ⟨oc14,od14,.func (fnOf "shown" "Reckon.shown" (yh ycb) (yg ycb) (yb ycb) .none kV14 dc14 pm14 an14 cd14 ct14),sl14⟩)
  (c14:codeIn K cd14 "Reckon.shown" = true)
  (k14:keepIn K (.ref f14)=true)
  (i15:isFn K (.ref f15)=true)
  (l15:K.lookup f15=some ⟨oc15,od15,.func (fnOf "long" "Take.long" (yh ydY) (yg ydY) (yb ydY) .none kV15 dc15 pm15 an15 cd15 ct15),sl15⟩)
  (c15:codeIn K cd15 "Take.long" = true)
  (k15:keepIn K (.ref f15)=true)
  (i16:isFn K (.ref f16)=true)
  (l16:K.lookup f16=some ⟨oc16,od16,.func (fnOf "shown" "Take.shown" (yh ydf) (yg ydf) (yb ydf) .none kV16 dc16 pm16 an16 cd16 ct16),sl16⟩)
  (c16:codeIn K cd16 "Take.shown" = true)
  (k16:keepIn K (.ref f16)=true)
  (i17:isFn K (.ref f17)=true)
  (l17:K.lookup f17=some ⟨oc17,od17,.func (fnOf "long" "Put.long" (yh yfm) (yg yfm) (yb yfm) .none kV17 dc17 pm17 an17 cd17 ct17),sl17⟩)
  (c17:codeIn K cd17 "Put.long" = true)
  (k17:keepIn K (.ref f17)=true)
  (i18:isFn K (.ref f18)=true)
  (l18:K.lookup f18=some ⟨oc18,od18,.func (fnOf "shown" "Put.shown" (yh ydZ) (yg ydZ) (yb ydZ) .none kV18 dc18 pm18 an18 cd18 ct18),sl18⟩)
  (c18:codeIn K cd18 "Put.shown" = true)
  (k18:keepIn K (.ref f18)=true)
  (i19:isFn K (.ref f19)=true)
  (l19:K.lookup f19=some ⟨oc19,od19,.func (fnOf "long" "Throw.long" (yh ydg) (yg ydg) (yb ydg) .none kV19 dc19 pm19 an19 cd19 ct19),sl19⟩)
  (c19:codeIn K cd19 "Throw.long" = true)
  (k19:keepIn K (.ref f19)=true)
  (i20:isFn K (.ref f20)=true)
  (l20:K.lookup f20=some ⟨oc20,od20,.func (fnOf "shown" "Throw.shown" (yh ycs) (yg ycs) (yb ycs) .none kV20 dc20 pm20 an20 cd20 ct20),sl20⟩)
  (c20:codeIn K cd20 "Throw.shown" = true)
  (k20:keepIn K (.ref f20)=true)
  (i21:isFn K (.ref f21)=true)
  (l21:K.lookup f21=some ⟨oc21,od21,.func (fnOf "long" "Wait.long" (yh yea) (yg yea) (yb yea) .none kV21 dc21 pm21 an21 cd21 ct21),sl21⟩)
  (c21:codeIn K cd21 "Wait.long" = true)
  (k21:keepIn K (.ref f21)=true)
  (i22:isFn K (.ref f22)=true)
  (l22:K.lookup f22=some ⟨oc22,od22,.func (fnOf "shown" "Wait.shown" (yh ydh) (yg ydh) (yb ydh) .none kV22 dc22 pm22 an22 cd22 ct22),sl22⟩)
  (c22:codeIn K cd22 "Wait.shown" = true)
  (k22:keepIn K (.ref f22)=true)
  (a23:nsIn K mainGlobals "list_long" = some (some (.ref f23)))
  (l23:K.lookup f23=some ⟨oc23,od23,.func (fnOf "list_long" "list_long" (yh yeb) (yg yeb) (yb yeb) .none kV23 dc23 pm23 an23 cd23 ct23),sl23⟩)
  (c23:codeIn K cd23 "list_long" = true)
  (k23:keepIn K (.ref f23)=true)
  (a24:nsIn K mainGlobals "list_shown" = some (some (.ref f24)))
  (l24:K.lookup f24=some ⟨oc24,od24,.func (fnOf "list_shown" "list_shown" (yh ydi) (yg ydi) (yb ydi) .none kV24 dc24 pm24 an24 cd24 ct24),sl24⟩)
  (c24:codeIn K cd24 "list_shown" = true)
  (k24:keepIn K (.ref f24)=true)
  (a25:nsIn K mainGlobals "side_shown" = some (some (.ref f25)))
  (l25:K.lookup f25=some ⟨oc25,od25,.func (fnOf "side_shown" "side_shown" (yh ydj) (yg ydj) (yb ydj) .none kV25 dc25 pm25 an25 cd25 ct25),sl25⟩)
  (c25:codeIn K cd25 "side_shown" = true)
  (k25:keepIn K (.ref f25)=true)
  (i26:isFn K (.ref f26)=true)
  (l26:K.lookup f26=some ⟨oc26,od26,.func (fnOf "long" "If.long" (yh ygr) (yg ygr) (yb ygr) .none kV26 dc26 pm26 an26 cd26 ct26),sl26⟩)
  (c26:codeIn K cd26 "If.long" = true)
  (k26:keepIn K (.ref f26)=true)
  (i27:isFn K (.ref f27)=true)
  (l27:K.lookup f27=some ⟨oc27,od27,.func (fnOf "shown" "If.shown" (yh yfn) (yg yfn) (yb yfn) .none kV27 dc27 pm27 an27 cd27 ct27),sl27⟩)
  (c27:codeIn K cd27 "If.shown" = true)
  (k27:keepIn K (.ref f27)=true)
  (i28:isFn K (.ref f28)=true)
  (l28:K.lookup f28=some ⟨oc28,od28,.func (fnOf "long" "Either.long" (yh yct) (yg yct) (yb yct) .none kV28 dc28 pm28 an28 cd28 ct28),sl28⟩)
  (c28:codeIn K cd28 "Either.long" = true)
  (k28:keepIn K (.ref f28)=true)
  (i29:isFn K (.ref f29)=true)
  (l29:K.lookup f29=some ⟨oc29,od29,.func (fnOf "shown" "Either.shown" (yh ycc) (yg ycc) (yb ycc) .none kV29 dc29 pm29 an29 cd29 ct29),sl29⟩)
  (c29:codeIn K cd29 "Either.shown" = true)
  (k29:keepIn K (.ref f29)=true)
  (i30:isFn K (.ref f30)=true)
  (l30:K.lookup f30=some ⟨oc30,od30,.func (fnOf "long" "Try.long" (yh yfo) (yg yfo) (yb yfo) .none kV30 dc30 pm30 an30 cd30 ct30),sl30⟩)
  (c30:codeIn K cd30 "Try.long" = true)
  (k30:keepIn K (.ref f30)=true)
  (i31:isFn K (.ref f31)=true)
  (l31:K.lookup f31=some ⟨oc31,od31,.func (fnOf "shown" "Try.shown" (yh yec) (yg yec) (yb yec) .none kV31 dc31 pm31 an31 cd31 ct31),sl31⟩)
  (c31:codeIn K cd31 "Try.shown" = true)
  (k31:keepIn K (.ref f31)=true)
  (a32:nsIn K mainGlobals "is_made_of" = some (some (.ref f32)))
  (l32:K.lookup f32=some ⟨oc32,od32,.func (fnOf "is_made_of" "is_made_of" (yh ydk) (yg ydk) (yb ydk) .none kV32 dc32 pm32 an32 cd32 ct32),sl32⟩)
  (c32:codeIn K cd32 "is_made_of" = true)
  (k32:keepIn K (.ref f32)=true)
  (a33:nsIn K mainGlobals "number_of" = some (some (.ref f33)))
  (l33:K.lookup f33=some ⟨oc33,od33,.func (fnOf "number_of" "number_of" (yh yed) (yg yed) (yb yed) .none kV33 dc33 pm33 an33 cd33 ct33),sl33⟩)
  (c33:codeIn K cd33 "number_of" = true)
  (k33:keepIn K (.ref f33)=true)
  (a34:nsIn K mainGlobals "is_word" = some (some (.ref f34)))
  (l34:K.lookup f34=some ⟨oc34,od34,.func (fnOf "is_word" "is_word" (yh ygs) (yg ygs) (yb ygs) .none kV34 dc34 pm34 an34 cd34 ct34),sl34⟩)
  (c34:codeIn K cd34 "is_word" = true)
  (k34:keepIn K (.ref f34)=true)
  (a35:nsIn K mainGlobals "is_slot" = some (some (.ref f35)))
  (l35:K.lookup f35=some ⟨oc35,od35,.func (fnOf "is_slot" "is_slot" (yh ygt) (yg ygt) (yb ygt) .none kV35 dc35 pm35 an35 cd35 ct35),sl35⟩)
  (c35:codeIn K cd35 "is_slot" = true)
  (k35:keepIn K (.ref f35)=true)
  (a36:nsIn K mainGlobals "is_name" = some (some (.ref f36)))
  (l36:K.lookup f36=some ⟨oc36,od36,.func (fnOf "is_name" "is_name" (yh ygu) (yg ygu) (yb ygu) .none kV36 dc36 pm36 an36 cd36 ct36),sl36⟩)
  (c36:codeIn K cd36 "is_name" = true)
  (k36:keepIn K (.ref f36)=true)
  (i37:isFn K (.ref f37)=true)
  (l37:K.lookup f37=some ⟨oc37,od37,.func (fnOf "__init__" "Reader.__init__" (yh ybv) (yg ybv) (yb ybv) .none kV37 dc37 pm37 an37 cd37 ct37),sl37⟩)
  (c37:codeIn K cd37 "Reader.__init__" = true)
  (k37:keepIn K (.ref f37)=true)
  (a38:nsIn K mainGlobals "words_of" = some (some (.ref f38)))
  (l38:K.lookup f38=some ⟨oc38,od38,.func (fnOf "words_of" "words_of" (yh yfp) (yg yfp) (yb yfp) .none kV38 dc38 pm38 an38 cd38 ct38),sl38⟩)
  (c38:codeIn K cd38 "words_of" = true)
  (k38:keepIn K (.ref f38)=true)
  (i39:isFn K (.ref f39)=true)
  (l39:K.lookup f39=some ⟨oc39,od39,.func (fnOf "ahead" "Reader.ahead" (yh ycd) (yg ycd) (yb ycd) .none kV39 dc39 pm39 an39 cd39 ct39),sl39⟩)
  (c39:codeIn K cd39 "Reader.ahead" = true)
  (k39:keepIn K (.ref f39)=true)
  (i40:isFn K (.ref f40)=true)
  (l40:K.lookup f40=some ⟨oc40,od40,.func (fnOf "taken" "Reader.taken" (yh yce) (yg yce) (yb yce) .none kV40 dc40 pm40 an40 cd40 ct40),sl40⟩)
  (c40:codeIn K cd40 "Reader.taken" = true)
  (k40:keepIn K (.ref f40)=true)
  (i41:isFn K (.ref f41)=true)
  (l41:K.lookup f41=some ⟨oc41,od41,.func (fnOf "pass_over" "Reader.pass_over" (yh ybl) (yg ybl) (yb ybl) .none kV41 dc41 pm41 an41 cd41 ct41),sl41⟩)
  (c41:codeIn K cd41 "Reader.pass_over" = true)
  (k41:keepIn K (.ref f41)=true)
  (i42:isFn K (.ref f42)=true)
  (l42:K.lookup f42=some ⟨oc42,od42,.func (fnOf "slot_taken" "Reader.slot_taken" (yh yY) (yg yY) (yb yY) .none kV42 dc42 pm42 an42 cd42 ct42),sl42⟩)
  (c42:codeIn K cd42 "Reader.slot_taken" = true)
  (k42:keepIn K (.ref f42)=true)
  (i43:isFn K (.ref f43)=true)
  (l43:K.lookup f43=some ⟨oc43,od43,.func (fnOf "name_taken" "Reader.name_taken" (yh yZ) (yg yZ) (yb yZ) .none kV43 dc43 pm43 an43 cd43 ct43),sl43⟩)
  (c43:codeIn K cd43 "Reader.name_taken" = true)
  (k43:keepIn K (.ref f43)=true)
  (i44:isFn K (.ref f44)=true)
  (l44:K.lookup f44=some ⟨oc44,od44,.func (fnOf "number_taken" "Reader.number_taken" (yh yO) (yg yO) (yb yO) .none kV44 dc44 pm44 an44 cd44 ct44),sl44⟩)
  (c44:codeIn K cd44 "Reader.number_taken" = true)
  (k44:keepIn K (.ref f44)=true)
  (i45:isFn K (.ref f45)=true)
  (l45:K.lookup f45=some ⟨oc45,od45,.func (fnOf "reckon_taken" "Reader.reckon_taken" (yh yP) (yg yP) (yb yP) .none kV45 dc45 pm45 an45 cd45 ct45),sl45⟩)
  (c45:codeIn K cd45 "Reader.reckon_taken" = true)
  (k45:keepIn K (.ref f45)=true)
  (i46:isFn K (.ref f46)=true)
  (l46:K.lookup f46=some ⟨oc46,od46,.func (fnOf "plain_taken" "Reader.plain_taken" (yh yT) (yg yT) (yb yT) .none kV46 dc46 pm46 an46 cd46 ct46),sl46⟩)
  (c46:codeIn K cd46 "Reader.plain_taken" = true)
  (k46:keepIn K (.ref f46)=true)
  (i47:isFn K (.ref f47)=true)
  (l47:K.lookup f47=some ⟨oc47,od47,.func (fnOf "list_taken" "Reader.list_taken" (yh yba) (yg yba) (yb yba) .none kV47 dc47 pm47 an47 cd47 ct47),sl47⟩)
  (c47:codeIn K cd47 "Reader.list_taken" = true)
  (k47:keepIn K (.ref f47)=true)
  (i48:isFn K (.ref f48)=true)
  (l48:K.lookup f48=some ⟨oc48,od48,.func (fnOf "side_taken" "Reader.side_taken" (yh ybb) (yg ybb) (yb ybb) .none kV48 dc48 pm48 an48 cd48 ct48),sl48⟩)
  (c48:codeIn K cd48 "Reader.side_taken" = true)
  (k48:keepIn K (.ref f48)=true)
  (i49:isFn K (.ref f49)=true)
  (l49:K.lookup f49=some ⟨oc49,od49,.func (fnOf "part_taken" "Reader.part_taken" (yh ybc) (yg ybc) (yb ybc) .none kV49 dc49 pm49 an49 cd49 ct49),sl49⟩)
  (c49:codeIn K cd49 "Reader.part_taken" = true)
  (k49:keepIn K (.ref f49)=true)
  (i50:isFn K (.ref f50)=true)
  (l50:K.lookup f50=some ⟨oc50,od50,.func (fnOf "if_taken" "Reader.if_taken" (yh ybw) (yg ybw) (yb ybw) .none kV50 dc50 pm50 an50 cd50 ct50),sl50⟩)
  (c50:codeIn K cd50 "Reader.if_taken" = true)
  (k50:keepIn K (.ref f50)=true)
  (i51:isFn K (.ref f51)=true)
  (l51:K.lookup f51=some ⟨oc51,od51,.func (fnOf "either_taken" "Reader.either_taken" (yh yQ) (yg yQ) (yb yQ) .none kV51 dc51 pm51 an51 cd51 ct51),sl51⟩)
  (c51:codeIn K cd51 "Reader.either_taken" = true)
  (k51:keepIn K (.ref f51)=true)
  (i52:isFn K (.ref f52)=true)
  (l52:K.lookup f52=some ⟨oc52,od52,.func (fnOf "try_taken" "Reader.try_taken" (yh ybm) (yg ybm) (yb ybm) .none kV52 dc52 pm52 an52 cd52 ct52),sl52⟩)
  (c52:codeIn K cd52 "Reader.try_taken" = true)
  (k52:keepIn K (.ref f52)=true)
  (a53:nsIn K mainGlobals "read" = some (some (.ref f53)))
  (l53:K.lookup f53=some ⟨oc53,od53,.func (fnOf "read" "read" (yh yoo) (yg yoo) (yb yoo) .none kV53 dc53 pm53 an53 cd53 ct53),sl53⟩)
  (c53:codeIn K cd53 "read" = true)
  (k53:keepIn K (.ref f53)=true)
  (a54:nsIn K mainGlobals "shown" = some (some (.ref f54)))
  (l54:K.lookup f54=some ⟨oc54,od54,.func (fnOf "shown" "shown" (yh ygv) (yg ygv) (yb ygv) .none kV54 dc54 pm54 an54 cd54 ct54),sl54⟩)
  (c54:codeIn K cd54 "shown" = true)
  (k54:keepIn K (.ref f54)=true)
  (a55:nsIn K mainGlobals "_law_whole" = some (some (.ref f55)))
  (l55:K.lookup f55=some ⟨oc55,od55,.func (fnOf "_law_whole" "_law_whole" (yh ydl) (yg ydl) (yb ydl) .none kV55 dc55 pm55 an55 cd55 ct55),sl55⟩)
  (c55:codeIn K cd55 "_law_whole" = true)
  (k55:keepIn K (.ref f55)=true)
  (a56:nsIn K mainGlobals "_law_name" = some (some (.ref f56)))
  (l56:K.lookup f56=some ⟨oc56,od56,.func (fnOf "_law_name" "_law_name" (yh yee) (yg yee) (yb yee) .none kV56 dc56 pm56 an56 cd56 ct56),sl56⟩)
  (c56:codeIn K cd56 "_law_name" = true)
  (k56:keepIn K (.ref f56)=true)
  (a57:nsIn K mainGlobals "_law_slot" = some (some (.ref f57)))
  (l57:K.lookup f57=some ⟨oc57,od57,.func (fnOf "_law_slot" "_law_slot" (yh yef) (yg yef) (yb yef) .none kV57 dc57 pm57 an57 cd57 ct57),sl57⟩)
  (c57:codeIn K cd57 "_law_slot" = true)
  (k57:keepIn K (.ref f57)=true)
  (a58:nsIn K mainGlobals "_law_number" = some (some (.ref f58)))
  (l58:K.lookup f58=some ⟨oc58,od58,.func (fnOf "_law_number" "_law_number" (yh ycu) (yg ycu) (yb ycu) .none kV58 dc58 pm58 an58 cd58 ct58),sl58⟩)
  (c58:codeIn K cd58 "_law_number" = true)
  (k58:keepIn K (.ref f58)=true)
  (a59:nsIn K mainGlobals "_law_plain" = some (some (.ref f59)))
  (l59:K.lookup f59=some ⟨oc59,od59,.func (fnOf "_law_plain" "_law_plain" (yh ydm) (yg ydm) (yb ydm) .none kV59 dc59 pm59 an59 cd59 ct59),sl59⟩)
  (c59:codeIn K cd59 "_law_plain" = true)
  (k59:keepIn K (.ref f59)=true)
  (a60:nsIn K mainGlobals "_law_sided" = some (some (.ref f60)))
  (l60:K.lookup f60=some ⟨oc60,od60,.func (fnOf "_law_sided" "_law_sided" (yh ydn) (yg ydn) (yb ydn) .none kV60 dc60 pm60 an60 cd60 ct60),sl60⟩)
  (c60:codeIn K cd60 "_law_sided" = true)
  (k60:keepIn K (.ref f60)=true)
  (a61:nsIn K mainGlobals "_law_sides" = some (some (.ref f61)))
  (l61:K.lookup f61=some ⟨oc61,od61,.func (fnOf "_law_sides" "_law_sides" (yh ydo) (yg ydo) (yb ydo) .none kV61 dc61 pm61 an61 cd61 ct61),sl61⟩)
  (c61:codeIn K cd61 "_law_sides" = true)
  (k61:keepIn K (.ref f61)=true)
  (a62:nsIn K mainGlobals "_law_round" = some (some (.ref f62)))
  (l62:K.lookup f62=some ⟨oc62,od62,.func (fnOf "_law_round" "_law_round" (yh ydp) (yg ydp) (yb ydp) .none kV62 dc62 pm62 an62 cd62 ct62),sl62⟩)
  (c62:codeIn K cd62 "_law_round" = true)
  (k62:keepIn K (.ref f62)=true)
  (a63:nsIn K mainGlobals "_law_long" = some (some (.ref f63)))
  (l63:K.lookup f63=some ⟨oc63,od63,.func (fnOf "_law_long" "_law_long" (yh yeg) (yg yeg) (yb yeg) .none kV63 dc63 pm63 an63 cd63 ct63),sl63⟩)
  (c63:codeIn K cd63 "_law_long" = true)
  (k63:keepIn K (.ref f63)=true)
  (a64:nsIn K mainGlobals "_law_more" = some (some (.ref f64)))
  (l64:K.lookup f64=some ⟨oc64,od64,.func (fnOf "_law_more" "_law_more" (yh yeh) (yg yeh) (yb yeh) .none kV64 dc64 pm64 an64 cd64 ct64),sl64⟩)
  (c64:codeIn K cd64 "_law_more" = true)
  (k64:keepIn K (.ref f64)=true)
  (a65:nsIn K mainGlobals "_law_in" = some (some (.ref f65)))
  (l65:K.lookup f65=some ⟨oc65,od65,.func (fnOf "_law_in" "_law_in" (yh ygw) (yg ygw) (yb ygw) .none kV65 dc65 pm65 an65 cd65 ct65),sl65⟩)
  (c65:codeIn K cd65 "_law_in" = true)
  (k65:keepIn K (.ref f65)=true)
  (a66:nsIn K mainGlobals "_law_text" = some (some (.ref f66)))
  (l66:K.lookup f66=some ⟨oc66,od66,.func (fnOf "_law_text" "_law_text" (yh yei) (yg yei) (yb yei) .none kV66 dc66 pm66 an66 cd66 ct66),sl66⟩)
  (c66:codeIn K cd66 "_law_text" = true)
  (k66:keepIn K (.ref f66)=true)
  (a67:nsIn K mainGlobals "_law_values" = some (some (.ref f67)))
  (l67:K.lookup f67=some ⟨oc67,od67,.func (fnOf "_law_values" "_law_values" (yh ycv) (yg ycv) (yb ycv) .none kV67 dc67 pm67 an67 cd67 ct67),sl67⟩)
  (c67:codeIn K cd67 "_law_values" = true)
  (k67:keepIn K (.ref f67)=true)
  (a68:nsIn K mainGlobals "_law_same" = some (some (.ref f68)))
  (l68:K.lookup f68=some ⟨oc68,od68,.func (fnOf "_law_same" "_law_same" (yh yej) (yg yej) (yb yej) .none kV68 dc68 pm68 an68 cd68 ct68),sl68⟩)
  (c68:codeIn K cd68 "_law_same" = true)
  (k68:keepIn K (.ref f68)=true)
  (a69:nsIn K mainGlobals "_law_made" = some (some (.ref f69)))
  (l69:K.lookup f69=some ⟨oc69,od69,.func (fnOf "_law_made" "_law_made" (yh yek) (yg yek) (yb yek) .none kV69 dc69 pm69 an69 cd69 ct69),sl69⟩)
  (c69:codeIn K cd69 "_law_made" = true)
  (k69:keepIn K (.ref f69)=true)
  (a70:nsIn K mainGlobals "_law_deed" = some (some (.ref f70)))
  (l70:K.lookup f70=some ⟨oc70,od70,.func (fnOf "_law_deed" "_law_deed" (yh yel) (yg yel) (yb yel) .none kV70 dc70 pm70 an70 cd70 ct70),sl70⟩)
  (c70:codeIn K cd70 "_law_deed" = true)
  (k70:keepIn K (.ref f70)=true)
  (a71:nsIn K mainGlobals "_law_deed" = some (some (.ref f71)))
  (l71:K.lookup f71=some ⟨oc71,od71,.func (fnOf "_law_deed" "_law_deed" (yh ycw) (yg ycw) (yb ycw) .none kV71 dc71 pm71 an71 cd71 ct71),sl71⟩)
  (c71:codeIn K cd71 "_law_deed" = true)
  (k71:keepIn K (.ref f71)=true)
  (a72:nsIn K mainGlobals "_law_wrapped" = some (some (.ref f72)))
  (l72:K.lookup f72=some ⟨oc72,od72,.func (fnOf "_law_wrapped" "_law_wrapped" (yh ycf) (yg ycf) (yb ycf) .none kV72 dc72 pm72 an72 cd72 ct72),sl72⟩)
  (c72:codeIn K cd72 "_law_wrapped" = true)
  (k72:keepIn K (.ref f72)=true)
  (a73:nsIn K mainGlobals "_law_right" = some (some (.ref f73)))
  (l73:K.lookup f73=some ⟨oc73,od73,.func (fnOf "_law_right" "_law_right" (yh ydq) (yg ydq) (yb ydq) .none kV73 dc73 pm73 an73 cd73 ct73),sl73⟩)
  (c73:codeIn K cd73 "_law_right" = true)
  (k73:keepIn K (.ref f73)=true)
  (a74:nsIn K mainGlobals "law" = some (some (.ref f74)))
  (l74:K.lookup f74=some ⟨oc74,od74,.func (fnOf "law" "law" (yh yqs) (yg yqs) (yb yqs) .none kV74 dc74 pm74 an74 cd74 ct74),sl74⟩)
  (c74:codeIn K cd74 "law" = true)
  (k74:keepIn K (.ref f74)=true)
  (pgPart:plainGet K CPart Str.empty=true)
  (hdPart:hasDictIn K CPart=true)
  (poPart:plainOver K CPart=true)
  (saPart:findIn K (.ref CPart) "__setattr__" = some (some (.builtin "object.__setattr__")))
  (mkPart:makesIn K CPart=true)
  (kcPart:keepIn K (.ref CPart)=true)
  (ioPart:findIn K (.ref CPart) "__init__" = some (some (.builtin "object.__init__")))
  (haPart:findIn K (.ref CPart) "__class__" = some (some (.builtin "object.__class__")))
  (hmPart:mroIn K CPart (.type "object")=some true)
  (pgLet:plainGet K CLet Str.empty=true)
  (hdLet:hasDictIn K CLet=true)
  (poLet:plainOver K CLet=true)
  (saLet:findIn K (.ref CLet) "__setattr__" = some (some (.builtin "object.__setattr__")))
  (mkLet:makesIn K CLet=true)
  (kcLet:keepIn K (.ref CLet)=true)
  (haLet:findIn K (.ref CLet) "__class__" = some (some (.builtin "object.__class__")))
  (hmLet:mroIn K CLet (.type "object")=some true)
  (pgReckon:plainGet K CReckon Str.empty=true)
  (hdReckon:hasDictIn K CReckon=true)
  (poReckon:plainOver K CReckon=true)
  (saReckon:findIn K (.ref CReckon) "__setattr__" = some (some (.builtin "object.__setattr__")))
  (mkReckon:makesIn K CReckon=true)
  (kcReckon:keepIn K (.ref CReckon)=true)
  (haReckon:findIn K (.ref CReckon) "__class__" = some (some (.builtin "object.__class__")))
  (hmReckon:mroIn K CReckon (.type "object")=some true)
  (pgTake:plainGet K CTake Str.empty=true)
  (hdTake:hasDictIn K CTake=true)
  (poTake:plainOver K CTake=true)
  (saTake:findIn K (.ref CTake) "__setattr__" = some (some (.builtin "object.__setattr__")))
  (mkTake:makesIn K CTake=true)
  (kcTake:keepIn K (.ref CTake)=true)
  (haTake:findIn K (.ref CTake) "__class__" = some (some (.builtin "object.__class__")))
  (hmTake:mroIn K CTake (.type "object")=some true)
  (pgPut:plainGet K CPut Str.empty=true)
  (hdPut:hasDictIn K CPut=true)
  (poPut:plainOver K CPut=true)
  (saPut:findIn K (.ref CPut) "__setattr__" = some (some (.builtin "object.__setattr__")))
  (mkPut:makesIn K CPut=true)
  (kcPut:keepIn K (.ref CPut)=true)
  (haPut:findIn K (.ref CPut) "__class__" = some (some (.builtin "object.__class__")))
  (hmPut:mroIn K CPut (.type "object")=some true)
  (pgIf:plainGet K CIf Str.empty=true)
  (hdIf:hasDictIn K CIf=true)
  (poIf:plainOver K CIf=true)
  (saIf:findIn K (.ref CIf) "__setattr__" = some (some (.builtin "object.__setattr__")))
  (mkIf:makesIn K CIf=true)
  (kcIf:keepIn K (.ref CIf)=true)
  (haIf:findIn K (.ref CIf) "__class__" = some (some (.builtin "object.__class__")))
  (hmIf:mroIn K CIf (.type "object")=some true)
  (pgEither:plainGet K CEither Str.empty=true)
  (hdEither:hasDictIn K CEither=true)
  (poEither:plainOver K CEither=true)
  (saEither:findIn K (.ref CEither) "__setattr__" = some (some (.builtin "object.__setattr__")))
  (mkEither:makesIn K CEither=true)
  (kcEither:keepIn K (.ref CEither)=true)
  (haEither:findIn K (.ref CEither) "__class__" = some (some (.builtin "object.__class__")))
  (hmEither:mroIn K CEither (.type "object")=some true)
  (pgTry:plainGet K CTry Str.empty=true)
  (hdTry:hasDictIn K CTry=true)
  (poTry:plainOver K CTry=true)
  (saTry:findIn K (.ref CTry) "__setattr__" = some (some (.builtin "object.__setattr__")))
  (mkTry:makesIn K CTry=true)
  (kcTry:keepIn K (.ref CTry)=true)
  (haTry:findIn K (.ref CTry) "__class__" = some (some (.builtin "object.__class__")))
  (hmTry:mroIn K CTry (.type "object")=some true)
  (pgThrow:plainGet K CThrow Str.empty=true)
  (hdThrow:hasDictIn K CThrow=true)
  (poThrow:plainOver K CThrow=true)
  (saThrow:findIn K (.ref CThrow) "__setattr__" = some (some (.builtin "object.__setattr__")))
  (mkThrow:makesIn K CThrow=true)
  (kcThrow:keepIn K (.ref CThrow)=true)
  (haThrow:findIn K (.ref CThrow) "__class__" = some (some (.builtin "object.__class__")))
  (hmThrow:mroIn K CThrow (.type "object")=some true)
  (pgWait:plainGet K CWait Str.empty=true)
  (hdWait:hasDictIn K CWait=true)
  (poWait:plainOver K CWait=true)
  (saWait:findIn K (.ref CWait) "__setattr__" = some (some (.builtin "object.__setattr__")))
  (mkWait:makesIn K CWait=true)
  (kcWait:keepIn K (.ref CWait)=true)
  (ioWait:findIn K (.ref CWait) "__init__" = some (some (.builtin "object.__init__")))
  (haWait:findIn K (.ref CWait) "__class__" = some (some (.builtin "object.__class__")))
  (hmWait:mroIn K CWait (.type "object")=some true)
  (pgReader:plainGet K CReader Str.empty=true)
  (hdReader:hasDictIn K CReader=true)
  (poReader:plainOver K CReader=true)
  (saReader:findIn K (.ref CReader) "__setattr__" = some (some (.builtin "object.__setattr__")))
  (mkReader:makesIn K CReader=true)
  (kcReader:keepIn K (.ref CReader)=true)
  (naLet_slot:findIn K (.ref CLet) "slot" = some none)
  (naReckon_slot:findIn K (.ref CReckon) "slot" = some none)
  (naTake_slot:findIn K (.ref CTake) "slot" = some none)
  (naPut_slot:findIn K (.ref CPut) "slot" = some none)
  (naIf_slot:findIn K (.ref CIf) "slot" = some none)
  (naTry_slot:findIn K (.ref CTry) "slot" = some none)
  (naThrow_slot:findIn K (.ref CThrow) "slot" = some none)
  (naLet_number:findIn K (.ref CLet) "number" = some none)
  (naReckon_word:findIn K (.ref CReckon) "word" = some none)
  (naReckon_one:findIn K (.ref CReckon) "one" = some none)
  (naReckon_other:findIn K (.ref CReckon) "other" = some none)
  (naTake_place:findIn K (.ref CTake) "place" = some none)
  (naPut_place:findIn K (.ref CPut) "place" = some none)
  (naTry_name:findIn K (.ref CTry) "name" = some none)
  (naThrow_name:findIn K (.ref CThrow) "name" = some none)
  (naIf_parts:findIn K (.ref CIf) "parts" = some none)
  (naEither_parts:findIn K (.ref CEither) "parts" = some none)
  (naTry_parts:findIn K (.ref CTry) "parts" = some none)
  (naIf_others:findIn K (.ref CIf) "others" = some none)
  (naEither_others:findIn K (.ref CEither) "others" = some none)
  (naTry_others:findIn K (.ref CTry) "others" = some none)
  (naReader_words:findIn K (.ref CReader) "words" = some none)
  (naReader_at:findIn K (.ref CReader) "at" = some none)
  (sb1_0:subIn K (.ref CLet) (.ref CPart)=some true)
  (sb2_0:subIn K (.ref CReckon) (.ref CPart)=some true)
  (sb3_0:subIn K (.ref CTake) (.ref CPart)=some true)
  (sb4_0:subIn K (.ref CPut) (.ref CPart)=some true)
  (sb5_0:subIn K (.ref CIf) (.ref CPart)=some true)
  (sb6_0:subIn K (.ref CEither) (.ref CPart)=some true)
  (sb7_0:subIn K (.ref CTry) (.ref CPart)=some true)
  (sb8_0:subIn K (.ref CThrow) (.ref CPart)=some true)
  (sb9_0:subIn K (.ref CWait) (.ref CPart)=some true)
  (ty0:typeIn K (.ref CPart)=some (.type "type"))
  (hn:PySem.W.specialIn K (.builtin "object.__class__") "__get__" = some (some (.builtin "getset_descriptor.__get__")))
  (htk:PySem.W.takesIn K (.builtin "object.__class__")=some true)
  (z1:nsIn K mainGlobals "all" = some none)
  (z2:nsIn K mainGlobals "bool" = some none)
  (z3:nsIn K mainGlobals "int" = some none)
  (z4:nsIn K mainGlobals "isinstance" = some none)
  (z5:nsIn K mainGlobals "len" = some none)
  (z6:nsIn K mainGlobals "list" = some none)
  (z7:nsIn K mainGlobals "max" = some none)
  (z8:nsIn K mainGlobals "range" = some none)
  (z9:nsIn K mainGlobals "str" = some none)
  (z10:nsIn K mainGlobals "sum" = some none)
  (z11:nsIn K mainGlobals "zip" = some none)
  (q1:nsIn K mainGlobals "FIGURES" = some (some (.str "0123456789" u1)))
  (q2:nsIn K mainGlobals "LETTERS" = some (some (.str "abcdefghijklmnopqrstuvwxyz" u2)))
  (q3:nsIn K mainGlobals "MOST_AROUND" = some (some (.int 8 u3)))
  (q4:nsIn K mainGlobals "MOST_ROWS" = some (some (.int 80 u4)))
  (q5:nsIn K mainGlobals "SLOTS" = some (some (.str "abcdefgh" u5)))
  (q6:nsIn K mainGlobals "WIDE" = some (some (.int 18446744073709551616 u6)))
  (q7:nsIn K mainGlobals "WORDS" = some (some (.ref u7)))
  (qk7:K.lookup u7=some ⟨.type "tuple",qd7,.seq #[.str "plus" qt7_0,.str "minus" qt7_1,.str "times" qt7_2,.str "less" qt7_3,.str "same" qt7_4] qn7,qs7⟩) :
  ∃ fd:FuncData,(∀ (s:Shared) (v:Value),BindsTo s fd ⟨[v],[]⟩ [("_law_script",v)])/\∀ base:Heap,K.In base->base.Ns mainGlobals mg->FnOk l.prog w K mg base CX0 54 fa fd ["_law_script"] (yFP K):=by
 have e:=hfa.symm.trans (mg_of X G a74)
 cases e
 have F1:=yA (st:=ybY) l1 c1 k1
 have b1:=F1.binds (ps:=["self","slot","number"]) fun _ _ _ _ _ _=>ml3 fun _ _ _=>rfl
 have F2:=yA (st:=ybt) l2 c2 k2
 have b2:=F2.binds (ps:=["self","word","slot","one","other"]) fun _ _ _ _ _ _=>ml5 fun _ _ _ _ _=>rfl
 have F3:=yA (st:=ybN) l3 c3 k3
 have b3:=F3.binds (ps:=["self","slot","place"]) fun _ _ _ _ _ _=>ml3 fun _ _ _=>rfl
 have F4:=yA (st:=ybZ) l4 c4 k4
 have b4:=F4.binds (ps:=["self","place","slot"]) fun _ _ _ _ _ _=>ml3 fun _ _ _=>rfl
 have F5:=yA (st:=ycq) l5 c5 k5
 have b5:=F5.binds (ps:=["self","slot","parts","others"]) fun _ _ _ _ _ _=>ml4 fun _ _ _ _=>rfl
 have F6:=yA (st:=ybu) l6 c6 k6
 have b6:=F6.binds (ps:=["self","parts","others"]) fun _ _ _ _ _ _=>ml3 fun _ _ _=>rfl
 have F7:=yA (st:=yca) l7 c7 k7
 have b7:=F7.binds (ps:=["self","parts","name","slot","others"]) fun _ _ _ _ _ _=>ml5 fun _ _ _ _ _=>rfl
 have F8:=yA (st:=ybA) l8 c8 k8
 have b8:=F8.binds (ps:=["self","name","slot"]) fun _ _ _ _ _ _=>ml3 fun _ _ _=>rfl
 have F9:=yA (st:=ydW) l9 c9 k9
 have b9:=F9.binds (ps:=["self"]) fun _ _ _ _ _ _=>ml1 fun _=>rfl
 have F10:=yA (st:=yde) l10 c10 k10
 have b10:=F10.binds (ps:=["self"]) fun _ _ _ _ _ _=>ml1 fun _=>rfl
 have F11:=yA (st:=yfl) l11 c11 k11
 have b11:=F11.binds (ps:=["self"]) fun _ _ _ _ _ _=>ml1 fun _=>rfl
 have F12:=yA (st:=ydX) l12 c12 k12
 have b12:=F12.binds (ps:=["self"]) fun _ _ _ _ _ _=>ml1 fun _=>rfl
 have F13:=yA (st:=ycr) l13 c13 k13
 have b13:=F13.binds (ps:=["self"]) fun _ _ _ _ _ _=>ml1 fun _=>rfl
 have F14:=yA (st:=ycb) l14 c14 k14
 have b14:=F14.binds (ps:=["self"]) fun _ _ _ _ _ _=>ml1 fun _=>rfl
 have F15:=yA (st:=ydY) l15 c15 k15
 have b15:=F15.binds (ps:=["self"]) fun _ _ _ _ _ _=>ml1 fun _=>rfl
 have F16:=yA (st:=ydf) l16 c16 k16
 have b16:=F16.binds (ps:=["self"]) fun _ _ _ _ _ _=>ml1 fun _=>rfl
 have F17:=yA (st:=yfm) l17 c17 k17
 have b17:=F17.binds (ps:=["self"]) fun _ _ _ _ _ _=>ml1 fun _=>rfl
 have F18:=yA (st:=ydZ) l18 c18 k18
 have b18:=F18.binds (ps:=["self"]) fun _ _ _ _ _ _=>ml1 fun _=>rfl
 have F19:=yA (st:=ydg) l19 c19 k19
 have b19:=F19.binds (ps:=["self"]) fun _ _ _ _ _ _=>ml1 fun _=>rfl
 have F20:=yA (st:=ycs) l20 c20 k20
 have b20:=F20.binds (ps:=["self"]) fun _ _ _ _ _ _=>ml1 fun _=>rfl
 have F21:=yA (st:=yea) l21 c21 k21
 have b21:=F21.binds (ps:=["self"]) fun _ _ _ _ _ _=>ml1 fun _=>rfl
 have F22:=yA (st:=ydh) l22 c22 k22
 have b22:=F22.binds (ps:=["self"]) fun _ _ _ _ _ _=>ml1 fun _=>rfl
 have F23:=yA (st:=yeb) l23 c23 k23
 have b23:=F23.binds (ps:=["parts"]) fun _ _ _ _ _ _=>ml1 fun _=>rfl
 have F24:=yA (st:=ydi) l24 c24 k24
 have b24:=F24.binds (ps:=["parts"]) fun _ _ _ _ _ _=>ml1 fun _=>rfl
 have F25:=yA (st:=ydj) l25 c25 k25
 have b25:=F25.binds (ps:=["parts"]) fun _ _ _ _ _ _=>ml1 fun _=>rfl
 have F26:=yA (st:=ygr) l26 c26 k26
 have b26:=F26.binds (ps:=["self"]) fun _ _ _ _ _ _=>ml1 fun _=>rfl
 have F27:=yA (st:=yfn) l27 c27 k27
 have b27:=F27.binds (ps:=["self"]) fun _ _ _ _ _ _=>ml1 fun _=>rfl
 have F28:=yA (st:=yct) l28 c28 k28
 have b28:=F28.binds (ps:=["self"]) fun _ _ _ _ _ _=>ml1 fun _=>rfl
 have F29:=yA (st:=ycc) l29 c29 k29
 have b29:=F29.binds (ps:=["self"]) fun _ _ _ _ _ _=>ml1 fun _=>rfl
 have F30:=yA (st:=yfo) l30 c30 k30
 have b30:=F30.binds (ps:=["self"]) fun _ _ _ _ _ _=>ml1 fun _=>rfl
 have F31:=yA (st:=yec) l31 c31 k31
 have b31:=F31.binds (ps:=["self"]) fun _ _ _ _ _ _=>ml1 fun _=>rfl
 have F32:=yA (st:=ydk) l32 c32 k32
 have b32:=F32.binds (ps:=["text","signs"]) fun _ _ _ _ _ _=>ml2 fun _ _=>rfl
 have F33:=yA (st:=yed) l33 c33 k33
 have b33:=F33.binds (ps:=["text"]) fun _ _ _ _ _ _=>ml1 fun _=>rfl
 have F34:=yA (st:=ygs) l34 c34 k34
 have b34:=F34.binds (ps:=["text"]) fun _ _ _ _ _ _=>ml1 fun _=>rfl
 have F35:=yA (st:=ygt) l35 c35 k35
 have b35:=F35.binds (ps:=["text"]) fun _ _ _ _ _ _=>ml1 fun _=>rfl
 have F36:=yA (st:=ygu) l36 c36 k36
 have b36:=F36.binds (ps:=["text"]) fun _ _ _ _ _ _=>ml1 fun _=>rfl
 have F37:=yA (st:=ybv) l37 c37 k37
 have b37:=F37.binds (ps:=["self","words"]) fun _ _ _ _ _ _=>ml2 fun _ _=>rfl
 have F38:=yA (st:=yfp) l38 c38 k38
 have b38:=F38.binds (ps:=["text"]) fun _ _ _ _ _ _=>ml1 fun _=>rfl
 have F39:=yA (st:=ycd) l39 c39 k39
 have b39:=F39.binds (ps:=["self"]) fun _ _ _ _ _ _=>ml1 fun _=>rfl
 have F40:=yA (st:=yce) l40 c40 k40
 have b40:=F40.binds (ps:=["self"]) fun _ _ _ _ _ _=>ml1 fun _=>rfl
 have F41:=yA (st:=ybl) l41 c41 k41
 have b41:=F41.binds (ps:=["self","wanted"]) fun _ _ _ _ _ _=>ml2 fun _ _=>rfl
 have F42:=yA (st:=yY) l42 c42 k42
 have b42:=F42.binds (ps:=["self"]) fun _ _ _ _ _ _=>ml1 fun _=>rfl
 have F43:=yA (st:=yZ) l43 c43 k43
 have b43:=F43.binds (ps:=["self"]) fun _ _ _ _ _ _=>ml1 fun _=>rfl
 have F44:=yA (st:=yO) l44 c44 k44
 have b44:=F44.binds (ps:=["self"]) fun _ _ _ _ _ _=>ml1 fun _=>rfl
 have F45:=yA (st:=yP) l45 c45 k45
 have b45:=F45.binds (ps:=["self","word"]) fun _ _ _ _ _ _=>ml2 fun _ _=>rfl
 have F46:=yA (st:=yT) l46 c46 k46
 have b46:=F46.binds (ps:=["self","word"]) fun _ _ _ _ _ _=>ml2 fun _ _=>rfl
 have F47:=yA (st:=yba) l47 c47 k47
 have b47:=F47.binds (ps:=["self","around"]) fun _ _ _ _ _ _=>ml2 fun _ _=>rfl
 have F48:=yA (st:=ybb) l48 c48 k48
 have b48:=F48.binds (ps:=["self","around"]) fun _ _ _ _ _ _=>ml2 fun _ _=>rfl
 have F49:=yA (st:=ybc) l49 c49 k49
 have b49:=F49.binds (ps:=["self","around"]) fun _ _ _ _ _ _=>ml2 fun _ _=>rfl
 have F50:=yA (st:=ybw) l50 c50 k50
 have b50:=F50.binds (ps:=["self","around"]) fun _ _ _ _ _ _=>ml2 fun _ _=>rfl
 have F51:=yA (st:=yQ) l51 c51 k51
 have b51:=F51.binds (ps:=["self","around"]) fun _ _ _ _ _ _=>ml2 fun _ _=>rfl
 have F52:=yA (st:=ybm) l52 c52 k52
 have b52:=F52.binds (ps:=["self","around"]) fun _ _ _ _ _ _=>ml2 fun _ _=>rfl
 have F53:=yA (st:=yoo) l53 c53 k53
 have b53:=F53.binds (ps:=["text"]) fun _ _ _ _ _ _=>ml1 fun _=>rfl
 have F54:=yA (st:=ygv) l54 c54 k54
 have b54:=F54.binds (ps:=["deed"]) fun _ _ _ _ _ _=>ml1 fun _=>rfl
 have F55:=yA (st:=ydl) l55 c55 k55
 have b55:=F55.binds (ps:=["_law_found"]) fun _ _ _ _ _ _=>ml1 fun _=>rfl
 have F56:=yA (st:=yee) l56 c56 k56
 have b56:=F56.binds (ps:=["_law_cell"]) fun _ _ _ _ _ _=>ml1 fun _=>rfl
 have F57:=yA (st:=yef) l57 c57 k57
 have b57:=F57.binds (ps:=["_law_number_here"]) fun _ _ _ _ _ _=>ml1 fun _=>rfl
 have F58:=yA (st:=ycu) l58 c58 k58
 have b58:=F58.binds (ps:=["_law_cell"]) fun _ _ _ _ _ _=>ml1 fun _=>rfl
 have F59:=yA (st:=ydm) l59 c59 k59
 have b59:=F59.binds (ps:=["_law_cell"]) fun _ _ _ _ _ _=>ml1 fun _=>rfl
 have F60:=yA (st:=ydn) l60 c60 k60
 have b60:=F60.binds (ps:=["_law_cell","_law_one","_law_other"]) fun _ _ _ _ _ _=>ml3 fun _ _ _=>rfl
 have F61:=yA (st:=ydo) l61 c61 k61
 have b61:=F61.binds (ps:=["_law_part"]) fun _ _ _ _ _ _=>ml1 fun _=>rfl
 have F62:=yA (st:=ydp) l62 c62 k62
 have b62:=F62.binds (ps:=["_law_parts"]) fun _ _ _ _ _ _=>ml1 fun _=>rfl
 have F63:=yA (st:=yeg) l63 c63 k63
 have b63:=F63.binds (ps:=["_law_parts"]) fun _ _ _ _ _ _=>ml1 fun _=>rfl
 have F64:=yA (st:=yeh) l64 c64 k64
 have b64:=F64.binds (ps:=["_law_parts","_law_cell"]) fun _ _ _ _ _ _=>ml2 fun _ _=>rfl
 have F65:=yA (st:=ygw) l65 c65 k65
 have b65:=F65.binds (ps:=["_law_parts"]) fun _ _ _ _ _ _=>ml1 fun _=>rfl
 have F66:=yA (st:=yei) l66 c66 k66
 have b66:=F66.binds (ps:=["_law_parts"]) fun _ _ _ _ _ _=>ml1 fun _=>rfl
 have F67:=yA (st:=ycv) l67 c67 k67
 have b67:=F67.binds (ps:=["_law_part","_law_due"]) fun _ _ _ _ _ _=>ml2 fun _ _=>rfl
 have F68:=yA (st:=yej) l68 c68 k68
 have b68:=F68.binds (ps:=["_law_parts","_law_due"]) fun _ _ _ _ _ _=>ml2 fun _ _=>rfl
 have F69:=yA (st:=yek) l69 c69 k69
 have b69:=F69.binds (ps:=["_law_part"]) fun _ _ _ _ _ _=>ml1 fun _=>rfl
 have F70:=yA (st:=yel) l70 c70 k70
 have b70:=F70.binds (ps:=["_law_parts"]) fun _ _ _ _ _ _=>ml1 fun _=>rfl
 have F71:=yA (st:=ycw) l71 c71 k71
 have b71:=F71.binds (ps:=["_law_parts"]) fun _ _ _ _ _ _=>ml1 fun _=>rfl
 have F72:=yA (st:=ycf) l72 c72 k72
 have b72:=F72.binds (ps:=["_law_parts","_law_number_here"]) fun _ _ _ _ _ _=>ml2 fun _ _=>rfl
 have F73:=yA (st:=ydq) l73 c73 k73
 have b73:=F73.binds (ps:=["_law_parts"]) fun _ _ _ _ _ _=>ml1 fun _=>rfl
 have F74:=yA (st:=yqs) l74 c74 k74
 have b74:=F74.binds (ps:=["_law_script"]) fun _ _ _ _ _ _=>ml1 fun _=>rfl
 let AA:Nat->Addr:=fun k=>match k with|0=>CPart|1=>CLet|2=>CReckon|3=>CTake|4=>CPut|5=>CIf|6=>CEither|7=>CTry|8=>CThrow|9=>CWait|10=>CReader|_=>CPart
 have CL:∀ k,Cls K (AA k):=fun k=>match k with|0=>⟨pgPart,hdPart,poPart,saPart⟩|1=>⟨pgLet,hdLet,poLet,saLet⟩|2=>⟨pgReckon,hdReckon,poReckon,saReckon⟩|3=>⟨pgTake,hdTake,poTake,saTake⟩|4=>⟨pgPut,hdPut,poPut,saPut⟩|5=>⟨pgIf,hdIf,poIf,saIf⟩|6=>⟨pgEither,hdEither,poEither,saEither⟩|7=>⟨pgTry,hdTry,poTry,saTry⟩|8=>⟨pgThrow,hdThrow,poThrow,saThrow⟩|9=>⟨pgWait,hdWait,poWait,saWait⟩|10=>⟨pgReader,hdReader,poReader,saReader⟩|_+11=>⟨pgPart,hdPart,poPart,saPart⟩
 have TY0:∀ (H:Hp) (a dx:Addr) (fs:List (Str×V)),H a=some (.ins CPart dx fs)->yqx K H (.ref a) (.ref CPart):=fun H a dx fs e=>.ins e (CL 0) haPart hn htk hmPart
 have TY1:∀ (H:Hp) (a dx:Addr) (fs:List (Str×V)),H a=some (.ins CLet dx fs)->yqx K H (.ref a) (.ref CLet):=fun H a dx fs e=>.ins e (CL 1) haLet hn htk hmLet
 have TY2:∀ (H:Hp) (a dx:Addr) (fs:List (Str×V)),H a=some (.ins CReckon dx fs)->yqx K H (.ref a) (.ref CReckon):=fun H a dx fs e=>.ins e (CL 2) haReckon hn htk hmReckon
 have TY3:∀ (H:Hp) (a dx:Addr) (fs:List (Str×V)),H a=some (.ins CTake dx fs)->yqx K H (.ref a) (.ref CTake):=fun H a dx fs e=>.ins e (CL 3) haTake hn htk hmTake
 have TY4:∀ (H:Hp) (a dx:Addr) (fs:List (Str×V)),H a=some (.ins CPut dx fs)->yqx K H (.ref a) (.ref CPut):=fun H a dx fs e=>.ins e (CL 4) haPut hn htk hmPut
 have TY5:∀ (H:Hp) (a dx:Addr) (fs:List (Str×V)),H a=some (.ins CIf dx fs)->yqx K H (.ref a) (.ref CIf):=fun H a dx fs e=>.ins e (CL 5) haIf hn htk hmIf
 have TY6:∀ (H:Hp) (a dx:Addr) (fs:List (Str×V)),H a=some (.ins CEither dx fs)->yqx K H (.ref a) (.ref CEither):=fun H a dx fs e=>.ins e (CL 6) haEither hn htk hmEither
 have TY7:∀ (H:Hp) (a dx:Addr) (fs:List (Str×V)),H a=some (.ins CTry dx fs)->yqx K H (.ref a) (.ref CTry):=fun H a dx fs e=>.ins e (CL 7) haTry hn htk hmTry
 have TY8:∀ (H:Hp) (a dx:Addr) (fs:List (Str×V)),H a=some (.ins CThrow dx fs)->yqx K H (.ref a) (.ref CThrow):=fun H a dx fs e=>.ins e (CL 8) haThrow hn htk hmThrow
 have TY9:∀ (H:Hp) (a dx:Addr) (fs:List (Str×V)),H a=some (.ins CWait dx fs)->yqx K H (.ref a) (.ref CWait):=fun H a dx fs e=>.ins e (CL 9) haWait hn htk hmWait
 have T:Txt K mg ⟨AA,f1,fnOf "__init__" "Let.__init__" (yh ybY) (yg ybY) (yb ybY) .none kV1 dc1 pm1 an1 cd1 ct1,f2,fnOf "__init__" "Reckon.__init__" (yh ybt) (yg ybt) (yb ybt) .none kV2 dc2 pm2 an2 cd2 ct2,f3,fnOf "__init__" "Take.__init__" (yh ybN) (yg ybN) (yb ybN) .none kV3 dc3 pm3 an3 cd3 ct3,f4,fnOf "__init__" "Put.__init__" (yh ybZ) (yg ybZ) (yb ybZ) .none kV4 dc4 pm4 an4 cd4 ct4,f5,fnOf "__init__" "If.__init__" (yh ycq) (yg ycq) (yb ycq) .none kV5 dc5 pm5 an5 cd5 ct5,f6,fnOf "__init__" "Either.__init__" (yh ybu) (yg ybu) (yb ybu) .none kV6 dc6 pm6 an6 cd6 ct6,f7,fnOf "__init__" "Try.__init__" (yh yca) (yg yca) (yb yca) .none kV7 dc7 pm7 an7 cd7 ct7,f8,fnOf "__init__" "Throw.__init__" (yh ybA) (yg ybA) (yb ybA) .none kV8 dc8 pm8 an8 cd8 ct8,f9,fnOf "long" "Part.long" (yh ydW) (yg ydW) (yb ydW) .none kV9 dc9 pm9 an9 cd9 ct9,f10,fnOf "shown" "Part.shown" (yh yde) (yg yde) (yb yde) .none kV10 dc10 pm10 an10 cd10 ct10,f11,fnOf "long" "Let.long" (yh yfl) (yg yfl) (yb yfl) .none kV11 dc11 pm11 an11 cd11 ct11,f12,fnOf "shown" "Let.shown" (yh ydX) (yg ydX) (yb ydX) .none kV12 dc12 pm12 an12 cd12 ct12,f13,fnOf "long" "Reckon.long" (yh ycr) (yg ycr) (yb ycr) .none kV13 dc13 pm13 an13 cd13 ct13,f14,fnOf "shown" "Reckon.shown" (yh ycb) (yg ycb) (yb ycb) .none kV14 dc14 pm14 an14 cd14 ct14,f15,fnOf "long" "Take.long" (yh ydY) (yg ydY) (yb ydY) .none kV15 dc15 pm15 an15 cd15 ct15,f16,fnOf "shown" "Take.shown" (yh ydf) (yg ydf) (yb ydf) .none kV16 dc16 pm16 an16 cd16 ct16,f17,fnOf "long" "Put.long" (yh yfm) (yg yfm) (yb yfm) .none kV17 dc17 pm17 an17 cd17 ct17,f18,fnOf "shown" "Put.shown" (yh ydZ) (yg ydZ) (yb ydZ) .none kV18 dc18 pm18 an18 cd18 ct18,f19,fnOf "long" "Throw.long" (yh ydg) (yg ydg) (yb ydg) .none kV19 dc19 pm19 an19 cd19 ct19,f20,fnOf "shown" "Throw.shown" (yh ycs) (yg ycs) (yb ycs) .none kV20 dc20 pm20 an20 cd20 ct20,f21,fnOf "long" "Wait.long" (yh yea) (yg yea) (yb yea) .none kV21 dc21 pm21 an21 cd21 ct21,f22,fnOf "shown" "Wait.shown" (yh ydh) (yg ydh) (yb ydh) .none kV22 dc22 pm22 an22 cd22 ct22,f23,fnOf "list_long" "list_long" (yh yeb) (yg yeb) (yb yeb) .none kV23 dc23 pm23 an23 cd23 ct23,f24,fnOf "list_shown" "list_shown" (yh ydi) (yg ydi) (yb ydi) .none kV24 dc24 pm24 an24 cd24 ct24,f25,fnOf "side_shown" "side_shown" (yh ydj) (yg ydj) (yb ydj) .none kV25 dc25 pm25 an25 cd25 ct25,f26,fnOf "long" "If.long" (yh ygr) (yg ygr) (yb ygr) .none kV26 dc26 pm26 an26 cd26 ct26,f27,fnOf "shown" "If.shown" (yh yfn) (yg yfn) (yb yfn) .none kV27 dc27 pm27 an27 cd27 ct27,f28,fnOf "long" "Either.long" (yh yct) (yg yct) (yb yct) .none kV28 dc28 pm28 an28 cd28 ct28,f29,fnOf "shown" "Either.shown" (yh ycc) (yg ycc) (yb ycc) .none kV29 dc29 pm29 an29 cd29 ct29,f30,fnOf "long" "Try.long" (yh yfo) (yg yfo) (yb yfo) .none kV30 dc30 pm30 an30 cd30 ct30,f31,fnOf "shown" "Try.shown" (yh yec) (yg yec) (yb yec) .none kV31 dc31 pm31 an31 cd31 ct31,f32,fnOf "is_made_of" "is_made_of" (yh ydk) (yg ydk) (yb ydk) .none kV32 dc32 pm32 an32 cd32 ct32,f33,fnOf "number_of" "number_of" (yh yed) (yg yed) (yb yed) .none kV33 dc33 pm33 an33 cd33 ct33,f34,fnOf "is_word" "is_word" (yh ygs) (yg ygs) (yb ygs) .none kV34 dc34 pm34 an34 cd34 ct34,f35,fnOf "is_slot" "is_slot" (yh ygt) (yg ygt) (yb ygt) .none kV35 dc35 pm35 an35 cd35 ct35,f36,fnOf "is_name" "is_name" (yh ygu) (yg ygu) (yb ygu) .none kV36 dc36 pm36 an36 cd36 ct36,f37,fnOf "__init__" "Reader.__init__" (yh ybv) (yg ybv) (yb ybv) .none kV37 dc37 pm37 an37 cd37 ct37,f38,fnOf "words_of" "words_of" (yh yfp) (yg yfp) (yb yfp) .none kV38 dc38 pm38 an38 cd38 ct38,f39,fnOf "ahead" "Reader.ahead" (yh ycd) (yg ycd) (yb ycd) .none kV39 dc39 pm39 an39 cd39 ct39,f40,fnOf "taken" "Reader.taken" (yh yce) (yg yce) (yb yce) .none kV40 dc40 pm40 an40 cd40 ct40,f41,fnOf "pass_over" "Reader.pass_over" (yh ybl) (yg ybl) (yb ybl) .none kV41 dc41 pm41 an41 cd41 ct41,f42,fnOf "slot_taken" "Reader.slot_taken" (yh yY) (yg yY) (yb yY) .none kV42 dc42 pm42 an42 cd42 ct42,f43,fnOf "name_taken" "Reader.name_taken" (yh yZ) (yg yZ) (yb yZ) .none kV43 dc43 pm43 an43 cd43 ct43,f44,fnOf "number_taken" "Reader.number_taken" (yh yO) (yg yO) (yb yO) .none kV44 dc44 pm44 an44 cd44 ct44,f45,fnOf "reckon_taken" "Reader.reckon_taken" (yh yP) (yg yP) (yb yP) .none kV45 dc45 pm45 an45 cd45 ct45,f46,fnOf "plain_taken" "Reader.plain_taken" (yh yT) (yg yT) (yb yT) .none kV46 dc46 pm46 an46 cd46 ct46,f47,fnOf "list_taken" "Reader.list_taken" (yh yba) (yg yba) (yb yba) .none kV47 dc47 pm47 an47 cd47 ct47,f48,fnOf "side_taken" "Reader.side_taken" (yh ybb) (yg ybb) (yb ybb) .none kV48 dc48 pm48 an48 cd48 ct48,f49,fnOf "part_taken" "Reader.part_taken" (yh ybc) (yg ybc) (yb ybc) .none kV49 dc49 pm49 an49 cd49 ct49,f50,fnOf "if_taken" "Reader.if_taken" (yh ybw) (yg ybw) (yb ybw) .none kV50 dc50 pm50 an50 cd50 ct50,f51,fnOf "either_taken" "Reader.either_taken" (yh yQ) (yg yQ) (yb yQ) .none kV51 dc51 pm51 an51 cd51 ct51,f52,fnOf "try_taken" "Reader.try_taken" (yh ybm) (yg ybm) (yb ybm) .none kV52 dc52 pm52 an52 cd52 ct52,f53,fnOf "read" "read" (yh yoo) (yg yoo) (yb yoo) .none kV53 dc53 pm53 an53 cd53 ct53,f54,fnOf "shown" "shown" (yh ygv) (yg ygv) (yb ygv) .none kV54 dc54 pm54 an54 cd54 ct54,f55,fnOf "_law_whole" "_law_whole" (yh ydl) (yg ydl) (yb ydl) .none kV55 dc55 pm55 an55 cd55 ct55,f56,fnOf "_law_name" "_law_name" (yh yee) (yg yee) (yb yee) .none kV56 dc56 pm56 an56 cd56 ct56,f57,fnOf "_law_slot" "_law_slot" (yh yef) (yg yef) (yb yef) .none kV57 dc57 pm57 an57 cd57 ct57,f58,fnOf "_law_number" "_law_number" (yh ycu) (yg ycu) (yb ycu) .none kV58 dc58 pm58 an58 cd58 ct58,f59,fnOf "_law_plain" "_law_plain" (yh ydm) (yg ydm) (yb ydm) .none kV59 dc59 pm59 an59 cd59 ct59,f60,fnOf "_law_sided" "_law_sided" (yh ydn) (yg ydn) (yb ydn) .none kV60 dc60 pm60 an60 cd60 ct60,f61,fnOf "_law_sides" "_law_sides" (yh ydo) (yg ydo) (yb ydo) .none kV61 dc61 pm61 an61 cd61 ct61,f62,fnOf "_law_round" "_law_round" (yh ydp) (yg ydp) (yb ydp) .none kV62 dc62 pm62 an62 cd62 ct62,f63,fnOf "_law_long" "_law_long" (yh yeg) (yg yeg) (yb yeg) .none kV63 dc63 pm63 an63 cd63 ct63,f64,fnOf "_law_more" "_law_more" (yh yeh) (yg yeh) (yb yeh) .none kV64 dc64 pm64 an64 cd64 ct64,f65,fnOf "_law_in" "_law_in" (yh ygw) (yg ygw) (yb ygw) .none kV65 dc65 pm65 an65 cd65 ct65,f66,fnOf "_law_text" "_law_text" (yh yei) (yg yei) (yb yei) .none kV66 dc66 pm66 an66 cd66 ct66,f67,fnOf "_law_values" "_law_values" (yh ycv) (yg ycv) (yb ycv) .none kV67 dc67 pm67 an67 cd67 ct67,f68,fnOf "_law_same" "_law_same" (yh yej) (yg yej) (yb yej) .none kV68 dc68 pm68 an68 cd68 ct68,f69,fnOf "_law_made" "_law_made" (yh yek) (yg yek) (yb yek) .none kV69 dc69 pm69 an69 cd69 ct69,f70,fnOf "_law_deed" "_law_deed" (yh yel) (yg yel) (yb yel) .none kV70 dc70 pm70 an70 cd70 ct70,f71,fnOf "_law_deed" "_law_deed" (yh ycw) (yg ycw) (yb ycw) .none kV71 dc71 pm71 an71 cd71 ct71,f72,fnOf "_law_wrapped" "_law_wrapped" (yh ycf) (yg ycf) (yb ycf) .none kV72 dc72 pm72 an72 cd72 ct72,f73,fnOf "_law_right" "_law_right" (yh ydq) (yg ydq) (yb ydq) .none kV73 dc73 pm73 an73 cd73 ct73,fa,fnOf "law" "law" (yh yqs) (yg yqs) (yb yqs) .none kV74 dc74 pm74 an74 cd74 ct74,u1,u2,u3,u4,u5,u6,u7⟩:=⟨F1,b1,F2,b2,F3,b3,F4,b4,F5,b5,F6,b6,F7,b7,F8,b8,F9,b9,F10,b10,F11,b11,F12,b12,F13,b13,F14,b14,F15,b15,F16,b16,F17,b17,F18,b18,F19,b19,F20,b20,F21,b21,F22,b22,F23,b23,mg_of X G a23,F24,b24,mg_of X G a24,F25,b25,mg_of X G a25,F26,b26,F27,b27,F28,b28,F29,b29,F30,b30,F31,b31,F32,b32,mg_of X G a32,F33,b33,mg_of X G a33,F34,b34,mg_of X G a34,F35,b35,mg_of X G a35,F36,b36,mg_of X G a36,F37,b37,F38,b38,mg_of X G a38,F39,b39,F40,b40,F41,b41,F42,b42,F43,b43,F44,b44,F45,b45,F46,b46,F47,b47,F48,b48,F49,b49,F50,b50,F51,b51,F52,b52,F53,b53,mg_of X G a53,F54,b54,mg_of X G a54,F55,b55,mg_of X G a55,F56,b56,mg_of X G a56,F57,b57,mg_of X G a57,F58,b58,mg_of X G a58,F59,b59,mg_of X G a59,F60,b60,mg_of X G a60,F61,b61,mg_of X G a61,F62,b62,mg_of X G a62,F63,b63,mg_of X G a63,F64,b64,mg_of X G a64,F65,b65,mg_of X G a65,F66,b66,mg_of X G a66,F67,b67,mg_of X G a67,F68,b68,mg_of X G a68,F69,b69,mg_of X G a69,F70,b70,mg_of X G a70,F71,b71,mg_of X G a71,F72,b72,mg_of X G a72,F73,b73,mg_of X G a73,F74,b74,mg_of X G a74,mg_of X G nCPart,mkPart,ioPart,kcPart,mg_of X G nCLet,⟨mkLet,yiS,i1,kcLet⟩,mg_of X G nCReckon,⟨mkReckon,ygF,i2,kcReckon⟩,mg_of X G nCTake,⟨mkTake,yhF,i3,kcTake⟩,mg_of X G nCPut,⟨mkPut,yiT,i4,kcPut⟩,mg_of X G nCIf,⟨mkIf,yjY,i5,kcIf⟩,mg_of X G nCEither,⟨mkEither,ygG,i6,kcEither⟩,mg_of X G nCTry,⟨mkTry,yiU,i7,kcTry⟩,mg_of X G nCThrow,⟨mkThrow,yhb,i8,kcThrow⟩,mg_of X G nCWait,mkWait,ioWait,kcWait,mg_of X G nCReader,⟨mkReader,ygH,i37,kcReader⟩,⟨ymE,i9,k9⟩,⟨ynR,i11,k11⟩,⟨yjZ,i13,k13⟩,⟨ymF,i15,k15⟩,⟨ynS,i17,k17⟩,⟨ypO,i26,k26⟩,⟨yka,i28,k28⟩,⟨ynT,i30,k30⟩,⟨ylw,i19,k19⟩,⟨ymG,i21,k21⟩,⟨ylx,i10,k10⟩,⟨ymH,i12,k12⟩,⟨yiV,i14,k14⟩,⟨yly,i16,k16⟩,⟨ymI,i18,k18⟩,⟨ynU,i27,k27⟩,⟨yiW,i29,k29⟩,⟨ymJ,i31,k31⟩,⟨ykb,i20,k20⟩,⟨ylz,i22,k22⟩,⟨yiX,i39,k39⟩,⟨yiY,i40,k40⟩,⟨ygc,i41,k41⟩,⟨yfz,i42,k42⟩,⟨yfA,i43,k43⟩,⟨yeC,i44,k44⟩,⟨yfB,i47,k47⟩,⟨yfC,i48,k48⟩,⟨yfD,i49,k49⟩,⟨ygI,i50,k50⟩,⟨yeD,i51,k51⟩,⟨ygd,i52,k52⟩,⟨yfe,i46,k46⟩,⟨yeE,i45,k45⟩,CL,⟨all_cons ⟨CL 1,naLet_slot⟩ (all_cons ⟨CL 2,naReckon_slot⟩ (all_cons ⟨CL 3,naTake_slot⟩ (all_cons ⟨CL 4,naPut_slot⟩ (all_cons ⟨CL 5,naIf_slot⟩ (all_cons ⟨CL 7,naTry_slot⟩ (all_cons ⟨CL 8,naThrow_slot⟩ (fun k hk=>absurd hk (by simp)))))))),all_cons ⟨CL 1,naLet_number⟩ (fun k hk=>absurd hk (by simp)),all_cons ⟨CL 2,naReckon_word⟩ (fun k hk=>absurd hk (by simp)),all_cons ⟨CL 2,naReckon_one⟩ (fun k hk=>absurd hk (by simp)),all_cons ⟨CL 2,naReckon_other⟩ (fun k hk=>absurd hk (by simp)),all_cons ⟨CL 3,naTake_place⟩ (all_cons ⟨CL 4,naPut_place⟩ (fun k hk=>absurd hk (by simp))),all_cons ⟨CL 7,naTry_name⟩ (all_cons ⟨CL 8,naThrow_name⟩ (fun k hk=>absurd hk (by simp))),all_cons ⟨CL 5,naIf_parts⟩ (all_cons ⟨CL 6,naEither_parts⟩ (all_cons ⟨CL 7,naTry_parts⟩ (fun k hk=>absurd hk (by simp)))),all_cons ⟨CL 5,naIf_others⟩ (all_cons ⟨CL 6,naEither_others⟩ (all_cons ⟨CL 7,naTry_others⟩ (fun k hk=>absurd hk (by simp)))),all_cons ⟨CL 10,naReader_words⟩ (fun k hk=>absurd hk (by simp)),all_cons ⟨CL 10,naReader_at⟩ (fun k hk=>absurd hk (by simp)),all_cons (fun H p dx fs e=>⟨_,_,TY1 H p dx fs e,rfl,yhO⟩) (all_cons (fun H p dx fs e=>⟨_,_,TY2 H p dx fs e,rfl,yhO⟩) (all_cons (fun H p dx fs e=>⟨_,_,TY3 H p dx fs e,rfl,yhO⟩) (all_cons (fun H p dx fs e=>⟨_,_,TY4 H p dx fs e,rfl,yhO⟩) (all_cons (fun H p dx fs e=>⟨_,_,TY5 H p dx fs e,rfl,yhO⟩) (all_cons (fun H p dx fs e=>⟨_,_,TY6 H p dx fs e,rfl,yhO⟩) (all_cons (fun H p dx fs e=>⟨_,_,TY7 H p dx fs e,rfl,yhO⟩) (all_cons (fun H p dx fs e=>⟨_,_,TY8 H p dx fs e,rfl,yhO⟩) (all_cons (fun H p dx fs e=>⟨_,_,TY9 H p dx fs e,rfl,yhO⟩) (all_cons (fun H p dx fs e=>⟨_,_,TY1 H p dx fs e,rfl,ykw hmPart ty0 sb1_0⟩) (all_cons (fun H p dx fs e=>⟨_,_,TY2 H p dx fs e,rfl,ykw hmPart ty0 sb2_0⟩) (all_cons (fun H p dx fs e=>⟨_,_,TY3 H p dx fs e,rfl,ykw hmPart ty0 sb3_0⟩) (all_cons (fun H p dx fs e=>⟨_,_,TY4 H p dx fs e,rfl,ykw hmPart ty0 sb4_0⟩) (all_cons (fun H p dx fs e=>⟨_,_,TY5 H p dx fs e,rfl,ykw hmPart ty0 sb5_0⟩) (all_cons (fun H p dx fs e=>⟨_,_,TY6 H p dx fs e,rfl,ykw hmPart ty0 sb6_0⟩) (all_cons (fun H p dx fs e=>⟨_,_,TY7 H p dx fs e,rfl,ykw hmPart ty0 sb7_0⟩) (all_cons (fun H p dx fs e=>⟨_,_,TY8 H p dx fs e,rfl,ykw hmPart ty0 sb8_0⟩) (all_cons (fun H p dx fs e=>⟨_,_,TY9 H p dx fs e,rfl,ykw hmPart ty0 sb9_0⟩) (fun k hk=>absurd hk (by simp [yeN])))))))))))))))))))⟩,mg_none_of X G z1,mg_none_of X G z2,mg_none_of X G z3,mg_none_of X G z4,mg_none_of X G z5,mg_none_of X G z6,mg_none_of X G z7,mg_none_of X G z8,mg_none_of X G z9,mg_none_of X G z10,mg_none_of X G z11,mg_of X G q1,mg_of X G q2,mg_of X G q3,mg_of X G q4,mg_of X G q5,mg_of X G q6,mg_of X G q7,⟨_,_,_,qk7,rfl,rfl,(by show 5<=sizeLine;decide),.cons ⟨_,rfl⟩ (.cons ⟨_,rfl⟩ (.cons ⟨_,rfl⟩ (.cons ⟨_,rfl⟩ (.cons ⟨_,rfl⟩ (.nil)))))⟩⟩
 refine ⟨fnOf "law" "law" (yh yqs) (yg yqs) (yb yqs) .none kV74 dc74 pm74 an74 cd74 ct74,fun s v=>.of_eq rfl,fun base _ _=>?_⟩
 have ydF:=yrV (P:=l.prog) (w:=w) (base:=base) T
 have ybX:=yoQ (P:=l.prog) (w:=w) (base:=base) T
 have ycL:=yqv (P:=l.prog) (w:=w) (base:=base) T
 have ydG:=yrW (P:=l.prog) (w:=w) (base:=base) T
 have ydx:=ysO (P:=l.prog) (w:=w) (base:=base) T
 have ybI:=yoR (P:=l.prog) (w:=w) (base:=base) T
 have ycA:=yrX (P:=l.prog) (w:=w) (base:=base) T
 have ycm:=ypK (P:=l.prog) (w:=w) (base:=base) T
 have ylp:=ywR (P:=l.prog) (w:=w) (base:=base) T
 have yjG:=yuK (P:=l.prog) (w:=w) (base:=base) T
 have ymW:=yyI (P:=l.prog) (w:=w) (base:=base) T
 have yls:=ywS (P:=l.prog) (w:=w) (base:=base) T
 have yig:=ysP (P:=l.prog) (w:=w) (base:=base) T
 have yhh:=yrY (P:=l.prog) (w:=w) (base:=base) T
 have ylq:=ywT (P:=l.prog) (w:=w) (base:=base) T
 have yjH:=yuL (P:=l.prog) (w:=w) (base:=base) T
 have ymX:=yyJ (P:=l.prog) (w:=w) (base:=base) T
 have ylt:=ywU (P:=l.prog) (w:=w) (base:=base) T
 have yjF:=yuM (P:=l.prog) (w:=w) (base:=base) T
 have yih:=ysQ (P:=l.prog) (w:=w) (base:=base) T
 have ylr:=ywV (P:=l.prog) (w:=w) (base:=base) T
 have yjI:=yuN (P:=l.prog) (w:=w) (base:=base) T
 have GR0:=yDz (P:=l.prog) (w:=w) (base:=base) T ymW ylp ymX yig ylq yjF ylr 45
 have ydE:=GR0.yrZ
 have yDA:=GR0.ysa
 have yuO:=GR0.ylo
 have yAU:=GR0.ypL
 have G_long:=GR0.m_long
 have GR1:=yDB (P:=l.prog) (w:=w) (base:=base) T yls yjG ylt yhh yjH yih yjI 45
 have yhA:=GR1.yqi
 have yfb:=GR1.yqj
 have yAV:=GR1.ypM
 have ysR:=GR1.yjW
 have yyK:=GR1.ynN
 have G_shown:=GR1.m_shown
 have ygk:=yuP (P:=l.prog) (w:=w) (base:=base) T
 have ynP:=ywW (P:=l.prog) (w:=w) (base:=base) T ygk
 have ysf:=yAW (P:=l.prog) (w:=w) (base:=base) T
 have ysd:=yAX (P:=l.prog) (w:=w) (base:=base) T
 have yse:=yAY (P:=l.prog) (w:=w) (base:=base) T ygk
 have ygZ:=yoS (P:=l.prog) (w:=w) (base:=base) T
 have ypN:=yyL (P:=l.prog) (w:=w) (base:=base) T
 have ybs:=ysb (P:=l.prog) (w:=w) (base:=base) T
 have yM:=ysc (P:=l.prog) (w:=w) (base:=base) T ybs
 have ybp:=ynO (P:=l.prog) (w:=w) (base:=base) T yM
 have yo:=yna (P:=l.prog) (w:=w) (base:=base) T yM ysd
 have ybF:=ynb (P:=l.prog) (w:=w) (base:=base) T yM yse
 have yfc:=ylI (P:=l.prog) (w:=w) (base:=base) T yM ynP
 have yfd:=ylJ (P:=l.prog) (w:=w) (base:=base) T yo ybX
 have ydJ:=ymB (P:=l.prog) (w:=w) (base:=base) T ydF ydG ybF yfc yfd yo ycL ycm ysf
 have GR2:=yDC (P:=l.prog) (w:=w) (base:=base) T ybI ydx ybs ybF ybp ydJ yo yM ycA 45
 have ycM:=GR2.yiM
 have ybG:=GR2.yiN
 have yga:=GR2.yiO
 have ykt:=GR2.yks
 have yhC:=GR2.yhB
 have yjK:=GR2.yjJ
 have G_read:=yIX (P:=l.prog) (w:=w) (base:=base) T ygZ ybs ycM ydE ypN
 have yoT:=yAZ (P:=l.prog) (w:=w) (base:=base) T yhA
 have ymD:=yuQ (P:=l.prog) (w:=w) (base:=base) T
 have yha:=ywX (P:=l.prog) (w:=w) (base:=base) T
 have yer:=ywY (P:=l.prog) (w:=w) (base:=base) T
 have ylu:=ysS (P:=l.prog) (w:=w) (base:=base) T
 have ymC:=yuR (P:=l.prog) (w:=w) (base:=base) T yha ylu yer
 have ygl:=yuS (P:=l.prog) (w:=w) (base:=base) T yha yer
 have ybg:=yuT (P:=l.prog) (w:=w) (base:=base) T
 have GR3:=yDD (P:=l.prog) (w:=w) (base:=base) T ybg 15
 have ydT:=GR3.yqk
 have GR4:=yDE (P:=l.prog) (w:=w) (base:=base) T ybg 15
 have ycN:=GR4.ysg
 have ynQ:=ywZ (P:=l.prog) (w:=w) (base:=base) T ycN ymC ydT ygl
 have GR5:=yDF (P:=l.prog) (w:=w) (base:=base) T  30
 have yiP:=GR5.yxa
 have yiQ:=GR5.ysh
 have yii:=ysT (P:=l.prog) (w:=w) (base:=base) T ymD
 have GR6:=yDG (P:=l.prog) (w:=w) (base:=base) T ybg yii 15
 have ygb:=GR6.ysi
 have GR7:=yDH (P:=l.prog) (w:=w) (base:=base) T ybI ydx ydF ydG ybX ycL ycm ycA ybg 30
 have yiR:=GR7.ysj
 have ysl:=GR7.ysk
 have ylv:=ysU (P:=l.prog) (w:=w) (base:=base) T yiR
 have yjX:=ysm (P:=l.prog) (w:=w) (base:=base) T ycN ydT ygl
 have yjL:=yuU (P:=l.prog) (w:=w) (base:=base) T ylv ycN ygb yiQ G_read yoT G_long
 have G_law:=yMb (P:=l.prog) (w:=w) (base:=base) T ynQ yjL yjX
 exact G_law.imp yMc
theorem walk {l:PySem.W.OpenLaw}{q:Program}{loose:List Str}{XP:(Str->Option Value)->Heap->Prop}{YP:World->Heap->Prop}{d:DefRec}{K:Params->PySem.W.Frag}(hn:l.most=some 63) (hdf:d.params.defaults=[])
  (hY:∀ (w:World) (h:Heap),YP w h->(K w.params).In h)
  (F:∀ (w:World) (mg:Str->Option Value) (fa:Addr) (h:Heap),(K w.params).In h->h.Ns mainGlobals mg->mg d.name=some (.ref fa) ->
   ∃ fd:FuncData,(∀ (s:Shared) (u:Value),BindsTo s fd ⟨[u],[]⟩ [("_law_script",u)])/\∀ base:Heap,(K w.params).In base->base.Ns mainGlobals mg->FnOk l.prog w (K w.params) mg base CX0 54 fa fd ["_law_script"] (yFP (K w.params))) :
  PySem.W.WalkO q loose XP YP l.row.toRowW d [] (fun f vs=>PySem.call f vs) :=
 L2.walk_of (n:=63) (k:=54) (x:="_law_script") (CX:=fun _=>CX0) (sp:=fun w=>yFP (K w.params)) hn (by decide) hdf ⟨rfl,by decide,by decide⟩ hY F (fun _ _ a ns hl _ hS=>⟨a,ns,rfl,hS,hl,fun _=>rfl⟩) fun _ _ _ _ _ z=>z
end My
namespace PySem.W.Fast
def tw8105073740883421642:=()
def tw372278166692031471:=()
def tw1687353289787849540:=()
def tw9970429077711509633:=()
def tw12830581795799516598:=()
def tw16865882754466633378:=()
def tw17037897770973913802:=()
def tw17695810006724868585:=()
def tw5606571808353893833:=()
def tw10386687074253632571:=()
def tw7796418608554163807:=()
def tw1771597144702856965:=()
def tw2992575996094623584:=()
def tw13475117066624977896:=()
def tw18141144627941695959:=()
def tw16288415264288738669:=()
def tw11008383534510848752:=()
def tw2091201178081700076:=()
def tw14185396925205742873:=()
def tw14677703766945654640:=()
def tw17811381304777228061:=()
def tw10690301067040784869:=()
def tw14088461524931849308:=()
def tw2622304853839166113:=()
def tw11125523551150132809:=()
def tw4406952310036030546:=()
def tw9233629756699007405:=()
def tw15315427584018764249:=()
def tw6950346408886279635:=()
def tw3486098906636340766:=()
def tw7517102531081704253:=()
def tw1244452264836768493:=()
def tw12089625561992204758:=()
def tw8699567904778582806:=()
def tw849195513073446333:=()
def tw3390332822814607665:=()
def tw4306886244899011114:=()
def tw13660883788613042371:=()
def tw9682201376088774369:=()
def tw6672346069678451540:=()
def tw6504354483679707459:=()
def tw8895753611410156890:=()
def tw7314670554830413309:=()
def tw1362065714359458763:=()
def tw969937716055635176:=()
def tw2734916550793427433:=()
def tw12727334352571085051:=()
def tw11790613564993224212:=()
def tw9790428903305058628:=()
def tw12725839736724523795:=()
def tw13054597963188780882:=()
def tw16268841203104693758:=()
def tw783302116460303536:=()
def tw4792849976512110868:=()
def tw2933642349321902173:=()
def tw9033426598994837371:=()
def tw16754684595556741550:=()
def tw4440738211392085415:=()
def tw10368146250565658908:=()
def tw7138613251966689586:=()
def tw7454976823370223622:=()
def tw6620569486824781661:=()
def tw12671288950889210142:=()
def tw1884678550305988304:=()
def tw8858554325245262691:=()
def tw1889946613400654016:=()
def tw380217887419631714:=()
def tw16133682394838145959:=()
def tw15960637905550295352:=()
def tw11542005236354838442:=()
def tw9568211639764158727:=()
def tw11134217871160997675:=()
def tw13673779068642028362:=()
def tw2402300620999744319:=()
def tw10233174364502852886:=()
def tw14075849261166594063:=()
def tw4163043759610090339:=()
def tw413436258595944569:=()
def tw2918843717736399263:=()
def tw8648758925259984400:=()
def tw17399840901895839373:=()
def tw9772155109349980283:=()
def tw6738599621027566358:=()
def tw18396438271868264116:=()
def tw1081408812290715721:=()
def tw7551898582921316781:=()
def tw16529184350336855567:=()
def tw17430620000124420145:=()
def tw9597129486451842410:=()
def tw13847053576603158721:=()
def tw16326176164747139474:=()
def tw3477316363471218816:=()
def tw537002299860276302:=()
def tw18330413916534868767:=()
def tw3435665156950928226:=()
def tw1302750316109097142:=()
def tw9813721819054707270:=()
def tw15222839262456274736:=()
def tw16600793995502567320:=()
def tw16338536646589048095:=()
def tw1799965831345143056:=()
def tw18290187522741336532:=()
def tw7705042806109051985:=()
def tw17038443301759721425:=()
def tw3716227340578174901:=()
def tw14451948294612306015:=()
def tw12033411385382243001:=()
def tw12467533234394192114:=()
def tw4264350397464843797:=()
def tw5579858076963214284:=()
def tw9507201580143762845:=()
def tw5227179547285619289:=()
def tw2261152339781918412:=()
def tw70293894488697342:=()
def tw6706983368119058179:=()
def tw6506110762218455786:=()
def tw5160661070028771411:=()
def tw7369230609250026374:=()
def tw17905840559084363302:=()
def tw275430905978712697:=()
def tw9111568507101932284:=()
def tw2096149333035555973:=()
def tw15742736414471976118:=()
def tw3087634024709713149:=()
def tw9034630945808197362:=()
def tw17381074925561166567:=()
def tw10236664608798936594:=()
def tw8303079912813615504:=()
def tw1508962318846466396:=()
def tw9182713972637968361:=()
def tw4685129751420241832:=()
def tw180022364970540070:=()
def tw1538238178550657963:=()
def tw9029596653079259745:=()
def tw264452903989112096:=()
def tw13182202489401241834:=()
def tw7185348976617278919:=()
def tw4287928181205878045:=()
def tw9424573359803536765:=()
def tw15384617151262028925:=()
def tw7099076328956208417:=()
def tw16248979233114663534:=()
def tw7370959932875209862:=()
def tw7131946708614794750:=()
def tw17637821802281349167:=()
def tw6255445307774584002:=()
def tw14634571499949986021:=()
def tw3766062547748204313:=()
def tw263110135274598056:=()
def tw3380604029338525820:=()
def tw2026026334092152981:=()
def tw5826881609949849461:=()
def tw5308184963236314945:=()
def tw9921302381582345945:=()
def tw7166189882683438851:=()
def tw9516872022213271455:=()
def tw9653193933330526176:=()
def tw6393541018595781661:=()
def tw11499514747576848462:=()
def tw1916008162680105563:=()
def tw16247182659402381392:=()
def tw16082978048787501116:=()
def tw15371103158536127435:=()
def tw14873952190320693776:=()
def tw5955804118677048727:=()
def tw17020573026722679102:=()
def tw14435900000214145320:=()
def tw7207056572923675312:=()
def tw6348340610318683601:=()
def tw15050541674274441920:=()
def tw609728215644535087:=()
def tw18434496329445833785:=()
def tw1351596220613467372:=()
def tw3234240855822015832:=()
def tw14941339177250728527:=()
def tw5170853153565662162:=()
def tw8188600484298445328:=()
def tw13561268940592860624:=()
def tw15910160400180304023:=()
def tw16132885012605532579:=()
def tw4819126863440772339:=()
def tw17558012243523858092:=()
def tw10741867967626398203:=()
def tw16754202702007791481:=()
def tw11489712530114655045:=()
def tw15612867269453885560:=()
def tw7164107061303993419:=()
def tw3250823965052586136:=()
def tw2751105119330308161:=()
def tw5386261274552491385:=()
def tw17637267354731505972:=()
def tw387964123280440098:=()
def tw1353222716747600922:=()
def tw7152717697104988391:=()
def tw5574821411411059118:=()
def tw1600947157893217732:=()
def tw8954496023000554506:=()
def tw5726929845205183700:=()
def tw2099483175091890115:=()
def tw12573021716484886022:=()
def tw6590895989852194324:=()
def tw15509615110682356994:=()
def tw18317054031258614640:=()
def tw6371518698642840964:=()
def tw8861438489640093092:=()
def tw5856235008079647188:=()
def tw13568670281267113630:=()
def tw11803655451964796490:=()
def tw1933283004289764517:=()
def tw17066080964183492216:=()
def tw13179581730510735465:=()
def tw557819344826369881:=()
def tw15943888603067203745:=()
def tw10246052377881727069:=()
def tw10679874853774136281:=()
def tw10862044845333725453:=()
def tw14888661529263070936:=()
def tw13370896550804470174:=()
def tw209967298273581370:=()
def tw10539570872961264193:=()
def tw16051414145982150768:=()
def tw2111421004348769590:=()
def tw14930161018442106802:=()
def tw12206177012678686521:=()
def tw17848700694257370720:=()
def tw5216565839354167672:=()
def tw13984467713443744452:=()
def tw11113010000986014202:=()
def tw13608085410452047007:=()
def tw7529486899095905754:=()
def tw18288098741107873691:=()
def tw12730461914475396977:=()
def tw2405611837784077621:=()
def tw13664867761604825182:=()
def tw11724710326040146476:=()
def tw7710220486267989393:=()
def tw12919828140164537514:=()
def tw2350811606648249225:=()
def tw4920644922974885429:=()
def tw11601623038242945007:=()
def tw10609342523497445262:=()
def tw6847396936396713152:=()
def tw9531329786046294220:=()
def tw13402086916639850409:=()
def tw7396884647764808728:=()
def tw5294633796538821439:=()
def tw8269797332281581253:=()
def tw16547545878253571163:=()
def tw14384895031906570580:=()
def tw3942316746410846691:=()
def tw9651742773585626702:=()
def tw16699011838896196388:=()
def tw9422358841216154824:=()
def tw14058697356318086486:=()
def tw1803756313065436336:=()
def tw1942218947648208471:=()
def tw18390812909868956796:=()
def tw13108951408424498006:=()
def tw9878931497517358501:=()
def tw15005676887094702341:=()
def tw7229301462020603978:=()
def tw16853378792015081684:=()
def tw13752859436725042565:=()
def tw5470849025956700138:=()
def tw8013095844794234977:=()
def tw7996623693275098322:=()
def tw16511010441199887948:=()
def tw12259998999174609475:=()
def tw889227963245115120:=()
def tw10384778315250901614:=()
def tw4969160101887150993:=()
def tw2048157288452827909:=()
def tw18428031107025046484:=()
def tw11412319164313197878:=()
def tw6832809006855289872:=()
def tw2128629166476356344:=()
def tw12383431935622949058:=()
def tw3951824552753080219:=()
def tw12395096721655938757:=()
def tw8202701538042382741:=()
def tw3511283035326261822:=()
def tw27202124870883972:=()
def tw12676103059669933704:=()
def tw18207135530292590807:=()
def tw15882271961672246948:=()
def tw3125342239725623152:=()
def tw3797334586385246692:=()
def tw8738109766695812186:=()
def tw16628773582273632268:=()
def tw10364125284940060195:=()
def tw6027296300408153003:=()
def tw14016923448660155371:=()
def tw14981623798359982346:=()
def tw8029862227417313996:=()
def tw4530284110914130504:=()
def tw7314538186517413767:=()
def tw17766484923452568447:=()
def tw727019713734294387:=()
def tw13370247969147794904:=()
def tw11428117789077555979:=()
def tw8938816034038015231:=()
def tw4055219316885652706:=()
def tw14602932767298473331:=()
def tw7822430246814332203:=()
def tw866451369665124818:=()
def tw15292654572637844072:=()
def tw5024104040156257664:=()
def tw6716160910055586521:=()
def tw3763396227364287898:=()
def tw3335801303182487475:=()
def tw16456042159644195150:=()
def tw17686851481267848914:=()
def tw4167277009107124798:=()
def tw7779069895199998164:=()
def tw11231824791897570049:=()
def tw17397638093561676895:=()
def tw18352336983363612527:=()
def tw4015718809142856997:=()
def tw2598919011994534555:=()
def tw16760279257034813819:=()
def tw6047761374085042179:=()
def tw3251990626996460838:=()
def tw6287681023937173991:=()
def tw16747212419276302023:=()
def tw10775445772913806386:=()
def tw16084143915733036229:=()
def tw17923471011596444235:=()
def tw15309164801590931594:=()
def tw14665266952163116818:=()
def tw13344785889790734103:=()
def tw12017453160771173028:=()
def tw3403196461079654742:=()
def tw10882347464816597806:=()
def tw12388171163092351838:=()
def tw14286728617451459481:=()
def tw1416104584451864356:=()
def tw13660670200293832163:=()
def tw8827806903909239823:=()
def tw9664919989437762649:=()
def tw16220901082386231388:=()
def tw18068736300985332926:=()
def tw13730185644854972313:=()
def tw10060017033684521213:=()
def tw11750640138755247743:=()
def tw5693622413890127183:=()
def tw13604883739257579215:=()
def tw17550778081099140369:=()
def tw6290701292086145000:=()
def tw12681684856351093949:=()
def tw2289755987248118619:=()
def tw11869971890306727315:=()
def tw1131690981577503904:=()
def tw15765577570591305572:=()
def tw5693743765215513439:=()
def tw15479541967535694625:=()
def tw17588825542095396281:=()
def tw5068478775688659905:=()
def tw16860625277178533701:=()
def tw17347545829203433275:=()
def tw4362666050199225147:=()
def tw7027527828673378711:=()
def tw16546073472271136430:=()
def tw17962466590205888459:=()
def tw18375399258265808166:=()
def tw4587601916915621461:=()
def tw9564138682364203697:=()
def tw6332164762065709433:=()
def tw8113616976700635940:=()
def tw6430988587052364228:=()
def tw15335879120051159443:=()
def tw17214316630215350810:=()
def tw12737353624033912474:=()
def tw10826629045681929893:=()
def tw12825113171616630146:=()
def tw15999805685512355591:=()
def tw742989139943831297:=()
def tw15921190794800752058:=()
def tw14036858376205364941:=()
def tw7907500627265247469:=()
def tw10173355198416745891:=()
def tw5258535988875119648:=()
def tw5191877523727993393:=()
def tw8113934637433771803:=()
def tw5972566916267607121:=()
def tw12491690689486035230:=()
def tw8943077177843121659:=()
def tw5470723014859834511:=()
def tw16196592745407857846:=()
def tw13621248858263012293:=()
def tw11534996244460428345:=()
def tw17140523334905503817:=()
def tw16398371488195278240:=()
def tw15779321439466862063:=()
def tw2527264712482233955:=()
def tw18267829260786524333:=()
def tw12112157401648711538:=()
def tw13079777233285924518:=()
def tw4386918396933703002:=()
def tw653670864603291519:=()
def tw15900127677927703813:=()
def tw10286491716388216541:=()
def tw5780495519169575546:=()
def tw9307300406344418643:=()
def tw10881708920613115937:=()
def tw7834537003729186232:=()
def tw12537273829407142943:=()
def tw6182724299542580744:=()
def tw895248658452746716:=()
def tw7349242076058377860:=()
def tw15627527543748383930:=()
def tw5517992185364923473:=()
def tw8160995760637505069:=()
def tw742554775689116221:=()
def tw866778591114949462:=()
def tw16186956411589493440:=()
def tw12692053694434066417:=()
def tw3485549446643082072:=()
def tw15907877974096784122:=()
def tw15357970947909147179:=()
def tw13966524017532427807:=()
def tw762777095227626495:=()
def tw6222856012108277213:=()
def tw6659051596410556454:=()
def tw4629660742390981940:=()
def tw9055234378990718653:=()
def tw7045186597604620828:=()
def tw5005167959911663168:=()
def tw10479225156634970708:=()
def tw11965274852172509231:=()
def tw14244169928420443914:=()
def tw11329689904656811865:=()
def tw416873282206819041:=()
def tw7645895566788116340:=()
def tw12611501432834963663:=()
def tw15721915966058583943:=()
def tw17007149888761981634:=()
def tw424825345223858737:=()
def tw6783901591309584443:=()
def tw15288644293563632480:=()
def tw10947743393041406873:=()
def tw8296139127536357892:=()
def tw10851663205496736566:=()
def tw14219688904142011727:=()
def tw9364971229319631328:=()
def tw14406950171408274327:=()
def tw12089513836460376184:=()
def tw905302586932107588:=()
def tw16104801256918689678:=()
def tw5331744649861484972:=()
def tw4081427305689836146:=()
def tw5050552071088257507:=()
def tw4389704478442454053:=()
def tw16061938491027695450:=()
def tw10680187595138247314:=()
def tw4753233183881428226:=()
def tw12316402880934831958:=()
def tw18268636994356041172:=()
def tw6042300461574462577:=()
def tw45496561925649333:=()
def tw16399719372149397419:=()
def tw9388932075567273728:=()
def tw1918948131871184954:=()
def tw6581033732079311075:=()
def tw5740511377801041759:=()
def tw9060013320580167749:=()
def tw9497068864302538202:=()
def tw11483410335884604432:=()
def tw14748101113347807784:=()
def tw3662965084386516068:=()
def tw14885958232331675623:=()
def tw5279841986676006748:=()
def tw9972228537316364977:=()
def tw791846962206711895:=()
def tw18200751417706728696:=()
def tw10540423924120508838:=()
def tw17556471778752327422:=()
def tw3320764787626354548:=()
def tw10947992445721755420:=()
def tw10518514881574654263:=()
def tw14156334067065042722:=()
def tw12637507979824739355:=()
def tw2653239810064253349:=()
def tw16834939749781304841:=()
def tw15817649858571198633:=()
def tw18315164449622726137:=()
def tw14966895518095491489:=()
def tw5874304862550098649:=()
def tw7550787163004770979:=()
def tw13612888355078919392:=()
def tw13698009226192328164:=()
def tw13212137638922953538:=()
def tw16350992029654484884:=()
def tw4036930055064131143:=()
def tw17737767730604143449:=()
def tw8625545374791179716:=()
def tw15263695288718971830:=()
def tw15242844526953567912:=()
def tw1164929182019773192:=()
def tw14072197442429115763:=()
def tw984994997161263044:=()
def tw9539432736496589156:=()
def tw584774633180655996:=()
def tw11943431041421839227:=()
def tw8946740562570334602:=()
def tw16527775792731720414:=()
def tw4265743222051926104:=()
def tw13786984589543920668:=()
def tw9699897872623914828:=()
def tw8994363331515527089:=()
def tw11165776081708674320:=()
def tw8492514550464845464:=()
def tw12809453978312429694:=()
def tw751729877118085941:=()
def tw16021221535818281283:=()
def tw206442168286379057:=()
def tw15221925027550111193:=()
def tw8430500400155786936:=()
def tw4977429543147294682:=()
def tw17216258749849033865:=()
def tw9012415447083440571:=()
def tw12265627559748666828:=()
def tw16417614162597176096:=()
def tw11182104428155506066:=()
def tw13710410544383136049:=()
def tw2581152113771397282:=()
def tw6762476179732344339:=()
def tw4012528624718958006:=()
def tw6987199998273850639:=()
def tw2865507055198750186:=()
def tw3174548544875955429:=()
def tw11074592056611269022:=()
def tw16119549810605497105:=()
def tw13778883994195926129:=()
def tw4633354714310938827:=()
def tw959807343843666695:=()
def tw9966990925188874982:=()
def tw17536772153262473979:=()
def tw3915364645073023504:=()
def tw1675933236460016204:=()
def tw8911978819773981296:=()
def tw16595969085430378228:=()
def tw17507997947904386543:=()
def tw9266507917964062355:=()
def tw8911906925647549273:=()
def tw12317327612239717176:=()
def tw13132446832149115929:=()
def tw9652251721047277279:=()
def tw11046829384419828403:=()
def tw6609155010787342249:=()
def tw11520504897140820300:=()
def tw1960907666367756882:=()
def tw10969070729199248455:=()
def tw12112797412631000268:=()
def tw16144558965527419716:=()
def tw628844926461281152:=()
def tw18327550082873341874:=()
def tw2927386708691610904:=()
def tw15981611780221581017:=()
def tw8853485448799931979:=()
def tw11156515083034849054:=()
def tw9139714674790204321:=()
def tw2316420131194342659:=()
def tw17720259683826273374:=()
def tw6434352059023908943:=()
def tw5790116657087714242:=()
def tw8328818513024483911:=()
def tw2146207543104731516:=()
def tw12638906405107512091:=()
def tw14904660206467697238:=()
def tw5285743260601653825:=()
def tw13095842631397087049:=()
def tw6117962485312158437:=()
def tw536469667916090961:=()
def tw12728627576270492870:=()
def tw5544077121356582262:=()
def tw12357536446802260764:=()
def tw8488730913791683983:=()
def tw7368588930218738206:=()
def tw2438405222811285222:=()
def tw8414178152606119513:=()
def tw7626805032213940550:=()
def tw1649892253494649345:=()
def tw14403705873187591170:=()
def tw5075805542911192991:=()
def tw807315447600552471:=()
def tw10664492577760105473:=()
def tw11709240876633406302:=()
def tw6454282745510028243:=()
def tw15627678106310117049:=()
def tw12184591480980807104:=()
def tw17456945370762476533:=()
def tw4517069211145863239:=()
def tw2854244896019279769:=()
def tw2368310340978505181:=()
def tw11886020250384823599:=()
def tw17841172175642691476:=()
def tw4282585773392253650:=()
def tw13325140919072877994:=()
def tw2520933279712047018:=()
def tw6015037325162593542:=()
def tw2055725311121312742:=()
def tw11799933676850310988:=()
def tw18394114217797264559:=()
def tw1794857146428043357:=()
def tw8400275950192401864:=()
def tw15170314959682362539:=()
def tw10133272704193570871:=()
def tw12496776535112183862:=()
def tw14415072201757875718:=()
def tw12285247320541443247:=()
def tw15507341218287630302:=()
def tw13380609641603265062:=()
def tw7157347670479463099:=()
def tw2345329662515616314:=()
def tw1627195067332061868:=()
def tw6510054457754673514:=()
def tw14583532679675918507:=()
def tw26567982868740405:=()
def tw16609875652864981662:=()
def tw4270026994721533335:=()
def tw2395282890549099086:=()
def tw13775900526390376694:=()
def tw13565931710150611276:=()
def tw11490194193846374964:=()
def tw994859046850742125:=()
def tw2279245335313641591:=()
def tw13173545730497337188:=()
def tw288111897781036200:=()
def tw9576355623010906893:=()
def tw17881174272620865344:=()
def tw8277594377978506007:=()
def tw3901979527021102548:=()
def tw10037605308895055264:=()
def tw1721864454837891033:=()
def tw11075911570290092319:=()
def tw9502638740208640338:=()
def tw17288765034047147524:=()
def tw13734790214803864927:=()
def tw1057494173804135067:=()
def tw8000007975995125023:=()
def tw9089638110014603692:=()
def tw396682481864530836:=()
def tw9164331468063084721:=()
def tw14954891801792649653:=()
def tw15462576085371926573:=()
def tw17510476352744758761:=()
def tw15591327154074269061:=()
def tw10517898980020367798:=()
def tw15960569860429633480:=()
def tw8677093913707787722:=()
def tw17346895003095813551:=()
def tw13096316636958208040:=()
def tw704407214424741609:=()
def tw3086147446975797267:=()
def tw12577460787346380863:=()
def tw15445166839053283319:=()
def tw3583280067886387190:=()
def tw8433823503504309215:=()
def tw5479919040542498118:=()
def tw13743554130140758307:=()
def tw15239320071970478324:=()
def tw12491587550090794361:=()
def tw15290992962491974841:=()
def tw7813988382474329569:=()
def tw11523645876145413497:=()
def tw656380955417919063:=()
def tw6628415141570842038:=()
def tw362479582484415060:=()
def tw4740356427997003111:=()
def tw11288506694282957584:=()
def tw16657445615381380381:=()
def tw14474895059093183211:=()
def tw3106291910763598514:=()
def tw4506836213970895912:=()
def tw5850263900313833786:=()
def tw7042588154291467127:=()
def tw6227192176013132312:=()
def tw10100620568576098538:=()
def tw4061392888386264226:=()
def tw285961842915541829:=()
def tw6324213526203610320:=()
def tw12494828990834099565:=()
def tw17177652978251441468:=()
def tw10276162512839524727:=()
def tw17300737490021679092:=()
def tw1231861853615574472:=()
def tw12161782025567431471:=()
def tw3488107851891146193:=()
def tw14900311587294231614:=()
def tw4743623087691616343:=()
def tw1378302713965119790:=()
def tw5991074210594472144:=()
def tw6811840951825199718:=()
def tw12991084388201413229:=()
def tw7818078664084199568:=()
def tw9716307248398582948:=()
def tw2485068198003021426:=()
def tw11767494915099785603:=()
def tw6906480029277719132:=()
def tw364554083040800998:=()
def tw13381680741969798273:=()
def tw3427089682487081243:=()
def tw6183082140285222689:=()
def tw12940736803981512109:=()
def tw17758008059132928486:=()
def tw16696924402510466244:=()
def tw5922744581908349924:=()
def tw9271822146079083821:=()
def tw6404517313481413247:=()
def tw17128643604802430073:=()
def tw13772841685112825266:=()
def tw5710181451723261763:=()
def tw2643646716518278985:=()
end PySem.W.Fast
open PySem PySem.W PyProof.Rows
set_option maxRecDepth 100000 in
set_option maxHeartbeats 0 in
theorem PySem.Challenge.cw_retryhall_k07_whole_written_and_read_holds : PySem.Challenge.rw_retryhall_k07_whole_written_and_read.Holds := by
 w_on;o_law;k_head;(case hw=>w_witness2)
 k_fill
 refine My.walk (l:=PySem.Challenge.rw_retryhall_k07_whole_written_and_read) rfl rfl (fun w h Y=>PySem.W.kIn_of Y) ?F
 case F =>
  intro w mg fa h KX G hmg
  refine' My.all_mk KX G hmg ..
  all_goals first|k_is|decide|skip
