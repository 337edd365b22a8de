import PyProof.Rows.All
import Wide.All
import OpenK.AllK
import Wide.FinOn
import Lean
import PyProof.EqAt
import PyProof.EqKinds
import PyProof.TupleCall
import PySem.Challenge.RW_retryhall_k17_alone_either
set_option Elab.async false
set_option linter.all false
set_option maxRecDepth 100000
set_option maxHeartbeats 4000000
namespace L2
open PySem PySem.Spec PyProof.Rows
noncomputable abbrev Key:=Sum Int Str
noncomputable def ytZ:Key->Value->Bool
 | .inl k,v=>Value.isInt k v
 | .inr x,v=>Value.isStrOf x v
noncomputable def yKb (w:World):Key->Int
 | .inl k=>hashInt k
 | .inr x=>hashStr w x
theorem ybS:∀ {k:Key}{v:Value},ytZ k v=true->(∃ i t,k=Sum.inl i/\v=Value.int i t)\/(∃ x t,k=Sum.inr x/\v=Value.str x t)
 | .inl i,v,h=>by
  obtain ⟨t,e⟩:=Value.isInt_shape (k:=i) (v:=v) h
  exact .inl ⟨i,t,rfl,e⟩
 | .inr x,v,h=>by
  obtain ⟨t,e⟩:=Value.isStrOf_shape (x:=x) (v:=v) h
  exact .inr ⟨x,t,rfl,e⟩
theorem yxo (i:Int) (t:Tok):ytZ (.inl i) (.int i t)=true:=by simp [ytZ,Value.isInt]
theorem yxp (x:Str) (t:Tok):ytZ (.inr x) (.str x t)=true:=by simp [ytZ,Value.isStrOf]
theorem yFz (a b:Int):decide ((Sum.inl a:Key)=Sum.inl b)=(a == b):=by
 by_cases e:a=b
 .subst e;simp
 .have h:¬ (Sum.inl a:Key)=Sum.inl b:=fun q=>e (Sum.inl.inj q)
  rw [decide_eq_false h]
  exact (beq_eq_false_iff_ne.mpr e).symm
theorem yFA (a b:Str):decide ((Sum.inr a:Key)=Sum.inr b)=decide (a=b):=by
 by_cases e:a=b
 .subst e;simp
 .have h:¬ (Sum.inr a:Key)=Sum.inr b:=fun q=>e (Sum.inr.inj q)
  rw [decide_eq_false h,decide_eq_false e]
theorem yFB (a:Int) (b:Str):decide ((Sum.inl a:Key)=Sum.inr b)=false:=decide_eq_false (fun q=>nomatch q)
theorem yFC (a:Str) (b:Int):decide ((Sum.inr a:Key)=Sum.inl b)=false:=decide_eq_false (fun q=>nomatch q)
noncomputable def ydz (prog:Program) (w:World):PySem.KeyKind prog w Key where
 is:=ytZ
 hash:=yKb w
 inj:=fun v a b ha hb=>by
  rcases ybS ha with ⟨i,t,rfl,rfl⟩|⟨x,t,rfl,rfl⟩
  .rcases ybS hb with ⟨j,u,rfl,e⟩|⟨y,u,rfl,e⟩
   .injection e with e1 _;rw [e1]
   .exact nomatch e
  .rcases ybS hb with ⟨j,u,rfl,e⟩|⟨y,u,rfl,e⟩
   .exact nomatch e
   .injection e with e1 _;rw [e1]
 byValue:=fun k v h=>by
  rcases ybS h with ⟨i,t,rfl,rfl⟩|⟨x,t,rfl,rfl⟩<;>rfl
 pyHash:=fun hv h=>by
  rcases ybS hv with ⟨i,t,rfl,rfl⟩|⟨x,t,rfl,rfl⟩
  .exact wpAny_pyHash_int h
  .exact wpAny_pyHash_str h
 eqBool:=fun hu hv h=>by
  rcases ybS hu with ⟨i,t,rfl,rfl⟩|⟨x,t,rfl,rfl⟩
  .rcases ybS hv with ⟨j,u,rfl,rfl⟩|⟨y,u,rfl,rfl⟩
   .rw [yFz] at h;exact wpAny_eqBool_int h
   .rw [yFB] at h;exact SeqAt.EqAt.int_str i t y u _ _ _ _ h
  .rcases ybS hv with ⟨j,u,rfl,rfl⟩|⟨y,u,rfl,rfl⟩
   .rw [yFC] at h;exact SeqAt.EqAt.str_int x t j u _ _ _ _ h
   .rw [yFA] at h;exact wpAny_eqBool_str h
 «strs»:=fun k x t v h=>by
  rcases ybS h with ⟨i,u,rfl,e⟩|⟨y,u,rfl,e⟩
  .exact nomatch e
  .injection e with e1 _
   subst e1
   cases v<;>rfl
theorem yua (prog:Program) (w:World) (i:Int) (t:Tok):(ydz prog w).is (.inl i) (.int i t)=true:=yxo i t
theorem yub (prog:Program) (w:World) (x:Str) (t:Tok):(ydz prog w).is (.inr x) (.str x t)=true:=yxp x t
end L2
namespace L2
open PySem PySem.Spec PyProof.Rows
inductive V where
 | non|bl (b:Bool)|int (i:Int)|str (x:Str)|byt (b:Array UInt8)|flt (b:UInt64)|ref (a:Addr)|ty (n:String)
 deriving DecidableEq
noncomputable def RelV:V->Value->Prop
 | .non,u=>u=Value.none
 | .bl b,u=>u=Value.bool b
 | .int i,u=>∃ t,u=Value.int i t
 | .str x,u=>∃ t,u=Value.str x t
 | .byt b,u=>∃ t,u=Value.bytes b t
 | .flt b,u=>∃ t,u=Value.float b t
 | .ref a,u=>u=Value.ref a
 | .ty n,u=>u=Value.type n
noncomputable abbrev Vals:List V->List Value->Prop:=Paired RelV
theorem Vals.length {xs:List V}{us:List Value}(r:Vals xs us):xs.length=us.length:=Paired.length r
theorem Vals.get:∀ {xs:List V}{us:List Value}{i:Nat}{x:V},Vals xs us->xs[i]?=some x->∃ u,us[i]?=some u/\RelV x u
 | _,_,_,_,.nil,e=>by simp at e
 | _,_,0,_,.cons r _,e=>by simp at e;subst e;exact ⟨_,rfl,r⟩
 | _,_,i+1,x,.cons _ t,e=>by
  obtain ⟨u,h1,h2⟩:=Vals.get (i:=i) (x:=x) t (by simpa using e)
  exact ⟨u,by simpa using h1,h2⟩
theorem Vals.set {x:V}{u:Value}(r:RelV x u):∀ {xs:List V}{us:List Value}(i:Nat),Vals xs us->Vals (xs.set i x) (us.set i u)
 | _,_,_,.nil=>.nil
 | _,_,0,.cons _ t=>.cons r t
 | _,_,i+1,.cons q t=>.cons q (Vals.set r i t)
theorem Vals.append:∀ {xs ys:List V}{us ws:List Value},Vals xs us->Vals ys ws->Vals (xs++ys) (us++ws)
 | _,_,_,_,.nil,s=>s
 | _,_,_,_,.cons r t,s=>.cons r (Vals.append t s)
theorem Vals.take:∀ {xs:List V}{us:List Value}(n:Nat),Vals xs us->Vals (xs.take n) (us.take n)
 | _,_,0,_=>.nil
 | _,_,_+1,.nil=>.nil
 | _,_,n+1,.cons r t=>.cons r (Vals.take n t)
theorem Vals.drop:∀ {xs:List V}{us:List Value}(n:Nat),Vals xs us->Vals (xs.drop n) (us.drop n)
 | _,_,0,r=>r
 | _,_,_+1,.nil=>.nil
 | _,_,n+1,.cons _ t=>Vals.drop n t
noncomputable def RelO:Option V->Option Value->Prop
 | some v,some u=>RelV v u
 | none,none=>True
 | _,_=>False
noncomputable def KV {κ:Type}:List (κ×V)->List (κ×Value)->Prop:=Paired fun (p:κ×V) (q:κ×Value)=>p.1=q.1/\RelV p.2 q.2
noncomputable def kV:Key->V
 | .inl i=>.int i
 | .inr x=>.str x
inductive HO where
 | lst (xs:List V)
 | tup (xs:List V)
 | dK (kvs:List (Key×V))|dT (kvs:List (List Key×V))
 | set (S:Int->Bool) (n:Nat)
 | ins (C dx:Addr) (fs:List (Str×V))
 | own (x:Addr)
 | xd (fs:List (Str×V))
 | met (f x:Addr)
 | rng (lo hi:Int)
 | frz (o:Obj) (u:HO)
 | tbl (ps:Array Value)
 | ext (φ:Heap->Prop)
noncomputable abbrev Hp:=Addr->Option HO
noncomputable def upd (H:Hp) (a:Addr) (o:HO):Hp:=fun b=>if b=a then some o else H b
theorem yS {H:Hp}{a:Addr}{o:HO}:upd H a o a=some o:=by unfold upd;rw [if_pos rfl]
theorem ybb {H:Hp}{a b:Addr}{o:HO}(h:b≠a):upd H a o b=H b:=by unfold upd;rw [if_neg h]
theorem yIk {H:Hp}{a b:Addr}{o u:HO}(h:H a=some o) (h':H b=some u) (d:o≠u):a≠b:=by
 intro e;subst e;rw [h] at h';exact d (Option.some.inj h')
theorem yco {H:Hp}{a b:Addr}{o:HO}(h:H a=some o) (h':H b=none):a≠b:=by
 intro e;subst e;rw [h] at h';cases h'
section
variable (P:Program) (w:World)
noncomputable def ObjOk (H:Hp) (h:Heap) (a:Addr):HO->Prop
 | .lst xs=>xs.length<=sizeLine/\∃ (its:List Value) (n:Nat),Vals xs its/\h.get? a=some { cls:=.type "list",data:=.seq its.toArray n }
 | .tup xs=>xs.length<=sizeLine/\∃ its:List Value,Vals xs its/\IsTup h a its.toArray
 | .dK kvs=>kvs.length<=sizeLine/\(a == sysModules)=false/\∃ vs,KV kvs vs/\h.DictOf (ydz P w) a vs
 | .dT kvs=>kvs.length<=sizeLine/\(a == sysModules)=false/\∃ xs:List (List Key×Addr×Value),
   Paired (fun (p:List Key×V) (q:List Key×Addr×Value)=>p.1=q.1/\H q.2.1=some (.tup (p.1.map kV))/\RelV p.2 q.2.2) kvs xs /\
   ∃ o es ep,h.get? a=some o/\o.ExactDict/\o.data=.dict es ep/\es.toList=xs.map (entryOfKey (tupleKind (ydz P w)))/\(xs.map (·.1)).Nodup
 | .set S n=>h.SetOf (intKind P w) a S n
 | .ins C dx fs=>H dx=some (.own a)/\fs.length<=1000/\dx≠a/\h.get? a=some (PySem.W.instObj C dx) /\
   ∃ mA,h.Ns1 dx mA/\(∀ f,RelO (fs.lookup f) (mA f))/\PySem.Within mA (fs.map (·.1))
 | .own _=>∃ o,h.get? a=some o
 | .xd fs=>∃ mA,h.Ns1 a mA/\∀ f,RelO (fs.lookup f) (mA f)
 | .rng lo hi=>∃ t u v,h.get? a=some { cls:=.type "range",data:=.fields #[.int lo t,.int hi u,.int 1 v] }
 | .frz o u=>h.get? a=some o/\ObjOk H h a u
 | .tbl ps=>h.get? a=some { cls:=.none,data:=.fields ps }
 | .met f x=>h.get? a=some (PySem.W.methodObj (.ref f) (.ref x))
 | .ext φ=>φ h/\(∃ o,h.get? a=some o)/\∀ h1 h2:Heap,φ h1->(∀ o,h1.get? a=some o->h2.get? a=some o)->φ h2
noncomputable def HOk (H:Hp) (h:Heap):Prop:=∀ a o,H a=some o->ObjOk P w H h a o
end
section
variable {P:Program}{w:World}{H H':Hp}{h h':Heap}{a:Addr}{o:HO}
theorem ObjOk.lt (x:ObjOk P w H h a o):a<h.objs.size:=by
 cases o with
 | lst xs=>obtain ⟨_,_,_,_,e⟩:=x;exact Heap.lt_size e
 | tup xs=>obtain ⟨_,_,_,p⟩:=x;exact p.lt
 | dK kvs=>obtain ⟨_,_,_,_,o,_,_,e,_⟩:=x;exact Heap.lt_size e
 | dT kvs=>obtain ⟨_,_,_,_,o,_,_,e,_⟩:=x;exact Heap.lt_size e
 | set S n=>obtain ⟨o,_,_,_,e,_⟩:=x;exact Heap.lt_size e
 | ins C dx fs=>obtain ⟨_,_,_,e,_⟩:=x;exact Heap.lt_size e
 | own y=>obtain ⟨_,e⟩:=x;exact Heap.lt_size e
 | xd fs=>obtain ⟨_,⟨_,_,_,e,_⟩,_⟩:=x;exact Heap.lt_size e
 | rng lo hi=>obtain ⟨_,_,_,e⟩:=x;exact Heap.lt_size e
 | frz ob u=>obtain ⟨e,_⟩:=x;exact Heap.lt_size e
 | tbl ps=>exact Heap.lt_size (show h.get? a=some _ from x)
 | met f y=>exact Heap.lt_size (show h.get? a=some _ from x)
 | ext φ=>obtain ⟨_,⟨_,e⟩,_⟩:=x;exact Heap.lt_size e
theorem Paired.mapP {α β:Type}{F G:α->β->Prop}:∀ {l₁:List α}{l₂:List β},Paired F l₁ l₂->(∀ a b,F a b->G a b)->Paired G l₁ l₂
 | _,_,.nil,_=>.nil
 | _,_,.cons r t,f=>.cons (f _ _ r) (Paired.mapP t f)
theorem ObjOk.stay (x:ObjOk P w H h a o) (k:∀ b u,(b=a\/H b=some (.own a))->h.get? b=some u->h'.get? b=some u)
  (ho:∀ b,H b=some (.own a)->H' b=some (.own a)) (ht:∀ b xs,H b=some (.tup xs)->H' b=some (.tup xs)):ObjOk P w H' h' a o:=by
 induction o with
 | lst xs=>obtain ⟨z,its,n,r,e⟩:=x;exact ⟨z,its,n,r,k _ _ (.inl rfl) e⟩
 | tup xs=>obtain ⟨z,its,r,ob,e,c⟩:=x;exact ⟨z,its,r,ob,k _ _ (.inl rfl) e,c⟩
 | dK kvs=>obtain ⟨z,y,vs,r,ob,es,ep,e,c⟩:=x;exact ⟨z,y,vs,r,ob,es,ep,k _ _ (.inl rfl) e,c⟩
 | dT kvs =>
  obtain ⟨z,y,xs,r,ob,es,ep,e,c⟩:=x
  exact ⟨z,y,xs,Paired.mapP r fun p q z=>⟨z.1,ht _ _ z.2.1,z.2.2⟩,ob,es,ep,k _ _ (.inl rfl) e,c⟩
 | set S n=>obtain ⟨ob,es,ep,t,e,c⟩:=x;exact ⟨ob,es,ep,t,k _ _ (.inl rfl) e,c⟩
 | ins C dx fs =>
  obtain ⟨d,z,ne,e,mA,⟨od,es,ep,e2,c⟩,r⟩:=x
  exact ⟨ho _ d,z,ne,k _ _ (.inl rfl) e,mA,⟨od,es,ep,k _ _ (.inr d) e2,c⟩,r⟩
 | own y=>obtain ⟨ob,e⟩:=x;exact ⟨ob,k _ _ (.inl rfl) e⟩
 | xd fs=>obtain ⟨mA,⟨od,es,ep,e,c⟩,r⟩:=x;exact ⟨mA,⟨od,es,ep,k _ _ (.inl rfl) e,c⟩,r⟩
 | rng lo hi=>obtain ⟨t,u,v,e⟩:=x;exact ⟨t,u,v,k _ _ (.inl rfl) e⟩
 | frz ob u ih=>obtain ⟨e,q⟩:=x;exact ⟨k _ _ (.inl rfl) e,ih q⟩
 | tbl ps =>
  have e:h.get? a=some { cls:=.none,data:=.fields ps }:=x
  show h'.get? a=some { cls:=.none,data:=.fields ps }
  exact k a _ (.inl rfl) e
 | met f y =>
  have e:h.get? a=some (PySem.W.methodObj (.ref f) (.ref y)):=x
  show h'.get? a=some (PySem.W.methodObj (.ref f) (.ref y))
  exact k a _ (.inl rfl) e
 | ext φ=>obtain ⟨p,⟨o,e⟩,st⟩:=x;exact ⟨st _ _ p fun o q=>k _ _ (.inl rfl) q,⟨o,k _ _ (.inl rfl) e⟩,st⟩
theorem HOk.lt (x:HOk P w H h) (e:H a=some o):a<h.objs.size:=(x a o e).lt
theorem HOk.fresh (x:HOk P w H h) (e:h.objs.size<=a):H a=none:=by
 cases q:H a with
 | none=>rfl
 | some u=>exact absurd (Nat.lt_of_lt_of_le (x.lt q) e) (Nat.lt_irrefl _)
theorem HOk.kept (x:HOk P w H h) (k:∀ b u,h.get? b=some u->h'.get? b=some u):HOk P w H h':=fun a o e =>
 (x a o e).stay (fun b u _ q=>k b u q) (fun _ q=>q) fun _ _ q=>q
theorem HOk.laid (x:HOk P w H h) (k:∀ b u,h.get? b=some u->h'.get? b=some u) (hp:h.objs.size<=a) (new:ObjOk P w (upd H a o) h' a o):HOk P w (upd H a o) h':=fun b u e=>by
 have hn:=x.fresh hp
 by_cases hb:b=a
 .subst hb;rw [yS] at e;cases e;exact new
 .rw [ybb hb] at e
  exact (x b u e).stay (fun c v _ q=>k c v q) (fun c q=>by rw [ybb (yco q hn)];exact q) fun c xs q=>by rw [ybb (yco q hn)];exact q
end
noncomputable def Rd (H:Hp) (a:Addr) (u:HO):Prop:=H a=some u\/∃ o,H a=some (.frz o u)
theorem Rd.ok {P:Program}{w:World}{H:Hp}{h:Heap}{a:Addr}{u:HO}(r:Rd H a u) (x:HOk P w H h):ObjOk P w H h a u:=by
 rcases r with r|⟨o,r⟩
 .exact x a u r
 .obtain ⟨_,q⟩:=x a _ r
  exact q
noncomputable def Mut:Option HO->Prop
 | some (.lst _)=>True
 | some (.dK _)=>True
 | some (.dT _)=>True
 | some (.set _ _)=>True
 | some (.ins _ _ _)=>True
 | some (.ext _)=>True
 | _=>False
section
variable {P:Program}{w:World}{H:Hp}{h h':Heap}{x e:Addr}{o':HO}
theorem HOk.write (ok:HOk P w H h) (mu:Mut (H x)) (he:e=x\/H e=some (.own x)) (k:∀ b u,b≠e->h.get? b=some u->h'.get? b=some u) (heo:∃ u,h'.get? e=some u)
  (new:ObjOk P w (upd H x o') h' x o'):HOk P w (upd H x o') h':=fun b u q=>by
 have nown:∀ c y,H c=some (.own y)->c≠x:=fun c y r z=>by subst z;rw [r] at mu;exact mu
 have ntup:∀ c xs,H c=some (.tup xs)->c≠x:=fun c xs r z=>by subst z;rw [r] at mu;exact mu
 by_cases hb:b=x
 .subst hb;rw [yS] at q;cases q;exact new
 .rw [ybb hb] at q
  by_cases hbe:b=e
  .have q':H b=some (.own x):=by
    rcases he with z|z
    .exact absurd (hbe.trans z) hb
    .rw [hbe];exact z
   rw [q] at q';cases q'
   obtain ⟨v,hv⟩:=heo
   exact ⟨v,by rw [hbe];exact hv⟩
  .refine (ok b u q).stay (fun c v hc r=>k c v ?_ r) (fun c r=>by rw [ybb (nown c b r)];exact r) fun c xs r=>by rw [ybb (ntup c xs r)];exact r
   rcases hc with rfl|hc
   .exact hbe
   .rintro rfl
    rcases he with z|z
    .exact nown c b hc z
    .rw [hc] at z;cases z;exact hb rfl
end
structure Un (fs ex:List Addr) (H H':Hp) (h h':Heap):Prop where
 keep:∀ b o,h.get? b=some o->H b=none->b∉fs->b∉ex->h'.get? b=some o
 slot:∀ b o,h.get? b=some o->H b=none->b∈fs->b∉ex->∃ sl,h'.get? b=some { o with slots:=sl }
 free:∀ b o,h.get? b=some o->H b=none->b∉ex->H' b=none
 there:∀ b o,h.get? b=some o->b∉ex->∃ o',h'.get? b=some o'
 tups:∀ b xs,H b=some (.tup xs)->H' b=some (.tup xs)
 frzs:∀ b o u,H b=some (.frz o u)->H' b=some (.frz o u)
 tbls:∀ b ps,H b=some (.tbl ps)->∃ more,H' b=some (.tbl (ps++more))
section
variable {fs fs' ex ex':List Addr}{H H1 H2:Hp}{h h1 h2 h':Heap}{a x e:Addr}{o:HO}
theorem Un.any (u:Un fs ex H H1 h h1) {b:Addr}{ob:Obj}(q:h.get? b=some ob) (n:H b=none) (hx:b∉ex):∃ sl,h1.get? b=some { ob with slots:=sl }:=by
 by_cases hb:b∈fs
 .exact u.slot b ob q n hb hx
 .exact ⟨ob.slots,u.keep b ob q n hb hx⟩
theorem Un.kept (k:∀ b u,h.get? b=some u->h'.get? b=some u):Un fs ex H H h h' :=
 ⟨fun b ob q _ _ _=>k b ob q,fun b ob q _ _ _=>⟨ob.slots,k b ob q⟩,fun _ _ _ n _=>n,fun b ob q _=>⟨ob,k b ob q⟩,fun _ _ q=>q,fun _ _ _ q=>q,fun _ ps q=>⟨#[],by rw [q];simp⟩⟩
theorem Un.refl:Un fs ex H H h h:=Un.kept fun _ _ q=>q
theorem Un.laid (k:∀ b u,h.get? b=some u->h'.get? b=some u) (hp:h.objs.size<=a) (hn:H a=none):Un fs ex H (upd H a o) h h' where
 keep:=fun b u q _ _ _=>k b u q
 slot:=fun b u q _ _ _=>⟨u.slots,k b u q⟩
 free:=fun b u q n _=>by rw [ybb (Nat.ne_of_lt (Nat.lt_of_lt_of_le (Heap.lt_size q) hp))];exact n
 there:=fun b u q _=>⟨u,k b u q⟩
 tups:=fun b xs q=>by rw [ybb (yco q hn)];exact q
 frzs:=fun b u xs q=>by rw [ybb (yco q hn)];exact q
 tbls:=fun b ps q=>⟨#[],by rw [ybb (yco q hn),q];simp⟩
theorem Un.write (mu:Mut (H x)) (he:e=x\/H e=some (.own x)) (k:∀ b u,b≠e->h.get? b=some u->h'.get? b=some u) (heo:∃ u,h'.get? e=some u):Un fs ex H (upd H x o) h h':=by
 have hx:∀ b,H b=none->b≠x:=fun b n z=>by subst z;rw [n] at mu;exact mu
 have hb:∀ b,H b=none->b≠e:=fun b n z=>by
  subst z
  rcases he with r|r
  .exact hx b n r
  .rw [n] at r;cases r
 have hm:∀ b u,H b=some u->¬ Mut (some u)->b≠x:=fun b u q nm z=>by subst z;rw [q] at mu;exact nm mu
 refine ⟨fun b u q n _ _=>k b u (hb b n) q,fun b u q n _ _=>⟨u.slots,k b u (hb b n) q⟩,fun b u q n _=>by rw [ybb (hx b n)];exact n,fun b u q _=>?_,
  fun b xs q=>by rw [ybb (hm b _ q fun z=>z)];exact q,fun b u xs q=>by rw [ybb (hm b _ q fun z=>z)];exact q,fun b ps q=>⟨#[],by rw [ybb (hm b _ q fun z=>z),q];simp⟩⟩
 by_cases hbe:b=e
 .subst hbe;exact heo
 .exact ⟨u,k b u hbe q⟩
end
noncomputable def trk (h:Heap) (H:Hp):List Addr:=(List.range h.objs.size).filter fun a=>(H a).isSome
noncomputable def yzW (h:Heap) (H:Hp):Heap:=PySem.W.hideAll h (trk h H)
theorem yxq (h:Heap) (H:Hp):(yzW h H).objs.size=h.objs.size:=PySem.W.hideAll_size _ _
theorem yzX {h:Heap}{H:Hp}{b:Addr}{o:Obj}(e:h.get? b=some o) (n:H b=none):(yzW h H).get? b=some o :=
 PySem.W.hideAll_get _ e fun hm=>by
  have q:(H b).isSome=true:=(List.mem_filter.mp hm).2
  rw [n] at q;simp at q
theorem yDb {h:Heap}{H:Hp}{b:Addr}{o:Obj}(e:(yzW h H).get? b=some o):h.get? b=some o/\H b=none:=by
 have e':h.get? b=some o:=PySem.W.of_hideAll (trk h H) e
 refine ⟨e',?_⟩
 cases q:H b with
 | none=>rfl
 | some x =>
  have hm:b∈trk h H:=List.mem_filter.mpr ⟨List.mem_range.mpr (Heap.lt_size e'),by simp [q]⟩
  have z:(yzW h H).get? b=none:=PySem.W.hideAll_none (trk h H) hm
  rw [z] at e;cases e
noncomputable def yDc (g h:Heap) (L:Addr):List (Addr×Obj):=(List.range h.objs.size).filterMap fun a=>if a=L\/(g.get? a).isSome=true then none else (h.get? a).map fun o=>(a,o)
noncomputable def rest (g h:Heap) (L d:Addr):List (Addr×Obj):=(yDc g h L).filter fun p=>decide (p.1≠d)
end L2
namespace L2
open PySem PySem.Spec PyProof.Rows
structure Mod (K:PySem.W.Frag) (mg:Str->Option Value) (base:Heap):Prop where
 kin:K.In base
 glob:base.Ns mainGlobals mg
 blt:∃ mb,base.Ns builtinsNs mb/\∀ x:Str,x≠"__name__"->mb x=bootBuiltins x
 nolimit:base.NoLimit
structure Cx where
 prog:Program
 w:World
 K:PySem.W.Frag
 mg:Str->Option Value
 base:Heap
 A:Around
 N:List Str
 s₀:Shared
 H₀:Hp
 env:Env
 outer:List Env
 stack:List Env
 ex:List Addr
 fn:Str->Bool
 calm:Bool
 pn:List (Addr×Obj)
 xe:Value->Shared->Prop
noncomputable def frs (l:List Env):List Addr:=l.filterMap (·.frame)
noncomputable abbrev Cx.fs (X:Cx):List Addr:=frs X.outer
noncomputable def Vis (sc:Scope) (x:Str):Prop:=sc.names.lookup x=some .local \/ sc.names.lookup x=some .cell\/sc.names.lookup x=some .free
noncomputable def Loc (sc:Scope) (x:Str):Prop:=sc.names.lookup x=some .local \/ sc.names.lookup x=some .cell
noncomputable def Look (env:Env) (h:Heap) (m:Str->Option Value) (x:Str) (u:Value):Prop :=
 (env.kindOf x=some .local/\m x=some u)\/((env.kindOf x=some .cell\/env.kindOf x=some .free)/\∃ c,env.cells.lookup x=some c/\h.IsCell c (some u))
structure Cx.Ok (X:Cx):Prop where
 mod:Mod X.K X.mg X.base
 kind:X.env.scope.kind=.function
 glob:X.env.globals=mainGlobals
 blt:X.env.builtins=builtinsNs
 above:X.s₀.heap.objs.size<=X.env.locals
 inj:∀ x y c,X.env.cells.lookup x=some c->X.env.cells.lookup y=some c->x=y
 has:∀ x,(X.env.kindOf x=some .cell\/X.env.kindOf x=some .free)->∃ c,X.env.cells.lookup x=some c
 cab:∀ x c,X.fn x=true->X.env.cells.lookup x=some c->X.s₀.heap.objs.size<=c
 hd:X.calm=true->X.A.handled=none
 frames:X.A.frames=some X.stack
 stk:X.stack=X.outer\/(X.stack=X.env::X.outer/\X.env.frame=some X.env.locals)
 exf:∀ b∈X.ex,b≠X.env.locals/\∀ x c,X.env.cells.lookup x=some c->c≠b
 bs:∀ b o,X.base.get? b=some o->X.s₀.heap.get? b=some o/\X.H₀ b=none
 bsz:X.base.objs.size<=X.s₀.heap.objs.size
 noex:∀ b o,X.base.get? b=some o->b∉X.ex
 exfs:∀ b∈X.ex,b∉X.fs
 funs:X.s₀.heap.FunFrames X.base X.outer
 frf:∀ b∈X.fs,X.H₀ b=none
structure Inv (X:Cx) (pins:List (Addr×Obj)) (σ:List (Option V)) (H:Hp) (s:Shared):Prop where
 ok:X.Ok
 os:s.os=X.s₀.os
 bare:AllBare s.gens
 base:Un X.fs X.ex X.H₀ H X.s₀.heap s.heap
 loc:∃ m,s.heap.Ns X.env.locals m/\∀ (i:Nat) (x:Str) (v:V),X.N[i]?=some x->σ[i]?=some (some v)->Vis X.env.scope x->∃ u,RelV v u/\Look X.env s.heap m x u
 cell:∀ x c,X.env.cells.lookup x=some c->∃ v,s.heap.IsCell c v
 free:H X.env.locals=none
 freeC:∀ x c,X.env.cells.lookup x=some c->H c=none
 pin:∀ p∈X.pn++pins,s.heap.get? p.1=some p.2/\H p.1=none/\p.1≠X.env.locals/\p.1∉X.fs/\∀ v,p.2.data≠.cell v
 hok:HOk X.prog X.w H s.heap
 len:σ.length=X.N.length
section
variable {X:Cx}{pins:List (Addr×Obj)}{σ:List (Option V)}{H H':Hp}{s:Shared}{h':Heap}
theorem Cx.Ok.nofr (ok:X.Ok) {b:Addr}{o:Obj}(e:X.base.get? b=some o):b∉X.fs:=fun hb=>by
 have:=(ok.funs.mem hb).1
 rw [e] at this;cases this
theorem Inv.bs (I:Inv X pins σ H s):∀ b o,X.base.get? b=some o->s.heap.get? b=some o/\H b=none:=fun b o e =>
 ⟨I.base.keep b o (I.ok.bs b o e).1 (I.ok.bs b o e).2 (I.ok.nofr e) (I.ok.noex b o e),I.base.free b o (I.ok.bs b o e).1 (I.ok.bs b o e).2 (I.ok.noex b o e)⟩
theorem Inv.bk (I:Inv X pins σ H s):∀ b o,X.base.get? b=some o->s.heap.get? b=some o:=fun b o e=>(I.bs b o e).1
theorem Inv.mod (I:Inv X pins σ H s):Mod X.K X.mg X.base:=I.ok.mod
theorem Inv.kIn (I:Inv X pins σ H s):X.K.In s.heap:=I.ok.mod.kin.keeps I.bk
theorem Inv.lt (I:Inv X pins σ H s):X.env.locals<s.heap.objs.size:=let ⟨_,hn,_⟩:=I.loc;hn.lt
theorem Inv.sz (I:Inv X pins σ H s):X.s₀.heap.objs.size<=s.heap.objs.size:=Nat.le_trans I.ok.above (Nat.le_of_lt I.lt)
theorem Inv.nofs (I:Inv X pins σ H s) {a:Addr}(h:s.heap.objs.size<=a):a∉X.fs:=fun hb=>by
 obtain ⟨_,o,ho,_⟩:=I.ok.funs.mem hb
 exact absurd (Nat.lt_of_lt_of_le (Heap.lt_size ho) (Nat.le_trans I.sz h)) (Nat.lt_irrefl _)
theorem Inv.cne (I:Inv X pins σ H s):∀ x c,X.env.cells.lookup x=some c->c≠X.env.locals:=fun x c e z=>by
 obtain ⟨v,o,ho,hd⟩:=I.cell x c e
 obtain ⟨m,⟨o',es,ep,ho',hd',_⟩,_⟩:=I.loc
 rw [z,ho'] at ho;cases ho;rw [hd'] at hd;cases hd
theorem Inv.funs (I:Inv X pins σ H s):s.heap.FunFrames X.base X.outer:=by
 have all:∀ (l:List Env),(∀ b∈frs l,b∈X.fs)->X.s₀.heap.FunFrames X.base l->s.heap.FunFrames X.base l:=by
  intro l
  induction l with
  | nil=>intro _ _;trivial
  | cons env r ih =>
   intro hs hl
   obtain ⟨hk,⟨L,o,hf,hn,ho,hd⟩,hr⟩:=hl
   have hL:L∈X.fs:=hs L (by unfold frs;rw [List.filterMap_cons,hf];exact List.mem_cons_self)
   obtain ⟨sl,e⟩:=I.base.slot L o ho (I.ok.frf L hL) hL fun z=>I.ok.exfs L z hL
   exact ⟨hk,⟨L,_,hf,hn,e,hd⟩,ih (fun b hb=>hs b (by unfold frs;rw [List.filterMap_cons,hf];exact List.mem_cons_of_mem _ hb)) hr⟩
 exact all X.outer (fun _ hb=>hb) I.ok.funs
theorem Inv.stack (I:Inv X pins σ H s):s.heap.FunFrames X.base X.stack:=by
 rcases I.ok.stk with e|⟨e,hf⟩
 .rw [e];exact I.funs
 .rw [e]
  obtain ⟨m,hn,_⟩:=I.loc
  refine .cons (by rw [I.ok.kind];decide) hf hn ?_ I.funs
  exact Heap.get?_none_of_le (Nat.le_trans I.ok.bsz I.ok.above)
theorem Inv.stkSub (I:Inv X pins σ H s):∀ b∈frs X.stack,b∈X.env.locals::X.fs:=fun b hb=>by
 rcases I.ok.stk with e|⟨e,hf⟩
 .rw [e] at hb;exact List.mem_cons_of_mem _ hb
 .rw [e] at hb
  unfold frs at hb
  rw [List.filterMap_cons,hf] at hb
  exact hb
theorem Inv.stkFree (I:Inv X pins σ H s):∀ b∈frs X.stack,H b=none:=fun b hb=>by
 rcases List.mem_cons.mp (I.stkSub b hb) with e|hb
 .rw [e];exact I.free
 .obtain ⟨_,o,ho,_⟩:=I.ok.funs.mem hb
  exact I.base.free b o ho (I.ok.frf b hb) fun z=>I.ok.exfs b z hb
theorem Inv.step {g':Array GenState}{t':Nat}{d':Drawn}{ch:List Addr}(I:Inv X pins σ H s)
  (hch:∀ b∈ch,(b∈X.ex\/X.s₀.heap.objs.size<=b)/\b≠X.env.locals/\(∀ x c,X.env.cells.lookup x=some c->c≠b)/\∀ p∈X.pn++pins,p.1≠b)
  (keep:∀ b o,b≠X.env.locals->b∉X.fs->b∉ch->s.heap.get? b=some o->H b=none->h'.get? b=some o)
  (slot:∀ b o,b≠X.env.locals->b∈X.fs->b∉ch->s.heap.get? b=some o->H b=none->∃ sl,h'.get? b=some { o with slots:=sl }) (free:∀ b o,b∉ch->s.heap.get? b=some o->H b=none->H' b=none)
  (there:∀ b o,b∉ch->s.heap.get? b=some o->∃ o',h'.get? b=some o')
  (tups:∀ b xs,H b=some (.tup xs)->H' b=some (.tup xs)) (frzs:∀ b o u,H b=some (.frz o u)->H' b=some (.frz o u)) (tbls:∀ b ps,H b=some (.tbl ps)->∃ more,H' b=some (.tbl (ps++more)))
  (ns:∀ m,s.heap.Ns X.env.locals m->h'.Ns X.env.locals m) (hok:HOk X.prog X.w H' h') (hg:AllBare g') :
  Inv X pins σ H' { s with heap:=h',gens:=g',drawn:=d',toks:=t' }:=by
 have neL:∀ b o,X.s₀.heap.get? b=some o->b≠X.env.locals:=fun b o e=>Nat.ne_of_lt (Nat.lt_of_lt_of_le (Heap.lt_size e) I.ok.above)
 have neC:∀ b o,X.s₀.heap.get? b=some o->b∉X.ex->b∉ch:=fun b o e hx hb=>by
  rcases (hch b hb).1 with z|z
  .exact hx z
  .exact absurd (Nat.lt_of_lt_of_le (Heap.lt_size e) z) (Nat.lt_irrefl _)
 have cellK:∀ x c,X.env.cells.lookup x=some c->∀ v,s.heap.IsCell c v->h'.IsCell c v:=fun x c e v ⟨o,ho,hd⟩=>by
  have nch:c∉ch:=fun z=>(hch c z).2.2.1 x c e rfl
  by_cases hc:c∈X.fs
  .obtain ⟨sl,q⟩:=slot c o (I.cne x c e) hc nch ho (I.freeC x c e)
   exact ⟨_,q,hd⟩
  .exact ⟨o,keep c o (I.cne x c e) hc nch ho (I.freeC x c e),hd⟩
 refine ⟨I.ok,I.os,hg,⟨fun b o e n hb hx=>?_,fun b o e n hb hx=>?_,fun b o e n hx=>?_,fun b o e hx=>?_,fun b xs e=>tups b xs (I.base.tups b xs e),fun b o xs e=>frzs b o xs (I.base.frzs b o xs e),fun b ps e=>?_⟩,?_,fun x c e=>?_,?_,fun x c e=>?_,fun p hp=>?_,hok,I.len⟩
 .exact keep b o (neL b o e) hb (neC b o e hx) (I.base.keep b o e n hb hx) (I.base.free b o e n hx)
 .obtain ⟨sl,e1⟩:=I.base.slot b o e n hb hx
  obtain ⟨sl',e2⟩:=slot b _ (neL b o e) hb (neC b o e hx) e1 (I.base.free b o e n hx)
  exact ⟨sl',e2⟩
 .obtain ⟨o',e1⟩:=I.base.there b o e hx
  exact free b o' (neC b o e hx) e1 (I.base.free b o e n hx)
 .obtain ⟨o',e1⟩:=I.base.there b o e hx
  exact there b o' (neC b o e hx) e1
 .obtain ⟨m1,e1⟩:=I.base.tbls b ps e
  obtain ⟨m2,e2⟩:=tbls b _ e1
  exact ⟨m1++m2,by rw [e2,Array.append_assoc]⟩
 .obtain ⟨m,hn,hl⟩:=I.loc
  refine ⟨m,ns m hn,fun i x v e1 e2 e3=>?_⟩
  obtain ⟨u,r,l⟩:=hl i x v e1 e2 e3
  refine ⟨u,r,?_⟩
  rcases l with l|⟨k,c,e,z⟩
  .exact .inl l
  .exact .inr ⟨k,c,e,cellK x c e _ z⟩
 .obtain ⟨v,z⟩:=I.cell x c e
  exact ⟨v,cellK x c e v z⟩
 .obtain ⟨m,⟨o,_,_,ho,_⟩,_⟩:=I.loc
  exact free _ o (fun z=>(hch _ z).2.1 rfl) ho I.free
 .obtain ⟨v,o,ho,hd⟩:=I.cell x c e
  exact free c o (fun z=>(hch c z).2.2.1 x c e rfl) ho (I.freeC x c e)
 .obtain ⟨e,n,ne,nf,d⟩:=I.pin p hp
  have nch:p.1∉ch:=fun z=>(hch p.1 z).2.2.2 p hp rfl
  exact ⟨keep p.1 p.2 ne nf nch e n,free p.1 p.2 nch e n,ne,nf,d⟩
theorem Inv.un {t':Nat}(I:Inv X pins σ H s) (u:Un X.fs [] H H' s.heap h') (hok:HOk X.prog X.w H' h'):Inv X pins σ H' { s with heap:=h',toks:=t' }:=by
 obtain ⟨m,⟨o,es,ep,ho,r⟩,_⟩:=id I.loc
 obtain ⟨sl,hL⟩:=u.any ho I.free (by simp)
 exact I.step (g':=s.gens) (d':=s.drawn) (ch:=[]) (fun _ z=>nomatch z) (fun b o _ hb _ e n=>u.keep b o e n hb (by simp)) (fun b o _ hb _ e n=>u.slot b o e n hb (by simp)) (fun b o _ e n=>u.free b o e n (by simp)) (fun b o _ e=>u.there b o e (by simp)) u.tups u.frzs u.tbls (fun m' hm=>by
  obtain ⟨o',es',ep',ho',r'⟩:=hm
  rw [ho] at ho';cases ho'
  exact ⟨_,es',ep',hL,r'⟩) hok I.bare
theorem Inv.call {g':Array GenState}{t':Nat}{d':Drawn}{ch:List Addr}(I:Inv X pins σ H s) (u:Un (frs X.stack) ch H H' s.heap h') (hok:HOk X.prog X.w H' h') (hg:AllBare g')
  (hch:∀ b∈ch,(b∈X.ex\/X.s₀.heap.objs.size<=b)/\b≠X.env.locals/\(∀ x c,X.env.cells.lookup x=some c->c≠b)/\∀ p∈X.pn++pins,p.1≠b) :
  Inv X pins σ H' { s with heap:=h',gens:=g',drawn:=d',toks:=t' }:=by
 obtain ⟨m,⟨o,es,ep,ho,r⟩,_⟩:=id I.loc
 obtain ⟨sl,hL⟩:=u.any ho I.free fun z=>(hch _ z).2.1 rfl
 exact I.step (ch:=ch) hch (fun b o hL hb hc e n=>u.keep b o e n (fun z=>(List.mem_cons.mp (I.stkSub b z)).elim hL hb) hc) (fun b o _ _ hc e n=>u.any e n hc) (fun b o hc e n=>u.free b o e n hc) (fun b o hc e=>u.there b o e hc) u.tups u.frzs u.tbls (fun m' hm=>by
  obtain ⟨o',es',ep',ho',r'⟩:=hm
  rw [ho] at ho';cases ho'
  exact ⟨_,es',ep',hL,r'⟩) hok hg
theorem Inv.turned {t':Nat}{it:Addr}(I:Inv X pins σ H s) (k:∀ b o,b≠it->s.heap.get? b=some o->h'.get? b=some o) (hn:H it=none) (hL:it≠X.env.locals)
  (h1:it∈X.ex\/X.s₀.heap.objs.size<=it) (h2:∀ x c,X.env.cells.lookup x=some c->c≠it) (h3:∀ p∈X.pn++pins,p.1≠it):Inv X pins σ H { s with heap:=h',toks:=t' }:=by
 have nit:∀ b u,H b=some u->b≠it:=fun b u e z=>by rw [z,hn] at e;cases e
 refine I.step (g':=s.gens) (d':=s.drawn) (ch:=[it]) (fun b hb=>?_) (fun b o _ _ hc e _=>k b o (fun z=>hc (by simp [z])) e) (fun b o _ _ hc e _=>⟨o.slots,k b o (fun z=>hc (by simp [z])) e⟩) (fun _ _ _ _ n=>n)
  (fun b o hc e=>⟨o,k b o (fun z=>hc (by simp [z])) e⟩) (fun _ _ e=>e) (fun _ _ _ e=>e) (fun b ps e=>⟨#[],by rw [e];simp⟩) (fun m hm=>?_) (fun b u e=>?_) I.bare
 .have e:b=it:=by simpa using hb
  subst e
  exact ⟨h1,hL,h2,h3⟩
 .obtain ⟨o,es,ep,ho,r⟩:=hm
  exact ⟨o,es,ep,k _ o (Ne.symm hL) ho,r⟩
 .refine (I.hok b u e).stay (fun c v hc q=>k c v ?_ q) (fun _ q=>q) fun _ _ q=>q
  rcases hc with z|z
  .rw [z];exact nit b u e
  .exact nit c _ z
theorem Inv.tok (I:Inv X pins σ H s) (t:Nat):Inv X pins σ H { s with toks:=t }:=I.un (h':=s.heap) (t':=t) Un.refl I.hok
theorem Inv.kept {t':Nat}(I:Inv X pins σ H s) (k:∀ b u,s.heap.get? b=some u->h'.get? b=some u):Inv X pins σ H { s with heap:=h',toks:=t' }:=I.un (Un.kept k) (I.hok.kept k)
theorem Inv.laid {a:Addr}{o:HO}{t':Nat}(I:Inv X pins σ H s) (k:∀ b u,s.heap.get? b=some u->h'.get? b=some u) (hp:s.heap.objs.size<=a) (new:ObjOk X.prog X.w (upd H a o) h' a o) :
  Inv X pins σ (upd H a o) { s with heap:=h',toks:=t' }:=I.un (Un.laid k hp (I.hok.fresh hp)) (I.hok.laid k hp new)
theorem Inv.write {x e:Addr}{o:HO}{t':Nat}(I:Inv X pins σ H s) (mu:Mut (H x)) (he:e=x\/H e=some (.own x)) (k:∀ b u,b≠e->s.heap.get? b=some u->h'.get? b=some u) (heo:∃ u,h'.get? e=some u)
  (new:ObjOk X.prog X.w (upd H x o) h' x o):Inv X pins σ (upd H x o) { s with heap:=h',toks:=t' }:=I.un (Un.write mu he k heo) (I.hok.write mu he k heo new)
theorem Inv.pins_of {pins':List (Addr×Obj)}(I:Inv X pins σ H s) (h:∀ p∈pins',s.heap.get? p.1=some p.2/\H p.1=none/\p.1≠X.env.locals/\p.1∉X.fs/\∀ v,p.2.data≠.cell v):Inv X pins' σ H s :=
 ⟨I.ok,I.os,I.bare,I.base,I.loc,I.cell,I.free,I.freeC,fun p hp=>(List.mem_append.mp hp).elim (fun z=>I.pin p (List.mem_append_left _ z)) (h p),I.hok,I.len⟩
theorem yvp {N:List Str}(hN:N.Nodup) {i j:Nat}{x:Str}(a:N[i]?=some x) (b:N[j]?=some x):i=j:=by
 obtain ⟨h1,e1⟩:=List.getElem?_eq_some_iff.mp a
 obtain ⟨h2,e2⟩:=List.getElem?_eq_some_iff.mp b
 exact (List.getElem_inj hN).mp (e1.trans e2.symm)
theorem yxr {M:Model}{A:Around}{E:Value->Shared->Prop}{i:Nat}{x:Str}{v:V}{u:Value}{Q:Unit->Shared->Prop}(I:Inv X pins σ H s) (hN:X.N.Nodup) (hi:X.N[i]?=some x) (hx:Loc X.env.scope x) (r:RelV v u)
  (h:∀ s',Inv X pins (σ.set i (some v)) H s'->(∃ a,Heap.SameBut a s.heap s'.heap/\(a=X.env.locals\/X.env.cells.lookup x=some a))->Q () s') (hf:X.fn x=true\/X.env.scope.names.lookup x=some .local:=by first|exact .inl rfl|exact .inr rfl|assumption):wpAny M A (storeName X.env x u) Q E s:=by
 obtain ⟨m,hn,hl⟩:=id I.loc
 have hcls:(X.env.scope.kind == .class || (X.env.scope.kind == .module && X.env.locals != X.env.globals))=false:=by rw [I.ok.kind];rfl
 have hiσ:i<σ.length:=by rw [I.len];exact (List.getElem?_eq_some_iff.mp hi).1
 have cne:=I.cne
 have tracked:∀ {a:Addr}{h':Heap},(∃ o,s.heap.get? a=some o/\H a=none)->Heap.SameBut a s.heap h'->HOk X.prog X.w H h':=fun {a h'} ha hs b ob e=>by
  obtain ⟨_,_,hfree⟩:=ha
  refine (I.hok b ob e).stay (fun c w' hc q=>(hs.2 c ?_).trans q) (fun _ q=>q) fun _ _ q=>q
  rintro rfl
  rcases hc with rfl|hc
  .rw [hfree] at e;cases e
  .rw [hfree] at hc;cases hc
 rcases hx with hk|hk
 .refine wpAny_storeName_local hk hn (fun h' hn' hs=>?_) hcls
  obtain ⟨oL,_,_,hoL,_⟩:=id hn
  refine h _ ⟨I.ok,I.os,I.bare,⟨fun b o e n hb hx=>?_,fun b o e n hb hx=>?_,I.base.free,fun b o e hx=>?_,I.base.tups,I.base.frzs,I.base.tbls⟩,⟨_,hn',fun j y v' e1 e2 e3=>?_⟩,fun y c e=>?_,I.free,I.freeC,fun p hp=>?_,tracked ⟨oL,hoL,I.free⟩ hs,by simpa using I.len⟩ ⟨_,hs,.inl rfl⟩
  .exact (hs.2 b (Nat.ne_of_lt (Nat.lt_of_lt_of_le (Heap.lt_size e) I.ok.above))).trans (I.base.keep b o e n hb hx)
  .obtain ⟨sl,e1⟩:=I.base.slot b o e n hb hx
   exact ⟨sl,(hs.2 b (Nat.ne_of_lt (Nat.lt_of_lt_of_le (Heap.lt_size e) I.ok.above))).trans e1⟩
  .obtain ⟨o',e1⟩:=I.base.there b o e hx
   exact ⟨o',(hs.2 b (Nat.ne_of_lt (Nat.lt_of_lt_of_le (Heap.lt_size e) I.ok.above))).trans e1⟩
  .by_cases hj:j=i
   .subst hj
    rw [hi] at e1;cases e1
    rw [List.getElem?_set_self hiσ] at e2
    cases e2
    exact ⟨u,r,.inl ⟨hk,by simp⟩⟩
   .rw [List.getElem?_set_ne (Ne.symm hj)] at e2
    obtain ⟨u',r',q⟩:=hl j y v' e1 e2 e3
    refine ⟨u',r',?_⟩
    rcases q with ⟨k,e⟩|⟨k,c,e,z⟩
    .refine .inl ⟨k,?_⟩
     have:y≠x:=fun e=>hj (yvp hN e1 (e ▸ hi))
     simp [this,e]
    .exact .inr ⟨k,c,e,z.sameBut hs (cne y c e)⟩
  .obtain ⟨w',z⟩:=I.cell y c e
   exact ⟨w',z.sameBut hs (cne y c e)⟩
  .obtain ⟨e,n,ne,nf,d⟩:=I.pin p hp
   exact ⟨(hs.2 p.1 ne).trans e,n,ne,nf,d⟩
 .have hfn:X.fn x=true:=by
   rcases hf with z|z
   .exact z
   .rw [z] at hk;cases hk
  obtain ⟨c,hc⟩:=I.ok.has x (.inl hk)
  obtain ⟨w',z⟩:=I.cell x c hc
  refine wpAny_storeName_cell I.ok.kind hk hc z (fun h' hc' hs=>?_)
  obtain ⟨oc,hoc,hocd⟩:=id z
  refine h { s with heap:=h' } ⟨I.ok,I.os,I.bare,⟨fun b o e n hb hx=>?_,fun b o e n hb hx=>?_,I.base.free,fun b o e hx=>?_,I.base.tups,I.base.frzs,I.base.tbls⟩,⟨m,hn.sameBut hs (Ne.symm (cne x c hc)),fun j y v' e1 e2 e3=>?_⟩,fun y c' e=>?_,I.free,I.freeC,fun p hp=>?_,tracked ⟨oc,hoc,I.freeC x c hc⟩ hs,by simpa using I.len⟩ ⟨c,hs,.inr hc⟩
  .exact (hs.2 b (Nat.ne_of_lt (Nat.lt_of_lt_of_le (Heap.lt_size e) (I.ok.cab x c hfn hc)))).trans (I.base.keep b o e n hb hx)
  .obtain ⟨sl,e1⟩:=I.base.slot b o e n hb hx
   exact ⟨sl,(hs.2 b (Nat.ne_of_lt (Nat.lt_of_lt_of_le (Heap.lt_size e) (I.ok.cab x c hfn hc)))).trans e1⟩
  .obtain ⟨o',e1⟩:=I.base.there b o e hx
   exact ⟨o',(hs.2 b (Nat.ne_of_lt (Nat.lt_of_lt_of_le (Heap.lt_size e) (I.ok.cab x c hfn hc)))).trans e1⟩
  .by_cases hj:j=i
   .subst hj
    rw [hi] at e1;cases e1
    rw [List.getElem?_set_self hiσ] at e2
    cases e2
    exact ⟨u,r,.inr ⟨.inl hk,c,hc,hc'⟩⟩
   .rw [List.getElem?_set_ne (Ne.symm hj)] at e2
    obtain ⟨u',r',q⟩:=hl j y v' e1 e2 e3
    refine ⟨u',r',?_⟩
    rcases q with q|⟨k,c',e,z'⟩
    .exact .inl q
    .refine .inr ⟨k,c',e,z'.sameBut hs ?_⟩
     rintro rfl
     exact hj (yvp hN e1 (I.ok.inj _ _ _ e hc ▸ hi))
  .by_cases hcc:c'=c
   .subst hcc;exact ⟨_,hc'⟩
   .obtain ⟨w2,z2⟩:=I.cell y c' e
    exact ⟨w2,z2.sameBut hs hcc⟩
  .obtain ⟨e,n,ne,nf,d⟩:=I.pin p hp
   refine ⟨(hs.2 p.1 ?_).trans e,n,ne,nf,d⟩
   intro q
   rw [q,hoc] at e
   have q':oc=p.2:=Option.some.inj e
   exact d w' (by rw [<- q'];exact hocd)
theorem yvq {M:Model}{A:Around}{E:Value->Shared->Prop}{i:Nat}{x:Str}{v:V}{u:Value}{Q:Unit->Shared->Prop}(I:Inv X pins σ H s) (hN:X.N.Nodup) (hi:X.N[i]?=some x) (hx:Loc X.env.scope x) (r:RelV v u)
  (h:∀ s',Inv X pins (σ.set i (some v)) H s'->Q () s') (hf:X.fn x=true\/X.env.scope.names.lookup x=some .local:=by first|exact .inl rfl|exact .inr rfl|assumption):wpAny M A (storeName X.env x u) Q E s :=
 yxr I hN hi hx r (fun s' I' _=>h s' I') hf
theorem Inv.call' {s':Shared}{ch:List Addr}(I:Inv X pins σ H s) (ho:s'.os=s.os) (u:Un (frs X.stack) ch H H' s.heap s'.heap) (hok:HOk X.prog X.w H' s'.heap) (hg:AllBare s'.gens)
  (hch:∀ b∈ch,(b∈X.ex\/X.s₀.heap.objs.size<=b)/\b≠X.env.locals/\(∀ x c,X.env.cells.lookup x=some c->c≠b)/\∀ p∈X.pn++pins,p.1≠b):Inv X pins σ H' s':=by
 obtain ⟨h',g',d',t',o'⟩:=s'
 have e:o'=s.os:=ho
 subst e
 exact I.call (g':=g') (t':=t') (d':=d') u hok hg hch
end
noncomputable abbrev XK:=Value->Option Addr->Hp->Prop
noncomputable abbrev St:=List (Option V)
noncomputable abbrev VK:=V->Hp->Prop
noncomputable abbrev TE:=St->Hp->VK->Prop
noncomputable abbrev TT:=St->Hp->(Bool->Hp->Prop)->Prop
noncomputable abbrev TA:=St->Hp->(List V->Hp->Prop)->Prop
structure Ends where
 nx:St->Hp->Prop
 rt:VK
 bk:St->Hp->Prop:=fun _ _=>False
 ct:St->Hp->Prop:=fun _ _=>False
noncomputable abbrev TS:=Ends->St->Hp->Prop
noncomputable def EP (X:Cx) (pins:List (Addr×Obj)) (σ:St) (Q:VK) (u:Value) (s':Shared):Prop:=∃ v H',Inv X pins σ H' s'/\RelV v u/\Q v H'
noncomputable def TP (X:Cx) (pins:List (Addr×Obj)) (σ:St) (Q:Bool->Hp->Prop) (b:Bool) (s':Shared):Prop:=∃ H',Inv X pins σ H' s'/\Q b H'
noncomputable def AP (X:Cx) (pins:List (Addr×Obj)) (σ:St) (Q:List V->Hp->Prop) (us:List Value) (s':Shared):Prop:=∃ vs H',Inv X pins σ H' s'/\Vals vs us/\Q vs H'
noncomputable def SP (X:Cx) (pins:List (Addr×Obj)) (D:Ends) (f:Flow) (s':Shared):Prop :=
 match f with
 | .next=>∃ σ' H',Inv X pins σ' H' s'/\D.nx σ' H'
 | .brk=>∃ σ' H',Inv X pins σ' H' s'/\D.bk σ' H'
 | .cont=>∃ σ' H',Inv X pins σ' H' s'/\D.ct σ' H'
 | .ret u=>∃ v σ' H',Inv X pins σ' H' s'/\RelV v u/\D.rt v H'
noncomputable def PE (X:Cx) (e:Expr) (t:TE):Prop :=
 ∀ (pins:List (Addr×Obj)) (s:Shared) (σ:St) (H:Hp) (Q:VK),Inv X pins σ H s->t σ H Q->wpAny (model X.prog X.w) X.A (eval e X.env) (EP X pins σ Q) X.xe s
noncomputable def PT (X:Cx) (e:Expr) (t:TT):Prop :=
 ∀ (pins:List (Addr×Obj)) (s:Shared) (σ:St) (H:Hp) (Q:Bool->Hp->Prop),Inv X pins σ H s->t σ H Q->wpAny (model X.prog X.w) X.A (isTrue e X.env (eval e X.env)) (TP X pins σ Q) X.xe s
noncomputable def PW (X:Cx) (e:Expr) (t:TT):Prop :=
 ∀ (whole:Sem Value) (pins:List (Addr×Obj)) (s:Shared) (σ:St) (H:Hp) (Q:Bool->Hp->Prop),Inv X pins σ H s->t σ H Q->wpAny (model X.prog X.w) X.A (isTrue e X.env whole) (TP X pins σ Q) X.xe s
theorem PW.pt {X:Cx}{e:Expr}{t:TT}(h:PW X e t):PT X e t:=h _
noncomputable def PA (X:Cx) (es:List Expr) (t:TA):Prop :=
 ∀ (pos:Pos) (pins:List (Addr×Obj)) (s:Shared) (σ:St) (H:Hp) (Q:List V->Hp->Prop),Inv X pins σ H s->t σ H Q->wpAny (model X.prog X.w) X.A (spliced (backTo pos (starEach es X.env))) (AP X pins σ Q) X.xe s
noncomputable def PS (X:Cx) (st:Stmt) (t:TS):Prop :=
 ∀ (pins:List (Addr×Obj)) (s:Shared) (σ:St) (H:Hp) (D:Ends),Inv X pins σ H s->t D σ H->wpAny (model X.prog X.w) X.A (exec st X.env) (SP X pins D) X.xe s
noncomputable def PSs (X:Cx) (st:List Stmt) (t:TS):Prop :=
 ∀ (pins:List (Addr×Obj)) (s:Shared) (σ:St) (H:Hp) (D:Ends),Inv X pins σ H s->t D σ H->wpAny (model X.prog X.w) X.A (execs st X.env) (SP X pins D) X.xe s
theorem thn {α:Type}{t:Sem α}{Q Q':α->Shared->Prop}{M:Model}{A:Around}{E:Value->Shared->Prop}{s:Shared}(h:wpAny M A t Q E s) (hQ:∀ a s,Q a s->Q' a s):wpAny M A t Q' E s:=wpAny_mono h hQ fun _ _ x=>x
end L2
namespace L2
open PySem PySem.Spec PyProof.Rows
section
variable {X:Cx}
noncomputable def yBV (i:Nat):TE:=fun σ H Q=>∃ v,σ[i]?=some (some v)/\Q v H
noncomputable def tC (v:V):TE:=fun _ H Q=>Q v H
theorem ybT {i:Nat}{x:Str}{pos:Pos}(hN:X.N[i]?=some x) (hv:Vis X.env.scope x) (hd:(x == ("__debug__":Str))=false:=by decide) (hcd:(x == ("__classdict__":Str))=false:=by decide):PE X (.Name x pos) (yBV i):=by
 intro pins s σ H Q I h
 obtain ⟨v,e,h⟩:=h
 obtain ⟨m,hn,hl⟩:=I.loc
 obtain ⟨u,r,l⟩:=hl i x v hN e hv
 have fin:EP X pins σ Q u s:=⟨v,H,I,r,h⟩
 rcases l with ⟨hk,hm⟩|⟨hk,c,hc,hcell⟩
 .exact wpAny_Name (wpAny_loadName_local I.ok.kind hk hn hm fin) hd
 .rcases hk with hk|hk
  .exact wpAny_Name (wpAny_loadName_cell I.ok.kind hk hc hcell fin) hd
  .exact wpAny_Name (wpAny_loadName_free I.ok.kind hk hc hcell fin hcd) hd
theorem yFD {i j pos}:PE X (.Constant (.int i) j pos) (tC (.int i)):=fun _ _ _ H _ I h=>wpAny_Constant_int ⟨.int i,H,I.tok _,⟨_,rfl⟩,h⟩
theorem yIl {b j pos}:PE X (.Constant (.bool b) j pos) (tC (.bl b)):=fun _ _ _ H _ I h=>Constant_bool ⟨.bl b,H,I,rfl,h⟩
theorem yFE {j pos}:PE X (.Constant .none j pos) (tC .non):=fun _ _ _ H _ I h=>Constant_none ⟨.non,H,I,rfl,h⟩
theorem yFF {x j pos}:PE X (.Constant (.str x) j pos) (tC (.str x)):=fun _ _ _ H _ I h=>Calls.Constant_str ⟨.str x,H,I.tok _,⟨_,rfl⟩,h⟩
noncomputable def Gl (X:Cx) (x:Str):Prop:=X.env.kindOf x=some .globalImplicit
theorem ynL {E:Value->Shared->Prop}{pins:List (Addr×Obj)}{s:Shared}{σ:St}{H:Hp}{x:Str}{u:Value}{pos:Pos}{Q:Value->Shared->Prop}(I:Inv X pins σ H s) (hg:Gl X x) (hm:X.mg x=some u) (h:Q u s)
  (hd:(x == ("__debug__":Str))=false:=by decide):wpAny (model X.prog X.w) X.A (eval (.Name x pos) X.env) Q E s :=
 Calls.Name_function_global I.ok.kind hg (Calls.loadGlobal_global (by rw [I.ok.glob];exact I.mod.glob.keeps I.bk) hm h) hd
theorem ypH {E:Value->Shared->Prop}{pins:List (Addr×Obj)}{s:Shared}{σ:St}{H:Hp}{x:Str}{u:Value}{pos:Pos}{Q:Value->Shared->Prop}(I:Inv X pins σ H s) (hg:Gl X x) (hm:X.mg x=none) (hv:bootBuiltins x=some u) (h:Q u s)
  (hn:x≠"__name__":=by decide) (hd:(x == ("__debug__":Str))=false:=by decide):wpAny (model X.prog X.w) X.A (eval (.Name x pos) X.env) Q E s:=by
 obtain ⟨mb,h1,h2⟩:=I.mod.blt
 exact Calls.Name_function_global I.ok.kind hg (Calls.loadGlobal_builtin (by rw [I.ok.glob];exact I.mod.glob.keeps I.bk) hm (by rw [I.ok.blt];exact h1.keeps I.bk) ((h2 x hn).trans hv) h) hd
theorem yuc {x:Str}{v:V}{u:Value}{pos:Pos}(hg:Gl X x) (hm:X.mg x=some u) (r:RelV v u) (hd:(x == ("__debug__":Str))=false:=by decide):PE X (.Name x pos) (tC v) :=
 fun _ _ _ H _ I h=>ynL I hg hm ⟨v,H,I,r,h⟩ hd
theorem yDd {x:Str}{v:V}{u:Value}{pos:Pos}(hg:Gl X x) (hm:X.mg x=none) (hv:bootBuiltins x=some u) (r:RelV v u) (hn:x≠"__name__":=by decide) (hd:(x == ("__debug__":Str))=false:=by decide):PE X (.Name x pos) (tC v) :=
 fun _ _ _ H _ I h=>ypH I hg hm hv ⟨v,H,I,r,h⟩ hn hd
variable {a b:Expr}{ta tb:TE}{pos:Pos}
noncomputable def PC (X:Cx) (op:CmpOp) (a b:Expr) (t:TE):Prop :=
 ∀ (pins:List (Addr×Obj)) (s:Shared) (σ:St) (H:Hp) (Q:VK),Inv X pins σ H s->t σ H Q ->
  wpAny (model X.prog X.w) X.A (eval a X.env) (fun v s₁=>wpAny (model X.prog X.w) X.A (eval b X.env) (fun u s₂=>wpAny (model X.prog X.w) X.A (compareOp op v u) (EP X pins σ Q) X.xe s₂) X.xe s₁) X.xe s
theorem yzY (b:Expr) {op:CmpOp}(h:op≠.In) (h2:op≠.NotIn):behindInMarks op b=false:=by
 have e1:(op == CmpOp.In)=false:=by cases op<;>first|rfl|exact absurd rfl h
 have e2:(op == CmpOp.NotIn)=false:=by cases op<;>first|rfl|exact absurd rfl h2
 cases b<;>simp [behindInMarks,e1,e2]
noncomputable def tB (t:TE):TT:=fun σ H Q=>t σ H fun x H1=>∃ c,x=.bl c/\Q c H1
theorem yBW {op:CmpOp}{t:TE}(h:PC X op a b t) (h1:behindInMarks op b=false:=by first|exact yzY _ (by decide) (by decide)|rfl):PT X (.Compare a [op] [b] pos) (tB t):=by
 intro pins s σ H Q I hw
 refine wpAny_isTrue_Compare1 (thn (h pins s σ H _ I hw) fun v s1 h1=>thn h1 fun u s2 h2=>thn h2 fun c s3 ⟨x,H1,I1,r1,q1⟩=>?_) h1
 obtain ⟨d,rfl,q⟩:=q1
 cases r1
 exact wpAny_truthy_bool ⟨H1,I1,q⟩
theorem yFG {e:Expr}{t:TE}(h:PE X e t) (he:∀ whole,isTrue e X.env whole=(do let v <- whole;standAt e.pos;holding [v] (truthy v)):=by intro _;rfl):PT X e (tB t):=by
 intro pins s σ H Q I hw
 refine isTrue_plain (thn (h pins s σ H _ I hw) fun v s1 ⟨x,H1,I1,r1,q1⟩=>?_) (he _)
 obtain ⟨d,rfl,q⟩:=q1
 cases r1
 exact wpAny_truthy_bool ⟨H1,I1,q⟩
variable {tA tB':TT}{rest:List Expr}
noncomputable def yJp (t u:TT):TT:=fun σ H Q=>t σ H fun c H1=>if c=true then u σ H1 Q else Q false H1
noncomputable def tOr (t u:TT):TT:=fun σ H Q=>t σ H fun c H1=>if c=true then Q true H1 else u σ H1 Q
noncomputable def yIm (t:TT):TT:=fun σ H Q=>t σ H fun c H1=>Q (!c) H1
theorem yDe (ha:PT X a tA):PW X (.BoolOp .And [a] pos) tA:=by
 intro wh pins s σ H Q I h
 refine isTrue_and (thn (ha pins s σ H Q I h) fun c s1 e=>?_)
 cases c with
 | true=>exact isTrue_and_nil e
 | false=>exact e
theorem yFH (ha:PT X a tA):PW X (.BoolOp .Or [a] pos) tA:=by
 intro wh pins s σ H Q I h
 refine isTrue_or (thn (ha pins s σ H Q I h) fun c s1 e=>?_)
 cases c with
 | false=>exact isTrue_or_nil e
 | true=>exact e
theorem yFI (ha:PT X a tA) (hb:PW X (.BoolOp .And (b::rest) pos) tB'):PW X (.BoolOp .And (a::b::rest) pos) (yJp tA tB'):=by
 intro wh pins s σ H Q I h
 refine isTrue_and (thn (ha pins s σ H _ I h) fun c s1 ⟨H1,I1,q1⟩=>?_)
 cases c with
 | true=>exact hb wh pins s1 σ H1 Q I1 q1
 | false=>exact ⟨H1,I1,q1⟩
theorem yIn (ha:PT X a tA) (hb:PW X (.BoolOp .Or (b::rest) pos) tB'):PW X (.BoolOp .Or (a::b::rest) pos) (tOr tA tB'):=by
 intro wh pins s σ H Q I h
 refine isTrue_or (thn (ha pins s σ H _ I h) fun c s1 ⟨H1,I1,q1⟩=>?_)
 cases c with
 | true=>exact ⟨H1,I1,q1⟩
 | false=>exact hb wh pins s1 σ H1 Q I1 q1
theorem yFJ (ha:PT X a tA):PT X (.UnaryOp .Not a pos) (yIm tA):=by
 intro pins s σ H Q I h
 exact isTrue_not (ha pins s σ H (fun c H1=>Q (!c) H1) I h)
noncomputable def yFK (ta tb:TE):TE:=fun σ H Q=>ta σ H fun x H1=>∃ c,x=.bl c/\if c=true then tb σ H1 Q else Q (.bl false) H1
noncomputable def yFL (ta:TE):TE:=fun σ H Q=>ta σ H fun x H1=>∃ c,x=.bl c/\Q (.bl (!c)) H1
theorem yFM {op} {t:TE}(h:PE X a t):PE X (.BoolOp op [a] pos) t:=fun pins s σ H Q I hw=>BoolOp_one (h pins s σ H Q I hw)
theorem yFN (ha:PE X a ta) (hb:PE X (.BoolOp .And (b::rest) pos) tb):PE X (.BoolOp .And (a::b::rest) pos) (yFK ta tb):=by
 intro pins s σ H Q I h
 refine BoolOp_and (thn (ha pins s σ H _ I h) fun v s1 ⟨x,H1,I1,r1,q1⟩=>?_)
 obtain ⟨c,rfl,q1⟩:=q1
 cases r1
 refine wpAny_truthy_bool ?_
 cases c with
 | true=>exact hb pins s1 σ H1 Q I1 q1
 | false=>exact ⟨.bl false,H1,I1,rfl,q1⟩
theorem yFO (ha:PE X a ta):PE X (.UnaryOp .Not a pos) (yFL ta):=by
 intro pins s σ H Q I h
 refine UnaryOp_ (thn (ha pins s σ H _ I h) fun v s1 ⟨x,H1,I1,r1,q1⟩=>?_)
 obtain ⟨c,rfl,q1⟩:=q1
 cases r1
 exact not_of (wpAny_truthy_bool ⟨.bl (!c),H1,I1,rfl,q1⟩)
noncomputable def tIf (t:TT) (ta tb:TE):TE:=fun σ H Q=>t σ H fun c H1=>if c=true then ta σ H1 Q else tb σ H1 Q
theorem yzZ {c:Expr}(hc:PT X c tA) (ha:PE X a ta) (hb:PE X b tb):PE X (.IfExp c a b pos) (tIf tA ta tb):=by
 intro pins s σ H Q I h
 refine wpAny_IfExp (thn (hc pins s σ H _ I h) fun d s1 ⟨H1,I1,q1⟩=>?_)
 cases d with
 | true=>exact ha pins s1 σ H1 Q I1 q1
 | false=>exact hb pins s1 σ H1 Q I1 q1
end
end L2
namespace L2
open PySem PySem.Spec PyProof.Rows
noncomputable def SqL (K:PySem.W.Frag) (H:Hp) (a:Addr) (xs:List V):Prop :=
 Rd H a (.lst xs) \/
  ∃ (o:Obj) (its:Array Value) (n:Nat),K.lookup a=some o/\o.cls=.type "list"/\o.dict=none/\o.data=.seq its n/\its.size<=sizeLine/\Vals xs its.toList
noncomputable def SqT (K:PySem.W.Frag) (H:Hp) (a:Addr) (xs:List V):Prop :=
 Rd H a (.tup xs) \/
  ∃ (o:Obj) (its:Array Value) (n:Nat),K.lookup a=some o/\o.cls=.type "tuple"/\o.data=.seq its n/\its.size<=sizeLine/\Vals xs its.toList
noncomputable def yKc:Value->Option V
 | .none=>some .non
 | .bool b=>some (.bl b)
 | .int i _=>some (.int i)
 | .str x _=>some (.str x)
 | .bytes b _=>some (.byt b)
 | .float b _=>some (.flt b)
 | .ref a=>some (.ref a)
 | .type n=>some (.ty n)
 | _=>none
theorem RelV.abs {x:V}{u:Value}(r:RelV x u):yKc u=some x:=by
 cases x with
 | non=>cases r;rfl
 | bl _=>cases r;rfl
 | int _=>obtain ⟨t,rfl⟩:=r;rfl
 | str _=>obtain ⟨t,rfl⟩:=r;rfl
 | byt _=>obtain ⟨t,rfl⟩:=r;rfl
 | flt _=>obtain ⟨t,rfl⟩:=r;rfl
 | ref _=>cases r;rfl
 | ty _=>cases r;rfl
theorem RelV.inj {x y:V}{u:Value}(r:RelV x u) (q:RelV y u):x=y:=Option.some.inj (r.abs.symm.trans q.abs)
theorem Vals.inj:∀ {xs ys:List V}{us:List Value},Vals xs us->Vals ys us->xs=ys
 | _,_,_,.nil,.nil=>rfl
 | _,_,_,.cons r t,.cons r' t'=>by rw [r.inj r',Vals.inj t t']
section
variable {X:Cx}{pins:List (Addr×Obj)}{σ:St}{H:Hp}{s:Shared}{a:Addr}{xs ys:List V}
theorem SqL.of {K:PySem.W.Frag}(h:H a=some (.lst xs)):SqL K H a xs:=.inl (.inl h)
theorem SqT.of {K:PySem.W.Frag}(h:H a=some (.tup xs)):SqT K H a xs:=.inl (.inl h)
theorem Inv.list (I:Inv X pins σ H s) (h:SqL X.K H a xs):∃ its:List Value,Vals xs its/\PlainL s.heap a its.toArray/\xs.length<=sizeLine:=by
 rcases h with h|⟨o,its,n,hk,hc,hd,hs,hz,r⟩
 .obtain ⟨z,its,n,r,e⟩:=h.ok I.hok
  exact ⟨its,r,⟨_,n,e,rfl,rfl,rfl⟩,z⟩
 .refine ⟨its.toList,r,⟨o,n,I.kIn a o hk,hc,hd,by simpa using hs⟩,?_⟩
  have e:=r.length
  simp only [Array.length_toList] at e
  omega
theorem Inv.tuple (I:Inv X pins σ H s) (h:SqT X.K H a xs):∃ its:List Value,Vals xs its/\IsTup s.heap a its.toArray/\xs.length<=sizeLine:=by
 rcases h with h|⟨o,its,n,hk,hc,hs,hz,r⟩
 .obtain ⟨z,its,r,p⟩:=h.ok I.hok
  exact ⟨its,r,p,z⟩
 .refine ⟨its.toList,r,⟨o,I.kIn a o hk,hc,n,by simpa using hs⟩,?_⟩
  have e:=r.length
  simp only [Array.length_toList] at e
  omega
theorem Inv.list_inj (I:Inv X pins σ H s) (h:SqL X.K H a xs) (h':SqL X.K H a ys):xs=ys:=by
 obtain ⟨its,r,⟨o,n,e,_,_,d⟩,_⟩:=I.list h
 obtain ⟨its',r',⟨o',n',e',_,_,d'⟩,_⟩:=I.list h'
 rw [e] at e';cases e'
 rw [d] at d'
 injection d' with d1 _
 have:its=its':=by simpa using congrArg Array.toList d1
 subst this
 exact r.inj r'
end
noncomputable abbrev Cx.wish (X:Cx) (E:Value->Shared->Prop):Cx:={ X with xe:=E }
noncomputable abbrev Cx.nox (X:Cx):Cx:=X.wish fun _ _=>False
theorem Cx.Ok.wish {X:Cx}(ok:X.Ok) (E:Value->Shared->Prop):(X.wish E).Ok :=
 ⟨ok.mod,ok.kind,ok.glob,ok.blt,ok.above,ok.inj,ok.has,ok.cab,ok.hd,ok.frames,ok.stk,ok.exf,ok.bs,ok.bsz,ok.noex,ok.exfs,ok.funs,ok.frf⟩
theorem Cx.Ok.unwish {X:Cx}{E:Value->Shared->Prop}(ok:(X.wish E).Ok):X.Ok :=
 ⟨ok.mod,ok.kind,ok.glob,ok.blt,ok.above,ok.inj,ok.has,ok.cab,ok.hd,ok.frames,ok.stk,ok.exf,ok.bs,ok.bsz,ok.noex,ok.exfs,ok.funs,ok.frf⟩
section
variable {X:Cx}{pins:List (Addr×Obj)}{σ:St}{H:Hp}{s:Shared}{E:Value->Shared->Prop}
theorem Inv.wish (I:Inv X pins σ H s) (E:Value->Shared->Prop):Inv (X.wish E) pins σ H s:=⟨I.ok.wish E,I.os,I.bare,I.base,I.loc,I.cell,I.free,I.freeC,I.pin,I.hok,I.len⟩
theorem Inv.unwish (I:Inv (X.wish E) pins σ H s):Inv X pins σ H s:=⟨I.ok.unwish,I.os,I.bare,I.base,I.loc,I.cell,I.free,I.freeC,I.pin,I.hok,I.len⟩
theorem SP.unwish {D:Ends}{f:Flow}{s':Shared}(h:SP (X.wish E) pins D f s'):SP X pins D f s':=by
 cases f with
 | next=>obtain ⟨σ',H',I,q⟩:=h;exact ⟨σ',H',I.unwish,q⟩
 | brk=>obtain ⟨σ',H',I,q⟩:=h;exact ⟨σ',H',I.unwish,q⟩
 | cont=>obtain ⟨σ',H',I,q⟩:=h;exact ⟨σ',H',I.unwish,q⟩
 | ret u=>obtain ⟨v,σ',H',I,r,q⟩:=h;exact ⟨v,σ',H',I.unwish,r,q⟩
theorem PSs.nox {st:List Stmt}{t:TS}(h:PSs X.nox st t):PSs X st t:=fun pins s σ H D I hw =>
 wpAny_mono (h pins s σ H D (I.wish _) hw) (fun _ _ q=>q.unwish) fun _ _ z=>False.elim z
end
section
variable {X:Cx}{st:Stmt}{rest:List Stmt}{t u:TS}{e:Expr}{te:TE}{pos:Pos}
noncomputable def yFP:TS:=fun D σ H=>D.nx σ H
noncomputable def yIo (t u:TS):TS:=fun D σ H=>t { D with nx:=u D } σ H
theorem yDf:PSs X [] yFP:=fun _ _ σ H _ I h=>wpAny_execs_nil ⟨σ,H,I,h⟩
theorem yvr (h1:PS X st t) (h2:PSs X rest u):PSs X (st::rest) (yIo t u):=by
 intro pins s σ H D I h
 refine wpAny_execs_cons (thn (h1 pins s σ H { D with nx:=u D } I h) fun f s1 q=>?_)
 cases f with
 | next =>
  obtain ⟨σ',H',I',q⟩:=q
  exact h2 pins s1 σ' H' D I' q
 | ret v=>exact q
 | brk=>exact q
 | cont=>exact q
theorem yxs (h1:PS X st t):PSs X [st] t:=by
 intro pins s σ H D I h
 refine wpAny_execs_cons (thn (h1 pins s σ H D I h) fun f s1 q=>?_)
 cases f with
 | next=>exact wpAny_execs_nil q
 | ret v=>exact q
 | brk=>exact q
 | cont=>exact q
theorem Inv.quiet {pins:List (Addr×Obj)}{σ:St}{H:Hp}{s:Shared}(I:Inv X pins σ H s):interactive X.env=false:=by simp [interactive,I.ok.kind]
noncomputable def yAa (te:TE):TS:=fun D σ H=>te σ H fun _ H1=>D.nx σ H1
theorem yud (he:PE X e te) (hs:swapsWith e none pos.line X.env=pure false:=by rfl):PS X (.Expr e pos) (yAa te):=by
 intro pins s σ H D I h
 exact wpAny_Expr_any (thn (he pins s σ H _ I h) fun v s1 ⟨x,H1,I1,r1,q1⟩=>⟨σ,H1,I1,q1⟩) I.quiet hs
noncomputable def yJq (te:TE):TS:=fun D σ H=>te σ H D.rt
theorem yFQ (he:PE X e te):PS X (.Return (some e) pos) (yJq te):=by
 intro pins s σ H D I h
 exact wpAny_Return_some (thn (he pins s σ H _ I h) fun v s1 ⟨x,H1,I1,r1,q1⟩=>⟨x,σ,H1,I1,r1,q1⟩)
noncomputable def yJr (c:TT) (t u:TS):TS:=fun D σ H=>c σ H fun b H1=>if b=true then t D σ H1 else u D σ H1
theorem yIp {c:Expr}{a b:List Stmt}{tc:TT}(hc:PT X c tc) (ha:PSs X a t) (hb:PSs X b u):PS X (.If c a b pos) (yJr tc t u):=by
 intro pins s σ H D I h
 refine wpAny_If (thn (hc pins s σ H _ I h) fun d s1 ⟨H1,I1,q1⟩=>?_)
 cases d with
 | true=>exact ha pins s1 σ H1 D I1 q1
 | false=>exact hb pins s1 σ H1 D I1 q1
end
noncomputable abbrev TG:=V->St->Hp->(St->Hp->Prop)->Prop
noncomputable abbrev TGs:=List V->St->Hp->(St->Hp->Prop)->Prop
noncomputable def PG (X:Cx) (target:Expr) (t:TG):Prop :=
 ∀ (pins:List (Addr×Obj)) (s:Shared) (σ:St) (H:Hp) (v:V) (u:Value) (Q:St->Hp->Prop),Inv X pins σ H s->RelV v u->t v σ H Q ->
  wpAny (model X.prog X.w) X.A (assign target X.env u) (fun _ s'=>∃ σ' H',Inv X pins σ' H' s'/\Q σ' H') X.xe s
noncomputable def PGs (X:Cx) (ts:List Expr) (t:TGs):Prop :=
 ∀ (pins:List (Addr×Obj)) (s:Shared) (σ:St) (H:Hp) (vs:List V) (us:List Value) (Q:St->Hp->Prop),Inv X pins σ H s->Vals vs us->t vs σ H Q ->
  wpAny (model X.prog X.w) X.A (assignInOrder ((assignEach ts X.env).map (·.2)) us) (fun _ s'=>∃ σ' H',Inv X pins σ' H' s'/\Q σ' H') X.xe s
noncomputable abbrev yIq:=V->V->V->Hp->(Hp->Prop)->Prop
noncomputable def yJs (X:Cx) (t:yIq):Prop :=
 ∀ (pins:List (Addr×Obj)) (s:Shared) (σ:St) (H:Hp) (o i v:V) (ov iv u:Value) (Q:Hp->Prop),Inv X pins σ H s->RelV o ov->RelV i iv->RelV v u->t o i v H Q ->
  wpAny (model X.prog X.w) X.A (setItem ov iv u) (fun _ s'=>∃ H',Inv X pins σ H' s'/\Q H') X.xe s
section
variable {X:Cx}{pos:Pos}
noncomputable def ywm (i:Nat):TG:=fun v σ H Q=>Q (σ.set i (some v)) H
theorem yqm {i:Nat}{x:Str}(hN:X.N.Nodup) (hi:X.N[i]?=some x) (hx:Loc X.env.scope x) (hf:X.fn x=true\/X.env.scope.names.lookup x=some .local:=by first|exact .inl rfl|exact .inr rfl|assumption):PG X (.Name x pos) (ywm i):=by
 intro pins s σ H v u Q I r h
 exact wpAny_assign_Name (yvq I hN hi hx r (fun s' I'=>⟨_,H,I',h⟩) hf)
noncomputable def yJt:TGs:=fun vs σ H Q=>vs=[]/\Q σ H
noncomputable def yFR (t:TG) (u:TGs):TGs:=fun vs σ H Q=>∃ v r,vs=v::r/\t v σ H fun σ' H'=>u r σ' H' Q
theorem yDg:PGs X [] yJt:=by
 intro pins s σ H vs us Q I r h
 obtain ⟨e,h⟩:=h
 subst e
 cases r
 exact assignInOrder_nil ⟨σ,H,I,h⟩
theorem yAb {e:Expr}{es:List Expr}{t:TG}{u:TGs}(h1:PG X e t) (h2:PGs X es u)
  (hs:(assignEach (e::es) X.env).map (·.2)=assign e X.env::(assignEach es X.env).map (·.2):=by rfl):PGs X (e::es) (yFR t u):=by
 intro pins s σ H vs us Q I r h
 obtain ⟨v,vr,e1,h⟩:=h
 subst e1
 cases r with
 | cons r rr =>
  rw [hs]
  refine assignInOrder_cons (thn (h1 pins s σ H _ _ _ I r h) fun _ s1 ⟨σ1,H1,I1,q1⟩=>?_)
  exact h2 pins s1 σ1 H1 _ _ Q I1 rr q1
noncomputable def yJu (K:PySem.W.Frag) (n:Nat) (t:TGs):TG:=fun v σ H Q=>∃ a xs,v=.ref a/\SqT K H a xs/\xs.length=n/\t xs σ H Q
theorem yFS {es:List Expr}{k:Nat}{t:TGs}{n:Nat}(hc:X.calm=true) (h:PGs X es t)
  (hn:(assignEach es X.env).length=n:=by rfl) (hst:(assignEach es X.env).findIdx? (·.1)=none:=by rfl):PG X (.Tuple es k pos) (yJu X.K n t):=by
 intro pins s σ H v u Q I r hw
 obtain ⟨a,xs,e1,hq,hl,hw⟩:=hw
 subst e1
 cases r
 obtain ⟨its,rv,ht,hz⟩:=I.tuple hq
 refine assign_Tuple_tuple (I.ok.hd hc) ht (by simp [hn,<- hl,rv.length]) hst fun h' hx=>?_
 have I1:Inv X pins σ H { s with heap:=h' }:=I.kept (t':=s.toks) fun b o e=>hx b o (Nat.ne_of_lt (Heap.lt_size e)) e
 exact h pins _ σ H xs _ Q I1 (by simpa using rv) hw
noncomputable def yJv (to ti:TE) (t:yIq):TG:=fun v σ H Q=>to σ H fun o H1=>ti σ H1 fun i H2=>t o i v H2 fun H3=>Q σ H3
theorem yFT {o i:Expr}{to ti:TE}{t:yIq}(ho:PE X o to) (hi:PE X i ti) (hs:yJs X t)
  (ha:∀ v,assign (.Subscript o i pos) X.env v=(do
   let ov <- holding [v] (eval o X.env)
   let iv <- holding [v,ov] (eval i X.env)
   standAt pos
   holding [v,ov,iv] (setItem ov iv v)
   release [v,ov,iv] []):=by intro _;rfl):PG X (.Subscript o i pos) (yJv to ti t):=by
 intro pins s σ H v u Q I r h
 rw [ha]
 refine wpAny_bind (wpAny_holding (thn (ho pins s σ H _ I h) fun ov s1 ⟨x,H1,I1,r1,q1⟩=>?_))
 refine wpAny_bind (wpAny_holding (thn (hi pins s1 σ H1 _ I1 q1) fun iv s2 ⟨y,H2,I2,r2,q2⟩=>?_))
 refine wpAny_bind (wpAny_standAt (wpAny_bind (wpAny_holding (thn (hs pins s2 σ H2 x y v ov iv u _ I2 r1 r2 r q2) fun _ s3 ⟨H3,I3,q3⟩=>?_))))
 exact wpAny_release ⟨σ,H3,I3,q3⟩
noncomputable def yFr (te:TE) (g:TG):TS:=fun D σ H=>te σ H fun x H1=>g x σ H1 D.nx
theorem yBX {tg e:Expr}{te:TE}{g:TG}(he:PE X e te) (hg:PG X tg g) (hs:swapsWithSole [tg] e pos.line X.env=pure false:=by rfl) (hw:swappedStores [tg] e X.env=pure none:=by rfl)
  (h1:(assignEach [tg] X.env).map (·.2)=[assign tg X.env]:=by rfl):PS X (.Assign [tg] e pos) (yFr te g):=by
 intro pins s σ H D I h
 refine wpAny_Assign_stores (thn (he pins s σ H _ I h) fun v s1 ⟨x,H1,I1,r1,q1⟩=>?_) hs hw
 rw [h1]
 exact thn (hg pins s1 σ H1 x v _ I1 r1 q1) fun _ s2 q=>q
theorem yBY {i:Nat}{x:Str}{e:Expr}{te:TE}{pos':Pos}(hN:X.N.Nodup) (hi:X.N[i]?=some x) (hx:Loc X.env.scope x) (he:PE X e te) (hs:swapsWith e (some (.Name x pos')) pos.line X.env=pure false:=by rfl) (hf:X.fn x=true\/X.env.scope.names.lookup x=some .local:=by first|exact .inl rfl|exact .inr rfl|assumption) :
  PS X (.Assign [.Name x pos'] e pos) (yFr te (ywm i)):=by
 intro pins s σ H D I h
 refine wpAny_Assign_Name (thn (he pins s σ H _ I h) fun v s1 ⟨y,H1,I1,r1,q1⟩=>?_) hs
 exact yvq I1 hN hi hx r1 (fun s2 I2=>⟨_,H1,I2,q1⟩) hf
end
section
variable {X:Cx}{pos:Pos}
noncomputable def yBZ (c:TT) (tb:TS):TS:=fun D σ H=>∃ W:Nat->St->Hp->Prop,(∃ m,W m σ H)/\∀ m σ H,W m σ H ->
 c σ H fun b H1=>if b=true then ∃ N:St->Hp->Prop,(∀ σ' H',N σ' H'->∃ m',m'<m/\W m' σ' H')/\tb { D with nx:=N,ct:=N,bk:=D.nx } σ H1 else D.nx σ H1
theorem yAc {c:Expr}{body:List Stmt}{tc:TT}{tb:TS}(hp:PassesOwn (model X.prog X.w) X.A X.env X.xe) (hc:PT X c tc) (hb:PSs X body tb):PS X (.While c body [] pos) (yBZ tc tb):=by
 intro pins s σ H D I h
 obtain ⟨W,⟨m0,w0⟩,turn⟩:=h
 refine wpAny_While (codeAny_whileLoop (fun n s'=>∃ σ' H',Inv X pins σ' H' s'/\W n σ' H') ?_ m0 ⟨σ,H,I,w0⟩)
 rintro n s1 ⟨σ1,H1,I1,w1⟩
 refine wpAny_passesOwn hp (thn (hc pins s1 σ1 H1 _ I1 (turn n σ1 H1 w1)) fun b s2 ⟨H2,I2,q2⟩=>?_)
 cases b with
 | true =>
  obtain ⟨N,hN,q2⟩:=q2
  rw [if_pos rfl]
  refine wpAny_passesOwn hp (thn (hb pins s2 σ1 H2 _ I2 q2) fun f s3 q3=>?_)
  cases f with
  | next =>
   obtain ⟨σ3,H3,I3,n3⟩:=q3
   obtain ⟨m',hm,w3⟩:=hN σ3 H3 n3
   exact ⟨m',hm,σ3,H3,I3,w3⟩
  | cont =>
   obtain ⟨σ3,H3,I3,n3⟩:=q3
   obtain ⟨m',hm,w3⟩:=hN σ3 H3 n3
   exact ⟨m',hm,σ3,H3,I3,w3⟩
  | brk=>exact q3
  | ret v=>exact q3
 | false =>
  rw [if_neg Bool.false_ne_true]
  exact wpAny_execs_nil ⟨σ1,H2,I2,q2⟩
end
structure It where
 go:Nat->Hp->Prop
 yld:Nat->Hp->V->Hp->Prop
 stop:Nat->Hp->Prop
noncomputable def yxt (X:Cx) (pins:List (Addr×Obj)) (H:Hp) (b:Addr):Prop :=
 H b=none/\b≠X.env.locals/\b∉X.fs/\(b∈X.ex\/X.s₀.heap.objs.size<=b)/\(∀ x c,X.env.cells.lookup x=some c->c≠b)/\∀ p∈X.pn++pins,p.1≠b
theorem Inv.fpOk {X:Cx}{pins:List (Addr×Obj)}{σ:St}{H H':Hp}{s:Shared}{b:Addr}(I:Inv X pins σ H s) (hb:s.heap.objs.size<=b) (hn:H' b=none):yxt X pins H' b:=by
 refine ⟨hn,Nat.ne_of_gt (Nat.lt_of_lt_of_le I.lt hb),I.nofs hb,.inr (Nat.le_trans I.sz hb),fun x c e z=>?_,fun p hp z=>?_⟩
 .obtain ⟨v,q⟩:=I.cell x c e
  exact absurd (Nat.lt_of_lt_of_le q.lt (by rw [z];exact hb)) (Nat.lt_irrefl _)
 .exact absurd (Nat.lt_of_lt_of_le (Heap.lt_size (I.pin p hp).1) (by rw [z];exact hb)) (Nat.lt_irrefl _)
structure Turn (P:Program) (w:World) (K:PySem.W.Frag) (tg:Expr) (J:It) (fp:List Addr) (it:Addr) (tn:Nat->Heap->Prop):Prop where
 mem:it∈fp
 obj:∀ i h,tn i h->∀ b∈fp,∃ o,h.get? b=some o/\∀ v,o.data≠.cell v
 keep:∀ i h h',tn i h->(∀ b∈fp,∀ o,h.get? b=some o->h'.get? b=some o)->tn i h'
 item:∀ (X:Cx),X.prog=P->X.w=w->X.K=K->X.calm=true->∀ (i:Nat) (pins:List (Addr×Obj)) (s:Shared) (σ:St) (H:Hp) (E:Value->Shared->Prop),Inv X pins σ H s->(∀ b∈fp,yxt X pins H b)->tn i s.heap->J.go i H ->
  wpAny (model P w) X.A (pyNext (.ref it)) (fun r s1=>∃ u,r=some u /\
   wpAny (model P w) X.A (letOwnedTupleGo tg (.ref it) u) (fun _ s2=>∃ x H',Inv X pins σ H' s2/\RelV x u/\J.yld i H x H'/\tn (i+1) s2.heap/\∀ b∈fp,H' b=none) E s1) E s
 done:∀ (X:Cx),X.prog=P->X.w=w->X.K=K->X.calm=true->∀ (i:Nat) (pins:List (Addr×Obj)) (s:Shared) (σ:St) (H:Hp) (E:Value->Shared->Prop),Inv X pins σ H s->(∀ b∈fp,yxt X pins H b)->tn i s.heap->J.stop i H ->
  wpAny (model P w) X.A (pyNext (.ref it)) (fun r s1=>r=none/\Inv X pins σ H s1) E s
 self:∀ (A:Around) (i:Nat) (s:Shared) (Q:Value->Shared->Prop) (E:Value->Shared->Prop),tn i s.heap->Q (.ref it) s->wpAny (model P w) A (pyIter (.ref it)) Q E s
noncomputable abbrev TI:=St->Hp->(It->Hp->Prop)->Prop
noncomputable def PIE (X:Cx) (pins:List (Addr×Obj)) (σ:St) (tg:Expr) (R:It->Hp->Prop) (itv:Value) (s2:Shared):Prop :=
 ∃ (it:Addr) (fp:List Addr) (tn:Nat->Heap->Prop) (J:It) (H':Hp),itv=.ref it/\Inv X pins σ H' s2/\Turn X.prog X.w X.K tg J fp it tn/\tn 0 s2.heap/\(∀ b∈fp,yxt X pins H' b)/\R J H'
noncomputable def PI (X:Cx) (tg iter:Expr) (wi:TI):Prop :=
 ∀ (pins:List (Addr×Obj)) (s:Shared) (σ:St) (H:Hp) (R:It->Hp->Prop),Inv X pins σ H s->wi σ H R ->
  wpAny (model X.prog X.w) X.A (eval iter X.env) (fun v s1=>wpAny (model X.prog X.w) X.A (pyIter v) (PIE X pins σ tg R) X.xe s1) X.xe s
theorem yAd {M:Model}{A:Around}{E:Value->Shared->Prop}{s:Shared}{tg:Expr}{it:Addr}{u:Value}{o:Obj}{n:String}{vs:Array Value}{Q:Unit->Shared->Prop}(ho:s.heap.get? it=some o) (hc:o.cls=.type n) (hd:o.data=.fields vs)
    (hn:["enumerate","zip","dict_itemiterator","dict_reverseitemiterator","odict_iterator","itertools.zip_longest","itertools.pairwise"].contains n=false) (hQ:Q () s):wpAny M A (letOwnedTupleGo tg (.ref it) u) Q E s:=by
  unfold letOwnedTupleGo
  cases tg<;>first
    | exact wpAny_pure hQ
    | (cases u<;>first
        | exact wpAny_pure hQ
        | (refine wpAny_bind (wpAny_load ho ?_)
           rw [hc,hd]
           show wpAny M A (if (["enumerate","zip","dict_itemiterator","dict_reverseitemiterator","odict_iterator","itertools.zip_longest","itertools.pairwise"].contains n && vs[0]? == some (rawInt _))=true then _ else _) Q E s
           rw [if_neg (by intro h;rw [hn,Bool.false_and] at h;cases h)]
           exact wpAny_pure hQ))
noncomputable def Itl (K:PySem.W.Frag) (a:Addr):It :=
 ⟨fun i H=>∃ xs x,SqL K H a xs/\xs[i]?=some x,fun i H x H'=>H'=H/\∀ xs,SqL K H a xs->xs[i]?=some x,fun i H=>∃ xs,SqL K H a xs/\xs.length<=i⟩
noncomputable def Itr (lo:Int) (n:Nat):It:=⟨fun i _=>i<n,fun i H x H'=>H'=H/\x=.int (lo+i),fun i _=>n<=i⟩
theorem yxu {P:Program}{w:World}{K:PySem.W.Frag}{tg:Expr}(a it:Addr):Turn P w K tg (Itl K a) [it] it (fun i h=>h.IsListIter it a i) where
 mem:=by simp
 obj:=fun i h st b hb=>by
  have e:b=it:=by simpa using hb
  subst e
  obtain ⟨o,e,c,d⟩:=st
  exact ⟨o,e,fun v z=>by rw [d] at z;cases z⟩
 keep:=fun i h h' st k=>st.at fun o e=>k it (by simp) o e
 item:=by
  intro X hP hw hK hc i pins s σ H E I hf st hg
  subst hP hw hK
  obtain ⟨xs,x,hq,hx⟩:=hg
  obtain ⟨its,rv,p,hz⟩:=I.list hq
  obtain ⟨u,hu,ru⟩:=rv.get hx
  obtain ⟨f0,f1,f2,f3,f4,f5⟩:=hf it (by simp)
  refine wpAny_pyNext_list_item st p.isList (x:=u) (by simpa using hu) fun h' st' sb=>?_
  have I1:Inv X pins σ H { s with heap:=h' }:=I.turned (t':=s.toks) (fun b o hb e=>(sb.2 b hb).trans e) f0 f1 f3 f4 f5
  obtain ⟨o,e,c,d⟩:=id st'
  exact ⟨u,rfl,yAd (s:={ s with heap:=h' }) e c d (by decide) ⟨x,H,I1,ru,⟨rfl,fun ys hy=>by rw [I.list_inj hy hq];exact hx⟩,st',fun b hb=>(hf b hb).1⟩⟩
 done:=by
  intro X hP hw hK hc i pins s σ H E I hf st hg
  subst hP hw hK
  obtain ⟨xs,hq,hx⟩:=hg
  obtain ⟨its,rv,p,hz⟩:=I.list hq
  obtain ⟨f0,f1,f2,f3,f4,f5⟩:=hf it (by simp)
  have hl:=rv.length
  exact wpAny_pyNext_list_end (I.ok.hd hc) st p.isList (by simp;omega) fun h' eb=>⟨rfl,I.turned (t':=s.toks) (fun b o hb e=>eb b o hb e) f0 f1 f3 f4 f5⟩
 self:=fun _ _ _ _ _ st h=>wpAny_pyIter_listiter st h
theorem ywn {P:Program}{w:World}{K:PySem.W.Frag}{tg:Expr}(it:Addr) (lo:Int) (n:Nat):Turn P w K tg (Itr lo n) [it] it (fun i h=>IsRangeIter h it (lo+(i:Nat)*1) ((n:Int)-(i:Nat)) 1) where
 mem:=by simp
 obj:=fun i h st b hb=>by
  have e:b=it:=by simpa using hb
  subst e
  exact ⟨_,st,fun v z=>by
   have z':Data.fields _=Data.cell v:=z
   cases z'⟩
 keep:=fun i h h' st k=>k it (by simp) _ st
 item:=by
  intro X hP hw hK hc i pins s σ H E I hf st hg
  subst hP hw hK
  obtain ⟨f0,f1,f2,f3,f4,f5⟩:=hf it (by simp)
  have W:=Walks.range (prog:=X.prog) (w:=X.w) (I.ok.hd hc) it lo 1 n
  refine W.item i s _ _ hg st fun v h' tk hv st' kk=>?_
  obtain ⟨t,rfl⟩:=hv
  have I1:Inv X pins σ H { s with heap:=h',toks:=tk }:=I.turned (fun b o hb e=>kk b o (by simpa using hb) e) f0 f1 f3 f4 f5
  refine ⟨_,rfl,yAd (s:={ s with heap:=h',toks:=tk }) (n:="range_iterator") st' rfl rfl (by decide) ⟨.int (lo+i),H,I1,⟨t,?_⟩,⟨rfl,rfl⟩,st',fun b hb=>(hf b hb).1⟩⟩
  rw [Int.mul_one]
 done:=by
  intro X hP hw hK hc i pins s σ H E I hf st hg
  subst hP hw hK
  obtain ⟨f0,f1,f2,f3,f4,f5⟩:=hf it (by simp)
  exact wpAny_pyNext_range_end (I.ok.hd hc) st (by have:n<=i:=hg;omega) fun h' eb=>⟨rfl,I.turned (t':=s.toks) (fun b o hb e=>eb b o hb e) f0 f1 f3 f4 f5⟩
 self:=fun _ _ _ _ _ st h=>wpAny_pyIter_rangeiter st h
end L2
namespace L2
open PySem PySem.Spec PyProof.Rows
section
variable {X:Cx}{tg:Expr}
noncomputable def yFU (K:PySem.W.Frag) (tl:TE):TI:=fun σ H R=>tl σ H fun x H1=>∃ a,x=.ref a/\(∃ xs,SqL K H1 a xs)/\R (Itl K a) H1
theorem yDh {l:Expr}{tl:TE}(hl:PE X l tl):PI X tg l (yFU X.K tl):=by
 intro pins s σ H R I h
 refine thn (hl pins s σ H _ I h) fun v s1 ⟨x,H1,I1,r1,q1⟩=>?_
 obtain ⟨a,e,⟨xs,hq⟩,q⟩:=q1
 subst e
 cases r1
 obtain ⟨its,rv,p,hz⟩:=I1.list hq
 refine wpAny_pyIter_list p.isList ?_
 refine ⟨s1.heap.objs.size,[s1.heap.objs.size],_,_,H1,rfl,I1.kept (t':=s1.toks) fun b o e=>Heap.get?_push_of_some _ e,yxu a _,⟨_,Heap.get?_push_size _ rfl,rfl,rfl⟩,fun b hb=>?_,q⟩
 have e:b=s1.heap.objs.size:=by simpa using hb
 subst e
 exact I1.fpOk (Nat.le_refl _) (I1.hok.fresh (Nat.le_refl _))
theorem yAe {pins:List (Addr×Obj)}{σ:St}{H:Hp}{s:Shared}{R:It->Hp->Prop}{E:Value->Shared->Prop}{lo hi:Int}{t u v:Tok}{tk:Nat}(I:Inv X pins σ H s) (h1:-(2 ^ 62)<=lo) (h2:lo<2 ^ 62) (h3:-(2 ^ 62)<=hi) (h4:hi<2 ^ 62)
  (q:R (Itr lo (hi-lo).toNat) H):wpAny (model X.prog X.w) X.A (pyIter (.ref s.heap.objs.size)) (PIE X pins σ tg R) E { s with heap:=s.heap.push { cls:=.type "range",data:=.fields #[.int lo t,.int hi u,.int 1 v] },toks:=tk }:=by
 refine wpAny_pyIter_range (IsRange.new ..) (small_one h1 h2 h3 h4) ?_
 have I1:Inv X pins σ H { s with heap:=s.heap.push { cls:=.type "range",data:=.fields #[.int lo t,.int hi u,.int 1 v] },toks:=tk }:=I.kept fun b o e=>Heap.get?_push_of_some _ e
 refine ⟨(s.heap.push { cls:=.type "range",data:=.fields #[.int lo t,.int hi u,.int 1 v] }).objs.size,[(s.heap.push { cls:=.type "range",data:=.fields #[.int lo t,.int hi u,.int 1 v] }).objs.size],_,_,H,rfl,
  I1.kept (t':=tk) fun b o e=>Heap.get?_push_of_some _ e,ywn _ lo (hi-lo).toNat,?_,fun b hb=>?_,q⟩
 .have e1:lo+((0:Nat):Int)*1=lo:=by simp
  have e2:(((hi-lo).toNat:Nat):Int)-((0:Nat):Int)=Builtin.Range.rangeSize lo hi 1:=by rw [rangeSize_one];split<;>omega
  show IsRangeIter _ _ (lo+((0:Nat):Int)*1) ((((hi-lo).toNat:Nat):Int)-((0:Nat):Int)) 1
  rw [e1,e2]
  exact Heap.get?_push_size _ rfl
 .have e:b=(s.heap.push { cls:=.type "range",data:=.fields #[.int lo t,.int hi u,.int 1 v] }).objs.size:=by simpa using hb
  subst e
  exact I1.fpOk (Nat.le_refl _) (I1.hok.fresh (Nat.le_refl _))
noncomputable def yFV (ta:TA):TI:=fun σ H R=>ta σ H fun vs H1=>∃ j:Int,vs=[.int j]/\-(2 ^ 62)<=j/\j<2 ^ 62/\R (Itr 0 j.toNat) H1
theorem yxv {a:Expr}{ta:TA}{p pos:Pos}(hg:Gl X "range") (hm:X.mg "range" = none) (ha:PA X [a] ta) (hs:starEach [a] X.env=[(false,eval a X.env)]:=by rfl):PI X tg (.Call (.Name "range" p) [a] [] pos) (yFV ta):=by
 intro pins s σ H R I h
 refine Call_ (ypH I hg hm boot_range (PyProof.Rows.callWith_type1 (thn (ha pos pins s σ H _ I h) fun us s1 ⟨vs,H1,I1,r1,q1⟩=>?_) hs rfl))
 obtain ⟨j,e,q1,q2,q⟩:=q1
 subst e
 cases r1 with
 | cons r rr =>
  cases rr
  obtain ⟨t,rfl⟩:=r
  exact call_range_1 (yAe I1 (by omega) (by omega) q1 q2 (by simpa using q))
noncomputable def yIr (wi:TI) (g:TG) (tb:TS):TS:=fun D σ H=>wi σ H fun J H1=>∃ W:Nat->Nat->St->Hp->Prop,(∃ m,W 0 m σ H1)/\∀ i m σ H,W i m σ H ->
 (J.stop i H/\D.nx σ H)\/(J.go i H/\∃ N:St->Hp->Prop,(∀ σ' H',N σ' H'->∃ m',m'<m/\W (i+1) m' σ' H')/\∀ x H',J.yld i H x H'->g x σ H' fun σ2 H2=>tb { D with nx:=N,ct:=N,bk:=D.nx } σ2 H2)
noncomputable def yvs (fp:List Addr) (h:Heap):List (Addr×Obj):=fp.filterMap fun b=>(h.get? b).map fun o=>(b,o)
theorem yfy {fp:List Addr}{h:Heap}{b:Addr}{o:Obj}(hb:b∈fp) (e:h.get? b=some o):(b,o)∈yvs fp h:=List.mem_filterMap.mpr ⟨b,hb,by rw [e];rfl⟩
theorem yxw {fp:List Addr}{h:Heap}{p:Addr×Obj}(hp:p∈yvs fp h):p.1∈fp/\h.get? p.1=some p.2:=by
 obtain ⟨b,hb,e⟩:=List.mem_filterMap.mp hp
 cases q:h.get? b with
 | none=>rw [q] at e;cases e
 | some o =>
  rw [q] at e
  have e':(b,o)=p:=Option.some.inj e
  subst e'
  exact ⟨hb,q⟩
theorem Inv.pinned {pins:List (Addr×Obj)}{σ:St}{H:Hp}{s:Shared}{fp:List Addr}(I:Inv X pins σ H s) (hf:∀ b∈fp,yxt X pins H b) (ho:∀ b∈fp,∃ o,s.heap.get? b=some o/\∀ v,o.data≠.cell v):Inv X (pins++yvs fp s.heap) σ H s :=
 I.pins_of fun p hp=>(List.mem_append.mp hp).elim (fun z=>I.pin p (List.mem_append_right _ z)) fun z=>by
  obtain ⟨hb,e⟩:=yxw z
  obtain ⟨f0,f1,f2,_⟩:=hf p.1 hb
  obtain ⟨o,e',d⟩:=ho p.1 hb
  rw [e] at e';cases e'
  exact ⟨e,f0,f1,f2,d⟩
theorem Inv.unpinned {pins pl:List (Addr×Obj)}{σ:St}{H:Hp}{s:Shared}(I:Inv X (pins++pl) σ H s):Inv X pins σ H s:=I.pins_of fun p hp=>I.pin p (List.mem_append_right _ (List.mem_append_left _ hp))
theorem yCa {iter:Expr}{body:List Stmt}{wi:TI}{g:TG}{tb:TS}{pos:Pos}(hp:PassesOwn (model X.prog X.w) X.A X.env X.xe) (hc:X.calm=true) (hi:PI X tg iter wi) (hg:PG X tg g) (hb:PSs X body tb)
  (hs:∀ x,foldedSetIterable iter X.env x=pure x:=by intro _;rfl):PS X (.For tg iter body [] pos) (yIr wi g tb):=by
 intro pins s σ H D I h
 refine wpAny_For (thn (hi pins s σ H _ I h) fun v s1 h1=>thn h1 fun itv s2 h2=>?_) hs
 obtain ⟨it,fp,tn,J,H2,e,I2,T,st2,f2,W,⟨m0,w0⟩,turn⟩:=h2
 subst e
 have stat:∀ {H':Hp},(∀ b∈fp,H' b=none)->∀ b∈fp,yxt X pins H' b:=fun hn b hb=>⟨hn b hb,(f2 b hb).2⟩
 refine codeAny_forLoop_any (fun n s'=>∃ i σ' H',Inv X pins σ' H' s'/\tn i s'.heap/\(∀ b∈fp,H' b=none)/\W i n σ' H') ?_ m0 ⟨0,σ,H2,I2,st2,fun b hb=>(f2 b hb).1,w0⟩
 rintro n s3 ⟨i,σ3,H3,I3,st3,fr3,w3⟩
 rcases turn i n σ3 H3 w3 with ⟨stop,qn⟩|⟨go,N,hN,step⟩
 .refine wpAny_passesOwn hp (thn (T.done X rfl rfl rfl hc i pins s3 σ3 H3 X.xe I3 (stat fr3) st3 stop) fun r s4 ⟨hr,I4⟩=>?_)
  subst hr
  exact wpAny_execs_nil ⟨σ3,H3,I4,qn⟩
 .refine wpAny_passesOwn hp (thn (T.item X rfl rfl rfl hc i pins s3 σ3 H3 X.xe I3 (stat fr3) st3 go) fun r s4 ⟨u,hr,h4⟩=>?_)
  subst hr
  refine wpAny_passesOwn hp (thn h4 fun _ s5 ⟨x,H5,I5,r5,y5,st5,fr5⟩=>?_)
  have I5':=I5.pinned (stat fr5) (T.obj _ _ st5)
  refine wpAny_passesOwn hp (thn (hg _ s5 σ3 H5 x u _ I5' r5 (step x H5 y5)) fun _ s6 ⟨σ6,H6,I6,q6⟩=>?_)
  refine wpAny_passesOwn hp (thn (hb _ s6 σ6 H6 _ I6 q6) fun f s7 q7=>?_)
  have again:∀ {σ7:St}{H7:Hp},Inv X (pins++yvs fp s5.heap) σ7 H7 s7->N σ7 H7->∃ m,m<n/\∃ i σ' H',Inv X pins σ' H' s7/\tn i s7.heap/\(∀ b∈fp,H' b=none)/\W i m σ' H':=fun {σ7 H7} I7 n7=>by
   obtain ⟨m',hm,w7⟩:=hN σ7 H7 n7
   refine ⟨m',hm,i+1,σ7,H7,I7.unpinned,T.keep _ _ _ st5 fun b hb o e=>(I7.pin (b,o) (List.mem_append_right _ (List.mem_append_right _ (yfy hb e)))).1,fun b hb=>?_,w7⟩
   obtain ⟨o,e,d⟩:=T.obj _ _ st5 b hb
   exact (I7.pin (b,o) (List.mem_append_right _ (List.mem_append_right _ (yfy hb e)))).2.1
  cases f with
  | next=>obtain ⟨σ7,H7,I7,n7⟩:=q7;exact again I7 n7
  | cont=>obtain ⟨σ7,H7,I7,n7⟩:=q7;exact again I7 n7
  | brk=>obtain ⟨σ7,H7,I7,q7⟩:=q7;exact ⟨σ7,H7,I7.unpinned,q7⟩
  | ret v=>obtain ⟨x7,σ7,H7,I7,r7,q7⟩:=q7;exact ⟨x7,σ7,H7,I7.unpinned,r7,q7⟩
end
end L2
namespace L2
open PySem PySem.Spec PyProof.Rows
noncomputable abbrev R2:=V->V->Hp->VK->Prop
noncomputable def OpR (X:Cx) (f:Value->Value->Sem Value) (r:R2):Prop :=
 ∀ (pins:List (Addr×Obj)) (s:Shared) (σ:St) (H:Hp) (x y:V) (v u:Value) (Q:VK),Inv X pins σ H s->RelV x v->RelV y u->r x y H Q ->
  wpAny (model X.prog X.w) X.A (f v u) (EP X pins σ Q) X.xe s
noncomputable def UnR (X:Cx) (f:Value->Sem Value) (r:V->Hp->VK->Prop):Prop :=
 ∀ (pins:List (Addr×Obj)) (s:Shared) (σ:St) (H:Hp) (x:V) (v:Value) (Q:VK),Inv X pins σ H s->RelV x v->r x H Q ->
  wpAny (model X.prog X.w) X.A (f v) (EP X pins σ Q) X.xe s
noncomputable def ykf (X:Cx) (f:Value) (r:List V->Hp->VK->Prop):Prop :=
 ∀ (pins:List (Addr×Obj)) (s:Shared) (σ:St) (H:Hp) (xs:List V) (us:List Value) (Q:VK),Inv X pins σ H s->Vals xs us->r xs H Q ->
  wpAny (model X.prog X.w) X.A (call f us) (EP X pins σ Q) X.xe s
noncomputable def tOp (r:R2) (ta tb:TE):TE:=fun σ H Q=>ta σ H fun x H1=>tb σ H1 fun y H2=>r x y H2 Q
noncomputable def tUn (r:V->Hp->VK->Prop) (ta:TE):TE:=fun σ H Q=>ta σ H fun x H1=>r x H1 Q
noncomputable def rI (C:Int->Int->Prop) (g:Int->Int->V):R2:=fun x y H Q=>∃ i j,x=.int i/\y=.int j/\C i j/\Q (g i j) H
noncomputable def rI0 (g:Int->Int->V):R2:=fun x y H Q=>∃ i j,x=.int i/\y=.int j/\Q (g i j) H
noncomputable def rU (g:Int->V):V->Hp->VK->Prop:=fun x H Q=>∃ i,x=.int i/\Q (g i) H
section
variable {X:Cx}{a b c:Expr}{ta tb tc:TE}{pos:Pos}
theorem yIs (ha:PE X a ta) (hb:PE X b tb) {pins:List (Addr×Obj)}{s:Shared}{σ:St}{H:Hp}{R:V->V->Hp->Prop}(I:Inv X pins σ H s)
  (h:ta σ H fun x H1=>tb σ H1 fun y H2=>R x y H2) {Q:Value->Shared->Prop}{f:Value->Value->Sem Value}
  (hf:∀ v u s2 x y H2,Inv X pins σ H2 s2->RelV x v->RelV y u->R x y H2->wpAny (model X.prog X.w) X.A (f v u) Q X.xe s2) :
  wpAny (model X.prog X.w) X.A (eval a X.env) (fun v s₁=>wpAny (model X.prog X.w) X.A (eval b X.env) (fun u s₂=>wpAny (model X.prog X.w) X.A (f v u) Q X.xe s₂) X.xe s₁) X.xe s:=by
 refine thn (ha pins s σ H _ I h) fun v s1 ⟨x,H1,I1,r1,q1⟩=>?_
 refine thn (hb pins s1 σ H1 _ I1 q1) fun u s2 ⟨y,H2,I2,r2,q2⟩=>?_
 exact hf v u s2 x y H2 I2 r1 r2 q2
theorem yFW {op:Operator}{r:R2}(ho:OpR X (binaryOp op) r) (ha:PE X a ta) (hb:PE X b tb):PE X (.BinOp a op b pos) (tOp r ta tb):=by
 intro pins s σ H Q I h
 exact wpAny_BinOp (yIs ha hb I h fun v u s2 x y H2 I2 rx ry q=>ho pins s2 σ H2 x y v u Q I2 rx ry q)
theorem yIt {op:UnaryOp}{r:V->Hp->VK->Prop}(ho:UnR X (unaryOp op) r) (ha:PE X a ta):PE X (.UnaryOp op a pos) (tUn r ta):=by
 intro pins s σ H Q I h
 exact UnaryOp_ (thn (ha pins s σ H _ I h) fun v s1 ⟨x,H1,I1,r1,q1⟩=>ho pins s1 σ H1 x v Q I1 r1 q1)
theorem opI {f:Value->Value->Sem Value}{C:Int->Int->Prop}{g:Int->Int->Int}
  (rule:∀ (i j:Int) (t u:Tok) (s:Shared) (Q:Value->Shared->Prop) (E:Value->Shared->Prop),C i j->Q (.int (g i j) s.toks) { s with toks:=s.toks+1 }->wpAny (model X.prog X.w) X.A (f (.int i t) (.int j u)) Q E s) :
  OpR X f (rI C fun i j=>.int (g i j)):=by
 intro pins s σ H x y v u Q I rx ry h
 obtain ⟨i,j,rfl,rfl,hc,q⟩:=h
 obtain ⟨t,rfl⟩:=rx
 obtain ⟨t',rfl⟩:=ry
 exact rule i j t t' s _ _ hc ⟨.int (g i j),H,I.tok _,⟨_,rfl⟩,q⟩
theorem yJw {f:Value->Value->Sem Value}{g:Int->Int->Int}
  (rule:∀ (i j:Int) (t u:Tok) (s:Shared) (Q:Value->Shared->Prop) (E:Value->Shared->Prop),Q (.int (g i j) s.toks) { s with toks:=s.toks+1 }->wpAny (model X.prog X.w) X.A (f (.int i t) (.int j u)) Q E s) :
  OpR X f (rI0 fun i j=>.int (g i j)):=by
 intro pins s σ H x y v u Q I rx ry h
 obtain ⟨i,j,rfl,rfl,q⟩:=h
 obtain ⟨t,rfl⟩:=rx
 obtain ⟨t',rfl⟩:=ry
 exact rule i j t t' s _ _ ⟨.int (g i j),H,I.tok _,⟨_,rfl⟩,q⟩
theorem yKd {f:Value->Value->Sem Value}{g:Int->Int->Bool}
  (rule:∀ (i j:Int) (t u:Tok) (s:Shared) (Q:Value->Shared->Prop) (E:Value->Shared->Prop),Q (.bool (g i j)) s->wpAny (model X.prog X.w) X.A (f (.int i t) (.int j u)) Q E s) :
  OpR X f (rI0 fun i j=>.bl (g i j)):=by
 intro pins s σ H x y v u Q I rx ry h
 obtain ⟨i,j,rfl,rfl,q⟩:=h
 obtain ⟨t,rfl⟩:=rx
 obtain ⟨t',rfl⟩:=ry
 exact rule i j t t' s _ _ ⟨.bl (g i j),H,I,rfl,q⟩
noncomputable def yJx (i j:Int):Prop:=0<j/\j<1073741824
noncomputable def yIu (i j:Int):Prop:=0<=j/\j<=1000000/\i.natAbs<2 ^ 64
noncomputable def CMul (i j:Int):Prop:=(-(2 ^ 64)<i/\i<2 ^ 64)\/(-(2 ^ 64)<j/\j<2 ^ 64)
theorem CMul.ok {i j:Int}(h:CMul i j):IntMulOk i j:=by
 rcases h with ⟨h1,h2⟩|⟨h1,h2⟩
 .exact .of_left (intBits_le_64 h1 h2)
 .exact .of_right (intBits_le_64 h1 h2)
theorem yfx:OpR X (binaryOp .Add) (rI0 fun i j=>.int (i+j)):=yJw fun _ _ _ _ _ _ _ q=>add_int q
theorem yvt:OpR X (binaryOp .Sub) (rI0 fun i j=>.int (i-j)):=yJw fun _ _ _ _ _ _ _ q=>sub_int q
theorem ypI:OpR X (binaryOp .Mult) (rI CMul fun i j=>.int (i*j)):=opI fun _ _ _ _ _ _ _ hc q=>mul_int q hc.ok
theorem ycm:OpR X (binaryOp .FloorDiv) (rI yJx fun i j=>.int (i/j)):=opI fun i j _ _ _ _ _ hc q=>by
 have h1:(0:Int)<j:=hc.1
 have h2:j<1073741824:=hc.2
 exact floordiv_int (by omega) (by rw [Int.fdiv_eq_ediv_of_nonneg i (by omega)];exact q) (.inl (PyProof.noPylong_small (by omega)))
theorem ybK:OpR X (binaryOp .Mod) (rI (fun _ j=>0<j) fun i j=>.int (i%j)):=opI fun i j _ _ _ _ _ hc q=>by
 have h1:(0:Int)<j:=hc
 exact mod_int' (by omega) (by rw [Int.fmod_eq_emod_of_nonneg i (by omega)];exact q)
theorem yvu:OpR X (binaryOp .Pow) (rI yIu fun i j=>.int (i ^ j.toNat)):=opI fun _ _ _ _ _ _ _ hc q=>pow_int_small hc.1 hc.2.1 hc.2.2 q
theorem unI {f:Value->Sem Value}{g:Int->Int}
  (rule:∀ (i:Int) (t:Tok) (s:Shared) (Q:Value->Shared->Prop) (E:Value->Shared->Prop),Q (.int (g i) s.toks) { s with toks:=s.toks+1 }->wpAny (model X.prog X.w) X.A (f (.int i t)) Q E s) :
  UnR X f (rU fun i=>.int (g i)):=by
 intro pins s σ H x v Q I rx h
 obtain ⟨i,rfl,q⟩:=h
 obtain ⟨t,rfl⟩:=rx
 exact rule i t s _ _ ⟨.int (g i),H,I.tok _,⟨_,rfl⟩,q⟩
theorem yCb:UnR X (unaryOp .USub) (rU fun i=>.int (-i)):=unI fun _ _ _ _ _ q=>neg_int q
end
noncomputable def yDi:V->V->Bool
 | .non,.non=>true|.non,.int _=>true|.int _,.non=>true|.non,.bl _=>true|.bl _,.non=>true|.non,.str _=>true|.str _,.non=>true
 | .int _,.int _=>true|.bl _,.bl _=>true|.str _,.str _=>true|.byt _,.byt _=>true
 | .int _,.str _=>true|.str _,.int _=>true|.bl _,.str _=>true|.str _,.bl _=>true
 | _,_=>false
noncomputable def rEq:R2:=fun x y H Q=>yDi x y=true/\Q (.bl (decide (x=y))) H
noncomputable def rNe:R2:=fun x y H Q=>yDi x y=true/\Q (.bl (!decide (x=y))) H
theorem yxx {i j:Int}:decide (V.int i=V.int j)=(i == j):=by
 rw [Bool.eq_iff_iff]
 simp
theorem yCc {i j:Bool}:decide (V.bl i=V.bl j)=(i == j):=by
 rw [Bool.eq_iff_iff]
 simp
theorem yxy {i j:Str}:decide (V.str i=V.str j)=(i == j):=by
 rw [Bool.eq_iff_iff]
 simp
theorem yxz {i j:Array UInt8}:decide (V.byt i=V.byt j)=(i.toList == j.toList):=by
 rw [Bool.eq_iff_iff]
 cases i
 cases j
 simp
section
variable {X:Cx}{a b c:Expr}{ta tb tc:TE}{pos:Pos}
theorem ybZ {pins:List (Addr×Obj)}{σ:St}{H:Hp}{s:Shared}{Q:VK}{k k':Bool}(I:Inv X pins σ H s) (q:Q (.bl k) H) (e:k=k'):EP X pins σ Q (.bool k') s:=by
 subst e
 exact ⟨.bl k,H,I,rfl,q⟩
theorem yec:OpR X (compareOp .Eq) rEq:=by
 intro pins s σ H x y v u Q I rx ry h
 obtain ⟨hs,q⟩:=h
 cases x with
 | non =>
  cases rx
  cases y with
  | non=>cases ry;exact PySem.EqNone.eq_none_none (ybZ I q (by simp))
  | bl j=>cases ry;exact PySem.EqNone.eq_none_bool (ybZ I q (by simp))
  | int j=>obtain ⟨t',rfl⟩:=ry;exact PySem.EqNone.eq_none_int (ybZ I q (by simp))
  | str j=>obtain ⟨t',rfl⟩:=ry;exact PySem.EqNone.eq_none_str (ybZ I q (by simp))
  | _=>exact absurd (show false=true from hs) Bool.false_ne_true
 | bl i =>
  cases rx
  cases y with
  | non=>cases ry;exact PySem.EqNone.eq_bool_none (ybZ I q (by simp))
  | bl j=>cases ry;exact eq_bool (ybZ I q yCc)
  | str j=>obtain ⟨t',rfl⟩:=ry;exact PySem.EqMixed.eq_bool_str (ybZ I q (by simp))
  | _=>exact absurd (show false=true from hs) Bool.false_ne_true
 | int i =>
  obtain ⟨t,rfl⟩:=rx
  cases y with
  | non=>cases ry;exact PySem.EqNone.eq_int_none (ybZ I q (by simp))
  | int j=>obtain ⟨t',rfl⟩:=ry;exact eq_int (ybZ I q yxx)
  | str j=>obtain ⟨t',rfl⟩:=ry;exact PySem.EqMixed.eq_int_str (ybZ I q (by simp))
  | _=>exact absurd (show false=true from hs) Bool.false_ne_true
 | str i =>
  obtain ⟨t,rfl⟩:=rx
  cases y with
  | non=>cases ry;exact PySem.EqNone.eq_str_none (ybZ I q (by simp))
  | bl j=>cases ry;exact PySem.EqMixed.eq_str_bool (ybZ I q (by simp))
  | int j=>obtain ⟨t',rfl⟩:=ry;exact PySem.EqMixed.eq_str_int (ybZ I q (by simp))
  | str j=>obtain ⟨t',rfl⟩:=ry;exact eq_str (ybZ I q yxy)
  | _=>exact absurd (show false=true from hs) Bool.false_ne_true
 | byt i =>
  obtain ⟨t,rfl⟩:=rx
  cases y with
  | byt j=>obtain ⟨t',rfl⟩:=ry;exact PySem.W.eq_bytes (ybZ I q yxz)
  | _=>exact absurd (show false=true from hs) Bool.false_ne_true
 | _=>cases y<;>exact absurd (show false=true from hs) Bool.false_ne_true
theorem yFX:OpR X (compareOp .NotEq) rNe:=by
 intro pins s σ H x y v u Q I rx ry h
 obtain ⟨hs,q⟩:=h
 cases x with
 | non =>
  cases rx
  cases y with
  | non=>cases ry;exact PySem.EqNone.ne_none_none (ybZ I q (by simp))
  | bl j=>cases ry;exact PySem.EqNone.ne_none_bool (ybZ I q (by simp))
  | int j=>obtain ⟨t',rfl⟩:=ry;exact PySem.EqNone.ne_none_int (ybZ I q (by simp))
  | str j=>obtain ⟨t',rfl⟩:=ry;exact PySem.EqNone.ne_none_str (ybZ I q (by simp))
  | _=>exact absurd (show false=true from hs) Bool.false_ne_true
 | bl i =>
  cases rx
  cases y with
  | non=>cases ry;exact PySem.EqNone.ne_bool_none (ybZ I q (by simp))
  | bl j=>cases ry;exact ne_bool (ybZ I q (congrArg not yCc))
  | str j=>obtain ⟨t',rfl⟩:=ry;exact PySem.EqMixed.ne_bool_str (ybZ I q (by simp))
  | _=>exact absurd (show false=true from hs) Bool.false_ne_true
 | int i =>
  obtain ⟨t,rfl⟩:=rx
  cases y with
  | non=>cases ry;exact PySem.EqNone.ne_int_none (ybZ I q (by simp))
  | int j=>obtain ⟨t',rfl⟩:=ry;exact ne_int (ybZ I q (congrArg not yxx))
  | str j=>obtain ⟨t',rfl⟩:=ry;exact PySem.EqMixed.ne_int_str (ybZ I q (by simp))
  | _=>exact absurd (show false=true from hs) Bool.false_ne_true
 | str i =>
  obtain ⟨t,rfl⟩:=rx
  cases y with
  | non=>cases ry;exact PySem.EqNone.ne_str_none (ybZ I q (by simp))
  | bl j=>cases ry;exact PySem.EqMixed.ne_str_bool (ybZ I q (by simp))
  | int j=>obtain ⟨t',rfl⟩:=ry;exact PySem.EqMixed.ne_str_int (ybZ I q (by simp))
  | str j=>obtain ⟨t',rfl⟩:=ry;exact ne_str (ybZ I q (congrArg not yxy))
  | _=>exact absurd (show false=true from hs) Bool.false_ne_true
 | byt i =>
  obtain ⟨t,rfl⟩:=rx
  cases y with
  | byt j=>obtain ⟨t',rfl⟩:=ry;exact PySem.W.ne_bytes (ybZ I q (congrArg not yxz))
  | _=>exact absurd (show false=true from hs) Bool.false_ne_true
 | _=>cases y<;>exact absurd (show false=true from hs) Bool.false_ne_true
theorem yrG:OpR X (compareOp .Lt) (rI0 fun i j=>.bl (decide (i<j))):=yKd fun _ _ _ _ _ _ _ q=>lt_int q
theorem yxA:OpR X (compareOp .Is) (fun x y H Q=>y=.non/\Q (.bl (decide (x=.non))) H):=by
 intro pins s σ H x y v u Q I rx ry h
 obtain ⟨rfl,q⟩:=h
 cases ry
 refine is_none_gen (ybZ I q ?_)
 cases x<;>first
  | (cases rx;rfl)
  | (obtain ⟨t,rfl⟩:=rx;rfl)
theorem yDj:OpR X (compareOp .IsNot) (fun x y H Q=>y=.non/\Q (.bl (!decide (x=.non))) H):=by
 intro pins s σ H x y v u Q I rx ry h
 obtain ⟨rfl,q⟩:=h
 cases ry
 refine isnot_none_gen (ybZ I q ?_)
 cases x<;>first
  | (cases rx;rfl)
  | (obtain ⟨t,rfl⟩:=rx;rfl)
theorem yO (b:Expr) {op:CmpOp}(h:op≠.In:=by decide) (h2:op≠.NotIn:=by decide):behindInMarks op b=false:=by
 have e1:(op == CmpOp.In)=false:=by cases op<;>first|rfl|exact absurd rfl h
 have e2:(op == CmpOp.NotIn)=false:=by cases op<;>first|rfl|exact absurd rfl h2
 cases b<;>simp [behindInMarks,e1,e2]
theorem yDk {op:CmpOp}{r:R2}(ho:OpR X (compareOp op) r) (ha:PE X a ta) (hb:PE X b tb) (hm:behindInMarks op b=false):PE X (.Compare a [op] [b] pos) (tOp r ta tb):=by
 intro pins s σ H Q I h
 exact wpAny_Compare1 (yIs ha hb I h fun v u s2 x y H2 I2 rx ry q=>ho pins s2 σ H2 x y v u Q I2 rx ry q) hm
noncomputable def yFY (t:TE):TT:=fun σ H Q=>t σ H fun x H'=>∃ k,x=.bl k/\Q k H'
theorem yDl {op:CmpOp}{r:R2}(ho:OpR X (compareOp op) r) (ha:PE X a ta) (hb:PE X b tb) (hm:behindInMarks op b=false):PT X (.Compare a [op] [b] pos) (yFY (tOp r ta tb)):=by
 intro pins s σ H Q I h
 refine wpAny_isTrue_Compare1 (thn (ha pins s σ H _ I h) fun v s1 ⟨x,H1,I1,r1,q1⟩=>thn (hb pins s1 σ H1 _ I1 q1) fun u s2 ⟨y,H2,I2,r2,q2⟩ =>
  thn (ho pins s2 σ H2 x y v u _ I2 r1 r2 q2) fun c s3 ⟨z,H3,I3,r3,k,e,q3⟩=>?_) hm
 subst e
 cases r3
 exact wpAny_truthy_bool ⟨H3,I3,q3⟩
theorem ypJ:(sizeLine:Nat)<2 ^ 63:=by rw [sizeLine_eq];decide
theorem vals1 {x:V}{us:List Value}(r:Vals [x] us):∃ u,us=[u]/\RelV x u:=by
 cases r with
 | cons r1 r2=>cases r2;exact ⟨_,rfl,r1⟩
theorem vals2 {x y:V}{us:List Value}(r:Vals [x,y] us):∃ u w',us=[u,w']/\RelV x u/\RelV y w':=by
 cases r with
 | cons r1 r2 =>
  cases r2 with
  | cons r3 r4=>cases r4;exact ⟨_,_,rfl,r1,r3⟩
theorem yxB (hc:X.calm=true):ykf X (.builtin "max") (fun xs H Q=>∃ i j,xs=[.int i,.int j]/\Q (.int (if j>i then j else i)) H):=by
 intro pins s σ H xs us Q I r h
 obtain ⟨i,j,rfl,q⟩:=h
 obtain ⟨u,w',rfl,⟨t,rfl⟩,⟨t',rfl⟩⟩:=vals2 r
 refine max_two_ints (I.ok.hd hc) fun h' tk k=>⟨_,H,I.kept k,?_,q⟩
 by_cases hj:j>i
 .rw [if_pos hj,if_pos hj];exact ⟨_,rfl⟩
 .rw [if_neg hj,if_neg hj];exact ⟨_,rfl⟩
theorem ynM:ykf X (.type "int") (fun xs H Q=>(∃ i,xs=[.int i]/\Q (.int i) H)\/∃ k,xs=[.bl k]/\Q (.int (if k then 1 else 0)) H):=by
 intro pins s σ H xs us Q I r h
 rcases h with ⟨i,rfl,q⟩|⟨k,rfl,q⟩
 .obtain ⟨u,rfl,t,rfl⟩:=vals1 r
  exact call_int_int ⟨.int i,H,I,⟨_,rfl⟩,q⟩
 .obtain ⟨u,rfl,r1⟩:=vals1 r
  cases r1
  exact call_int_bool ⟨.int (if k then 1 else 0),H,I.tok _,⟨_,rfl⟩,q⟩
end
end L2
namespace L2
open PySem PySem.Spec PyProof.Rows
structure ObjM (h:Heap) (x dx C:Addr) (mA:Str->Option Value):Prop where
 obj:h.get? x=some (PySem.W.instObj C dx)
 ns:h.Ns1 dx mA
 ne:dx≠x
theorem yxC {h:Heap}{dx:Addr}{mA:Str->Option Value}(n:h.Ns1 dx mA):∃ od,h.get? dx=some od/\∀ name,PySem.W.lookIn name od=some (mA name):=by
 obtain ⟨o,es,ep,ho,hd,hk,_,hm⟩:=n
 refine ⟨o,ho,fun name=>?_⟩
 have e:=hm name
 unfold nsFind findBy at e
 rw [<- Array.find?_toList] at e
 unfold PySem.W.lookIn
 rw [hd]
 dsimp only
 split
 .rename_i y q
  rw [q] at e
  exact congrArg some e
 .rename_i q
  rw [q] at e
  have a:es.toList.any (·.refKey)=false:=by
   rw [List.any_eq_false]
   intro y hy
   obtain ⟨z,t,hkey⟩:=hk y (Array.mem_toList_iff.mp hy)
   simp [DictEntry.refKey,hkey]
  have a':¬ es.toList.any (·.refKey)=true:=by rw [a];exact Bool.false_ne_true
  rw [if_neg a']
  exact congrArg some e
theorem ObjM.look {h:Heap}{x dx C:Addr}{mA:Str->Option Value}(I:ObjM h x dx C mA):∃ od,PySem.W.InstAt h x (PySem.W.instObj C dx) C (some od)/\∀ name,PySem.W.lookIn name od=some (mA name) :=
 let ⟨od,ho,hl⟩:=yxC I.ns
 ⟨od,⟨I.obj,rfl,rfl,ho⟩,hl⟩
section
variable {prog:Program}{w:World}{A:Around}{E:Value->Shared->Prop}{s:Shared}{K:PySem.W.Frag}{x dx C f:Addr}{mA:Str->Option Value}{name:Str}{v:Value}
theorem yDm {expr:Bool}{Q:Value->Shared->Prop}(X:K.In s.heap) (I:ObjM s.heap x dx C mA) (hg:PySem.W.plainGet K C name=true) (hh:PySem.W.hasDictIn K C=true)
  (ha:PySem.W.findIn K (.ref C) name=some none) (hv:mA name=some v) (hv':PySem.W.handedIn v=true) (h:Q v { s with toks:=s.toks+1 }) :
  wpAny (model prog w) A (getAttr (.ref x) name expr) Q E s:=by
 obtain ⟨od,J,hl⟩:=I.look
 exact PySem.W.get_value X J (PySem.W.plainGet_of hg).1 (PySem.W.findObj_own hh ha rfl (by rw [hl,hv])) hv' h
theorem yAf {pl:Sem Bool}{Q:Value×List Value->Shared->Prop}(X:K.In s.heap) (I:ObjM s.heap x dx C mA) (hg:PySem.W.plainGet K C name=true)
  (hf:PySem.W.findIn K (.ref C) name=some (some (.ref f))) (ht:PySem.W.isFn K (.ref f)=true) (hv:mA name=none) (h:Q (.ref f,[.ref x]) s) :
  wpAny (model prog w) A (getMethod (.ref x) name pl) Q E s:=by
 obtain ⟨od,J,hl⟩:=I.look
 exact PySem.W.method_fn X J (PySem.W.plainGet_of hg).1 (PySem.W.plainGet_of hg).2 hf (beq_iff_eq.mp ht) (by show (PySem.W.lookIn name od).map (·.isSome)=some false;rw [hl,hv];rfl) h
theorem yDn {ns:List Str}{Q:Unit->Shared->Prop}(X:K.In s.heap) (I:ObjM s.heap x dx C mA)
  (hs:PySem.W.findIn K (.ref C) "__setattr__" = some (some (.builtin "object.__setattr__"))) (hp:PySem.W.plainOver K C=true) (ht:PySem.W.takerIn K C name=some none) (hh:PySem.W.hasDictIn K C=true)
  (hw:PySem.Within mA ns) (hsz:ns.length<=sizeLine)
  (h:∀ h',ObjM h' x dx C (fun y=>if y=name then some v else mA y)->Heap.SameBut dx s.heap h'->Q () { s with heap:=h',toks:=s.toks+2 }) :
  wpAny (model prog w) A (setAttr (.ref x) name v) Q E s:=by
 obtain ⟨od,J,hl⟩:=I.look
 refine PySem.W.set_plain X J hs (PySem.W.osa_open (s:={ s with toks:=s.toks+1 }) (r:=none) X J hp ht fun b=>?_)
 obtain ⟨cd,hc,hd'⟩:=PySem.W.any_some hh
 have hx:s.heap.get? x=some ⟨.ref C,some dx,.plain,#[]⟩:=I.obj
 refine wpAny_bind (wpAny_pure (wpAny_bind (wpAny_bind (wpAny_loadPart hx (wpAny_bind (PySem.W.Looks.here (s:={ s with toks:=s.toks+1 }) (PySem.W.looks_clsIn X hc) ?_))))))
 rw [hd']
 refine wpAny_pure (a:=some dx) (wpAny_bind (wpAny_pure (wpAny_bind ?_)))
 refine wpAny_nsSet1 (s:={ s with toks:=s.toks+1 }) I.ns fun h' hn2 hs2=>?_
 obtain ⟨oD,esD,epD,hoD,hdD,hcD⟩:=hn2.count (PySem.Within.cons name v hw)
 refine wpAny_bind (wpAny_lookBehind hoD (by rw [hdD];exact pastItsLine_dict (Nat.le_trans hcD (by rw [List.length_cons];omega))) ?_)
 exact wpAny_pure (h _ ⟨(hs2.2 _ (Ne.symm I.ne)).trans I.obj,hn2,I.ne⟩ hs2)
theorem yAg {R:Result->Shared->Prop}{vs:List Value}{kw:List (Str×Value)}(X:K.In s.heap) (hm:PySem.W.makesIn K C=true)
  (hi:PySem.W.findIn K (.ref C) "__init__" = some (some (.ref f))) (hf:PySem.W.typeIn K (.ref f)=some (.type "function"))
  (h:codeAny (model prog w) (A.under (.builtin "type.__call__" ⟨.ref C::vs,kw⟩)) (.call (.ref f) ⟨.ref (s.heap.objs.size+1)::vs,kw⟩) (PySem.W.InitBack (s.heap.objs.size+1) R)
   { s with heap:=(s.heap.push PySem.W.emptyDict).push (PySem.W.instObj C s.heap.objs.size) }) :
  codeAny (model prog w) A (.call (.ref C) ⟨vs,kw⟩) R s:=by
 obtain ⟨hh,g,d,t,os⟩:=s
 exact PySem.W.make_core (PySem.W.makes_of X hm) (PySem.W.looks_findIn X hi) (fun self=>PySem.W.bind_fn X self hf) (.inl rfl) h
end
noncomputable def ypK (f:Str) (v:V):List (Str×V)->List (Str×V)
 | []=>[(f,v)]
 | (g,x)::r=>if g=f then (g,v)::r else (g,x)::ypK f v r
theorem ynN (f g:Str) (v:V):∀ fs:List (Str×V),(ypK f v fs).lookup g=if g=f then some v else fs.lookup g
 | []=>by
  show List.lookup g [(f,v)]=_
  by_cases h:g=f
  .have hb:(g == f)=true:=beq_iff_eq.mpr h
   simp only [List.lookup,hb,if_pos h]
  .have hb:(g == f)=false:=beq_eq_false_iff_ne.mpr h
   simp only [List.lookup,hb,if_neg h]
 | (k,x)::r=>by
  have ih:=ynN f g v r
  rw [show ypK f v ((k,x)::r)=(if k=f then (k,v)::r else (k,x)::ypK f v r) from rfl]
  by_cases hk:k=f
  .rw [if_pos hk]
   by_cases h:g=k
   .have hb:(g == k)=true:=beq_iff_eq.mpr h
    simp only [List.lookup,hb,if_pos (h.trans hk)]
   .have hb:(g == k)=false:=beq_eq_false_iff_ne.mpr h
    simp only [List.lookup,hb,if_neg (fun e:g=f=>h (e.trans hk.symm))]
  .rw [if_neg hk]
   by_cases h:g=k
   .have hb:(g == k)=true:=beq_iff_eq.mpr h
    simp only [List.lookup,hb,if_neg (fun e:g=f=>hk (h.symm.trans e))]
   .have hb:(g == k)=false:=beq_eq_false_iff_ne.mpr h
    simp only [List.lookup,hb]
    exact ih
theorem ynO (f:Str) (v:V):∀ fs:List (Str×V),f∈(ypK f v fs).map (·.1)/\∀ g,g∈fs.map (·.1)->g∈(ypK f v fs).map (·.1)
 | []=>⟨by simp [ypK],fun g h=>by simp at h⟩
 | (k,x)::r=>by
  obtain ⟨i1,i2⟩:=ynO f v r
  rw [show ypK f v ((k,x)::r)=(if k=f then (k,v)::r else (k,x)::ypK f v r) from rfl]
  by_cases hk:k=f
  .rw [if_pos hk]
   subst hk
   exact ⟨by simp,fun g h=>by simpa using h⟩
  .rw [if_neg hk]
   refine ⟨?_,fun g h=>?_⟩
   .rw [List.map_cons]
    exact List.mem_cons_of_mem _ i1
   .rw [List.map_cons] at h ⊢
    rcases List.mem_cons.mp h with e|e
    .exact List.mem_cons.mpr (.inl e)
    .exact List.mem_cons_of_mem _ (i2 g e)
theorem ynP (f:Str) (v:V):∀ fs:List (Str×V),(ypK f v fs).length<=fs.length+1
 | []=>by simp [ypK]
 | (k,x)::r=>by
  have ih:=ynP f v r
  rw [show ypK f v ((k,x)::r)=(if k=f then (k,v)::r else (k,x)::ypK f v r) from rfl]
  by_cases hk:k=f
  .rw [if_pos hk,List.length_cons,List.length_cons];omega
  .rw [if_neg hk,List.length_cons,List.length_cons];omega
theorem RelO.some_of {v:V}{o:Option Value}(r:RelO (some v) o):∃ u,o=some u/\RelV v u:=by
 cases o with
 | none=>exact (show False from r).elim
 | some u=>exact ⟨u,rfl,r⟩
theorem RelO.none_of {o:Option Value}(r:RelO none o):o=none:=by
 cases o with
 | none=>rfl
 | some u=>exact (show False from r).elim
theorem yxD {v:V}{u:Value}(r:RelV v u):PySem.W.handedIn u=true:=by
 cases v with
 | non=>cases (show u=Value.none from r);rfl
 | bl b=>cases (show u=Value.bool b from r);rfl
 | int i=>obtain ⟨t,e⟩:=(show ∃ t,u=Value.int i t from r);cases e;rfl
 | str x=>obtain ⟨t,e⟩:=(show ∃ t,u=Value.str x t from r);cases e;rfl
 | byt b=>obtain ⟨t,e⟩:=(show ∃ t,u=Value.bytes b t from r);cases e;rfl
 | flt b=>obtain ⟨t,e⟩:=(show ∃ t,u=Value.float b t from r);cases e;rfl
 | ref a=>cases (show u=Value.ref a from r);rfl
 | ty n=>cases (show u=Value.type n from r);rfl
section
variable {P:Program}{w:World}{H H':Hp}{h h':Heap}{a C dx:Addr}{fs fs':List (Str×V)}
theorem yqn (hok:HOk P w H h) (e:H a=some (.ins C dx fs)):∃ mA,ObjM h a dx C mA/\(∀ f,RelO (fs.lookup f) (mA f))/\PySem.Within mA (fs.map (·.1))/\fs.length<=1000/\H dx=some (.own a):=by
 obtain ⟨d,z,ne,ob,mA,n,r,q⟩:=(show ObjOk P w H h a (.ins C dx fs) from hok a _ e)
 exact ⟨mA,⟨ob,n,ne⟩,r,q,z,d⟩
end
structure Cls (K:PySem.W.Frag) (C:Addr):Prop where
 pg:PySem.W.plainGet K C Str.empty=true
 hd:PySem.W.hasDictIn K C=true
 po:PySem.W.plainOver K C=true
 sa:PySem.W.findIn K (.ref C) "__setattr__" = some (some (.builtin "object.__setattr__"))
theorem Cls.get {K:PySem.W.Frag}{C:Addr}(c:Cls K C) (f:Str):PySem.W.plainGet K C f=true:=c.pg
noncomputable def NoAttr (K:PySem.W.Frag) (C:Addr) (f:Str):Prop:=PySem.W.findIn K (.ref C) f=some none
theorem NoAttr.taker {K:PySem.W.Frag}{C:Addr}{f:Str}(n:NoAttr K C f):PySem.W.takerIn K C f=some none:=by
 unfold PySem.W.takerIn
 rw [show PySem.W.findIn K (.ref C) f=some none from n]
 rfl
structure ykC (K:PySem.W.Frag) (C:Addr) (m:Str) (f:Addr):Prop where
 at_:PySem.W.findIn K (.ref C) m=some (some (.ref f))
 fn:PySem.W.isFn K (.ref f)=true
 kp:PySem.W.keepIn K (.ref f)=true
section
variable {X:Cx}{pins:List (Addr×Obj)}{σ:St}{H:Hp}{s:Shared}{a C dx:Addr}{fs:List (Str×V)}{f:Str}{v:V}{A:Around}{E:Value->Shared->Prop}
theorem ywo {b:Bool}{Q:Value->Shared->Prop}(I:Inv X pins σ H s) (e:H a=some (.ins C dx fs)) (c:Cls X.K C) (n:NoAttr X.K C f) (l:fs.lookup f=some v)
  (h:∀ u s',Inv X pins σ H s'->RelV v u->Q u s'):wpAny (model X.prog X.w) A (getAttr (.ref a) f b) Q E s:=by
 obtain ⟨mA,O,r,_,_,_⟩:=yqn I.hok e
 obtain ⟨u,hu,ru⟩:=RelO.some_of (v:=v) (o:=mA f) (by rw [<- l];exact r f)
 exact yDm I.kIn O (c.get f) c.hd n hu (yxD ru) (h u _ (I.tok _) ru)
theorem ypL {m:Str}{g:Addr}{pl:Sem Bool}{Q:Value×List Value->Shared->Prop}(I:Inv X pins σ H s) (e:H a=some (.ins C dx fs)) (c:Cls X.K C) (k:ykC X.K C m g) (l:fs.lookup m=none)
  (h:Q (.ref g,[.ref a]) s):wpAny (model X.prog X.w) A (getMethod (.ref a) m pl) Q E s:=by
 obtain ⟨mA,O,r,_,_,_⟩:=yqn I.hok e
 have hn:mA m=none:=RelO.none_of (by rw [<- l];exact r m)
 exact yAf I.kIn O (c.get m) k.at_ k.fn hn h
theorem ywp {y:V}{u:Value}{Q:Unit->Shared->Prop}(I:Inv X pins σ H s) (e:H a=some (.ins C dx fs)) (c:Cls X.K C) (n:NoAttr X.K C f) (hl:fs.length<1000) (ry:RelV y u)
  (h:∀ s',Inv X pins σ (upd H a (.ins C dx (ypK f y fs))) s'->Q () s'):wpAny (model X.prog X.w) A (setAttr (.ref a) f u) Q E s:=by
 obtain ⟨mA,O,r,wi,_,ho⟩:=yqn I.hok e
 have hz:(fs.map (·.1)).length<=sizeLine:=by rw [List.length_map,sizeLine_eq];omega
 refine yDn I.kIn O c.sa c.po n.taker c.hd wi hz fun h' O' sb=>h _ ?_
 have hd:∃ o,h'.get? dx=some o:=let ⟨o,_,_,e',_⟩:=O'.ns;⟨o,e'⟩
 refine I.write (x:=a) (e:=dx) (by rw [e];exact True.intro) (.inr ho) (fun b q hb z=>(sb.2 b hb).trans z) hd ?_
 refine ⟨by rw [ybb O.ne];exact ho,?_,O.ne,O'.obj,_,O'.ns,fun g=>?_,fun g hg=>?_⟩
 .have:=ynP f y fs;omega
 .show RelO ((ypK f y fs).lookup g) (if g=f then some u else mA g)
  rw [ynN]
  by_cases q:g=f
  .rw [if_pos q,if_pos q];exact ry
  .rw [if_neg q,if_neg q];exact r g
 .by_cases q:g=f
  .rw [q];exact (ynO f y fs).1
  .refine (ynO f y fs).2 g (wi g fun z=>hg ?_)
   show (if g=f then some u else mA g)=none
   rw [if_neg q];exact z
theorem Inv.made (I:Inv X pins σ H s):Inv X pins σ (upd (upd H s.heap.objs.size (.own (s.heap.objs.size+1))) (s.heap.objs.size+1) (.ins C s.heap.objs.size []))
  { s with heap:=(s.heap.push PySem.W.emptyDict).push (PySem.W.instObj C s.heap.objs.size) }:=by
 have e1:(s.heap.push PySem.W.emptyDict).get? s.heap.objs.size=some PySem.W.emptyDict:=Heap.get?_push_size s.heap rfl
 have e2:((s.heap.push PySem.W.emptyDict).push (PySem.W.instObj C s.heap.objs.size)).get? (s.heap.objs.size+1)=some (PySem.W.instObj C s.heap.objs.size):=by
  have:=Heap.get?_push_size (s.heap.push PySem.W.emptyDict) (o:=PySem.W.instObj C s.heap.objs.size) rfl
  rwa [Heap.size_push] at this
 have e3:(s.heap.push PySem.W.emptyDict).Ns s.heap.objs.size (fun _=>none):=⟨PySem.W.emptyDict,#[],_,e1,rfl,(fun e he=>absurd he (by simp)),fun _=>rfl⟩
 have I1:=I.laid (a:=s.heap.objs.size) (o:=.own (s.heap.objs.size+1)) (h':=s.heap.push PySem.W.emptyDict) (t':=s.toks) (fun b u q=>Heap.get?_push_of_some _ q) (Nat.le_refl _) ⟨_,e1⟩
 refine I1.laid (a:=s.heap.objs.size+1) (o:=.ins C s.heap.objs.size []) (t':=s.toks) (fun b u q=>Heap.get?_push_of_some _ q) (Nat.le_of_eq (Heap.size_push _ _)) ?_
 have ne:s.heap.objs.size≠s.heap.objs.size+1:=Nat.ne_of_lt (Nat.lt_succ_self _)
 refine ⟨by rw [ybb ne,yS],Nat.zero_le _,ne,e2,fun _=>none,(Heap.Ns1.of_empty e3).at fun o q=>Heap.get?_push_of_some _ q,fun _=>True.intro,fun y hy=>absurd rfl hy⟩
theorem yDo {prog:Program}{w:World}{env:Env}{e:Expr}{f:Str}{pos:Pos}{s:Shared}{Q:Value->Shared->Prop}(hb:attributeBase e f env (eval e env)=eval e env)
  (h:wpAny (model prog w) A (eval e env) (fun o s₁=>wpAny (model prog w) A (getAttr o f true) Q E s₁) E s):wpAny (model prog w) A (eval (.Attribute e f pos) env) Q E s :=
 Attribute_any_ h (by rw [arm_eval_Attribute,hb])
end
noncomputable def yJy (K:PySem.W.Frag) (ta:TE) (f:Str):TE:=fun σ H Q=>ta σ H fun x H1=>∃ a C dx fs v,x=.ref a/\H1 a=some (.ins C dx fs)/\Cls K C/\NoAttr K C f/\fs.lookup f=some v/\Q v H1
noncomputable def yIv (K:PySem.W.Frag) (ta tv:TE) (f:Str):TS:=fun D σ H=>tv σ H fun y H1=>ta σ H1 fun x H2=>∃ a C dx fs,x=.ref a/\H2 a=some (.ins C dx fs)/\Cls K C/\NoAttr K C f/\fs.length<1000 /\
 D.nx σ (upd H2 a (.ins C dx (ypK f y fs)))
section
variable {X:Cx}{o e value:Expr}{f:Str}{pos pos' tpos:Pos}{ta tv:TE}
theorem yFZ (he:PE X e ta) (hb:attributeBase e f X.env (eval e X.env)=eval e X.env):PE X (.Attribute e f pos) (yJy X.K ta f):=by
 intro pins s σ H Q I h
 refine yDo hb (thn (he pins s σ H _ I h) fun u s1 ⟨x,H1,I1,rx,a,C,dx,fs,v,ex,ea,c,n,l,q⟩=>?_)
 subst ex
 obtain rfl:u=Value.ref a:=rx
 exact ywo I1 ea c n l fun u' s2 I2 ru=>⟨v,H1,I2,ru,q⟩
theorem yCd (ha:PE X o ta) (hv:PE X value tv) (hs:swapsWith value (some (.Attribute o f pos')) pos.line X.env=pure false):PS X (.Assign [.Attribute o f pos'] value pos) (yIv X.K ta tv f):=by
 intro pins s σ H D I h
 refine plainObj_wpAny_Assign_Attribute (thn (hv pins s σ H _ I h) fun u s1 ⟨y,H1,I1,ry,q⟩=>thn (ha pins s1 σ H1 _ I1 q) fun ov s2 ⟨x,H2,I2,rx,a,C,dx,fs,ex,ea,c,n,l,q2⟩=>?_) hs
 subst ex
 obtain rfl:ov=Value.ref a:=rx
 exact ywp I2 ea c n l ry fun s3 I3=>⟨σ,_,I3,q2⟩
end
section
variable {X:Cx}{pins:List (Addr×Obj)}{σ:St}{H:Hp}{s:Shared}{A:Around}{E:Value->Shared->Prop}{Q:Value->Shared->Prop}{c:Value}{b:Bool}
inductive ynQ (K:PySem.W.Frag) (H:Hp):V->Value->Prop where
 | non:ynQ K H .non (.type "NoneType")
 | bl (x:Bool):ynQ K H (.bl x) (.type "bool")
 | int (i:Int):ynQ K H (.int i) (.type "int")
 | str (x:Str):ynQ K H (.str x) (.type "str")
 | flt (x:UInt64):ynQ K H (.flt x) (.type "float")
 | lst {a:Addr}{xs:List V}(e:H a=some (.lst xs)):ynQ K H (.ref a) (.type "list")
 | frz {a:Addr}{o:Obj}{xs:List V}(e:H a=some (.frz o (.lst xs))):ynQ K H (.ref a) (.type "list")
 | tup {a:Addr}{xs:List V}(e:H a=some (.tup xs)):ynQ K H (.ref a) (.type "tuple")
 | kt {a:Addr}{o:Obj}(e:K.lookup a=some o) (c:o.cls=.type "tuple"):ynQ K H (.ref a) (.type "tuple")
 | dK {a:Addr}{kvs:List (Key×V)}(e:H a=some (.dK kvs)):ynQ K H (.ref a) (.type "dict")
 | dT {a:Addr}{kvs:List (List Key×V)}(e:H a=some (.dT kvs)):ynQ K H (.ref a) (.type "dict")
 | ins {a C dx:Addr}{fs:List (Str×V)}(e:H a=some (.ins C dx fs)) (cl:Cls K C) (ha:PySem.W.findIn K (.ref C) "__class__" = some (some (.builtin "object.__class__")))
   (hn:PySem.W.specialIn K (.builtin "object.__class__") "__get__" = some (some (.builtin "getset_descriptor.__get__"))) (htk:PySem.W.takesIn K (.builtin "object.__class__")=some true)
   (hm:PySem.W.mroIn K C (.type "object")=some true):ynQ K H (.ref a) (.ref C)
theorem yxE {x:V}{u t:Value}(I:Inv X pins σ H s) (rx:RelV x u) (ty:ynQ X.K H x t) (e:PySem.W.kitOne X.K t c=some b) (h:∀ tk,Q (.bool b) { s with toks:=tk }) :
  wpAny (model X.prog X.w) A (call (.builtin "isinstance") [u,c]) Q E s:=by
 cases ty with
 | non=>cases (show u=Value.none from rx);exact PySem.W.kia_one PySem.W.kitx_none I.kIn True.intro e (fun z=>nomatch z) h
 | bl y=>cases (show u=Value.bool y from rx);exact PySem.W.kia_one PySem.W.kitx_bool I.kIn True.intro e (fun z=>nomatch z) h
 | int i=>obtain ⟨t,q⟩:=(show ∃ t,u=Value.int i t from rx);cases q;exact PySem.W.kia_one PySem.W.kitx_int I.kIn True.intro e (fun z=>nomatch z) h
 | str y=>obtain ⟨t,q⟩:=(show ∃ t,u=Value.str y t from rx);cases q;exact PySem.W.kia_one PySem.W.kitx_str I.kIn True.intro e (fun z=>nomatch z) h
 | flt y=>obtain ⟨t,q⟩:=(show ∃ t,u=Value.float y t from rx);cases q;exact PySem.W.kia_one PySem.W.kitx_float I.kIn True.intro e (fun z=>nomatch z) h
 | @lst a xs ea =>
  cases (show u=Value.ref a from rx)
  obtain ⟨_,_,n,_,h1⟩:=(show ObjOk X.prog X.w H s.heap a (.lst xs) from I.hok a _ ea)
  exact PySem.W.kia_one PySem.W.kitx_list I.kIn ⟨_,h1,rfl⟩ e (fun z=>nomatch z) h
 | @frz a ob xs ea =>
  cases (show u=Value.ref a from rx)
  obtain ⟨_,_,_,n,_,h1⟩:=(show ObjOk X.prog X.w H s.heap a (.frz ob (.lst xs)) from I.hok a _ ea)
  exact PySem.W.kia_one PySem.W.kitx_list I.kIn ⟨_,h1,rfl⟩ e (fun z=>nomatch z) h
 | @tup a xs ea =>
  cases (show u=Value.ref a from rx)
  obtain ⟨_,_,_,p⟩:=(show ObjOk X.prog X.w H s.heap a (.tup xs) from I.hok a _ ea)
  obtain ⟨o,h1,h2,_⟩:=p
  exact PySem.W.kia_one PySem.W.kitx_tuple I.kIn ⟨o,h1,h2⟩ e (fun z=>nomatch z) h
 | @kt a ob ek ck =>
  cases (show u=Value.ref a from rx)
  exact PySem.W.kia_one PySem.W.kitx_tuple I.kIn ⟨ob,I.kIn a ob ek,ck⟩ e (fun z=>nomatch z) h
 | @dK a kvs ea =>
  cases (show u=Value.ref a from rx)
  obtain ⟨_,_,vs,_,p⟩:=(show ObjOk X.prog X.w H s.heap a (.dK kvs) from I.hok a _ ea)
  obtain ⟨o,es,ep,h1,h2,_⟩:=p
  exact PySem.W.kia_one PySem.W.kitx_dict I.kIn ⟨o,h1,h2.1⟩ e (fun z=>nomatch z) h
 | @dT a kvs ea =>
  cases (show u=Value.ref a from rx)
  obtain ⟨_,_,xs,_,o,es,ep,h1,h2,_⟩:=(show ObjOk X.prog X.w H s.heap a (.dT kvs) from I.hok a _ ea)
  exact PySem.W.kia_one PySem.W.kitx_dict I.kIn ⟨o,h1,h2.1⟩ e (fun z=>nomatch z) h
 | @ins a C dx fs ea cl ha hn htk hm =>
  cases (show u=Value.ref a from rx)
  obtain ⟨mA,O,_⟩:=yqn I.hok ea
  obtain ⟨od,J,_⟩:=O.look
  exact PySem.W.kia_one (PySem.W.kitx_own (cl.get _) cl.hd ha hn htk hm) I.kIn J e (fun z=>nomatch z) h
end
end L2
namespace L2
open PySem PySem.Spec PyProof.Rows
structure Room (k:Nat) (A:Around):Prop where
 hd:A.handled=none
 dp:A.depth+3*k+5<recursionLimit
 un:A.units+16*k+200<cLine
theorem Room.mono {j k:Nat}{A:Around}(r:Room k A) (h:j<=k):Room j A:=⟨r.hd,by have:=r.dp;omega,by have:=r.un;omega⟩
theorem Room.deeper {k:Nat}{A:Around}(r:Room (k+1) A) (env:Env):Room k (A.deeper env) :=
 ⟨r.hd,by have:=r.dp;show A.depth+1+3*k+5<_;omega,by have:=r.un;show A.units+3+16*k+200<_;omega⟩
theorem ywq {A:Around}{C:Addr}{us:List Value}{kw:List (Str×Value)}:(A.under (.builtin "type.__call__" ⟨.ref C::us,kw⟩)).depth=A.depth+1:=by
 first|rfl|simp [Around.under,Code.weight,Code.isCreation,Code.isGuard,Code.isCaller,Code.frames,Code.isFrame,guardIds]
theorem ywr {A:Around}{C:Addr}{us:List Value}{kw:List (Str×Value)}:(A.under (.builtin "type.__call__" ⟨.ref C::us,kw⟩)).units=A.units+1:=by
 first|rfl|simp [Around.under,Code.cUnits,Code.frames,Code.isFrame]
theorem Room.make {k:Nat}{A:Around}(r:Room (k+1) A) (C:Addr) (us:List Value) (kw:List (Str×Value)):Room k (A.under (.builtin "type.__call__" ⟨.ref C::us,kw⟩)) :=
 ⟨r.hd,by have:=r.dp;rw [ywq];omega,by have:=r.un;rw [ywr];omega⟩
theorem Room.depth {k:Nat}{A:Around}(r:Room k A):A.depth<recursionLimit:=by have:=r.dp;omega
theorem Room.units {k:Nat}{A:Around}(r:Room k A):A.units+64<cLine:=by have:=r.un;omega
noncomputable def yDp:TA:=fun _ H Q=>Q [] H
noncomputable def yxF (ta:TE) (tr:TA):TA:=fun σ H Q=>ta σ H fun x H1=>tr σ H1 fun xs H2=>Q (x::xs) H2
section
variable {X:Cx}{e:Expr}{es:List Expr}{te:TE}{t:TA}{pos:Pos}
theorem yrH:PA X [] yDp:=fun _ _ _ _ H Q I h=>Calls.spliced_nil ⟨[],H,I,.nil,h⟩
theorem ylL (ha:PE X e te) (hr:PA X es t) (hs:starEach (e::es) X.env=(false,eval e X.env)::starEach es X.env:=by rfl):PA X (e::es) (yxF te t):=by
 intro pos pins s σ H Q I h
 rw [hs]
 show wpAny _ _ (spliced ((false,eval e X.env)::backTo pos (starEach es X.env))) _ _ s
 refine Calls.spliced_cons (thn (ha pins s σ H _ I h) fun u s1 ⟨x,H1,I1,r1,q1⟩=>?_)
 exact thn (hr pos pins s1 σ H1 _ I1 q1) fun us s2 ⟨xs,H2,I2,r2,q2⟩=>⟨x::xs,H2,I2,.cons r1 r2,q2⟩
noncomputable def yJz (t:TA):TE:=fun σ H Q=>t σ H fun xs H1=>xs.length<=sizeLine/\∀ p,H1 p=none->Q (.ref p) (upd H1 p (.tup xs))
noncomputable def yJA (t:TA):TE:=fun σ H Q=>t σ H fun xs H1=>xs.length<=sizeLine/\∀ p,H1 p=none->Q (.ref p) (upd H1 p (.lst xs))
theorem yGa {x1} (h:PA X es t):PE X (.Tuple es x1 pos) (yJz t):=by
 intro pins s σ H Q I hq
 refine wpAny_Tuple_spliced (thn (h pos pins s σ H _ I hq) fun us s1 ⟨xs,H1,I1,r,z,q⟩=>⟨by rw [<- r.length];exact z,?_⟩)
 have hf:H1 s1.heap.objs.size=none:=I1.hok.fresh (Nat.le_refl _)
 refine ⟨.ref s1.heap.objs.size,upd H1 s1.heap.objs.size (.tup xs),I1.laid (t':=s1.toks) (fun b u e=>Heap.get?_push_of_some _ e) (Nat.le_refl _) ?_,rfl,q _ hf⟩
 exact ⟨z,us,r,⟨_,Heap.get?_push_size _ rfl,rfl,_,rfl⟩⟩
theorem yGb (h:PA X es t):PE X (.List es pos) (yJA t):=by
 intro pins s σ H Q I hq
 refine wpAny_List_spliced (thn (h pos pins s σ H _ I hq) fun us s1 ⟨xs,H1,I1,r,z,q⟩=>⟨by rw [<- r.length];exact z,?_⟩)
 have hf:H1 s1.heap.objs.size=none:=I1.hok.fresh (Nat.le_refl _)
 refine ⟨.ref s1.heap.objs.size,upd H1 s1.heap.objs.size (.lst xs),I1.laid (t':=s1.toks) (fun b u e=>Heap.get?_push_of_some _ e) (Nat.le_refl _) ?_,rfl,q _ hf⟩
 exact ⟨z,us,0,r,Heap.get?_push_size _ rfl⟩
end
noncomputable abbrev Sp:=List V->Hp->VK->XK->Prop
noncomputable abbrev CXT:=List Env->Hp->Shared->XK->Value->Shared->Prop
structure Env0 (P:Program) (w:World) (K:PySem.W.Frag) (mg:Str->Option Value) (base:Heap) (A:Around) (outer:List Env) (s:Shared) (H:Hp):Prop where
 frames:A.frames=some outer
 mod:Mod K mg base
 bs:∀ b o,base.get? b=some o->s.heap.get? b=some o/\H b=none
 bsz:base.objs.size<=s.heap.objs.size
 funs:s.heap.FunFrames base outer
 frf:∀ b∈frs outer,H b=none
 hok:HOk P w H s.heap
 bare:AllBare s.gens
noncomputable def CE (outer:List Env) (P:Program) (w:World) (H:Hp) (s:Shared) (Q:VK) (u:Value) (s':Shared):Prop :=
 ∃ v H',s'.os=s.os/\AllBare s'.gens/\Un (frs outer) [] H H' s.heap s'.heap/\HOk P w H' s'.heap/\RelV v u/\Q v H'
noncomputable def CR (CX:CXT) (outer:List Env) (P:Program) (w:World) (H:Hp) (s:Shared) (Q:VK) (E:XK) (r:Result) (s':Shared):Prop :=
 match r with
 | .ok (.ret u)=>CE outer P w H s Q u s'
 | .ok _=>False
 | .error e=>CX outer H s E e s'
structure FnOk (P:Program) (w:World) (K:PySem.W.Frag) (mg:Str->Option Value) (base:Heap) (CX:CXT) (k:Nat) (f:Addr) (fd:FuncData) (ps:List Str) (sp:Sp):Prop where
 len:∀ vs H Q E,sp vs H Q E->vs.length=ps.length
 run:∀ (A:Around) (outer:List Env) (s:Shared) (H:Hp) (args:Args) (us:List Value) (vs:List V) (Q:VK) (E:XK),Room k A->Env0 P w K mg base A outer s H->BindsTo s fd args (ps.zip us)->Vals vs us->sp vs H Q E ->
  codeAny (model P w) A (.call (.ref f) args) (CR CX outer P w H s Q E) s
theorem FnOk.imp {P:Program}{w:World}{K:PySem.W.Frag}{mg:Str->Option Value}{base:Heap}{CX:CXT}{k:Nat}{f:Addr}{fd:FuncData}{ps:List Str}{sp sp':Sp}(F:FnOk P w K mg base CX k f fd ps sp)
  (h:∀ vs H Q E,sp' vs H Q E->sp vs H Q E):FnOk P w K mg base CX k f fd ps sp' :=
 ⟨fun vs H Q E q=>F.len vs H Q E (h _ _ _ _ q),fun A outer s H args us vs Q E hr he hb hv hs=>F.run A outer s H args us vs Q E hr he hb hv (h _ _ _ _ hs)⟩
theorem Env0.make {P:Program}{w:World}{K:PySem.W.Frag}{mg:Str->Option Value}{base:Heap}{A:Around}{outer:List Env}{s:Shared}{H:Hp}(e:Env0 P w K mg base A outer s H) (C:Addr) (us:List Value) (kw:List (Str×Value)) :
  Env0 P w K mg base (A.under (.builtin "type.__call__" ⟨.ref C::us,kw⟩)) outer s H:=⟨by first|exact e.frames|(simpa [Around.under,Code.envs,Code.isFrame,pushEnvs] using e.frames),e.mod,e.bs,e.bsz,e.funs,e.frf,e.hok,e.bare⟩
section
variable {X:Cx}{pins:List (Addr×Obj)}{σ:St}{H:Hp}{s s':Shared}
theorem Inv.env0 (I:Inv X pins σ H s):Env0 X.prog X.w X.K X.mg X.base X.A X.stack s H :=
 ⟨I.ok.frames,I.ok.mod,I.bs,Nat.le_trans I.ok.bsz I.sz,I.stack,I.stkFree,I.hok,I.bare⟩
theorem Inv.after {Q:VK}{u:Value}(I:Inv X pins σ H s) (h:CE X.stack X.prog X.w H s Q u s'):EP X pins σ Q u s':=by
 obtain ⟨v,H',os,bare,un,hok,r,q⟩:=h
 obtain ⟨hh,g,d,t,os'⟩:=s'
 obtain rfl:os'=s.os:=os
 exact ⟨v,H',I.call (h':=hh) (g':=g) (d':=d) (t':=t) (ch:=[]) un hok bare (fun b z=>absurd z (by simp)),r,q⟩
end
noncomputable def yAh (sp:Sp) (dvs:List V) (E:XK) (t:TA):TE:=fun σ H Q=>t σ H fun vs H1=>sp (vs++dvs) H1 Q E
noncomputable def yDq (C:Addr) (m:Str) (sp:Sp) (dvs:List V) (E:XK) (ta:TE) (t:TA):TE:=fun σ H Q=>ta σ H fun x H1=>∃ a dx fs,x=.ref a/\H1 a=some (.ins C dx fs)/\fs.lookup m=none /\
 t σ H1 fun vs H2=>sp (x::(vs++dvs)) H2 Q E
noncomputable def yDr (C:Addr) (sp:Sp) (dvs:List V) (E:XK) (t:TA):TE:=fun σ H Q=>t σ H fun vs H1=>∀ x dx,H1 x=none->H1 dx=none->dx≠x ->
 sp (.ref x::(vs++dvs)) (upd (upd H1 dx (.own x)) x (.ins C dx [])) (fun v H2=>v=.non/\Q (.ref x) H2) E
noncomputable def Binds (K:PySem.W.Frag) (fd:FuncData) (ps:List Str) (ds:List Value):Prop :=
 ∀ (s:Shared) (us:List Value),K.In s.heap->(us++ds).length=ps.length->BindsTo s fd ⟨us,[]⟩ (ps.zip (us++ds))
theorem Binds.all {K:PySem.W.Frag}{fd:FuncData}{ps:List Str}(h:∀ us:List Value,us.length=ps.length->bindArgs fd ⟨us,[]⟩=pure (ps.zip us)):Binds K fd ps []:=fun s us _ hl=>by
 rw [List.append_nil] at hl ⊢
 exact .of_eq (h us hl)
noncomputable def ykD (CX:CXT) (X:Cx) (E:XK):Prop:=∀ (pins:List (Addr×Obj)) (σ:St) (H:Hp) (s:Shared) (e:Value) (s':Shared),Inv X pins σ H s->CX X.stack H s E e s'->X.xe e s'
section
variable {X:Cx}{CX:CXT}{k:Nat}{f C:Addr}{fd:FuncData}{ps:List Str}{sp:Sp}{dvs:List V}{ds:List Value}{E:XK}{x m:Str}{p pos apos:Pos}{e o:Expr}{es:List Expr}{ta:TE}{t:TA}
theorem yvv {pins:List (Addr×Obj)}{σ:St}{H:Hp}{s:Shared}{Q:VK}{us:List Value}{vs:List V}(F:FnOk X.prog X.w X.K X.mg X.base CX k f fd ps sp) (hr:Room k X.A) (hb:Binds X.K fd ps ds) (hd:Vals dvs ds) (hx:ykD CX X E)
  (I:Inv X pins σ H s) (r:Vals vs us) (h:sp (vs++dvs) H Q E):wpAny (model X.prog X.w) X.A (call (.ref f) us) (EP X pins σ Q) X.xe s:=by
 have r2:Vals (vs++dvs) (us++ds):=r.append hd
 have hl:(us++ds).length=ps.length:=by rw [<- r2.length];exact F.len _ _ _ _ h
 refine wpAny_call (codeAny_mono (F.run X.A X.stack s H ⟨us,[]⟩ (us++ds) (vs++dvs) Q E hr I.env0 (hb s us I.kIn hl) r2 h) fun r s' hq=>?_)
 cases r with
 | error e=>exact hx pins σ H s e s' I hq
 | ok fl =>
  cases fl with
  | ret u=>exact I.after hq
  | next=>exact False.elim hq
  | brk=>exact False.elim hq
  | cont=>exact False.elim hq
theorem yDs (F:FnOk X.prog X.w X.K X.mg X.base CX k f fd ps sp) (hr:Room k X.A) (hg:Gl X x) (hm:X.mg x=some (.ref f)) (hk:PySem.W.keepIn X.K (.ref f)=true) (hb:Binds X.K fd ps ds) (hd:Vals dvs ds) (hx:ykD CX X E)
  (ha:PA X (e::es) t) (hdb:(x == ("__debug__":Str))=false:=by decide) (he:starEach (e::es) X.env=(false,eval e X.env)::starEach es X.env:=by rfl) (hpl:(backTo pos (starEach es X.env)).any (·.1)=false:=by rfl) :
  PE X (.Call (.Name x p) (e::es) [] pos) (yAh sp dvs E t):=by
 intro pins s σ H Q I h
 refine wpAny_Call_Name_kw (ynL I hg hm ?_ hdb)
 refine PySem.W.callWith_K (h₀:=X.base) I.ok.mod.kin hk (thn (ha pos pins s σ H _ I h) fun us s1 ⟨vs,H1,I1,r,q⟩=>⟨I1.kIn,?_⟩) he hpl
 exact yvv F hr hb hd hx I1 r q
theorem yDt {pl:Sem Bool}(he:PE X o ta) (c:Cls X.K C) (hm:ykC X.K C m f) (F:FnOk X.prog X.w X.K X.mg X.base CX k f fd ps sp) (hr:Room k X.A) (hb:Binds X.K fd ps ds) (hd:Vals dvs ds) (hx:ykD CX X E) (ha:PA X (e::es) t)
  (hst:starEach (e::es) X.env=(false,eval e X.env)::starEach es X.env:=by rfl) (hpl:(backTo pos (starEach es X.env)).any (·.1)=false:=by rfl)
  (ht:eval (.Call (.Attribute o m apos) (e::es) [] pos) X.env=(do
   let ov <- eval o X.env
   standAt apos.atName
   let (f,first) <- holding [ov] (getMethod ov m pl)
   callWith pos f first (backTo pos (starEach (e::es) X.env)) (backToKw pos (keywordEach [] X.env))):=by rfl) :
  PE X (.Call (.Attribute o m apos) (e::es) [] pos) (yDq C m sp dvs E ta t):=by
 intro pins s σ H Q I h
 refine PySem.W.methodCall_KW (pl:=pl) (thn (he pins s σ H _ I h) fun u s1 ⟨x,H1,I1,rx,a,dx,fs,ex,ea,l,q⟩=>?_) ht
 subst ex
 obtain rfl:u=Value.ref a:=rx
 refine ypL I1 ea c hm l ?_
 refine PySem.W.callWith_K (first:=[.ref a]) (h₀:=X.base) I.ok.mod.kin hm.kp (thn (ha pos pins s1 σ H1 _ I1 q) fun us s2 ⟨vs,H2,I2,r,q2⟩=>⟨I2.kIn,?_⟩) hst hpl
 exact yvv (us:=.ref a::us) (vs:=.ref a::vs) F hr hb hd hx I2 (.cons rfl r) q2
theorem yAi {pl:Sem Bool}(he:PE X o ta) (c:Cls X.K C) (hm:ykC X.K C m f) (F:FnOk X.prog X.w X.K X.mg X.base CX k f fd ps sp) (hr:Room k X.A) (hb:Binds X.K fd ps ds) (hd:Vals dvs ds) (hx:ykD CX X E)
  (ht:eval (.Call (.Attribute o m apos) [] [] pos) X.env=(do
   let ov <- eval o X.env
   standAt apos.atName
   let (f,first) <- holding [ov] (getMethod ov m pl)
   callWith pos f first (backTo pos (starEach [] X.env)) (backToKw pos (keywordEach [] X.env))):=by rfl) :
  PE X (.Call (.Attribute o m apos) [] [] pos) (yDq C m sp dvs E ta yDp):=by
 intro pins s σ H Q I h
 refine PySem.W.methodCall_KW (pl:=pl) (thn (he pins s σ H _ I h) fun u s1 ⟨x,H1,I1,rx,a,dx,fs,ex,ea,l,q⟩=>?_) ht
 subst ex
 obtain rfl:u=Value.ref a:=rx
 refine ypL I1 ea c hm l ?_
 exact PySem.W.callWith_K0 (first:=[.ref a]) I1.kIn hm.kp (yvv (us:=[.ref a]) (vs:=[.ref a]) F hr hb hd hx I1 (.cons rfl .nil) q)
structure Mk (K:PySem.W.Frag) (C f:Addr):Prop where
 makes:PySem.W.makesIn K C=true
 init:PySem.W.findIn K (.ref C) "__init__" = some (some (.ref f))
 fn:PySem.W.isFn K (.ref f)=true
 kp:PySem.W.keepIn K (.ref C)=true
theorem yvw {pins:List (Addr×Obj)}{σ:St}{H:Hp}{s:Shared}{Q:VK}{us:List Value}{vs:List V}(M:Mk X.K C f) (F:FnOk X.prog X.w X.K X.mg X.base CX k f fd ps sp) (hr:Room (k+1) X.A) (hb:Binds X.K fd ps ds) (hd:Vals dvs ds)
  (hx:ykD CX X E) (I:Inv X pins σ H s) (r:Vals vs us)
  (h:∀ x dx,H x=none->H dx=none->dx≠x->sp (.ref x::(vs++dvs)) (upd (upd H dx (.own x)) x (.ins C dx [])) (fun v H2=>v=.non/\Q (.ref x) H2) E) :
  wpAny (model X.prog X.w) X.A (call (.ref C) us) (EP X pins σ Q) X.xe s:=by
 have hq:=h (s.heap.objs.size+1) s.heap.objs.size (I.hok.fresh (Nat.le_succ _)) (I.hok.fresh (Nat.le_refl _)) (Nat.ne_of_lt (Nat.lt_succ_self _))
 have I2:=Inv.made (C:=C) I
 have r2:Vals (V.ref (s.heap.objs.size+1)::(vs++dvs)) (Value.ref (s.heap.objs.size+1)::(us++ds)):=.cons rfl (r.append hd)
 have hl:(Value.ref (s.heap.objs.size+1)::us++ds).length=ps.length:=by
  have e:=r2.length
  rw [F.len _ _ _ _ hq] at e
  exact e.symm
 refine wpAny_call (yAg (f:=f) I.kIn M.makes M.init (beq_iff_eq.mp M.fn) (codeAny_mono (F.run _ X.stack _ _ ⟨Value.ref (s.heap.objs.size+1)::us,[]⟩ (Value.ref (s.heap.objs.size+1)::(us++ds)) _ _ E (hr.make C us [])
  (I2.env0.make C us []) (hb _ (Value.ref (s.heap.objs.size+1)::us) I2.kIn hl) r2 hq) fun r s' hq'=>?_))
 cases r with
 | error e=>exact hx pins σ _ _ e s' I2 hq'
 | ok fl =>
  cases fl with
  | ret u =>
   obtain ⟨v,H',I3,rv,ev,q3⟩:=I2.after hq'
   subst ev
   exact ⟨rv,⟨V.ref (s.heap.objs.size+1),H',I3,rfl,q3⟩⟩
  | next=>exact False.elim hq'
  | brk=>exact False.elim hq'
  | cont=>exact False.elim hq'
theorem yDu (M:Mk X.K C f) (F:FnOk X.prog X.w X.K X.mg X.base CX k f fd ps sp) (hr:Room (k+1) X.A) (hg:Gl X x) (hm:X.mg x=some (.ref C)) (hb:Binds X.K fd ps ds) (hd:Vals dvs ds) (hx:ykD CX X E)
  (ha:PA X (e::es) t) (hdb:(x == ("__debug__":Str))=false:=by decide) (he:starEach (e::es) X.env=(false,eval e X.env)::starEach es X.env:=by rfl) (hpl:(backTo pos (starEach es X.env)).any (·.1)=false:=by rfl) :
  PE X (.Call (.Name x p) (e::es) [] pos) (yDr C sp dvs E t):=by
 intro pins s σ H Q I h
 refine wpAny_Call_Name_kw (ynL I hg hm ?_ hdb)
 refine PySem.W.callWith_K (h₀:=X.base) I.ok.mod.kin M.kp (thn (ha pos pins s σ H _ I h) fun us s1 ⟨vs,H1,I1,r,q⟩=>⟨I1.kIn,?_⟩) he hpl
 exact yvw M F hr hb hd hx I1 r q
theorem yAj (M:Mk X.K C f) (F:FnOk X.prog X.w X.K X.mg X.base CX k f fd ps sp) (hr:Room (k+1) X.A) (hg:Gl X x) (hm:X.mg x=some (.ref C)) (hb:Binds X.K fd ps ds) (hd:Vals dvs ds) (hx:ykD CX X E)
  (hdb:(x == ("__debug__":Str))=false:=by decide):PE X (.Call (.Name x p) [] [] pos) (yDr C sp dvs E yDp):=by
 intro pins s σ H Q I h
 refine wpAny_Call_Name_kw (ynL I hg hm ?_ hdb)
 exact PySem.W.callWith_K0 I.kIn M.kp (yvw (us:=[]) M F hr hb hd hx I .nil h)
end
section
variable {X:Cx}{CX:CXT}{k:Nat}{f C:Addr}{fd:FuncData}{ps ks:List Str}{sp:Sp}{E:XK}{x m:Str}{p pos apos kpos:Pos}{e o:Expr}{es:List Expr}{kws:List Keyword}{te ta:TE}{t tk:TA}{nm:Option Str}
variable {g:List Value->List Value->List Value}{gV:List V->List V->List V}
end
structure yq (N P:List Str) (sc:Scope):Prop where
 kind:sc.kind=.function
 co:sc.isCoroutine=false
 gen:sc.isGenerator=false
 nd:N.Nodup
 pre:N.take P.length=P
 par:∀ x∈P,sc.names.lookup x=some .local \/ sc.names.lookup x=some .cell
 nofree:∀ y∈sc.names,y.2≠.free
theorem yrI {kindOf:Str->Option NameKind}{x:Str}:∀ {binds:List (Str×Value)}{m:Str->Option Value},(∀ v,(x,v)∉binds)->bindL kindOf binds m x=m x
 | [],_,_=>rfl
 | (n,v)::r,m,h=>by
  unfold bindL
  rw [yrI fun w hw=>h w (List.mem_cons_of_mem _ hw)]
  split
  .have:x≠n:=by rintro rfl;exact h v List.mem_cons_self
   simp [this]
  .rfl
theorem yrJ {kindOf:Str->Option NameKind}{x:Str}:∀ {binds:List (Str×Value)}{m:Str->Option Value},(∀ v,(x,v)∉binds)->bindC kindOf binds m x=m x
 | [],_,_=>rfl
 | (n,v)::r,m,h=>by
  unfold bindC
  rw [yrJ fun w hw=>h w (List.mem_cons_of_mem _ hw)]
  split
  .rfl
  .have:x≠n:=by rintro rfl;exact h v List.mem_cons_self
   simp [this]
theorem yrK {kindOf:Str->Option NameKind}{x:Str}{v:Value}:∀ {P:List Str}{vs:List Value}{i:Nat}{m:Str->Option Value},P.Nodup->P[i]?=some x->vs[i]?=some v->kindOf x=some .local ->
  bindL kindOf (P.zip vs) m x=some v
 | [],_,_,_,_,h,_,_=>by simp at h
 | _::_,[],_,_,_,_,h,_=>by simp at h
 | p::P,w::vs,0,m,nd,h1,h2,hk=>by
  simp at h1 h2;subst h1;subst h2
  show bindL kindOf ((p,w)::P.zip vs) m p=_
  unfold bindL
  rw [yrI fun v hv=>(List.nodup_cons.mp nd).1 (List.of_mem_zip hv).1,if_pos hk]
  simp
 | p::P,w::vs,i+1,m,nd,h1,h2,hk=>by
  show bindL kindOf ((p,w)::P.zip vs) m x=_
  unfold bindL
  exact yrK (i:=i) (List.nodup_cons.mp nd).2 (by simpa using h1) (by simpa using h2) hk
theorem yrL {kindOf:Str->Option NameKind}{x:Str}{v:Value}:∀ {P:List Str}{vs:List Value}{i:Nat}{m:Str->Option Value},P.Nodup->P[i]?=some x->vs[i]?=some v->kindOf x≠some .local ->
  bindC kindOf (P.zip vs) m x=some v
 | [],_,_,_,_,h,_,_=>by simp at h
 | _::_,[],_,_,_,_,h,_=>by simp at h
 | p::P,w::vs,0,m,nd,h1,h2,hk=>by
  simp at h1 h2;subst h1;subst h2
  show bindC kindOf ((p,w)::P.zip vs) m p=_
  unfold bindC
  rw [yrJ fun v hv=>(List.nodup_cons.mp nd).1 (List.of_mem_zip hv).1,if_neg hk]
  simp
 | p::P,w::vs,i+1,m,nd,h1,h2,hk=>by
  show bindC kindOf ((p,w)::P.zip vs) m x=_
  unfold bindC
  exact yrL (i:=i) (List.nodup_cons.mp nd).2 (by simpa using h1) (by simpa using h2) hk
noncomputable def start (N:List Str) (vs:List V):St:=vs.map some++List.replicate (N.length-vs.length) none
noncomputable def yAk (CX:CXT) (P:Program) (w:World) (K:PySem.W.Frag) (mg:Str->Option Value) (base:Heap) (N:List Str) (qual:Str) (scope:Scope) (f:Addr) (cd:Value) (A:Around) (outer:List Env) (s:Shared) (H:Hp) (E:XK):Cx where
 prog:=P
 w:=w
 K:=K
 mg:=mg
 base:=base
 A:=A.deeper (envOfC qual scope s.heap.objs.size f cd)
 N:=N
 s₀:=s
 H₀:=H
 env:=envOfC qual scope s.heap.objs.size f cd
 outer:=outer
 stack:=envOfC qual scope s.heap.objs.size f cd::outer
 ex:=[]
 calm:=true
 fn:=fun _=>true
 pn:=[]
 xe:=fun e s'=>wpAny (model P w) (A.deeper (envOfC qual scope s.heap.objs.size f cd)) (leaving (envOfC qual scope s.heap.objs.size f cd) e) (fun _ s''=>CX outer H s E e s'') (fun e' s''=>CX outer H s E e' s'') s'
theorem yvx {sc:Scope}{n:Nat}{x:Str}(h:sc.names.lookup x=some .cell):∃ c,(cellsFrom n sc.names []).lookup x=some c:=by
 have q:=PySem.W.cellsFrom_some sc.names n [] (.inl h)
 exact Option.isSome_iff_exists.mp q
theorem yxG {CX:CXT}{P:Program}{w:World}{K:PySem.W.Frag}{mg:Str->Option Value}{base:Heap}{N ps:List Str}{qual:Str}{scope:Scope}{f:Addr}{cd:Value}{A:Around}{outer:List Env}{s s1:Shared}{H:Hp}{E:XK}{us:List Value}{vs:List V}
  (S:yq N ps scope) (hd:A.handled=none) (e0:Env0 P w K mg base A outer s H) (hl:vs.length=ps.length) (r:Vals vs us)
  (x:InCallC s s.heap.objs.size (bindL (envOfC qual scope s.heap.objs.size f cd).kindOf (ps.zip us) fun _=>none) (cellsFrom (s.heap.objs.size+1) scope.names []) (bindC (envOfC qual scope s.heap.objs.size f cd).kindOf (ps.zip us) fun _=>none) s1) :
  Inv (yAk CX P w K mg base N qual scope f cd A outer s H E) [] (start N vs) H s1:=by
 have hpl:ps.length<=N.length:=by have:=congrArg List.length S.pre;rw [List.length_take] at this;omega
 obtain ⟨h1,tk,rfl,hk⟩:=x.done
 have noA:∀ b:Addr,b∉(yAk CX P w K mg base N qual scope f cd A outer s H E).ex:=fun b z=>absurd (show b∈([]:List Addr) from z) (by simp)
 refine ⟨⟨e0.mod,S.kind,rfl,rfl,Nat.le_refl _,fun y z c h1 h2=>?_,fun y hy=>?_,fun y c _ h=>?_,fun _=>hd,Around.frames_deeper e0.frames,.inr ⟨rfl,rfl⟩,fun b z=>absurd z (noA b),e0.bs,e0.bsz,fun b _ _=>noA b,fun b z=>absurd z (noA b),e0.funs,e0.frf⟩,
  rfl,e0.bare,Un.kept hk,⟨_,x.toInCall.ns,fun i y v h1 h2 h3=>?_⟩,fun y c h=>⟨_,x.cell y c h⟩,e0.hok.fresh (Nat.le_refl _),fun y c h=>?_,fun p hp=>absurd (show p∈([]:List (Addr×Obj)) from hp) (by simp),e0.hok.kept hk,?_⟩
 .exact name_of_addr x.apart (PySem.mem_of_lookup h1) (PySem.mem_of_lookup h2)
 .have hy:scope.names.lookup y=some .cell\/scope.names.lookup y=some .free:=hy
  rcases hy with hy|hy
  .exact yvx hy
  .exact absurd rfl (S.nofree _ (PySem.mem_of_lookup hy))
 .exact Nat.le_of_lt (x.above y c (PySem.mem_of_lookup h))
 .have hi:i<vs.length:=by
   unfold start at h2
   by_cases hi:i<vs.length
   .exact hi
   .rw [List.getElem?_append_right (by simpa using hi)] at h2
    rw [List.getElem?_replicate] at h2
    split at h2<;>cases h2
  have ha:vs[i]?=some v:=by
   unfold start at h2
   rw [List.getElem?_append_left (by simpa using hi),List.getElem?_map] at h2
   cases e:vs[i]? with
   | none=>rw [e] at h2;cases h2
   | some a=>rw [e] at h2;cases h2;rfl
  obtain ⟨u,hu,rv⟩:=r.get ha
  have hp:ps[i]?=some y:=by
   rw [<- S.pre,List.getElem?_take_of_lt (by omega)];exact h1
  have ndP:ps.Nodup:=by rw [<- S.pre];exact S.nd.sublist (List.take_sublist _ _)
  refine ⟨u,rv,?_⟩
  rcases S.par y (List.mem_of_getElem? hp) with k|k
  .exact .inl ⟨k,yrK ndP hp hu k⟩
  .obtain ⟨c,e⟩:=yvx (n:=s.heap.objs.size+1) k
   refine .inr ⟨.inl k,c,e,?_⟩
   have q:=x.cell y c e
   rw [yrL ndP hp hu (by show scope.names.lookup y≠_;rw [k];decide)] at q
   exact q
 .exact e0.hok.fresh (Nat.le_of_lt (x.above y c (PySem.mem_of_lookup h)))
 .unfold start
  show _=N.length
  rw [List.length_append,List.length_map,List.length_replicate]
  omega
theorem yIw {CX:CXT}{P:Program}{w:World}{K:PySem.W.Frag}{mg:Str->Option Value}{base:Heap}{k:Nat}{f:Addr}{name qual:Str}{params:Arguments}{body:List Stmt}{scope:Scope}{dV kV doc pm cdv ct oc:Value}{an od:Option Addr}
  {osl:Array (Option Value)}{N ps:List Str}{sp:Sp}(lk:K.lookup f=some ⟨oc,od,.func (PySem.W.fnOf name qual params body scope dV kV doc pm an cdv ct),osl⟩) (hcd:PySem.W.codeIn K cdv qual=true) (S:yq N ps scope)
  (len:∀ vs H Q E,sp vs H Q E->vs.length=ps.length)
  (hbody:∀ (A:Around) (outer:List Env) (s:Shared) (H:Hp) (vs:List V) (Q:VK) (E:XK),Room k (A.deeper (envOfC qual scope s.heap.objs.size f cdv))->sp vs H Q E ->
   ∃ t,PSs (yAk CX P w K mg base N qual scope f cdv A outer s H E) body t/\t { nx:=fun _ H'=>Q .non H',rt:=Q } (start N vs) H) :
  FnOk P w K mg base CX (k+1) f (PySem.W.fnOf name qual params body scope dV kV doc pm an cdv ct) ps sp:=by
 refine ⟨len,fun A outer s H args us vs Q E hr e0 hb r hsp=>?_⟩
 have hl:=len _ _ _ _ hsp
 have KX:K.In s.heap:=e0.mod.kin.keeps fun b o e=>(e0.bs b o e).1
 have lim:s.heap.NoLimit:=e0.mod.nolimit.keeps fun b o e=>(e0.bs b o e).1
 have hkind:∀ y∈ps.zip us,scope.names.lookup y.1=some .local \/ (scope.names.lookup y.1=some .cell/\((cellsFrom (s.heap.objs.size+1) scope.names []).lookup y.1).isSome=true):=fun ⟨n,v⟩ hy=>by
  rcases S.par n (List.of_mem_zip hy).1 with q|q
  .exact .inl q
  .exact .inr ⟨q,PySem.W.cellsFrom_some _ _ _ (.inl q)⟩
 refine codeAny_call_function hr.depth (KX _ _ lk) rfl S.co S.gen rfl (PySem.W.codeRec_of KX hcd) (hb _ _ _ _ ?_)
 refine wpAny_newFunctionEnv_cells S.kind hkind fun env he s1 x=>?_
 subst he
 refine ⟨lim.keeps x.toInCall.keep,codeAny_func ?_⟩
 obtain ⟨t,ht,hq⟩:=hbody A outer s H vs Q E (hr.deeper _) hsp
 have I:Inv (yAk CX P w K mg base N qual scope f cdv A outer s H E) [] (start N vs) H s1:=yxG S hr.hd e0 hl r x
 refine wpAny_mono (ht [] s1 (start N vs) H _ I hq) (fun fl s' hs=>?_) fun e s' hs=>hs
 have fin:∀ {σ':St}{H':Hp}{v:V}{u:Value},Inv (yAk CX P w K mg base N qual scope f cdv A outer s H E) [] σ' H' s'->RelV v u->Q v H'->CE outer P w H s Q u s' :=
  fun {σ' H' v u} J rv q=>⟨v,H',J.os,J.bare,J.base,J.hok,rv,q⟩
 cases fl with
 | ret u =>
  obtain ⟨v,σ',H',J,rv,q⟩:=hs
  exact fin J rv q
 | next =>
  obtain ⟨σ',H',J,q⟩:=hs
  exact fin (v:=V.non) (u:=Value.none) J rfl q
 | brk =>
  obtain ⟨_,_,_,q⟩:=hs
  exact False.elim q
 | cont =>
  obtain ⟨_,_,_,q⟩:=hs
  exact False.elim q
end L2
namespace L2
open PySem PySem.Spec PyProof.Rows
section
variable {X:Cx}{x:Str}{p pos:Pos}{e:Expr}{es:List Expr}{t:TA}{id T:String}{r:List V->Hp->VK->Prop}
noncomputable def tCB (r:List V->Hp->VK->Prop) (t:TA):TE:=fun σ H Q=>t σ H fun vs H1=>r vs H1 Q
theorem yqo (hc:ykf X (.builtin id) r) (hg:Gl X x) (hm:X.mg x=none) (hv:bootBuiltins x=some (.builtin id)) (ha:PA X (e::es) t) (hn:x≠"__name__":=by decide) (hdb:(x == ("__debug__":Str))=false:=by decide)
  (he:starEach (e::es) X.env=(false,eval e X.env)::starEach es X.env:=by rfl) (hpl:(backTo pos (starEach es X.env)).any (·.1)=false:=by rfl):PE X (.Call (.Name x p) (e::es) [] pos) (tCB r t):=by
 intro pins s σ H Q I h
 refine wpAny_Call_Name_kw (ypH I hg hm hv ?_ hn hdb)
 exact PyProof.Rows.callWith_builtin1 (thn (ha pos pins s σ H _ I h) fun us s1 ⟨vs,H1,I1,r1,q1⟩=>hc pins s1 σ H1 vs us Q I1 r1 q1) he hpl
theorem yrM (hc:ykf X (.type T) r) (hg:Gl X x) (hm:X.mg x=none) (hv:bootBuiltins x=some (.type T)) (ha:PA X (e::es) t) (hn:x≠"__name__":=by decide) (hdb:(x == ("__debug__":Str))=false:=by decide)
  (he:starEach (e::es) X.env=(false,eval e X.env)::starEach es X.env:=by rfl) (hpl:(backTo pos (starEach es X.env)).any (·.1)=false:=by rfl):PE X (.Call (.Name x p) (e::es) [] pos) (tCB r t):=by
 intro pins s σ H Q I h
 refine wpAny_Call_Name_kw (ypH I hg hm hv ?_ hn hdb)
 exact PyProof.Rows.callWith_type1 (thn (ha pos pins s σ H _ I h) fun us s1 ⟨vs,H1,I1,r1,q1⟩=>hc pins s1 σ H1 vs us Q I1 r1 q1) he hpl
end
end L2
namespace HT
open PySem PyProof.Rows
section
open PySem.SeqAt
open PySem.AutoSeq1 (wpAny_loadPart')
open PySem.MeetsSeq PySem.MeetsSeq2 PySem.MeetsSeq3
end
section
variable {prog:Program}{w:World}{A:Around}{E:Value->Shared->Prop}{s:Shared}
noncomputable def sIx (n d:Nat):Option Int->Nat
 | none=>d
 | some v=>if v<0 then (v+(n:Int)).toNat else min v.toNat n
theorem sIx_nat (n d k:Nat):sIx n d (some (k:Int))=min k n:=by
 show (if (k:Int)<0 then ((k:Int)+(n:Int)).toNat else min (k:Int).toNat n)=min k n
 rw [if_neg (by omega),Int.toNat_natCast]
end
end HT
namespace L2
open PySem PySem.Spec PyProof.Rows
noncomputable abbrev TO:=St->Hp->(Option Int->Hp->Prop)->Prop
noncomputable def PO (X:Cx) (e:Option Expr) (t:TO):Prop :=
 ∀ (pins:List (Addr×Obj)) (s:Shared) (σ:St) (H:Hp) (Q:Option Int->Hp->Prop),Inv X pins σ H s->t σ H Q ->
  wpAny (model X.prog X.w) X.A (evalPart e X.env) (fun u s'=>∃ o H',Inv X pins σ H' s'/\IsPart u o/\Q o H') X.xe s
noncomputable def yxH:TO:=fun _ H Q=>Q none H
noncomputable def yGc (t:TE):TO:=fun σ H Q=>t σ H fun x H1=>∃ i,x=.int i/\Q (some i) H1
theorem intsAre_of {ns:List Int}:∀ {us:List Value},Vals (ns.map V.int) us->IntsAre us ns:=by
 induction ns with
 | nil=>intro us r;rw [List.map_nil] at r;cases r;exact .nil
 | cons n ns ih =>
  intro us r
  rw [List.map_cons] at r
  cases r with
  | cons r1 r2 =>
   obtain ⟨t,e⟩:=r1
   subst e
   exact .cons n t (ih r2)
section
variable {X:Cx}{e:Expr}{te:TE}{lo hi:Option Expr}{tl th:TO}{pos p2:Pos}
theorem yDv:PO X none yxH:=by
 intro pins s σ H Q I h
 rw [evalPart_none]
 exact wpAny_pure ⟨none,H,I,.none,h⟩
theorem yDw (h:PE X e te):PO X (some e) (yGc te):=by
 intro pins s σ H Q I hw
 rw [evalPart_some]
 refine thn (h pins s σ H _ I hw) fun u s1 ⟨x,H1,I1,r1,q1⟩=>?_
 obtain ⟨i,rfl,q⟩:=q1
 obtain ⟨t,rfl⟩:=r1
 exact ⟨some i,H1,I1,.int i t,q⟩
noncomputable def SlR (X:Cx) (r:V->Option Int->Option Int->Hp->VK->Prop):Prop :=
 ∀ (pins:List (Addr×Obj)) (s:Shared) (σ:St) (H:Hp) (x:V) (v vl vu:Value) (lo hi:Option Int) (sl:Addr) (Q:VK),Inv X pins σ H s->RelV x v->s.heap.IsSliceOf sl vl vu .none->IsPart vl lo->IsPart vu hi->r x lo hi H Q ->
  ∃ T id,typeLookup (.type T) "__getitem__" = pure (some (.builtin id))/\s.TypeIs v T/\wpAny (model X.prog X.w) X.A (getItem v (.ref sl)) (EP X pins σ Q) X.xe s
noncomputable def tSl (r:V->Option Int->Option Int->Hp->VK->Prop) (te:TE) (tl th:TO):TE:=fun σ H Q=>te σ H fun x H1=>tl σ H1 fun l H2=>th σ H2 fun u H3=>r x l u H3 Q
theorem yvy {r:V->Option Int->Option Int->Hp->VK->Prop}(hr:SlR X r) (he:PE X e te) (hl:PO X lo tl) (hu:PO X hi th):PE X (.Subscript e (.Slice lo hi none p2) pos) (tSl r te tl th):=by
 intro pins s σ H Q I h
 refine Subscript_ (thn (he pins s σ H _ I h) fun v s1 ⟨x,H1,I1,r1,q1⟩=>?_)
 refine wpAny_Slice (thn (hl pins s1 σ H1 _ I1 q1) fun vl s2 ⟨l,H2,I2,pl,q2⟩=>thn (hu pins s2 σ H2 _ I2 q2) fun vu s3 ⟨u,H3,I3,pu,q3⟩=>?_)
 rw [evalPart_none]
 refine wpAny_pure ?_
 have I4:Inv X pins σ H3 { s3 with heap:=s3.heap.push { cls:=.type "slice",data:=.fields #[vl,vu,.none] } }:=I3.kept (t':=s3.toks) fun b ob q=>Heap.get?_push_of_some _ q
 obtain ⟨T,id,hT,ht,hg⟩:=hr pins { s3 with heap:=s3.heap.push { cls:=.type "slice",data:=.fields #[vl,vu,.none] } } σ H3 x v vl vu l u s3.heap.objs.size Q I4 r1 (Heap.IsSliceOf.new ..) pl pu q3
 show wpAny (model X.prog X.w) X.A (subscriptTail e (.Slice lo hi none p2) v (.ref s3.heap.objs.size)) (EP X pins σ Q) X.xe { s3 with heap:=s3.heap.push { cls:=.type "slice",data:=.fields #[vl,vu,.none] } }
 exact tail_any (ops:=[.ref s3.heap.objs.size,v]) ht hT hg (by with_unfolding_all rfl)
noncomputable def yGd (xs:List V) (lo hi:Option Int):List V:=(xs.drop (HT.sIx xs.length 0 lo)).take (HT.sIx xs.length xs.length hi-HT.sIx xs.length 0 lo)
theorem yue (xs:List V) (lo hi:Option Int):(yGd xs lo hi).length<=xs.length:=by
 unfold yGd
 rw [List.length_take,List.length_drop]
 omega
end
end L2
namespace L2
open PySem PySem.Spec PyProof.Rows
noncomputable def ixN (n:Nat) (i:Int):Option Nat:=if 0<=i then (if i<n then some i.toNat else none) else if -(n:Int)<=i then some (i+n).toNat else none
noncomputable def atI {α:Type}(xs:List α) (i:Int):Option α:=(ixN xs.length i).bind fun j=>xs[j]?
theorem yxI {n:Nat}{i:Int}{j:Nat}(h:ixN n i=some j):seqIndex? i n=some j/\j<n/\-(n:Int)<=i/\i<n:=by
 unfold ixN at h
 by_cases h0:0<=i
 .rw [if_pos h0] at h
  by_cases h1:i<n
  .rw [if_pos h1] at h
   have e:i.toNat=j:=Option.some.inj h
   exact ⟨by rw [seqIndex_of h0 h1,e],by omega,by omega,h1⟩
  .rw [if_neg h1] at h;cases h
 .rw [if_neg h0] at h
  by_cases h1:-(n:Int)<=i
  .rw [if_pos h1] at h
   have e:(i+n).toNat=j:=Option.some.inj h
   exact ⟨by rw [seqIndex_neg (by omega) h1,e],by omega,h1,by omega⟩
  .rw [if_neg h1] at h;cases h
theorem yuf {α:Type}{xs:List α}{i:Int}{v:α}(h:atI xs i=some v):∃ j,seqIndex? i xs.length=some j/\xs[j]?=some v/\j<xs.length/\-(xs.length:Int)<=i/\i<xs.length:=by
 unfold atI at h
 cases e:ixN xs.length i with
 | none=>rw [e] at h;cases h
 | some j =>
  rw [e] at h
  obtain ⟨h1,h2,h3,h4⟩:=yxI e
  exact ⟨j,h1,h,h2,h3,h4⟩
theorem yeJ {α:Type}{xs:List α}{j:Nat}{v:α}(h:xs[j]?=some v):atI xs (j:Int)=some v:=by
 have hj:j<xs.length:=(List.getElem?_eq_some_iff.mp h).1
 have e:ixN xs.length (j:Int)=some j:=by
  unfold ixN
  rw [if_pos (by omega),if_pos (by omega)];simp
 unfold atI;rw [e];exact h
noncomputable def yxJ (b:Expr):Prop:=∀ o i,subscripted b false o i=operate [o,i] (getItem o i)
noncomputable def IxR (X:Cx) (r:R2):Prop :=
 ∀ (value slice:Expr) (pins:List (Addr×Obj)) (s:Shared) (σ:St) (H:Hp) (x y:V) (v u:Value) (Q:VK),Inv X pins σ H s->RelV x v->RelV y u->r x y H Q ->
  subscripted slice false v u=operate [v,u] (getItem v u)->wpAny (model X.prog X.w) X.A (subscriptTail value slice v u) (EP X pins σ Q) X.xe s
noncomputable def MtR (X:Cx) (id:String) (r:V->List V->Hp->VK->Prop):Prop :=
 ∀ (pins:List (Addr×Obj)) (s:Shared) (σ:St) (H:Hp) (x:V) (xs:List V) (v:Value) (us:List Value) (Q:VK),Inv X pins σ H s->RelV x v->Vals xs us->r x xs H Q ->
  wpAny (model X.prog X.w) X.A (call (.builtin id) (v::us)) (EP X pins σ Q) X.xe s
section
variable {X:Cx}{a b:Expr}{ta tb:TE}{pos:Pos}
theorem IxR.or {r r':R2}(h:IxR X r) (h':IxR X r'):IxR X (fun x y H Q=>r x y H Q\/r' x y H Q):=by
 intro value slice pins s σ H x y v u Q I rx ry q hs
 rcases q with q|q
 .exact h value slice pins s σ H x y v u Q I rx ry q hs
 .exact h' value slice pins s σ H x y v u Q I rx ry q hs
theorem yIx {r:R2}(hr:IxR X r) (ha:PE X a ta) (hb:PE X b tb) (hs:yxJ b):PE X (.Subscript a b pos) (tOp r ta tb):=by
 intro pins s σ H Q I h
 exact Subscript_ (yIs ha hb I h fun v u s2 x y H2 I2 rx ry q=>hr a b pins s2 σ H2 x y v u Q I2 rx ry q (hs _ _))
noncomputable def yIy (K:PySem.W.Frag):R2:=fun x y H Q=>∃ p xs i v,x=.ref p/\y=.int i/\SqL K H p xs/\atI xs i=some v/\Q v H
noncomputable def yIz (K:PySem.W.Frag):R2:=fun x y H Q=>∃ p xs i v,x=.ref p/\y=.int i/\SqT K H p xs/\atI xs i=some v/\Q v H
noncomputable def yIA:R2:=fun x y H Q=>∃ z i c,x=.str z/\y=.int i/\z.length<=sizeLine/\atI z.cps.toList i=some c/\Q (.str ⟨#[c]⟩) H
theorem ix_list:IxR X (yIy X.K):=by
 intro value slice pins s σ H x y v u Q I rx ry h hs
 obtain ⟨p,xs,i,z,rfl,rfl,hq,he,q⟩:=h
 cases rx
 obtain ⟨t,rfl⟩:=ry
 obtain ⟨its,r,pl,hz⟩:=I.list hq
 obtain ⟨j,h1,h2,h3,h4,h5⟩:=yuf he
 obtain ⟨w,ew,rw'⟩:=r.get h2
 have hl:=r.length
 have hn:=ypJ
 have fin:EP X pins σ Q w s:=⟨z,H,I,rw',q⟩
 by_cases h0:0<=i
 .have hj:i.toNat=j:=by
   rw [seqIndex_of h0 h5] at h1
   exact Option.some.inj h1
  exact item_listR pl.isList h0 (by omega) (by rw [hj];simpa using ew) fin hs
 .have hj:(i+(its.toArray.size:Int)).toNat=j:=by
   rw [seqIndex_neg (by omega) h4] at h1
   rw [List.size_toArray,<- hl]
   exact Option.some.inj h1
  exact subscriptTail_builtinR (x:=w) pl.isList.typeIs slot_list_getitem.lookup
   (wpAny_getItem_list_neg (Q:=fun r s'=>r=w/\EP X pins σ Q r s') pl.isList (by omega) (by rw [List.size_toArray]<;>omega) (by omega) (by rw [hj];simpa using ew) ⟨rfl,fin⟩) hs
theorem ix_tup:IxR X (yIz X.K):=by
 intro value slice pins s σ H x y v u Q I rx ry h hs
 obtain ⟨p,xs,i,z,rfl,rfl,hq,he,q⟩:=h
 cases rx
 obtain ⟨t,rfl⟩:=ry
 obtain ⟨its,r,pl,hz⟩:=I.tuple hq
 obtain ⟨j,h1,h2,h3,h4,h5⟩:=yuf he
 obtain ⟨w,ew,rw'⟩:=r.get h2
 have hl:=r.length
 have hn:=ypJ
 have fin:EP X pins σ Q w s:=⟨z,H,I,rw',q⟩
 exact subscriptTail_builtinR (x:=w) pl.typeIs slot_tuple_getitem.lookup
  (getItem_tuple (j:=j) (Q:=fun r s'=>r=w/\EP X pins σ Q r s') pl (by omega) (by omega) (by rw [List.size_toArray,<- hl];exact h1) (by simpa using ew) ⟨rfl,fin⟩) hs
theorem yrN:IxR X yIA:=by
 intro value slice pins s σ H x y v u Q I rx ry h hs
 obtain ⟨z,i,c,rfl,rfl,hz,he,q⟩:=h
 obtain ⟨t,rfl⟩:=rx
 obtain ⟨t',rfl⟩:=ry
 obtain ⟨j,h1,h2,h3,h4,h5⟩:=yuf he
 have hl:z.cps.toList.length=z.length:=by simp [Str.length]
 rw [hl] at h1 h4 h5
 have hn:=ypJ
 exact tail_any (typeIs_str s z t) slot_str_getitem.lookup (getItem_str (c:=c) (by
  have e1:decide (i < -(2 ^ 63:Int))=false:=decide_eq_false (by omega)
  have e2:decide (i>=2 ^ 63)=false:=decide_eq_false (by omega)
  rw [e1,e2,Bool.or_false]) (by rw [h1];simpa using h2) ⟨.str ⟨#[c]⟩,H,I.tok _,⟨_,rfl⟩,q⟩) hs
noncomputable def rIx (K:PySem.W.Frag):R2:=fun x y H Q=>yIy K x y H Q\/yIz K x y H Q\/yIA x y H Q
theorem yvz:IxR X (rIx X.K):=ix_list.or (ix_tup.or yrN)
theorem yws (its:List Value) (n j:Nat) (u:Value):Obj.mapSeq (·.setIfInBounds j u) { cls:=.type "list",data:=.seq its.toArray n }={ cls:=.type "list",data:=.seq (its.set j u).toArray n }:=by
 simp [Obj.mapSeq]
theorem Inv.lst {pins:List (Addr×Obj)}{σ:St}{H:Hp}{s:Shared}{p:Addr}{xs:List V}(I:Inv X pins σ H s) (h:H p=some (.lst xs)) :
  ∃ (its:List Value) (n:Nat),Vals xs its/\s.heap.get? p=some { cls:=.type "list",data:=.seq its.toArray n }/\xs.length<=sizeLine:=by
 obtain ⟨z,its,n,r,e⟩:=I.hok p _ h
 exact ⟨its,n,r,e,z⟩
theorem Inv.lstUpd {pins:List (Addr×Obj)}{σ:St}{H:Hp}{s:Shared}{p:Addr}{xs ys:List V}{its its':List Value}{n n':Nat}{f:Obj->Obj}(I:Inv X pins σ H s) (h:H p=some (.lst xs))
  (ho:s.heap.get? p=some { cls:=.type "list",data:=.seq its.toArray n }) (hf:f { cls:=.type "list",data:=.seq its.toArray n }={ cls:=.type "list",data:=.seq its'.toArray n' }) (r:Vals ys its') (hz:ys.length<=sizeLine) (t:Nat) :
  Inv X pins σ (upd H p (.lst ys)) { s with heap:=s.heap.update p f,toks:=t }:=by
 have e:(s.heap.update p f).get? p=some { cls:=.type "list",data:=.seq its'.toArray n' }:=by
  rw [Heap.get?_update_self f ho (by rw [hf]<;>rfl),hf]
 refine I.write (x:=p) (e:=p) (by rw [h];trivial) (.inl rfl) (fun b u hb q=>(Heap.get?_update_other _ _ (Ne.symm hb)).trans q) ⟨_,e⟩ ?_
 exact ⟨hz,its',n',r,e⟩
noncomputable def yGe:V->V->V->Hp->(Hp->Prop)->Prop:=fun o i v H Q=>∃ p xs k j,o=.ref p/\i=.int k/\H p=some (.lst xs)/\ixN xs.length k=some j/\Q (upd H p (.lst (xs.set j v)))
theorem set_list:yJs X yGe:=by
 intro pins s σ H o i v ov iv u Q I ro ri rv h
 obtain ⟨p,xs,k,j,rfl,rfl,hp,hj,q⟩:=h
 cases ro
 obtain ⟨t,rfl⟩:=ri
 obtain ⟨its,n,r,ho,hz⟩:=I.lst hp
 obtain ⟨h1,h2,h3,h4⟩:=yxI hj
 have hl:=r.length
 have hn:=ypJ
 have I':Inv X pins σ (upd H p (.lst (xs.set j v))) { s with heap:=s.heap.update p (Obj.mapSeq (·.setIfInBounds j u)) } :=
  I.lstUpd hp ho (yws its n j u) (r.set rv j) (by rw [List.length_set];exact hz) s.toks
 by_cases h0:0<=k
 .have hk:k.toNat=j:=by
   rw [seqIndex_of h0 h4] at h1
   exact Option.some.inj h1
  exact PySem.W.ki_setAt ho h0 (by omega) (by rw [List.size_toArray,<- hl];exact h4) (by rw [hk];exact ⟨_,I',q⟩)
 .have hk:(k+(its.toArray.size:Int)).toNat=j:=by
   rw [seqIndex_neg (by omega) h3] at h1
   rw [List.size_toArray,<- hl]
   exact Option.some.inj h1
  exact PySem.W.ki_setBack ho (by omega) (by rw [List.size_toArray,<- hl];exact h3) (by omega) (by rw [hk];exact ⟨_,I',q⟩)
theorem yrO (lo hi:Option Int) (n:Nat):(sliceBounds lo hi none n).1=((HT.sIx n 0 lo:Nat):Int)/\(sliceBounds lo hi none n).2.1=((HT.sIx n n hi:Nat):Int)/\(sliceBounds lo hi none n).2.2=1:=by
 refine ⟨?_,?_,rfl⟩
 .cases lo with
  | none=>simp [sliceBounds,HT.sIx]
  | some i =>
   simp only [sliceBounds,HT.sIx,Option.getD_none,show (1:Int)>0 by decide,if_true]
   by_cases h:i<0
   .simp only [h,if_true]<;>omega
   .simp only [h,if_false]<;>omega
 .cases hi with
  | none=>simp [sliceBounds,HT.sIx]
  | some i =>
   simp only [sliceBounds,HT.sIx,Option.getD_none,show (1:Int)>0 by decide,if_true]
   by_cases h:i<0
   .simp only [h,if_true]<;>omega
   .simp only [h,if_false]<;>omega
theorem yqp (its:List Value) (lo hi:Option Int):slicePick its.toArray lo hi none=((its.drop (HT.sIx its.length 0 lo)).take (HT.sIx its.length its.length hi-HT.sIx its.length 0 lo)).toArray:=by
 obtain ⟨h1,h2,h3⟩:=yrO lo hi its.toArray.size
 unfold slicePick
 rw [h1,h2,h3]
 simp only [sliceRange_one,pick_run,List.size_toArray]<;>rfl
noncomputable def yJB (K:PySem.W.Frag):V->Option Int->Option Int->Hp->VK->Prop:=fun x lo hi H Q=>∃ a xs,x=.ref a/\SqL K H a xs/\∀ p,H p=none->Q (.ref p) (upd H p (.lst (yGd xs lo hi)))
theorem ynR:SlR X (yJB X.K):=by
 intro pins s σ H x v vl vu lo hi sl Q I rx hs pl pu h
 obtain ⟨a,xs,rfl,hx,q⟩:=h
 cases rx
 obtain ⟨its,r,ht,hz⟩:=I.list hx
 have hlen:=r.length
 refine ⟨"list",_,slot_list_getitem.lookup,ht.isList.typeIs,?_⟩
 refine wpAny_getItem_list_slice ht.isList hs pl pu .none (by simp) ?_ (by rw [List.size_toArray]<;>omega)
 rw [yqp,<- hlen]
 refine ⟨.ref s.heap.objs.size,_,I.laid (t':=s.toks) (o:=.lst (yGd xs lo hi)) (fun b ob q=>Heap.get?_push_of_some _ q) (Nat.le_refl _) ?_,rfl,q _ (I.hok.fresh (Nat.le_refl _))⟩
 exact ⟨Nat.le_trans (yue xs lo hi) hz,_,0,(r.drop (HT.sIx xs.length 0 lo)).take (HT.sIx xs.length xs.length hi-HT.sIx xs.length 0 lo),Heap.get?_push_size _ rfl⟩
noncomputable def ywt:V->Bool
 | .non=>true
 | .bl _=>true
 | .int _=>true
 | .str _=>true
 | _=>false
noncomputable def eqV:V->V->Bool
 | .non,.non=>true
 | .bl a,.bl b=>a == b
 | .bl a,.int b=>(if a then 1 else 0) == b
 | .int a,.bl b=>a == (if b then 1 else 0)
 | .int a,.int b=>a == b
 | .str a,.str b=>a == b
 | _,_=>false
theorem eqAt_V {A:Around}{s:Shared}{y x:V}{u v:Value}(ry:RelV y u) (rx:RelV x v) (fy:ywt y=true) (fx:ywt x=true):SeqAt.EqAt A s u v (eqV y x):=by
 cases y with
 | non =>
  cases ry
  cases x with
  | non=>cases rx;exact SeqAt.EqAt.same _
  | bl b=>cases rx;exact SeqAt.EqAt.none_bool b
  | int b=>obtain ⟨t,rfl⟩:=rx;exact SeqAt.EqAt.none_int b t
  | str b=>obtain ⟨t,rfl⟩:=rx;exact SeqAt.EqAt.none_str b t
  | _=>exact absurd (show false=true from fx) Bool.false_ne_true
 | bl a =>
  cases ry
  cases x with
  | non=>cases rx;exact SeqAt.EqAt.bool_none a
  | bl b=>cases rx;exact SeqAt.EqAt.bool_bool a b
  | int b=>obtain ⟨t,rfl⟩:=rx;exact SeqAt.EqAt.bool_int a b t
  | str b=>obtain ⟨t,rfl⟩:=rx;exact SeqAt.EqAt.bool_str a b t
  | _=>exact absurd (show false=true from fx) Bool.false_ne_true
 | int a =>
  obtain ⟨t',rfl⟩:=ry
  cases x with
  | non=>cases rx;exact SeqAt.EqAt.int_none a t'
  | bl b=>cases rx;exact SeqAt.EqAt.int_bool a t' b
  | int b=>obtain ⟨t,rfl⟩:=rx;exact SeqAt.EqAt.int_int a t' b t
  | str b=>obtain ⟨t,rfl⟩:=rx;exact SeqAt.EqAt.int_str a t' b t
  | _=>exact absurd (show false=true from fx) Bool.false_ne_true
 | str a =>
  obtain ⟨t',rfl⟩:=ry
  cases x with
  | non=>cases rx;exact SeqAt.EqAt.str_none a t'
  | bl b=>cases rx;exact SeqAt.EqAt.str_bool a t' b
  | int b=>obtain ⟨t,rfl⟩:=rx;exact SeqAt.EqAt.str_int a t' b t
  | str b=>obtain ⟨t,rfl⟩:=rx;exact SeqAt.EqAt.str_str a t' b t
  | _=>exact absurd (show false=true from fx) Bool.false_ne_true
 | _=>exact absurd (show false=true from fy) Bool.false_ne_true
theorem ycT:ykf X (.builtin "len") (fun xs H Q=>∃ p ys,xs=[.ref p]/\(SqL X.K H p ys\/SqT X.K H p ys)/\Q (.int ys.length) H):=by
 intro pins s σ H xs us Q I r h
 obtain ⟨p,ys,rfl,hq,q⟩:=h
 obtain ⟨u,rfl,rx⟩:=vals1 r
 cases rx
 have hn:=ypJ
 rcases hq with hq|hq
 .obtain ⟨its,r',pl,hz⟩:=I.list hq
  have hlen:=r'.length
  exact Calls.call_len_list pl.isList (by simp only [List.size_toArray]<;>omega) ⟨.int ys.length,H,I.tok _,⟨s.toks+1,by rw [List.size_toArray,hlen]⟩,q⟩
 .obtain ⟨its,r',pl,hz⟩:=I.tuple hq
  have hlen:=r'.length
  exact len_tuple pl (by simp only [List.size_toArray]<;>omega) ⟨.int ys.length,H,I.tok _,⟨s.toks+1,by rw [List.size_toArray,hlen]⟩,q⟩
theorem yrP:ykf X (.builtin "len") (fun xs H Q=>∃ z,xs=[.str z]/\z.length<=sizeLine/\Q (.int z.length) H):=by
 intro pins s σ H xs us Q I r h
 obtain ⟨z,rfl,hz,q⟩:=h
 obtain ⟨u,rfl,t,rfl⟩:=vals1 r
 have hn:=ypJ
 exact len_str (by omega) ⟨.int z.length,H,I.tok _,⟨_,rfl⟩,q⟩
theorem ybh:ykf X (.type "list") (fun xs H Q=>∃ p ys,xs=[.ref p]/\(SqL X.K H p ys\/SqT X.K H p ys)/\∀ l,H l=none->Q (.ref l) (upd H l (.lst ys))):=by
 intro pins s σ H xs us Q I r h
 obtain ⟨p,ys,rfl,hq,q⟩:=h
 obtain ⟨u,rfl,rx⟩:=vals1 r
 cases rx
 have fin:∀ (its:List Value),Vals ys its->ys.length<=sizeLine->∀ (h':Heap) (c':Nat),(∀ b o',s.heap.get? b=some o'->h'.get? b=some o') ->
   h'.get? s.heap.objs.size=some { cls:=.type "list",dict:=none,data:=.seq its.toArray c',slots:=#[] }->EP X pins σ Q (.ref s.heap.objs.size) { s with heap:=h' }:=fun its r' hz h' c' kp e =>
  ⟨.ref s.heap.objs.size,_,I.laid (t':=s.toks) kp (Nat.le_refl _) (show ObjOk X.prog X.w _ h' _ (.lst ys) from ⟨hz,its,c',r',e⟩),rfl,q _ (I.hok.fresh (Nat.le_refl _))⟩
 rcases hq with hq|hq
 .obtain ⟨its,r',pl,hz⟩:=I.list hq
  have hlen:=r'.length
  obtain ⟨o,ho,hc,n,hd⟩:=pl.isList
  exact call_list_seq p (.inl rfl) ho hc hd (fun h' c' kp e=>fin its r' hz h' c' kp e) (by simp only [List.size_toArray]<;>omega)
 .obtain ⟨its,r',pl,hz⟩:=I.tuple hq
  have hlen:=r'.length
  obtain ⟨o,ho,hc,n,hd⟩:=pl
  exact call_list_seq p (.inr rfl) ho hc hd (fun h' c' kp e=>fin its r' hz h' c' kp e) (by simp only [List.size_toArray]<;>omega)
noncomputable def tyV (K:PySem.W.Frag) (T:String) (x:V) (H:Hp):Prop:=match x with
 | .str _=>T = "str"
 | .int _=>T = "int"
 | .ref p=>(T = "list"/\∃ xs,SqL K H p xs)\/(T = "tuple"/\∃ o,K.lookup p=some o/\o.cls=.type "tuple"/\o.dict=none) \/
   (T = "dict"/\((∃ kvs,H p=some (.dK kvs))\/∃ kvs,H p=some (.dT kvs)))\/(T = "set"/\∃ S n,H p=some (.set S n))
 | _=>False
theorem yCe {pins:List (Addr×Obj)}{σ:St}{H:Hp}{s:Shared}{T:String}{x:V}{v:Value}(I:Inv X pins σ H s) (r:RelV x v) (ty:tyV X.K T x H) :
  s.TypeIs v T/\∀ a,v=.ref a->∃ ob,s.heap.get? a=some ob/\ob.dict=none:=by
 cases x with
 | str z =>
  obtain ⟨t,rfl⟩:=r
  cases (show T = "str" from ty)
  exact ⟨typeIs_str s z t,fun _ e=>nomatch e⟩
 | int i =>
  obtain ⟨t,rfl⟩:=r
  cases (show T = "int" from ty)
  exact ⟨typeIs_int s i t,fun _ e=>nomatch e⟩
 | ref p =>
  cases r
  rcases ty with ⟨rfl,xs,hq⟩|⟨rfl,o,hk,hc,hd⟩|⟨rfl,hk⟩|⟨rfl,S,n,hk⟩
  .obtain ⟨its,_,pl,_⟩:=I.list hq
   refine ⟨pl.isList.typeIs,fun a e=>?_⟩
   cases e
   obtain ⟨o,n,e,c,hd,_⟩:=pl
   exact ⟨o,e,hd⟩
  .refine ⟨⟨o,I.kIn p o hk,hc⟩,fun a e=>?_⟩
   cases e
   exact ⟨o,I.kIn _ o hk,hd⟩
  .have z:∃ o,s.heap.get? p=some o/\o.ExactDict:=by
    rcases hk with ⟨kvs,hk⟩|⟨kvs,hk⟩
    .obtain ⟨_,_,_,_,o,_,_,e,ex,_⟩:=I.hok p _ hk
     exact ⟨o,e,ex⟩
    .obtain ⟨_,_,_,_,o,_,_,e,ex,_⟩:=I.hok p _ hk
     exact ⟨o,e,ex⟩
   obtain ⟨o,e,ex⟩:=z
   refine ⟨⟨o,e,ex.1⟩,fun a e2=>?_⟩
   cases e2
   exact ⟨o,e,ex.2.1⟩
  .obtain ⟨o,_,_,_,e,ex,_⟩:=I.hok p _ hk
   refine ⟨⟨o,e,ex.1⟩,fun a e2=>?_⟩
   cases e2
   exact ⟨o,e,ex.2.1⟩
 | _=>exact False.elim ty
noncomputable def yIB (K:PySem.W.Frag) (T:String) (r:V->List V->Hp->VK->Prop) (to:TE):TE:=fun σ H Q=>to σ H fun x H1=>tyV K T x H1/\r x [] H1 Q
noncomputable def tBM (K:PySem.W.Frag) (T:String) (r:V->List V->Hp->VK->Prop) (to:TE) (t:TA):TE:=fun σ H Q=>to σ H fun x H1=>tyV K T x H1/\t σ H1 fun xs H2=>r x xs H2 Q
variable {o e:Expr}{es:List Expr}{to:TE}{t:TA}{name:Str}{apos cpos:Pos}{T id:String}{r:V->List V->Hp->VK->Prop}
theorem yCf (pa:PlainAttrs T) (slot:Slot T name id) (hty:typeOf (.builtin id)=pure (.type "method_descriptor")) (hm:MtR X id r) (ho:PE X o to)
  (hbase:attributeBase o name X.env (eval o X.env)=eval o X.env:=by rfl) (hline:(apos.endLine == cpos.line)=true:=by rfl):PE X (.Call (.Attribute o name apos) [] [] cpos) (yIB X.K T r to):=by
 intro pins s σ H Q I h
 refine wpAny_Call_method0_late hbase hline (thn (ho pins s σ H _ I h) fun v s1 ⟨x,H1,I1,r1,ty,q1⟩=>?_)
 obtain ⟨h1,h2⟩:=yCe I1 r1 ty
 exact ⟨T,id,pa,slot,hty,h1,h2,Calls.callWith_builtin rfl (PySem.evalArgs_none (hm pins s1 σ H1 x [] v [] Q I1 r1 .nil q1))⟩
theorem yGf (pa:PlainAttrs T) (slot:Slot T name id) (hty:typeOf (.builtin id)=pure (.type "method_descriptor")) (hm:MtR X id r) (ho:PE X o to) (ha:PA X (e::es) t)
  (hbase:attributeBase o name X.env (eval o X.env)=eval o X.env:=by rfl)
  (hfew:((backTo cpos (starEach (e::es) X.env)).all (fun x=>!x.1) && (backToKw cpos (keywordEach [] X.env)).all (fun x=>x.1.isSome)
   && decide ((e::es).length+([]:List Keyword).length+(if ([]:List Keyword).isEmpty then 0 else 1)<30))=true:=by rfl)
  (hline:(apos.endLine == cpos.line)=true:=by rfl) (hs:starEach (e::es) X.env=(false,eval e X.env)::starEach es X.env:=by rfl) (hplain:(backTo cpos (starEach es X.env)).any (·.1)=false:=by rfl) :
  PE X (.Call (.Attribute o name apos) (e::es) [] cpos) (tBM X.K T r to t):=by
 intro pins s σ H Q I h
 refine wpAny_Call_method_late hbase hfew hline rfl (thn (ho pins s σ H _ I h) fun v s1 ⟨x,H1,I1,r1,ty,q1⟩=>?_)
 obtain ⟨h1,h2⟩:=yCe I1 r1 ty
 refine ⟨T,id,pa,slot,hty,h1,h2,?_⟩
 have hA:=ha cpos pins s1 σ H1 _ I1 q1
 rw [hs] at hA ⊢
 refine Calls.callWith_builtin (by show (false || (backTo cpos (starEach es X.env)).any (·.1))=false;rw [hplain]<;>rfl) (Calls.evalArgs_plain ?_)
 exact thn hA fun us s2 ⟨vs,H2,I2,r2,q2⟩=>hm pins s2 σ H2 x vs v us Q I2 r1 r2 q2
end
end L2
namespace L2
open PySem PySem.Spec PyProof.Rows
noncomputable def MtM (X:Cx) (id:String) (r:V->List V->Hp->VK->Prop):Prop :=
 ∀ (pins:List (Addr×Obj)) (s:Shared) (σ:St) (H:Hp) (x:V) (xs:List V) (v:Value) (us:List Value) (Q:VK),Inv X pins σ H s->RelV x v->Vals xs us->r x xs H Q ->
  wpAny (model X.prog X.w) X.A (call (.builtin id) (v::us)) (EP X pins σ Q) X.xe s
theorem Vals.one:∀ {x:V}{us:List Value},Vals [x] us->∃ u,us=[u]/\RelV x u
 | _,_,.cons r .nil=>⟨_,rfl,r⟩
theorem Vals.zero:∀ {us:List Value},Vals [] us->us=[]
 | _,.nil=>rfl
theorem Vals.dropLast {xs:List V}{us:List Value}(h:Vals xs us):Vals xs.dropLast us.dropLast:=by
 induction h with
 | nil=>exact .nil
 | cons r t ih =>
  cases t with
  | nil=>exact .nil
  | cons q t'=>exact .cons r ih
theorem Vals.rep {xs:List V}{us:List Value}(h:Vals xs us):∀ k:Nat,Vals (List.replicate k xs).flatten (List.replicate k us).flatten
 | 0=>.nil
 | k+1=>by
  rw [List.replicate_succ,List.replicate_succ,List.flatten_cons,List.flatten_cons]
  exact Vals.append h (Vals.rep h k)
theorem ywu {α:Type}(l:List α):l.eraseIdx (l.length-1)=l.dropLast:=by
 induction l with
 | nil=>rfl
 | cons a r ih =>
  cases r with
  | nil=>rfl
  | cons b r =>
   have e:(a::b::r).length-1=((b::r).length-1)+1:=by
    have h1:(a::b::r).length=r.length+2:=rfl
    have h2:(b::r).length=r.length+1:=rfl
    omega
   rw [e,List.eraseIdx_cons_succ,ih]
   all_goals rfl
section
variable {X:Cx}{pins:List (Addr×Obj)}{σ:St}{H:Hp}{s:Shared}{l b:Addr}{xs ys zs:List V}
theorem Inv.lset {its its':List Value}{n:Nat}{f:Array Value->Array Value}{t':Nat}(I:Inv X pins σ H s) (hH:H l=some (.lst xs))
  (e:s.heap.get? l=some { cls:=.type "list",data:=.seq its.toArray n }) (hf:f its.toArray=its'.toArray) (hv:Vals ys its') (hz:ys.length<=sizeLine) :
  Inv X pins σ (upd H l (.lst ys)) { s with heap:=s.heap.update l (Obj.mapSeq f),toks:=t' }:=by
 have q:=PySem.IsL.update e f
 rw [hf] at q
 refine I.write (x:=l) (e:=l) (by rw [hH];exact trivial) (.inl rfl) (fun b' u hb hu=>(Heap.get?_update_other s.heap (Obj.mapSeq f) (Ne.symm hb)).trans hu) ⟨_,q⟩ ?_
 exact ⟨hz,its',_,hv,q⟩
theorem Inv.lnew {its:List Value}{t':Nat}(I:Inv X pins σ H s) (hv:Vals ys its) (hz:ys.length<=sizeLine) :
  Inv X pins σ (upd H s.heap.objs.size (.lst ys)) { s with heap:=s.heap.push { cls:=.type "list",data:=.seq its.toArray },toks:=t' } :=
 I.laid (fun _ _ q=>Heap.get?_push_of_some _ q) (Nat.le_refl _) ⟨hz,its,0,hv,Heap.get?_push_size _ rfl⟩
theorem Inv.fresh (I:Inv X pins σ H s):H s.heap.objs.size=none:=I.hok.fresh (Nat.le_refl _)
theorem Inv.lstM (I:Inv X pins σ H s) (hH:H l=some (.lst xs)):xs.length<=sizeLine/\∃ (its:List Value) (n:Nat),Vals xs its/\xs.length=its.length/\s.heap.get? l=some { cls:=.type "list",data:=.seq its.toArray n }:=by
 obtain ⟨z,its,n,r,e⟩:=I.hok l _ hH
 exact ⟨z,its,n,r,r.length,e⟩
end
section
variable {X:Cx}
noncomputable def yug:V->List V->Hp->VK->Prop:=fun x vs H Q=>∃ l xs y,x=.ref l/\vs=[y]/\H l=some (.lst xs)/\xs.length<sizeLine/\Q .non (upd H l (.lst (xs++[y])))
theorem ykE:MtM X "list.append" yug:=by
 intro pins s σ H x vs v us Q I rx rv h
 obtain ⟨l,xs,y,rfl,rfl,hH,hz,q⟩:=h
 cases rx
 obtain ⟨u,rfl,ru⟩:=rv.one
 obtain ⟨z,its,n,r,hl,e⟩:=I.lstM hH
 refine call_meets F.slot_list_append ⟨_,e,rfl⟩ F.entry_list_append (F.args_list_append_2 _ _) (PySem.list_append l its.toArray n u (by rw [List.size_toArray];omega)) ⟨e,?_⟩
 refine ⟨.non,_,I.lset (its':=its++[u]) hH e (by simp) (r.append (.cons ru .nil)) ?_,rfl,q⟩
 rw [List.length_append,List.length_singleton]
 omega
noncomputable def yJC:V->List V->Hp->VK->Prop:=fun x vs H Q=>∃ l xs y,x=.ref l/\vs=[]/\H l=some (.lst xs)/\xs[xs.length-1]?=some y/\Q y (upd H l (.lst xs.dropLast))
theorem yCg:MtM X "list.pop" yJC:=by
 intro pins s σ H x vs v us Q I rx rv h
 obtain ⟨l,xs,y,rfl,rfl,hH,hy,q⟩:=h
 cases rx
 have hus:=rv.zero
 subst hus
 obtain ⟨z,its,n,r,hl,e⟩:=I.lstM hH
 obtain ⟨u,hu,ru⟩:=r.get hy
 have hy':its.toArray[its.toArray.size-1]?=some u:=by
  show its.toArray[its.length-1]?=some u
  rw [<- Array.getElem?_toList,<- hl]
  exact hu
 refine call_meets F.slot_list_pop ⟨_,e,rfl⟩ F.entry_list_pop (F.args_list_pop_1 _) (MeetsSeq.list_pop_last l its.toArray n u hy' (by rw [List.size_toArray];omega)) ⟨e,?_⟩
 refine ⟨y,_,I.lset (its':=its.dropLast) hH e ?_ r.dropLast ?_,ru,q⟩
 .show its.toArray.eraseIdxIfInBounds (its.toArray.size-1)=its.dropLast.toArray
  rw [List.size_toArray,List.eraseIdxIfInBounds_toArray,ywu]
 .rw [List.length_dropLast]
  omega
noncomputable def yJD:R2:=fun x y H Q=>∃ l b xs zs,x=.ref l/\y=.ref b/\H l=some (.lst xs)/\H b=some (.lst zs)/\xs.length+zs.length<=sizeLine/\∀ p,H p=none->Q (.ref p) (upd H p (.lst (xs++zs)))
theorem yrQ:OpR X (binaryOp .Add) yJD:=by
 intro pins s σ H x y v u Q I rx ry h
 obtain ⟨l,b,xs,zs,rfl,rfl,hH,hB,hz,q⟩:=h
 cases rx
 cases ry
 obtain ⟨z,its,n,r,hl,e⟩:=I.lstM hH
 obtain ⟨z2,its2,n2,r2,hl2,e2⟩:=I.lstM hB
 refine PySem.P.add_list e e2 ?_ (by rw [List.size_toArray,List.size_toArray];omega)
 have ea:its.toArray++its2.toArray=(its++its2).toArray:=by simp
 rw [ea]
 exact ⟨.ref _,_,I.lnew (t':=s.toks) (r.append r2) (by rw [List.length_append];omega),rfl,q _ I.fresh⟩
end
section
variable {prog:Program}{w:World}{A:Around}{E:Value->Shared->Prop}{s:Shared}
end
section
variable {X:Cx}
end
end L2
namespace Att
open PySem PySem.W PySem.Calls PyProof.Rows
theorem ynS {P:Params}{h:Heap}:∀ (ns:List Int) (vs:List Value),WellAll P h vs (ns.map WData.int)->IntsAre vs ns:=by
 intro ns
 induction ns with
 | nil =>
  intro vs w
  rw [List.map_nil] at w
  cases w
  exact .nil
 | cons n ns ih =>
  intro vs w
  rw [List.map_cons] at w
  cases w with
  | cons a b =>
   cases a
   exact .cons _ _ (ih _ b)
theorem yxK {l:OpenLaw}{n:Nat}(hn:l.most=some n) {P:Params}{h:Heap}{args:List WData}{vals:List Value}
  (hpre:l.row.toRowW.claim.pre args=true) (hwl:WellAll P h vals args) :
  ∃ a vs ns,vals=[Value.ref a]/\args=[WData.list (ns.map WData.int)]/\h.get? a=some { cls:=.type "list",data:=.seq vs.toArray }/\IntsAre vs ns/\ns.length<=n:=by
 have hsh:WShape.hasAll [] args [.list .int]=true:=(pre_splitW hpre).1
 have hc:l.pre.holds [] { args:=args }=true:=(pre_splitW hpre).2
 obtain ⟨d,r,rfl,h1,h2⟩:=hasAllW_cons hsh
 obtain rfl:=hasAllW_nil h2
 obtain ⟨xs,rfl,h3⟩:=hasW_list h1
 obtain ⟨ns,rfl⟩:=items_int h3
 have hlen:ns.length<=n:=by
  unfold OpenLaw.pre at hc
  have h4:(WTm.not (.lt (.lit (.int (n:Int))) (.len (.arg 0)))).holds [] { args:=[.list (ns.map .int)] }=true:=by
   have h4:=(holds_andW hc).1
   rw [hn] at h4
   exact h4
  have h5:=condW_of h4 (w_not (w_lt w_lit (w_len_list (w_arg rfl))))
  rw [List.length_map] at h5
  refine Nat.le_of_not_lt fun q=>?_
  have q':(n:Int)<((ns.length:Nat):Int):=by omega
  first
   | (rw [decide_eq_true q'] at h5;exact absurd h5 (by decide))
   | (simp at h5;omega)
 cases hwl with
 | cons w1 w2 =>
  cases w2
  cases w1 with
  | list ho hall=>exact ⟨_,_,ns,rfl,rfl,ho,ynS ns _ hall,hlen⟩
theorem yxL (l:OpenLaw) (args:List WData):l.row.toRowW.claim.post args (.bool true) args=true :=
 postW_of (r:=l.row.toRowW) (X:=(true == true))
  (show WShape.has [] (.bool true) .bool=true by first|rfl|decide|simp [WShape.has,WShape.arms,WShape.armsAll])
  (show (WTm.eq .res (.lit (.bool true))).value [] { args:=args,res:=some (.bool true),after:=args }=some (.bool (true == true)) from w_eq_bool (w_res rfl) w_lit) rfl
theorem attach_call {l:OpenLaw}{n:Nat}{q:Program}{loose:List Str}{XP:(Str->Option Value)->Heap->Prop}{YP:World->Heap->Prop}{d:DefRec}
  (hn:l.most=some n) (hdf:d.params.defaults=[])
  (call:∀ (w:World) (s₀ s₁:Shared) (mg mb:Str->Option Value) (fa:Addr) (o:Obj) (pm cd doc:Value) (a:Addr) (vs:List Value) (ns:List Int),
   Ground q loose [] XP w s₀ mg mb s₁.heap->YP w s₁.heap ->
   s₁.heap.get? fa=some o->o.data=.func (docDef d.name d.params d.body d.scope pm cd doc)->s₁.heap.CodeRec cd d.name->mg d.name=some (.ref fa) ->
   s₁.heap.get? a=some { cls:=.type "list",data:=.seq vs.toArray }->IntsAre vs ns->ns.length<=n->s₁.gens = #[] ->
   codeAny (model l.prog w) callerA (.call (.ref fa) ⟨[.ref a],[]⟩) (fun r s'=>r=.ok (.ret (.bool true))/\OldK s₁.heap s'.heap/\s'.os=s₁.os/\AllBare s'.gens) s₁) :
  WalkO q loose XP YP l.row.toRowW d [] (fun f vs=>PySem.call f vs):=by
 intro w s₀ s₁ mg mb G Y fa o pm cd doc dV kV ho hd hcd hD hmg hg args vals as hpre hlay hrd hwl hlo
 obtain rfl:dV=.none:=Dflts.none hD hdf
 obtain rfl:kV=.none:=Dflts.noKw hD
 obtain ⟨a,vs,ns,rfl,rfl,hobj,hints,hlen⟩:=yxK hn hpre hwl
 refine enter_call (codeAny_mono (call w s₀ s₁ mg mb fa o pm cd doc a vs ns G Y ho (fd_plain hd) hcd hmg hobj hints hlen hg) fun r s' hq=>?_)
 obtain ⟨rfl,h2,h3,h4⟩:=hq
 exact ⟨.inl ⟨.bool true,.bool true,[],rfl,fun _=>rfl,.bool true,yxL l _,fun _=>⟨List.Pairwise.nil,fun _ hm=>(nomatch hm)⟩⟩,h2,h3,h4⟩
section
variable {prog:Program}{w:World}{A:Around}{E:Value->Shared->Prop}{s:Shared}{K:Frag}
end
end Att
namespace L2
open PySem PySem.Spec PyProof.Rows
theorem ykF:∀ {vs:List Value}{ns:List Int},IntsAre vs ns->Vals (ns.map V.int) vs
 | _,_,.nil=>.nil
 | _,_,.cons n t h=>.cons ⟨t,rfl⟩ (ykF h)
noncomputable def yIC (H:Hp):Prop:=∀ b,H b=none\/∃ o xs,H b=some (.frz o (.lst xs))
theorem yAl {P:Program}{w:World}{K:PySem.W.Frag}{mg mb:Str->Option Value}{CX:CXT}{k:Nat}{fa a:Addr}{fd:FuncData}{x:Str}{sp:Sp}{s₁:Shared}{vs:List Value}{ns:List Int}
  (KX:K.In s₁.heap) (hns:s₁.heap.Ns mainGlobals mg) (hb:s₁.heap.Ns builtinsNs mb) (hbb:∀ x:Str,x≠"__name__"->mb x=bootBuiltins x) (hlim:s₁.heap.NoLimit) (hg:s₁.gens = #[])
  (ha:s₁.heap.get? a=some { cls:=.type "list",data:=.seq vs.toArray }) (hi:IntsAre vs ns) (hl:ns.length<=sizeLine) (hr:Room k callerA)
  (F:∀ base:Heap,K.In base->base.Ns mainGlobals mg->FnOk P w K mg base CX k fa fd [x] sp) (hbind:∀ (s:Shared) (u:Value),BindsTo s fd ⟨[u],[]⟩ [(x,u)])
  (hsp:∀ H:Hp,yIC H->SqL K H a (ns.map V.int)->sp [.ref a] H (fun v _=>v=.bl true) fun _ _ _=>False)
  (hCX:∀ H e s',CX [] H s₁ (fun _ _ _=>False) e s'->False) :
  codeAny (model P w) callerA (.call (.ref fa) ⟨[.ref a],[]⟩) (fun r s'=>r=.ok (.ret (.bool true))/\OldK s₁.heap s'.heap/\s'.os=s₁.os/\AllBare s'.gens) s₁:=by
 have rv:=ykF hi
 have lenV:=hi.length
 have core:∀ H:Hp,yIC H->SqL K H a (ns.map V.int)->HOk P w H s₁.heap->(∀ b,H b≠none->b=a)->(H a≠none->K.lookup a=none) ->
   codeAny (model P w) callerA (.call (.ref fa) ⟨[.ref a],[]⟩) (fun r s'=>r=.ok (.ret (.bool true))/\OldK s₁.heap s'.heap/\s'.os=s₁.os/\AllBare s'.gens) s₁:=by
  intro H hO hS hok hA hK
  have base_of:∀ {b:Addr}{o:Obj},s₁.heap.get? b=some o->H b=none->(yzW s₁.heap H).get? b=some o:=fun e n=>yzX e n
  have noA:∀ {b:Addr}{o:Obj}{es:Array DictEntry}{ep:Nat},s₁.heap.get? b=some o->o.data=.dict es ep->H b=none:=fun {b o es ep} e d=>by
   cases q:H b with
   | none=>rfl
   | some u =>
    have e':b=a:=hA b (by rw [q];simp)
    subst e'
    rw [ha] at e;cases e
    have d':Data.seq vs.toArray _=Data.dict es ep:=d
    cases d'
  have nsK:∀ {b:Addr}{m:Str->Option Value},s₁.heap.Ns b m->(yzW s₁.heap H).Ns b m:=fun {b m} ⟨o,es,ep,e,d,r⟩=>⟨o,es,ep,base_of e (noA e d),d,r⟩
  have hKb:K.In (yzW s₁.heap H):=fun b o e=>base_of (KX b o e) (by
   cases q:H b with
   | none=>rfl
   | some u =>
    have e':b=a:=hA b (by rw [q];simp)
    subst e'
    rw [hK (by rw [q];simp)] at e;cases e)
  have hM:Mod K mg (yzW s₁.heap H):=⟨hKb,nsK hns,⟨mb,nsK hb,hbb⟩,let ⟨mc,h1,h2⟩:=hlim;⟨mc,nsK h1,h2⟩⟩
  have e0:Env0 P w K mg (yzW s₁.heap H) callerA [] s₁ H:=⟨rfl,hM,fun b o e=>yDb e,Nat.le_of_eq (yxq _ _),trivial,fun b hb=>absurd (show b∈([]:List Addr) from hb) (by simp),hok,.of_eq hg⟩
  refine codeAny_mono ((F _ hKb (nsK hns)).run callerA [] s₁ H ⟨[.ref a],[]⟩ [.ref a] [.ref a] _ _ hr e0 (hbind s₁ (.ref a)) (.cons rfl .nil) (hsp H hO hS)) fun r s' h=>?_
  cases r with
  | error e=>exact (hCX H e s' h).elim
  | ok fl =>
   cases fl with
   | next=>exact False.elim h
   | brk=>exact False.elim h
   | cont=>exact False.elim h
   | ret u =>
    obtain ⟨v,H',os,bare,un,hok',r',q⟩:=h
    have q':v=.bl true:=q
    subst q'
    obtain rfl:u=Value.bool true:=r'
    refine ⟨rfl,OldK.of_keep fun b o e=>?_,os,bare⟩
    cases q:H b with
    | none=>exact un.keep b o e q (by intro z;exact absurd (show b∈([]:List Addr) from z) (by simp)) (by simp)
    | some u =>
     rcases hO b with z|⟨ob,xs,z⟩
     .rw [q] at z;cases z
     .have z2:=un.frzs b ob _ z
      obtain ⟨e1,_⟩:=hok b _ z
      obtain ⟨e2,_⟩:=hok' b _ z2
      rw [e] at e1;cases e1
      exact e2
 cases hk:K.lookup a with
 | some o =>
  have e:=KX a o hk
  rw [ha] at e
  cases e
  refine core (fun _=>none) (fun _=>.inl rfl) (.inr ⟨_,vs.toArray,_,hk,rfl,rfl,rfl,by rw [List.size_toArray,lenV];exact hl,by simpa using rv⟩) (fun b u z=>by have z':(none:Option HO)=some u:=z;cases z') (fun b z=>absurd rfl z) fun z=>absurd rfl z
 | none =>
  refine core (fun b=>if b=a then some (.frz { cls:=.type "list",data:=.seq vs.toArray } (.lst (ns.map V.int))) else none) (fun b=>?_) (.inl (.inr ⟨{ cls:=.type "list",data:=.seq vs.toArray },if_pos rfl⟩)) (fun b u z=>?_) (fun b z=>?_) fun _=>hk
  .by_cases hb:b=a
   .exact .inr ⟨_,_,if_pos hb⟩
   .exact .inl (if_neg hb)
  .by_cases hb:b=a
   .have z':=(if_pos hb).symm.trans z
    cases z'
    subst hb
    exact ⟨ha,by rw [List.length_map];exact hl,vs,_,rv,ha⟩
   .have z':=(if_neg hb).symm.trans z
    cases z'
  .by_cases hb:b=a
   .exact hb
   .exact absurd (if_neg hb) z
end L2
namespace L2
open PySem PySem.Spec PyProof.Rows
theorem walk_of {l:PySem.W.OpenLaw}{n k:Nat}{q:Program}{loose:List Str}{XP:(Str->Option Value)->Heap->Prop}{YP:World->Heap->Prop}{d:DefRec}{K:Params->PySem.W.Frag}{CX:World->CXT}{sp:World->Sp}{x:Str}
  (hn:l.most=some n) (hn2:n<=sizeLine) (hdf:d.params.defaults=[]) (hr:Room k callerA)
  (hY:∀ (w:World) (h:Heap),YP w h->(K w.params).In h)
  (F:∀ (w:World) (mg:Str->Option Value) (fa:Addr) (h:Heap),(K w.params).In h->h.Ns mainGlobals mg->mg d.name=some (.ref fa) ->
   ∃ fd:FuncData,(∀ (s:Shared) (u:Value),BindsTo s fd ⟨[u],[]⟩ [(x,u)]) /\
    ∀ base:Heap,(K w.params).In base->base.Ns mainGlobals mg->FnOk l.prog w (K w.params) mg base (CX w) k fa fd [x] (sp w))
  (hsp:∀ (w:World) (H:Hp) (a:Addr) (ns:List Int),ns.length<=n->yIC H->SqL (K w.params) H a (ns.map V.int)->sp w [.ref a] H (fun v _=>v=.bl true) fun _ _ _=>False)
  (hCX:∀ (w:World) (H:Hp) (s:Shared) (e:Value) (s':Shared),CX w [] H s (fun _ _ _=>False) e s'->False) :
  PySem.W.WalkO q loose XP YP l.row.toRowW d [] (fun f vs=>PySem.call f vs):=by
 refine Att.attach_call hn hdf fun w s₀ s₁ mg mb fa o pm cd doc a vs ns G Y ho hd hcd hmg hobj hints hlen hg=>?_
 have KX:=hY w _ Y
 obtain ⟨fd,hb,hF⟩:=F w mg fa _ KX G.T.g hmg
 exact yAl KX G.T.g G.T.b G.T.builtins G.T.nolimit hg hobj hints (Nat.le_trans hlen hn2) hr hF hb (fun H hO hS=>hsp w H a ns hlen hO hS) fun H e s'=>hCX w H s₁ e s'
end L2
namespace L2
open PySem PySem.Spec PyProof.Rows
noncomputable def inClass (s:Stmt) (j:Nat):Stmt:=match s with
 | .ClassDef _ _ _ body _ _ _ _ _ _ _=>body.getD j (.Pass ⟨0,0,0,0⟩)
 | _=>.Pass ⟨0,0,0,0⟩
noncomputable def yk (s:Stmt):Arguments:=match s with
 | .FunctionDef _ a _ _ _ _ _ _ _ _=>a
 | _=>{ posonlyargs:=[],args:=[],vararg:=none,kwonlyargs:=[],kw_defaults:=[],kwarg:=none,defaults:=[] }
noncomputable def yj (s:Stmt):List Stmt:=match s with
 | .FunctionDef _ _ b _ _ _ _ _ _ _=>b
 | _=>[]
noncomputable def yc (s:Stmt):Scope:=match s with
 | .FunctionDef _ _ _ _ _ _ sc _ _ _=>sc
 | _=>{ kind:=.function,names:=[],isGenerator:=false,isCoroutine:=false }
noncomputable abbrev CX0:CXT:=fun _ _ _ _ _ _=>False
noncomputable abbrev E0:XK:=fun _ _ _=>False
theorem ywv {X:Cx}:ykD CX0 X E0:=fun _ _ _ _ _ _ _ h=>h.elim
structure Fun (K:PySem.W.Frag) (x qual:Str) (st:Stmt) (f:Addr) (fd:FuncData):Prop where
 ex:∃ (oc:Value) (od:Option Addr) (kV doc pm:Value) (an:Option Addr) (cdv ct:Value) (osl:Array (Option Value)),
  fd=PySem.W.fnOf x qual (yk st) (yj st) (yc st) .none kV doc pm an cdv ct/\K.lookup f=some ⟨oc,od,.func fd,osl⟩/\PySem.W.codeIn K cdv qual=true
 kp:PySem.W.keepIn K (.ref f)=true
section
variable {P:Program}{w:World}{K:PySem.W.Frag}{mg:Str->Option Value}{base:Heap}
theorem Fun.ok {x qual:Str}{st:Stmt}{f:Addr}{fd:FuncData}{N ps:List Str}{k:Nat}{sp:Sp}(F:Fun K x qual st f fd) (S:yq N ps (yc st)) (len:∀ vs H Q E,sp vs H Q E->vs.length=ps.length)
  (hbody:∀ (cdv:Value) (A:Around) (outer:List Env) (s:Shared) (H:Hp) (vs:List V) (Q:VK) (E:XK),Room k (A.deeper (envOfC qual (yc st) s.heap.objs.size f cdv))->sp vs H Q E ->
   ∃ t,PSs (yAk CX0 P w K mg base N qual (yc st) f cdv A outer s H E).nox (yj st) t/\t { nx:=fun _ H'=>Q .non H',rt:=Q } (start N vs) H):FnOk P w K mg base CX0 (k+1) f fd ps sp:=by
 obtain ⟨oc,od,kV,doc,pm,an,cdv,ct,osl,rfl,lk,hcd⟩:=F.ex
 refine yIw lk hcd S len fun A outer s H vs Q E hr hsp=>?_
 obtain ⟨t,h,q⟩:=hbody cdv A outer s H vs Q E hr hsp
 exact ⟨t,h.nox,q⟩
theorem Fun.binds {x qual:Str}{st:Stmt}{f:Addr}{fd:FuncData}{ps:List Str}(F:Fun K x qual st f fd)
  (h:∀ (kV doc pm:Value) (an:Option Addr) (cdv ct:Value) (us:List Value),us.length=ps.length->bindArgs (PySem.W.fnOf x qual (yk st) (yj st) (yc st) .none kV doc pm an cdv ct) ⟨us,[]⟩=pure (ps.zip us)):Binds K fd ps []:=by
 obtain ⟨oc,od,kV,doc,pm,an,cdv,ct,osl,rfl,lk,hcd⟩:=F.ex
 exact .all (h kV doc pm an cdv ct)
theorem yP {x qual:Str}{st:Stmt}{f:Addr}{oc:Value}{od an:Option Addr}{osl:Array (Option Value)}{kV doc pm cdv ct:Value}(l:K.lookup f=some ⟨oc,od,.func (PySem.W.fnOf x qual (yk st) (yj st) (yc st) .none kV doc pm an cdv ct),osl⟩)
  (c:PySem.W.codeIn K cdv qual=true) (k:PySem.W.keepIn K (.ref f)=true):Fun K x qual st f (PySem.W.fnOf x qual (yk st) (yj st) (yc st) .none kV doc pm an cdv ct):=⟨⟨oc,od,kV,doc,pm,an,cdv,ct,osl,rfl,l,c⟩,k⟩
end
theorem yqq {A:Around}{k:Nat}(hr:Room k A):A.units+1<cLine:=Nat.lt_of_le_of_lt (Nat.add_le_add_left (by decide:1<=64) _) hr.units
theorem yrR {n:Nat}(h:n<=1000):n<sizeLine:=Nat.lt_of_le_of_lt h (by decide)
section
variable {X:Cx}
end
noncomputable def Same (H H':Hp):Prop:=∀ b o,H b=some o->H' b=some o
theorem Same.refl (H:Hp):Same H H:=fun _ _ h=>h
theorem Same.trans {H H1 H2:Hp}(a:Same H H1) (b:Same H1 H2):Same H H2:=fun c o h=>b c o (a c o h)
theorem Same.free {H H':Hp}(e:Same H H') {l:Addr}(h:H' l=Option.none):H l=Option.none:=by
 cases q:H l with
 | none=>rfl
 | some o =>
  rw [e l o q] at h
  cases h
theorem Same.seq {K:PySem.W.Frag}{H H':Hp}{a:Addr}{xs:List V}(e:Same H H') (h:SqL K H a xs):SqL K H' a xs:=by
 rcases h with (h|⟨o,h⟩)|h
 .exact .inl (.inl (e _ _ h))
 .exact .inl (.inr ⟨o,e _ _ h⟩)
 .exact .inr h
end L2
namespace L2
open PySem PySem.Spec PyProof.Rows
noncomputable def cV:V->Option Value
 | .ty n=>some (.type n)
 | .ref a=>some (.ref a)
 | _=>none
noncomputable def IsI (K:PySem.W.Frag) (H:Hp) (x c:V) (b:Bool):Prop:=∃ t u,ynQ K H x t/\cV c=some u/\PySem.W.kitOne K t u=some b
theorem yuh {K:PySem.W.Frag}{H:Hp}{i:Int}:IsI K H (.int i) (.ty "int") true:=⟨_,_,.int i,rfl,by with_unfolding_all rfl⟩
theorem yrS {K:PySem.W.Frag}{H:Hp}{i:Int}:IsI K H (.int i) (.ty "bool") false:=⟨_,_,.int i,rfl,by with_unfolding_all rfl⟩
theorem yui {K:PySem.W.Frag}{H:Hp}:IsI K H .non (.ty "int") false:=⟨_,_,.non,rfl,by with_unfolding_all rfl⟩
theorem yuj {K:PySem.W.Frag}{H:Hp}{i:Bool}:IsI K H (.bl i) (.ty "bool") true:=⟨_,_,.bl i,rfl,by with_unfolding_all rfl⟩
theorem yuk {K:PySem.W.Frag}{H:Hp}{i:Str}:IsI K H (.str i) (.ty "str") true:=⟨_,_,.str i,rfl,by with_unfolding_all rfl⟩
theorem yrT {K:PySem.W.Frag}{H:Hp}{a:Addr}{xs:List V}(e:H a=some (.lst xs)):IsI K H (.ref a) (.ty "list") true:=⟨_,_,.lst e,rfl,by with_unfolding_all rfl⟩
end L2
namespace L2
open PySem
noncomputable abbrev yID:R2:=rI0 fun i j=>.int (i+j)
noncomputable abbrev yIE:R2:=rI0 fun i j=>.int (i-j)
noncomputable abbrev yIF:R2:=rI CMul fun i j=>.int (i*j)
noncomputable abbrev yIG:R2:=rI yJx fun i j=>.int (i/j)
noncomputable abbrev yIH:R2:=rI (fun _ j=>0<j) fun i j=>.int (i%j)
noncomputable abbrev yII:R2:=rI yIu fun i j=>.int (i ^ j.toNat)
noncomputable abbrev yKe:R2:=rI0 fun i j=>.bl (decide (i<j))
noncomputable abbrev yIJ:V->Hp->VK->Prop:=rU fun i=>.int (-i)
noncomputable def yKf:R2:=fun x y H Q=>y=.non/\Q (.bl (decide (x=.non))) H
noncomputable def yIK:R2:=fun x y H Q=>y=.non/\Q (.bl (!decide (x=.non))) H
noncomputable def yIL:List V->Hp->VK->Prop:=fun xs H Q=>(∃ i,xs=[.int i]/\Q (.int i) H)\/∃ k,xs=[.bl k]/\Q (.int (if k then 1 else 0)) H
noncomputable def yIM:List V->Hp->VK->Prop:=fun xs H Q=>∃ z,xs=[.str z]/\z.length<=sizeLine/\Q (.int z.length) H
noncomputable def yIN (K:PySem.W.Frag):List V->Hp->VK->Prop:=fun xs H Q=>∃ p ys,xs=[.ref p]/\(SqL K H p ys\/SqT K H p ys)/\Q (.int ys.length) H
noncomputable def yJE (K:PySem.W.Frag):List V->Hp->VK->Prop:=fun xs H Q=>∃ x c b,xs=[x,c]/\IsI K H x c b/\Q (.bl b) H
theorem yhq {H:Hp}{p:Addr}(h:H p=none) (o:HO):Same H (upd H p o):=fun b u q=>by rw [ybb (yco q h)];exact q
section
variable {K:PySem.W.Frag}{σ:St}{H:Hp}{Q:VK}{ta tb tc:TE}{tA tB':TT}{t u:TS}{D:Ends}
theorem w_not {Q:Bool->Hp->Prop}:yIm tA σ H Q=tA σ H fun c H1=>Q (!c) H1:=rfl
end
end L2
namespace L2
open PySem
noncomputable def yIc (z:Str) (lo hi:Option Int):Str:=⟨((z.cps.toList.drop (HT.sIx z.length 0 lo)).take (HT.sIx z.length z.length hi-HT.sIx z.length 0 lo)).toArray⟩
noncomputable def yJF:V->Option Int->Option Int->Hp->VK->Prop:=fun x lo hi H Q=>∃ z,x=.str z/\z.length<=1000000/\Q (.str (yIc z lo hi)) H
noncomputable def yxM:V->List V->Hp->VK->Prop:=fun x vs H Q=>∃ (z:Str) (c:Nat),x=.str z/\vs=[.str ⟨#[c]⟩]/\z.length<=1000/\c∈z.cps.toList/\Q (.int (z.cps.toList.idxOf c)) H
noncomputable def yJG:List V->Hp->VK->Prop:=fun xs H Q=>∃ (p:Addr) (ns:List Int),xs=[.ref p]/\H p=some (.lst (ns.map V.int))/\Q (.int ns.sum) H
noncomputable def yDx (K:PySem.W.Frag):List V->Hp->VK->Prop:=fun xs H Q=>∃ p ys,xs=[.ref p]/\(SqL K H p ys\/SqT K H p ys)/\∀ l,H l=none->Q (.ref l) (upd H l (.lst ys))
noncomputable def yIO (J:It) (te:TE) (inn:V->St) (D:Addr) (Q:VK) (H:Hp):Prop:=∃ W:Nat->Nat->Hp->Prop,(∃ m,W 0 m H)/\∀ i m H,W i m H ->
 (J.stop i H/\Q (.ref D) H)\/(J.go i H/\∀ x H',J.yld i H x H'->te (inn x) H' fun y H2=>∃ acc,H2 D=some (.lst acc)/\acc.length<sizeLine/\∃ m',m'<m/\W (i+1) m' (upd H2 D (.lst (acc++[y]))))
noncomputable def inner (ix:List Nat) (σ:St) (x:V):St:=some x::ix.map fun i=>(σ[i]?).getD none
noncomputable def yDy (wi:TI) (ix:List Nat) (te:TE):TE:=fun σ H Q=>wi σ H fun J H1=>∀ D,H1 D=none->yIO J te (inner ix σ) D Q (upd H1 D (.lst []))
section
variable {K:PySem.W.Frag}{σ:St}{H:Hp}{Q:VK}{ta tb tc:TE}{tA tB':TT}{t u:TS}{D:Ends}
end
end L2
namespace L2
open PySem
noncomputable def yCh (C:Addr):TE:=fun _ H Q=>∀ x dx,H x=none->H dx=none->dx≠x->Q (.ref x) (upd (upd H dx (.own x)) x (.ins C dx []))
theorem yIP {k:Str}{v:V}{r:List (Str×V)}:List.lookup k ((k,v)::r)=some v:=by simp [List.lookup]
theorem yGg {k k':Str}{v:V}{r:List (Str×V)}(h:¬ k=k'):List.lookup k ((k',v)::r)=List.lookup k r:=by
 have:(k == k')=false:=by simpa using h
 simp [List.lookup,this]
section
variable {K:PySem.W.Frag}{σ:St}{H:Hp}{Q:VK}{ta tb tc:TE}{t u:TS}{D:Ends}
end
end L2
namespace L2
open PySem PySem.Builtin PySem.Builtin.Str
theorem at_one {z:Str}{c i:Nat}:StrLaws.At z ⟨#[c]⟩ z.length i ↔ z.cps.toList[i]?=some c:=by
 unfold StrLaws.At subAt
 have e1:(⟨#[c]⟩:Str).length=1:=rfl
 rw [e1]
 have e2:(z.cps.extract i (i+1) == (⟨#[c]⟩:Str).cps)=true ↔ z.cps.extract i (i+1) = #[c]:=by simp
 rw [e2]
 constructor
 .rintro ⟨h1,h2⟩
  have h3:(z.cps.extract i (i+1)).toList=[c]:=by rw [h2]
  rw [Array.toList_extract,List.extract_eq_take_drop] at h3
  have h4:((z.cps.toList.drop i).take (i+1-i))[0]?=some c:=by rw [h3];rfl
  rw [List.getElem?_take_of_lt (by omega),List.getElem?_drop] at h4
  simpa using h4
 .intro h
  obtain ⟨hlt,hc⟩:=List.getElem?_eq_some_iff.mp h
  have hl:i<z.length:=by simpa [Str.length] using hlt
  refine ⟨by omega,?_⟩
  apply Array.ext'
  rw [Array.toList_extract,List.extract_eq_take_drop]
  have e:i+1-i=1:=by omega
  rw [e,List.drop_eq_getElem_cons hlt,hc]
  rfl
theorem yDz (z:Str) (c:Nat):(occurrences z ⟨#[c]⟩ 0 z.length 1=[]/\c∉z.cps.toList)\/∃ r,occurrences z ⟨#[c]⟩ 0 z.length 1=z.cps.toList.idxOf c::r/\c∈z.cps.toList:=by
 rcases StrLaws.occ_head z ⟨#[c]⟩ 1 (Nat.le_refl _) with ⟨h1,h2⟩|⟨i,r,h1,h2,h3⟩
 .refine .inl ⟨h1,fun hc=>?_⟩
  obtain ⟨i,hi,e⟩:=List.getElem_of_mem hc
  exact h2 i (at_one.mpr (List.getElem?_eq_some_iff.mpr ⟨hi,e⟩))
 .have hi:=at_one.mp h2
  obtain ⟨hlt,hc⟩:=List.getElem?_eq_some_iff.mp hi
  have hm:c∈z.cps.toList:=List.mem_of_getElem? hi
  refine .inr ⟨r,?_,hm⟩
  have hj:z.cps.toList.idxOf c<z.cps.toList.length:=List.idxOf_lt_length_of_mem hm
  have hg:z.cps.toList[z.cps.toList.idxOf c]?=some c:=by
   rw [List.getElem?_eq_getElem hj,List.getElem_idxOf hj]
  have e:i=z.cps.toList.idxOf c:=by
   rcases Nat.lt_trichotomy i (z.cps.toList.idxOf c) with h|h|h
   .exact absurd hc (by
     have:=List.not_of_lt_findIdx (p:=(· == c)) (xs:=z.cps.toList) (i:=i) (by simpa [List.idxOf] using h)
     simpa using this)
   .exact h
   .exact absurd (at_one.mpr hg) (h3 _ h)
  rw [h1,e]
theorem yxN (v:Option Int) (n d:Nat):(match v with|none=>(d:Int)|some i=>max 0 (min (if i<0 then i+(n:Int) else i) (n:Int)))=((HT.sIx n d v:Nat):Int):=by
 cases v with
 | none=>rfl
 | some i =>
  show max 0 (min (if i<0 then i+(n:Int) else i) (n:Int))=(((if i<0 then (i+(n:Int)).toNat else min i.toNat n):Nat):Int)
  split<;>omega
theorem yDA (lo hi:Option Int) (n:Nat):strSliceIndices lo hi 1 n=(List.range (HT.sIx n n hi-HT.sIx n 0 lo)).map (fun k=>HT.sIx n 0 lo+k):=by
 have h1:=yxN lo n 0
 have h2:=yxN hi n n
 generalize HT.sIx n 0 lo=a at *
 generalize HT.sIx n n hi=b at *
 have e:strSliceIndices lo hi 1 n=sliceRange (a:Int) (b:Int) 1:=by
  rw [<- h1,<- h2]
  cases lo<;>cases hi<;>rfl
 rw [e]
 unfold sliceRange
 rw [if_pos (show (1:Int)>0 by decide)]
 have e3:(if (a:Int)<b then ((b:Int)-a+1-1)/1 else 0).toNat=b-a:=by
  split
  .rw [Int.ediv_one];omega
  .omega
 show (List.range (if (a:Int)<b then ((b:Int)-a+1-1)/1 else 0).toNat).map _=_
 rw [e3]
 refine List.map_congr_left fun k _=>?_
 omega
theorem yGh (n:Nat) (hi:Option Int):HT.sIx n n hi<=n:=by
 cases hi with
 | none=>exact Nat.le_refl _
 | some v =>
  show (if v<0 then (v+(n:Int)).toNat else min v.toNat n)<=n
  split<;>omega
theorem yAm (l:List Nat) (a k:Nat) (h:a+k<=l.length):((List.range k).map (fun j=>a+j)).filterMap (fun j=>l[j]?)=(l.drop a).take k:=by
 induction k with
 | zero=>simp
 | succ k ih =>
  rw [List.range_succ,List.map_append,List.filterMap_append,ih (by omega)]
  have hlt:a+k<l.length:=by omega
  simp only [List.map_cons,List.map_nil,List.filterMap_cons,List.filterMap_nil,List.getElem?_eq_getElem hlt]
  rw [List.take_succ,List.getElem?_drop,List.getElem?_eq_getElem hlt]
  rfl
theorem yxO (z:Str) (lo hi:Option Int):Txt.slice z lo hi=yIc z lo hi:=by
 unfold Txt.slice yIc
 rw [yDA]
 have hz:z.cps.toList.length=z.length:=by simp [Str.length]
 have hb:=yGh z.length hi
 generalize HT.sIx z.length 0 lo=a at *
 generalize HT.sIx z.length z.length hi=b at *
 split
 .rename_i h
  have h2:b-a=z.length:=by simpa using h
  have h3:a=0\/z.length=0:=by omega
  obtain ⟨⟨l⟩⟩:=z
  simp only [Str.length,List.size_toArray] at *
  rcases h3 with h3|h3
  .subst h3
   rw [List.drop_zero,h2,List.take_length]
  .have:l=[]:=List.eq_nil_of_length_eq_zero h3
   subst this
   simp
 .congr 2
  by_cases hab:a<=b
  .have:=yAm z.cps.toList a (b-a) (by omega)
   simpa using this
  .have:b-a=0:=by omega
   rw [this]
   simp
end L2
namespace L2
open PySem PySem.Spec PyProof.Rows
theorem yet {env:Env}(y:Str):∀ names:List (Str×NameKind),
  (names.map fun (n,k)=>if (k == NameKind.free && env.scope.kind == .function && env.kindOf n == some .cell) then (n,NameKind.cell) else (n,k)).lookup y
   = (names.lookup y).map fun k=>if (k == NameKind.free && env.scope.kind == .function && env.kindOf y == some .cell) then NameKind.cell else k
 | []=>rfl
 | (n,k)::r=>by
  have ih:=yet (env:=env) y r
  show List.lookup y ((if (k == NameKind.free && env.scope.kind == .function && env.kindOf n == some .cell)=true then (n,NameKind.cell) else (n,k))::_)=_
  cases hx:y == n with
  | true =>
   have e:y=n:=eq_of_beq hx
   subst e
   by_cases hc:(k == NameKind.free && env.scope.kind == .function && env.kindOf y == some .cell)=true
   .rw [if_pos hc]
    simp only [List.lookup_cons,hx,Option.map_some,if_pos hc]
   .rw [if_neg hc]
    simp only [List.lookup_cons,hx,Option.map_some,if_neg hc]
  | false =>
   by_cases hc:(k == NameKind.free && env.scope.kind == .function && env.kindOf n == some .cell)=true
   .rw [if_pos hc];simp only [List.lookup_cons,hx];exact ih
   .rw [if_neg hc];simp only [List.lookup_cons,hx];exact ih
theorem yhr {env:Env}:∀ (names:List (Str×NameKind)) (cs:List (Str×Addr)),(∀ n,(n,NameKind.free)∈names->∃ c,env.cells.lookup n=some c) ->
  ∃ cl,(forIn names cs (fun (x:Str×NameKind) (r:List (Str×Addr))=>if (x.2 == NameKind.free)=true then do let c <- cellOf env x.1;pure (ForInStep.yield ((x.1,c)::r)) else pure (ForInStep.yield r)):Sem (List (Str×Addr)))=pure cl /\
   (∀ y,(y,NameKind.free)∈names->cl.lookup y=env.cells.lookup y)/\(∀ y,(y,NameKind.free)∉names->cl.lookup y=cs.lookup y)
 | [],cs,_=>⟨cs,rfl,fun y h=>by simp at h,fun y _=>rfl⟩
 | (n,k)::r,cs,h=>by
  by_cases hk:k=.free
  .subst hk
   obtain ⟨c,hc⟩:=h n List.mem_cons_self
   obtain ⟨cl,e,h1,h2⟩:=yhr r ((n,c)::cs) fun y hy=>h y (List.mem_cons_of_mem _ hy)
   refine ⟨cl,?_,fun y hy=>?_,fun y hy=>?_⟩
   .rw [List.forIn_cons]
    have e0:cellOf env n=pure c:=by unfold cellOf;rw [hc]
    simp only [beq_self_eq_true,if_true,e0,pure_bind]
    exact e
   .by_cases hr:(y,NameKind.free)∈r
    .exact h1 y hr
    .rw [h2 y hr]
     rcases List.mem_cons.mp hy with z|z
     .cases z
      rw [hc];simp [List.lookup]
     .exact absurd z hr
   .have hr:(y,NameKind.free)∉r:=fun z=>hy (List.mem_cons_of_mem _ z)
    rw [h2 y hr]
    have hn:(y == n)=false:=by
     cases e:y == n with
     | false=>rfl
     | true=>exact absurd (by rw [eq_of_beq e];exact List.mem_cons_self) hy
    simp [List.lookup,hn]
  .obtain ⟨cl,e,h1,h2⟩:=yhr r cs fun y hy=>h y (List.mem_cons_of_mem _ hy)
   have hb:(k == NameKind.free)=false:=by simpa using hk
   refine ⟨cl,?_,fun y hy=>?_,fun y hy=>?_⟩
   .rw [List.forIn_cons]
    simp only [hb,Bool.false_eq_true,if_false,pure_bind]
    exact e
   .rcases List.mem_cons.mp hy with z|z
    .cases z;exact absurd rfl hk
    .exact h1 y z
   .exact h2 y fun z=>hy (List.mem_cons_of_mem _ z)
noncomputable def cxC (X:Cx) (scope:Scope) (cl:List (Str×Addr)) (C:Addr) (N:List Str) (s₃:Shared) (H₃:Hp) (fp:List Addr) (pins:List (Addr×Obj)):Cx :=
 { prog:=X.prog,w:=X.w,K:=X.K,mg:=X.mg,base:=X.base,A:=X.A,N:=N,s₀:=s₃,H₀:=H₃,env:=compEnvC scope cl C X.env,outer:=X.stack,stack:=X.stack,ex:=fp,fn:=fun _=>false,calm:=X.calm,pn:=X.pn++pins,xe:=fun _ _=>False }
noncomputable def FrOk (X:Cx) (scope:Scope):List Nat->List Str->Prop
 | [],[]=>True
 | i::is,y::ys=>X.N[i]?=some y/\scope.names.lookup y=some .free/\X.env.kindOf y=some .cell/\FrOk X scope is ys
 | _,_=>False
theorem FrOk.len {X:Cx}{scope:Scope}:∀ {is:List Nat}{ys:List Str},FrOk X scope is ys->is.length=ys.length
 | [],[],_=>rfl
 | _::is,_::ys,h=>by rw [List.length_cons,List.length_cons,FrOk.len h.2.2.2]
theorem FrOk.get {X:Cx}{scope:Scope}:∀ {is:List Nat}{ys:List Str}{j:Nat}{y:Str},FrOk X scope is ys->ys[j]?=some y->∃ i,is[j]?=some i/\X.N[i]?=some y/\scope.names.lookup y=some .free/\X.env.kindOf y=some .cell
 | [],[],_,_,_,e=>by simp at e
 | [],_::_,_,_,h,_=>h.elim
 | _::_,[],_,_,h,_=>h.elim
 | i::is,z::ys,0,y,h,e=>by
  simp at e
  subst e
  exact ⟨i,rfl,h.1,h.2.1,h.2.2.1⟩
 | i::is,z::ys,j+1,y,h,e=>by
  obtain ⟨k,h1,h2⟩:=FrOk.get (j:=j) h.2.2.2 (by simpa using e)
  exact ⟨k,by simpa using h1,h2⟩
theorem yDB {X:Cx}{elt iter:Expr}{x:Str}{px:Pos}{scope:Scope}{cpos:Pos}{wi:TI}{te:TE}(ix:List Nat) (fr:List Str) (hc:X.calm=true) (hi:PI X (.Name x px) iter wi) (hfr:FrOk X scope ix fr)
  (he:∀ (cl:List (Str×Addr)) (C:Addr) (s₃:Shared) (H₃:Hp) (fp:List Addr) (pins:List (Addr×Obj)),PE (cxC X scope cl C (x::fr) s₃ H₃ fp pins) elt te)
  (hnd:(x::fr).Nodup:=by decide +kernel) (hkind:scope.kind=.function:=by rfl) (hcell:∀ y∈scope.names,y.2≠.cell:=by decide +kernel)
  (hnames:∀ y∈scope.names,y.2=.local->scope.names.lookup y.1=some .local:=by decide +kernel) (hfree0:∀ y∈scope.names,y.2=.free->y.1∈fr:=by decide +kernel) (hx:scope.names.lookup x=some .local:=by rfl)
  (hs:∀ v,foldedSetIterable iter X.env v=pure v:=by intro _;rfl):PE X (.ListComp elt [⟨.Name x px,iter,[],0⟩] scope cpos) (yDy wi ix te):=by
 intro pins s σ H Q I h
 have hfn:X.env.scope.kind=.function:=I.ok.kind
 have hfree:∀ y∈scope.names,y.2=.free->X.env.kindOf y.1=some .cell/\scope.names.lookup y.1=some .free:=fun y hy e=>by
  obtain ⟨j,hj,ej⟩:=List.getElem_of_mem (hfree0 y hy e)
  obtain ⟨i,_,_,h3,h4⟩:=hfr.get (j:=j) (y:=y.1) (by rw [List.getElem?_eq_getElem hj,ej])
  exact ⟨h4,h3⟩
 obtain ⟨cl,ecl,hcl1,hcl2⟩:=yhr (env:=X.env) scope.names [] fun n hn=>I.ok.has n (.inl (hfree _ hn rfl).1)
 have hclos:closureFor scope X.env=pure cl:=by
  unfold closureFor
  have:(forIn scope.names ([]:List (Str×Addr)) (fun (x:Str×NameKind) (r:List (Str×Addr))=>if (x.2 == NameKind.free)=true then do let c <- cellOf X.env x.1;pure (ForInStep.yield ((x.1,c)::r)) else pure (ForInStep.yield r)):Sem (List (Str×Addr)))=pure cl:=ecl
  first
   | exact (by simpa using congrArg (· >>= fun r=>pure r) this)
   | (rw [show (pure cl:Sem (List (Str×Addr)))=(pure cl >>= fun r=>pure r) from rfl,<- this];rfl)
 have hcle:∀ y c,cl.lookup y=some c->X.env.cells.lookup y=some c/\(y,NameKind.free)∈scope.names:=fun y c e=>by
  by_cases hy:(y,NameKind.free)∈scope.names
  .exact ⟨by rw [<- hcl1 y hy];exact e,hy⟩
  .rw [hcl2 y hy] at e;simp at e
 rw [eval_ListComp]
 refine wpAny_comprehension_free (use:=none) rfl hs hclos hkind hnames ?_
 refine thn (hi pins s σ H _ I h) fun v s1 h1=>thn h1 fun itv s2 h2=>?_
 obtain ⟨it,fp,tn,J,H2,e,I2,T,st2,f2,q2⟩:=h2
 subst e
 refine wpAny_newObj_type ?_
 generalize hs3:({ s2 with heap:=s2.heap.push { cls:=.type "list",dict:=none,data:=.seq ([]:List Value).toArray } }:Shared)=s3
 generalize hD:s2.heap.objs.size=D
 have hDn:H2 D=none:=by rw [<- hD];exact I2.hok.fresh (Nat.le_refl _)
 have I3:Inv X pins σ (upd H2 D (.lst [])) s3:=by
  rw [<- hs3,<- hD]
  exact I2.lnew (t':=s2.toks) (ys:=[]) (its:=[]) .nil (Nat.zero_le _)
 have k3:∀ b o,s2.heap.get? b=some o->s3.heap.get? b=some o:=fun b o e=>by rw [<- hs3];exact Heap.get?_push_of_some _ e
 have st3:tn 0 s3.heap:=T.keep _ _ _ st2 fun b _ o e=>k3 b o e
 have fne:∀ b∈fp,b≠D:=fun b hb=>by
  obtain ⟨o,e,_⟩:=T.obj _ _ st2 b hb
  rw [<- hD]
  exact Nat.ne_of_lt (Heap.lt_size e)
 have f3:∀ b∈fp,yxt X pins (upd H2 D (.lst [])) b:=fun b hb=>⟨by rw [ybb (fne b hb)];exact (f2 b hb).1,(f2 b hb).2⟩
 have q3:=q2 D hDn
 generalize upd H2 D (.lst [])=H3 at I3 f3 q3
 obtain ⟨W,⟨m0,w0⟩,turn⟩:=q3
 refine wpAny_newFunctionEnv hcell (by intro y hy;simp at hy) (fun h4 hns hsb=>?_) hkind
 try dsimp only at hns hsb ⊢
 generalize hC:s3.heap.objs.size=C at hns hsb ⊢
 have k4:∀ b o,s3.heap.get? b=some o->h4.get? b=some o:=fun b o e=>(hsb.2 b (by rw [<- hC];exact Nat.ne_of_lt (Heap.lt_size e))).trans (Heap.get?_push_of_some _ e)
 have Cne:∀ b o,s3.heap.get? b=some o->b≠C:=fun b o e=>by rw [<- hC];exact Nat.ne_of_lt (Heap.lt_size e)
 have stk:=I3.stkSub
 have pinF:∀ p∈X.pn++pins,p.1∉frs X.stack:=fun p hp z=>by
  obtain ⟨_,_,n1,n2,_⟩:=I3.pin p hp
  rcases List.mem_cons.mp (stk _ z) with z|z
  .exact n1 z
  .exact n2 z
 have okC:(cxC X scope cl C (x::fr) s3 H3 fp pins).Ok:=by
  refine ⟨I3.ok.mod,by show (relabel scope X.env).kind=_;exact hkind,I3.ok.glob,I3.ok.blt,Nat.le_of_eq hC,fun y z c h1 h2=>I3.ok.inj y z c (hcle y c h1).1 (hcle z c h2).1,fun y hy=>?_,fun y c hf _=>(by cases hf),I3.ok.hd,I3.ok.frames,.inl rfl,fun b hb=>⟨?_,fun y c e z=>?_⟩,I3.bs,?_,fun b o e hb=>?_,fun b hb z=>?_,I3.stack,I3.stkFree⟩
  .have hy:((relabel scope X.env).names.lookup y=some .cell)\/((relabel scope X.env).names.lookup y=some .free):=hy
   rw [show (relabel scope X.env).names.lookup y=_ from yet y scope.names] at hy
   cases e:scope.names.lookup y with
   | none=>rw [e] at hy;simp at hy
   | some k =>
    have hm:(y,k)∈scope.names:=PySem.mem_of_lookup e
    have hkf:k=.free:=by
     rw [e] at hy
     cases k<;>simp at hy ⊢
     exact absurd rfl (hcell _ hm)
    subst hkf
    obtain ⟨c,hc'⟩:=I3.ok.has y (.inl (hfree _ hm rfl).1)
    exact ⟨c,by show cl.lookup y=_;rw [hcl1 y hm];exact hc'⟩
  .obtain ⟨o,e,_⟩:=T.obj _ _ st3 b hb
   exact Cne b o e
  .exact (f3 b hb).2.2.2.2.1 y c (hcle y c e).1 z
  .exact Nat.le_trans I3.ok.bsz I3.sz
  .rcases (f3 b hb).2.2.2.1 with z|z
   .exact I3.ok.noex b o e z
   .exact absurd (Nat.lt_of_lt_of_le (Heap.lt_size e) (Nat.le_trans I3.ok.bsz z)) (Nat.lt_irrefl _)
  .rcases List.mem_cons.mp (stk _ z) with z|z
   .exact (f3 b hb).2.1 z
   .exact (f3 b hb).2.2.1 z
 have inn:∀ v,(inner ix σ v)=some v::ix.map fun i=>(σ[i]?).getD none:=fun _=>rfl
 have I4:Inv (cxC X scope cl C (x::fr) s3 H3 fp pins) [] (none::ix.map fun i=>(σ[i]?).getD none) H3 { s3 with heap:=h4,toks:=s3.toks+([]:List (Str×Value)).length }:=by
  refine ⟨okC,rfl,I3.bare,Un.kept k4,⟨_,hns,fun j y v e1 e2 e3=>?_⟩,fun y c e=>?_,I3.hok.fresh (Nat.le_of_eq hC),fun y c e=>I3.freeC y c (hcle y c e).1,fun p hp=>?_,I3.hok.kept k4,?_⟩
  .match j,e1,e2 with
   | 0,e1,e2=>simp at e2
   | j+1,e1,e2 =>
    obtain ⟨i,hi1,hi2,hi3,hi4⟩:=hfr.get (j:=j) (y:=y) (by have e1':(x::fr)[j+1]?=some y:=e1;simpa using e1')
    have e2':σ[i]?=some (some v):=by
     have e2:(ix.map fun i=>(σ[i]?).getD none)[j]?=some (some v):=by simpa using e2
     rw [List.getElem?_map,hi1] at e2
     simp at e2
     cases z:σ[i]? with
     | none=>rw [z] at e2;simp at e2
     | some o=>rw [z] at e2;simp at e2;rw [e2]
    obtain ⟨m,_,hl⟩:=I3.loc
    obtain ⟨u,r,l⟩:=hl i y v hi2 e2' (.inr (.inl hi4))
    refine ⟨u,r,?_⟩
    rcases l with ⟨k,_⟩|⟨k,c,ec,z⟩
    .rw [hi4] at k;cases k
    .have hm:(y,NameKind.free)∈scope.names:=PySem.mem_of_lookup hi3
     refine .inr ⟨.inl ?_,c,by show cl.lookup y=_;rw [hcl1 y hm];exact ec,?_⟩
     .show (relabel scope X.env).names.lookup y=_
      rw [show (relabel scope X.env).names.lookup y=_ from yet y scope.names,hi3]
      simp [hfn,hi4]
     .obtain ⟨o,ho,hd⟩:=z
      exact ⟨o,k4 _ _ ho,hd⟩
  .obtain ⟨v,o,ho,hd⟩:=I3.cell y c (hcle y c e).1
   exact ⟨v,o,k4 _ _ ho,hd⟩
  .have hp:p∈X.pn++pins:=by simpa [cxC] using hp
   obtain ⟨e,n,ne,nf,d⟩:=I3.pin p hp
   exact ⟨k4 _ _ e,n,Cne _ _ e,pinF p hp,d⟩
  .show (none::ix.map fun i=>(σ[i]?).getD none).length=(x::fr).length
   rw [List.length_cons,List.length_cons,List.length_map,hfr.len]
 have st4:tn 0 h4:=T.keep _ _ _ st3 fun b _ o e=>k4 b o e
 have f4:∀ b∈fp,b≠C/\b∉frs X.stack/\(∀ y c,cl.lookup y=some c->c≠b)/\∀ p∈(X.pn++pins)++([]:List (Addr×Obj)),p.1≠b:=fun b hb=>by
  obtain ⟨o,e,_⟩:=T.obj _ _ st3 b hb
  refine ⟨Cne b o e,fun z=>?_,fun y c e=>(f3 b hb).2.2.2.2.1 y c (hcle y c e).1,fun p hp=>(f3 b hb).2.2.2.2.2 p (by simpa using hp)⟩
  rcases List.mem_cons.mp (stk _ z) with z|z
  .exact (f3 b hb).2.1 z
  .exact (f3 b hb).2.2.1 z
 have stat:∀ {H':Hp},(∀ b∈fp,H' b=none)->∀ b∈fp,yxt (cxC X scope cl C (x::fr) s3 H3 fp pins) [] H' b:=fun hn b hb=>⟨hn b hb,(f4 b hb).1,(f4 b hb).2.1,.inl hb,(f4 b hb).2.2.1,(f4 b hb).2.2.2⟩
 have fin:∀ {σ':St}{H':Hp}{s':Shared},Inv (cxC X scope cl C (x::fr) s3 H3 fp pins) [] σ' H' s'->Q (.ref D) H'->compPost (model X.prog X.w) X.A X.xe none (EP X pins σ Q) (.ref D) C (.ok .next) s':=fun {σ' H' s'} I' q'=>by
  obtain ⟨m,hn,_⟩:=I'.loc
  refine ⟨m,hn,fun h' sb=>⟨.ref D,H',?_,rfl,q'⟩⟩
  have hCn:H' C=none:=I'.free
  have same:∀ b,b≠C->h'.get? b=s'.heap.get? b:=fun b hb=>sb.2 b hb
  have U:=I'.base
  have U':Un (frs X.stack) fp H3 H' s3.heap h':=by
   refine ⟨fun b o e n h1 h2=>?_,fun b o e n h1 h2=>?_,U.free,fun b o e h2=>?_,U.tups,U.frzs,U.tbls⟩
   .rw [same b (Cne b o e)];exact U.keep b o e n h1 h2
   .rw [same b (Cne b o e)];exact U.slot b o e n h1 h2
   .rw [same b (Cne b o e)];exact U.there b o e h2
  refine I3.call' (s':={ s' with heap:=h' }) (by show s'.os=s3.os;exact I'.os) U' ?_ I'.bare fun b hb=>⟨(f3 b hb).2.2.2.1,(f3 b hb).2.1,(f3 b hb).2.2.2.2.1,(f3 b hb).2.2.2.2.2⟩
  intro b ob e
  refine (I'.hok b ob e).stay (fun c w' hc q=>?_) (fun _ q=>q) fun _ _ q=>q
  show h'.get? c=_
  rw [same c ?_]
  .exact q
  rintro rfl
  rcases hc with rfl|hc
  .rw [hCn] at e;cases e
  .rw [hCn] at hc;cases hc
 have loop:∀ s5:Shared,s5={ s3 with heap:=h4,toks:=s3.toks+([]:List (Str×Value)).length } ->
   codeAny (model X.prog X.w) X.A (.compLoop (.ListComp elt [⟨.Name x px,iter,[],0⟩] scope cpos) 0 (.ref it) (.ref D) (compEnvC scope cl C X.env)) (compPost (model X.prog X.w) X.A X.xe none (EP X pins σ Q) (.ref D) C) s5:=by
  rintro s5 rfl
  refine codeAny_loop rfl (fun n s'=>∃ i o H',Inv (cxC X scope cl C (x::fr) s3 H3 fp pins) [] (o::ix.map fun i=>(σ[i]?).getD none) H' s'/\tn i s'.heap/\(∀ b∈fp,H' b=none)/\W i n H') ?_ m0 ⟨0,none,H3,I4,st4,fun b hb=>(f3 b hb).1,w0⟩
  rintro n s6 ⟨i,o,H6,I6,st6,fr6,w6⟩
  show wpAny _ _ ((compTurn (.ListComp elt [⟨.Name x px,iter,[],0⟩] scope cpos) 0 (.ref it) (.ref D) (compEnvC scope cl C X.env)).onRaise (fun x=>do noteFrame x (compEnvC scope cl C X.env);theTreesLotGoes x)) _ _ s6
  refine wpAny_noted ?_
  rw [compTurn_list1]
  rcases turn i n H6 w6 with ⟨stop,qn⟩|⟨go,step⟩
  .refine wpAny_bind (wpAny_standAt (wpAny_bind (thn (T.done (cxC X scope cl C (x::fr) s3 H3 fp pins) rfl rfl rfl hc i [] s6 _ H6 _ I6 (stat fr6) st6 stop) fun r s7 ⟨hr,I7⟩=>?_)))
   subst hr
   exact wpAny_pure (fin I7 qn)
  .refine wpAny_bind (wpAny_standAt (wpAny_bind (thn (T.item (cxC X scope cl C (x::fr) s3 H3 fp pins) rfl rfl rfl hc i [] s6 _ H6 _ I6 (stat fr6) st6 go) fun r s7 ⟨u,hr,h7⟩=>?_)))
   subst hr
   refine wpAny_bind (thn h7 fun _ s8 ⟨y,H8,I8,r8,y8,st8,fr8⟩=>?_)
   have I8':=I8.pinned (stat fr8) (T.obj _ _ st8)
   have hx':Loc (cxC X scope cl C (x::fr) s3 H3 fp pins).env.scope x:=.inl (lookup_relabel_local hx)
   refine wpAny_bind (wpAny_mono (yqm (X:=cxC X scope cl C (x::fr) s3 H3 fp pins) (i:=0) (x:=x) (pos:=px) hnd rfl hx' (.inr (lookup_relabel_local hx)) _ s8 _ H8 y u (fun σ9 H9=>σ9=inner ix σ y/\H9=H8) I8' r8 ⟨rfl,rfl⟩) (fun _ s9 ⟨σ9,H9,I9,e9,e9'⟩=>?_) fun _ _ f=>f.elim)
   subst e9 e9'
   refine wpAny_bind (wpAny_bind (wpAny_mono (he cl C s3 H3 fp pins _ s9 _ _ _ I9 (step y _ y8)) (fun v s10 ⟨z,H10,I10,r10,acc,a10,l10,m',hm',w10⟩=>?_) fun _ _ f=>f.elim))
   refine wpAny_bind (wpAny_mono (ykE (X:=cxC X scope cl C (x::fr) s3 H3 fp pins) _ s10 _ H10 (.ref D) [z] (.ref D) [v] (fun _ H11=>H11=upd H10 D (.lst (acc++[z]))) I10 rfl (.cons r10 .nil) ⟨D,acc,z,rfl,rfl,a10,l10,rfl⟩) (fun _ s11 ⟨_,H11,I11,_,e11⟩=>?_) fun _ _ f=>f.elim)
   subst e11
   refine wpAny_pure (wpAny_pure ⟨rfl,m',hm',i+1,some y,_,I11.unpinned,T.keep _ _ _ st8 fun b hb o e=>(I11.pin (b,o) (List.mem_append_right _ (List.mem_append_right _ (yfy hb e)))).1,fun b hb=>?_,w10⟩)
   obtain ⟨o,e,d⟩:=T.obj _ _ st8 b hb
   exact (I11.pin (b,o) (List.mem_append_right _ (List.mem_append_right _ (yfy hb e)))).2.1
 exact codeAny_compStart_list (loop _ rfl) (T.self X.A 0 _ _ _ st4 (loop _ rfl))
end L2
namespace L2
open PySem PySem.Spec PyProof.Rows
section
variable {X:Cx}{tg:Expr}
theorem yvA (hc:X.calm=true):ykf X (.builtin "sum") yJG:=by
 intro pins s σ H xs us Q I r h
 obtain ⟨p,ns,rfl,hp,q⟩:=h
 obtain ⟨u,rfl,rx⟩:=vals1 r
 cases rx
 obtain ⟨its,n,rv,e,hz⟩:=I.lst hp
 have hi:IntsAre its ns:=intsAre_of rv
 have hl:s.heap.IsList p its.toArray:=⟨_,e,rfl,n,rfl⟩
 obtain ⟨xs,hx⟩:=hi.allInts.items
 have hl':s.heap.IsList p (intItems xs):=hx ▸ hl
 refine sum_intListG (I.ok.hd hc) hl' fun h' tk t' hk=>?_
 have e1:ns=xs.toList.map (·.1):=by
  rw [<- nums_intItems,<- hx]
  exact (show numsOf its.toArray.toList=ns from hi.numsOf).symm
 have e2:preSum (numAt xs) xs.size=ns.sum:=by
  rw [preSum_eq,List.take_of_length_le (by simp),e1]
 rw [e2]
 exact ⟨.int ns.sum,H,I.kept (t':=tk) hk,⟨_,rfl⟩,q⟩
theorem yGi:SlR X yJF:=by
 intro pins s σ H x v vl vu lo hi sl Q I rx hs pl pu h
 obtain ⟨z,rfl,hz,q⟩:=h
 obtain ⟨t,rfl⟩:=rx
 have pv':∀ {w':Value}{o:Option Int},IsPart w' o->∃ p:Option (Int×Tok),w'=partValue p/\p.map (·.1)=o:=fun {w' o} p=>by
  cases p with
  | none=>exact ⟨none,rfl,rfl⟩
  | int i t=>exact ⟨some (i,t),rfl,rfl⟩
 obtain ⟨l,el,ml⟩:=pv' pl
 obtain ⟨u,eu,mu⟩:=pv' pu
 obtain ⟨o,ho,hc,hd⟩:=hs
 refine ⟨"str",_,F.slot_str_getitem.lookup,typeIs_str _ _ _,wpAny_getItem_str_slice (l:=l) (u:=u) (st:=none) ⟨o,ho,hc,by rw [hd,el,eu];rfl⟩ rfl ?_⟩
 have hz':z.length<=sizeLine:=Nat.le_trans hz (by decide)
 have e:∀ t' k,EP X pins σ Q (.str (Txt.slice z lo hi) t') { s with toks:=k }:=fun t' k=>by
  rw [yxO]
  exact ⟨.str _,H,I.tok k,⟨_,rfl⟩,q⟩
 have e2:sliceMade z t l u none=(if ((1:Int) == 1 && (Builtin.Str.strSliceIndices lo hi 1 z.length).length == z.length)=true then Made.val (.str z t) else .str ⟨((Builtin.Str.strSliceIndices lo hi 1 z.length).filterMap (z.cps[·]?)).toArray⟩):=by
  unfold sliceMade slicePicked
  rw [ml,mu]
  rfl
 rw [e2]
 exact post_val_or_str ⟨Nat.le_trans (Txt.slice_le z _ _) hz',e⟩
theorem yAn {C:Addr}{x:Str}{p pos:Pos}(hm:PySem.W.makesIn X.K C=true) (hi:PySem.W.findIn X.K (.ref C) "__init__" = some (some (.builtin "object.__init__"))) (hk:PySem.W.keepIn X.K (.ref C)=true)
  (hg:Gl X x) (hmg:X.mg x=some (.ref C)) (hdb:(x == ("__debug__":Str))=false:=by decide):PE X (.Call (.Name x p) [] [] pos) (yCh C):=by
 intro pins s σ H Q I h
 refine wpAny_Call_Name_kw (ynL I hg hmg ?_ hdb)
 refine PySem.W.callWith_K0 I.kIn hk (wpAny_call ?_)
 have I2:=Inv.made (C:=C) I
 have q:=h (s.heap.objs.size+1) s.heap.objs.size (I.hok.fresh (Nat.le_succ _)) (I.hok.fresh (Nat.le_refl _)) (Nat.ne_of_lt (Nat.lt_succ_self _))
 have kin:=I.kIn
 obtain ⟨hh,g,d,t,os⟩:=s
 have Y:=PySem.W.makes_of (M:=model X.prog X.w) kin hm
 refine PySem.W.make_core Y (PySem.W.looks_findIn kin hi) (fun self=>PySem.W.Looks.of_pure (PySem.W.oi_bind self)) (.inr ⟨rfl,rfl⟩) ?_
 have e1:((hh.push PySem.W.emptyDict).push (PySem.W.instObj C hh.objs.size)).get? (hh.objs.size+1)=some (PySem.W.instObj C hh.objs.size):=by
  have:=Heap.get?_push_size (h:=hh.push PySem.W.emptyDict) (o:=PySem.W.instObj C hh.objs.size) rfl
  rwa [Heap.size_push] at this
 have t1:PySem.W.Looks (model X.prog X.w) ((hh.push PySem.W.emptyDict).push (PySem.W.instObj C hh.objs.size)) (typeOf (.ref (hh.objs.size+1))) (.ref C):=(PySem.W.Looks.ld e1).andThen .now
 have t2:PySem.W.Looks (model X.prog X.w) ((hh.push PySem.W.emptyDict).push (PySem.W.instObj C hh.objs.size)) (isInstance (.ref (hh.objs.size+1)) (.type "object")) true:=t1.andThen (Y.top.keeps fun b o e=>Heap.get?_push_of_some _ (Heap.get?_push_of_some _ e))
 refine codeAny_call_builtin PySem.W.oi_plain PySem.W.entry_oi (@PySem.W.check_slot (model X.prog X.w) _ _ _ "object.__init__" "object" "__init__" (.ref (hh.objs.size+1)) [] [] _ PySem.W.oi_kind PySem.W.oi_split t2 (PySem.W.oi_args (.ref (hh.objs.size+1))) ?_)
 show wpAny _ _ (Builtin.«object.__init__» ⟨[.ref (hh.objs.size+1)],[]⟩) _ _ _
 rw [PySem.W.oi_run]
 exact wpAny_pure (And.intro rfl ⟨.ref _,_,I2,rfl,q⟩)
end
end L2
namespace L2
open PySem PySem.Spec PyProof.Rows
section
variable {X:Cx}
theorem yX:ykf X (.builtin "isinstance") (yJE X.K):=by
 intro pins s σ H xs us Q I r h
 obtain ⟨x,c,b,rfl,⟨t,u',ty,hc,hk⟩,q⟩:=h
 obtain ⟨u,w',rfl,ru,rc⟩:=vals2 r
 have e:w'=u':=by
  cases c<;>first|(cases hc;exact rc)|cases hc
 subst e
 exact yxE I ru ty hk fun tk=>⟨.bl b,H,I.tok tk,rfl,q⟩
end
end L2
namespace L2
open PySem PySem.Spec PyProof.Rows
theorem ykG:bootBuiltins "len" = some (.builtin "len"):=by decide +kernel
theorem yCi:bootBuiltins "sum" = some (.builtin "sum"):=by decide +kernel
theorem yC:bootBuiltins "isinstance" = some (.builtin "isinstance"):=by decide +kernel
theorem yrU:bootBuiltins "int" = some (.type "int"):=by decide +kernel
theorem yCj:bootBuiltins "str" = some (.type "str"):=by decide +kernel
theorem yDC:bootBuiltins "bool" = some (.type "bool"):=by decide +kernel
theorem yeK:bootBuiltins "list" = some (.type "list"):=by decide +kernel
theorem yvB:bootBuiltins "tuple" = some (.type "tuple"):=by decide +kernel
theorem yxP:bootBuiltins "dict" = some (.type "dict"):=by decide +kernel
section
variable {X:Cx}
theorem yDD {x:Str}{n:Int}{t:Tok}{pos:Pos}(hg:Gl X x) (hm:X.mg x=some (.int n t)) (hd:(x == ("__debug__":Str))=false:=by decide):PE X (.Name x pos) (tC (.int n)):=yuc hg hm ⟨t,rfl⟩ hd
theorem yDE {x:Str}{n:Str}{t:Tok}{pos:Pos}(hg:Gl X x) (hm:X.mg x=some (.str n t)) (hd:(x == ("__debug__":Str))=false:=by decide):PE X (.Name x pos) (tC (.str n)):=yuc hg hm ⟨t,rfl⟩ hd
theorem yul {x:Str}{a:Addr}{pos:Pos}(hg:Gl X x) (hm:X.mg x=some (.ref a)) (hd:(x == ("__debug__":Str))=false:=by decide):PE X (.Name x pos) (tC (.ref a)):=yuc hg hm rfl hd
theorem yGj {x:Str}{n:String}{pos:Pos}(hg:Gl X x) (hm:X.mg x=none) (hv:bootBuiltins x=some (.type n)) (hn:x≠"__name__":=by decide) (hd:(x == ("__debug__":Str))=false:=by decide):PE X (.Name x pos) (tC (.ty n)):=yDd hg hm hv rfl hn hd
end
end L2
namespace L2
open PySem PySem.Spec PyProof.Rows
theorem yum {K:PySem.W.Frag}{H:Hp}{i:Int}:IsI K H (.int i) (.ty "str") false:=⟨_,_,.int i,rfl,by with_unfolding_all rfl⟩
theorem yrV {K:PySem.W.Frag}{H:Hp}{i:Int}:IsI K H (.int i) (.ty "list") false:=⟨_,_,.int i,rfl,by with_unfolding_all rfl⟩
theorem yqr {K:PySem.W.Frag}{H:Hp}{i:Int}:IsI K H (.int i) (.ty "tuple") false:=⟨_,_,.int i,rfl,by with_unfolding_all rfl⟩
theorem yrW {K:PySem.W.Frag}{H:Hp}{i:Int}:IsI K H (.int i) (.ty "dict") false:=⟨_,_,.int i,rfl,by with_unfolding_all rfl⟩
theorem yww {K:PySem.W.Frag}{H:Hp}{i:Bool}:IsI K H (.bl i) (.ty "int") true:=⟨_,_,.bl i,rfl,by with_unfolding_all rfl⟩
theorem ywx {K:PySem.W.Frag}{H:Hp}{i:Bool}:IsI K H (.bl i) (.ty "str") false:=⟨_,_,.bl i,rfl,by with_unfolding_all rfl⟩
theorem yun {K:PySem.W.Frag}{H:Hp}{i:Bool}:IsI K H (.bl i) (.ty "list") false:=⟨_,_,.bl i,rfl,by with_unfolding_all rfl⟩
theorem yrX {K:PySem.W.Frag}{H:Hp}{i:Bool}:IsI K H (.bl i) (.ty "tuple") false:=⟨_,_,.bl i,rfl,by with_unfolding_all rfl⟩
theorem yuo {K:PySem.W.Frag}{H:Hp}{i:Bool}:IsI K H (.bl i) (.ty "dict") false:=⟨_,_,.bl i,rfl,by with_unfolding_all rfl⟩
theorem yup {K:PySem.W.Frag}{H:Hp}{i:Str}:IsI K H (.str i) (.ty "int") false:=⟨_,_,.str i,rfl,by with_unfolding_all rfl⟩
theorem yrY {K:PySem.W.Frag}{H:Hp}{i:Str}:IsI K H (.str i) (.ty "bool") false:=⟨_,_,.str i,rfl,by with_unfolding_all rfl⟩
theorem yrZ {K:PySem.W.Frag}{H:Hp}{i:Str}:IsI K H (.str i) (.ty "list") false:=⟨_,_,.str i,rfl,by with_unfolding_all rfl⟩
theorem yqs {K:PySem.W.Frag}{H:Hp}{i:Str}:IsI K H (.str i) (.ty "tuple") false:=⟨_,_,.str i,rfl,by with_unfolding_all rfl⟩
theorem ysa {K:PySem.W.Frag}{H:Hp}{i:Str}:IsI K H (.str i) (.ty "dict") false:=⟨_,_,.str i,rfl,by with_unfolding_all rfl⟩
theorem ysb {K:PySem.W.Frag}{H:Hp}:IsI K H (.non) (.ty "bool") false:=⟨_,_,.non,rfl,by with_unfolding_all rfl⟩
theorem yuq {K:PySem.W.Frag}{H:Hp}:IsI K H (.non) (.ty "str") false:=⟨_,_,.non,rfl,by with_unfolding_all rfl⟩
theorem ysc {K:PySem.W.Frag}{H:Hp}:IsI K H (.non) (.ty "list") false:=⟨_,_,.non,rfl,by with_unfolding_all rfl⟩
theorem yqt {K:PySem.W.Frag}{H:Hp}:IsI K H (.non) (.ty "tuple") false:=⟨_,_,.non,rfl,by with_unfolding_all rfl⟩
theorem ysd {K:PySem.W.Frag}{H:Hp}:IsI K H (.non) (.ty "dict") false:=⟨_,_,.non,rfl,by with_unfolding_all rfl⟩
theorem yur {K:PySem.W.Frag}{H:Hp}{a:Addr}{xs:List V}(e:H a=some (.lst xs)):IsI K H (.ref a) (.ty "int") false:=⟨_,_,.lst e,rfl,by with_unfolding_all rfl⟩
theorem yse {K:PySem.W.Frag}{H:Hp}{a:Addr}{xs:List V}(e:H a=some (.lst xs)):IsI K H (.ref a) (.ty "bool") false:=⟨_,_,.lst e,rfl,by with_unfolding_all rfl⟩
theorem yus {K:PySem.W.Frag}{H:Hp}{a:Addr}{xs:List V}(e:H a=some (.lst xs)):IsI K H (.ref a) (.ty "str") false:=⟨_,_,.lst e,rfl,by with_unfolding_all rfl⟩
theorem yqu {K:PySem.W.Frag}{H:Hp}{a:Addr}{xs:List V}(e:H a=some (.lst xs)):IsI K H (.ref a) (.ty "tuple") false:=⟨_,_,.lst e,rfl,by with_unfolding_all rfl⟩
theorem ysf {K:PySem.W.Frag}{H:Hp}{a:Addr}{xs:List V}(e:H a=some (.lst xs)):IsI K H (.ref a) (.ty "dict") false:=⟨_,_,.lst e,rfl,by with_unfolding_all rfl⟩
theorem yqv {K:PySem.W.Frag}{H:Hp}{a:Addr}(e:(∃ xs,H a=some (.tup xs))\/∃ o,K.lookup a=some o/\o.cls=.type "tuple"):IsI K H (.ref a) (.ty "tuple") true:=e.elim (fun ⟨_,e⟩=>⟨_,_,.tup e,rfl,by with_unfolding_all rfl⟩) fun ⟨_,e,c⟩=>⟨_,_,.kt e c,rfl,by with_unfolding_all rfl⟩
theorem yut {K:PySem.W.Frag}{H:Hp}{a:Addr}(e:(∃ xs,H a=some (.tup xs))\/∃ o,K.lookup a=some o/\o.cls=.type "tuple"):IsI K H (.ref a) (.ty "int") false:=e.elim (fun ⟨_,e⟩=>⟨_,_,.tup e,rfl,by with_unfolding_all rfl⟩) fun ⟨_,e,c⟩=>⟨_,_,.kt e c,rfl,by with_unfolding_all rfl⟩
theorem ysg {K:PySem.W.Frag}{H:Hp}{a:Addr}(e:(∃ xs,H a=some (.tup xs))\/∃ o,K.lookup a=some o/\o.cls=.type "tuple"):IsI K H (.ref a) (.ty "bool") false:=e.elim (fun ⟨_,e⟩=>⟨_,_,.tup e,rfl,by with_unfolding_all rfl⟩) fun ⟨_,e,c⟩=>⟨_,_,.kt e c,rfl,by with_unfolding_all rfl⟩
theorem yuu {K:PySem.W.Frag}{H:Hp}{a:Addr}(e:(∃ xs,H a=some (.tup xs))\/∃ o,K.lookup a=some o/\o.cls=.type "tuple"):IsI K H (.ref a) (.ty "str") false:=e.elim (fun ⟨_,e⟩=>⟨_,_,.tup e,rfl,by with_unfolding_all rfl⟩) fun ⟨_,e,c⟩=>⟨_,_,.kt e c,rfl,by with_unfolding_all rfl⟩
theorem ysh {K:PySem.W.Frag}{H:Hp}{a:Addr}(e:(∃ xs,H a=some (.tup xs))\/∃ o,K.lookup a=some o/\o.cls=.type "tuple"):IsI K H (.ref a) (.ty "list") false:=e.elim (fun ⟨_,e⟩=>⟨_,_,.tup e,rfl,by with_unfolding_all rfl⟩) fun ⟨_,e,c⟩=>⟨_,_,.kt e c,rfl,by with_unfolding_all rfl⟩
theorem ysi {K:PySem.W.Frag}{H:Hp}{a:Addr}(e:(∃ xs,H a=some (.tup xs))\/∃ o,K.lookup a=some o/\o.cls=.type "tuple"):IsI K H (.ref a) (.ty "dict") false:=e.elim (fun ⟨_,e⟩=>⟨_,_,.tup e,rfl,by with_unfolding_all rfl⟩) fun ⟨_,e,c⟩=>⟨_,_,.kt e c,rfl,by with_unfolding_all rfl⟩
end L2
namespace L2
open PySem PySem.Spec PyProof.Rows
theorem yik {K:PySem.W.Frag}{C:Addr}:PySem.W.kitOne K (.ref C) (.ref C)=some true:=by
 unfold PySem.W.kitOne
 have:((Value.ref C) == (Value.ref C))=true:=by simp
 rw [if_pos this]
theorem yAo {K:PySem.W.Frag}{C C':Addr}{b:Bool}(hm:PySem.W.mroIn K C' (.type "object")=some true) (ht:PySem.W.typeIn K (.ref C')=some (.type "type")) (hs:PySem.W.subIn K (.ref C) (.ref C')=some b):PySem.W.kitCls K (.ref C) (.ref C')=some b:=by
 unfold PySem.W.kitCls
 have h1:(PySem.W.clsIn K C').isSome=true:=by
  unfold PySem.W.mroIn at hm
  cases e:PySem.W.clsIn K C' with
  | none=>rw [e] at hm;cases hm
  | some c=>rfl
 have h2:(PySem.W.typeIn K (.ref C') == some (.type "type"))=true:=by rw [ht];simp
 show (if _ then _ else _)=_
 rw [if_pos (by rw [h1,h2];rfl)]
 exact hs
theorem yp {K:PySem.W.Frag}{C C':Addr}(hn:(C == C')=false) (hm:PySem.W.mroIn K C' (.type "object")=some true) (ht:PySem.W.typeIn K (.ref C')=some (.type "type")) (hs:PySem.W.subIn K (.ref C) (.ref C')=some false):PySem.W.kitOne K (.ref C) (.ref C')=some false:=by
 unfold PySem.W.kitOne
 have:¬ ((Value.ref C) == (Value.ref C'))=true:=by
  intro z
  have z:=eq_of_beq z
  cases z
  simp at hn
 rw [if_neg this]
 exact yAo hm ht hs
theorem all_cons {α:Type}{p:α->Prop}{a:α}{l:List α}(h:p a) (t:∀ x∈l,p x):∀ x∈a::l,p x:=fun x hx=>by
 rcases List.mem_cons.mp hx with e|e
 .rw [e];exact h
 .exact t x e
end L2
namespace PX
open PySem L2
structure Ck where
 K:PySem.W.Frag
 A:Nat->Addr
inductive PV where
 | non|bl (b:Bool)|int (i:Int)|str (s:Str)|ty (n:String)|cls (k:Nat)
 | scr (ns:List Int)
 | lst (xs:List PV)|tup (xs:List PV)
 | ins (k:Nat) (ns:List Str) (xs:List PV)
 | loc (n:Nat)
inductive Nd where
 | lst (xs:List PV)|dct (ks:List Key) (xs:List PV)|fz (ks:List Key) (xs:List PV)|ins (k:Nat) (ns:List Str) (xs:List PV)|dead
noncomputable abbrev AH:=List Nd
inductive PVar where|no|val (x:PV)|own (d:Nd)
noncomputable abbrev PSt:=List PVar
inductive Out where|nx (ρ:PSt)|rt (x:PV)|bk (ρ:PSt)|ct (ρ:PSt)
noncomputable abbrev XE:=PSt->AH->Option (PV×AH)
noncomputable abbrev XT:=PSt->AH->Option (Bool×AH)
noncomputable abbrev XA:=PSt->AH->Option (List PV×AH)
noncomputable abbrev XO:=PSt->AH->Option (Nd×AH)
noncomputable abbrev XS:=PSt->AH->Option (Out×AH)
noncomputable abbrev Fn:=List PV->AH->Option (PV×AH)
noncomputable def KTp (K:PySem.W.Frag) (a:Addr) (xs:List V):Prop:=∃ (o:Obj) (its:Array Value) (n:Nat),K.lookup a=some o/\o.cls=.type "tuple"/\o.data=.seq its n/\its.size<=sizeLine/\Vals xs its.toList
noncomputable def TpAt (K:PySem.W.Frag) (F:Hp) (a:Addr) (xs:List V):Prop:=F a=some (.tup xs)\/KTp K a xs
theorem TpAt.mono {K:PySem.W.Frag}{F F':Hp}{a:Addr}{xs:List V}(s:Same F F') (h:TpAt K F a xs):TpAt K F' a xs:=h.elim (fun h=>.inl (s _ _ h)) .inr
mutual
noncomputable def Rep (K:Ck) (F:Hp) (m:List Addr):PV->V->Prop
 | .non,v=>v=.non
 | .bl b,v=>v=.bl b
 | .int i,v=>v=.int i
 | .str s,v=>v=.str s
 | .ty n,v=>v=.ty n
 | .cls k,v=>v=.ref (K.A k)
 | .scr ns,v=>∃ a,v=.ref a/\SqL K.K F a (ns.map V.int)
 | .lst xs,v=>∃ a vs,v=.ref a/\F a=some (.lst vs)/\RepL K F m xs vs
 | .tup xs,v=>∃ a vs,v=.ref a/\TpAt K.K F a vs/\RepL K F m xs vs
 | .ins k ns xs,v=>∃ a dx vs,v=.ref a/\F a=some (.ins (K.A k) dx (ns.zip vs))/\vs.length=ns.length/\RepL K F m xs vs
 | .loc n,v=>∃ a,v=.ref a/\m[n]?=some a
noncomputable def RepL (K:Ck) (F:Hp) (m:List Addr):List PV->List V->Prop
 | [],vs=>vs=[]
 | x::xs,vs=>∃ v r,vs=v::r/\Rep K F m x v/\RepL K F m xs r
end
section
variable {K:Ck}{F F' H H':Hp}{m m':List Addr}
theorem ylM {n:Nat}{a:Addr}(p:m <+: m') (h:m[n]?=some a):m'[n]?=some a:=by
 obtain ⟨r,rfl⟩:=p
 rw [List.getElem?_append_left (List.getElem?_eq_some_iff.mp h).1];exact h
mutual
theorem Rep.mono (s:Same F F') (p:m <+: m'):∀ (x:PV) (v:V),Rep K F m x v->Rep K F' m' x v
 | .non,_,h=>h
 | .bl _,_,h=>h
 | .int _,_,h=>h
 | .str _,_,h=>h
 | .ty _,_,h=>h
 | .cls _,_,h=>h
 | .scr _,_,⟨a,e,h⟩=>⟨a,e,s.seq h⟩
 | .lst xs,_,⟨a,vs,e,h,r⟩=>⟨a,vs,e,s _ _ h,RepL.mono s p xs vs r⟩
 | .tup xs,_,⟨a,vs,e,h,r⟩=>⟨a,vs,e,h.mono s,RepL.mono s p xs vs r⟩
 | .ins _ _ xs,_,⟨a,dx,vs,e,h,l,r⟩=>⟨a,dx,vs,e,s _ _ h,l,RepL.mono s p xs vs r⟩
 | .loc _,_,⟨a,e,h⟩=>⟨a,e,ylM p h⟩
theorem RepL.mono (s:Same F F') (p:m <+: m'):∀ (xs:List PV) (vs:List V),RepL K F m xs vs->RepL K F' m' xs vs
 | [],_,h=>h
 | x::xs,_,⟨v,r,e,h,l⟩=>⟨v,r,e,Rep.mono s p x v h,RepL.mono s p xs r l⟩
end
theorem RepL.len:∀ {xs:List PV}{vs:List V},RepL K F m xs vs->vs.length=xs.length
 | [],_,h=>by rw [show _=[] from h];rfl
 | x::xs,_,⟨v,r,e,h,l⟩=>by rw [e,List.length_cons,List.length_cons,RepL.len l]
theorem RepL.get:∀ {xs:List PV}{vs:List V}{i:Nat}{x:PV},RepL K F m xs vs->xs[i]?=some x->∃ v,vs[i]?=some v/\Rep K F m x v
 | x::xs,_,0,y,⟨v,r,e,h,l⟩,q=>by
  simp at q;subst q;subst e;exact ⟨v,rfl,h⟩
 | x::xs,_,i+1,y,⟨v,r,e,h,l⟩,q=>by
  subst e
  obtain ⟨w,h1,h2⟩:=RepL.get (i:=i) l (by simpa using q)
  exact ⟨w,by simpa using h1,h2⟩
theorem RepL.get' {xs:List PV}{vs:List V}{i:Nat}{v:V}(h:RepL K F m xs vs) (e:vs[i]?=some v):∃ x,xs[i]?=some x/\Rep K F m x v:=by
 have hl:=h.len
 have hi:i<vs.length:=(List.getElem?_eq_some_iff.mp e).1
 have hx:xs[i]?=some xs[i]:=List.getElem?_eq_getElem (by omega)
 obtain ⟨w,h1,h2⟩:=h.get hx
 rw [e] at h1;cases h1
 exact ⟨_,hx,h2⟩
theorem RepL.app:∀ {xs ys:List PV}{vs us:List V},RepL K F m xs vs->RepL K F m ys us->RepL K F m (xs++ys) (vs++us)
 | [],_,_,_,h,k=>by rw [show _=[] from h];exact k
 | x::xs,ys,_,us,⟨v,r,e,h,l⟩,k=>by subst e;exact ⟨v,r++us,rfl,h,RepL.app l k⟩
theorem RepL.snoc {xs:List PV}{vs:List V}{x:PV}{v:V}(h:RepL K F m xs vs) (k:Rep K F m x v):RepL K F m (xs++[x]) (vs++[v]):=h.app ⟨v,[],rfl,k,rfl⟩
theorem RepL.drop:∀ {xs:List PV}{vs:List V}(n:Nat),RepL K F m xs vs->RepL K F m (xs.drop n) (vs.drop n)
 | _,_,0,h=>by simpa using h
 | [],_,n+1,h=>by rw [show _=[] from h];rfl
 | x::xs,_,n+1,⟨v,r,e,h,l⟩=>by subst e;simpa using RepL.drop n l
theorem RepL.take:∀ {xs:List PV}{vs:List V}(n:Nat),RepL K F m xs vs->RepL K F m (xs.take n) (vs.take n)
 | _,_,0,h=>by simp;rfl
 | [],_,n+1,h=>by rw [show _=[] from h];rfl
 | x::xs,_,n+1,⟨v,r,e,h,l⟩=>by subst e;exact ⟨v,r.take n,rfl,h,RepL.take n l⟩
theorem RepL.set:∀ {xs:List PV}{vs:List V}{x:PV}{v:V}(i:Nat),RepL K F m xs vs->Rep K F m x v->RepL K F m (xs.set i x) (vs.set i v)
 | [],_,_,_,_,h,_=>by rw [show _=[] from h];rfl
 | y::xs,_,x,v,0,⟨w,r,e,h,l⟩,k=>by subst e;exact ⟨v,r,rfl,k,l⟩
 | y::xs,_,x,v,i+1,⟨w,r,e,h,l⟩,k=>by subst e;exact ⟨w,r.set i v,rfl,h,RepL.set i l k⟩
theorem RepL.of_ints:∀ (ns:List Int),RepL K F m (ns.map PV.int) (ns.map V.int)
 | []=>rfl
 | n::ns=>⟨_,_,rfl,rfl,RepL.of_ints ns⟩
end
noncomputable def NdAt (K:Ck) (F H:Hp) (m:List Addr):Nd->Addr->Prop
 | .dead,a=>∃ o,H a=some o
 | .lst xs,a=>F a=none/\∃ vs,H a=some (.lst vs)/\RepL K F m xs vs
 | .dct ks xs,a=>F a=none/\∃ vs,H a=some (.dK (ks.zip vs))/\vs.length=ks.length/\RepL K F m xs vs
 | .fz ks xs,a=>F a=none/\∃ o vs,H a=some (.frz o (.dK (ks.zip vs)))/\vs.length=ks.length/\RepL K F m xs vs
 | .ins k ns xs,a=>F a=none/\∃ dx vs,H a=some (.ins (K.A k) dx (ns.zip vs))/\vs.length=ns.length/\RepL K F m xs vs
structure Wd where
 F:Hp
 H:Hp
 m:List Addr
 h:AH
structure WOk (K:Ck) (W:Wd):Prop where
 le:Same W.F W.H
 len:W.m.length=W.h.length
 nd:W.m.Nodup
 at_:∀ (n:Nat) (d:Nd) (a:Addr),W.h[n]?=some d->W.m[n]?=some a->NdAt K W.F W.H W.m d a
structure Le (K:Ck) (W W':Wd):Prop where
 ok:WOk K W'
 fs:Same W.F W'.F
 pre:W.m <+: W'.m
 keep:∀ b o,W.H b=some o->b∉W.m->W'.H b=some o
 new:∀ b o,W.H b=some o->b∉W.m->W.F b=none->W'.F b=none
 mn:∀ b∈W'.m,b∉W.m->W.H b=none
 fz:∀ (n:Nat) (ks:List Key) (xs:List PV),W.h[n]?=some (.fz ks xs)->W'.h[n]?=some (.fz ks xs)/\∀ a,W.m[n]?=some a->W'.H a=W.H a
theorem Le.refl {K:Ck}{W:Wd}(h:WOk K W):Le K W W:=⟨h,Same.refl _,List.prefix_refl _,fun _ _ e _=>e,fun _ _ _ _ e=>e,fun _ h h'=>absurd h h',fun _ _ _ e=>⟨e,fun _ _=>rfl⟩⟩
theorem Le.trans {K:Ck}{W W1 W2:Wd}(a:Le K W W1) (b:Le K W1 W2):Le K W W2 where
 ok:=b.ok
 fs:=a.fs.trans b.fs
 pre:=a.pre.trans b.pre
 keep:=fun c o e n=>b.keep c o (a.keep c o e n) fun z=>by rw [a.mn c z n] at e;cases e
 new:=fun c o e n f=>b.new c o (a.keep c o e n) (fun z=>by rw [a.mn c z n] at e;cases e) (a.new c o e n f)
 mn:=fun c z n=>by
  by_cases hc:c∈W1.m
  .exact a.mn c hc n
  .have:=b.mn c z hc
   cases e:W.H c with
   | none=>rfl
   | some o=>rw [a.keep c o e n] at this;cases this
 fz:=fun n ks xs e=>by
  obtain ⟨e1,q1⟩:=a.fz n ks xs e
  obtain ⟨e2,q2⟩:=b.fz n ks xs e1
  exact ⟨e2,fun c em=>(q2 c (ylM a.pre em)).trans (q1 c em)⟩
noncomputable abbrev yfa (K:Ck) (W:Wd) (x:PV) (v:V):Prop:=Rep K W.F W.m x v
noncomputable abbrev yfw (K:Ck) (W:Wd) (x:List PV) (v:List V):Prop:=RepL K W.F W.m x v
theorem Le.rep {K:Ck}{W W':Wd}(l:Le K W W') {x:PV}{v:V}(h:yfa K W x v):yfa K W' x v:=Rep.mono l.fs l.pre x v h
theorem Le.repL {K:Ck}{W W':Wd}(l:Le K W W') {x:List PV}{v:List V}(h:yfw K W x v):yfw K W' x v:=RepL.mono l.fs l.pre x v h
theorem NdAt.mono {K:Ck}{F F' H H':Hp}{m m':List Addr}(s:Same F F') (p:m <+: m') {d:Nd}{a:Addr}(hH:∀ o,H a=some o->H' a=some o) (hF:F a=none->F' a=none) (h:NdAt K F H m d a):NdAt K F' H' m' d a:=by
 cases d with
 | dead=>obtain ⟨o,e⟩:=h;exact ⟨o,hH _ e⟩
 | lst xs=>obtain ⟨f,vs,e,r⟩:=h;exact ⟨hF f,vs,hH _ e,RepL.mono s p _ _ r⟩
 | dct ks xs=>obtain ⟨f,vs,e,l,r⟩:=h;exact ⟨hF f,vs,hH _ e,l,RepL.mono s p _ _ r⟩
 | fz ks xs=>obtain ⟨f,o,vs,e,l,r⟩:=h;exact ⟨hF f,o,vs,hH _ e,l,RepL.mono s p _ _ r⟩
 | ins C ns xs=>obtain ⟨f,dx,vs,e,l,r⟩:=h;exact ⟨hF f,dx,vs,hH _ e,l,RepL.mono s p _ _ r⟩
theorem NdAt.some {K:Ck}{F H:Hp}{m:List Addr}{d:Nd}{a:Addr}(h:NdAt K F H m d a):∃ o,H a=some o:=by
 cases d with
 | dead=>exact h
 | lst xs=>obtain ⟨f,vs,e,r⟩:=h;exact ⟨_,e⟩
 | dct ks xs=>obtain ⟨f,vs,e,r⟩:=h;exact ⟨_,e⟩
 | fz ks xs=>obtain ⟨f,o,vs,e,r⟩:=h;exact ⟨_,e⟩
 | ins C ns xs=>obtain ⟨f,dx,vs,e,r⟩:=h;exact ⟨_,e⟩
structure Good (K:Ck) (W0 W:Wd) (ρ:PSt) (σ:St):Prop where
 le:Le K W0 W
 len:σ.length=ρ.length
 val:∀ (i:Nat) (x:PV),ρ[i]?=some (.val x)->∃ v,σ[i]?=some (some v)/\yfa K W x v
 own:∀ (i:Nat) (d:Nd),ρ[i]?=some (.own d)->∃ p,σ[i]?=some (some (.ref p))/\p∉W.m/\W0.H p=none/\d≠.dead/\NdAt K W.F W.H W.m d p
 ne:∀ (i j:Nat) (d d':Nd),i≠j->ρ[i]?=some (.own d)->ρ[j]?=some (.own d')->σ[i]?≠σ[j]?
theorem Good.ok {K:Ck}{W0 W:Wd}{ρ:PSt}{σ:St}(g:Good K W0 W ρ σ):WOk K W:=g.le.ok
theorem Good.step {K:Ck}{W0 W W':Wd}{ρ:PSt}{σ:St}(g:Good K W0 W ρ σ) (l:Le K W W'):Good K W0 W' ρ σ where
 le:=g.le.trans l
 len:=g.len
 val:=fun i x e=>let ⟨v,h1,h2⟩:=g.val i x e;⟨v,h1,l.rep h2⟩
 own:=fun i d e=>by
  obtain ⟨p,h1,h2,h3,h4,h5⟩:=g.own i d e
  obtain ⟨o,ho⟩:=h5.some
  have n':p∉W'.m:=fun z=>by rw [l.mn p z h2] at ho;cases ho
  refine ⟨p,h1,n',h3,h4,h5.mono l.fs l.pre (fun o e=>l.keep p o e h2) fun f=>l.new p o ho h2 f⟩
 ne:=g.ne
theorem WOk.some {K:Ck}{W:Wd}(w:WOk K W) {a:Addr}(h:a∈W.m):∃ o,W.H a=some o:=by
 obtain ⟨n,hn,e⟩:=List.getElem_of_mem h
 have hl:n<W.h.length:=by rw [<- w.len];exact hn
 exact (w.at_ n W.h[n] a (List.getElem?_eq_getElem hl) (by rw [List.getElem?_eq_getElem hn,e])).some
theorem Le.fresh {K:Ck}{W W':Wd}(l:Le K W W') {p:Addr}(h:W'.H p=none):W.H p=none:=by
 cases e:W.H p with
 | none=>rfl
 | some o =>
  by_cases hm:p∈W.m
  .obtain ⟨o,q⟩:=l.ok.some (l.pre.subset hm)
   rw [h] at q;cases q
  .rw [l.keep p o e hm] at h;cases h
theorem WOk.out {K:Ck}{W:Wd}(w:WOk K W) {p:Addr}(h:W.H p=none):p∉W.m:=fun z=>by
 obtain ⟨o,q⟩:=w.some z
 rw [h] at q;cases q
theorem WOk.ff {K:Ck}{W:Wd}(w:WOk K W) {p:Addr}(h:W.H p=none):W.F p=none:=Same.free w.le h
structure Lf (K:Ck) (W W':Wd):Prop where
 fs:Same W.F W'.F
 pre:W.m <+: W'.m
 fz:∀ (n:Nat) (ks:List Key) (xs:List PV),W.h[n]?=some (.fz ks xs)->W'.h[n]?=some (.fz ks xs)/\∀ a,W.m[n]?=some a->W'.H a=W.H a
theorem Le.lf {K:Ck}{W W':Wd}(l:Le K W W'):Lf K W W':=⟨l.fs,l.pre,l.fz⟩
theorem Lf.refl {K:Ck}{W:Wd}:Lf K W W:=⟨Same.refl _,List.prefix_refl _,fun _ _ _ e=>⟨e,fun _ _=>rfl⟩⟩
theorem Lf.trans {K:Ck}{W W1 W2:Wd}(a:Lf K W W1) (b:Lf K W1 W2):Lf K W W2:=⟨a.fs.trans b.fs,a.pre.trans b.pre,fun n ks xs e=>by
  obtain ⟨e1,q1⟩:=a.fz n ks xs e
  obtain ⟨e2,q2⟩:=b.fz n ks xs e1
  exact ⟨e2,fun c em=>(q2 c (ylM a.pre em)).trans (q1 c em)⟩⟩
theorem Lf.rep {K:Ck}{W W':Wd}(l:Lf K W W') {x:PV}{v:V}(h:yfa K W x v):yfa K W' x v:=Rep.mono l.fs l.pre x v h
noncomputable def ydx (K:Ck) (t:TE) (e:XE):Prop:=∀ (W0 W:Wd) (ρ:PSt) (σ:St) (Q:VK) (x:PV) (h':AH),Good K W0 W ρ σ->e ρ W.h=some (x,h') ->
 (∀ v W',W'.h=h'->Le K W W'->yfa K W' x v->Q v W'.H)->t σ W.H Q
noncomputable def ytX (K:Ck) (t:TT) (e:XT):Prop:=∀ (W0 W:Wd) (ρ:PSt) (σ:St) (Q:Bool->Hp->Prop) (x:Bool) (h':AH),Good K W0 W ρ σ->e ρ W.h=some (x,h') ->
 (∀ W',W'.h=h'->Le K W W'->Q x W'.H)->t σ W.H Q
noncomputable def ytY (K:Ck) (t:TA) (e:XA):Prop:=∀ (W0 W:Wd) (ρ:PSt) (σ:St) (Q:List V->Hp->Prop) (x:List PV) (h':AH),Good K W0 W ρ σ->e ρ W.h=some (x,h') ->
 (∀ v W',W'.h=h'->Le K W W'->yfw K W' x v->Q v W'.H)->t σ W.H Q
noncomputable def yvC (K:Ck) (t:TE) (e:XO):Prop:=∀ (W0 W:Wd) (ρ:PSt) (σ:St) (Q:VK) (d:Nd) (h':AH),Good K W0 W ρ σ->e ρ W.h=some (d,h') ->
 (∀ p W',W'.h=h'->Le K W W'->p∉W'.m->W.H p=none->d≠.dead->NdAt K W'.F W'.H W'.m d p->Q (.ref p) W'.H)->t σ W.H Q
noncomputable def Ends.Ok (K:Ck) (W0 W:Wd) (D:Ends) (h':AH):Out->Prop
 | .nx ρ'=>∀ W' σ',W'.h=h'->Lf K W W'->Good K W0 W' ρ' σ'->D.nx σ' W'.H
 | .bk ρ'=>∀ W' σ',W'.h=h'->Lf K W W'->Good K W0 W' ρ' σ'->D.bk σ' W'.H
 | .ct ρ'=>∀ W' σ',W'.h=h'->Lf K W W'->Good K W0 W' ρ' σ'->D.ct σ' W'.H
 | .rt x=>∀ W' v,W'.h=h'->Le K W0 W'->yfa K W' x v->D.rt v W'.H
noncomputable def ylK (K:Ck) (t:TS) (s:XS):Prop:=∀ (W0 W:Wd) (ρ:PSt) (σ:St) (D:Ends) (o:Out) (h':AH),Good K W0 W ρ σ->s ρ W.h=some (o,h')->Ends.Ok K W0 W D h' o->t D σ W.H
noncomputable def ob {α β:Type}(o:Option (α×AH)) (f:α->AH->Option β):Option β:=o.bind fun q=>f q.1 q.2
theorem yn {α β:Type}{o:Option (α×AH)}{f:α->AH->Option β}{b:β}(h:ob o f=some b):∃ x h',o=some (x,h')/\f x h'=some b:=by
 obtain ⟨⟨x,h'⟩,e,k⟩:=Option.bind_eq_some_iff.mp h
 exact ⟨x,h',e,k⟩
theorem yIQ {α β:Type}{x:α}{h:AH}{f:α->AH->Option β}:ob (some (x,h)) f=f x h:=rfl
end PX
namespace PX
open PySem L2
variable {K:Ck}
noncomputable def yh (i:Nat):XE:=fun ρ h=>match ρ[i]? with|some (.val x)=>some (x,h)|_=>none
noncomputable def xC (x:PV):XE:=fun _ h=>some (x,h)
noncomputable abbrev P2:=PV->PV->AH->Option (PV×AH)
noncomputable abbrev P2O:=PV->PV->AH->Option (Nd×AH)
noncomputable def xOp (p:P2) (a b:XE):XE:=fun ρ h=>ob (a ρ h) fun x h1=>ob (b ρ h1) fun y h2=>p x y h2
noncomputable def yCk (p:P2O) (a b:XE):XO:=fun ρ h=>ob (a ρ h) fun x h1=>ob (b ρ h1) fun y h2=>p x y h2
noncomputable def xUn (p:PV->AH->Option (PV×AH)) (a:XE):XE:=fun ρ h=>ob (a ρ h) fun x h1=>p x h1
noncomputable def oB (x:PV) (h:AH):Option (Bool×AH):=match x with|.bl b=>some (b,h)|_=>none
noncomputable def yU (a:XE):XT:=fun ρ h=>ob (a ρ h) oB
noncomputable def ywy (a b:XE):XE:=fun ρ h=>ob (a ρ h) fun x h1=>ob (oB x h1) fun k h1=>if k=true then b ρ h1 else some (.bl false,h1)
noncomputable def yAp (a:XE):XE:=fun ρ h=>ob (a ρ h) fun x h1=>ob (oB x h1) fun k h1=>some (.bl (!k),h1)
noncomputable def yIR (a b:XT):XT:=fun ρ h=>ob (a ρ h) fun k h1=>if k=true then b ρ h1 else some (false,h1)
noncomputable def xOr (a b:XT):XT:=fun ρ h=>ob (a ρ h) fun k h1=>if k=true then some (true,h1) else b ρ h1
noncomputable def yDF (a:XT):XT:=fun ρ h=>ob (a ρ h) fun k h1=>some (!k,h1)
noncomputable def xIf (c:XT) (a b:XE):XE:=fun ρ h=>ob (c ρ h) fun k h1=>if k=true then a ρ h1 else b ρ h1
noncomputable def yu:XA:=fun _ h=>some ([],h)
noncomputable def yd (a:XE) (r:XA):XA:=fun ρ h=>ob (a ρ h) fun x h1=>ob (r ρ h1) fun xs h2=>some (x::xs,h2)
noncomputable def ykg (a:XA):XE:=fun ρ h=>ob (a ρ h) fun xs h1=>if xs.length<=1000 then some (.tup xs,h1) else none
noncomputable def ymo (a:XA):XO:=fun ρ h=>ob (a ρ h) fun xs h1=>if xs.length<=1000 then some (.lst xs,h1) else none
noncomputable def xFz (e:XO):XE:=fun ρ h=>ob (e ρ h) fun d h1=>match d with|.lst xs=>some (.lst xs,h1)|.ins k ns xs=>some (.ins k ns xs,h1)|_=>none
noncomputable def ymp (e:XO):XE:=fun ρ h=>ob (e ρ h) fun d h1=>some (.loc h1.length,h1++[d])
noncomputable def ydt (f:Fn) (a:XA):XE:=fun ρ h=>ob (a ρ h) f
noncomputable def xCB (p:List PV->AH->Option (PV×AH)) (a:XA):XE:=fun ρ h=>ob (a ρ h) p
noncomputable def ypf (p:List PV->AH->Option (Nd×AH)) (a:XA):XO:=fun ρ h=>ob (a ρ h) p
noncomputable abbrev PM:=PV->List PV->AH->Option (PV×AH)
noncomputable def xBM (c:PV->AH->Bool) (p:PM) (o:XE) (a:XA):XE:=fun ρ h=>ob (o ρ h) fun x h1=>if c x h1=true then ob (a ρ h1) fun xs h2=>p x xs h2 else none
noncomputable def ylN (e:XE):PSt->AH->Option (Option Int×AH):=fun ρ h=>ob (e ρ h) fun x h1=>match x with|.int i=>some (some i,h1)|_=>none
noncomputable def ynT:PSt->AH->Option (Option Int×AH):=fun _ h=>some (none,h)
noncomputable def xSl (p:PV->Option Int->Option Int->AH->Option (PV×AH)) (e:XE) (lo hi:PSt->AH->Option (Option Int×AH)):XE:=fun ρ h=>ob (e ρ h) fun x h1=>ob (lo ρ h1) fun l h2=>ob (hi ρ h2) fun u h3=>p x l u h3
noncomputable def yCl (p:PV->Option Int->Option Int->AH->Option (Nd×AH)) (e:XE) (lo hi:PSt->AH->Option (Option Int×AH)):XO:=fun ρ h=>ob (e ρ h) fun x h1=>ob (lo ρ h1) fun l h2=>ob (hi ρ h2) fun u h3=>p x l u h3
noncomputable def ygF (K:Ck) (r:R2) (p:P2):Prop:=∀ (W:Wd) (x y:PV) (v u:V) (Q:VK) (z:PV) (h':AH),WOk K W->yfa K W x v->yfa K W y u->p x y W.h=some (z,h')->(∀ w W',W'.h=h'->Le K W W'->yfa K W' z w->Q w W'.H)->r v u W.H Q
noncomputable def ywz (K:Ck) (W:Wd) (d:Nd) (h':AH) (Q:VK):Prop:=∀ p W',W'.h=h'->Le K W W'->p∉W'.m->W.H p=none->d≠.dead->NdAt K W'.F W'.H W'.m d p->Q (.ref p) W'.H
noncomputable def yxQ (K:Ck) (r:R2) (p:P2O):Prop:=∀ (W:Wd) (x y:PV) (v u:V) (Q:VK) (d:Nd) (h':AH),WOk K W->yfa K W x v->yfa K W y u->p x y W.h=some (d,h')->ywz K W d h' Q->r v u W.H Q
noncomputable def yDG (K:Ck) (r:V->Hp->VK->Prop) (p:PV->AH->Option (PV×AH)):Prop:=∀ (W:Wd) (x:PV) (v:V) (Q:VK) (z:PV) (h':AH),WOk K W->yfa K W x v->p x W.h=some (z,h')->(∀ w W',W'.h=h'->Le K W W'->yfa K W' z w->Q w W'.H)->r v W.H Q
noncomputable def yqw (K:Ck) (r:List V->Hp->VK->Prop) (p:List PV->AH->Option (PV×AH)):Prop:=∀ (W:Wd) (xs:List PV) (vs:List V) (Q:VK) (z:PV) (h':AH),WOk K W->yfw K W xs vs->p xs W.h=some (z,h')->(∀ w W',W'.h=h'->Le K W W'->yfa K W' z w->Q w W'.H)->r vs W.H Q
noncomputable def ysj (K:Ck) (r:List V->Hp->VK->Prop) (p:List PV->AH->Option (Nd×AH)):Prop:=∀ (W:Wd) (xs:List PV) (vs:List V) (Q:VK) (d:Nd) (h':AH),WOk K W->yfw K W xs vs->p xs W.h=some (d,h')->ywz K W d h' Q->r vs W.H Q
noncomputable def ysk (K:Ck) (T:String) (c:PV->AH->Bool) (r:V->List V->Hp->VK->Prop) (p:PM):Prop :=
 (∀ (W:Wd) (x:PV) (v:V),WOk K W->yfa K W x v->c x W.h=true->tyV K.K T v W.H) /\
 ∀ (W:Wd) (x:PV) (v:V) (xs:List PV) (vs:List V) (Q:VK) (z:PV) (h':AH),WOk K W->yfa K W x v->yfw K W xs vs->p x xs W.h=some (z,h')->(∀ w W',W'.h=h'->Le K W W'->yfa K W' z w->Q w W'.H)->r v vs W.H Q
theorem yDH (i:Nat):ydx K (yBV i) (yh i):=by
 intro W0 W ρ σ Q x h' g e q
 unfold yh at e
 split at e
 .rename_i y hy
  cases e
  obtain ⟨v,h1,h2⟩:=g.val i _ hy
  exact ⟨v,h1,q v W rfl (.refl g.ok) h2⟩
 .cases e
theorem ywA {v:V}{x:PV}(h:∀ W:Wd,yfa K W x v):ydx K (tC v) (xC x):=by
 intro W0 W ρ σ Q y h' g e q
 cases e
 exact q v W rfl (.refl g.ok) (h W)
theorem yxR {i:Int}:ydx K (tC (.int i)) (xC (.int i)):=ywA fun _=>rfl
theorem yxS {i:Str}:ydx K (tC (.str i)) (xC (.str i)):=ywA fun _=>rfl
theorem yGk {i:Bool}:ydx K (tC (.bl i)) (xC (.bl i)):=ywA fun _=>rfl
theorem yDI:ydx K (tC .non) (xC .non):=ywA fun _=>rfl
theorem yGl {n:String}:ydx K (tC (.ty n)) (xC (.ty n)):=ywA fun _=>rfl
theorem yDJ {k:Nat}:ydx K (tC (.ref (K.A k))) (xC (.cls k)):=ywA fun _=>rfl
section
variable {ta tb tc:TE}{ea eb ec:XE}{t:TA}{e:XA}
theorem yvD {r:R2}{p:P2}(o:ygF K r p) (a:ydx K ta ea) (b:ydx K tb eb):ydx K (tOp r ta tb) (xOp p ea eb):=by
 intro W0 W ρ σ Q z h' g e q
 obtain ⟨x,h1,e1,f1⟩:=yn e
 obtain ⟨y,h2,e2,f2⟩:=yn f1
 refine a W0 W ρ σ _ x h1 g e1 fun v W1 w1 l1 r1=>?_
 subst w1
 refine b W0 W1 ρ σ _ y h2 (g.step l1) e2 fun u W2 w2 l2 r2=>?_
 subst w2
 exact o W2 x y v u Q z h' l2.ok (l2.rep r1) r2 f2 fun w W3 w3 l3 r3=>q w W3 w3 (l1.trans (l2.trans l3)) r3
theorem ylO {W W1:Wd}{d:Nd}{h':AH}{Q:VK}(l:Le K W W1) (q:ywz K W d h' Q):ywz K W1 d h' Q:=fun p W' e l' n f=>q p W' e (l.trans l') n (l.fresh f)
theorem yDK {r:R2}{p:P2O}(o:yxQ K r p) (a:ydx K ta ea) (b:ydx K tb eb):yvC K (tOp r ta tb) (yCk p ea eb):=by
 intro W0 W ρ σ Q z h' g e q
 obtain ⟨x,h1,e1,f1⟩:=yn e
 obtain ⟨y,h2,e2,f2⟩:=yn f1
 refine a W0 W ρ σ _ x h1 g e1 fun v W1 w1 l1 r1=>?_
 subst w1
 refine b W0 W1 ρ σ _ y h2 (g.step l1) e2 fun u W2 w2 l2 r2=>?_
 subst w2
 exact o W2 x y v u Q z h' l2.ok (l2.rep r1) r2 f2 (ylO (l1.trans l2) q)
theorem yGm {r} {p} (o:yDG K r p) (a:ydx K ta ea):ydx K (tUn r ta) (xUn p ea):=by
 intro W0 W ρ σ Q z h' g e q
 obtain ⟨x,h1,e1,f1⟩:=yn e
 refine a W0 W ρ σ _ x h1 g e1 fun v W1 w1 l1 r1=>?_
 subst w1
 exact o W1 x v Q z h' l1.ok r1 f1 fun w W3 w3 l3 r3=>q w W3 w3 (l1.trans l3) r3
theorem yuv {x:PV}{h:AH}{k:Bool}{h':AH}(e:oB x h=some (k,h')):x=.bl k/\h'=h:=by
 unfold oB at e
 split at e
 .cases e;exact ⟨rfl,rfl⟩
 .cases e
theorem ynB (a:ydx K ta ea):ytX K (yFY ta) (yU ea):=by
 intro W0 W ρ σ Q k h' g e q
 obtain ⟨x,h1,e1,f1⟩:=yn e
 obtain ⟨rfl,rfl⟩:=yuv f1
 exact a W0 W ρ σ _ _ _ g e1 fun v W1 w1 l1 r1=>⟨k,r1,q W1 w1 l1⟩
theorem yGn (a:ydx K ta ea):ytX K (tB ta) (yU ea):=ynB a
theorem yAq (a:ydx K ta ea) (b:ydx K tb eb):ydx K (yFK ta tb) (ywy ea eb):=by
 intro W0 W ρ σ Q z h' g e q
 obtain ⟨x,h1,e1,f1⟩:=yn e
 obtain ⟨k,h1',e1',f2⟩:=yn f1
 obtain ⟨rfl,rfl⟩:=yuv e1'
 refine a W0 W ρ σ _ _ _ g e1 fun v W1 w1 l1 r1=>⟨k,r1,?_⟩
 subst w1
 cases k with
 | false =>
  rw [if_neg (by decide)] at f2 ⊢
  cases f2
  exact q _ W1 rfl l1 rfl
 | true =>
  rw [if_pos rfl] at f2 ⊢
  exact b W0 W1 ρ σ _ z h' (g.step l1) f2 fun v W2 w2 l2 r2=>q v W2 w2 (l1.trans l2) r2
theorem yAr (a:ydx K ta ea):ydx K (yFL ta) (yAp ea):=by
 intro W0 W ρ σ Q z h' g e q
 obtain ⟨x,h1,e1,f1⟩:=yn e
 obtain ⟨k,h1',e1',f2⟩:=yn f1
 obtain ⟨rfl,rfl⟩:=yuv e1'
 cases f2
 exact a W0 W ρ σ _ _ _ g e1 fun v W1 w1 l1 r1=>⟨k,r1,q _ W1 w1 l1 rfl⟩
section
variable {tA tB':TT}{eA eB:XT}
theorem yDL (a:ytX K tA eA) (b:ytX K tB' eB):ytX K (yJp tA tB') (yIR eA eB):=by
 intro W0 W ρ σ Q z h' g e q
 obtain ⟨k,h1,e1,f1⟩:=yn e
 refine a W0 W ρ σ _ _ _ g e1 fun W1 w1 l1=>?_
 subst w1
 cases k with
 | false =>
  rw [if_neg (by decide)] at f1 ⊢
  cases f1
  exact q W1 rfl l1
 | true =>
  rw [if_pos rfl] at f1 ⊢
  exact b W0 W1 ρ σ _ z h' (g.step l1) f1 fun W2 w2 l2=>q W2 w2 (l1.trans l2)
theorem yGo (a:ytX K tA eA) (b:ytX K tB' eB):ytX K (tOr tA tB') (xOr eA eB):=by
 intro W0 W ρ σ Q z h' g e q
 obtain ⟨k,h1,e1,f1⟩:=yn e
 refine a W0 W ρ σ _ _ _ g e1 fun W1 w1 l1=>?_
 subst w1
 cases k with
 | true =>
  rw [if_pos rfl] at f1 ⊢
  cases f1
  exact q W1 rfl l1
 | false =>
  rw [if_neg (by decide)] at f1 ⊢
  exact b W0 W1 ρ σ _ z h' (g.step l1) f1 fun W2 w2 l2=>q W2 w2 (l1.trans l2)
theorem yDM (a:ytX K tA eA):ytX K (yIm tA) (yDF eA):=by
 intro W0 W ρ σ Q z h' g e q
 obtain ⟨k,h1,e1,f1⟩:=yn e
 cases f1
 exact a W0 W ρ σ _ _ _ g e1 fun W1 w1 l1=>q W1 w1 l1
theorem yGp (c:ytX K tA eA) (a:ydx K ta ea) (b:ydx K tb eb):ydx K (tIf tA ta tb) (xIf eA ea eb):=by
 intro W0 W ρ σ Q z h' g e q
 obtain ⟨k,h1,e1,f1⟩:=yn e
 refine c W0 W ρ σ _ _ _ g e1 fun W1 w1 l1=>?_
 subst w1
 cases k with
 | true =>
  rw [if_pos rfl] at f1 ⊢
  exact a W0 W1 ρ σ _ z h' (g.step l1) f1 fun v W2 w2 l2 r2=>q v W2 w2 (l1.trans l2) r2
 | false =>
  rw [if_neg (by decide)] at f1 ⊢
  exact b W0 W1 ρ σ _ z h' (g.step l1) f1 fun v W2 w2 l2 r2=>q v W2 w2 (l1.trans l2) r2
end
theorem ynU:ytY K yDp yu:=by
 intro W0 W ρ σ Q z h' g e q
 cases e
 exact q [] W rfl (.refl g.ok) rfl
theorem yvE (a:ydx K ta ea) (r:ytY K t e):ytY K (yxF ta t) (yd ea e):=by
 intro W0 W ρ σ Q z h' g e q
 obtain ⟨x,h1,e1,f1⟩:=yn e
 obtain ⟨xs,h2,e2,f2⟩:=yn f1
 cases f2
 refine a W0 W ρ σ _ x h1 g e1 fun v W1 w1 l1 r1=>?_
 subst w1
 exact r W0 W1 ρ σ _ xs _ (g.step l1) e2 fun vs W2 w2 l2 r2=>q (v::vs) W2 w2 (l1.trans l2) ⟨v,vs,rfl,l2.rep r1,r2⟩
noncomputable def yFs (W:Wd) (p:Addr) (o:HO):Wd:=⟨upd W.F p o,upd W.H p o,W.m,W.h⟩
theorem yDN {W:Wd}{p:Addr}{o:HO}(w:WOk K W) (h:W.H p=none):Le K W (yFs W p o):=by
 have hm:=w.out h
 have hf:=w.ff h
 have sF:Same W.F (upd W.F p o):=yhq hf o
 refine ⟨⟨?_,w.len,w.nd,fun n d a e1 e2=>?_⟩,sF,List.prefix_refl _,fun b u e _=>yhq h o b u e,fun b u e _ f=>?_,fun b z n=>absurd z n,fun n ks xs e1=>⟨e1,fun a e2=>ybb fun z=>hm (z ▸ List.mem_of_getElem? e2)⟩⟩
 .intro b u e
  show upd W.H p o b=some u
  by_cases hb:b=p
  .subst hb;rw [show (yFs W b o).F b=upd W.F b o b from rfl,yS] at e;rw [yS];exact e
  .rw [show (yFs W p o).F b=upd W.F p o b from rfl,ybb hb] at e;rw [ybb hb];exact w.le _ _ e
 .have ha:a≠p:=fun z=>hm (z ▸ List.mem_of_getElem? e2)
  exact (w.at_ n d a e1 e2).mono sF (List.prefix_refl _) (fun u e=>by rw [show (yFs W p o).H a=upd W.H p o a from rfl,ybb ha];exact e) fun f=>(ybb ha).trans f
 .have:b≠p:=yco e h
  rw [show (yFs W p o).F b=upd W.F p o b from rfl,ybb this];exact f
noncomputable def ypg (W:Wd) (p:Addr) (o:HO):Wd:=⟨W.F,upd W.H p o,W.m,W.h⟩
theorem ygr {W:Wd}{p:Addr}{o:HO}(w:WOk K W) (h:W.H p=none):Le K W (ypg W p o):=by
 have hm:=w.out h
 refine ⟨⟨?_,w.len,w.nd,fun n d a e1 e2=>?_⟩,Same.refl _,List.prefix_refl _,fun b u e _=>yhq h o b u e,fun b u e _ f=>f,fun b z n=>absurd z n,fun n ks xs e1=>⟨e1,fun a e2=>ybb fun z=>hm (z ▸ List.mem_of_getElem? e2)⟩⟩
 .exact fun b u e=>yhq h o b u (w.le _ _ e)
 .exact (w.at_ n d a e1 e2).mono (Same.refl _) (List.prefix_refl _) (fun u e=>yhq h o _ _ e) id
theorem small {n:Nat}(h:n<=1000):n<=sizeLine:=Nat.le_of_lt (yrR h)
theorem yDO (a:ytY K t e):ydx K (yJz t) (ykg e):=by
 intro W0 W ρ σ Q z h' g e q
 obtain ⟨xs,h1,e1,f1⟩:=yn e
 split at f1
 .rename_i hl
  cases f1
  refine a W0 W ρ σ _ xs _ g e1 fun vs W1 w1 l1 r1=>⟨small (by rw [r1.len];exact hl),fun p hp=>?_⟩
  have l2:=yDN (o:=.tup vs) l1.ok hp
  exact q (.ref p) (yFs W1 p (.tup vs)) w1 (l1.trans l2) ⟨p,vs,rfl,.inl yS,l2.repL r1⟩
 .cases f1
theorem yDP (a:ytY K t e):yvC K (yJA t) (ymo e):=by
 intro W0 W ρ σ Q z h' g e q
 obtain ⟨xs,h1,e1,f1⟩:=yn e
 split at f1
 .rename_i hl
  cases f1
  refine a W0 W ρ σ _ xs _ g e1 fun vs W1 w1 l1 r1=>⟨small (by rw [r1.len];exact hl),fun p hp=>?_⟩
  have l2:=ygr (o:=.lst vs) l1.ok hp
  exact q p (ypg W1 p (.lst vs)) w1 (l1.trans l2) (l1.ok.out hp) (l1.fresh hp) (fun z=>by cases z) ⟨l1.ok.ff hp,vs,yS,r1⟩
 .cases f1
noncomputable def yAs (W:Wd) (p:Addr) (o:HO):Wd:=⟨upd W.F p o,W.H,W.m,W.h⟩
theorem yxT {W:Wd}{p:Addr}{o:HO}(w:WOk K W) (h:W.H p=some o) (hm:p∉W.m) (hf:W.F p=none):WOk K (yAs W p o)/\Same W.F (upd W.F p o):=by
 have sF:Same W.F (upd W.F p o):=yhq hf o
 refine ⟨⟨?_,w.len,w.nd,fun n d a e1 e2=>?_⟩,sF⟩
 .intro b u e
  by_cases hb:b=p
  .subst hb;rw [show (yAs W b o).F b=upd W.F b o b from rfl,yS] at e;cases e;exact h
  .rw [show (yAs W p o).F b=upd W.F p o b from rfl,ybb hb] at e;exact w.le _ _ e
 .have ha:a≠p:=fun z=>hm (z ▸ List.mem_of_getElem? e2)
  exact (w.at_ n d a e1 e2).mono sF (List.prefix_refl _) (fun u e=>e) fun f=>(ybb ha).trans f
theorem yuw {W W1:Wd}{p:Addr}{o:HO}(l:Le K W W1) (h:W1.H p=some o) (hm:p∉W1.m) (hf:W1.F p=none) (hn:W.H p=none):Le K W (yAs W1 p o):=by
 obtain ⟨k,sF⟩:=yxT l.ok h hm hf
 refine ⟨k,l.fs.trans sF,l.pre,l.keep,fun b u e n f=>?_,l.mn,l.fz⟩
 have:b≠p:=yco e hn
 rw [show (yAs W1 p o).F b=upd W1.F p o b from rfl,ybb this];exact l.new b u e n f
theorem yGq {o:XO}(a:yvC K ta o):ydx K ta (xFz o):=by
 intro W0 W ρ σ Q z h' g e q
 obtain ⟨d,h1,e1,f1⟩:=yn e
 refine a W0 W ρ σ _ d h1 g e1 fun p W1 w1 l1 hm hn hd at_=>?_
 split at f1
 .rename_i xs
  cases f1
  obtain ⟨hf,vs,hp,r⟩:=at_
  have l2:=yuw l1 hp hm hf hn
  exact q (.ref p) (yAs W1 p (.lst vs)) w1 l2 ⟨p,vs,rfl,yS,RepL.mono (yhq hf _) (List.prefix_refl _) _ _ r⟩
 .rename_i k ns xs
  cases f1
  obtain ⟨hf,dx,vs,hp,hl,r⟩:=at_
  have l2:=yuw l1 hp hm hf hn
  exact q (.ref p) (yAs W1 p _) w1 l2 ⟨p,dx,vs,rfl,yS,hl,RepL.mono (yhq hf _) (List.prefix_refl _) _ _ r⟩
 .cases f1
theorem yxU {o:XO}(a:yvC K ta o):ydx K ta (ymp o):=by
 intro W0 W ρ σ Q z h' g e q
 obtain ⟨d,h1,e1,f1⟩:=yn e
 cases f1
 refine a W0 W ρ σ _ d h1 g e1 fun p W1 w1 l1 hm hn hd at_=>?_
 subst w1
 have pre:W1.m <+: W1.m++[p]:=List.prefix_append _ _
 refine q (.ref p) ⟨W1.F,W1.H,W1.m++[p],W1.h++[d]⟩ rfl ⟨⟨l1.ok.le,?_,?_,fun n d' a e1 e2=>?_⟩,l1.fs,l1.pre.trans pre,l1.keep,l1.new,fun b z n=>?_,fun n ks xs e1=>⟨by
  have:=(l1.fz n ks xs e1).1
  show (W1.h++[d])[n]?=_
  rw [List.getElem?_append_left (List.getElem?_eq_some_iff.mp this).1];exact this,(l1.fz n ks xs e1).2⟩⟩ ⟨p,rfl,?_⟩
 .show (W1.m++[p]).length=(W1.h++[d]).length
  rw [List.length_append,List.length_append,l1.ok.len];rfl
 .show (W1.m++[p]).Nodup
  rw [List.nodup_append]
  refine ⟨l1.ok.nd,by simp,?_⟩
  intro a ha b hb
  simp at hb
  subst hb
  exact fun z=>hm (z ▸ ha)
 .have e1:(W1.h++[d])[n]?=some d':=e1
  have e2:(W1.m++[p])[n]?=some a:=e2
  by_cases hlt:n<W1.h.length
  .rw [List.getElem?_append_left hlt] at e1
   rw [List.getElem?_append_left (by rw [l1.ok.len];exact hlt)] at e2
   exact (l1.ok.at_ n d' a e1 e2).mono (Same.refl _) pre (fun _ f1=>f1) id
  .rw [List.getElem?_append_right (by omega)] at e1
   rw [List.getElem?_append_right (by rw [l1.ok.len];omega)] at e2
   rw [l1.ok.len] at e2
   cases hk:n-W1.h.length with
   | zero =>
    rw [hk] at e1 e2
    simp at e1 e2
    subst e1 e2
    exact at_.mono (Same.refl _) pre (fun _ f1=>f1) id
   | succ k=>rw [hk] at e1;simp at e1
 .have z:b∈W1.m++[p]:=z
  rcases List.mem_append.mp z with z|z
  .exact l1.mn b z n
  .simp at z;subst z;exact hn
 .show (W1.m++[p])[W1.h.length]?=some p
  rw [<- l1.ok.len];simp
noncomputable def spE (K:Ck) (n:Nat) (f:Fn):Sp:=fun vs H Q _=>∃ (W:Wd) (xs:List PV) (x:PV) (h':AH),W.H=H/\WOk K W/\yfw K W xs vs/\xs.length=n/\f xs W.h=some (x,h')/\∀ v W',W'.h=h'->Le K W W'->yfa K W' x v->Q v W'.H
theorem yAt {n:Nat}{f:Fn}{ex:XK}(a:ytY K t e) (hn:∀ ρ h xs h',e ρ h=some (xs,h')->xs.length=n):ydx K (yAh (spE K n f) [] ex t) (ydt f e):=by
 intro W0 W ρ σ Q z h' g e' q
 obtain ⟨xs,h1,e1,e2⟩:=yn e'
 refine a W0 W ρ σ _ xs h1 g e1 fun vs W1 w1 l1 r1=>?_
 subst w1
 rw [List.append_nil]
 exact ⟨W1,xs,z,h',rfl,l1.ok,r1,hn _ _ _ _ e1,e2,fun v W2 w2 l2 r2=>q v W2 w2 (l1.trans l2) r2⟩
theorem yux:∀ ρ h xs h',yu ρ h=some (xs,h')->xs.length=0:=fun ρ h xs h' e=>by cases e;rfl
theorem yAu {n:Nat}(l:∀ ρ h xs h',e ρ h=some (xs,h')->xs.length=n):∀ ρ h xs h',yd ea e ρ h=some (xs,h')->xs.length=n+1:=fun ρ h xs h' q=>by
 obtain ⟨x,h1,e1,q⟩:=yn q
 obtain ⟨ys,h2,e2,q⟩:=yn q
 cases q
 rw [List.length_cons,l _ _ _ _ e2]
theorem yCm {r} {p} (o:yqw K r p) (a:ytY K t e):ydx K (tCB r t) (xCB p e):=by
 intro W0 W ρ σ Q z h' g e' q
 obtain ⟨xs,h1,e1,e2⟩:=yn e'
 refine a W0 W ρ σ _ xs h1 g e1 fun vs W1 w1 l1 r1=>?_
 subst w1
 exact o W1 xs vs Q z h' l1.ok r1 e2 fun v W2 w2 l2 r2=>q v W2 w2 (l1.trans l2) r2
theorem yxV {r} {p} (o:ysj K r p) (a:ytY K t e):yvC K (tCB r t) (ypf p e):=by
 intro W0 W ρ σ Q z h' g e' q
 obtain ⟨xs,h1,e1,e2⟩:=yn e'
 refine a W0 W ρ σ _ xs h1 g e1 fun vs W1 w1 l1 r1=>?_
 subst w1
 exact o W1 xs vs Q z h' l1.ok r1 e2 (ylO l1 q)
theorem yCn {T:String}{c} {r} {p} (o:ysk K T c r p) (b:ydx K ta ea) (a:ytY K t e):ydx K (tBM K.K T r ta t) (xBM c p ea e):=by
 intro W0 W ρ σ Q z h' g e' q
 obtain ⟨x,h1,e1,f1⟩:=yn e'
 split at f1
 .rename_i hc
  obtain ⟨xs,h2,e2,f2⟩:=yn f1
  refine b W0 W ρ σ _ x h1 g e1 fun v W1 w1 l1 r1=>⟨o.1 W1 x v l1.ok r1 (by rw [w1];exact hc),?_⟩
  subst w1
  refine a W0 W1 ρ σ _ xs h2 (g.step l1) e2 fun vs W2 w2 l2 r2=>?_
  subst w2
  exact o.2 W2 x v xs vs Q z h' l2.ok (l2.rep r1) r2 f2 fun w W3 w3 l3 r3=>q w W3 w3 (l1.trans (l2.trans l3)) r3
 .cases f1
theorem yDQ {T:String}{c} {r} {p} (o:ysk K T c r p) (b:ydx K ta ea):ydx K (yIB K.K T r ta) (xBM c p ea yu):=yCn (t:=yDp) o b ynU
end
noncomputable def yCo (K:Ck) (t:TO) (e:PSt->AH->Option (Option Int×AH)):Prop:=∀ (W0 W:Wd) (ρ:PSt) (σ:St) (Q:Option Int->Hp->Prop) (x:Option Int) (h':AH),Good K W0 W ρ σ->e ρ W.h=some (x,h') ->
 (∀ W',W'.h=h'->Le K W W'->Q x W'.H)->t σ W.H Q
theorem ywB:yCo K yxH ynT:=by
 intro W0 W ρ σ Q z h' g e q
 cases e
 exact q W rfl (.refl g.ok)
theorem yAv {ta:TE}{ea:XE}(a:ydx K ta ea):yCo K (yGc ta) (ylN ea):=by
 intro W0 W ρ σ Q z h' g e q
 obtain ⟨x,h1,e1,f1⟩:=yn e
 split at f1
 .rename_i i
  cases f1
  exact a W0 W ρ σ _ _ _ g e1 fun v W1 w1 l1 r1=>⟨i,r1,q W1 w1 l1⟩
 .cases f1
noncomputable def yDR (K:Ck) (r:V->Option Int->Option Int->Hp->VK->Prop) (p:PV->Option Int->Option Int->AH->Option (PV×AH)):Prop:=∀ (W:Wd) (x:PV) (v:V) (lo hi:Option Int) (Q:VK) (z:PV) (h':AH),WOk K W->yfa K W x v->p x lo hi W.h=some (z,h')->(∀ w W',W'.h=h'->Le K W W'->yfa K W' z w->Q w W'.H)->r v lo hi W.H Q
noncomputable def yxW (K:Ck) (r:V->Option Int->Option Int->Hp->VK->Prop) (p:PV->Option Int->Option Int->AH->Option (Nd×AH)):Prop:=∀ (W:Wd) (x:PV) (v:V) (lo hi:Option Int) (Q:VK) (d:Nd) (h':AH),WOk K W->yfa K W x v->p x lo hi W.h=some (d,h')->ywz K W d h' Q->r v lo hi W.H Q
theorem yGr {r} {p} {ta:TE}{ea:XE}{tl th:TO}{el eh} (o:yDR K r p) (a:ydx K ta ea) (b:yCo K tl el) (c:yCo K th eh):ydx K (tSl r ta tl th) (xSl p ea el eh):=by
 intro W0 W ρ σ Q z h' g e q
 obtain ⟨x,h1,e1,f1⟩:=yn e
 obtain ⟨l,h2,e2,f2⟩:=yn f1
 obtain ⟨u,h3,e3,f3⟩:=yn f2
 refine a W0 W ρ σ _ x h1 g e1 fun v W1 w1 l1 r1=>?_
 subst w1
 refine b W0 W1 ρ σ _ l h2 (g.step l1) e2 fun W2 w2 l2=>?_
 subst w2
 refine c W0 W2 ρ σ _ u h3 (g.step (l1.trans l2)) e3 fun W3 w3 l3=>?_
 subst w3
 exact o W3 x v l u Q z h' l3.ok ((l2.trans l3).rep r1) f3 fun w W4 w4 l4 r4=>q w W4 w4 (l1.trans (l2.trans (l3.trans l4))) r4
theorem yDS {r} {p} {ta:TE}{ea:XE}{tl th:TO}{el eh} (o:yxW K r p) (a:ydx K ta ea) (b:yCo K tl el) (c:yCo K th eh):yvC K (tSl r ta tl th) (yCl p ea el eh):=by
 intro W0 W ρ σ Q z h' g e q
 obtain ⟨x,h1,e1,f1⟩:=yn e
 obtain ⟨l,h2,e2,f2⟩:=yn f1
 obtain ⟨u,h3,e3,f3⟩:=yn f2
 refine a W0 W ρ σ _ x h1 g e1 fun v W1 w1 l1 r1=>?_
 subst w1
 refine b W0 W1 ρ σ _ l h2 (g.step l1) e2 fun W2 w2 l2=>?_
 subst w2
 refine c W0 W2 ρ σ _ u h3 (g.step (l1.trans l2)) e3 fun W3 w3 l3=>?_
 subst w3
 exact o W3 x v l u Q z h' l3.ok ((l2.trans l3).rep r1) f3 (ylO (l1.trans (l2.trans l3)) q)
end PX
namespace PX
open PySem L2
variable {K:Ck}
noncomputable def ybQ:XS:=fun ρ h=>some (.nx ρ,h)
noncomputable def yB (s u:XS):XS:=fun ρ h=>ob (s ρ h) fun o h1=>match o with|.nx ρ'=>u ρ' h1|.rt x=>some (.rt x,h1)|.bk ρ'=>some (.bk ρ',h1)|.ct ρ'=>some (.ct ρ',h1)
noncomputable def yfz (e:XE):XS:=fun ρ h=>ob (e ρ h) fun _ h1=>some (.nx ρ,h1)
noncomputable def ycN (e:XE):XS:=fun ρ h=>ob (e ρ h) fun x h1=>some (.rt x,h1)
noncomputable def ydH (c:XT) (s u:XS):XS:=fun ρ h=>ob (c ρ h) fun k h1=>if k=true then s ρ h1 else u ρ h1
noncomputable abbrev XG:=PV->PSt->Option PSt
noncomputable abbrev XGs:=List PV->PSt->Option PSt
noncomputable def yJ (i:Nat):XG:=fun x ρ=>some (ρ.set i (.val x))
noncomputable def yGs:XGs:=fun xs ρ=>match xs with|[]=>some ρ|_=>none
noncomputable def yuy (g:XG) (r:XGs):XGs:=fun xs ρ=>match xs with|[]=>none|x::xs=>(g x ρ).bind fun ρ'=>r xs ρ'
noncomputable def yFt (n:Nat) (g:XGs):XG:=fun x ρ=>match x with|.tup xs=>if xs.length=n then g xs ρ else none|_=>none
noncomputable def yes (e:XE) (g:XG):XS:=fun ρ h=>ob (e ρ h) fun x h1=>(g x ρ).bind fun ρ'=>some (.nx ρ',h1)
noncomputable def yuz (e:XO) (i:Nat):XS:=fun ρ h=>ob (e ρ h) fun d h1=>some (.nx (ρ.set i (.own d)),h1)
noncomputable def yAw:PVar->PVar
 | .own (.lst xs)=>.val (.lst xs)
 | .own (.ins k ns xs)=>.val (.ins k ns xs)
 | v=>v
noncomputable def yuA (i:Nat) (ρ:PSt):PSt:=ρ.modify i yAw
noncomputable def yDT (i:Nat) (s:XS):XS:=fun ρ h=>s (yuA i ρ) h
noncomputable def ykh (i:Nat) (e:XE):XS:=fun ρ h=>match ρ[i]? with
 | some (.own (.lst xs))=>ob (e ρ h) fun x h1=>if xs.length<100000 then some (.nx (ρ.set i (.own (.lst (xs++[x])))),h1) else none
 | _=>none
noncomputable def yph (g:XG) (s:XS):List PV->PSt->AH->Option (Out×AH)
 | [],ρ,h=>some (.nx ρ,h)
 | x::xs,ρ,h=>(g x ρ).bind fun ρ1=>ob (s ρ1 h) fun o h1=>match o with|.nx ρ'=>yph g s xs ρ' h1|.ct ρ'=>yph g s xs ρ' h1|.bk ρ'=>some (.nx ρ',h1)|.rt y=>some (.rt y,h1)
noncomputable def yAx (it:XA) (g:XG) (s:XS):XS:=fun ρ h=>ob (it ρ h) fun xs h1=>yph g s xs ρ h1
noncomputable def whl (c:XT) (s:XS):Nat->PSt->AH->Option (Out×AH)
 | 0,_,_=>none
 | n+1,ρ,h=>ob (c ρ h) fun k h1=>if k=true then ob (s ρ h1) fun o h2=>(match o with|.nx ρ'=>whl c s n ρ' h2|.ct ρ'=>whl c s n ρ' h2|.bk ρ'=>some (.nx ρ',h2)|.rt y=>some (.rt y,h2)) else some (.nx ρ,h1)
noncomputable def ysl (fuel:Nat) (c:XT) (s:XS):XS:=fun ρ h=>whl c s fuel ρ h
noncomputable def yho (N:Nat) (s:XS):Fn:=fun xs h=>ob (s (xs.map .val++List.replicate (N-xs.length) .no) h) fun o h1=>match o with|.rt x=>some (x,h1)|.nx _=>some (.non,h1)|_=>none
noncomputable def yzQ (ρ:PSt) (i:Nat):PVar:=match ρ[i]? with|some (.val y)=>.val y|_=>.no
noncomputable def yAy (ix:List Nat) (ρ:PSt) (x:PV):PSt:=.val x::ix.map (yzQ ρ)
noncomputable def yAz (e:XE) (inn:PV->PSt):List PV->AH->Option (List PV×AH)
 | [],h=>some ([],h)
 | x::xs,h=>ob (e (inn x) h) fun y h1=>ob (yAz e inn xs h1) fun ys h2=>some (y::ys,h2)
noncomputable def ywC (it:XA) (ix:List Nat) (e:XE):XO:=fun ρ h=>ob (it ρ h) fun xs h1=>if xs.length<=100000 then ob (yAz e (yAy ix ρ) xs h1) fun ys h2=>some (.lst ys,h2) else none
theorem Ends.Ok.from_ {W0 W W1:Wd}{D:Ends}{h':AH}{o:Out}(l:Lf K W W1) (k:Ends.Ok K W0 W D h' o):Ends.Ok K W0 W1 D h' o:=by
 cases o with
 | nx ρ=>exact fun W' σ' e l' g=>k W' σ' e (l.trans l') g
 | bk ρ=>exact fun W' σ' e l' g=>k W' σ' e (l.trans l') g
 | ct ρ=>exact fun W' σ' e l' g=>k W' σ' e (l.trans l') g
 | rt x=>exact k
section
variable {ta tb:TE}{ea eb:XE}{t u:TS}{s s':XS}{tA:TT}{eA:XT}
theorem yAA:ylK K yFP ybQ:=by
 intro W0 W ρ σ D o h' g e q
 cases e
 exact q W σ rfl .refl g
theorem yDU (a:ylK K t s) (b:ylK K u s'):ylK K (yIo t u) (yB s s'):=by
 intro W0 W ρ σ D o h' g e q
 obtain ⟨o1,h1,e1,f1⟩:=yn e
 refine a W0 W ρ σ _ o1 h1 g e1 ?_
 cases o1 with
 | nx ρ'=>exact fun W' σ' w l g'=>b W0 W' ρ' σ' D o h' g' (by rw [w];exact f1) (q.from_ l)
 | rt x=>cases f1;exact q
 | bk ρ'=>cases f1;exact q
 | ct ρ'=>cases f1;exact q
theorem yAB (a:ydx K ta ea):ylK K (yAa ta) (yfz ea):=by
 intro W0 W ρ σ D o h' g e q
 obtain ⟨x,h1,e1,f1⟩:=yn e
 cases f1
 exact a W0 W ρ σ _ x _ g e1 fun v W1 w1 l1 r1=>q W1 σ w1 l1.lf (g.step l1)
theorem yDV (a:ydx K ta ea):ylK K (yJq ta) (ycN ea):=by
 intro W0 W ρ σ D o h' g e q
 obtain ⟨x,h1,e1,f1⟩:=yn e
 cases f1
 exact a W0 W ρ σ _ x _ g e1 fun v W1 w1 l1 r1=>q W1 v w1 (g.le.trans l1) r1
theorem yDW (c:ytX K tA eA) (a:ylK K t s) (b:ylK K u s'):ylK K (yJr tA t u) (ydH eA s s'):=by
 intro W0 W ρ σ D o h' g e q
 obtain ⟨k,h1,e1,f1⟩:=yn e
 refine c W0 W ρ σ _ k h1 g e1 fun W1 w1 l1=>?_
 subst w1
 cases k with
 | true =>
  rw [if_pos rfl] at f1 ⊢
  exact a W0 W1 ρ σ D o h' (g.step l1) f1 (q.from_ l1.lf)
 | false =>
  rw [if_neg (by decide)] at f1 ⊢
  exact b W0 W1 ρ σ D o h' (g.step l1) f1 (q.from_ l1.lf)
theorem Good.set {W0 W:Wd}{ρ:PSt}{σ:St}(g:Good K W0 W ρ σ) (i:Nat) {x:PV}{v:V}(r:yfa K W x v):Good K W0 W (ρ.set i (.val x)) (σ.set i (some v)) where
 le:=g.le
 len:=by simp [g.len]
 val:=fun j y e=>by
  by_cases hj:i=j
  .subst hj
   by_cases hl:i<ρ.length
   .rw [List.getElem?_set_self hl] at e
    cases e
    exact ⟨v,List.getElem?_set_self (by rw [g.len];exact hl),r⟩
   .rw [List.getElem?_eq_none (by simp;omega)] at e;cases e
  .rw [List.getElem?_set_ne hj] at e
   obtain ⟨w,h1,h2⟩:=g.val j y e
   exact ⟨w,by rw [List.getElem?_set_ne hj];exact h1,h2⟩
 own:=fun j d e=>by
  by_cases hj:i=j
  .subst hj
   by_cases hl:i<ρ.length
   .rw [List.getElem?_set_self hl] at e;cases e
   .rw [List.getElem?_eq_none (by simp;omega)] at e;cases e
  .rw [List.getElem?_set_ne hj] at e
   obtain ⟨p,h1,h2⟩:=g.own j d e
   exact ⟨p,by rw [List.getElem?_set_ne hj];exact h1,h2⟩
 ne:=fun j k d d' hjk e1 e2=>by
  have f:∀ {j:Nat}{d:Nd},(ρ.set i (.val x))[j]?=some (.own d)->i≠j/\ρ[j]?=some (.own d):=fun {j d} e=>by
   by_cases hj:i=j
   .subst hj
    by_cases hl:i<ρ.length
    .rw [List.getElem?_set_self hl] at e;cases e
    .rw [List.getElem?_eq_none (by simp;omega)] at e;cases e
   .rw [List.getElem?_set_ne hj] at e;exact ⟨hj,e⟩
  obtain ⟨a1,a2⟩:=f e1
  obtain ⟨b1,b2⟩:=f e2
  rw [List.getElem?_set_ne a1,List.getElem?_set_ne b1]
  exact g.ne j k d d' hjk a2 b2
theorem Good.setO {W0 W:Wd}{ρ:PSt}{σ:St}(g:Good K W0 W ρ σ) (i:Nat) {d:Nd}{p:Addr}(hm:p∉W.m) (h0:W0.H p=none) (hd:d≠.dead) (at_:NdAt K W.F W.H W.m d p)
  (ne:∀ j d',i≠j->ρ[j]?=some (.own d')->σ[j]?≠some (some (.ref p))):Good K W0 W (ρ.set i (.own d)) (σ.set i (some (.ref p))) where
 le:=g.le
 len:=by simp [g.len]
 val:=fun j y e=>by
  by_cases hj:i=j
  .subst hj
   by_cases hl:i<ρ.length
   .rw [List.getElem?_set_self hl] at e;cases e
   .rw [List.getElem?_eq_none (by simp;omega)] at e;cases e
  .rw [List.getElem?_set_ne hj] at e
   obtain ⟨w,h1,h2⟩:=g.val j y e
   exact ⟨w,by rw [List.getElem?_set_ne hj];exact h1,h2⟩
 own:=fun j d' e=>by
  by_cases hj:i=j
  .subst hj
   by_cases hl:i<ρ.length
   .rw [List.getElem?_set_self hl] at e
    cases e
    exact ⟨p,List.getElem?_set_self (by rw [g.len];exact hl),hm,h0,hd,at_⟩
   .rw [List.getElem?_eq_none (by simp;omega)] at e;cases e
  .rw [List.getElem?_set_ne hj] at e
   obtain ⟨p,h1,h2⟩:=g.own j d' e
   exact ⟨p,by rw [List.getElem?_set_ne hj];exact h1,h2⟩
 ne:=fun j k d1 d2 hjk e1 e2=>by
  have self:∀ {j:Nat}{d':Nd},i=j->(ρ.set i (.own d))[j]?=some (.own d')->(σ.set i (some (.ref p)))[j]?=some (some (.ref p)):=fun {j d'} hj e=>by
   subst hj
   by_cases hl:i<ρ.length
   .exact List.getElem?_set_self (by rw [g.len];exact hl)
   .rw [List.getElem?_eq_none (by simp;omega)] at e;cases e
  by_cases hj:i=j
  .have hk:i≠k:=fun z=>hjk (hj.symm.trans z)
   rw [self hj e1,List.getElem?_set_ne hk]
   rw [List.getElem?_set_ne hk] at e2
   exact (ne k d2 hk e2).symm
  .rw [List.getElem?_set_ne hj]
   rw [List.getElem?_set_ne hj] at e1
   by_cases hk:i=k
   .rw [self hk e2]
    exact ne j d1 hj e1
   .rw [List.getElem?_set_ne hk] at e2 ⊢
    exact g.ne j k d1 d2 hjk e1 e2
noncomputable def yAC (K:Ck) (g:TG) (y:XG):Prop:=∀ (W0 W:Wd) (ρ ρ':PSt) (σ:St) (x:PV) (v:V) (Q:St->Hp->Prop),Good K W0 W ρ σ->yfa K W x v->y x ρ=some ρ'->(∀ σ',Good K W0 W ρ' σ'->Q σ' W.H)->g v σ W.H Q
noncomputable def ywD (K:Ck) (g:TGs) (y:XGs):Prop:=∀ (W0 W:Wd) (ρ ρ':PSt) (σ:St) (x:List PV) (v:List V) (Q:St->Hp->Prop),Good K W0 W ρ σ->yfw K W x v->y x ρ=some ρ'->(∀ σ',Good K W0 W ρ' σ'->Q σ' W.H)->g v σ W.H Q
theorem ynV (i:Nat):yAC K (ywm i) (yJ i):=by
 intro W0 W ρ ρ' σ x v Q g r e q
 cases e
 exact q _ (g.set i r)
theorem yAD:ywD K yJt yGs:=by
 intro W0 W ρ ρ' σ x v Q g r e q
 cases x with
 | nil=>cases e;exact ⟨r,q _ g⟩
 | cons _ _=>cases e
theorem yxX {g:TG}{gs:TGs}{y:XG}{ys:XGs}(a:yAC K g y) (b:ywD K gs ys):ywD K (yFR g gs) (yuy y ys):=by
 intro W0 W ρ ρ' σ x v Q gd r e q
 cases x with
 | nil=>cases e
 | cons x xs =>
  obtain ⟨v1,vs,rfl,r1,r2⟩:=r
  obtain ⟨ρ1,e1,e2⟩:=Option.bind_eq_some_iff.mp e
  exact ⟨v1,vs,rfl,a W0 W ρ ρ1 σ x v1 _ gd r1 e1 fun σ' g'=>b W0 W ρ1 ρ' σ' xs vs Q g' r2 e2 q⟩
theorem yAE {n:Nat}{gs:TGs}{ys:XGs}(b:ywD K gs ys):yAC K (yJu K.K n gs) (yFt n ys):=by
 intro W0 W ρ ρ' σ x v Q g r e q
 unfold yFt at e
 split at e
 .rename_i xs
  split at e
  .rename_i hl
   obtain ⟨a,vs,rfl,hs,rs⟩:=r
   exact ⟨a,vs,rfl,(hs.elim (fun h=>SqT.of (g.ok.le _ _ h)) .inr),by rw [rs.len];exact hl,b W0 W ρ ρ' σ xs vs Q g rs e q⟩
  .cases e
 .cases e
theorem yuB {g:TG}{y:XG}(a:ydx K ta ea) (b:yAC K g y):ylK K (yFr ta g) (yes ea y):=by
 intro W0 W ρ σ D o h' gd e q
 obtain ⟨x,h1,e1,f1⟩:=yn e
 obtain ⟨ρ',e2,f2⟩:=Option.bind_eq_some_iff.mp f1
 cases f2
 exact a W0 W ρ σ _ x _ gd e1 fun v W1 w1 l1 r1=>b W0 W1 ρ ρ' σ x v _ (gd.step l1) r1 e2 fun σ' g'=>q W1 σ' w1 l1.lf g'
theorem yAF {o:XO}(i:Nat) (a:yvC K ta o):ylK K (yFr ta (ywm i)) (yuz o i):=by
 intro W0 W ρ σ D o h' gd e q
 obtain ⟨d,h1,e1,f1⟩:=yn e
 cases f1
 refine a W0 W ρ σ _ d _ gd e1 fun p W1 w1 l1 hm hn hd at_=>q W1 _ w1 l1.lf ((gd.step l1).setO i hm (gd.le.fresh hn) hd at_ fun j d' hj e hs=>?_)
 obtain ⟨p',h1,h2,_,_,h5⟩:=gd.own j d' e
 rw [h1] at hs
 cases hs
 obtain ⟨o,ho⟩:=h5.some
 rw [hn] at ho;cases ho
theorem Good.frz {W0 W:Wd}{ρ:PSt}{σ:St}(g:Good K W0 W ρ σ) (i:Nat):∃ W',W'.h=W.h/\W'.H=W.H/\Lf K W W'/\Good K W0 W' (yuA i ρ) σ:=by
 unfold yuA
 cases e:ρ[i]? with
 | none=>exact ⟨W,rfl,rfl,.refl,by rw [List.modify_eq_self (by simpa using e)];exact g⟩
 | some v =>
  have hl:i<ρ.length:=(List.getElem?_eq_some_iff.mp e).1
  have em:ρ.modify i yAw=ρ.set i (yAw v):=by
   apply List.ext_getElem?
   intro j
   rw [List.getElem?_modify,List.getElem?_set]
   by_cases hj:i=j
   .subst hj
    obtain ⟨_,ev⟩:=List.getElem?_eq_some_iff.mp e
    simp [hl,ev]
   .simp [hj]
  have same:yAw v=v->∃ W',W'.h=W.h/\W'.H=W.H/\Lf K W W'/\Good K W0 W' (ρ.modify i yAw) σ:=fun z=>⟨W,rfl,rfl,.refl,by
   rw [em,z]
   have:ρ.set i v=ρ:=by
    apply List.ext_getElem?
    intro j
    by_cases hj:i=j
    .subst hj;rw [List.getElem?_set_self hl,e]
    .rw [List.getElem?_set_ne hj]
   rw [this];exact g⟩
  have go:∀ (d:Nd) (x:PV) (p:Addr) (o:HO),v=.own d->yAw v=.val x->σ[i]?=some (some (.ref p))->p∉W.m->W0.H p=none->W.H p=some o->W.F p=none->(∀ (F':Hp),Same W.F F'->F' p=some o->Rep K F' W.m x (.ref p)) ->
    ∃ W',W'.h=W.h/\W'.H=W.H/\Lf K W W'/\Good K W0 W' (ρ.modify i yAw) σ:=fun d x p o hv hx hs hm h0 hp hf hr=>by
   obtain ⟨k,sF⟩:=yxT (K:=K) g.ok hp hm hf
   have lf:Lf K W (yAs W p o):=⟨sF,List.prefix_refl _,fun _ _ _ e=>⟨e,fun _ _=>rfl⟩⟩
   refine ⟨yAs W p o,rfl,rfl,lf,⟨yuw g.le hp hm hf h0,by rw [List.length_modify];exact g.len,fun j y e'=>?_,fun j d' e'=>?_,fun j1 j2 d1 d2 hj e1 e2=>?_⟩⟩
   .rw [em,hx] at e'
    by_cases hj:i=j
    .subst hj
     rw [List.getElem?_set_self hl] at e'
     cases e'
     exact ⟨_,hs,hr _ sF yS⟩
    .rw [List.getElem?_set_ne hj] at e'
     obtain ⟨w,a1,a2⟩:=g.val j y e'
     exact ⟨w,a1,lf.rep a2⟩
   .rw [em,hx] at e'
    by_cases hj:i=j
    .subst hj
     rw [List.getElem?_set_self hl] at e'
     cases e'
    .rw [List.getElem?_set_ne hj] at e'
     obtain ⟨q,a1,a2,a3,a4,a5⟩:=g.own j d' e'
     have hq:q≠p:=fun z=>g.ne j i d' d (fun z=>hj z.symm) e' (hv ▸ e) (by rw [a1,hs,z])
     exact ⟨q,a1,a2,a3,a4,a5.mono sF (List.prefix_refl _) (fun _ e=>e) fun f=>(ybb hq).trans f⟩
   .rw [em,hx] at e1 e2
    have f:∀ {j:Nat}{d:Nd},(ρ.set i (.val x))[j]?=some (.own d)->ρ[j]?=some (.own d):=fun {j d} e=>by
     by_cases hj:i=j
     .subst hj;rw [List.getElem?_set_self hl] at e;cases e
     .rw [List.getElem?_set_ne hj] at e;exact e
    exact g.ne j1 j2 d1 d2 hj (f e1) (f e2)
  cases v with
  | no=>exact same rfl
  | val x=>exact same rfl
  | own d =>
   obtain ⟨p,a1,a2,a3,a4,a5⟩:=g.own i d e
   cases d with
   | lst xs =>
    obtain ⟨hf,vs,hp,r⟩:=a5
    exact go _ (.lst xs) p _ rfl rfl a1 a2 a3 hp hf fun F' s hF=>⟨p,vs,rfl,hF,RepL.mono s (List.prefix_refl _) _ _ r⟩
   | dct ks xs=>exact same rfl
   | fz ks xs=>exact same rfl
   | ins k ns xs =>
    obtain ⟨hf,dx,vs,hp,hl,r⟩:=a5
    exact go _ (.ins k ns xs) p _ rfl rfl a1 a2 a3 hp hf fun F' s hF=>⟨p,dx,vs,rfl,hF,hl,RepL.mono s (List.prefix_refl _) _ _ r⟩
   | dead=>exact same rfl
theorem yDX (i:Nat) (a:ylK K t s):ylK K t (yDT i s):=by
 intro W0 W ρ σ D o h' g e q
 obtain ⟨W',e1,e2,l,g'⟩:=g.frz i
 rw [<- e2]
 exact a W0 W' _ σ D o h' g' (by rw [e1];exact e) (q.from_ l)
end
end PX
namespace PX
open PySem L2
variable {K:Ck}
section
variable {ta tb:TE}{ea eb:XE}{t u:TS}{s s':XS}{tA:TT}{eA:XT}
noncomputable def yDY (W:Wd) (p:Addr) (o:HO):Wd:=⟨W.F,upd W.H p o,W.m,W.h⟩
theorem yDZ {W:Wd}{p:Addr}{o:HO}(w:WOk K W) (hm:p∉W.m) (hf:W.F p=none):WOk K (yDY W p o):=by
 refine ⟨fun b u e=>?_,w.len,w.nd,fun n d a e1 e2=>?_⟩
 .have:b≠p:=yco e hf
  exact (ybb this).trans (w.le _ _ e)
 .have ha:a≠p:=fun z=>hm (z ▸ List.mem_of_getElem? e2)
  exact (w.at_ n d a e1 e2).mono (Same.refl _) (List.prefix_refl _) (fun u e=>(ybb ha).trans e) id
theorem yxY {W W1:Wd}{p:Addr}{o:HO}(l:Le K W W1) (hm:p∉W1.m) (hf:W1.F p=none) (hn:W.H p=none):Le K W (yDY W1 p o) :=
 ⟨yDZ l.ok hm hf,l.fs,l.pre,fun b u e n=>(ybb (yco e hn)).trans (l.keep b u e n),l.new,l.mn,fun n ks xs e1=>⟨(l.fz n ks xs e1).1,fun a e2=>(ybb (fun (z:a=p)=>hm (z ▸ List.mem_of_getElem? (ylM l.pre e2)))).trans ((l.fz n ks xs e1).2 a e2)⟩⟩
theorem yCp {W W1:Wd}{p:Addr}{o:HO}(l:Le K W W1) (hm:p∉W1.m):Lf K W (yDY W1 p o) :=
 ⟨l.fs,l.pre,fun n ks xs e1=>⟨(l.fz n ks xs e1).1,fun a e2=>(ybb (fun (z:a=p)=>hm (z ▸ List.mem_of_getElem? (ylM l.pre e2)))).trans ((l.fz n ks xs e1).2 a e2)⟩⟩
theorem Good.mut {W0 W:Wd}{ρ:PSt}{σ:St}(g:Good K W0 W ρ σ) {i:Nat}{d d':Nd}{p:Addr}{o:HO}(e:ρ[i]?=some (.own d)) (hs:σ[i]?=some (some (.ref p))) (hm:p∉W.m) (h0:W0.H p=none) (hf:W.F p=none) (hd:d'≠.dead)
  (at_:NdAt K W.F (upd W.H p o) W.m d' p):Good K W0 (yDY W p o) (ρ.set i (.own d')) σ:=by
 have hl:i<ρ.length:=(List.getElem?_eq_some_iff.mp e).1
 refine ⟨yxY g.le hm hf h0,by rw [List.length_set];exact g.len,fun j y e'=>?_,fun j d1 e'=>?_,fun j1 j2 d1 d2 hj e1 e2=>?_⟩
 .by_cases hj:i=j
  .subst hj;rw [List.getElem?_set_self hl] at e';cases e'
  .rw [List.getElem?_set_ne hj] at e';exact g.val j y e'
 .by_cases hj:i=j
  .subst hj;rw [List.getElem?_set_self hl] at e';cases e';exact ⟨p,hs,hm,h0,hd,at_⟩
  .rw [List.getElem?_set_ne hj] at e'
   obtain ⟨q,a1,a2,a3,a4,a5⟩:=g.own j d1 e'
   have hq:q≠p:=fun z=>g.ne j i d1 d (fun z=>hj z.symm) e' e (by rw [a1,hs,z])
   exact ⟨q,a1,a2,a3,a4,a5.mono (Same.refl _) (List.prefix_refl _) (fun u e=>(ybb hq).trans e) id⟩
 .have f:∀ {j:Nat}{d1:Nd},(ρ.set i (.own d'))[j]?=some (.own d1)->∃ d2,ρ[j]?=some (.own d2):=fun {j d1} e'=>by
   by_cases hj:i=j
   .subst hj;exact ⟨d,e⟩
   .rw [List.getElem?_set_ne hj] at e';exact ⟨_,e'⟩
  obtain ⟨_,f1⟩:=f e1
  obtain ⟨_,f2⟩:=f e2
  exact g.ne j1 j2 _ _ hj f1 f2
theorem big {n:Nat}(h:n<100000):n<sizeLine:=Nat.lt_of_lt_of_le h (by decide)
theorem yIS {n:Nat}(h:n<=100000):n<=sizeLine:=Nat.le_trans h (by decide)
theorem yAG (i:Nat) (a:ydx K ta ea):ylK K (yAa (tBM K.K "list" yug (yBV i) (yxF ta yDp))) (ykh i ea):=by
 intro W0 W ρ σ D o h' g e q
 unfold ykh at e
 split at e
 .rename_i xs0 hx
  obtain ⟨x,h1,e1,f1⟩:=yn e
  split at f1
  .rename_i hlen
   cases f1
   obtain ⟨p,a1,a2,a3,a4,hf,vs,hp,r⟩:=g.own i _ hx
   refine ⟨.ref p,a1,.inl ⟨rfl,_,SqL.of hp⟩,?_⟩
   refine a W0 W ρ σ _ x _ g e1 fun v W1 w1 l1 r1=>⟨p,vs,v,rfl,rfl,l1.keep _ _ hp a2,by rw [r.len];exact big hlen,?_⟩
   have g1:=g.step l1
   obtain ⟨p',b1,b2,b3,b4,b5,vs',b6,b7⟩:=g1.own i _ hx
   rw [a1] at b1
   cases b1
   rw [l1.keep _ _ hp a2] at b6
   cases b6
   exact q (yDY W1 p (.lst (vs++[v]))) σ w1 (yCp l1 b2) (g1.mut hx a1 b2 b3 b5 (fun z=>by cases z) ⟨b5,_,yS,b7.snoc r1⟩)
  .cases f1
 .cases e
structure yId (K:Ck) (W:Wd) (J:It) (xs:List PV):Prop where
 go:∀ (i:Nat) (W':Wd),Lf K W W'->WOk K W'->i<xs.length->J.go i W'.H
 yld:∀ (i:Nat) (W':Wd) (v:V) (H2:Hp),Lf K W W'->WOk K W'->i<xs.length->J.yld i W'.H v H2->H2=W'.H/\∃ x,xs[i]?=some x/\yfa K W' x v
 stop:∀ (W':Wd),Lf K W W'->WOk K W'->J.stop xs.length W'.H
noncomputable def yEa (K:Ck) (wi:TI) (e:XA):Prop:=∀ (W0 W:Wd) (ρ:PSt) (σ:St) (R:It->Hp->Prop) (xs:List PV) (h':AH),Good K W0 W ρ σ->e ρ W.h=some (xs,h')->(∀ J W',W'.h=h'->Le K W W'->yId K W' J xs->R J W'.H)->wi σ W.H R
noncomputable def xIL (e:XE):XA:=fun ρ h=>ob (e ρ h) fun x h1=>match x with|.lst xs=>some (xs,h1)|.scr ns=>some (ns.map .int,h1)|_=>none
noncomputable def sgn (c:Nat):PV:=.str ⟨#[c]⟩
noncomputable def ywE (lo:Int) (n:Nat):List PV:=(List.range n).map fun (k:Nat)=>.int (lo+(k:Int))
noncomputable def yEb (a:XA):XA:=fun ρ h=>ob (a ρ h) fun xs h1=>match xs with|[.int j]=>if -1000000000<=j/\j<=1000000000 then some (ywE 0 j.toNat,h1) else none|_=>none
theorem yki {W:Wd}(w:WOk K W) {a:Addr}{vs:List V}(h:SqL K.K W.F a vs):SqL K.K W.H a vs:=Same.seq w.le h
theorem ygQ {W:Wd}(w:WOk K W) {a:Addr}{vs:List V}(h:TpAt K.K W.F a vs):SqT K.K W.H a vs:=h.elim (fun h=>SqT.of (w.le _ _ h)) .inr
theorem yxZ (a:ydx K ta ea):yEa K (yFU K.K ta) (xIL ea):=by
 intro W0 W ρ σ R xs h' g e q
 obtain ⟨x,h1,e1,f1⟩:=yn e
 refine a W0 W ρ σ _ x h1 g e1 fun v W1 w1 l1 r1=>?_
 have key:∀ (a:Addr) (vs:List V),v=.ref a->SqL K.K W1.F a vs->RepL K W1.F W1.m xs vs->h1=h'->∃ a,v=.ref a/\(∃ xs,SqL K.K W1.H a xs)/\R (Itl K.K a) W1.H:=fun a vs ev hs rs eh=>by
  subst eh
  refine ⟨a,ev,⟨vs,yki l1.ok hs⟩,q _ W1 w1 l1 ⟨fun i W' l w hi=>?_,fun i W' v' H2 l w hi hy=>?_,fun W' l w=>?_⟩⟩
  .obtain ⟨v',h1,_⟩:=rs.get (List.getElem?_eq_getElem hi)
   exact ⟨vs,v',yki w (Same.seq l.fs hs),h1⟩
  .obtain ⟨h1,h2⟩:=hy
   have:=h2 vs (yki w (Same.seq l.fs hs))
   obtain ⟨x,h3,h4⟩:=rs.get' this
   exact ⟨h1,x,h3,l.rep h4⟩
  .exact ⟨vs,yki w (Same.seq l.fs hs),by rw [rs.len];exact Nat.le_refl _⟩
 split at f1
 .cases f1
  obtain ⟨a,vs,ev,hs,rs⟩:=r1
  exact key a vs ev (SqL.of hs) rs rfl
 .rename_i ns
  cases f1
  obtain ⟨a,ev,hs⟩:=r1
  exact key a _ ev hs (RepL.of_ints ns) rfl
 .cases f1
theorem yGt (W:Wd) (lo:Int) (n:Nat):yId K W (Itr lo n) (ywE lo n):=by
 refine ⟨fun i W' l w hi=>?_,fun i W' v' H2 l w hi hy=>?_,fun W' l w=>?_⟩
 .show i<n
  simpa [ywE] using hi
 .obtain ⟨h1,h2⟩:=hy
  have hi:i<n:=by simpa [ywE] using hi
  exact ⟨h1,.int (lo+(i:Int)),by simp [ywE,hi],h2⟩
 .show n<=_
  simp [ywE]
theorem yya {t:TA}{e:XA}(a:ytY K t e):yEa K (yFV t) (yEb e):=by
 intro W0 W ρ σ R xs h' g e q
 obtain ⟨ys,h1,e1,f1⟩:=yn e
 split at f1
 .rename_i j
  split at f1
  .rename_i hj
   cases f1
   refine a W0 W ρ σ _ _ _ g e1 fun vs W1 w1 l1 r1=>?_
   obtain ⟨v,r,rfl,rv,rr⟩:=r1
   obtain rfl:r=[]:=rr
   exact ⟨j,by rw [show v=.int j from rv],by omega,by omega,q _ W1 w1 l1 (yGt W1 0 _)⟩
  .cases f1
 .cases f1
theorem yEc {wi:TI}{it:XA}{g:TG}{y:XG}(a:yEa K wi it) (b:yAC K g y) (c:ylK K t s):ylK K (yIr wi g t) (yAx it y s):=by
 intro W0 W ρ σ D o h' gd e q
 obtain ⟨xs,h1,e1,f1⟩:=yn e
 refine a W0 W ρ σ _ xs h1 gd e1 fun J W1 w1 l1 J1=>?_
 subst w1
 have q1:=q.from_ l1.lf
 refine ⟨fun i m σ H=>m=xs.length-i/\i<=xs.length/\∃ W' ρ',W'.H=H/\Lf K W1 W'/\Good K W0 W' ρ' σ/\yph y s (xs.drop i) ρ' W'.h=some (o,h'),⟨_,rfl,Nat.zero_le _,W1,ρ,rfl,.refl,gd.step l1,by simpa using f1⟩,?_⟩
 rintro i m σ _ ⟨rfl,hi,W',ρ',rfl,l,g',f⟩
 by_cases hlt:i<xs.length
 .rw [List.drop_eq_getElem_cons hlt] at f
  obtain ⟨ρ1,k1,f⟩:=Option.bind_eq_some_iff.mp f
  obtain ⟨o1,h2,k2,f3⟩:=yn f
  refine .inr ⟨J1.go i W' l g'.ok hlt,fun σ2 H2=>i+1<=xs.length/\∃ W2 ρ2,W2.H=H2/\Lf K W1 W2/\Good K W0 W2 ρ2 σ2/\yph y s (xs.drop (i+1)) ρ2 W2.h=some (o,h'),fun σ2 H2 ⟨n1,n2⟩=>⟨xs.length-(i+1),by omega,rfl,n1,n2⟩,fun v H2 hy=>?_⟩
  obtain ⟨rfl,x,hx,rx⟩:=J1.yld i W' v H2 l g'.ok hlt hy
  rw [List.getElem?_eq_getElem hlt] at hx
  cases hx
  refine b W0 W' ρ' ρ1 σ _ v _ g' rx k1 fun σ2 g2=>?_
  refine c W0 W' ρ1 σ2 _ o1 h2 g2 k2 ?_
  cases o1 with
  | nx ρ2=>exact fun W2 σ3 w2 l2 g3=>⟨hlt,W2,ρ2,rfl,l.trans l2,g3,by rw [w2];exact f3⟩
  | ct ρ2=>exact fun W2 σ3 w2 l2 g3=>⟨hlt,W2,ρ2,rfl,l.trans l2,g3,by rw [w2];exact f3⟩
  | bk ρ2=>cases f3;exact fun W2 σ3 w2 l2 g3=>q1 W2 σ3 w2 (l.trans l2) g3
  | rt x=>cases f3;exact q1
 .have ei:i=xs.length:=by omega
  subst ei
  refine .inl ⟨J1.stop W' l g'.ok,?_⟩
  rw [List.drop_length] at f
  cases f
  exact q1 W' σ rfl l g'
theorem yyb (n:Nat) (c:ytX K tA eA) (a:ylK K t s):ylK K (yBZ tA t) (ysl n eA s):=by
 intro W0 W ρ σ D o h' gd e q
 refine ⟨fun m σ H=>∃ W' ρ',W'.H=H/\Lf K W W'/\Good K W0 W' ρ' σ/\whl eA s m ρ' W'.h=some (o,h'),⟨n,W,ρ,rfl,.refl,gd,e⟩,?_⟩
 rintro m σ _ ⟨W',ρ',rfl,l,g',f⟩
 cases m with
 | zero=>cases f
 | succ m =>
  obtain ⟨k,h1,e1,f1⟩:=yn f
  refine c W0 W' ρ' σ _ k h1 g' e1 fun W1 w1 l1=>?_
  subst w1
  cases k with
  | false =>
   rw [if_neg (by decide)] at f1 ⊢
   cases f1
   exact q W1 σ rfl (l.trans l1.lf) (g'.step l1)
  | true =>
   rw [if_pos rfl] at f1 ⊢
   obtain ⟨o1,h2,k2,f3⟩:=yn f1
   refine ⟨fun σ2 H2=>∃ W2 ρ2,W2.H=H2/\Lf K W W2/\Good K W0 W2 ρ2 σ2/\whl eA s m ρ2 W2.h=some (o,h'),fun σ2 H2 z=>⟨m,Nat.lt_succ_self _,z⟩,?_⟩
   refine a W0 W1 ρ' σ _ o1 h2 (g'.step l1) k2 ?_
   have l':=l.trans l1.lf
   cases o1 with
   | nx ρ2=>exact fun W2 σ3 w2 l2 g3=>⟨W2,ρ2,rfl,l'.trans l2,g3,by rw [w2];exact f3⟩
   | ct ρ2=>exact fun W2 σ3 w2 l2 g3=>⟨W2,ρ2,rfl,l'.trans l2,g3,by rw [w2];exact f3⟩
   | bk ρ2=>cases f3;exact fun W2 σ3 w2 l2 g3=>q W2 σ3 w2 (l'.trans l2) g3
   | rt x=>cases f3;exact q
theorem yyc {e:XE}{inn:PV->PSt}:∀ {xs:List PV}{h:AH}{ys:List PV}{h':AH},yAz e inn xs h=some (ys,h')->ys.length=xs.length
 | [],_,_,_,e=>by cases e;rfl
 | x::xs,_,_,_,e=>by
  obtain ⟨y,h1,e1,f1⟩:=yn e
  obtain ⟨ys,h2,e2,f2⟩:=yn f1
  cases f2
  rw [List.length_cons,List.length_cons,yyc e2]
theorem yAH {W0 W W':Wd}{ρ:PSt}{σ:St}(g:Good K W0 W ρ σ) (l:Le K W W') (ix:List Nat) {x:PV}{v:V}(r:yfa K W' x v):Good K W' W' (yAy ix ρ x) (inner ix σ v) where
 le:=.refl l.ok
 len:=by simp [yAy,inner]
 val:=fun j y e=>by
  cases j with
  | zero=>simp [yAy] at e;subst e;exact ⟨v,rfl,r⟩
  | succ j =>
   have e:(ix.map (yzQ ρ))[j]?=some (.val y):=e
   rw [List.getElem?_map] at e
   cases ei:ix[j]? with
   | none=>rw [ei] at e;cases e
   | some i =>
    rw [ei] at e
    have e:yzQ ρ i=.val y:=Option.some.inj e
    unfold yzQ at e
    split at e
    .rename_i z hz
     cases e
     obtain ⟨w,h1,h2⟩:=g.val i _ hz
     exact ⟨w,by show (ix.map fun i=>(σ[i]?).getD none)[j]?=_;rw [List.getElem?_map,ei];simp [h1],l.rep h2⟩
    .cases e
 own:=fun j d e=>by
  cases j with
  | zero=>simp [yAy] at e
  | succ j =>
   have e:(ix.map (yzQ ρ))[j]?=some (.own d):=e
   rw [List.getElem?_map] at e
   cases ei:ix[j]? with
   | none=>rw [ei] at e;cases e
   | some i =>
    rw [ei] at e
    have e:yzQ ρ i=.own d:=Option.some.inj e
    unfold yzQ at e
    split at e<;>cases e
 ne:=fun j k d d' _ e _=>by
  cases j with
  | zero=>simp [yAy] at e
  | succ j =>
   have e:(ix.map (yzQ ρ))[j]?=some (.own d):=e
   rw [List.getElem?_map] at e
   cases ei:ix[j]? with
   | none=>rw [ei] at e;cases e
   | some i =>
    rw [ei] at e
    have e:yzQ ρ i=.own d:=Option.some.inj e
    unfold yzQ at e
    split at e<;>cases e
theorem yvF {wi:TI}{it:XA}(ix:List Nat) (a:yEa K wi it) (b:ydx K ta ea):yvC K (yDy wi ix ta) (ywC it ix ea):=by
 intro W0 W ρ σ Q d h' gd e q
 obtain ⟨xs,h1,e1,f1⟩:=yn e
 split at f1
 .rename_i hlen
  obtain ⟨zs,h2,e2,f2⟩:=yn f1
  cases f2
  have hz:=yyc e2
  refine a W0 W ρ σ _ xs h1 gd e1 fun J W1 w1 l1 J1=>?_
  subst w1
  intro D hD
  have nm:=l1.ok.out hD
  have nf:=l1.ok.ff hD
  refine ⟨fun i m H=>m=xs.length-i/\i<=xs.length/\∃ W' acc done rest,W'.H=H/\Le K W1 W'/\D∉W'.m/\W'.F D=none/\H D=some (.lst acc)/\yfw K W' done acc/\done.length=i/\zs=done++rest/\yAz ea (yAy ix ρ) (xs.drop i) W'.h=some (rest,h'),⟨_,rfl,Nat.zero_le _,ypg W1 D (.lst []),[],[],zs,rfl,ygr l1.ok hD,nm,nf,yS,rfl,rfl,rfl,by rw [List.drop_zero];exact e2⟩,?_⟩
  rintro i m _ ⟨rfl,hi,W',acc,done,rest,rfl,l,n1,n2,hd,rd,ld,ez,f⟩
  by_cases hlt:i<xs.length
  .rw [List.drop_eq_getElem_cons hlt] at f
   obtain ⟨y,h3,k1,f3⟩:=yn f
   obtain ⟨ys,h4,k2,f4⟩:=yn f3
   cases f4
   refine .inr ⟨J1.go i W' l.lf l.ok hlt,fun v H2 hy=>?_⟩
   obtain ⟨rfl,x,hx,rx⟩:=J1.yld i W' v H2 l.lf l.ok hlt hy
   rw [List.getElem?_eq_getElem hlt] at hx
   cases hx
   refine b W' W' _ _ _ y h3 (yAH gd (l1.trans l) ix rx) k1 fun w W2 w2 l2 r2=>?_
   obtain ⟨o2,n2'⟩:∃ o,W'.H D=some o:=⟨_,hd⟩
   have nm2:D∉W2.m:=fun z=>by rw [l2.mn D z n1] at hd;cases hd
   have nf2:W2.F D=none:=l2.new D _ hd n1 n2
   refine ⟨acc,l2.keep _ _ hd n1,?_,xs.length-(i+1),by omega,rfl,hlt,yDY W2 D (.lst (acc++[w])),acc++[w],done++[y],ys,rfl,yxY (l.trans l2) nm2 nf2 hD,nm2,nf2,yS,(l2.repL rd).snoc r2,by simp [ld],by simp [ez],?_⟩
   .rw [rd.len,ld];exact big (by omega)
   .show yAz ea (yAy ix ρ) (xs.drop (i+1)) W2.h=some (ys,h')
    rw [w2];exact k2
  .have ei:i=xs.length:=by omega
   subst ei
   rw [List.drop_length] at f
   cases f
   refine .inl ⟨J1.stop W' l.lf l.ok,?_⟩
   rw [List.append_nil] at ez
   subst ez
   exact q D W' rfl (l1.trans l) n1 (l1.fresh hD) (fun z=>by cases z) ⟨n2,acc,hd,rd⟩
 .cases f1
theorem ylP {W:Wd}(w:WOk K W) {N:List Str}{xs:List PV}{vs:List V}(r:yfw K W xs vs):Good K W W (xs.map .val++List.replicate (N.length-xs.length) .no) (L2.start N vs) where
 le:=.refl w
 len:=by simp [L2.start,r.len]
 val:=fun j y e=>by
  by_cases hj:j<xs.length
  .rw [List.getElem?_append_left (by simpa using hj),List.getElem?_map,List.getElem?_eq_getElem hj] at e
   cases e
   obtain ⟨v,h1,h2⟩:=r.get (List.getElem?_eq_getElem hj)
   refine ⟨v,?_,h2⟩
   unfold L2.start
   rw [List.getElem?_append_left (by simp [r.len,hj]),List.getElem?_map,h1];rfl
  .rw [List.getElem?_append_right (by simp;omega),List.getElem?_replicate] at e
   split at e<;>cases e
 own:=fun j d e=>by
  by_cases hj:j<xs.length
  .rw [List.getElem?_append_left (by simpa using hj),List.getElem?_map,List.getElem?_eq_getElem hj] at e
   cases e
  .rw [List.getElem?_append_right (by simp;omega),List.getElem?_replicate] at e
   split at e<;>cases e
 ne:=fun j k d d' _ e _=>by
  by_cases hj:j<xs.length
  .rw [List.getElem?_append_left (by simpa using hj),List.getElem?_map,List.getElem?_eq_getElem hj] at e
   cases e
  .rw [List.getElem?_append_right (by simp;omega),List.getElem?_replicate] at e
   split at e<;>cases e
theorem yAI {N:List Str}{n:Nat}{vs:List V}{H:Hp}{Q:VK}{E:XK}{bk ct:St->Hp->Prop}(a:ylK K t s) (h:spE K n (yho N.length s) vs H Q E):t ⟨fun _ H'=>Q .non H',Q,bk,ct⟩ (L2.start N vs) H:=by
 obtain ⟨W,xs,x,h',rfl,w,r,_,e,q⟩:=h
 obtain ⟨o,h1,e1,f1⟩:=yn e
 refine a W W _ _ _ o h1 (ylP w r) e1 ?_
 cases o with
 | rt y=>cases f1;exact fun W' v ew l rv=>q v W' ew l rv
 | nx ρ=>cases f1;exact fun W' σ' ew _ g=>q .non W' ew g.le rfl
 | bk ρ=>cases f1
 | ct ρ=>cases f1
theorem yEd {n:Nat}{f:Fn}{vs:List V}{H:Hp}{Q:VK}{E:XK}(h:spE K n f vs H Q E):vs.length=n:=by
 obtain ⟨W,xs,x,h',rfl,w,r,hn,_⟩:=h
 rw [r.len,hn]
end
end PX
namespace PX
open PySem L2
variable {K:Ck}
noncomputable def oI (g:Int->Int->PV):P2:=fun x y h=>match x,y with|.int i,.int j=>some (g i j,h)|_,_=>none
noncomputable def oIc (C:Int->Int->Prop) [∀ i j,Decidable (C i j)] (g:Int->Int->PV):P2:=fun x y h=>match x,y with|.int i,.int j=>if C i j then some (g i j,h) else none|_,_=>none
noncomputable abbrev yqx:P2:=oI fun i j=>.int (i+j)
noncomputable abbrev yGu:P2:=oI fun i j=>.int (i-j)
noncomputable def MulOk (i j:Int):Prop:=(-18446744073709551616<i/\i<18446744073709551616)\/(-18446744073709551616<j/\j<18446744073709551616)
noncomputable instance (i j:Int):Decidable (MulOk i j):=by unfold MulOk;infer_instance
noncomputable def yyd (i j:Int):Prop:=(0<=i/\i<18446744073709551616)/\0<=j/\j<=1000000
noncomputable instance (i j:Int):Decidable (yyd i j):=by unfold yyd;infer_instance
noncomputable abbrev yEe:P2:=oIc MulOk fun i j=>.int (i*j)
noncomputable abbrev oDiv:P2:=oIc (fun _ j=>0<j/\j<1073741824) fun i j=>.int (i/j)
noncomputable abbrev oMod:P2:=oIc (fun _ j=>0<j) fun i j=>.int (i%j)
noncomputable abbrev yGv:P2:=oIc yyd fun i j=>.int (i ^ j.toNat)
noncomputable abbrev oLt:P2:=oI fun i j=>.bl (decide (i<j))
noncomputable abbrev yIe:PV->AH->Option (PV×AH):=fun x h=>match x with|.int i=>some (.int (-i),h)|_=>none
theorem yIT {g:Int->Int->PV}{gV:Int->Int->V}(h:∀ (W:Wd) i j,yfa K W (g i j) (gV i j)):ygF K (rI0 gV) (oI g):=by
 intro W x y v u Q z h' w rx ry e q
 unfold oI at e
 split at e
 .rename_i i j
  cases e
  exact ⟨i,j,rx,ry,q _ W rfl (.refl w) (h W i j)⟩
 .cases e
theorem yAJ {C:Int->Int->Prop} [∀ i j,Decidable (C i j)] {C':Int->Int->Prop}{g:Int->Int->PV}{gV:Int->Int->V}(hc:∀ i j,C i j->C' i j) (h:∀ (W:Wd) i j,yfa K W (g i j) (gV i j)):ygF K (rI C' gV) (oIc C g):=by
 intro W x y v u Q z h' w rx ry e q
 unfold oIc at e
 split at e
 .rename_i i j
  split at e
  .rename_i c
   cases e
   exact ⟨i,j,rx,ry,hc i j c,q _ W rfl (.refl w) (h W i j)⟩
  .cases e
 .cases e
theorem yiT:ygF K yID yqx:=yIT fun _ _ _=>rfl
theorem yAK:ygF K yIE yGu:=yIT fun _ _ _=>rfl
theorem ywF:ygF K yIF yEe:=yAJ (fun i j h=>by unfold CMul;rw [show (2:Int) ^ 64=18446744073709551616 by decide];exact h) fun _ _ _=>rfl
theorem yhp:ygF K yIG oDiv:=yAJ (fun i j h=>h) fun _ _ _=>rfl
theorem ydI:ygF K yIH oMod:=yAJ (fun i j h=>h) fun _ _ _=>rfl
theorem yAL:ygF K yII yGv:=yAJ (fun i j h=>by unfold yIu;rw [show 2 ^ 64=18446744073709551616 by decide];unfold yyd at h;omega) fun _ _ _=>rfl
theorem yCq:ygF K yKe oLt:=yIT fun _ _ _=>rfl
theorem yGw:yDG K yIJ yIe:=by
 intro W x v Q z h' w rx e q
 unfold yIe at e
 split at e
 .rename_i i
  cases e
  exact ⟨i,rx,q _ W rfl (.refl w) rfl⟩
 .cases e
noncomputable def sv:PV->Option V
 | .non=>some .non
 | .bl b=>some (.bl b)
 | .int i=>some (.int i)
 | .str s=>some (.str s)
 | _=>none
theorem ykH {W:Wd}{x:PV}{v u:V}(e:sv x=some u) (r:yfa K W x v):v=u:=by
 cases x<;>cases e<;>exact r
noncomputable def oEq:P2:=fun x y h=>match sv x,sv y with|some v,some u=>if yDi v u=true then some (.bl (decide (v=u)),h) else none|_,_=>none
noncomputable def oNe:P2:=fun x y h=>match sv x,sv y with|some v,some u=>if yDi v u=true then some (.bl (!decide (v=u)),h) else none|_,_=>none
theorem yjF:ygF K rEq oEq:=by
 intro W x y v u Q z h' w rx ry e q
 unfold oEq at e
 split at e
 .rename_i v' u' e1 e2
  obtain rfl:=ykH e1 rx
  obtain rfl:=ykH e2 ry
  split at e
  .rename_i c
   cases e
   exact ⟨c,q _ W rfl (.refl w) rfl⟩
  .cases e
 .cases e
theorem yJH:ygF K rNe oNe:=by
 intro W x y v u Q z h' w rx ry e q
 unfold oNe at e
 split at e
 .rename_i v' u' e1 e2
  obtain rfl:=ykH e1 rx
  obtain rfl:=ykH e2 ry
  split at e
  .rename_i c
   cases e
   exact ⟨c,q _ W rfl (.refl w) rfl⟩
  .cases e
 .cases e
noncomputable def isN:PV->Bool
 | .non=>true
 | _=>false
noncomputable def yEf:P2:=fun x y h=>match y with|.non=>some (.bl (isN x),h)|_=>none
noncomputable def yAM:P2:=fun x y h=>match y with|.non=>some (.bl (!isN x),h)|_=>none
theorem yye {W:Wd}{x:PV}{v:V}(r:yfa K W x v):decide (v=.non)=isN x:=by
 cases x with
 | non=>rw [show v=.non from r];rfl
 | bl b=>rw [show v=.bl b from r];rfl
 | int b=>rw [show v=.int b from r];rfl
 | str b=>rw [show v=.str b from r];rfl
 | ty b=>rw [show v=.ty b from r];rfl
 | cls b=>rw [show v=.ref _ from r];rfl
 | scr b=>obtain ⟨a,e,_⟩:=r;rw [e];rfl
 | lst b=>obtain ⟨a,_,e,_⟩:=r;rw [e];rfl
 | tup b=>obtain ⟨a,_,e,_⟩:=r;rw [e];rfl
 | ins k n b=>obtain ⟨a,_,_,e,_⟩:=r;rw [e];rfl
 | loc n=>obtain ⟨a,e,_⟩:=r;rw [e];rfl
theorem yEg:ygF K yKf yEf:=by
 intro W x y v u Q z h' w rx ry e q
 unfold yEf at e
 split at e
 .cases e
  exact ⟨ry,by rw [yye rx];exact q _ W rfl (.refl w) rfl⟩
 .cases e
theorem yGx:ygF K yIK yAM:=by
 intro W x y v u Q z h' w rx ry e q
 unfold yAM at e
 split at e
 .cases e
  exact ⟨ry,by rw [yye rx];exact q _ W rfl (.refl w) rfl⟩
 .cases e
noncomputable def yKg:P2:=fun x y h=>match x,y with|.str i,.str j=>if i.length+j.length<=100000 then some (.str (i++j),h) else none|_,_=>none
noncomputable def yKs:P2:=fun x y h=>match x,y with|.str s,.str j=>(match s.cps.toList with|[c]=>some (.bl (decide (c∈j.cps.toList)),h)|_=>none)|_,_=>none
theorem one_sign {s:Str}{c:Nat}(h:s.cps.toList=[c]):s=⟨#[c]⟩:=by
 obtain ⟨⟨l⟩⟩:=s
 have:l=[c]:=h
 rw [this]
noncomputable def yiU:P2:=fun x y h=>match y with
 | .int i=>(match x with
  | .lst xs=>(match atI xs i with|some v=>some (v,h)|none=>none)
  | .scr ns=>(match atI ns i with|some v=>some (.int v,h)|none=>none)
  | .loc n=>(match h[n]? with|some (.lst xs)=>(match atI xs i with|some v=>some (v,h)|none=>none)|_=>none)
  | _=>none)
 | _=>none
noncomputable def ygC:P2:=fun x y h=>match x,y with|.tup xs,.int i=>(match atI xs i with|some v=>some (v,h)|none=>none)|_,_=>none
noncomputable def yCr:P2:=fun x y h=>match x,y with|.str s,.int i=>(match atI s.cps.toList i with|some c=>if s.length<=100000 then some (sgn c,h) else none|none=>none)|_,_=>none
theorem RepL.at {F:Hp}{m:List Addr}{xs:List PV}{vs:List V}(r:RepL K F m xs vs) {i:Int}{x:PV}(e:atI xs i=some x):∃ v,atI vs i=some v/\Rep K F m x v:=by
 unfold atI at e ⊢
 rw [r.len]
 obtain ⟨j,e1,e2⟩:=Option.bind_eq_some_iff.mp e
 rw [e1]
 exact r.get e2
theorem WOk.loc {W:Wd}(w:WOk K W) {n:Nat}{d:Nd}{v:V}(e:W.h[n]?=Option.some d) (r:yfa K W (.loc n) v):∃ a,v=.ref a/\W.m[n]?=Option.some a/\NdAt K W.F W.H W.m d a:=by
 obtain ⟨a,ea,h⟩:=r
 exact ⟨a,ea,h,w.at_ n d a e h⟩
theorem yhQ:ygF K (yIy K.K) yiU:=by
 intro W x y v u Q z h' w rx ry e q
 unfold yiU at e
 split at e
 .rename_i i
  split at e
  .rename_i xs
   split at e
   .rename_i y hy
    cases e
    obtain ⟨a,vs,ev,hs,rs⟩:=rx
    obtain ⟨v',h1,h2⟩:=rs.at hy
    exact ⟨a,vs,i,v',ev,ry,SqL.of (w.le _ _ hs),h1,q _ W rfl (.refl w) h2⟩
   .cases e
  .rename_i ns
   split at e
   .rename_i y hy
    cases e
    obtain ⟨a,ev,hs⟩:=rx
    refine ⟨a,_,i,.int y,ev,ry,yki w hs,?_,q _ W rfl (.refl w) rfl⟩
    unfold atI at hy ⊢
    rw [List.length_map]
    obtain ⟨j,e1,e2⟩:=Option.bind_eq_some_iff.mp hy
    rw [e1]
    show (ns.map V.int)[j]?=_
    rw [List.getElem?_map,e2];rfl
   .cases e
  .rename_i n
   split at e
   .rename_i xs hn
    split at e
    .rename_i y hy
     cases e
     obtain ⟨a,ev,hm,hf,vs,hp,rs⟩:=w.loc hn rx
     obtain ⟨v',h1,h2⟩:=rs.at hy
     exact ⟨a,vs,i,v',ev,ry,SqL.of hp,h1,q _ W rfl (.refl w) h2⟩
    .cases e
   .cases e
  .cases e
 .cases e
theorem ycn:ygF K (yIz K.K) ygC:=by
 intro W x y v u Q z h' w rx ry e q
 unfold ygC at e
 split at e
 .rename_i xs i
  split at e
  .rename_i y hy
   cases e
   obtain ⟨a,vs,ev,hs,rs⟩:=rx
   obtain ⟨v',h1,h2⟩:=rs.at hy
   exact ⟨a,vs,i,v',ev,ry,ygQ w hs,h1,q _ W rfl (.refl w) h2⟩
  .cases e
 .cases e
theorem yAN:ygF K yIA yCr:=by
 intro W x y v u Q z h' w rx ry e q
 unfold yCr at e
 split at e
 .rename_i s i
  split at e
  .rename_i c hc
   split at e
   .rename_i hl
    cases e
    exact ⟨s,i,c,rx,ry,yIS hl,hc,q _ W rfl (.refl w) rfl⟩
   .cases e
  .cases e
 .cases e
noncomputable def yIf:PV->Option Int->Option Int->AH->Option (PV×AH):=fun x lo hi h=>match x with|.str z=>if z.length<=100000 then some (.str (yIc z lo hi),h) else none|_=>none
theorem yIU:yDR K yJF yIf:=by
 intro W x v lo hi Q z h' w rx e q
 unfold yIf at e
 split at e
 .rename_i s
  split at e
  .rename_i hl
   cases e
   exact ⟨s,rx,by omega,q _ W rfl (.refl w) rfl⟩
  .cases e
 .cases e
noncomputable def ysm {α:Type}(xs:List α) (lo hi:Option Int):List α:=(xs.drop (HT.sIx xs.length 0 lo)).take (HT.sIx xs.length xs.length hi-HT.sIx xs.length 0 lo)
noncomputable def listOf (x:PV) (h:AH):Option (List PV):=match x with|.lst xs=>some xs|.scr ns=>some (ns.map .int)|.loc n=>(match h[n]? with|some (.lst xs)=>some xs|_=>none)|_=>none
theorem ypM {W:Wd}(w:WOk K W) {x:PV}{v:V}{xs:List PV}(e:listOf x W.h=some xs) (r:yfa K W x v):∃ a vs,v=.ref a/\SqL K.K W.H a vs/\yfw K W xs vs:=by
 unfold listOf at e
 split at e
 .cases e
  obtain ⟨a,vs,ev,hs,rs⟩:=r
  exact ⟨a,vs,ev,SqL.of (w.le _ _ hs),rs⟩
 .rename_i ns
  cases e
  obtain ⟨a,ev,hs⟩:=r
  exact ⟨a,_,ev,yki w hs,RepL.of_ints ns⟩
 .rename_i n
  split at e
  .rename_i ys hn
   cases e
   obtain ⟨a,ev,hm,hf,vs,hp,rs⟩:=w.loc hn r
   exact ⟨a,vs,ev,SqL.of hp,rs⟩
  .cases e
 .cases e
noncomputable def yeL (x:PV) (h:AH):Option (List PV):=match x with|.lst xs=>some xs|.loc n=>(match h[n]? with|some (.lst xs)=>some xs|_=>none)|_=>none
theorem ycj {W:Wd}(w:WOk K W) {x:PV}{v:V}{xs:List PV}(e:yeL x W.h=some xs) (r:yfa K W x v):∃ a vs,v=.ref a/\W.H a=some (.lst vs)/\yfw K W xs vs:=by
 unfold yeL at e
 split at e
 .cases e
  obtain ⟨a,vs,ev,hs,rs⟩:=r
  exact ⟨a,vs,ev,w.le _ _ hs,rs⟩
 .rename_i n
  split at e
  .rename_i ys hn
   cases e
   obtain ⟨a,ev,hm,hf,vs,hp,rs⟩:=w.loc hn r
   exact ⟨a,vs,ev,hp,rs⟩
  .cases e
 .cases e
theorem yIg {W:Wd}(w:WOk K W) {p:Addr}(hp:W.H p=none) {xs:List PV}{vs:List V}(r:yfw K W xs vs) {Q:VK}(q:ywz K W (.lst xs) W.h Q):Q (.ref p) (upd W.H p (.lst vs)) :=
 q p (ypg W p (.lst vs)) rfl (ygr w hp) (w.out hp) hp (fun z=>by cases z) ⟨w.ff hp,vs,yS,r⟩
noncomputable def yAO:PV->Option Int->Option Int->AH->Option (Nd×AH):=fun x lo hi h=>match listOf x h with|some xs=>some (.lst (ysm xs lo hi),h)|none=>none
theorem yyf:yxW K (yJB K.K) yAO:=by
 intro W x v lo hi Q d h' w rx e q
 unfold yAO at e
 split at e
 .rename_i xs hx
  cases e
  obtain ⟨a,vs,ev,hs,rs⟩:=ypM w hx rx
  refine ⟨a,vs,ev,hs,fun p hp=>yIg w hp ?_ q⟩
  have:=(rs.drop (HT.sIx xs.length 0 lo)).take (HT.sIx xs.length xs.length hi-HT.sIx xs.length 0 lo)
  unfold ysm yGd
  rw [rs.len]
  exact this
 .cases e
noncomputable def yCs:P2O:=fun x y h=>match yeL x h,yeL y h with|some xs,some ys=>if xs.length+ys.length<=100000 then some (.lst (xs++ys),h) else none|_,_=>none
theorem yyg:yxQ K yJD yCs:=by
 intro W x y v u Q d h' w rx ry e q
 unfold yCs at e
 split at e
 .rename_i xs ys hx hy
  split at e
  .rename_i hl
   cases e
   obtain ⟨a,vs,ev,hs,rs⟩:=ycj w hx rx
   obtain ⟨b,us,eu,ht,ru⟩:=ycj w hy ry
   refine ⟨a,b,vs,us,ev,eu,hs,ht,by rw [rs.len,ru.len];exact yIS hl,fun p hp=>yIg w hp (rs.app ru) q⟩
  .cases e
 .cases e
noncomputable def repL {α:Type}(k:Nat) (xs:List α):List α:=(List.replicate k xs).flatten
noncomputable def yyh (x:PV) (h:AH):Option Nat:=match x with|.tup xs=>some xs.length|.lst xs=>some xs.length|.scr ns=>some ns.length|.loc n=>(match h[n]? with|some (.lst xs)=>some xs.length|_=>none)|_=>none
noncomputable def yiW:List PV->AH->Option (PV×AH):=fun xs h=>match xs with|[x]=>(match yyh x h with|some n=>some (.int n,h)|none=>none)|_=>none
noncomputable def yAP:List PV->AH->Option (PV×AH):=fun xs h=>match xs with|[.str z]=>if z.length<=100000 then some (.int z.length,h) else none|_=>none
theorem ywG {W:Wd}{x:PV}{vs:List V}(r:yfw K W [x] vs):∃ v,vs=[v]/\yfa K W x v:=by
 obtain ⟨v,r',e,h,l⟩:=r
 exact ⟨v,by rw [e,show r'=[] from l],h⟩
theorem yJI {W:Wd}{x y:PV}{vs:List V}(r:yfw K W [x,y] vs):∃ v u,vs=[v,u]/\yfa K W x v/\yfa K W y u:=by
 obtain ⟨v,r',e,h,l⟩:=r
 obtain ⟨u,e2,h2⟩:=ywG l
 exact ⟨v,u,by rw [e,e2],h,h2⟩
theorem ymq:yqw K (yIN K.K) yiW:=by
 intro W xs vs Q z h' w r e q
 unfold yiW at e
 split at e
 .rename_i x
  split at e
  .rename_i n hn
   cases e
   obtain ⟨v,rfl,rx⟩:=ywG r
   have fin:∀ (ys:List V),ys.length=n->Q (.int ys.length) W.H:=fun ys hl=>by rw [hl];exact q _ W rfl (.refl w) rfl
   unfold yyh at hn
   split at hn
   .cases hn
    obtain ⟨a,us,rfl,hs,rs⟩:=rx
    exact ⟨a,us,rfl,.inr (ygQ w hs),fin _ rs.len⟩
   .rename_i ys
    cases hn
    obtain ⟨a,us,rfl,hs,rs⟩:=rx
    exact ⟨a,us,rfl,.inl (SqL.of (w.le _ _ hs)),fin _ rs.len⟩
   .rename_i ns
    cases hn
    obtain ⟨a,rfl,hs⟩:=rx
    exact ⟨a,_,rfl,.inl (yki w hs),fin _ (by simp)⟩
   .split at hn
    .rename_i ys hy
     cases hn
     obtain ⟨a,rfl,hm,hf,us,hp,rs⟩:=w.loc hy rx
     exact ⟨a,us,rfl,.inl (SqL.of hp),fin _ rs.len⟩
    .cases hn
   .cases hn
  .cases e
 .cases e
theorem yGy:yqw K yIM yAP:=by
 intro W xs vs Q z h' w r e q
 unfold yAP at e
 split at e
 .rename_i s
  split at e
  .rename_i hl
   cases e
   obtain ⟨v,rfl,rx⟩:=ywG r
   exact ⟨s,by rw [show v=_ from rx],yIS hl,q _ W rfl (.refl w) rfl⟩
  .cases e
 .cases e
noncomputable def ywH:List PV->AH->Option (PV×AH):=fun xs h=>match xs with|[.int i]=>some (.int i,h)|[.bl k]=>some (.int (if k then 1 else 0),h)|_=>none
theorem yyi:yqw K yIL ywH:=by
 intro W xs vs Q z h' w r e q
 unfold ywH at e
 split at e
 .rename_i i
  cases e
  obtain ⟨v,rfl,rx⟩:=ywG r
  exact .inl ⟨i,by rw [show v=_ from rx],q _ W rfl (.refl w) rfl⟩
 .rename_i k
  cases e
  obtain ⟨v,rfl,rx⟩:=ywG r
  exact .inr ⟨k,by rw [show v=_ from rx],q _ W rfl (.refl w) rfl⟩
 .cases e
noncomputable def ybU:List PV->AH->Option (Nd×AH):=fun xs h=>match xs with|[.tup ys]=>some (.lst ys,h)|[x]=>(match listOf x h with|some ys=>some (.lst ys,h)|none=>none)|_=>none
theorem ydB:ysj K (yDx K.K) ybU:=by
 intro W xs vs Q d h' w r e q
 unfold ybU at e
 split at e
 .rename_i ys
  cases e
  obtain ⟨v,rfl,a,us,rfl,hs,rs⟩:=ywG r
  exact ⟨a,us,rfl,.inr (ygQ w hs),fun p hp=>yIg w hp rs q⟩
 .rename_i x _
  split at e
  .rename_i ys hy
   cases e
   obtain ⟨v,rfl,rx⟩:=ywG r
   obtain ⟨a,us,rfl,hs,rs⟩:=ypM w hy rx
   exact ⟨a,us,rfl,.inl hs,fun p hp=>yIg w hp rs q⟩
  .cases e
 .cases e
noncomputable def intsOf:List PV->Option (List Int)
 | []=>some []
 | .int s::r=>(intsOf r).map (s::·)
 | _=>none
theorem ypN:∀ ss:List Int,intsOf (ss.map .int)=some ss
 | []=>rfl
 | s::ss=>by show (intsOf (ss.map .int)).map _=_;rw [ypN ss];rfl
theorem ypO {F:Hp}{m:List Addr}:∀ {xs:List PV}{ss:List Int}{vs:List V},intsOf xs=some ss->RepL K F m xs vs->vs=ss.map V.int
 | [],_,_,e,r=>by cases e;exact r
 | x::xs,ss,_,e,⟨v,r',ev,h,l⟩=>by
  cases x<;>try cases e
  rename_i s
  obtain ⟨ts,e1,e2⟩:=Option.map_eq_some_iff.mp e
  subst e2
  rw [ev,show v=_ from h,ypO e1 l];rfl
noncomputable def yFu:List PV->AH->Option (PV×AH):=fun xs h=>match xs with|[x]=>(match yeL x h with|some ys=>(match intsOf ys with|some ns=>some (.int ns.sum,h)|none=>none)|none=>none)|_=>none
theorem yGz:yqw K yJG yFu:=by
 intro W xs vs Q z h' w r e q
 unfold yFu at e
 split at e
 .split at e
  .rename_i ys hy
   split at e
   .rename_i ns hn
    cases e
    obtain ⟨v,rfl,rx⟩:=ywG r
    obtain ⟨a,us,rfl,hs,rs⟩:=ycj w hy rx
    have:=ypO hn rs
    subst this
    exact ⟨a,ns,rfl,hs,q _ W rfl (.refl w) rfl⟩
   .cases e
  .cases e
 .cases e
noncomputable def isStr:PV->AH->Bool:=fun x _=>match x with|.str _=>true|_=>false
noncomputable def yfb:PM:=fun x xs h=>match x,xs with|.str z,[.str s]=>(match s.cps.toList with|[c]=>if z.length<=1000/\c∈z.cps.toList then some (.int (z.cps.toList.idxOf c),h) else none|_=>none)|_,_=>none
theorem yfL:ysk K "str" isStr yxM yfb:=by
 refine ⟨fun W x v w r c=>?_,fun W x v xs vs Q z h' w rx r e q=>?_⟩
 .unfold isStr at c
  split at c
  .rw [show v=_ from r];rfl
  .cases c
 .unfold yfb at e
  split at e
  .rename_i z s
   split at e
   .rename_i c hc
    split at e
    .rename_i hl
     cases e
     obtain ⟨u,rfl,ru⟩:=ywG r
     exact ⟨z,c,rx,by rw [show u=_ from ru,one_sign hc],hl.1,hl.2,q _ W rfl (.refl w) rfl⟩
    .cases e
   .cases e
  .cases e
end PX
namespace PX
open PySem L2
variable {K:Ck}
noncomputable def putN (f:Str) (x:PV) (ns:List Str) (xs:List PV):List Str×List PV:=if f∈ns then (ns,xs.set (ns.idxOf f) x) else (ns++[f],xs++[x])
theorem yvG (f:Str) (y:V):∀ (ns:List Str) (vs:List V),vs.length=ns.length->ypK f y (ns.zip vs)=if f∈ns then ns.zip (vs.set (ns.idxOf f) y) else (ns++[f]).zip (vs++[y])
 | [],[],_=>by simp [ypK]
 | n::ns,v::vs,hl=>by
  have ih:=yvG f y ns vs (by simpa using hl)
  show (if n=f then (n,y)::ns.zip vs else (n,v)::ypK f y (ns.zip vs))=_
  by_cases h:n=f
  .subst h
   simp [List.idxOf_cons_self]
  .have h':¬ f=n:=fun z=>h z.symm
   have hb:(n == f)=false:=by simpa using h
   rw [if_neg h,ih]
   by_cases hm:f∈ns
   .simp [hm,h',List.idxOf_cons,hb]
   .simp [hm,h']
theorem ypP {f:Str}:∀ {ns:List Str}{vs:List V},vs.length=ns.length->f∈ns->(ns.zip vs).lookup f=vs[ns.idxOf f]?
 | [],_,_,h=>by simp at h
 | n::ns,v::vs,hl,h=>by
  show List.lookup f ((n,v)::ns.zip vs)=_
  by_cases hn:f=n
  .subst hn
   rw [yIP,List.idxOf_cons_self];rfl
  .rw [yGg hn,ypP (by simpa using hl) (by simpa [hn] using h)]
   have hb:(n == f)=false:=by simpa using fun z:n=f=>hn z.symm
   simp [List.idxOf_cons,hb]
theorem yiX {f:Str}:∀ {ns:List Str}{vs:List V},f∉ns->(ns.zip vs).lookup f=none
 | [],_,_=>by simp
 | n::ns,[],_=>by simp
 | n::ns,v::vs,h=>by
  show List.lookup f ((n,v)::ns.zip vs)=_
  rw [yGg (fun z:f=n=>h (by rw [z];exact List.mem_cons_self)),yiX fun z=>h (List.mem_cons_of_mem _ z)]
noncomputable def ykj (x:PV) (h:AH):Option (Nat×List Str×List PV):=match x with|.ins k ns xs=>some (k,ns,xs)|.loc n=>(match h[n]? with|some (.ins k ns xs)=>some (k,ns,xs)|_=>none)|_=>none
theorem ynW {W:Wd}(w:WOk K W) {x:PV}{v:V}{k:Nat}{ns:List Str}{xs:List PV}(e:ykj x W.h=some (k,ns,xs)) (r:yfa K W x v):∃ a dx vs,v=.ref a/\W.H a=some (.ins (K.A k) dx (ns.zip vs))/\vs.length=ns.length/\yfw K W xs vs:=by
 unfold ykj at e
 split at e
 .cases e
  obtain ⟨a,dx,vs,ev,hs,hl,rs⟩:=r
  exact ⟨a,dx,vs,ev,w.le _ _ hs,hl,rs⟩
 .rename_i n
  split at e
  .rename_i hn
   cases e
   obtain ⟨a,ev,hm,hf,dx,vs,hp,hl,rs⟩:=w.loc hn r
   exact ⟨a,dx,vs,ev,hp,hl,rs⟩
  .cases e
 .cases e
noncomputable def yfM (cs:List Nat) (f:Str) (e:XE):XE:=fun ρ h=>ob (e ρ h) fun x h1=>match ykj x h1 with|some (k,ns,xs)=>if k∈cs/\f∈ns then (match xs[ns.idxOf f]? with|some y=>some (y,h1)|none=>none) else none|none=>none
theorem yEh {cs:List Nat}{f:Str}{ta:TE}{ea:XE}(hc:∀ k∈cs,Cls K.K (K.A k)/\NoAttr K.K (K.A k) f) (a:ydx K ta ea):ydx K (yJy K.K ta f) (yfM cs f ea):=by
 intro W0 W ρ σ Q z h' g e q
 obtain ⟨x,h1,e1,f1⟩:=yn e
 refine a W0 W ρ σ _ x h1 g e1 fun v W1 w1 l1 r1=>?_
 subst w1
 split at f1
 .rename_i k ns xs hi
  split at f1
  .rename_i c
   split at f1
   .rename_i y hy
    cases f1
    obtain ⟨a,dx,vs,ev,hp,hl,rs⟩:=ynW l1.ok hi r1
    obtain ⟨u,h2,h3⟩:=rs.get hy
    exact ⟨a,_,dx,_,u,ev,hp,(hc k c.1).1,(hc k c.1).2,by rw [ypP hl c.2];exact h2,q _ W1 rfl l1 h3⟩
   .cases f1
  .cases f1
 .cases f1
noncomputable def ygG (cs:List Nat) (i:Nat) (f:Str) (e:XE):XS:=fun ρ h=>ob (e ρ h) fun x h1=>match ρ[i]? with
 | some (.own (.ins k ns xs))=>if k∈cs/\ns.length<1000 then some (.nx (ρ.set i (.own (.ins k (putN f x ns xs).1 (putN f x ns xs).2))),h1) else none
 | _=>none
theorem RepL.putN {F:Hp}{m:List Addr}{f:Str}{x:PV}{v:V}{ns:List Str}{xs:List PV}{vs:List V}(r:RepL K F m xs vs) (hl:vs.length=ns.length) (rx:Rep K F m x v) :
  ∃ us,ypK f v (ns.zip vs)=(PX.putN f x ns xs).1.zip us/\us.length=(PX.putN f x ns xs).1.length/\RepL K F m (PX.putN f x ns xs).2 us:=by
 rw [yvG f v ns vs hl]
 unfold PX.putN
 by_cases h:f∈ns
 .rw [if_pos h,if_pos h]
  exact ⟨_,rfl,by rw [List.length_set];exact hl,r.set _ rx⟩
 .rw [if_neg h,if_neg h]
  exact ⟨_,rfl,by rw [List.length_append,List.length_append,hl];rfl,r.snoc rx⟩
noncomputable def yzR (K:Ck) (t:TS) (s:XS):Prop:=∀ (W0 W:Wd) (ρ ρ':PSt) (σ:St) (D:Ends) (h':AH),Good K W0 W ρ σ->s ρ W.h=some (.nx ρ',h')->(∀ W',W'.h=h'->Lf K W W'->Good K W0 W' ρ' σ->D.nx σ W'.H)->t D σ W.H
theorem yAQ {cs:List Nat}{i:Nat}{f:Str}{ta:TE}{ea:XE}(hc:∀ k∈cs,Cls K.K (K.A k)/\NoAttr K.K (K.A k) f) (a:ydx K ta ea):yzR K (yIv K.K (yBV i) ta f) (ygG cs i f ea):=by
 intro W0 W ρ ρ' σ D h' g e q
 obtain ⟨x,h1,e1,f1⟩:=yn e
 split at f1
 .rename_i k ns xs hi
  split at f1
  .rename_i c
   cases f1
   refine a W0 W ρ σ _ x _ g e1 fun v W1 w1 l1 r1=>?_
   have g1:=g.step l1
   obtain ⟨p,b1,b2,b3,b4,b5,dx,vs,b6,b7,b8⟩:=g1.own i _ hi
   obtain ⟨us,p1,p2,p3⟩:=b8.putN (f:=f) b7 r1
   refine ⟨_,b1,p,_,dx,_,rfl,b6,(hc k c.1).1,(hc k c.1).2,by rw [List.length_zip,b7];simpa using c.2,?_⟩
   rw [p1]
   exact q (yDY W1 p _) w1 (yCp l1 b2) (g1.mut hi b1 b2 b3 b5 (fun z=>by cases z) ⟨b5,dx,us,yS,p2,p3⟩)
  .cases f1
 .cases f1
theorem yAR {t u:TS}{s s':XS}(a:yzR K t s) (b:yzR K u s'):yzR K (yIo t u) (yB s s'):=by
 intro W0 W ρ ρ' σ D h' g e q
 obtain ⟨o1,h1,e1,f1⟩:=yn e
 cases o1 with
 | nx ρ1=>exact a W0 W ρ ρ1 σ _ h1 g e1 fun W1 w1 l1 g1=>b W0 W1 ρ1 ρ' σ D h' g1 (by rw [w1];exact f1) fun W2 w2 l2 g2=>q W2 w2 (l1.trans l2) g2
 | rt y=>cases f1
 | bk y=>cases f1
 | ct y=>cases f1
noncomputable def yuC (N:Nat) (k:Nat) (s:XS):List PV->AH->Option (Nd×AH):=fun xs h=>ob (s (.own (.ins k [] [])::(xs.map .val++List.replicate (N-(xs.length+1)) .no)) h) fun o h1=>match o with|.nx ρ=>(match ρ[0]? with|some (PVar.own d)=>some (d,h1)|_=>none)|_=>none
noncomputable def spI (K:Ck) (n k:Nat) (f:List PV->AH->Option (Nd×AH)):Sp:=fun vs H Q _=>∃ (W:Wd) (x dx:Addr) (args:List V) (xs:List PV) (d:Nd) (h':AH),vs=.ref x::args/\W.H x=none/\W.H dx=none/\dx≠x/\H=upd (upd W.H dx (.own x)) x (.ins (K.A k) dx []) /\
 WOk K W/\yfw K W xs args/\xs.length=n/\f xs W.h=some (d,h')/\∀ W',W'.h=h'->Le K W W'->x∉W'.m->d≠.dead->NdAt K W'.F W'.H W'.m d x->Q .non W'.H
theorem yEi {n k:Nat}{f} {vs:List V}{H:Hp}{Q:VK}{E:XK}(h:spI K n k f vs H Q E):vs.length=n+1:=by
 obtain ⟨W,x,dx,args,xs,d,h',rfl,_,_,_,_,w,r,hn,_⟩:=h
 rw [List.length_cons,r.len,hn]
theorem yAS {N:List Str}{n k:Nat}{t:TS}{s:XS}{vs:List V}{H:Hp}{Q:VK}{E:XK}{bk ct:St->Hp->Prop}(hN:n+1<=N.length) (a:yzR K t s) (h:spI K n k (yuC N.length k s) vs H Q E):t ⟨fun _ H'=>Q .non H',Q,bk,ct⟩ (L2.start N vs) H:=by
 obtain ⟨W,x,dx,args,xs,d,h',rfl,hx,hd,hne,rfl,w,r,hn,e,q⟩:=h
 obtain ⟨o,h1,e1,f1⟩:=yn e
 have l1:Le K W (ypg W dx (.own x)):=ygr w hd
 have hx1:(ypg W dx (.own x)).H x=none:=(ybb hne.symm).trans hx
 have l2:Le K (ypg W dx (.own x)) (ypg (ypg W dx (.own x)) x (.ins (K.A k) dx [])):=ygr l1.ok hx1
 have l:=l1.trans l2
 have gs:=ylP (K:=K) (N:=N.drop 1) w r
 have g:Good K W (ypg (ypg W dx (.own x)) x (.ins (K.A k) dx [])) (.own (.ins k [] [])::(xs.map .val++List.replicate (N.length-(xs.length+1)) .no)) (L2.start N (.ref x::args)):=by
  have es:L2.start N (.ref x::args)=some (.ref x)::L2.start (N.drop 1) args:=by
   have e3:N.length-(args.length+1)=(N.drop 1).length-args.length:=by rw [List.length_drop];omega
   unfold L2.start
   rw [List.map_cons,List.cons_append,List.length_cons,e3]
  have eN:N.length-(xs.length+1)=(N.drop 1).length-xs.length:=by rw [List.length_drop];omega
  rw [es,eN]
  have gs':=gs.step l
  have noown:∀ (j:Nat) (d:Nd),(xs.map PVar.val++List.replicate ((N.drop 1).length-xs.length) .no)[j]?≠some (.own d):=fun j d z=>by
   by_cases hj:j<xs.length
   .rw [List.getElem?_append_left (by simpa using hj),List.getElem?_map,List.getElem?_eq_getElem hj] at z
    cases z
   .rw [List.getElem?_append_right (by simp;omega),List.getElem?_replicate] at z
    split at z<;>cases z
  refine ⟨l,by rw [List.length_cons,List.length_cons,gs.len],fun j y z=>?_,fun j d z=>?_,fun i j d d' hij z z'=>?_⟩
  .cases j with
   | zero=>cases z
   | succ j=>exact gs'.val j y z
  .cases j with
   | zero=>cases z;exact ⟨x,rfl,w.out hx,hx,(fun z=>by cases z),w.ff hx,dx,[],yS,rfl,rfl⟩
   | succ j=>exact absurd z (noown j d)
  .cases i with
   | zero =>
    cases j with
    | zero=>exact absurd rfl hij
    | succ j=>exact absurd z' (noown j d')
   | succ i=>exact absurd z (noown i d)
 cases o with
 | rt y=>cases f1
 | bk ρ=>cases f1
 | ct ρ=>cases f1
 | nx ρ =>
  refine a W _ _ ρ _ _ h1 g e1 fun W' ew lf g'=>?_
  dsimp only at f1
  split at f1
  .rename_i d' hd'
   cases f1
   obtain ⟨p,b1,b2,b3,b4,b5⟩:=g'.own 0 _ hd'
   have b1:some (some (V.ref x))=some (some (V.ref p)):=b1
   cases b1
   exact q W' ew g'.le b2 b4 b5
  .cases f1
noncomputable def yne (f:List PV->AH->Option (Nd×AH)) (a:XA):XO:=fun ρ h=>ob (a ρ h) f
theorem yvH {n k:Nat}{f} {ex:XK}{t:TA}{e:XA}(a:ytY K t e) (hn:∀ ρ h xs h',e ρ h=some (xs,h')->xs.length=n):yvC K (yDr (K.A k) (spI K n k f) [] ex t) (yne f e):=by
 intro W0 W ρ σ Q d h' g e' q
 obtain ⟨xs,h1,e1,e2⟩:=yn e'
 refine a W0 W ρ σ _ xs h1 g e1 fun vs W1 w1 l1 r1=>?_
 subst w1
 intro x dx hx hd hne
 rw [List.append_nil]
 exact ⟨W1,x,dx,vs,xs,d,h',rfl,hx,hd,hne,rfl,l1.ok,r1,hn _ _ _ _ e1,e2,fun W2 w2 l2 hm hdd at_=>⟨rfl,q x W2 w2 (l1.trans l2) hm (l1.fresh hx) hdd at_⟩⟩
noncomputable def yvI (k:Nat):XO:=fun _ h=>some (.ins k [] [],h)
theorem yyj {k:Nat}:yvC K (yCh (K.A k)) (yvI k):=by
 intro W0 W ρ σ Q d h' g e q
 cases e
 intro x dx hx hd hne
 have w:=g.ok
 have l1:Le K W (ypg W dx (.own x)):=ygr w hd
 have hx1:(ypg W dx (.own x)).H x=none:=(ybb hne.symm).trans hx
 have l2:Le K (ypg W dx (.own x)) (ypg (ypg W dx (.own x)) x (.ins (K.A k) dx [])):=ygr l1.ok hx1
 exact q x (ypg (ypg W dx (.own x)) x (.ins (K.A k) dx [])) rfl (l1.trans l2) (w.out hx) hx (fun z=>by cases z) ⟨w.ff hx,dx,[],yS,rfl,rfl⟩
noncomputable def ywI (tb:List (Nat×Nat×Bool)) (x c:PV) (h:AH):Option Bool:=match c with
 | .ty n=>(match x with
  | .int _=>if n = "int" then some true else if n = "bool"\/n = "str"\/n = "list"\/n = "tuple"\/n = "dict" then some false else none
  | .bl _=>if n = "int"\/n = "bool" then some true else if n = "str"\/n = "list"\/n = "tuple"\/n = "dict" then some false else none
  | .str _=>if n = "str" then some true else if n = "int"\/n = "bool"\/n = "list"\/n = "tuple"\/n = "dict" then some false else none
  | .non=>if n = "int"\/n = "bool"\/n = "str"\/n = "list"\/n = "tuple"\/n = "dict" then some false else none
  | .tup _=>if n = "tuple" then some true else if n = "int"\/n = "bool"\/n = "str"\/n = "list"\/n = "dict" then some false else none
  | _=>(match yeL x h with|some _=>if n = "list" then some true else if n = "int"\/n = "bool"\/n = "str"\/n = "tuple"\/n = "dict" then some false else none|none=>none))
 | .cls c'=>(match ykj x h with|some (k,_)=>(tb.find? fun r=>r.1 == k && r.2.1 == c').map (·.2.2)|none=>none)
 | _=>none
noncomputable def ycS (tb:List (Nat×Nat×Bool)):List PV->AH->Option (PV×AH):=fun xs h=>match xs with|[x,c]=>(match ywI tb x c h with|some b=>some (.bl b,h)|none=>none)|_=>none
theorem yiY {tb:List (Nat×Nat×Bool)}(ht:∀ r∈tb,∀ (H:Hp) (a dx:Addr) (fs:List (Str×V)),H a=some (.ins (K.A r.1) dx fs)->IsI K.K H (.ref a) (.ref (K.A r.2.1)) r.2.2):yqw K (yJE K.K) (ycS tb):=by
 intro W xs vs Q z h' w r e q
 unfold ycS at e
 split at e
 .rename_i x c
  split at e
  .rename_i b hb
   cases e
   obtain ⟨v,u,rfl,rx,ru⟩:=yJI r
   refine ⟨v,u,b,rfl,?_,q _ W rfl (.refl w) rfl⟩
   unfold ywI at hb
   split at hb
   .rename_i n
    obtain rfl:u=.ty n:=ru
    split at hb
    .rw [show v=_ from rx]
     repeat' split at hb
     all_goals cases hb
     .rename_i hn;subst hn;exact yuh
     .rename_i hn;rcases hn with rfl|rfl|rfl|rfl|rfl
      .exact yrS
      .exact yum
      .exact yrV
      .exact yqr
      .exact yrW
    .rw [show v=_ from rx]
     repeat' split at hb
     all_goals cases hb
     .rename_i hn;rcases hn with rfl|rfl
      .exact yww
      .exact yuj
     .rename_i hn;rcases hn with rfl|rfl|rfl|rfl
      .exact ywx
      .exact yun
      .exact yrX
      .exact yuo
    .rw [show v=_ from rx]
     repeat' split at hb
     all_goals cases hb
     .rename_i hn;subst hn;exact yuk
     .rename_i hn;rcases hn with rfl|rfl|rfl|rfl|rfl
      .exact yup
      .exact yrY
      .exact yrZ
      .exact yqs
      .exact ysa
    .rw [show v=_ from rx]
     repeat' split at hb
     all_goals cases hb
     .rename_i hn;rcases hn with rfl|rfl|rfl|rfl|rfl|rfl
      .exact yui
      .exact ysb
      .exact yuq
      .exact ysc
      .exact yqt
      .exact ysd
    .obtain ⟨a,us,rfl,hs,_⟩:=rx
     have hp:(∃ xs,W.H a=some (.tup xs))\/∃ o,K.K.lookup a=some o/\o.cls=.type "tuple":=hs.elim (fun h=>.inl ⟨_,w.le _ _ h⟩) fun ⟨o,its,n,e1,e2,_⟩=>.inr ⟨o,e1,e2⟩
     repeat' split at hb
     all_goals cases hb
     .rename_i hn;subst hn;exact yqv hp
     .rename_i hn;rcases hn with rfl|rfl|rfl|rfl|rfl
      .exact yut hp
      .exact ysg hp
      .exact yuu hp
      .exact ysh hp
      .exact ysi hp
    .split at hb
     .rename_i ys hy
      obtain ⟨a,us,rfl,hp,_⟩:=ycj w hy rx
      repeat' split at hb
      all_goals cases hb
      .rename_i hn;subst hn;exact yrT hp
      .rename_i hn;rcases hn with rfl|rfl|rfl|rfl|rfl
       .exact yur hp
       .exact yse hp
       .exact yus hp
       .exact yqu hp
       .exact ysf hp
     .cases hb
   .rename_i c'
    obtain rfl:u=.ref (K.A c'):=ru
    split at hb
    .rename_i k p hi
     obtain ⟨r',h1,h2⟩:=Option.map_eq_some_iff.mp hb
     have hm:=List.mem_of_find?_eq_some h1
     have hp:=List.find?_some h1
     simp only [Bool.and_eq_true,beq_iff_eq] at hp
     obtain ⟨a,dx,us,rfl,hs,_⟩:=ynW w hi rx
     obtain ⟨p1,p2⟩:=hp
     have:=ht r' hm W.H a dx (p.1.zip us) (by rw [p1];exact hs)
     rw [p2,h2] at this
     exact this
    .cases hb
   .cases hb
  .cases e
 .cases e
end PX
namespace PX
open PySem L2
section
variable {ρ:PSt}{h h1:AH}{x y z:PV}{a b c:XE}{ca cb:XT}{aa:XA}{eo:XO}{s u:XS}{i:Nat}{p:P2}
theorem yw {α β:Type}{x:α}{h:AH}{f:α->AH->Option β}:ob (some (x,h)) f=f x h:=id rfl
theorem ysn {α β:Type}{f:α->AH->Option β}:ob (none:Option (α×AH)) f=none:=id rfl
theorem ynX {α β γ:Type}{o:Option (α×AH)}{f:α->AH->Option (β×AH)}{g:β->AH->Option γ}:ob (ob o f) g=ob o fun x h=>ob (f x h) g:=by cases o<;>rfl
theorem yso {α β:Type}{q:Prop} [Decidable q] {o o':Option (α×AH)}{f:α->AH->Option β}:ob (if q then o else o') f=if q then ob o f else ob o' f:=by split<;>rfl
theorem ymr:yh 0 (.val x::ρ) h=some (x,h):=id rfl
theorem yms {v:PVar}{n:Nat}:yh (n+1) (v::ρ) h=yh n ρ h:=by simp [yh]
theorem x_c:xC x ρ h=some (x,h):=id rfl
theorem yyk:xOp p a b ρ h=ob (a ρ h) fun x h1=>ob (b ρ h1) fun y h2=>p x y h2:=id rfl
theorem ysp {p:P2O}:yCk p a b ρ h=ob (a ρ h) fun x h1=>ob (b ρ h1) fun y h2=>p x y h2:=id rfl
theorem yAT {k:Bool}:oB (.bl k) h=some (k,h):=id rfl
theorem ykI:yU a ρ h=ob (a ρ h) oB:=id rfl
theorem ymt:ywy a b ρ h=ob (a ρ h) fun x h1=>ob (oB x h1) fun k h1=>if k=true then b ρ h1 else some (.bl false,h1):=id rfl
theorem ymu:yAp a ρ h=ob (a ρ h) fun x h1=>ob (oB x h1) fun k h1=>some (.bl (!k),h1):=id rfl
theorem yCt:xOr ca cb ρ h=ob (ca ρ h) fun k h1=>if k=true then some (true,h1) else cb ρ h1:=id rfl
theorem ysq:yDF ca ρ h=ob (ca ρ h) fun k h1=>some (!k,h1):=id rfl
theorem yCu:xIf ca a b ρ h=ob (ca ρ h) fun k h1=>if k=true then a ρ h1 else b ρ h1:=id rfl
theorem ynf:yu ρ h=some ([],h):=id rfl
theorem yiZ:yd a aa ρ h=ob (a ρ h) fun x h1=>ob (aa ρ h1) fun xs h2=>some (x::xs,h2):=id rfl
theorem yqy:ykg aa ρ h=ob (aa ρ h) fun xs h1=>if xs.length<=1000 then some (.tup xs,h1) else none:=id rfl
theorem ysr:ymo aa ρ h=ob (aa ρ h) fun xs h1=>if xs.length<=1000 then some (.lst xs,h1) else none:=id rfl
noncomputable def fzN:Nd->AH->Option (PV×AH)
 | .lst xs,h=>some (.lst xs,h)
 | .ins k ns xs,h=>some (.ins k ns xs,h)
 | _,_=>none
theorem yzS:xFz eo ρ h=ob (eo ρ h) fzN:=by
 unfold xFz;congr;funext d h1;cases d<;>rfl
theorem yss {xs:List PV}:fzN (.lst xs) h=some (.lst xs,h):=id rfl
theorem yst {k:Nat}{ns:List Str}{xs:List PV}:fzN (.ins k ns xs) h=some (.ins k ns xs,h):=id rfl
theorem ypi:ymp eo ρ h=ob (eo ρ h) fun d h1=>some (.loc h1.length,h1++[d]):=id rfl
theorem x_call {f:Fn}:ydt f aa ρ h=ob (aa ρ h) f:=id rfl
theorem yCv {f}:xCB f aa ρ h=ob (aa ρ h) f:=id rfl
theorem yqz {f}:ypf f aa ρ h=ob (aa ρ h) f:=id rfl
theorem yxk {q} {p:PM}:xBM q p a aa ρ h=ob (a ρ h) fun x h1=>if q x h1=true then ob (aa ρ h1) fun xs h2=>p x xs h2 else none:=id rfl
theorem yja {s:Str}:isStr (.str s) h=true:=id rfl
theorem ymv {f}:yne f aa ρ h=ob (aa ρ h) f:=id rfl
theorem yjb {k:Nat}:yvI k ρ h=some (.ins k [] [],h):=id rfl
theorem ykJ:ybQ ρ h=some (.nx ρ,h):=id rfl
noncomputable def sqK (u:XS):Out->AH->Option (Out×AH)
 | .nx ρ,h=>u ρ h
 | .rt x,h=>some (.rt x,h)
 | .bk ρ,h=>some (.bk ρ,h)
 | .ct ρ,h=>some (.ct ρ,h)
theorem yjc:yB s u ρ h=ob (s ρ h) (sqK u):=by
 unfold yB;congr;funext o h1;cases o<;>rfl
theorem ylQ:sqK u (.nx ρ) h=u ρ h:=id rfl
theorem ysu:sqK u (.rt x) h=some (.rt x,h):=id rfl
theorem yhs:yfz a ρ h=ob (a ρ h) fun _ h1=>some (.nx ρ,h1):=id rfl
theorem yng:ycN a ρ h=ob (a ρ h) fun x h1=>some (.rt x,h1):=id rfl
theorem yqA:ydH ca s u ρ h=ob (ca ρ h) fun k h1=>if k=true then s ρ h1 else u ρ h1:=id rfl
theorem ylR {g:XG}:yes a g ρ h=ob (a ρ h) fun x h1=>(g x ρ).bind fun ρ'=>some (.nx ρ',h1):=id rfl
theorem ymw:yuz eo i ρ h=ob (eo ρ h) fun d h1=>some (.nx (ρ.set i (.own d)),h1):=id rfl
theorem ymx:yJ i x ρ=some (ρ.set i (.val x)):=id rfl
theorem ymy:yGs [] ρ=some ρ:=id rfl
theorem yjd {g:XG}{r:XGs}{xs:List PV}:yuy g r (x::xs) ρ=(g x ρ).bind fun ρ'=>r xs ρ':=id rfl
theorem ymz {n:Nat}{g:XGs}{xs:List PV}:yFt n g (.tup xs) ρ=if xs.length=n then g xs ρ else none:=id rfl
theorem ysv:yDT i s ρ h=s (yuA i ρ) h:=id rfl
theorem ysw {v:PVar}:yuA 0 (v::ρ)=yAw v::ρ:=id rfl
theorem ysx {v:PVar}{n:Nat}:yuA (n+1) (v::ρ)=v::yuA n ρ:=id rfl
theorem ysy {xs:List PV}:yAw (.own (.lst xs))=.val (.lst xs):=id rfl
theorem ypj {it:XA}{g:XG}:yAx it g s ρ h=ob (it ρ h) fun xs h1=>yph g s xs ρ h1:=id rfl
noncomputable def frK (g:XG) (s:XS) (xs:List PV):Out->AH->Option (Out×AH)
 | .nx ρ,h=>yph g s xs ρ h
 | .ct ρ,h=>yph g s xs ρ h
 | .bk ρ,h=>some (.nx ρ,h)
 | .rt y,h=>some (.rt y,h)
theorem yyl {g:XG}{xs:List PV}:yph g s (x::xs) ρ h=(g x ρ).bind fun ρ1=>ob (s ρ1 h) (frK g s xs):=by
 unfold yph;congr;funext ρ1;congr;funext o h1;cases o<;>rfl
theorem ysz {g:XG}{xs:List PV}:frK g s xs (.nx ρ) h=yph g s xs ρ h:=id rfl
theorem ysA {g:XG}{xs:List PV}:frK g s xs (.rt x) h=some (.rt x,h):=id rfl
noncomputable def fnK:Out->AH->Option (PV×AH)
 | .rt x,h=>some (x,h)
 | .nx _,h=>some (.non,h)
 | _,_=>none
theorem yD {N:Nat}{xs:List PV}:yho N s xs h=ob (s (xs.map .val++List.replicate (N-xs.length) .no) h) fnK:=by
 unfold yho;congr;funext o h1;cases o<;>rfl
theorem ysB:fnK (.rt x) h=some (x,h):=id rfl
theorem ysC:fnK (.nx ρ) h=some (.non,h):=id rfl
noncomputable def inK:Out->AH->Option (Nd×AH)
 | .nx (.own d::_),h=>some (d,h)
 | _,_=>none
theorem yil {N k:Nat}{xs:List PV}:yuC N k s xs h=ob (s (.own (.ins k [] [])::(xs.map .val++List.replicate (N-(xs.length+1)) .no)) h) inK:=by
 unfold yuC;congr;funext o h1;cases o with
 | nx ρ=>cases ρ with
  | nil=>rfl
  | cons v ρ=>cases v<;>rfl
 | _=>rfl
theorem ysD {d:Nd}:inK (.nx (.own d::ρ)) h=some (d,h):=id rfl
noncomputable def yiV (cs:List Nat) (f:Str) (x:PV) (h:AH):Option (PV×AH):=match ykj x h with|some (k,ns,xs)=>if k∈cs/\f∈ns then (match xs[ns.idxOf f]? with|some y=>some (y,h)|none=>none) else none|none=>none
theorem yje {cs:List Nat}{f:Str}:yfM cs f a ρ h=ob (a ρ h) (yiV cs f):=id rfl
theorem ycK {cs:List Nat}{f:Str}{k:Nat}{ns:List Str}{xs:List PV}{y:PV}(hk:k∈cs) (hf:f∈ns) (hy:xs[ns.idxOf f]?=some y):yiV cs f (.ins k ns xs) h=some (y,h):=by
 unfold yiV ykj
 simp [hk,hf,hy]
noncomputable def ynC (cs:List Nat) (i:Nat) (f:Str) (ρ:PSt) (x:PV) (h:AH):Option (Out×AH):=match ρ[i]? with
 | some (.own (.ins k ns xs))=>if k∈cs/\ns.length<1000 then some (.nx (ρ.set i (.own (.ins k (putN f x ns xs).1 (putN f x ns xs).2))),h) else none
 | _=>none
theorem ymA {cs:List Nat}{f:Str}:ygG cs i f a ρ h=ob (a ρ h) (ynC cs i f ρ):=id rfl
theorem yeu {cs:List Nat}{f:Str}{k:Nat}{ns:List Str}{xs:List PV}(hk:k∈cs) (hl:ns.length<1000) (hf:f∉ns):ynC cs 0 f (.own (.ins k ns xs)::ρ) x h=some (.nx (.own (.ins k (ns++[f]) (xs++[x]))::ρ),h):=by
 unfold ynC putN
 simp [hk,hl,hf]
theorem x_i {g:Int->Int->PV}{i j:Int}:oI g (.int i) (.int j) h=some (g i j,h):=id rfl
theorem yCw {C:Int->Int->Prop} [∀ i j,Decidable (C i j)] {g:Int->Int->PV}{i j:Int}:oIc C g (.int i) (.int j) h=if C i j then some (g i j,h) else none:=id rfl
theorem ymB {i j:Int}(h1:-18446744073709551616<j) (h2:j<18446744073709551616):MulOk i j=True:=eq_true (.inr ⟨h1,h2⟩)
theorem ysE {i j:Int}(h1:0<=i) (h2:i<18446744073709551616) (h3:0<=j) (h4:j<=1000000):yyd i j=True:=eq_true ⟨⟨h1,h2⟩,h3,h4⟩
theorem ysF {i j:Int}:oEq (.int i) (.int j) h=some (.bl (decide (i=j)),h):=by simp [oEq,sv,yDi]
theorem ysG {i j:Str}:oEq (.str i) (.str j) h=some (.bl (decide (i=j)),h):=by simp [oEq,sv,yDi]
theorem ysH {i j:Int}:oNe (.int i) (.int j) h=some (.bl (!decide (i=j)),h):=by simp [oNe,sv,yDi]
theorem ysI:yEf x .non h=some (.bl (isN x),h):=id rfl
theorem ymC:yAM x .non h=some (.bl (!isN x),h):=id rfl
theorem ysJ {xs:List PV}{i:Int}:yiU (.lst xs) (.int i) h=(atI xs i).bind fun v=>some (v,h):=by
 simp only [yiU];cases atI xs i<;>rfl
theorem ysK {xs:List PV}{i:Int}:ygC (.tup xs) (.int i) h=(atI xs i).bind fun v=>some (v,h):=by
 simp only [ygC];cases atI xs i<;>rfl
theorem ysL {s:Str}{i:Int}:yCr (.str s) (.int i) h=(atI s.cps.toList i).bind fun c=>if s.length<=100000 then some (sgn c,h) else none:=by
 simp only [yCr];cases atI s.cps.toList i<;>rfl
theorem ysM {xs:List PV}{lo hi:Option Int}:yAO (.lst xs) lo hi h=some (.lst (ysm xs lo hi),h):=id rfl
theorem ysN {xs:List Int}{lo hi:Option Int}:yAO (.scr xs) lo hi h=some (.lst (ysm (xs.map .int) lo hi),h):=id rfl
theorem ysO {xs ys:List PV}:yCs (.lst xs) (.lst ys) h=if xs.length+ys.length<=100000 then some (.lst (xs++ys),h) else none:=id rfl
theorem yCx {p} {lo hi}:xSl p a lo hi ρ h=ob (a ρ h) fun x h1=>ob (lo ρ h1) fun l h2=>ob (hi ρ h2) fun u h3=>p x l u h3:=id rfl
theorem ysP {p} {lo hi}:yCl p a lo hi ρ h=ob (a ρ h) fun x h1=>ob (lo ρ h1) fun l h2=>ob (hi ρ h2) fun u h3=>p x l u h3:=id rfl
theorem ymD:ylN a ρ h=ob (a ρ h) fun x h1=>match x with|.int i=>some (some i,h1)|_=>none:=id rfl
theorem yht:ynT ρ h=some (none,h):=id rfl
theorem ykK {xs:List PV}:yiW [.lst xs] h=some (.int xs.length,h):=id rfl
theorem ymE {xs:List PV}:yiW [.tup xs] h=some (.int xs.length,h):=id rfl
theorem ymF {xs:List Int}:yiW [.scr xs] h=some (.int xs.length,h):=id rfl
theorem ymG {z:Str}:yAP [.str z] h=if z.length<=100000 then some (.int z.length,h) else none:=id rfl
theorem yjf {k:Bool}:ywH [.bl k] h=some (.int (if k then 1 else 0),h):=id rfl
theorem yhR {xs:List PV}:ybU [.lst xs] h=some (.lst xs,h):=id rfl
theorem ykL {it:XA}{ix:List Nat}:ywC it ix a ρ h=ob (it ρ h) fun xs h1=>if xs.length<=100000 then ob (yAz a (yAy ix ρ) xs h1) fun ys h2=>some (.lst ys,h2) else none:=id rfl
end
end PX
namespace L2
open PySem PySem.Spec PyProof.Rows
end L2
namespace L2
open PySem PySem.Spec PyProof.Rows
section
variable (P:Program) (w:World)
end
section
variable {P:Program}{w:World}{H H':Hp}{h h':Heap}{a:Addr}{o:HO}
end
section
variable {P:Program}{w:World}{H:Hp}{h h':Heap}{x e:Addr}{o':HO}
end
section
variable {fs fs' ex ex':List Addr}{H H1 H2:Hp}{h h1 h2 h':Heap}{a x e:Addr}{o:HO}
end
end L2
namespace L2
open PySem PySem.Spec PyProof.Rows
section
variable {X:Cx}{pins:List (Addr×Obj)}{σ:List (Option V)}{H H':Hp}{s:Shared}{h':Heap}
end
end L2
namespace L2
open PySem PySem.Spec PyProof.Rows
section
variable {X:Cx}
variable {a b:Expr}{ta tb:TE}{pos:Pos}
variable {tA tB':TT}{rest:List Expr}
end
end L2
namespace L2
open PySem PySem.Spec PyProof.Rows
section
variable {X:Cx}{pins:List (Addr×Obj)}{σ:St}{H:Hp}{s:Shared}{a:Addr}{xs ys:List V}
end
section
variable {X:Cx}{pins:List (Addr×Obj)}{σ:St}{H:Hp}{s:Shared}{E:Value->Shared->Prop}
end
section
variable {X:Cx}{st:Stmt}{rest:List Stmt}{t u:TS}{e:Expr}{te:TE}{pos:Pos}
end
section
variable {X:Cx}{pos:Pos}
end
section
variable {X:Cx}{pos:Pos}
end
end L2
namespace L2
open PySem PySem.Spec PyProof.Rows
section
variable {X:Cx}{tg:Expr}
end
end L2
namespace L2
open PySem PySem.Spec PyProof.Rows
section
variable {X:Cx}{a b c:Expr}{ta tb tc:TE}{pos:Pos}
end
section
variable {X:Cx}{a b c:Expr}{ta tb tc:TE}{pos:Pos}
end
end L2
namespace L2
open PySem PySem.Spec PyProof.Rows
section
variable {prog:Program}{w:World}{A:Around}{E:Value->Shared->Prop}{s:Shared}{K:PySem.W.Frag}{x dx C f:Addr}{mA:Str->Option Value}{name:Str}{v:Value}
end
section
variable {P:Program}{w:World}{H H':Hp}{h h':Heap}{a C dx:Addr}{fs fs':List (Str×V)}
end
section
variable {X:Cx}{pins:List (Addr×Obj)}{σ:St}{H:Hp}{s:Shared}{a C dx:Addr}{fs:List (Str×V)}{f:Str}{v:V}{A:Around}{E:Value->Shared->Prop}
end
section
variable {X:Cx}{o e value:Expr}{f:Str}{pos pos' tpos:Pos}{ta tv:TE}
end
section
variable {X:Cx}{pins:List (Addr×Obj)}{σ:St}{H:Hp}{s:Shared}{A:Around}{E:Value->Shared->Prop}{Q:Value->Shared->Prop}{c:Value}{b:Bool}
end
end L2
namespace L2
open PySem PySem.Spec PyProof.Rows
section
variable {X:Cx}{e:Expr}{es:List Expr}{te:TE}{t:TA}{pos:Pos}
end
section
variable {X:Cx}{pins:List (Addr×Obj)}{σ:St}{H:Hp}{s s':Shared}
end
section
variable {X:Cx}{CX:CXT}{k:Nat}{f C:Addr}{fd:FuncData}{ps:List Str}{sp:Sp}{dvs:List V}{ds:List Value}{E:XK}{x m:Str}{p pos apos:Pos}{e o:Expr}{es:List Expr}{ta:TE}{t:TA}
end
section
variable {X:Cx}{CX:CXT}{k:Nat}{f C:Addr}{fd:FuncData}{ps ks:List Str}{sp:Sp}{E:XK}{x m:Str}{p pos apos kpos:Pos}{e o:Expr}{es:List Expr}{kws:List Keyword}{te ta:TE}{t tk:TA}{nm:Option Str}
variable {g:List Value->List Value->List Value}{gV:List V->List V->List V}
end
end L2
namespace L2
open PySem PySem.Spec PyProof.Rows
section
variable {X:Cx}{x:Str}{p pos:Pos}{e:Expr}{es:List Expr}{t:TA}{id T:String}{r:List V->Hp->VK->Prop}
end
end L2
namespace L2
open PySem PySem.Spec PyProof.Rows
section
variable {κ:Type} [DecidableEq κ]
noncomputable def ysQ (kvs:List (κ×V)) (k:κ):Option V:=(kvs.find? fun kv=>decide (kv.1=k)).map (·.2)
noncomputable def putK (kvs:List (κ×V)) (k:κ) (v:V):List (κ×V) :=
 if (kvs.any fun kv=>decide (kv.1=k))=true then kvs.map (fun kv=>if kv.1=k then (kv.1,v) else kv) else kvs++[(k,v)]
theorem yqB {p:κ×V}{r:List (κ×V)}{k:κ}(e:p.1=k):ysQ (p::r) k=some p.2:=by simp [ysQ,List.find?_cons,e]
theorem yqC {p:κ×V}{r:List (κ×V)}{k:κ}(e:¬ p.1=k):ysQ (p::r) k=ysQ r k:=by simp [ysQ,List.find?_cons,e]
theorem yvJ (k:κ):∀ kvs:List (κ×V),(kvs.any fun kv=>decide (kv.1=k))=(ysQ kvs k).isSome
 | []=>rfl
 | p::r=>by
  rw [List.any_cons]
  by_cases e:p.1=k
  .simp only [yqB e,decide_eq_true e,Bool.true_or,Option.isSome_some]
  .rw [yqC e,decide_eq_false e,Bool.false_or];exact yvJ k r
theorem ykk (kvs:List (κ×V)) (k:κ) (v:V):(putK kvs k v).length<=kvs.length+1:=by
 unfold putK
 split
 .rw [List.length_map];omega
 .rw [List.length_append,List.length_cons,List.length_nil];omega
theorem RelO.isSome_eq {o:Option V}{u:Option Value}(r:RelO o u):o.isSome=u.isSome:=by
 cases o with
 | none=>cases u with
  | none=>rfl
  | some _=>exact (show False from r).elim
 | some _=>cases u with
  | none=>exact (show False from r).elim
  | some _=>rfl
theorem RelO.getD {o:Option V}{u:Option Value}{d:V}{d':Value}(r:RelO o u) (rd:RelV d d'):RelV (o.getD d) (u.getD d'):=by
 cases o with
 | none=>cases u with
  | none=>exact rd
  | some _=>exact (show False from r).elim
 | some _=>cases u with
  | none=>exact (show False from r).elim
  | some _=>exact r
theorem KV.val {kvs:List (κ×V)}{vs:List (κ×Value)}(r:KV kvs vs) (k:κ):RelO (ysQ kvs k) (valueAt vs k):=by
 unfold KV at r
 induction r with
 | nil=>exact True.intro
 | @cons p q ps qs h t ih =>
  obtain ⟨h1,h2⟩:=h
  by_cases e:p.1=k
  .have e':q.1=k:=h1.symm.trans e
   have b:valueAt (q::qs) k=some q.2:=by simp [valueAt,List.find?_cons,e']
   rw [yqB e,b];exact h2
  .have e':¬ q.1=k:=fun z=>e (h1.trans z)
   have b:valueAt (q::qs) k=valueAt qs k:=by simp [valueAt,List.find?_cons,e']
   rw [yqC e,b];exact ih
theorem KV.any {kvs:List (κ×V)}{vs:List (κ×Value)}(r:KV kvs vs) (k:κ):(kvs.any fun kv=>decide (kv.1=k))=vs.any fun kv=>decide (kv.1=k):=by
 unfold KV at r
 induction r with
 | nil=>rfl
 | cons h t ih=>rw [List.any_cons,List.any_cons,ih,h.1]
theorem KV.repl {kvs:List (κ×V)}{vs:List (κ×Value)}(r:KV kvs vs) (k:κ) {y:V}{u:Value}(ry:RelV y u) :
  KV (kvs.map fun kv=>if kv.1=k then (kv.1,y) else kv) (vs.map fun kv=>if kv.1=k then (kv.1,u) else kv):=by
 unfold KV at r ⊢
 induction r with
 | nil=>exact .nil
 | @cons p q ps qs h t ih =>
  rw [List.map_cons,List.map_cons]
  refine .cons ?_ ih
  obtain ⟨h1,h2⟩:=h
  by_cases e:p.1=k
  .rw [if_pos e,if_pos (h1.symm.trans e)];exact ⟨h1,ry⟩
  .rw [if_neg e,if_neg (fun z=>e (h1.trans z))];exact ⟨h1,h2⟩
theorem KV.put {kvs:List (κ×V)}{vs:List (κ×Value)}(r:KV kvs vs) (k:κ) {y:V}{u:Value}(ry:RelV y u):KV (putK kvs k y) (stored vs k u):=by
 unfold putK stored
 rw [r.any k]
 by_cases e:(vs.any fun kv=>decide (kv.1=k))=true
 .rw [if_pos e,if_pos e];exact r.repl k ry
 .rw [if_neg e,if_neg e];exact Paired.snoc r ⟨rfl,ry⟩
theorem KV.length {kvs:List (κ×V)}{vs:List (κ×Value)}(r:KV kvs vs):kvs.length=vs.length:=Paired.length r
end
theorem ywJ {P:Program}{w:World}{k:Key}{u:Value}(r:RelV (kV k) u):(ydz P w).is k u=true:=by
 cases k with
 | inl i=>obtain ⟨t,e⟩:=(show ∃ t,u=Value.int i t from r);subst e;exact yua P w i t
 | inr x=>obtain ⟨t,e⟩:=(show ∃ t,u=Value.str x t from r);subst e;exact yub P w x t
theorem ysR {P:Program}{w:World}:∀ {ks:List Key}{us:List Value},Vals (ks.map kV) us->ItemsAre (ydz P w) ks us
 | [],_,r=>by rw [List.map_nil] at r;cases r;exact .nil
 | k::ks,_,r=>by
  rw [List.map_cons] at r
  cases r with
  | cons h t=>exact .cons (ywJ h) (ysR t)
noncomputable abbrev KT (H:Hp):List (List Key×V)->List (List Key×Addr×Value)->Prop:=Paired fun p q=>p.1=q.1/\H q.2.1=some (.tup (p.1.map kV))/\RelV p.2 q.2.2
theorem KT.val {H:Hp}{kvs:List (List Key×V)}{xs:List (List Key×Addr×Value)}(r:KT H kvs xs) (k:List Key):RelO (ysQ kvs k) ((atKey xs k).map (·.2)):=by
 induction r with
 | nil=>exact True.intro
 | @cons p q ps qs h t ih =>
  obtain ⟨h1,_,h2⟩:=h
  by_cases e:p.1=k
  .have e':q.1=k:=h1.symm.trans e
   have b:atKey (q::qs) k=some q.2:=by simp [atKey,List.find?_cons,e']
   rw [yqB e,b];exact h2
  .have e':¬ q.1=k:=fun z=>e (h1.trans z)
   have b:atKey (q::qs) k=atKey qs k:=by simp [atKey,List.find?_cons,e']
   rw [yqC e,b];exact ih
theorem KT.repl {H:Hp}{kvs:List (List Key×V)}{xs:List (List Key×Addr×Value)}(r:KT H kvs xs) (k:List Key) {y:V}{u:Value}(ry:RelV y u) :
  KT H (kvs.map fun kv=>if kv.1=k then (kv.1,y) else kv) (xs.map (putAt k u)):=by
 induction r with
 | nil=>exact .nil
 | @cons p q ps qs h t ih =>
  rw [List.map_cons,List.map_cons]
  refine .cons ?_ ih
  obtain ⟨h1,h2,h3⟩:=h
  unfold putAt
  by_cases e:p.1=k
  .rw [if_pos e,if_pos (h1.symm.trans e)];exact ⟨h1,h2,ry⟩
  .rw [if_neg e,if_neg (fun z=>e (h1.trans z))];exact ⟨h1,h2,h3⟩
theorem KT.put {H:Hp}{kvs:List (List Key×V)}{xs:List (List Key×Addr×Value)}(r:KT H kvs xs) (k:List Key) {b:Addr}{y:V}{u:Value}(hb:H b=some (.tup (k.map kV))) (ry:RelV y u) :
  KT H (putK kvs k y) (storedH xs k b u):=by
 have e:(kvs.any fun kv=>decide (kv.1=k))=(atKey xs k).isSome:=by
  rw [yvJ,(r.val k).isSome_eq,Option.isSome_map]
 unfold putK storedH
 rw [e]
 by_cases q:(atKey xs k).isSome=true
 .rw [if_pos q,if_pos q];exact r.repl k ry
 .rw [if_neg q,if_neg q];exact Paired.snoc r ⟨rfl,hb,ry⟩
theorem KT.keeps {H H':Hp}{kvs:List (List Key×V)}{xs:List (List Key×Addr×Value)}(r:KT H kvs xs) (ht:∀ b ys,H b=some (.tup ys)->H' b=some (.tup ys)):KT H' kvs xs :=
 Paired.mapP r fun _ _ z=>⟨z.1,ht _ _ z.2.1,z.2.2⟩
section
variable {P:Program}{w:World}{H:Hp}{h:Heap}{a:Addr}
theorem yGA {u:HO}(ok:HOk P w H h) (e:Rd H a u):ObjOk P w H h a u:=e.ok ok
theorem yuD {kvs:List (Key×V)}(ok:HOk P w H h) (e:Rd H a (.dK kvs)):kvs.length<=sizeLine/\(a == sysModules)=false/\∃ vs,KV kvs vs/\h.DictOf (ydz P w) a vs :=
 show ObjOk P w H h a (.dK kvs) from yGA ok e
theorem yEj {kvs:List (Key×V)}(ok:HOk P w H h) (e:H a=some (.dK kvs)):kvs.length<=sizeLine/\(a == sysModules)=false/\∃ vs,KV kvs vs/\h.DictOf (ydz P w) a vs:=yuD ok (.inl e)
theorem ypQ {ks:List Key}(ok:HOk P w H h) (e:H a=some (.tup (ks.map kV))):(tupleKind (ydz P w)).is h ks a:=by
 obtain ⟨_,its,r,o,h1,h2,n,h3⟩:=(show ObjOk P w H h a (.tup (ks.map kV)) from ok a _ e)
 exact ⟨o,its.toArray,n,h1,h2,h3,by simpa using ysR r⟩
theorem yuE {kvs:List (List Key×V)}(ok:HOk P w H h) (e:Rd H a (.dT kvs)):kvs.length<=sizeLine/\(a == sysModules)=false /\
  ∃ xs,KT H kvs xs/\h.DictOfH (tupleKind (ydz P w)) a xs:=by
 obtain ⟨z,y,xs,r,o,es,ep,h1,h2,h3,h4,h5⟩:=(show ObjOk P w H h a (.dT kvs) from yGA ok e)
 refine ⟨z,y,xs,r,o,es,ep,h1,h2,h3,h4,fun x hx=>?_,h5⟩
 have all:∀ {l:List (List Key×V)}{m:List (List Key×Addr×Value)},KT H l m->∀ x∈m,(tupleKind (ydz P w)).is h x.1 x.2.1:=by
  intro l m q
  induction q with
  | nil=>intro x hx;exact nomatch hx
  | @cons p q ps qs hq t ih =>
   intro x hx
   rcases List.mem_cons.mp hx with e|hx
   .subst e
    exact ypQ ok (by rw [<- hq.1];exact hq.2.1)
   .exact ih x hx
 exact all r x hx
theorem yIV {kvs:List (List Key×V)}(ok:HOk P w H h) (e:H a=some (.dT kvs)):kvs.length<=sizeLine/\(a == sysModules)=false /\
  ∃ xs,KT H kvs xs/\h.DictOfH (tupleKind (ydz P w)) a xs:=yuE ok (.inl e)
end
noncomputable def DGet (H:Hp) (a:Addr) (y:V) (r:Option V):Prop :=
 (∃ kvs k,Rd H a (.dK kvs)/\y=kV k/\r=ysQ kvs k)\/∃ kvs k b,Rd H a (.dT kvs)/\y=.ref b/\H b=some (.tup (k.map kV))/\r=ysQ kvs k
noncomputable def DPut (H:Hp) (a:Addr) (y v:V) (H':Hp):Prop :=
 (∃ kvs k,H a=some (.dK kvs)/\y=kV k/\kvs.length<sizeLine/\H'=upd H a (.dK (putK kvs k v))) \/
 ∃ kvs k b,H a=some (.dT kvs)/\y=.ref b/\H b=some (.tup (k.map kV))/\kvs.length<sizeLine/\H'=upd H a (.dT (putK kvs k v))
theorem DPut.k {H:Hp}{a:Addr}{kvs:List (Key×V)}{k:Key}{v:V}(e:H a=some (.dK kvs)) (hl:kvs.length<sizeLine):DPut H a (kV k) v (upd H a (.dK (putK kvs k v))):=.inl ⟨kvs,k,e,rfl,hl,rfl⟩
section
variable {X:Cx}{pins:List (Addr×Obj)}{σ:St}{H:Hp}{s:Shared}{a:Addr}{y v:V}{u r:Value}{o:Option V}{A:Around}{E:Value->Shared->Prop}
theorem Inv.big (I:Inv X pins σ H s):sysModules<s.heap.objs.size:=by
 have h:mainGlobals<s.heap.objs.size:=(I.mod.glob.keeps I.bk).lt
 exact Nat.lt_trans (by decide) h
theorem yym {Q:Value->Shared->Prop}(hu:A.units+1<cLine) (I:Inv X pins σ H s) (g:DGet H a y (some v)) (ry:RelV y u) (h:∀ w' s',Inv X pins σ H s'->RelV v w'->Q w' s') :
  wpAny (model X.prog X.w) A (getItem (.ref a) u) Q E s:=by
 rcases g with ⟨kvs,k,e,ey,l⟩|⟨kvs,k,b,e,ey,eb,l⟩
 .subst ey
  obtain ⟨z,hd,vs,rel,dd⟩:=yuD I.hok e
  obtain ⟨w',hw,rw'⟩:=RelO.some_of (v:=v) (o:=valueAt vs k) (by rw [l];exact rel.val k)
  exact wpAny_getItem_of (ywJ ry) dd.mapOf hw (h w' _ (I.tok _) rw')
 .subst ey
  cases (show u=Value.ref b from ry)
  obtain ⟨z,hd,xs,rel,dd⟩:=yuE I.hok e
  obtain ⟨w',hw,rw'⟩:=RelO.some_of (v:=v) (o:=(atKey xs k).map (·.2)) (by rw [l];exact rel.val k)
  obtain ⟨p,hp,hp2⟩:=Option.map_eq_some_iff.mp hw
  refine wpAny_getItem_heap (tupleKind_room_in1 hu) (ypQ I.hok eb) dd hp ?_
  rw [hp2]
  exact h w' _ (I.tok _) rw'
theorem yKh {Q:Value->Shared->Prop}(hu:A.units+1<cLine) (I:Inv X pins σ H s) (g:DGet H a y o) (ry:RelV y u) (h:∀ s',Inv X pins σ H s'->Q (.bool o.isSome) s') :
  wpAny (model X.prog X.w) A (compareOp .In u (.ref a)) Q E s:=by
 rcases g with ⟨kvs,k,e,ey,l⟩|⟨kvs,k,b,e,ey,eb,l⟩
 .subst ey
  obtain ⟨z,hd,vs,rel,dd⟩:=yuD I.hok e
  refine wpAny_in_of (ywJ ry) hd dd.mapOf ?_
  rw [<- (rel.val k).isSome_eq,<- l]
  exact h _ (I.tok _)
 .subst ey
  cases (show u=Value.ref b from ry)
  obtain ⟨z,hd,xs,rel,dd⟩:=yuE I.hok e
  refine wpAny_in_heap (tupleKind_room_in1 hu) (ypQ I.hok eb) hd dd ?_
  have q:=(rel.val k).isSome_eq
  rw [Option.isSome_map] at q
  rw [<- q,<- l]
  exact h _ (I.tok _)
theorem yEk {Q:Value->Shared->Prop}(hu:A.units+1<cLine) (I:Inv X pins σ H s) (g:DGet H a y o) (ry:RelV y u) (h:∀ s',Inv X pins σ H s'->Q (.bool (!o.isSome)) s') :
  wpAny (model X.prog X.w) A (compareOp .NotIn u (.ref a)) Q E s:=by
 rcases g with ⟨kvs,k,e,ey,l⟩|⟨kvs,k,b,e,ey,eb,l⟩
 .subst ey
  obtain ⟨z,hd,vs,rel,dd⟩:=yuD I.hok e
  refine wpAny_notIn_of (ywJ ry) hd dd.mapOf ?_
  rw [<- (rel.val k).isSome_eq,<- l]
  exact h _ (I.tok _)
 .subst ey
  cases (show u=Value.ref b from ry)
  obtain ⟨z,hd,xs,rel,dd⟩:=yuE I.hok e
  refine wpAny_notIn_heap (tupleKind_room_in1 hu) (ypQ I.hok eb) hd dd ?_
  have q:=(rel.val k).isSome_eq
  rw [Option.isSome_map] at q
  rw [<- q,<- l]
  exact h _ (I.tok _)
theorem yuF {h':Heap}{t':Nat}{ob:HO}(I:Inv X pins σ H s) (mu:Mut (H a)) (hs:Heap.SameBut a s.heap h') (he:∃ q,h'.get? a=some q) (new:ObjOk X.prog X.w (upd H a ob) h' a ob) :
  Inv X pins σ (upd H a ob) { s with heap:=h',toks:=t' } :=
 I.write (x:=a) (e:=a) mu (.inl rfl) (fun b q hb z=>(hs.2 b hb).trans z) he new
theorem yCy {P:Program}{w:World}{H':Hp}{h':Heap}{kvs:List (Key×V)}{vs:List (Key×Value)}(z:kvs.length<=sizeLine) (hd:(a == sysModules)=false) (rel:KV kvs vs) (dd:h'.DictOf (ydz P w) a vs) :
  ObjOk P w H' h' a (.dK kvs):=⟨z,hd,vs,rel,dd⟩
theorem yyn {H':Hp}{Q:Unit->Shared->Prop}(hu:A.units+1<cLine) (I:Inv X pins σ H s) (g:DPut H a y v H') (ry:RelV y u) (rv:RelV v r) (h:∀ s',Inv X pins σ H' s'->Q () s') :
  wpAny (model X.prog X.w) A (setItem (.ref a) u r) Q E s:=by
 rcases g with ⟨kvs,k,e,ey,l,eH⟩|⟨kvs,k,b,e,ey,eb,l,eH⟩
 .subst ey eH
  obtain ⟨z,hd,vs,rel,dd⟩:=yEj I.hok e
  have hz:vs.length<=sizeLine:=by rw [<- rel.length];exact z
  have hl:(putK kvs k v).length<=sizeLine:=by have:=ykk kvs k v;omega
  refine wpAny_setItem_pairs (hsz:=hz) (ywJ ry) dd fun h' dd' hs=>h _ ?_
  have he:∃ q,h'.get? a=some q:=let ⟨q,_,_,hq,_⟩:=dd';⟨q,hq⟩
  exact yuF I (by rw [e];exact True.intro) hs he (yCy hl hd (rel.put k rv) dd')
 .subst ey eH
  cases (show u=Value.ref b from ry)
  obtain ⟨z,hd,xs,rel,dd⟩:=yIV I.hok e
  have hz:xs.length<=sizeLine:=by rw [<- Paired.length rel];exact z
  have hl:(putK kvs k v).length<=sizeLine:=by have:=ykk kvs k v;omega
  refine wpAny_setItem_heap (hsz:=hz) (tupleKind_room_in1 hu) (ypQ I.hok eb) dd fun h' dd' hs=>h _ ?_
  obtain ⟨q,es,ep,hq,h2,h3,h4,_,h5⟩:=dd'
  refine yuF I (by rw [e];exact True.intro) hs ⟨q,hq⟩ ⟨hl,hd,_,(rel.put k eb rv).keeps fun c ys ec=>?_,q,es,ep,hq,h2,h3,h4,h5⟩
  rw [ybb (yIk ec e (fun z=>nomatch z))]
  exact ec
end
section
variable {X:Cx}{pins:List (Addr×Obj)}{σ:St}{H:Hp}{s:Shared}{a:Addr}{kvs:List (Key×V)}{k:Key}{u:Value}{A:Around}{E:Value->Shared->Prop}
end
noncomputable def yIW (i:Expr):Prop:=∀ ov iv,subscripted i false ov iv=operate [ov,iv] (getItem ov iv)
theorem yEl {prog:Program}{w:World}{A:Around}{E:Value->Shared->Prop}{s:Shared}{env:Env}{value slice:Expr}{pos:Pos}{T id:String}{Q:Value->Shared->Prop}
  (hl:typeLookup (.type T) "__getitem__" = pure (some (.builtin id))) (hs:yIW slice)
  (h:wpAny (model prog w) A (eval value env) (fun o s₁=>wpAny (model prog w) A (eval slice env) (fun i s₂=>s₂.TypeIs o T/\wpAny (model prog w) A (getItem o i) Q E s₂) E s₁) E s) :
  wpAny (model prog w) A (eval (.Subscript value slice pos) env) Q E s:=by
 refine Subscript_ (wpAny_mono h (fun o s₁ h₁=>wpAny_mono h₁ (fun i s₂ h₂=>?_) fun _ _ x=>x) fun _ _ x=>x)
 obtain ⟨hT,h₂⟩:=h₂
 unfold subscriptTail
 refine wpAny_bind ?_
 rw [getitemInPython_of_ne hT.not_modules]
 refine wpAny_bind (wpAny_specialOf hT hl ?_)
 have fin:wpAny (model prog w) A (subscripted slice false o i) (fun r s₃=>wpAny (model prog w) A (letTemporaryGo value o r >>= fun _=>pure r) Q E s₃) E s₂:=by
  rw [hs o i]
  exact wpAny_operating (wpAny_mono h₂ (fun r s₃ h₃=>wpAny_bind (wpAny_letTemporaryGo (wpAny_pure h₃))) fun _ _ x=>x)
 first
  | exact wpAny_pure (wpAny_bind fin)
  | exact wpAny_bind (wpAny_pure (wpAny_bind fin))
  | exact wpAny_bind fin
theorem yuG {X:Cx}{pins:List (Addr×Obj)}{σ:St}{H:Hp}{s:Shared}{a:Addr}{y:V}{o:Option V}(I:Inv X pins σ H s) (g:DGet H a y o):s.TypeIs (.ref a) "dict":=by
 rcases g with ⟨kvs,k,e,_,_⟩|⟨kvs,k,b,e,_,_,_⟩
 .obtain ⟨_,_,vs,_,dd⟩:=yuD I.hok e
  exact dd.typeIs
 .obtain ⟨_,_,xs,_,dd⟩:=yuE I.hok e
  exact dd.typeIs
noncomputable def yGB (td ty:TE):TE:=fun σ H Q=>td σ H fun x H1=>ty σ H1 fun y H2=>∃ a v,x=.ref a/\DGet H2 a y (some v)/\Q v H2
noncomputable def yJJ (ty td:TE):TE:=fun σ H Q=>ty σ H fun y H1=>td σ H1 fun x H2=>∃ a o,x=.ref a/\DGet H2 a y o/\Q (.bl o.isSome) H2
noncomputable def yyo (ty td:TE):TE:=fun σ H Q=>ty σ H fun y H1=>td σ H1 fun x H2=>∃ a o,x=.ref a/\DGet H2 a y o/\Q (.bl (!o.isSome)) H2
noncomputable def yGC (td ty tv:TE):TS:=fun D σ H=>tv σ H fun v H1=>td σ H1 fun x H2=>ty σ H2 fun y H3=>∃ a H4,x=.ref a/\DPut H3 a y v H4/\D.nx σ H4
section
variable {X:Cx}{o i e value:Expr}{pos pos' tpos:Pos}{td ty tv:TE}
theorem yEm (hu:X.A.units+1<cLine) (ho:PE X o td) (hi:PE X i ty) (hs:yIW i):PE X (.Subscript o i pos) (yGB td ty):=by
 intro pins s σ H Q I h
 refine yEl PySem.F.slot_dict_getitem.lookup hs (thn (ho pins s σ H _ I h) fun u s1 ⟨x,H1,I1,rx,q1⟩=>thn (hi pins s1 σ H1 _ I1 q1) fun iv s2 ⟨y,H2,I2,ry,a,v,ex,g,q2⟩=>?_)
 subst ex
 obtain rfl:u=Value.ref a:=rx
 exact ⟨yuG I2 g,yym hu I2 g ry fun w' s3 I3 rw'=>⟨v,H2,I3,rw',q2⟩⟩
theorem yGD (hu:X.A.units+1<cLine) (hi:PE X i ty) (ho:PE X o td):PC X .In i o (yJJ ty td):=by
 intro pins s σ H Q I h
 refine thn (hi pins s σ H _ I h) fun iv s1 ⟨y,H1,I1,ry,q1⟩=>thn (ho pins s1 σ H1 _ I1 q1) fun u s2 ⟨x,H2,I2,rx,a,ov,ex,g,q2⟩=>?_
 subst ex
 obtain rfl:u=Value.ref a:=rx
 exact yKh hu I2 g ry fun s3 I3=>⟨.bl ov.isSome,H2,I3,rfl,q2⟩
theorem yyp (hu:X.A.units+1<cLine) (hi:PE X i ty) (ho:PE X o td):PC X .NotIn i o (yyo ty td):=by
 intro pins s σ H Q I h
 refine thn (hi pins s σ H _ I h) fun iv s1 ⟨y,H1,I1,ry,q1⟩=>thn (ho pins s1 σ H1 _ I1 q1) fun u s2 ⟨x,H2,I2,rx,a,ov,ex,g,q2⟩=>?_
 subst ex
 obtain rfl:u=Value.ref a:=rx
 exact yEk hu I2 g ry fun s3 I3=>⟨.bl (!ov.isSome),H2,I3,rfl,q2⟩
theorem yEn (hu:X.A.units+1<cLine) (ho:PE X o td) (hi:PE X i ty) (hv:PE X value tv) (hs:swapsWith value (some (.Subscript o i pos')) pos.line X.env=pure false) :
  PS X (.Assign [.Subscript o i pos'] value pos) (yGC td ty tv):=by
 intro pins s σ H D I h
 refine wpAny_Assign_Subscript (thn (hv pins s σ H _ I h) fun r s1 ⟨v,H1,I1,rv,q1⟩=>thn (ho pins s1 σ H1 _ I1 q1) fun u s2 ⟨x,H2,I2,rx,q2⟩=>thn (hi pins s2 σ H2 _ I2 q2) fun iv s3 ⟨y,H3,I3,ry,a,H4,ex,g,q3⟩=>?_) hs
 subst ex
 obtain rfl:u=Value.ref a:=rx
 exact yyn hu I3 g ry rv fun s4 I4=>⟨σ,H4,I4,q3⟩
end
theorem yAU {P:Program}{w:World}{H:Hp}(h:Heap) (hb:sysModules<h.objs.size):ObjOk P w H (h.push { cls:=.type "dict",data:=.dict #[] }) h.objs.size (.dK []) :=
 ⟨Nat.zero_le _,beq_eq_false_iff_ne.mpr (Ne.symm (Nat.ne_of_lt hb)),[],.nil,Heap.DictOf.new h⟩
noncomputable def yCz:TE:=fun _ H Q=>∀ p,H p=none->Q (.ref p) (upd H p (.dK []))
section
variable {X:Cx}{pos:Pos}
theorem yAV:PE X (.Dict [] [] pos) yCz:=fun pins s σ H Q I h =>
 wpAny_Dict_empty ⟨.ref s.heap.objs.size,_,I.laid (a:=s.heap.objs.size) (o:=.dK []) (t':=s.toks) (fun _ _ q=>Heap.get?_push_of_some _ q) (Nat.le_refl _) (yAU s.heap I.big),rfl,h _ (I.hok.fresh (Nat.le_refl _))⟩
end
noncomputable def yyq (kvs more:List (Key×V)):List (Key×V):=more.foldl (fun acc kv=>putK acc kv.1 kv.2) kvs
theorem KV.merge:∀ {more:List (Key×V)}{rs:List (Key×Value)}{kvs:List (Key×V)}{vs:List (Key×Value)},KV more rs->KV kvs vs->KV (yyq kvs more) (merged vs rs):=by
 intro more rs kvs vs r
 unfold KV at r
 induction r generalizing kvs vs with
 | nil=>intro q;exact q
 | @cons p q ps qs h t ih =>
  intro r0
  have e:KV (putK kvs p.1 p.2) (stored vs q.1 q.2):=by
   have:=r0.put p.1 h.2
   rw [<- h.1];exact this
  exact ih e
theorem ykM:∀ (more kvs:List (Key×V)),(yyq kvs more).length<=kvs.length+more.length
 | [],kvs=>by show kvs.length<=kvs.length+0;omega
 | p::r,kvs=>by
  have h1:=ykM r (putK kvs p.1 p.2)
  have h2:=ykk kvs p.1 p.2
  show (yyq (putK kvs p.1 p.2) r).length<=_
  rw [List.length_cons];omega
structure M2 (X:Cx) (o:Expr) (m:Str) (apos:Pos) (e f:Expr) (cpos:Pos):Prop where
 base:attributeBase o m X.env (eval o X.env)=eval o X.env
 few:((backTo cpos (starEach [e,f] X.env)).all (fun x=>!x.1) && (backToKw cpos (keywordEach [] X.env)).all (fun x=>x.1.isSome)
  && decide (([e,f]:List Expr).length+([]:List Keyword).length+(if ([]:List Keyword).isEmpty then 0 else 1)<30))=true
 line:(apos.endLine == cpos.line)=true
 trees:backTo cpos (starEach [e,f] X.env)=[(false,eval e X.env),(false,eval f X.env)]
noncomputable def IsD (H:Hp) (a:Addr):Prop:=(∃ kvs,Rd H a (.dK kvs))\/∃ kvs,Rd H a (.dT kvs)
theorem yGE {X:Cx}{pins:List (Addr×Obj)}{σ:St}{H:Hp}{s:Shared}{a:Addr}(I:Inv X pins σ H s) (d:IsD H a) :
  s.TypeIs (.ref a) "dict"/\(∀ b,Value.ref a=.ref b->∃ ob,s.heap.get? b=some ob/\ob.dict=none)/\(a == sysModules)=false:=by
 rcases d with ⟨kvs,e⟩|⟨kvs,e⟩
 .obtain ⟨_,hd,vs,_,dd⟩:=yuD I.hok e
  refine ⟨dd.typeIs,fun b q=>?_,hd⟩
  cases q
  obtain ⟨ob,_,_,h1,h2,_⟩:=dd
  exact ⟨ob,h1,h2.2.1⟩
 .obtain ⟨_,hd,xs,_,dd⟩:=yuE I.hok e
  refine ⟨dd.typeIs,fun b q=>?_,hd⟩
  cases q
  obtain ⟨ob,_,_,h1,h2,_⟩:=dd
  exact ⟨ob,h1,h2.2.1⟩
section
variable {X:Cx}{pins:List (Addr×Obj)}{σ:St}{H:Hp}{s:Shared}{a:Addr}{y d:V}{u r:Value}{o:Option V}{A:Around}{E:Value->Shared->Prop}
theorem yGF {Q:Value->Shared->Prop}(hu:A.units+1<cLine) (I:Inv X pins σ H s) (g:DGet H a y o) (ry:RelV y u) (rd:RelV d r) (h:∀ w' s',Inv X pins σ H s'->RelV (o.getD d) w'->Q w' s') :
  wpAny (model X.prog X.w) A (call (.builtin "dict.get") [.ref a,u,r]) Q E s:=by
 rcases g with ⟨kvs,k,e,ey,l⟩|⟨kvs,k,b,e,ey,eb,l⟩
 .subst ey
  obtain ⟨z,hd,vs,rel,dd⟩:=yuD I.hok e
  refine call_meetsIn PySem.F.slot_dict_get dd.typeIs PySem.F.entry_dict_get (PySem.F.args_dict_get_3 _ _ _) (meets_dict_get_default (ydz X.prog X.w) a (ywJ ry) hd r) ⟨_,dd.mapOf,h _ _ (I.tok _) ?_⟩
  rw [l]
  exact (rel.val k).getD rd
 .subst ey
  cases (show u=Value.ref b from ry)
  obtain ⟨z,hd,xs,rel,dd⟩:=yuE I.hok e
  refine call_meetsIn PySem.F.slot_dict_get dd.typeIs PySem.F.entry_dict_get (PySem.F.args_dict_get_3 _ _ _) (meetsH_dict_get_default (tupleKind (ydz X.prog X.w)) a b hd r) ⟨tupleKind_room_in1 hu,k,xs,ypQ I.hok eb,dd,h _ _ (I.tok _) ?_⟩
  rw [l]
  exact (rel.val k).getD rd
end
noncomputable def yCA (td ty tx:TE):TE:=fun σ H Q=>td σ H fun x H1=>∃ a,x=.ref a/\IsD H1 a/\ty σ H1 fun y H2=>tx σ H2 fun z H3=>∃ o,DGet H3 a y o/\Q (o.getD z) H3
section
variable {X:Cx}{o e f:Expr}{apos cpos:Pos}{td ty tx:TE}
theorem yAW (hu:X.A.units+1<cLine) (ho:PE X o td) (he:PE X e ty) (hf:PE X f tx) (m:M2 X o "get" apos e f cpos):PE X (.Call (.Attribute o "get" apos) [e,f] [] cpos) (yCA td ty tx):=by
 intro pins s σ H Q I h
 refine wpAny_Call_method m.base m.few m.line PySem.F.plainAttrs_dict PySem.F.slot_dict_get PySem.F.type_dict_get (thn (ho pins s σ H _ I h) fun u s1 ⟨x,H1,I1,rx,a,ex,d,q1⟩=>?_)
 subst ex
 obtain rfl:u=Value.ref a:=rx
 obtain ⟨t1,t2,_⟩:=yGE I1 d
 refine ⟨t1,t2,?_⟩
 rw [m.trees]
 refine Calls.callWith_builtin rfl (Calls.evalArgs_plain (Calls.spliced_cons (thn (he pins s1 σ H1 _ I1 q1) fun iv s2 ⟨y,H2,I2,ry,q2⟩ =>
  Calls.spliced_cons (thn (hf pins s2 σ H2 _ I2 q2) fun fv s3 ⟨z,H3,I3,rz,ov,g,q3⟩=>Calls.spliced_nil ?_))))
 exact yGF hu I3 g ry rz fun w' s4 I4 rw'=>⟨_,H3,I4,rw',q3⟩
end
section
variable {X:Cx}{pins:List (Addr×Obj)}{σ:St}{H:Hp}{s:Shared}{a:Addr}{kvs:List (Key×V)}{A:Around}{E:Value->Shared->Prop}
end
section
variable {X:Cx}{pins:List (Addr×Obj)}{σ:St}{H:Hp}{s:Shared}{a:Addr}{y:V}{u:Value}{A:Around}{E:Value->Shared->Prop}
end
end L2
namespace Att
open PySem PySem.W PySem.Calls PyProof.Rows
section
variable {prog:Program}{w:World}{A:Around}{E:Value->Shared->Prop}{s:Shared}{K:Frag}
end
end Att
namespace L2
open PySem PySem.Spec PyProof.Rows
end L2
namespace L2
open PySem PySem.Spec PyProof.Rows
end L2
namespace L2
open PySem PySem.Spec PyProof.Rows
section
variable {P:Program}{w:World}{K:PySem.W.Frag}{mg:Str->Option Value}{base:Heap}
end
section
variable {X:Cx}
end
section
variable {κ:Type} [DecidableEq κ]
end
end L2
namespace PX
open PySem L2
variable {K:Ck}
theorem yvK {α:Type}{l:List α}(h:l.Nodup) {i j:Nat}(hi:i<l.length) (hj:j<l.length) (e:l[i]=l[j]):i=j:=by
 have p:=List.pairwise_iff_getElem.mp h
 rcases Nat.lt_trichotomy i j with z|z|z
 .exact absurd e (p i j hi hj z)
 .exact z
 .exact absurd e.symm (p j i hj hi z)
noncomputable def yEo (W:Wd) (n:Nat) (a:Addr) (o:HO) (d:Nd):Wd:=⟨W.F,upd W.H a o,W.m,W.h.set n d⟩
theorem ylS {W:Wd}(w:WOk K W) {n:Nat}{d d':Nd}{a:Addr}{o:HO}(e:W.h[n]?=some d) (hm:W.m[n]?=some a) (hF:W.F a=none) (at':NdAt K W.F (upd W.H a o) W.m d' a) (nf:∀ ks xs,d≠.fz ks xs:=by intro _ _ z;cases z):Le K W (yEo W n a o d'):=by
 have hn:n<W.h.length:=(List.getElem?_eq_some_iff.mp e).1
 have ham:a∈W.m:=List.mem_of_getElem? hm
 refine ⟨⟨fun b u q=>?_,by show W.m.length=(W.h.set n d').length;rw [List.length_set];exact w.len,w.nd,fun j dj b e1 e2=>?_⟩,Same.refl _,List.prefix_refl _,fun b u q hb=>?_,fun b u _ _ f=>f,fun b z z'=>absurd z z',fun j ks xs e1=>?_⟩
 .have:b≠a:=yco q hF
  exact (ybb this).trans (w.le _ _ q)
 .have e1:(W.h.set n d')[j]?=some dj:=e1
  by_cases hj:n=j
  .subst hj
   rw [List.getElem?_set_self hn] at e1
   cases e1
   have e2:W.m[n]?=some b:=e2
   rw [hm] at e2
   cases e2
   exact at'
  .rw [List.getElem?_set_ne hj] at e1
   have e2:W.m[j]?=some b:=e2
   have hb:b≠a:=fun z=>by
    subst z
    have h1:=(List.getElem?_eq_some_iff.mp hm)
    have h2:=(List.getElem?_eq_some_iff.mp e2)
    obtain ⟨l1,q1⟩:=h1
    obtain ⟨l2,q2⟩:=h2
    exact hj (yvK w.nd l1 l2 (q1.trans q2.symm))
   exact (w.at_ j dj b e1 e2).mono (Same.refl _) (List.prefix_refl _) (fun u q=>(ybb hb).trans q) id
 .have:b≠a:=fun z=>hb (z ▸ ham)
  exact (ybb this).trans q
 .have hj:n≠j:=fun z=>by
   subst z
   rw [e] at e1
   cases e1
   exact nf _ _ rfl
  refine ⟨(List.getElem?_set_ne hj).trans e1,fun b e2=>ybb fun z=>?_⟩
  subst z
  obtain ⟨l1,q1⟩:=List.getElem?_eq_some_iff.mp hm
  obtain ⟨l2,q2⟩:=List.getElem?_eq_some_iff.mp e2
  exact hj (yvK w.nd l1 l2 (q1.trans q2.symm))
noncomputable def yqD:PV->AH->Bool:=fun x h=>match yeL x h with|some _=>true|none=>false
theorem yvL {W:Wd}{x:PV}{v:V}(w:WOk K W) (r:yfa K W x v) (c:yqD x W.h=true):tyV K.K "list" v W.H:=by
 unfold yqD at c
 split at c
 .rename_i xs hx
  obtain ⟨a,vs,rfl,hs,_⟩:=ycj w hx r
  exact .inl ⟨rfl,vs,SqL.of hs⟩
 .cases c
noncomputable def ywK:PM:=fun x ys h=>match x,ys with|.loc n,[y]=>(match h[n]? with|some (.lst xs)=>if xs.length<100000 then some (.non,h.set n (.lst (xs++[y]))) else none|_=>none)|_,_=>none
theorem yGG:ysk K "list" yqD yug ywK:=by
 refine ⟨fun W x v w r c=>yvL w r c,fun W x v xs vs Q z h' w rx r e q=>?_⟩
 unfold ywK at e
 split at e
 .rename_i n y
  split at e
  .rename_i ys hn
   split at e
   .rename_i hl
    cases e
    obtain ⟨u,rfl,ru⟩:=ywG r
    obtain ⟨a,ev,hm,hf,us,hp,rs⟩:=w.loc hn rx
    refine ⟨a,us,u,ev,rfl,hp,by rw [rs.len];exact big hl,?_⟩
    exact q .non (yEo W n a (.lst (us++[u])) (.lst (ys++[y]))) rfl (ylS w hn hm hf ⟨hf,_,yS,rs.snoc ru⟩) rfl
   .cases e
  .cases e
 .cases e
noncomputable def ywL:PM:=fun x ys h=>match x,ys with|.loc n,[]=>(match h[n]? with|some (.lst xs)=>(match xs[xs.length-1]? with|some y=>some (y,h.set n (.lst xs.dropLast))|none=>none)|_=>none)|_,_=>none
theorem RepL.dropLast {F:Hp}{m:List Addr}{xs:List PV}{vs:List V}(r:RepL K F m xs vs):RepL K F m xs.dropLast vs.dropLast:=by
 rw [List.dropLast_eq_take,List.dropLast_eq_take,r.len]
 exact r.take _
theorem yCB:ysk K "list" yqD yJC ywL:=by
 refine ⟨fun W x v w r c=>yvL w r c,fun W x v xs vs Q z h' w rx r e q=>?_⟩
 unfold ywL at e
 split at e
 .rename_i n
  split at e
  .rename_i ys hn
   split at e
   .rename_i y hy
    cases e
    obtain rfl:vs=[]:=r
    obtain ⟨a,ev,hm,hf,us,hp,rs⟩:=w.loc hn rx
    obtain ⟨u,hu,ru⟩:=rs.get hy
    refine ⟨a,us,u,ev,rfl,hp,by rw [rs.len];exact hu,?_⟩
    exact q u (yEo W n a (.lst us.dropLast) (.lst ys.dropLast)) rfl (ylS w hn hm hf ⟨hf,_,yS,rs.dropLast⟩) ru
   .cases e
  .cases e
 .cases e
noncomputable def ynY (eo ei ev:XE):XS:=fun ρ h=>ob (ev ρ h) fun v h1=>ob (eo ρ h1) fun o h2=>ob (ei ρ h2) fun i h3=>match o,i with
 | .loc n,.int k=>(match h3[n]? with|some (.lst xs)=>(match ixN xs.length k with|some j=>some (.nx ρ,h3.set n (.lst (xs.set j v)))|none=>none)|_=>none)
 | _,_=>none
theorem yAX {to ti tv:TE}{eo ei ev:XE}(a:ydx K to eo) (b:ydx K ti ei) (c:ydx K tv ev):ylK K (yFr tv (yJv to ti yGe)) (ynY eo ei ev):=by
 intro W0 W ρ σ D o h' g e q
 obtain ⟨v,h1,e1,f1⟩:=yn e
 obtain ⟨x,h2,e2,f2⟩:=yn f1
 obtain ⟨i,h3,e3,f3⟩:=yn f2
 refine c W0 W ρ σ _ v h1 g e1 fun vv W1 w1 l1 r1=>?_
 subst w1
 refine a W0 W1 ρ σ _ x h2 (g.step l1) e2 fun vx W2 w2 l2 r2=>?_
 subst w2
 refine b W0 W2 ρ σ _ i h3 (g.step (l1.trans l2)) e3 fun vi W3 w3 l3 r3=>?_
 subst w3
 have w:=l3.ok
 split at f3
 .rename_i n k
  split at f3
  .rename_i xs hn
   split at f3
   .rename_i j hj
    cases f3
    obtain ⟨p,ep,hm,hf,us,hp,rs⟩:=w.loc hn (l3.rep r2)
    refine ⟨p,us,k,j,ep,r3,hp,by rw [rs.len];exact hj,?_⟩
    have l4:Le K W3 (yEo W3 n p (.lst (us.set j vv)) (.lst (xs.set j v))):=ylS w hn hm hf ⟨hf,_,yS,rs.set j ((l2.trans l3).rep r1)⟩
    have l:=l1.trans (l2.trans (l3.trans l4))
    exact q _ σ rfl l.lf (g.step l)
   .cases f3
  .cases f3
 .cases f3
noncomputable def keyOf:PV->Option Key
 | .int i=>some (.inl i)
 | .str s=>some (.inr s)
 | _=>none
theorem yjg {W:Wd}{x:PV}{v:V}{k:Key}(e:keyOf x=some k) (r:yfa K W x v):v=kV k:=by
 cases x<;>cases e<;>exact r
noncomputable def ynh (x:PV) (h:AH):Option (List Key×List PV):=match x with|.loc n=>(match h[n]? with|some (.dct ks xs)=>some (ks,xs)|_=>none)|_=>none
noncomputable def yhS:List Key->List PV->Key->Option PV
 | k::ks,x::xs,j=>if k=j then some x else yhS ks xs j
 | _,_,_=>none
noncomputable def ypR:List Key->Key->Bool
 | [],_=>false
 | k::ks,j=>if k=j then true else ypR ks j
noncomputable def setK {α:Type}:List Key->List α->Key->α->List α
 | k::ks,x::xs,j,y=>if k=j then y::setK ks xs j y else x::setK ks xs j y
 | _,xs,_,_=>xs
noncomputable def yep (ks:List Key) (xs:List PV) (k:Key) (x:PV):List Key×List PV:=if ypR ks k=true then (ks,setK ks xs k x) else (ks++[k],xs++[x])
theorem yqE {α:Type}:∀ (ks:List Key) (xs:List α) (j:Key) (y:α),(setK ks xs j y).length=xs.length
 | [],_,_,_=>by simp [setK]
 | _::_,[],_,_=>by simp [setK]
 | k::ks,x::xs,j,y=>by
  show (if k=j then y::setK ks xs j y else x::setK ks xs j y).length=_
  split<;>simp [yqE ks xs j y]
theorem RepL.setK {F:Hp}{m:List Addr}:∀ {xs:List PV}{vs:List V}(ks:List Key) (j:Key) {y:PV}{u:V},RepL K F m xs vs->Rep K F m y u->RepL K F m (PX.setK ks xs j y) (PX.setK ks vs j u)
 | [],_,ks,j,y,u,h,_=>by rw [show _=[] from h];cases ks<;>exact rfl
 | x::xs,_,[],j,y,u,h,_=>by
  obtain ⟨v,r,e,h1,l⟩:=h
  subst e
  exact ⟨v,r,rfl,h1,l⟩
 | x::xs,_,k::ks,j,y,u,⟨v,r,e,h1,l⟩,ru=>by
  subst e
  show RepL K F m (if k=j then y::PX.setK ks xs j y else x::PX.setK ks xs j y) (if k=j then u::PX.setK ks r j u else v::PX.setK ks r j u)
  have ih:=RepL.setK ks j l ru
  split
  .exact ⟨u,_,rfl,ru,ih⟩
  .exact ⟨v,_,rfl,h1,ih⟩
theorem ynD {F:Hp}{m:List Addr}:∀ {ks:List Key}{xs:List PV}{vs:List V}(j:Key),RepL K F m xs vs->vs.length=ks.length->(∀ x,yhS ks xs j=some x->∃ v,ysQ (ks.zip vs) j=some v/\Rep K F m x v)/\(yhS ks xs j=none->ysQ (ks.zip vs) j=none)
 | [],xs,vs,j,r,hl=>by
  refine ⟨fun x e=>?_,fun _=>rfl⟩
  cases xs<;>cases e
 | k::ks,[],vs,j,r,hl=>by rw [show vs=[] from r] at hl;cases hl
 | k::ks,x::xs,_,j,⟨v,r',e,h,l⟩,hl=>by
  subst e
  have ih:=ynD j l (by simpa using hl)
  have hz:ysQ ((k::ks).zip (v::r')) j=if k=j then some v else ysQ (ks.zip r') j:=by
   unfold ysQ
   rw [List.zip_cons_cons,List.find?_cons]
   by_cases hk:k=j
   .simp [hk]
   .simp [hk]
  rw [hz]
  show (∀ y,(if k=j then some x else yhS ks xs j)=some y->_)/\((if k=j then some x else yhS ks xs j)=none->_)
  by_cases hk:k=j
  .rw [if_pos hk,if_pos hk]
   exact ⟨fun y e=>by cases e;exact ⟨v,rfl,h⟩,fun e=>by cases e⟩
  .rw [if_neg hk,if_neg hk]
   exact ih
theorem yyr (j:Key):∀ (ks:List Key) (vs:List V),vs.length=ks.length->((ks.zip vs).any fun kv=>decide (kv.1=j))=ypR ks j
 | [],_,_=>by simp [ypR]
 | k::ks,[],h=>by cases h
 | k::ks,v::vs,h=>by
  rw [List.zip_cons_cons,List.any_cons,yyr j ks vs (by simpa using h)]
  show (decide (k=j) || ypR ks j)=if k=j then true else ypR ks j
  by_cases hk:k=j<;>simp [hk]
theorem yys (j:Key) (y:V):∀ (ks:List Key) (vs:List V),vs.length=ks.length->(ks.zip vs).map (fun kv=>if kv.1=j then (kv.1,y) else kv)=ks.zip (setK ks vs j y)
 | [],_,_=>by simp
 | k::ks,[],h=>by cases h
 | k::ks,v::vs,h=>by
  rw [List.zip_cons_cons,List.map_cons,yys j y ks vs (by simpa using h)]
  show (if k=j then (k,y) else (k,v))::_=(k::ks).zip (if k=j then y::setK ks vs j y else v::setK ks vs j y)
  by_cases hk:k=j
  .rw [if_pos hk,if_pos hk];rfl
  .rw [if_neg hk,if_neg hk];rfl
theorem yvM (j:Key) (y:V) (ks:List Key) (vs:List V) (hl:vs.length=ks.length):putK (ks.zip vs) j y=if ypR ks j=true then ks.zip (setK ks vs j y) else (ks++[j]).zip (vs++[y]):=by
 unfold putK
 rw [yyr j ks vs hl,yys j y ks vs hl,List.zip_append hl.symm]
 rfl
theorem ykN {W:Wd}(w:WOk K W) {x:PV}{v:V}{ks:List Key}{xs:List PV}(e:ynh x W.h=some (ks,xs)) (r:yfa K W x v):∃ a vs,v=.ref a/\W.H a=some (.dK (ks.zip vs))/\vs.length=ks.length/\yfw K W xs vs:=by
 unfold ynh at e
 split at e
 .split at e
  .rename_i hn
   cases e
   obtain ⟨a,ev,hm,hf,vs,hp,hl,rs⟩:=w.loc hn r
   exact ⟨a,vs,ev,hp,hl,rs⟩
  .cases e
 .cases e
noncomputable def yyt (x:PV) (h:AH):Option (List Key×List PV):=match x with|.loc n=>(match h[n]? with|some (.dct ks xs)=>some (ks,xs)|some (.fz ks xs)=>some (ks,xs)|_=>none)|_=>none
theorem ykO {W:Wd}(w:WOk K W) {x:PV}{v:V}{ks:List Key}{xs:List PV}(e:yyt x W.h=some (ks,xs)) (r:yfa K W x v):∃ a vs,v=.ref a/\Rd W.H a (.dK (ks.zip vs))/\vs.length=ks.length/\yfw K W xs vs:=by
 unfold yyt at e
 split at e
 .split at e
  .rename_i hn
   cases e
   obtain ⟨a,ev,hm,hf,vs,hp,hl,rs⟩:=w.loc hn r
   exact ⟨a,vs,ev,.inl hp,hl,rs⟩
  .rename_i hn
   cases e
   obtain ⟨a,ev,hm,hf,o,vs,hp,hl,rs⟩:=w.loc hn r
   exact ⟨a,vs,ev,.inr ⟨o,hp⟩,hl,rs⟩
  .cases e
 .cases e
theorem DGet.r {H:Hp}{a:Addr}{kvs:List (Key×V)}{k:Key}(e:Rd H a (.dK kvs)):DGet H a (kV k) (ysQ kvs k):=.inl ⟨kvs,k,e,rfl,rfl⟩
noncomputable def yuH (ed ek:XE):XE:=fun ρ h=>ob (ed ρ h) fun d h1=>ob (ek ρ h1) fun k h2=>match yyt d h2,keyOf k with|some (ks,xs),some j=>(match yhS ks xs j with|some x=>some (x,h2)|none=>none)|_,_=>none
theorem yAY {td ty:TE}{ed ek:XE}(a:ydx K td ed) (b:ydx K ty ek):ydx K (yGB td ty) (yuH ed ek):=by
 intro W0 W ρ σ Q z h' g e q
 obtain ⟨d,h1,e1,f1⟩:=yn e
 obtain ⟨k,h2,e2,f2⟩:=yn f1
 refine a W0 W ρ σ _ d h1 g e1 fun vd W1 w1 l1 r1=>?_
 subst w1
 refine b W0 W1 ρ σ _ k h2 (g.step l1) e2 fun vk W2 w2 l2 r2=>?_
 subst w2
 split at f2
 .rename_i ks xs j hd hk
  split at f2
  .rename_i x hx
   cases f2
   obtain ⟨p,vs,ev,hp,hl,rs⟩:=ykO l2.ok hd (l2.rep r1)
   obtain ⟨v,h3,h4⟩:=(ynD j rs hl).1 _ hx
   have:=yjg hk r2
   subst this
   exact ⟨p,v,ev,by rw [<- h3];exact DGet.r hp,q _ W2 rfl (l1.trans l2) h4⟩
  .cases f2
 .cases f2
noncomputable def yyu (neg:Bool) (ek ed:XE):XE:=fun ρ h=>ob (ek ρ h) fun k h1=>ob (ed ρ h1) fun d h2=>match yyt d h2,keyOf k with|some (ks,xs),some j=>some (.bl (if neg then !(yhS ks xs j).isSome else (yhS ks xs j).isSome),h2)|_,_=>none
theorem ypS {F:Hp}{m:List Addr}{ks:List Key}{xs:List PV}{vs:List V}(j:Key) (r:RepL K F m xs vs) (hl:vs.length=ks.length):(ysQ (ks.zip vs) j).isSome=(yhS ks xs j).isSome:=by
 have h:=ynD j r hl
 cases e:yhS ks xs j with
 | none=>rw [h.2 e];rfl
 | some x=>obtain ⟨v,h1,_⟩:=h.1 x e;rw [h1];rfl
theorem yEp {td ty:TE}{ed ek:XE}(b:ydx K ty ek) (a:ydx K td ed):ydx K (yJJ ty td) (yyu false ek ed):=by
 intro W0 W ρ σ Q z h' g e q
 obtain ⟨k,h1,e1,f1⟩:=yn e
 obtain ⟨d,h2,e2,f2⟩:=yn f1
 refine b W0 W ρ σ _ k h1 g e1 fun vk W1 w1 l1 r1=>?_
 subst w1
 refine a W0 W1 ρ σ _ d h2 (g.step l1) e2 fun vd W2 w2 l2 r2=>?_
 subst w2
 split at f2
 .rename_i ks xs j hd hk
  cases f2
  obtain ⟨p,vs,ev,hp,hl,rs⟩:=ykO l2.ok hd r2
  have:=yjg hk (l2.rep r1)
  subst this
  exact ⟨p,_,ev,DGet.r hp,q _ W2 rfl (l1.trans l2) (by rw [ypS j rs hl];rfl)⟩
 .cases f2
theorem ywM {td ty:TE}{ed ek:XE}(b:ydx K ty ek) (a:ydx K td ed):ydx K (yyo ty td) (yyu true ek ed):=by
 intro W0 W ρ σ Q z h' g e q
 obtain ⟨k,h1,e1,f1⟩:=yn e
 obtain ⟨d,h2,e2,f2⟩:=yn f1
 refine b W0 W ρ σ _ k h1 g e1 fun vk W1 w1 l1 r1=>?_
 subst w1
 refine a W0 W1 ρ σ _ d h2 (g.step l1) e2 fun vd W2 w2 l2 r2=>?_
 subst w2
 split at f2
 .rename_i ks xs j hd hk
  cases f2
  obtain ⟨p,vs,ev,hp,hl,rs⟩:=ykO l2.ok hd r2
  have:=yjg hk (l2.rep r1)
  subst this
  exact ⟨p,_,ev,DGet.r hp,q _ W2 rfl (l1.trans l2) (by rw [ypS j rs hl];rfl)⟩
 .cases f2
noncomputable def yqF (ed ek ev:XE):XS:=fun ρ h=>ob (ev ρ h) fun v h1=>ob (ed ρ h1) fun d h2=>ob (ek ρ h2) fun k h3=>match d,keyOf k with
 | .loc n,some j=>(match h3[n]? with|some (.dct ks xs)=>if ks.length<1000 then some (.nx ρ,h3.set n (.dct (yep ks xs j v).1 (yep ks xs j v).2)) else none|_=>none)
 | _,_=>none
theorem yAZ {td ty tv:TE}{ed ek ev:XE}(a:ydx K td ed) (b:ydx K ty ek) (c:ydx K tv ev):ylK K (yGC td ty tv) (yqF ed ek ev):=by
 intro W0 W ρ σ D o h' g e q
 obtain ⟨v,h1,e1,f1⟩:=yn e
 obtain ⟨x,h2,e2,f2⟩:=yn f1
 obtain ⟨i,h3,e3,f3⟩:=yn f2
 refine c W0 W ρ σ _ v h1 g e1 fun vv W1 w1 l1 r1=>?_
 subst w1
 refine a W0 W1 ρ σ _ x h2 (g.step l1) e2 fun vx W2 w2 l2 r2=>?_
 subst w2
 refine b W0 W2 ρ σ _ i h3 (g.step (l1.trans l2)) e3 fun vi W3 w3 l3 r3=>?_
 subst w3
 have w:=l3.ok
 split at f3
 .rename_i n j hk
  split at f3
  .rename_i ks xs hn
   split at f3
   .rename_i hc
    cases f3
    obtain ⟨p,ep,hm,hf,us,hp,hl,rs⟩:=w.loc hn (l3.rep r2)
    have:=yjg hk r3
    subst this
    have hput:=yvM j vv ks us hl
    have rv:=(l2.trans l3).rep r1
    have key:∃ us',putK (ks.zip us) j vv=(yep ks xs j v).1.zip us'/\us'.length=(yep ks xs j v).1.length/\yfw K W3 (yep ks xs j v).2 us':=by
     unfold yep
     by_cases hj:ypR ks j=true
     .rw [if_pos hj] at hput ⊢
      exact ⟨_,hput,by rw [yqE];exact hl,rs.setK ks j rv⟩
     .rw [if_neg hj] at hput ⊢
      exact ⟨_,hput,by rw [List.length_append,List.length_append,hl];rfl,rs.snoc rv⟩
    obtain ⟨us',p1,p2,p3⟩:=key
    refine ⟨p,_,ep,DPut.k hp (by rw [List.length_zip,hl];exact yrR (by omega)),?_⟩
    rw [p1]
    have l4:Le K W3 (yEo W3 n p (.dK ((yep ks xs j v).1.zip us')) (.dct (yep ks xs j v).1 (yep ks xs j v).2)):=ylS w hn hm hf ⟨hf,us',yS,p2,p3⟩
    have l:=l1.trans (l2.trans (l3.trans l4))
    exact q _ σ rfl l.lf (g.step l)
   .cases f3
  .cases f3
 .cases f3
noncomputable def ysS:XO:=fun _ h=>some (.dct [] [],h)
theorem yBa:yvC K yCz ysS:=by
 intro W0 W ρ σ Q d h' g e q
 cases e
 intro p hp
 exact q p (ypg W p (.dK [])) rfl (ygr g.ok hp) (g.ok.out hp) hp (fun z=>by cases z) ⟨g.ok.ff hp,[],yS,rfl,rfl⟩
noncomputable def ysT (ed ek ex:XE):XE:=fun ρ h=>ob (ed ρ h) fun d h1=>if (yyt d h1).isSome=true then ob (ek ρ h1) fun k h2=>ob (ex ρ h2) fun y h3=>(match yyt d h3,keyOf k with|some (ks,xs),some j=>some ((yhS ks xs j).getD y,h3)|_,_=>none) else none
theorem yyv {td ty tx:TE}{ed ek ex:XE}(a:ydx K td ed) (b:ydx K ty ek) (c:ydx K tx ex):ydx K (yCA td ty tx) (ysT ed ek ex):=by
 intro W0 W ρ σ Q z h' g e q
 obtain ⟨d,h1,e1,f1⟩:=yn e
 refine a W0 W ρ σ _ d h1 g e1 fun vd W1 w1 l1 r1=>?_
 subst w1
 split at f1
 .rename_i hs
  obtain ⟨⟨ks0,xs0⟩,hd0⟩:=Option.isSome_iff_exists.mp hs
  obtain ⟨p,vs0,ev,hp0,_,_⟩:=ykO l1.ok hd0 r1
  subst ev
  refine ⟨p,rfl,.inl ⟨_,hp0⟩,?_⟩
  obtain ⟨k,h2,e2,f2⟩:=yn f1
  obtain ⟨y,h3,e3,f3⟩:=yn f2
  refine b W0 W1 ρ σ _ k h2 (g.step l1) e2 fun vk W2 w2 l2 r2=>?_
  subst w2
  refine c W0 W2 ρ σ _ y h3 (g.step (l1.trans l2)) e3 fun vy W3 w3 l3 r3=>?_
  subst w3
  split at f3
  .rename_i ks xs j hd hk
   cases f3
   obtain ⟨p',vs,ev,hp,hl,rs⟩:=ykO l3.ok hd ((l2.trans l3).rep r1)
   cases ev
   have:=yjg hk (l3.rep r2)
   subst this
   refine ⟨_,DGet.r hp,q _ W3 rfl (l1.trans (l2.trans l3)) ?_⟩
   have hv:=ynD j rs hl
   cases eg:yhS ks xs j with
   | none=>rw [hv.2 eg];exact r3
   | some x=>obtain ⟨v,h3,h4⟩:=hv.1 x eg;rw [h3];exact h4
  .cases f3
 .cases f1
end PX
namespace PX
open PySem L2
variable {K:Ck}
theorem yuI {x:PV}{u:V}(e:sv x=some u):ywt u=true:=by cases x<;>cases e<;>rfl
noncomputable def yIX:List V->Hp->VK->Prop:=fun xs H Q=>∃ i j,xs=[.int i,.int j]/\Q (.int (if j>i then j else i)) H
noncomputable def yyw:List PV->AH->Option (PV×AH):=fun xs h=>match xs with|[.int i,.int j]=>some (.int (if j>i then j else i),h)|_=>none
theorem yGH:yqw K yIX yyw:=by
 intro W xs vs Q z h' w r e q
 unfold yyw at e
 split at e
 .rename_i i j
  cases e
  obtain ⟨v,u,rfl,rv,ru⟩:=yJI r
  exact ⟨i,j,by rw [show v=_ from rv,show u=_ from ru],q _ W rfl (.refl w) rfl⟩
 .cases e
end PX
namespace PX
open PySem L2
theorem ysU [i:Decidable True]:decide True=true:=by simp
theorem ysV [i:Decidable False]:decide False=false:=by simp
theorem ysW:(false=true)=False:=by simp
theorem ysX:(true=false)=False:=by simp
theorem yvN {g:XG}{s:XS}{xs:List PV}(I:Nat->PSt->AH->Prop) (R:PV->AH->Prop) {ρ:PSt}{h:AH}(h0:I 0 ρ h)
  (step:∀ (i:Nat) (x:PV) (ρ:PSt) (h:AH),xs[i]?=some x->I i ρ h->∃ ρ1 o h',g x ρ=some ρ1/\s ρ1 h=some (o,h')/\(match o with|.nx ρ'=>I (i+1) ρ' h'|.ct ρ'=>I (i+1) ρ' h'|.bk _=>False|.rt y=>R y h')) :
  (∃ ρ' h',yph g s xs ρ h=some (.nx ρ',h')/\I xs.length ρ' h')\/∃ y h',yph g s xs ρ h=some (.rt y,h')/\R y h':=by
 have key:∀ (n i:Nat) (ρ:PSt) (h:AH),i+n=xs.length->I i ρ h->(∃ ρ' h',yph g s (xs.drop i) ρ h=some (.nx ρ',h')/\I xs.length ρ' h')\/∃ y h',yph g s (xs.drop i) ρ h=some (.rt y,h')/\R y h':=by
  intro n
  induction n with
  | zero =>
   intro i ρ h hi hI
   have:i=xs.length:=by omega
   subst this
   rw [List.drop_length]
   exact .inl ⟨ρ,h,rfl,hI⟩
  | succ n ih =>
   intro i ρ h hi hI
   have hlt:i<xs.length:=by omega
   obtain ⟨ρ1,o,h',e1,e2,e3⟩:=step i xs[i] ρ h (List.getElem?_eq_getElem hlt) hI
   rw [List.drop_eq_getElem_cons hlt,yyl,e1,Option.bind_some,e2,yw]
   cases o with
   | nx ρ'=>exact ih (i+1) ρ' h' (by omega) e3
   | ct ρ'=>exact ih (i+1) ρ' h' (by omega) e3
   | bk ρ'=>exact e3.elim
   | rt y=>exact .inr ⟨y,h',rfl,e3⟩
 simpa using key xs.length 0 ρ h (by omega) h0
theorem yEq {g:XG}{s:XS}{xs:List PV}(I:Nat->PSt->AH->Prop) {ρ:PSt}{h:AH}(h0:I 0 ρ h)
  (step:∀ (i:Nat) (x:PV) (ρ:PSt) (h:AH),xs[i]?=some x->I i ρ h->∃ ρ1 ρ' h',g x ρ=some ρ1/\(s ρ1 h=some (.nx ρ',h')\/s ρ1 h=some (.ct ρ',h'))/\I (i+1) ρ' h') :
  ∃ ρ' h',yph g s xs ρ h=some (.nx ρ',h')/\I xs.length ρ' h':=by
 rcases yvN I (fun _ _=>False) h0 (fun i x ρ h hx hI=>by
  obtain ⟨ρ1,ρ',h',e1,e2,e3⟩:=step i x ρ h hx hI
  rcases e2 with e2|e2
  .exact ⟨ρ1,.nx ρ',h',e1,e2,e3⟩
  .exact ⟨ρ1,.ct ρ',h',e1,e2,e3⟩) with q|⟨_,_,_,q⟩
 .exact q
 .exact q.elim
theorem yjh {β:Type}{g:XG}{s:XS}{xs:List PV}(I:Nat->PSt->AH->Prop) {ρ:PSt}{h:AH}{f:Out->AH->Option β}{r:Option β}(h0:I 0 ρ h)
  (step:∀ (i:Nat) (x:PV) (ρ:PSt) (h:AH),xs[i]?=some x->I i ρ h->∃ ρ1 ρ' h',g x ρ=some ρ1/\(s ρ1 h=some (.nx ρ',h')\/s ρ1 h=some (.ct ρ',h'))/\I (i+1) ρ' h')
  (fin:∀ ρ' h',I xs.length ρ' h'->f (.nx ρ') h'=r):ob (yph g s xs ρ h) f=r:=by
 obtain ⟨ρ',h',e,hI⟩:=yEq I h0 step
 rw [e]
 exact fin ρ' h' hI
theorem yyx {β:Type}{g:XG}{s:XS}{xs:List PV}(I:Nat->PSt->AH->Prop) (R:PV->AH->Prop) {ρ:PSt}{h:AH}{f:Out->AH->Option β}{P:Option β->Prop}(h0:I 0 ρ h)
  (step:∀ (i:Nat) (x:PV) (ρ:PSt) (h:AH),xs[i]?=some x->I i ρ h->∃ ρ1 o h',g x ρ=some ρ1/\s ρ1 h=some (o,h')/\(match o with|.nx ρ'=>I (i+1) ρ' h'|.ct ρ'=>I (i+1) ρ' h'|.bk _=>False|.rt y=>R y h'))
  (fin:∀ ρ' h',I xs.length ρ' h'->P (f (.nx ρ') h')) (out:∀ y h',R y h'->P (f (.rt y) h')):P (ob (yph g s xs ρ h) f):=by
 rcases yvN I R h0 step with ⟨ρ',h',e,hI⟩|⟨y,h',e,hR⟩
 .rw [e];exact fin ρ' h' hI
 .rw [e];exact out y h' hR
theorem yBb {c:XT}{s:XS}{n:Nat}{ρ:PSt}{h:AH}:whl c s (n+1) ρ h=ob (c ρ h) fun k h1=>if k=true then ob (s ρ h1) fun o h2=>(match o with|.nx ρ'=>whl c s n ρ' h2|.ct ρ'=>whl c s n ρ' h2|.bk ρ'=>some (.nx ρ',h2)|.rt y=>some (.rt y,h2)) else some (.nx ρ,h1):=rfl
theorem yEr (lo:Int) (n:Nat):(ywE lo n).length=n:=by simp [ywE]
theorem ynZ {lo:Int}{n i:Nat}{x:PV}(h:(ywE lo n)[i]?=some x):i<n/\x=.int (lo+i):=by
 have hl:=(List.getElem?_eq_some_iff.mp h).1
 rw [yEr] at hl
 refine ⟨hl,?_⟩
 simp [ywE,hl] at h
 exact h.symm
theorem ypT {a:XA}{ρ:PSt}{h h1:AH}{j:Int}(e:a ρ h=some ([.int j],h1)) (h0:-1000000000<=j) (h2:j<=1000000000):yEb a ρ h=some (ywE 0 j.toNat,h1):=by
 unfold yEb
 rw [e,yw]
 show (if _ then _ else _)=_
 rw [if_pos ⟨h0,h2⟩]
theorem yuJ {α:Type}{e:XE}{inn:PV->PSt}(f g:α->PV):∀ {ts:List α}{h:AH},(∀ t∈ts,e (inn (f t)) h=some (g t,h))->yAz e inn (ts.map f) h=some (ts.map g,h)
 | [],_,_=>rfl
 | t::ts,h,k=>by
  show ob (e (inn (f t)) h) (fun y h1=>ob (yAz e inn (ts.map f) h1) fun ys h2=>some (y::ys,h2))=_
  rw [k t List.mem_cons_self,yw,yuJ f g fun y hy=>k y (List.mem_cons_of_mem _ hy),yw]
  rfl
theorem ypU {i:Nat}{e:XE}{ρ:PSt}{h:AH}{xs:List PV}(hx:ρ[i]?=some (.own (.lst xs))):ykh i e ρ h=ob (e ρ h) fun x h1=>if xs.length<100000 then some (.nx (ρ.set i (.own (.lst (xs++[x])))),h1) else none:=by
 unfold ykh
 rw [hx]
theorem yyy {α:Type}{a0:α}{xs:List α}:atI (a0::xs) 0=some a0:=yeJ (j:=0) rfl
theorem yyz {α:Type}{a0 a1:α}{xs:List α}:atI (a0::a1::xs) 1=some a1:=yeJ (j:=1) rfl
theorem yzT {α:Type}{a0 a1 a2:α}{xs:List α}:atI (a0::a1::a2::xs) 2=some a2:=yeJ (j:=2) rfl
theorem yBc {α:Type}{a0 a1 a2 a3:α}{xs:List α}:atI (a0::a1::a2::a3::xs) 3=some a3:=yeJ (j:=3) rfl
theorem yCC {α:Type}{a0 a1 a2 a3 a4:α}{xs:List α}:atI (a0::a1::a2::a3::a4::xs) 4=some a4:=yeJ (j:=4) rfl
theorem yjG {h:AH}{n:Nat}{xs:List PV}(e:h[n]?=some (.lst xs)):ybU [.loc n] h=some (.lst xs,h):=by
 unfold ybU listOf
 simp only [e]
theorem yqG {h:AH}{n:Nat}{xs:List PV}(e:h[n]?=some (.lst xs)):yiW [.loc n] h=some (.int xs.length,h):=by
 unfold yiW yyh
 simp only [e]
theorem yEs {h:AH}{n:Nat}{xs:List PV}{y:PV}(e:h[n]?=some (.lst xs)) (hl:xs.length<100000):ywK (.loc n) [y] h=some (.non,h.set n (.lst (xs++[y]))):=by
 unfold ywK
 simp only [e]
 rw [if_pos hl]
theorem yoa {h:AH}{n:Nat}{xs:List PV}(e:h[n]?=some (.lst xs)):yqD (.loc n) h=true:=by
 unfold yqD yeL
 simp only [e]
end PX
namespace PX
open PySem L2
variable {K:Ck}
noncomputable def yxl:P2:=fun x y h=>match x with|.tup xs=>ygC (.tup xs) y h|x=>yiU x y h
theorem yBd:ygF K (rIx K.K) yxl:=by
 intro W x y v u Q z h' w rx ry e q
 unfold yxl at e
 split at e
 .exact .inr (.inl (ycn W _ y v u Q z h' w rx ry e q))
 .exact .inl (yhQ W _ y v u Q z h' w rx ry e q)
theorem yji {xs:List PV}{i:Int}{h:AH}:yxl (.tup xs) (.int i) h=(atI xs i).bind fun v=>some (v,h):=id (by simp only [yxl,ygC];cases atI xs i<;>rfl)
theorem yjj {xs:List PV}{i:Int}{h:AH}:yxl (.lst xs) (.int i) h=(atI xs i).bind fun v=>some (v,h):=id (by simp only [yxl,yiU];cases atI xs i<;>rfl)
section
variable {ta:TE}{ea:XE}
end
end PX
namespace PX
open PySem L2
variable {K:Ck}
noncomputable def yIh (lo st:Int) (n:Nat):It:=⟨fun i _=>i<n,fun i H x H'=>H'=H/\x=.int (lo+i*st),fun i _=>n<=i⟩
noncomputable def szR (a b c:Int):Nat:=if a<b then ((b-a-1)/c+1).toNat else 0
noncomputable def yGI (ta:TA):TI:=fun σ H R=>ta σ H fun vs H1=>∃ i j c:Int,vs=[.int i,.int j,.int c]/\(0<=i/\i<1000000000/\0<=j/\j<1000000000/\0<c/\c<1000000)/\R (yIh i c (szR i j c)) H1
noncomputable def yCD (lo st:Int) (n:Nat):List PV:=(List.range n).map fun (k:Nat)=>.int (lo+(k:Int)*st)
noncomputable def yGJ (a:XA):XA:=fun ρ h=>ob (a ρ h) fun xs h1=>match xs with|[.int i,.int j,.int c]=>if 0<=i/\i<1000000000/\0<=j/\j<1000000000/\0<c/\c<1000000 then some (yCD i c (szR i j c),h1) else none|_=>none
theorem yEt (W:Wd) (lo st:Int) (n:Nat):yId K W (yIh lo st n) (yCD lo st n):=by
 refine ⟨fun i W' l w hi=>?_,fun i W' v' H2 l w hi hy=>?_,fun W' l w=>?_⟩
 .show i<n
  simpa [yCD] using hi
 .obtain ⟨h1,h2⟩:=hy
  have hi:i<n:=by simpa [yCD] using hi
  exact ⟨h1,.int (lo+(i:Int)*st),by simp [yCD,hi],h2⟩
 .show n<=_
  simp [yCD]
theorem yyA {t:TA}{e:XA}(a:ytY K t e):yEa K (yGI t) (yGJ e):=by
 intro W0 W ρ σ R xs h' g e q
 obtain ⟨ys,h1,e1,f1⟩:=yn e
 split at f1
 .rename_i i j c
  split at f1
  .rename_i hj
   cases f1
   refine a W0 W ρ σ _ _ _ g e1 fun vs W1 w1 l1 r1=>?_
   obtain ⟨v,r,rfl,rv,v2,r2,rfl,rv2,v3,r3,rfl,rv3,rr⟩:=r1
   obtain rfl:r3=[]:=rr
   exact ⟨i,j,c,by rw [show v=.int i from rv,show v2=.int j from rv2,show v3=.int c from rv3],hj,q _ W1 w1 l1 (yEt W1 i c _)⟩
  .cases f1
 .cases f1
theorem yGK {a:XA}{ρ:PSt}{h h1:AH}{i j c:Int}(e:a ρ h=some ([.int i,.int j,.int c],h1)) (hc:0<=i/\i<1000000000/\0<=j/\j<1000000000/\0<c/\c<1000000):yGJ a ρ h=some (yCD i c (szR i j c),h1):=by
 unfold yGJ
 rw [e,yIQ]
 show (if _ then _ else _)=_
 rw [if_pos hc]
end PX
namespace PX
open PySem L2
variable {K:Ck}
noncomputable def Odd (K:PySem.W.Frag) (H:Hp):Prop:=∃ a o ob,H a=some o/\K.lookup a=some ob
inductive EqR (K:PySem.W.Frag) (H:Hp):Nat->V->V->Bool->Prop where
 | flat {n:Nat}{x y:V}(fx:ywt x=true) (fy:ywt y=true):EqR K H n x y (eqV x y)
 | same {n:Nat}{a:Addr}:EqR K H n (.ref a) (.ref a) true
 | odd {n:Nat}{x y:V}{b:Bool}(h:Odd K H):EqR K H n x y b
 | nt {n:Nat}{b:Addr}{ys:List V}(hb:SqT K H b ys):EqR K H (n+1) .non (.ref b) false
 | tn {n:Nat}{b:Addr}{ys:List V}(hb:SqT K H b ys):EqR K H (n+1) (.ref b) .non false
 | lst {n:Nat}{a b:Addr}{xs ys:List V}{e:Nat->Bool}(ha:H a=some (.lst xs)) (hb:H b=some (.lst ys)) (hl:xs.length=ys.length) (hne:a≠b) (he:∀ j x y,xs[j]?=some x->ys[j]?=some y->EqR K H n x y (e j)):EqR K H (n+1) (.ref a) (.ref b) ((List.range xs.length).all e)
 | lstN {n:Nat}{a b:Addr}{xs ys:List V}(ha:H a=some (.lst xs)) (hb:H b=some (.lst ys)) (hl:xs.length≠ys.length):EqR K H (n+1) (.ref a) (.ref b) false
 | tup {n:Nat}{a b:Addr}{xs ys:List V}{e:Nat->Bool}(ha:SqT K H a xs) (hb:SqT K H b ys) (hne:a≠b) (he:∀ j x y,xs[j]?=some x->ys[j]?=some y->EqR K H n x y (e j)):EqR K H (n+1) (.ref a) (.ref b) ((List.range (min xs.length ys.length)).all e && xs.length == ys.length)
inductive RcR (K:PySem.W.Frag) (H:Hp):V->V->Bool->Prop where
 | nt {b:Addr}{ys:List V}(hb:SqT K H b ys):RcR K H .non (.ref b) false
 | tn {b:Addr}{ys:List V}(hb:SqT K H b ys):RcR K H (.ref b) .non false
 | lst {a b:Addr}{xs ys:List V}{e:Nat->Bool}(ha:H a=some (.lst xs)) (hb:H b=some (.lst ys)) (hl:xs.length=ys.length) (he:∀ j x y,xs[j]?=some x->ys[j]?=some y->EqR K H 40 x y (e j)):RcR K H (.ref a) (.ref b) ((List.range xs.length).all e)
 | lstN {a b:Addr}{xs ys:List V}(ha:H a=some (.lst xs)) (hb:H b=some (.lst ys)) (hl:xs.length≠ys.length):RcR K H (.ref a) (.ref b) false
 | tup {a b:Addr}{xs ys:List V}{e:Nat->Bool}(ha:SqT K H a xs) (hb:SqT K H b ys) (he:∀ j x y,xs[j]?=some x->ys[j]?=some y->EqR K H 40 x y (e j)):RcR K H (.ref a) (.ref b) ((List.range (min xs.length ys.length)).all e && xs.length == ys.length)
noncomputable def yJK (K:PySem.W.Frag):R2:=fun x y H Q=>∃ b,RcR K H x y b/\Q (.bl b) H
noncomputable def yJL (K:PySem.W.Frag):R2:=fun x y H Q=>∃ b,RcR K H x y b/\Q (.bl (!b)) H
noncomputable def yni (f:PV->PV->Option Bool):List PV->List PV->Option Bool
 | x::xs,y::ys=>(match f x y,yni f xs ys with|some b,some c=>some (b && c)|_,_=>none)
 | _,_=>some true
noncomputable def pairE (f:PV->PV->Option Bool) (h:AH) (x y:PV):Option Bool:=match x,y with
 | .tup xs,.tup ys=>(match yni f xs ys with|some b=>some (b && xs.length == ys.length)|none=>none)
 | .non,.tup _=>some false
 | .tup _,.non=>some false
 | x,y=>(match yeL x h,yeL y h with|some xs,some ys=>if xs.length=ys.length then yni f xs ys else some false|_,_=>none)
noncomputable def eqP:Nat->AH->PV->PV->Option Bool
 | 0,_,_,_=>none
 | n+1,h,x,y=>match sv x,sv y with
  | some u,some v=>some (eqV u v)
  | _,_=>pairE (eqP n h) h x y
theorem yBe:∀ {v:V},ywt v=true->eqV v v=true
 | .non,_=>rfl
 | .bl b,_=>by cases b<;>rfl
 | .int i,_=>by simp [eqV]
 | .str s,_=>by simp [eqV]
noncomputable def unV:Value->Option V
 | .none=>some .non
 | .bool b=>some (.bl b)
 | .int i _=>some (.int i)
 | .str x _=>some (.str x)
 | .bytes b _=>some (.byt b)
 | .float b _=>some (.flt b)
 | .ref a=>some (.ref a)
 | .type n=>some (.ty n)
 | _=>none
theorem yCE:∀ {v:V}{u:Value},RelV v u->unV u=some v
 | .non,_,h=>by rw [show _=Value.none from h];rfl
 | .bl _,_,h=>by rw [show _=Value.bool _ from h];rfl
 | .int _,_,⟨_,h⟩=>by rw [h];rfl
 | .str _,_,⟨_,h⟩=>by rw [h];rfl
 | .byt _,_,⟨_,h⟩=>by rw [h];rfl
 | .flt _,_,⟨_,h⟩=>by rw [h];rfl
 | .ref _,_,h=>by rw [show _=Value.ref _ from h];rfl
 | .ty _,_,h=>by rw [show _=Value.type _ from h];rfl
theorem yEu {v w:V}{u:Value}(h1:RelV v u) (h2:RelV w u):v=w:=Option.some.inj ((yCE h1).symm.trans (yCE h2))
theorem yBf {vs ws:List V}{us:List Value}(h1:Vals vs us):Vals ws us->vs=ws:=by
 induction h1 generalizing ws with
 | nil=>intro h2;cases h2;rfl
 | cons r _ ih=>intro h2;cases h2 with|cons r2 t2=>rw [yEu r r2,ih t2]
theorem yGL {F H:Hp}{a:Addr}{vs ws:List V}(s:Same F H) (h1:TpAt K.K F a vs) (h2:TpAt K.K F a ws):vs=ws\/Odd K.K H:=by
 rcases h1 with h1|⟨o,its,n,e1,e2,e3,e4,e5⟩
 .rcases h2 with h2|⟨o,its,n,e1,e2,e3,e4,e5⟩
  .rw [h1] at h2;cases h2;exact .inl rfl
  .exact .inr ⟨a,_,o,s _ _ h1,e1⟩
 .rcases h2 with h2|⟨o',its',n',e1',e2',e3',e4',e5'⟩
  .exact .inr ⟨a,_,o,s _ _ h2,e1⟩
  .rw [e1] at e1';cases e1'
   rw [e3] at e3';cases e3'
   exact .inl (yBf e5 e5')
theorem yob {f:PV->PV->Option Bool}{W:Wd}(hf:∀ x y v b,f x y=some b->yfa K W x v->yfa K W y v->b=true\/Odd K.K W.H):∀ {xs ys:List PV}{vs:List V}{c:Bool},yfw K W xs vs->yfw K W ys vs->yni f xs ys=some c->c=true\/Odd K.K W.H
 | [],_,_,_,_,_,e=>by simp [yni] at e;exact .inl e
 | _::_,[],_,_,_,_,e=>by simp [yni] at e;exact .inl e
 | x::xs,y::ys,_,c,⟨v,r,e1,h1,l1⟩,⟨u,q,e2,h2,l2⟩,e=>by
  rw [e1] at e2
  cases e2
  unfold yni at e
  cases eb:f x y with
  | none=>rw [eb] at e;cases e
  | some b =>
   cases ec:yni f xs ys with
   | none=>rw [eb,ec] at e;cases e
   | some c' =>
    rw [eb,ec] at e
    cases e
    rcases hf x y _ b eb h1 h2 with z|z
    .rcases yob hf l1 l2 ec with z'|z'
     .exact .inl (by rw [z,z'];rfl)
     .exact .inr z'
    .exact .inr z
theorem ywN {f:PV->PV->Option Bool}{W:Wd}(w:WOk K W) (hf:∀ x y v b,f x y=some b->yfa K W x v->yfa K W y v->b=true\/Odd K.K W.H) {x y:PV}{v:V}{b:Bool}(e:pairE f W.h x y=some b) (rx:yfa K W x v) (ry:yfa K W y v):b=true\/Odd K.K W.H:=by
 unfold pairE at e
 split at e
 .rename_i xs ys
  obtain ⟨a,vs,ev,ha,ra⟩:=rx
  obtain ⟨a',vs',ev',ha',ra'⟩:=ry
  rw [ev] at ev'
  cases ev'
  rcases yGL w.le ha ha' with z|z
  .subst z
   cases ec:yni f xs ys with
   | none=>rw [ec] at e;cases e
   | some c =>
    rw [ec] at e
    cases e
    rcases yob hf ra ra' ec with z|z
    .left
     rw [z,<- ra.len,<- ra'.len]
     simp
    .exact .inr z
  .exact .inr z
 .obtain ⟨a',vs',ev',ha',ra'⟩:=ry
  have rx:v=.non:=rx
  rw [rx] at ev';cases ev'
 .obtain ⟨a',vs',ev',ha',ra'⟩:=rx
  have ry:v=.non:=ry
  rw [ry] at ev';cases ev'
 .split at e
  .rename_i xs ys hx hy
   obtain ⟨a,vs,ev,ha,ra⟩:=ycj w hx rx
   obtain ⟨a',vs',ev',ha',ra'⟩:=ycj w hy ry
   rw [ev] at ev'
   cases ev'
   rw [ha] at ha'
   cases ha'
   rw [if_pos (by rw [<- ra.len,<- ra'.len])] at e
   exact yob hf ra ra' e
  .cases e
theorem yqH {W:Wd}(w:WOk K W):∀ (n:Nat) (x y:PV) (v:V) (b:Bool),eqP n W.h x y=some b->yfa K W x v->yfa K W y v->b=true\/Odd K.K W.H
 | 0,_,_,_,_,e,_,_=>by cases e
 | n+1,x,y,v,b,e,rx,ry=>by
  unfold eqP at e
  split at e
  .rename_i u u' hu hu'
   cases e
   rw [<- ykH hu rx,<- ykH hu' ry]
   exact .inl (yBe (by rw [ykH hu rx];exact yuI hu))
  .exact ywN w (yqH w n) e rx ry
theorem yoc {f:PV->PV->Option Bool}{W:Wd}{n:Nat}(hf:∀ x y v u b,f x y=some b->yfa K W x v->yfa K W y u->EqR K.K W.H n v u b):∀ {xs ys:List PV}{vs us:List V}{c:Bool},yfw K W xs vs->yfw K W ys us->yni f xs ys=some c ->
  ∃ e:Nat->Bool,(∀ j v u,vs[j]?=some v->us[j]?=some u->EqR K.K W.H n v u (e j))/\c=(List.range (min vs.length us.length)).all e
 | [],_,_,_,c,h1,_,e=>by
  rw [show _=[] from h1]
  simp [yni] at e
  exact ⟨fun _=>true,fun j v u hv=>by simp at hv,by simp [e]⟩
 | _::_,[],_,_,c,_,h2,e=>by
  rw [show _=[] from h2]
  simp [yni] at e
  exact ⟨fun _=>true,fun j v u _ hu=>by simp at hu,by simp [e]⟩
 | x::xs,y::ys,_,_,c,⟨v,r,e1,h1,l1⟩,⟨u,q,e2,h2,l2⟩,e=>by
  subst e1 e2
  unfold yni at e
  cases eb:f x y with
  | none=>rw [eb] at e;cases e
  | some b =>
   cases ec:yni f xs ys with
   | none=>rw [eb,ec] at e;cases e
   | some c' =>
    rw [eb,ec] at e
    cases e
    obtain ⟨e',k1,k2⟩:=yoc hf l1 l2 ec
    refine ⟨fun j=>match j with|0=>b|j+1=>e' j,fun j v' u' hv hu=>?_,?_⟩
    .cases j with
     | zero =>
      simp at hv hu
      subst hv hu
      exact hf x y _ _ b eb h1 h2
     | succ j=>exact k1 j v' u' (by simpa using hv) (by simpa using hu)
    .rw [k2,List.length_cons,List.length_cons,show min (r.length+1) (q.length+1)=min r.length q.length+1 by omega,List.range_succ_eq_map,List.all_cons,List.all_map]
     rfl
theorem yvO {W:Wd}(w:WOk K W):∀ (n:Nat) (x y:PV) (v u:V) (b:Bool),eqP n W.h x y=some b->yfa K W x v->yfa K W y u->EqR K.K W.H n v u b
 | 0,_,_,_,_,_,e,_,_=>by cases e
 | n+1,x,y,v,u,b,e,rx,ry=>by
  have e0:=e
  unfold eqP at e
  split at e
  .rename_i v' u' hv hu
   cases e
   rw [ykH hv rx,ykH hu ry]
   exact .flat (yuI hv) (yuI hu)
  .unfold pairE at e
   split at e
   .rename_i xs ys _
    obtain ⟨a,vs,ev,ha,ra⟩:=rx
    obtain ⟨a',us,eu,ha',ra'⟩:=ry
    by_cases hab:a=a'
    .subst hab
     rcases yqH w (n+1) _ _ v b e0 ⟨a,vs,ev,ha,ra⟩ (by rw [ev,<- eu];exact ⟨a,us,eu,ha',ra'⟩) with this|z
     .rw [this,ev,eu]
      exact .same
     .exact .odd z
    .cases ec:yni (eqP n W.h) xs ys with
     | none=>rw [ec] at e;cases e
     | some c =>
      rw [ec] at e
      cases e
      obtain ⟨e',k1,k2⟩:=yoc (yvO w n) ra ra' ec
      rw [ev,eu,k2,<- ra.len,<- ra'.len]
      exact .tup (ygQ w ha) (ygQ w ha') hab k1
   .obtain ⟨a',us,eu,ha',ra'⟩:=ry
    cases e
    rw [show v=.non from rx,eu]
    exact .nt (ygQ w ha')
   .obtain ⟨a',us,eu,ha',ra'⟩:=rx
    cases e
    rw [show u=.non from ry,eu]
    exact .tn (ygQ w ha')
   .split at e
    .rename_i xs ys hx hy
     obtain ⟨a,vs,ev,ha,ra⟩:=ycj w hx rx
     obtain ⟨a',us,eu,ha',ra'⟩:=ycj w hy ry
     by_cases hab:a=a'
     .subst hab
      rcases yqH w (n+1) _ _ v b e0 rx (by rw [ev,<- eu];exact ry) with this|z
      .rw [this,ev,eu]
       exact .same
      .exact .odd z
     .split at e
      .rename_i hl
       obtain ⟨e',k1,k2⟩:=yoc (yvO w n) ra ra' e
       have hl':vs.length=us.length:=by rw [ra.len,ra'.len,hl]
       rw [ev,eu,k2,<- hl',Nat.min_self]
       exact .lst ha ha' hl' hab k1
      .rename_i hl
       cases e
       rw [ev,eu]
       exact .lstN ha ha' (by rw [ra.len,ra'.len];exact hl)
    .cases e
noncomputable def ywO:P2:=fun x y h=>match pairE (eqP 40 h) h x y with|some b=>some (.bl b,h)|none=>none
noncomputable def yCF:P2:=fun x y h=>match pairE (eqP 40 h) h x y with|some b=>some (.bl (!b),h)|none=>none
theorem yvP {W:Wd}(w:WOk K W) {x y:PV}{v u:V}{b:Bool}(e:pairE (eqP 40 W.h) W.h x y=some b) (rx:yfa K W x v) (ry:yfa K W y u):RcR K.K W.H v u b:=by
 unfold pairE at e
 split at e
 .rename_i xs ys
  obtain ⟨a,vs,ev,ha,ra⟩:=rx
  obtain ⟨a',us,eu,ha',ra'⟩:=ry
  cases ec:yni (eqP 40 W.h) xs ys with
  | none=>rw [ec] at e;cases e
  | some c =>
   rw [ec] at e
   cases e
   obtain ⟨e',k1,k2⟩:=yoc (yvO w 40) ra ra' ec
   rw [ev,eu,k2,<- ra.len,<- ra'.len]
   exact .tup (ygQ w ha) (ygQ w ha') k1
 .obtain ⟨a',us,eu,ha',ra'⟩:=ry
  cases e
  rw [show v=.non from rx,eu]
  exact .nt (ygQ w ha')
 .obtain ⟨a',us,eu,ha',ra'⟩:=rx
  cases e
  rw [show u=.non from ry,eu]
  exact .tn (ygQ w ha')
 .split at e
  .rename_i xs ys hx hy
   obtain ⟨a,vs,ev,ha,ra⟩:=ycj w hx rx
   obtain ⟨a',us,eu,ha',ra'⟩:=ycj w hy ry
   split at e
   .rename_i hl
    obtain ⟨e',k1,k2⟩:=yoc (yvO w 40) ra ra' e
    have hl':vs.length=us.length:=by rw [ra.len,ra'.len,hl]
    rw [ev,eu,k2,<- hl',Nat.min_self]
    exact .lst ha ha' hl' k1
   .rename_i hl
    cases e
    rw [ev,eu]
    exact .lstN ha ha' (by rw [ra.len,ra'.len];exact hl)
  .cases e
theorem yEv:ygF K (yJK K.K) ywO:=by
 intro W x y v u Q z h' w rx ry e q
 unfold ywO at e
 split at e
 .rename_i b hb
  cases e
  exact ⟨b,yvP w hb rx ry,q _ W rfl (.refl w) rfl⟩
 .cases e
theorem yIY:ygF K (yJL K.K) yCF:=by
 intro W x y v u Q z h' w rx ry e q
 unfold yCF at e
 split at e
 .rename_i b hb
  cases e
  exact ⟨b,yvP w hb rx ry,q _ W rfl (.refl w) rfl⟩
 .cases e
end PX
namespace PX
open PySem L2
variable {K:Ck}
noncomputable def yK (k:Nat) (m:Str) (f:Fn) (e:XE) (as:XA):XE:=fun ρ h=>ob (e ρ h) fun x h1=>match ykj x h1 with
 | some (k',ns,_)=>if k'=k/\m∉ns then ob (as ρ h1) fun ys h2=>f (x::ys) h2 else none
 | none=>none
theorem ysY {k n:Nat}{m:Str}{f:Fn}{ex:XK}{ta:TE}{t:TA}{ea:XE}{as:XA}(a:ydx K ta ea) (b:ytY K t as) (hn:∀ ρ h xs h',as ρ h=some (xs,h')->xs.length=n) :
  ydx K (yDq (K.A k) m (spE K (n+1) f) [] ex ta t) (yK k m f ea as):=by
 intro W0 W ρ σ Q z h' g e q
 obtain ⟨x,h1,e1,f1⟩:=yn e
 refine a W0 W ρ σ _ x h1 g e1 fun v W1 w1 l1 r1=>?_
 subst w1
 split at f1
 .rename_i k' ns xs hi
  split at f1
  .rename_i hc
   obtain ⟨ys,h2,e2,f2⟩:=yn f1
   obtain ⟨p,dx,vs,ev,hp,hl,rs⟩:=ynW l1.ok hi r1
   rw [hc.1] at hp
   refine ⟨p,dx,_,ev,hp,yiX hc.2,?_⟩
   refine b W0 W1 ρ σ _ ys h2 (g.step l1) e2 fun us W2 w2 l2 r2=>?_
   subst w2
   rw [List.append_nil]
   exact ⟨W2,x::ys,z,h',rfl,l2.ok,⟨v,us,rfl,l2.rep r1,r2⟩,by rw [List.length_cons,hn _ _ _ _ e2],f2,fun u W3 w3 l3 r3=>q u W3 w3 ((l1.trans l2).trans l3) r3⟩
  .cases f1
 .cases f1
noncomputable def yyB (cs:List Nat) (f:Str) (eo ev:XE):XS:=fun ρ h=>ob (ev ρ h) fun y h1=>ob (eo ρ h1) fun x h2=>match x with
 | .loc n=>(match h2[n]? with|some (.ins k ns xs)=>if k∈cs/\ns.length<1000 then some (.nx ρ,h2.set n (.ins k (putN f y ns xs).1 (putN f y ns xs).2)) else none|_=>none)
 | _=>none
theorem yBg {cs:List Nat}{f:Str}{ta tv:TE}{ea ev:XE}(hc:∀ k∈cs,Cls K.K (K.A k)/\NoAttr K.K (K.A k) f) (a:ydx K ta ea) (c:ydx K tv ev):ylK K (yIv K.K ta tv f) (yyB cs f ea ev):=by
 intro W0 W ρ σ D o h' g e q
 obtain ⟨y,h1,e1,f1⟩:=yn e
 obtain ⟨x,h2,e2,f2⟩:=yn f1
 refine c W0 W ρ σ _ y h1 g e1 fun vy W1 w1 l1 r1=>?_
 subst w1
 refine a W0 W1 ρ σ _ x h2 (g.step l1) e2 fun vx W2 w2 l2 r2=>?_
 subst w2
 have w:=l2.ok
 split at f2
 .rename_i n
  split at f2
  .rename_i k ns xs hn
   split at f2
   .rename_i hk
    cases f2
    obtain ⟨p,ep,hm,hf,dx,us,hp,hl,rs⟩:=w.loc hn r2
    obtain ⟨us',p1,p2,p3⟩:=rs.putN (f:=f) hl (l2.rep r1)
    refine ⟨p,_,dx,_,ep,hp,(hc k hk.1).1,(hc k hk.1).2,by rw [List.length_zip,hl];simpa using hk.2,?_⟩
    rw [p1]
    have l4:Le K W2 (yEo W2 n p (.ins (K.A k) dx ((putN f y ns xs).1.zip us')) (.ins k (putN f y ns xs).1 (putN f y ns xs).2)):=ylS w hn hm hf ⟨hf,dx,us',yS,p2,p3⟩
    have l:=l1.trans (l2.trans l4)
    exact q _ σ rfl l.lf (g.step l)
   .cases f2
  .cases f2
 .cases f2
end PX
namespace PX
open PySem L2
variable {K:Ck}
noncomputable def yuK (r d:Addr):HO:=.ext fun h=>h.get? r=some { cls:=.type "dict_items",data:=.fields #[.ref d] }
noncomputable def yCG:V->List V->Hp->VK->Prop:=fun x vs H Q=>∃ d kvs,x=.ref d/\vs=[]/\H d=some (.dK kvs)/\∀ r,H r=none->Q (.ref r) (upd H r (yuK r d))
noncomputable def yvQ (H:Hp) (as:List Addr) (ts:List (List V)):Hp:=fun b=>match (as.zip ts).lookup b with|some t=>some (.tup t)|none=>H b
noncomputable def yIi (H:Hp) (p:Addr) (as:List Addr) (ts:List (List V)):Hp:=upd (yvQ H as ts) p (.lst (as.map V.ref))
noncomputable def rSI:List V->Hp->VK->Prop:=fun xs H Q=>∃ (r d:Addr) (kvs:List (Key×V)) (ns:List Int),xs=[.ref r]/\H r=some (yuK r d)/\H d=some (.dK kvs)/\kvs.map (·.1)=ns.map .inl/\kvs.length<64 /\
 ∀ (p:Addr) (as:List Addr) (q:List Nat),q.Perm (List.range ns.length)->q.Pairwise (fun i j=>ns.getD i 0<=ns.getD j 0)->ns.Nodup->as.length=q.length->(∀ a∈p::as,H a=none)->(p::as).Nodup ->
  Q (.ref p) (yIi H p as (q.map fun i=>[V.int (ns.getD i 0),(kvs.map (·.2)).getD i .non]))
noncomputable def yFv (p:Int×PV):List (Int×PV)->List (Int×PV)
 | []=>[p]
 | q::r=>if p.1<=q.1 then p::q::r else q::yFv p r
noncomputable def yqI:List (Int×PV)->List (Int×PV)
 | []=>[]
 | p::r=>yFv p (yqI r)
noncomputable def ywP:List Key->Option (List Int)
 | []=>some []
 | .inl i::r=>(ywP r).map (i::·)
 | .inr _::_=>none
theorem yqJ:∀ {ks:List Key}{ns:List Int},ywP ks=some ns->ks=ns.map .inl
 | [],ns,h=>by cases h;rfl
 | .inl i::r,ns,h=>by
  obtain ⟨m,e,rfl⟩:=Option.map_eq_some_iff.mp h
  rw [List.map_cons,<- yqJ e]
 | .inr _::_,_,h=>by cases h
theorem yod (p:Int×PV):∀ l,(yFv p l).Perm (p::l)
 | []=>.refl _
 | q::r=>by
  unfold yFv
  split
  .exact .refl _
  .exact ((yod p r).cons q).trans (.swap _ _ _)
theorem yfA:∀ l,(yqI l).Perm l
 | []=>.refl _
 | p::r=>(yod p _).trans ((yfA r).cons p)
theorem yyC {p:Int×PV}:∀ {l:List (Int×PV)},l.Pairwise (fun a b=>a.1<=b.1)->(yFv p l).Pairwise (fun a b=>a.1<=b.1)
 | [],_=>List.pairwise_singleton _ _
 | q::r,h=>by
  obtain ⟨h1,h2⟩:=List.pairwise_cons.mp h
  unfold yFv
  split
  .rename_i hc
   exact List.pairwise_cons.mpr ⟨fun b hb=>by
    rcases List.mem_cons.mp hb with rfl|hb
    .exact hc
    .exact Int.le_trans hc (h1 b hb),h⟩
  .rename_i hc
   refine List.pairwise_cons.mpr ⟨fun b hb=>?_,yyC h2⟩
   rcases List.mem_cons.mp ((yod p r).mem_iff.mp hb) with rfl|hb
   .omega
   .exact h1 b hb
theorem ynE:∀ l,(yqI l).Pairwise (fun a b=>a.1<=b.1)
 | []=>.nil
 | _::r=>yyC (ynE r)
theorem yBh {ns:List Int}{xs:List PV}{q:List Nat}(hl:xs.length=ns.length) (hp:q.Perm (List.range ns.length)) (hs:q.Pairwise fun i j=>ns.getD i 0<=ns.getD j 0) (nd:ns.Nodup) :
  (q.map fun i=>(ns.getD i 0,xs.getD i .non))=yqI (ns.zip xs):=by
 have hz:((List.range ns.length).map fun i=>(ns.getD i 0,xs.getD i .non))=ns.zip xs:=by
  apply List.ext_getElem
  .simp [hl]
  .intro i h1 h2
   have h3:i<ns.length:=by simpa using h1
   simp [List.getD,List.getElem?_eq_getElem h3,List.getElem?_eq_getElem (show i<xs.length by omega)]
 have hm:(q.map fun i=>(ns.getD i 0,xs.getD i .non)).Perm (ns.zip xs):=by rw [<- hz];exact hp.map _
 have hk:(ns.zip xs).map (·.1)=ns:=List.map_fst_zip (by omega)
 refine List.Perm.eq_of_pairwise (le:=fun a b=>a.1<=b.1) (fun a b ha hb h1 h2=>?_) (List.pairwise_map.mpr hs) (ynE _) (hm.trans (yfA _).symm)
 have ha:=hm.mem_iff.mp ha
 have hb:=(yfA _).mem_iff.mp hb
 obtain ⟨i,hi,rfl⟩:=List.getElem_of_mem ha
 obtain ⟨j,hj,rfl⟩:=List.getElem_of_mem hb
 have hi':i<ns.length:=by rw [List.length_zip] at hi;omega
 have hj':j<ns.length:=by rw [List.length_zip] at hj;omega
 have e:ns[i]=ns[j]:=by
  have:((ns.zip xs)[i]).1=((ns.zip xs)[j]).1:=Int.le_antisymm h1 h2
  simpa using this
 have:=yvK nd hi' hj' e
 subst this
 rfl
noncomputable def yJM (W:Wd) (as:List Addr) (ts:List (List V)):Wd:=⟨yvQ W.F as ts,yvQ W.H as ts,W.m,W.h⟩
theorem lookup_mem {α:Type}:∀ {as:List Addr}{ts:List α}{b:Addr}{t:α},(as.zip ts).lookup b=some t->b∈as
 | [],_,_,_,h=>by simp at h
 | _::_,[],_,_,h=>by simp at h
 | a::as,u::ts,b,t,h=>by
  rw [List.zip_cons_cons,List.lookup_cons] at h
  split at h
  .rename_i hb;rw [eq_of_beq hb];exact List.mem_cons_self
  .exact List.mem_cons_of_mem _ (lookup_mem h)
theorem ylT {H:Hp}{as:List Addr}{ts:List (List V)}{b:Addr}(h:b∉as):yvQ H as ts b=H b:=by
 unfold yvQ
 split
 .rename_i e;exact absurd (lookup_mem e) h
 .rfl
theorem yEw {W:Wd}{as:List Addr}{ts:List (List V)}(w:WOk K W) (h:∀ a∈as,W.H a=none):Le K W (yJM W as ts):=by
 have nm:∀ a∈as,a∉W.m:=fun a ha=>w.out (h a ha)
 have sF:Same W.F (yvQ W.F as ts):=fun b o e=>by
  rw [ylT fun z=>by rw [w.ff (h b z)] at e;cases e];exact e
 have sH:Same W.H (yvQ W.H as ts):=fun b o e=>by
  rw [ylT fun z=>by rw [h b z] at e;cases e];exact e
 refine ⟨⟨?_,w.len,w.nd,fun n d a e1 e2=>?_⟩,sF,List.prefix_refl _,fun b u e _=>sH b u e,fun b u e _ f=>?_,fun b z n=>absurd z n,fun n ks xs e1=>⟨e1,fun a e2=>ylT fun z=>nm a z (List.mem_of_getElem? e2)⟩⟩
 .intro b u e
  have e:yvQ W.F as ts b=some u:=e
  show yvQ W.H as ts b=some u
  unfold yvQ at e ⊢
  split at e
  .exact e
  .exact w.le _ _ e
 .have ha:a∉as:=fun z=>nm a z (List.mem_of_getElem? e2)
  exact (w.at_ n d a e1 e2).mono sF (List.prefix_refl _) (fun u e=>sH _ _ e) fun f=>(ylT ha).trans f
 .exact (ylT fun z=>by rw [h b z] at e;cases e).trans f
theorem ysZ {F:Hp}{m:List Addr}{Y:Nat->PV}{T:Nat->List V}{Z:Nat->List PV}(hY:∀ i,Y i=.tup (Z i)):∀ (as:List Addr) (q:List Nat),as.length=q.length->as.Nodup->(∀ a∈as,∀ i,i∈q->(as.zip (q.map T)).lookup a=some (T i)->F a=some (.tup (T i))) ->
  (∀ i∈q,RepL K F m (Z i) (T i))->RepL K F m (q.map Y) (as.map V.ref)
 | [],[],_,_,_,_=>rfl
 | [],_::_,h,_,_,_=>by cases h
 | _::_,[],h,_,_,_=>by cases h
 | a::as,i::q,hl,hn,hF,hR=>by
  obtain ⟨n1,n2⟩:=List.nodup_cons.mp hn
  refine ⟨.ref a,_,rfl,?_,ysZ hY as q (by simpa using hl) n2 (fun b hb j hj e=>?_) fun j hj=>hR j (List.mem_cons_of_mem _ hj)⟩
  .rw [hY]
   exact ⟨a,T i,rfl,.inl (hF a List.mem_cons_self i List.mem_cons_self (by simp)),hR i List.mem_cons_self⟩
  .refine hF b (List.mem_cons_of_mem _ hb) j (List.mem_cons_of_mem _ hj) ?_
   rw [List.map_cons,List.zip_cons_cons,List.lookup_cons]
   have:(b == a)=false:=beq_eq_false_iff_ne.mpr fun z=>n1 (z ▸ hb)
   rw [this]
   exact e
noncomputable def sortI (ks:List Key) (xs:List PV):Option (List PV):=match ywP ks with|some ns=>if ns.length<64 then some ((yqI (ns.zip xs)).map fun p=>.tup [.int p.1,p.2]) else none|none=>none
noncomputable def yoe (e:XE):XO:=fun ρ h=>ob (e ρ h) fun x h1=>match ynh x h1 with|some (ks,xs)=>(match sortI ks xs with|some l=>some (.lst l,h1)|none=>none)|none=>none
theorem yCH {W:Wd}{x:PV}{v:V}{ks:List Key}{xs:List PV}(w:WOk K W) (e:ynh x W.h=some (ks,xs)) (r:yfa K W x v):tyV K.K "dict" v W.H:=by
 obtain ⟨a,vs,rfl,hp,_⟩:=ykN w e r
 exact .inr (.inr (.inl ⟨rfl,.inl ⟨_,hp⟩⟩))
theorem yyD {ta:TE}{ea:XE}(a:ydx K ta ea):yvC K (tCB rSI (yxF (yIB K.K "dict" yCG ta) yDp)) (yoe ea):=by
 intro W0 W ρ σ Q z h' g e q
 obtain ⟨x,h1,e1,f1⟩:=yn e
 refine a W0 W ρ σ _ x h1 g e1 fun v W1 w1 l1 r1=>?_
 subst w1
 split at f1
 .rename_i ks xs hd
  split at f1
  .rename_i l hl
   cases f1
   refine ⟨yCH l1.ok hd r1,?_⟩
   obtain ⟨d,vs,ev,hp,hvl,rs⟩:=ykN l1.ok hd r1
   subst ev
   refine ⟨d,_,rfl,rfl,hp,fun r hr=>?_⟩
   unfold sortI at hl
   split at hl
   .rename_i ns hk
    split at hl
    .rename_i h64
     cases hl
     have hk:=yqJ hk
     have l2:=ygr (o:=yuK r d) l1.ok hr
     have hnl:ks.length=ns.length:=by rw [hk,List.length_map]
     have hxl:xs.length=ns.length:=by rw [<- rs.len];omega
     show rSI [.ref r] (upd W1.H r (yuK r d)) Q
     refine ⟨r,d,ks.zip vs,ns,rfl,yS,(ybb (yco hp hr)).trans hp,by rw [List.map_fst_zip (by omega),hk],by rw [List.length_zip];omega,fun p as o hperm hs nd hal hfree hnd=>?_⟩
     rw [List.map_snd_zip (by omega)]
     generalize hW2:ypg W1 r (yuK r d)=W2 at l2
     have hH2:W2.H=upd W1.H r (yuK r d):=by rw [<- hW2];rfl
     rw [<- hH2] at hfree ⊢
     have l3:=yEw (ts:=o.map fun i=>[V.int (ns.getD i 0),vs.getD i .non]) l2.ok fun a ha=>hfree a (List.mem_cons_of_mem _ ha)
     obtain ⟨n1,n2⟩:=List.nodup_cons.mp hnd
     have hp3:(yJM W2 as (o.map fun i=>[V.int (ns.getD i 0),vs.getD i .non])).H p=none:=(ylT n1).trans (hfree p List.mem_cons_self)
     have l4:=ygr (o:=.lst (as.map V.ref)) l3.ok hp3
     have l:=l2.trans (l3.trans l4)
     have inq:∀ i∈o,i<ns.length:=fun i hi=>by have:=hperm.mem_iff.mp hi;simpa using this
     refine q p _ (by rw [<- hW2];rfl) (l1.trans l) (l3.ok.out hp3) ((l1.trans l2).fresh (hfree p List.mem_cons_self)) (fun z=>by cases z) ⟨l3.ok.ff hp3,_,yS,?_⟩
     rw [<- yBh hxl hperm hs nd,List.map_map]
     refine ysZ (T:=fun i=>[V.int (ns.getD i 0),vs.getD i .non]) (Z:=fun i=>[.int (ns.getD i 0),xs.getD i .non]) (fun i=>rfl) as o hal n2 (fun a ha i hi e=>?_) fun i hi=>⟨_,_,rfl,rfl,_,_,rfl,?_,rfl⟩
     .show yvQ W2.F as _ a=_
      unfold yvQ
      rw [e]
     .have hi':=inq i hi
      obtain ⟨u,h3,h4⟩:=(l2.trans (l3.trans l4)).repL rs |>.get (List.getElem?_eq_getElem (show i<xs.length by omega))
      have e5:xs.getD i .non=xs[i]'(by omega):=by simp [List.getD,List.getElem?_eq_getElem (show i<xs.length by omega)]
      have e6:vs.getD i .non=u:=by simp [List.getD,h3]
      rw [e5,e6]
      exact h4
    .cases hl
   .cases hl
  .cases f1
 .cases f1
end PX
namespace PX
open PySem L2
variable {K:Ck}
noncomputable def ItR (K:PySem.W.Frag) (a:Addr) (m:Nat):It :=
 ⟨fun i H=>i<m/\∃ xs x,SqL K H a xs/\xs[m-1-i]?=some x,fun i H x H'=>H'=H/\∀ xs,SqL K H a xs->xs[m-1-i]?=some x,fun i _=>i=m⟩
noncomputable def yJN (K:PySem.W.Frag) (tl:TE):TI:=fun σ H R=>tl σ H fun x H1=>∃ a xs,x=.ref a/\SqL K H1 a xs/\R (ItR K a xs.length) H1
noncomputable def yyE (n:Nat) (rev:Bool) (g:XG) (s:XS):Nat->Nat->PSt->AH->Option (Out×AH)
 | 0,i,ρ,h=>match h[n]? with|some (.lst xs)=>if xs.length=i then some (.nx ρ,h) else none|_=>none
 | k+1,i,ρ,h=>match h[n]? with
  | some (.lst xs)=>(match xs[if rev then k else i]? with
   | some x=>(g x ρ).bind fun ρ1=>ob (s ρ1 h) fun o h1=>match o with|.nx ρ'=>yyE n rev g s k (i+1) ρ' h1|.ct ρ'=>yyE n rev g s k (i+1) ρ' h1|.bk ρ'=>some (.nx ρ',h1)|.rt y=>some (.rt y,h1)
   | none=>none)
  | _=>none
noncomputable def yBi (rev:Bool) (e:XE) (g:XG) (s:XS):XS:=fun ρ h=>ob (e ρ h) fun x h1=>match x with
 | .loc n=>(match h1[n]? with|some (.lst xs)=>yyE n rev g s xs.length 0 ρ h1|_=>none)
 | _=>none
structure ItX (K:Ck) (n:Nat) (rev:Bool) (m:Nat) (a:Addr) (J:It):Prop where
 go:∀ (i:Nat) (H:Hp) (vs:List V) (v:V),H a=some (.lst vs)->i<m->vs[if rev then m-1-i else i]?=some v->J.go i H
 yld:∀ (i:Nat) (H:Hp) (vs:List V) (v:V) (H2:Hp),H a=some (.lst vs)->i<m->J.yld i H v H2->H2=H/\vs[if rev then m-1-i else i]?=some v
 stop:∀ (H:Hp) (vs:List V),H a=some (.lst vs)->vs.length=m->J.stop m H
section
variable {ta:TE}{ea:XE}{t:TS}{s:XS}
theorem yyF {n:Nat}{xs:List PV}{p:Addr}{us:List V}{J:It}{rev:Bool}{g:TG}{y:XG}(b:yAC K g y) (c:ylK K t s) {W0 W W1:Wd}{ρ:PSt}{σ:St}{D:Ends}{o:Out}{h':AH}(gd:Good K W0 W ρ σ) (l1:Le K W W1) (q:Ends.Ok K W0 W D h' o)
  (f1:yyE n rev y s xs.length 0 ρ W1.h=some (o,h')) (hn:W1.h[n]?=some (.lst xs)) (hm:W1.m[n]?=some p) (rs:yfw K W1 xs us) (J1:ItX K n rev us.length p J) :
  ∃ Z:Nat->Nat->St->Hp->Prop,(∃ m,Z 0 m σ W1.H)/\∀ i m σ H,Z i m σ H ->
   (J.stop i H/\D.nx σ H)\/(J.go i H/\∃ N:St->Hp->Prop,(∀ σ' H',N σ' H'->∃ m',m'<m/\Z (i+1) m' σ' H')/\∀ x H',J.yld i H x H'->g x σ H' fun σ2 H2=>t { D with nx:=N,ct:=N,bk:=D.nx } σ2 H2):=by
   have q1:=q.from_ l1.lf
   have hul:us.length=xs.length:=rs.len
   rw [hul] at J1
   refine ⟨fun i m σ H=>m=xs.length-i/\i<=xs.length/\∃ W' ρ',W'.H=H/\Lf K W1 W'/\Good K W0 W' ρ' σ/\yyE n rev y s (xs.length-i) i ρ' W'.h=some (o,h'),⟨_,rfl,Nat.zero_le _,W1,ρ,rfl,.refl,gd.step l1,f1⟩,?_⟩
   rintro i m σ _ ⟨rfl,hi,W',ρ',rfl,l,g',f⟩
   have hm':W'.m[n]?=some p:=ylM l.pre hm
   by_cases hlt:i<xs.length
   .obtain ⟨k,hk⟩:∃ k,xs.length-i=k+1:=⟨xs.length-i-1,by omega⟩
    rw [hk] at f
    unfold yyE at f
    split at f
    .rename_i ys hy
     split at f
     .rename_i z hz
      obtain ⟨p',ev',hm2,hf',vs,hp',rs'⟩:=g'.ok.loc hy (v:=.ref p) ⟨p,rfl,hm'⟩
      cases ev'
      have hix:(if rev=true then xs.length-1-i else i)=(if rev=true then k else i):=by rw [show xs.length-1-i=k by omega]
      obtain ⟨vz,hv1,hv2⟩:=rs'.get hz
      obtain ⟨ρ1,k1,f⟩:=Option.bind_eq_some_iff.mp f
      obtain ⟨o1,h2,k2,f3⟩:=yn f
      refine .inr ⟨J1.go i W'.H vs vz hp' hlt (by rw [hix];exact hv1),fun σ2 H2=>i+1<=xs.length/\∃ W2 ρ2,W2.H=H2/\Lf K W1 W2/\Good K W0 W2 ρ2 σ2/\yyE n rev y s (xs.length-(i+1)) (i+1) ρ2 W2.h=some (o,h'),fun σ2 H2 ⟨n1,n2⟩=>⟨xs.length-(i+1),by omega,rfl,n1,n2⟩,fun v H2 hy=>?_⟩
      obtain ⟨rfl,hx⟩:=J1.yld i W'.H vs v H2 hp' hlt hy
      rw [hix,hv1] at hx
      cases hx
      have ek:xs.length-(i+1)=k:=by omega
      refine b W0 W' ρ' ρ1 σ _ vz _ g' hv2 k1 fun σ2 g2=>?_
      refine c W0 W' ρ1 σ2 _ o1 h2 g2 k2 ?_
      cases o1 with
      | nx ρ2=>exact fun W2 σ3 w2 l2 g3=>⟨hlt,W2,ρ2,rfl,l.trans l2,g3,by rw [w2,ek];exact f3⟩
      | ct ρ2=>exact fun W2 σ3 w2 l2 g3=>⟨hlt,W2,ρ2,rfl,l.trans l2,g3,by rw [w2,ek];exact f3⟩
      | bk ρ2=>cases f3;exact fun W2 σ3 w2 l2 g3=>q1 W2 σ3 w2 (l.trans l2) g3
      | rt x=>cases f3;exact q1
     .cases f
    .cases f
   .have ei:i=xs.length:=by omega
    subst ei
    rw [Nat.sub_self] at f
    unfold yyE at f
    split at f
    .rename_i ys hy
     obtain ⟨p',ev',hm2,hf',vs,hp',rs'⟩:=g'.ok.loc hy (v:=.ref p) ⟨p,rfl,hm'⟩
     cases ev'
     split at f
     .rename_i hyl
      cases f
      exact .inl ⟨J1.stop W'.H vs hp' (by rw [rs'.len,hyl]),q1 W' σ rfl l g'⟩
     .cases f
    .cases f
theorem yIZ {n m:Nat}{a:Addr}:ItX K n true m a (ItR K.K a m) where
 go:=fun i H vs v h hi e=>⟨hi,vs,v,SqL.of h,e⟩
 yld:=fun i H vs v H2 h _ e=>⟨e.1,e.2 vs (SqL.of h)⟩
 stop:=fun H vs h e=>rfl
theorem yBj {g:TG}{y:XG}(a:ydx K ta ea) (b:yAC K g y) (c:ylK K t s):ylK K (yIr (yJN K.K ta) g t) (yBi true ea y s):=by
 intro W0 W ρ σ D o h' gd e q
 obtain ⟨x,h1,e1,f1⟩:=yn e
 refine a W0 W ρ σ _ x h1 gd e1 fun v W1 w1 l1 r1=>?_
 subst w1
 split at f1
 .rename_i n
  split at f1
  .rename_i xs hn
   obtain ⟨p,ev,hm,hf,us,hp,rs⟩:=l1.ok.loc hn r1
   exact ⟨p,us,ev,SqL.of hp,yyF b c gd l1 q f1 hn hm rs yIZ⟩
  .cases f1
 .cases f1
end
end PX
namespace PX
open PySem L2
variable {K:Ck}
noncomputable def yJa (kvs more:List (Key×V)):List (Key×V):=more.foldl (fun acc kv=>putK acc kv.1 kv.2) kvs
noncomputable def yJO:V->List V->Hp->VK->Prop:=fun x vs H Q=>∃ d o kvs more,x=.ref d/\vs=[.ref o]/\d≠o/\H d=some (.dK kvs)/\H o=some (.dK more)/\kvs.length+more.length<=sizeLine/\Q .non (upd H d (.dK (yJa kvs more)))
noncomputable def yta:List Key->List PV->List Key->List PV->List Key×List PV
 | j::js,y::ys,ks,xs=>yta js ys (yep ks xs j y).1 (yep ks xs j y).2
 | _,_,ks,xs=>(ks,xs)
noncomputable def ywQ:PV->AH->Bool:=fun x h=>(ynh x h).isSome
theorem yBk {W:Wd}{x:PV}{v:V}(w:WOk K W) (r:yfa K W x v) (c:ywQ x W.h=true):tyV K.K "dict" v W.H:=by
 obtain ⟨⟨ks,xs⟩,hd⟩:=Option.isSome_iff_exists.mp c
 exact yCH w hd r
theorem yyG {F:Hp}{m:List Addr}:∀ {js:List Key}{ys:List PV}{us:List V}{ks:List Key}{xs:List PV}{vs:List V},RepL K F m ys us->us.length=js.length->RepL K F m xs vs->vs.length=ks.length ->
  ∃ ws,yJa (ks.zip vs) (js.zip us)=(yta js ys ks xs).1.zip ws/\ws.length=(yta js ys ks xs).1.length/\RepL K F m (yta js ys ks xs).2 ws
 | [],ys,us,ks,xs,vs,r,hl,r2,hl2=>by
  obtain rfl:us=[]:=List.length_eq_zero_iff.mp (by simpa using hl)
  cases ys with
  | cons y ys=>obtain ⟨v,r',e,_⟩:=r;cases e
  | nil=>exact ⟨vs,rfl,hl2,r2⟩
 | j::js,[],us,ks,xs,vs,r,hl,r2,hl2=>by
  obtain rfl:us=[]:=r
  cases hl
 | j::js,y::ys,_,ks,xs,vs,⟨u,us,e,ru,rr⟩,hl,r2,hl2=>by
  subst e
  have key:∃ ws,putK (ks.zip vs) j u=(yep ks xs j y).1.zip ws/\ws.length=(yep ks xs j y).1.length/\RepL K F m (yep ks xs j y).2 ws:=by
   have hput:=yvM j u ks vs hl2
   unfold yep
   by_cases hj:ypR ks j=true
   .rw [if_pos hj] at hput ⊢
    exact ⟨_,hput,by rw [yqE];exact hl2,r2.setK ks j ru⟩
   .rw [if_neg hj] at hput ⊢
    exact ⟨_,hput,by rw [List.length_append,List.length_append,hl2];rfl,r2.snoc ru⟩
  obtain ⟨ws,p1,p2,p3⟩:=key
  have ih:=yyG (js:=js) rr (by simpa using hl) p3 p2
  show ∃ ws,yJa (putK (ks.zip vs) j u) (js.zip us)=_/\_
  rw [p1]
  exact ih
noncomputable def yFw:PM:=fun x ys h=>match x,ys with|.loc n,[.loc k]=>(match h[n]?,h[k]? with|some (.dct ks xs),some (.dct js zs)=>if n≠k/\ks.length+js.length<1000 then some (.non,h.set n (.dct (yta js zs ks xs).1 (yta js zs ks xs).2)) else none|_,_=>none)|_,_=>none
theorem yJb:ysk K "dict" ywQ yJO yFw:=by
 refine ⟨fun W x v w r c=>yBk w r c,fun W x v xs vs Q z h' w rx r e q=>?_⟩
 unfold yFw at e
 split at e
 .rename_i n k
  split at e
  .rename_i ks xs js zs hn hk
   split at e
   .rename_i hc
    cases e
    obtain ⟨u,rfl,ru⟩:=ywG r
    obtain ⟨a,ev,hm,hf,us,hp,hl,rs⟩:=w.loc hn rx
    obtain ⟨b,ev2,hm2,hf2,us2,hp2,hl2,rs2⟩:=w.loc hk ru
    have hne:a≠b:=fun z=>by
     subst z
     obtain ⟨l1,q1⟩:=List.getElem?_eq_some_iff.mp hm
     obtain ⟨l2,q2⟩:=List.getElem?_eq_some_iff.mp hm2
     exact hc.1 (yvK w.nd l1 l2 (q1.trans q2.symm))
    obtain ⟨ws,p1,p2,p3⟩:=yyG rs2 hl2 rs hl
    refine ⟨a,b,_,_,ev,by rw [ev2],hne,hp,hp2,by rw [List.length_zip,List.length_zip];exact small (by omega),?_⟩
    rw [p1]
    exact q .non (yEo W n a (.dK ((yta js zs ks xs).1.zip ws)) (.dct (yta js zs ks xs).1 (yta js zs ks xs).2)) rfl (ylS w hn hm hf ⟨hf,_,yS,p2,p3⟩) rfl
   .cases e
  .cases e
 .cases e
end PX
namespace PX
open PySem L2
variable {K:Ck}
end PX
namespace PX
open PySem L2
variable {K:Ck}
noncomputable def rSK:List V->Hp->VK->Prop:=fun xs H Q=>∃ (d:Addr) (kvs:List (Key×V)) (ns:List Int),xs=[.ref d]/\H d=some (.dK kvs)/\kvs.map (·.1)=ns.map .inl/\kvs.length<64 /\
 ∀ (p:Addr) (ms:List Int),ms.Perm ns->ms.Pairwise (· <= ·)->H p=none->Q (.ref p) (upd H p (.lst (ms.map V.int)))
noncomputable def insI (a:Int):List Int->List Int
 | []=>[a]
 | b::r=>if a<=b then a::b::r else b::insI a r
noncomputable def yof:List Int->List Int
 | []=>[]
 | a::r=>insI a (yof r)
theorem insI_perm (p:Int):∀ l,(insI p l).Perm (p::l)
 | []=>.refl _
 | q::r=>by
  unfold insI
  split
  .exact .refl _
  .exact ((insI_perm p r).cons q).trans (.swap _ _ _)
theorem ylU:∀ l,(yof l).Perm l
 | []=>.refl _
 | p::r=>(insI_perm p _).trans ((ylU r).cons p)
theorem yyH {p:Int}:∀ {l:List Int},l.Pairwise (· <= ·)->(insI p l).Pairwise (· <= ·)
 | [],_=>List.pairwise_singleton _ _
 | q::r,h=>by
  obtain ⟨h1,h2⟩:=List.pairwise_cons.mp h
  unfold insI
  split
  .rename_i hc
   exact List.pairwise_cons.mpr ⟨fun b hb=>by
    rcases List.mem_cons.mp hb with rfl|hb
    .exact hc
    .exact Int.le_trans hc (h1 b hb),h⟩
  .rename_i hc
   refine List.pairwise_cons.mpr ⟨fun b hb=>?_,yyH h2⟩
   rcases List.mem_cons.mp ((insI_perm p r).mem_iff.mp hb) with rfl|hb
   .omega
   .exact h1 b hb
theorem yvR:∀ l,(yof l).Pairwise (· <= ·)
 | []=>.nil
 | _::r=>yyH (yvR r)
theorem yvS {ms ns:List Int}(hp:ms.Perm ns) (hs:ms.Pairwise (· <= ·)):ms=yof ns :=
 List.Perm.eq_of_pairwise (le:=(· <= ·)) (fun a b _ _ h1 h2=>Int.le_antisymm h1 h2) hs (yvR _) (hp.trans (ylU _).symm)
noncomputable def ypV:List PV->AH->Option (Nd×AH):=fun xs h=>match xs with
 | [x]=>(match ynh x h with|some (ks,_)=>(match ywP ks with|some ns=>if ns.length<64 then some (.lst ((yof ns).map .int),h) else none|none=>none)|none=>none)
 | _=>none
theorem yEx:ysj K rSK ypV:=by
 intro W xs vs Q d h' w r e q
 unfold ypV at e
 split at e
 .rename_i x
  obtain ⟨u,rfl,ru⟩:=ywG r
  split at e
  .rename_i ks ys hd
   split at e
   .rename_i ns hk
    split at e
    .rename_i h64
     cases e
     obtain ⟨a,us,ev,hp,hl,rs⟩:=ykN w hd ru
     subst ev
     have hk:=yqJ hk
     refine ⟨a,ks.zip us,ns,rfl,hp,by rw [List.map_fst_zip (by omega),hk],by rw [List.length_zip,hk,List.length_map];omega,fun p ms h1 h2 hn=>?_⟩
     rw [yvS h1 h2]
     have l:=ygr (o:=.lst ((yof ns).map V.int)) w hn
     exact q p (ypg W p _) rfl l (w.out hn) hn (fun z=>by cases z) ⟨w.ff hn,_,yS,RepL.of_ints _⟩
    .cases e
   .cases e
  .cases e
 .cases e
end PX
namespace PX
open PySem L2
variable {K:Ck}
section
variable {ta:TE}{ea:XE}{t:TS}{s:XS}
end
end PX
namespace PX
open PySem L2
variable {K:Ck}
noncomputable def spJ (K:Ck) (n k:Nat) (f:List PV->AH->Option (Nd×AH)):Sp:=fun vs H Q _=>∃ (W0 W:Wd) (x:Addr) (args:List V) (xs:List PV) (d:Nd) (h':AH),vs=.ref x::args/\W.H=H/\Le K W0 W/\W0.H x=none/\x∉W.m/\NdAt K W.F W.H W.m (.ins k [] []) x /\
 yfw K W xs args/\xs.length=n/\f xs W.h=some (d,h')/\∀ W',W'.h=h'->Lf K W W'->Le K W0 W'->x∉W'.m->d≠.dead->NdAt K W'.F W'.H W'.m d x->Q .non W'.H
theorem yEy {n k:Nat}{f} {vs:List V}{H:Hp}{Q:VK}{E:XK}(h:spJ K n k f vs H Q E):vs.length=n+1:=by
 obtain ⟨W0,W,x,args,xs,d,h',rfl,_,_,_,_,_,r,hn,_⟩:=h
 rw [List.length_cons,r.len,hn]
theorem yyI {N:List Str}{n k:Nat}{t:TS}{s:XS}{vs:List V}{H:Hp}{Q:VK}{E:XK}{bk ct:St->Hp->Prop}(hN:n+1<=N.length) (a:yzR K t s) (h:spJ K n k (yuC N.length k s) vs H Q E):t ⟨fun _ H'=>Q .non H',Q,bk,ct⟩ (L2.start N vs) H:=by
 obtain ⟨W0,W,x,args,xs,d,h',rfl,rfl,le,hx,hm,at_,r,hn,e,q⟩:=h
 obtain ⟨o,h1,e1,f1⟩:=yn e
 have gs:=ylP (K:=K) (N:=N.drop 1) le.ok r
 have g:Good K W0 W (.own (.ins k [] [])::(xs.map .val++List.replicate (N.length-(xs.length+1)) .no)) (L2.start N (.ref x::args)):=by
  have es:L2.start N (.ref x::args)=some (.ref x)::L2.start (N.drop 1) args:=by
   have e3:N.length-(args.length+1)=(N.drop 1).length-args.length:=by rw [List.length_drop];omega
   unfold L2.start
   rw [List.map_cons,List.cons_append,List.length_cons,e3]
  have eN:N.length-(xs.length+1)=(N.drop 1).length-xs.length:=by rw [List.length_drop];omega
  rw [es,eN]
  have noown:∀ (j:Nat) (d:Nd),(xs.map PVar.val++List.replicate ((N.drop 1).length-xs.length) .no)[j]?≠some (.own d):=fun j d z=>by
   by_cases hj:j<xs.length
   .rw [List.getElem?_append_left (by simpa using hj),List.getElem?_map,List.getElem?_eq_getElem hj] at z
    cases z
   .rw [List.getElem?_append_right (by simp;omega),List.getElem?_replicate] at z
    split at z<;>cases z
  refine ⟨le,by rw [List.length_cons,List.length_cons,gs.len],fun j y z=>?_,fun j d z=>?_,fun i j d d' hij z z'=>?_⟩
  .cases j with
   | zero=>cases z
   | succ j=>exact gs.val j y z
  .cases j with
   | zero=>cases z;exact ⟨x,rfl,hm,hx,(fun z=>by cases z),at_⟩
   | succ j=>exact absurd z (noown j d)
  .cases i with
   | zero =>
    cases j with
    | zero=>exact absurd rfl hij
    | succ j=>exact absurd z' (noown j d')
   | succ i=>exact absurd z (noown i d)
 cases o with
 | rt y=>cases f1
 | bk ρ=>cases f1
 | ct ρ=>cases f1
 | nx ρ =>
  refine a W0 W _ ρ _ _ h1 g e1 fun W' ew lf g'=>?_
  dsimp only at f1
  split at f1
  .rename_i d' hd'
   cases f1
   obtain ⟨p,b1,b2,b3,b4,b5⟩:=g'.own 0 _ hd'
   have b1:some (some (V.ref x))=some (some (V.ref p)):=b1
   cases b1
   exact q W' ew lf g'.le b2 b4 b5
  .cases f1
noncomputable def yCI:PVar->Bool|.own _=>false|_=>true
noncomputable def xBI (k:Nat) (f:List PV->AH->Option (Nd×AH)) (a:XA):XS:=fun ρ h=>match ρ with
 | .own (.ins k' [] [])::r=>if k'=k/\r.all yCI=true then ob (a ρ h) fun xs h1=>ob (f xs h1) fun d h2=>(match d with|.dead=>none|d=>some (.nx (.own d::r),h2)) else none
 | _=>none
theorem yEz {n k:Nat}{f} {E:XK}{t:TA}{aa:XA}(a:ytY K t aa) (hn:∀ ρ h xs h',aa ρ h=some (xs,h')->xs.length=n):yzR K (yAa (yAh (spJ K n k f) [] E (yxF (yBV 0) t))) (xBI k f aa):=by
 intro W0 W ρ ρ' σ D h' g e q
 unfold xBI at e
 split at e
 .rename_i k' r
  split at e
  .rename_i c
   obtain ⟨rfl,hr⟩:=c
   obtain ⟨xs,h1,e1,f1⟩:=yn e
   obtain ⟨d,h2,e2,f2⟩:=yn f1
   have nodead:d≠.dead:=fun z=>by subst z;cases f2
   have f2:some (Out.nx (.own d::r),h2)=some (.nx ρ',h'):=by
    cases d<;>first|exact f2|cases f2
   cases f2
   obtain ⟨p,b1,b2,b3,b4,b5⟩:=g.own 0 _ rfl
   refine ⟨.ref p,b1,?_⟩
   refine a W0 W _ σ _ xs h1 g e1 fun vs W1 w1 l1 r1=>?_
   subst w1
   have g1:=g.step l1
   obtain ⟨p',c1,c2,c3,c4,c5⟩:=g1.own 0 _ rfl
   rw [b1] at c1
   cases c1
   rw [List.append_nil]
   refine ⟨W0,W1,p,vs,xs,d,h',rfl,rfl,g1.le,c3,c2,c5,r1,hn _ _ _ _ e1,e2,fun W2 w2 lf le hm hd at_=>?_⟩
   refine q W2 w2 (l1.lf.trans lf) ⟨le,g1.len,fun j y z=>?_,fun j d' z=>?_,fun i j d1 d2 hij z1 z2=>?_⟩
   .cases j with
    | zero=>cases z
    | succ j =>
     obtain ⟨v,z1,z2⟩:=g1.val (j+1) y z
     exact ⟨v,z1,lf.rep z2⟩
   .cases j with
    | zero=>cases z;exact ⟨p,b1,hm,c3,hd,at_⟩
    | succ j =>
     have z:r[j]?=some (.own d'):=z
     have:=List.all_eq_true.mp hr _ (List.mem_of_getElem? z)
     cases this
   .cases i with
    | zero =>
     cases j with
     | zero=>exact absurd rfl hij
     | succ j =>
      have z:r[j]?=some (.own d2):=z2
      have:=List.all_eq_true.mp hr _ (List.mem_of_getElem? z)
      cases this
    | succ i =>
     have z:r[i]?=some (.own d1):=z1
     have:=List.all_eq_true.mp hr _ (List.mem_of_getElem? z)
     cases this
  .cases e
 .cases e
theorem yKi {k:Nat}{f} {a:XA}{r:PSt}{h:AH}(hr:r.all yCI=true):xBI k f a (.own (.ins k [] [])::r) h=ob (a (.own (.ins k [] [])::r) h) fun xs h1=>ob (f xs h1) fun d h2=>(match d with|.dead=>none|d=>some (.nx (.own d::r),h2)):=by
 unfold xBI
 dsimp only
 rw [if_pos ⟨rfl,hr⟩]
theorem yBl {a:Addr}{ss:List Str}(h:KTp K.K a (ss.map V.str)):ydx K (tC (.ref a)) (xC (.tup (ss.map PV.str))):=by
 intro W0 W ρ σ Q x h' g e q
 cases e
 refine q _ W rfl (.refl g.ok) ⟨a,_,rfl,.inr h,?_⟩
 clear h q
 induction ss with
 | nil=>exact rfl
 | cons s ss ih=>exact ⟨_,_,rfl,rfl,ih⟩
end PX
namespace PX
open PySem L2
variable {K:Ck}
noncomputable def yyJ:List V->Hp->VK->Prop:=fun xs H Q=>∃ a kvs,xs=[.ref a]/\H a=some (.dK kvs)/\∀ l,H l=none->Q (.ref l) (upd H l (.dK kvs))
noncomputable def ykl:List PV->AH->Option (Nd×AH):=fun xs h=>match xs with
 | [x]=>(match ynh x h with|some (ks,ys)=>some (.dct ks ys,h)|none=>none)
 | _=>none
theorem yvT:ysj K yyJ ykl:=by
 intro W xs vs Q d h' w r e q
 unfold ykl at e
 split at e
 .rename_i x
  obtain ⟨u,rfl,ru⟩:=ywG r
  split at e
  .rename_i ks ys hd
   cases e
   obtain ⟨a,us,ev,hp,hl,rs⟩:=ykN w hd ru
   subst ev
   refine ⟨a,ks.zip us,rfl,hp,fun p hn=>?_⟩
   have l:=ygr (o:=.dK (ks.zip us)) w hn
   exact q p (ypg W p _) rfl l (w.out hn) hn (fun z=>by cases z) ⟨w.ff hn,us,yS,hl,rs⟩
  .cases e
 .cases e
theorem yBm {h:AH}{n:Nat}{ks:List Key}{ys:List PV}(e:h[n]?=some (.dct ks ys)):ykl [.loc n] h=some (.dct ks ys,h):=by
 unfold ykl ynh
 simp only [e]
end PX
namespace PX
open PySem L2 PySem.Spec PyProof.Rows
section
variable (K:Ck)
noncomputable def cE (x:XE):TE:=fun σ H Q=>∃ (W0 W:Wd) (ρ:PSt) (y:PV) (h':AH),W.H=H/\Good K W0 W ρ σ/\x ρ W.h=some (y,h')/\∀ v W',W'.h=h'->Le K W W'->yfa K W' y v->Q v W'.H
noncomputable def cO (x:XO):TE:=fun σ H Q=>∃ (W0 W:Wd) (ρ:PSt) (d:Nd) (h':AH),W.H=H/\Good K W0 W ρ σ/\x ρ W.h=some (d,h')/\∀ p W',W'.h=h'->Le K W W'->p∉W'.m->W.H p=none->d≠.dead->NdAt K W'.F W'.H W'.m d p->Q (.ref p) W'.H
noncomputable def cT (x:XT):TT:=fun σ H Q=>∃ (W0 W:Wd) (ρ:PSt) (y:Bool) (h':AH),W.H=H/\Good K W0 W ρ σ/\x ρ W.h=some (y,h')/\∀ W',W'.h=h'->Le K W W'->Q y W'.H
noncomputable def cA (x:XA):TA:=fun σ H Q=>∃ (W0 W:Wd) (ρ:PSt) (y:List PV) (h':AH),W.H=H/\Good K W0 W ρ σ/\x ρ W.h=some (y,h')/\∀ v W',W'.h=h'->Le K W W'->yfw K W' y v->Q v W'.H
noncomputable def cP (x:PSt->AH->Option (Option Int×AH)):TO:=fun σ H Q=>∃ (W0 W:Wd) (ρ:PSt) (y:Option Int) (h':AH),W.H=H/\Good K W0 W ρ σ/\x ρ W.h=some (y,h')/\∀ W',W'.h=h'->Le K W W'->Q y W'.H
noncomputable def cI (x:XA):TI:=fun σ H R=>∃ (W0 W:Wd) (ρ:PSt) (y:List PV) (h':AH),W.H=H/\Good K W0 W ρ σ/\x ρ W.h=some (y,h')/\∀ J W',W'.h=h'->Le K W W'->yId K W' J y->R J W'.H
noncomputable def cG (y:XG):TG:=fun v σ H Q=>∃ (W0 W:Wd) (ρ ρ':PSt) (x:PV),W.H=H/\Good K W0 W ρ σ/\yfa K W x v/\y x ρ=some ρ'/\∀ σ',Good K W0 W ρ' σ'->Q σ' W.H
noncomputable def cGs (y:XGs):TGs:=fun v σ H Q=>∃ (W0 W:Wd) (ρ ρ':PSt) (x:List PV),W.H=H/\Good K W0 W ρ σ/\yfw K W x v/\y x ρ=some ρ'/\∀ σ',Good K W0 W ρ' σ'->Q σ' W.H
noncomputable def cS (s:XS):TS:=fun D σ H=>∃ (W0 W:Wd) (ρ:PSt) (o:Out) (h':AH),W.H=H/\Good K W0 W ρ σ/\s ρ W.h=some (o,h')/\Ends.Ok K W0 W D h' o
noncomputable def cF (s:XS):TS:=fun D σ H=>∃ (W0 W:Wd) (ρ ρ':PSt) (h':AH),W.H=H/\Good K W0 W ρ σ/\s ρ W.h=some (.nx ρ',h')/\∀ W',W'.h=h'->Lf K W W'->Good K W0 W' ρ' σ->D.nx σ W'.H
end
section
variable {K:Ck}
theorem sE {x:XE}:ydx K (cE K x) x:=fun W0 W ρ σ Q y h' g e q=>⟨W0,W,ρ,y,h',rfl,g,e,q⟩
theorem sO {x:XO}:yvC K (cO K x) x:=fun W0 W ρ σ Q y h' g e q=>⟨W0,W,ρ,y,h',rfl,g,e,q⟩
theorem sT {x:XT}:ytX K (cT K x) x:=fun W0 W ρ σ Q y h' g e q=>⟨W0,W,ρ,y,h',rfl,g,e,q⟩
theorem sA {x:XA}:ytY K (cA K x) x:=fun W0 W ρ σ Q y h' g e q=>⟨W0,W,ρ,y,h',rfl,g,e,q⟩
theorem sP {x}:yCo K (cP K x) x:=fun W0 W ρ σ Q y h' g e q=>⟨W0,W,ρ,y,h',rfl,g,e,q⟩
theorem sI {x:XA}:yEa K (cI K x) x:=fun W0 W ρ σ Q y h' g e q=>⟨W0,W,ρ,y,h',rfl,g,e,q⟩
theorem sG {y:XG}:yAC K (cG K y) y:=fun W0 W ρ ρ' σ x v Q g r e q=>⟨W0,W,ρ,ρ',x,rfl,g,r,e,q⟩
theorem sGs {y:XGs}:ywD K (cGs K y) y:=fun W0 W ρ ρ' σ x v Q g r e q=>⟨W0,W,ρ,ρ',x,rfl,g,r,e,q⟩
theorem sS {s:XS}:ylK K (cS K s) s:=fun W0 W ρ σ D o h' g e q=>⟨W0,W,ρ,o,h',rfl,g,e,q⟩
theorem sF {s:XS}:yzR K (cF K s) s:=fun W0 W ρ ρ' σ D h' g e q=>⟨W0,W,ρ,ρ',h',rfl,g,e,q⟩
end
noncomputable abbrev ckX (X:Cx) (A:Nat->Addr):Ck:=⟨X.K,A⟩
structure ZE (X:Cx) (A:Nat->Addr) (e:Expr) (x:XE):Prop where of:PE X e (cE (ckX X A) x)
structure ZO (X:Cx) (A:Nat->Addr) (e:Expr) (x:XO):Prop where of:PE X e (cO (ckX X A) x)
structure ZT (X:Cx) (A:Nat->Addr) (e:Expr) (x:XT):Prop where of:PT X e (cT (ckX X A) x)
structure ZW (X:Cx) (A:Nat->Addr) (e:Expr) (x:XT):Prop where of:PW X e (cT (ckX X A) x)
structure ZA (X:Cx) (A:Nat->Addr) (e:List Expr) (n:Nat) (x:XA):Prop where
 of:PA X e (cA (ckX X A) x)
 len:∀ ρ h xs h',x ρ h=some (xs,h')->xs.length=n
structure ZP (X:Cx) (A:Nat->Addr) (e:Option Expr) (x:PSt->AH->Option (Option Int×AH)):Prop where of:PO X e (cP (ckX X A) x)
structure ZI (X:Cx) (A:Nat->Addr) (tg e:Expr) (x:XA):Prop where of:PI X tg e (cI (ckX X A) x)
structure ZG (X:Cx) (A:Nat->Addr) (e:Expr) (y:XG):Prop where of:PG X e (cG (ckX X A) y)
structure ZGs (X:Cx) (A:Nat->Addr) (e:List Expr) (y:XGs):Prop where of:PGs X e (cGs (ckX X A) y)
structure ZS (X:Cx) (A:Nat->Addr) (e:Stmt) (s:XS):Prop where of:PS X e (cS (ckX X A) s)
structure ZSs (X:Cx) (A:Nat->Addr) (e:List Stmt) (s:XS):Prop where of:PSs X e (cS (ckX X A) s)
structure ZF (X:Cx) (A:Nat->Addr) (e:Stmt) (s:XS):Prop where of:PS X e (cF (ckX X A) s)
structure ZFs (X:Cx) (A:Nat->Addr) (e:List Stmt) (s:XS):Prop where of:PSs X e (cF (ckX X A) s)
section
variable {X:Cx}{A:Nat->Addr}{e:Expr}{es:List Expr}
theorem wE {t:TE}{x:XE}(p:PE X e t) (s:ydx (ckX X A) t x):ZE X A e x:=⟨fun pins st σ H Q I ⟨W0,W,ρ,y,h',eh,g,ex,q⟩=>by subst eh;exact p pins st σ _ Q I (s W0 W ρ σ Q y h' g ex q)⟩
theorem wO {t:TE}{x:XO}(p:PE X e t) (s:yvC (ckX X A) t x):ZO X A e x:=⟨fun pins st σ H Q I ⟨W0,W,ρ,y,h',eh,g,ex,q⟩=>by subst eh;exact p pins st σ _ Q I (s W0 W ρ σ Q y h' g ex q)⟩
theorem wT {t:TT}{x:XT}(p:PT X e t) (s:ytX (ckX X A) t x):ZT X A e x:=⟨fun pins st σ H Q I ⟨W0,W,ρ,y,h',eh,g,ex,q⟩=>by subst eh;exact p pins st σ _ Q I (s W0 W ρ σ Q y h' g ex q)⟩
theorem wW {t:TT}{x:XT}(p:PW X e t) (s:ytX (ckX X A) t x):ZW X A e x:=⟨fun wh pins st σ H Q I ⟨W0,W,ρ,y,h',eh,g,ex,q⟩=>by subst eh;exact p wh pins st σ _ Q I (s W0 W ρ σ Q y h' g ex q)⟩
theorem wA {t:TA}{x:XA}{n:Nat}(p:PA X es t) (s:ytY (ckX X A) t x) (l:∀ ρ h xs h',x ρ h=some (xs,h')->xs.length=n):ZA X A es n x:=⟨fun pos pins st σ H Q I ⟨W0,W,ρ,y,h',eh,g,ex,q⟩=>by subst eh;exact p pos pins st σ _ Q I (s W0 W ρ σ Q y h' g ex q),l⟩
theorem wP {o:Option Expr}{t:TO}{x} (p:PO X o t) (s:yCo (ckX X A) t x):ZP X A o x:=⟨fun pins st σ H Q I ⟨W0,W,ρ,y,h',eh,g,ex,q⟩=>by subst eh;exact p pins st σ _ Q I (s W0 W ρ σ Q y h' g ex q)⟩
theorem wI {tg:Expr}{t:TI}{x:XA}(p:PI X tg e t) (s:yEa (ckX X A) t x):ZI X A tg e x:=⟨fun pins st σ H Q I ⟨W0,W,ρ,y,h',eh,g,ex,q⟩=>by subst eh;exact p pins st σ _ Q I (s W0 W ρ σ Q y h' g ex q)⟩
theorem wG {t:TG}{y:XG}(p:PG X e t) (s:yAC (ckX X A) t y):ZG X A e y:=⟨fun pins st σ H v u Q I rv ⟨W0,W,ρ,ρ',x,eh,g,r,ex,q⟩=>by subst eh;exact p pins st σ _ v u Q I rv (s W0 W ρ ρ' σ x v Q g r ex q)⟩
theorem wGs {t:TGs}{y:XGs}(p:PGs X es t) (s:ywD (ckX X A) t y):ZGs X A es y:=⟨fun pins st σ H v u Q I rv ⟨W0,W,ρ,ρ',x,eh,g,r,ex,q⟩=>by subst eh;exact p pins st σ _ v u Q I rv (s W0 W ρ ρ' σ x v Q g r ex q)⟩
theorem wS {st:Stmt}{t:TS}{x:XS}(p:PS X st t) (s:ylK (ckX X A) t x):ZS X A st x:=⟨fun pins st σ H D I ⟨W0,W,ρ,o,h',eh,g,ex,q⟩=>by subst eh;exact p pins st σ _ D I (s W0 W ρ σ D o h' g ex q)⟩
theorem wSs {st:List Stmt}{t:TS}{x:XS}(p:PSs X st t) (s:ylK (ckX X A) t x):ZSs X A st x:=⟨fun pins st σ H D I ⟨W0,W,ρ,o,h',eh,g,ex,q⟩=>by subst eh;exact p pins st σ _ D I (s W0 W ρ σ D o h' g ex q)⟩
theorem wF {st:Stmt}{t:TS}{x:XS}(p:PS X st t) (s:yzR (ckX X A) t x):ZF X A st x:=⟨fun pins st σ H D I ⟨W0,W,ρ,ρ',h',eh,g,ex,q⟩=>by subst eh;exact p pins st σ _ D I (s W0 W ρ ρ' σ D h' g ex q)⟩
theorem wFs {st:List Stmt}{t:TS}{x:XS}(p:PSs X st t) (s:yzR (ckX X A) t x):ZFs X A st x:=⟨fun pins st σ H D I ⟨W0,W,ρ,ρ',h',eh,g,ex,q⟩=>by subst eh;exact p pins st σ _ D I (s W0 W ρ ρ' σ D h' g ex q)⟩
end
structure Nm (x:Str):Prop where
 d:(x == ("__debug__":Str))=false
 c:(x == ("__classdict__":Str))=false
 n:x≠"__name__"
section
variable {X:Cx}{A:Nat->Addr}{a b c o:Expr}{es:List Expr}{xa xb xc:XE}{xo:XO}{aa:XA}{pos p apos:Pos}{x:Str}{n k:Nat}
theorem yuL {j}:ZE X A (.Constant .none j pos) (xC .non):=wE yFE yDI
theorem yEA {b j}:ZE X A (.Constant (.bool b) j pos) (xC (.bl b)):=wE yIl yGk
theorem z_int {i j}:ZE X A (.Constant (.int i) j pos) (xC (.int i)):=wE yFD yxR
theorem z_str {x j}:ZE X A (.Constant (.str x) j pos) (xC (.str x)):=wE yFF yxS
theorem yb {i:Nat}(m:Nm x) (hN:X.N[i]?=some x) (hv:Vis X.env.scope x):ZE X A (.Name x pos) (yh i):=wE (ybT hN hv m.d m.c) (yDH i)
theorem yyK {n:Int}{t:Tok}(m:Nm x) (hg:Gl X x) (hm:X.mg x=some (.int n t)):ZE X A (.Name x pos) (xC (.int n)):=wE (yDD hg hm m.d) yxR
theorem yGM {n:Str}{t:Tok}(m:Nm x) (hg:Gl X x) (hm:X.mg x=some (.str n t)):ZE X A (.Name x pos) (xC (.str n)):=wE (yDE hg hm m.d) yxS
theorem ykP {k:Nat}(m:Nm x) (hg:Gl X x) (hm:X.mg x=some (.ref (A k))):ZE X A (.Name x pos) (xC (.cls k)):=wE (yul hg hm m.d) (yDJ (K:=ckX X A))
theorem ytb {n:String}(m:Nm x) (hg:Gl X x) (hm:X.mg x=none) (hv:bootBuiltins x=some (.type n)):ZE X A (.Name x pos) (xC (.ty n)):=wE (yGj hg hm hv m.n m.d) yGl
theorem yhT (h:ZO X A a xo):ZE X A a (xFz xo):=wE h.of (yGq sO)
theorem yic (h:ZO X A a xo):ZE X A a (ymp xo):=wE h.of (yxU sO)
theorem ycr {op:Operator}{r:R2}{q:P2}(ho:OpR X (binaryOp op) r) (hq:ygF (ckX X A) r q) (ha:ZE X A a xa) (hb:ZE X A b xb):ZE X A (.BinOp a op b pos) (xOp q xa xb):=wE (yFW ho ha.of hb.of) (yvD hq sE sE)
theorem yyL {op:Operator}{r:R2}{q:P2O}(ho:OpR X (binaryOp op) r) (hq:yxQ (ckX X A) r q) (ha:ZE X A a xa) (hb:ZE X A b xb):ZO X A (.BinOp a op b pos) (yCk q xa xb):=wO (yFW ho ha.of hb.of) (yDK hq sE sE)
theorem yJP {op:UnaryOp}{r} {q} (ho:UnR X (unaryOp op) r) (hq:yDG (ckX X A) r q) (ha:ZE X A a xa):ZE X A (.UnaryOp op a pos) (xUn q xa):=wE (yIt ho ha.of) (yGm hq sE)
theorem yJc (ha:ZE X A a xa):ZE X A (.UnaryOp .Not a pos) (yAp xa):=wE (yFO ha.of) (yAr sE)
theorem ywR {op:CmpOp}{r:R2}{q:P2}(ho:OpR X (compareOp op) r) (hq:ygF (ckX X A) r q) (ha:ZE X A a xa) (hb:ZE X A b xb) (hm:behindInMarks op b=false):ZE X A (.Compare a [op] [b] pos) (xOp q xa xb):=wE (yDk ho ha.of hb.of hm) (yvD hq sE sE)
theorem yGN {op} (h:ZE X A a xa):ZE X A (.BoolOp op [a] pos) xa:=⟨yFM h.of⟩
theorem yEB (ha:ZE X A a xa) (hb:ZE X A (.BoolOp .And (b::es) pos) xb):ZE X A (.BoolOp .And (a::b::es) pos) (ywy xa xb):=wE (yFN ha.of hb.of) (yAq sE sE)
section
variable {ca cb:XT}
theorem yGO (hc:ZT X A c ca) (ha:ZE X A a xa) (hb:ZE X A b xb):ZE X A (.IfExp c a b pos) (xIf ca xa xb):=wE (yzZ hc.of ha.of hb.of) (yGp sT sE sE)
theorem ybc {op:CmpOp}{r:R2}{q:P2}(ho:OpR X (compareOp op) r) (hq:ygF (ckX X A) r q) (ha:ZE X A a xa) (hb:ZE X A b xb) (hm:behindInMarks op b=false):ZT X A (.Compare a [op] [b] pos) (yU (xOp q xa xb)):=wT (yDl ho ha.of hb.of hm) (ynB (yvD hq sE sE))
theorem yvU (ha:ZT X A a ca):ZT X A (.UnaryOp .Not a pos) (yDF ca):=wT (yFJ ha.of) (yDM sT)
theorem ygb (h:ZE X A a xa) (he:∀ whole,isTrue a X.env whole=(do let v <- whole;standAt a.pos;holding [v] (truthy v))):ZT X A a (yU xa):=wT (yFG h.of he) (yGn sE)
theorem yJQ (h:ZW X A a ca):ZT X A a ca:=⟨PW.pt h.of⟩
theorem yGP (ha:ZT X A a ca) (hb:ZW X A (.BoolOp .And (b::es) pos) cb):ZW X A (.BoolOp .And (a::b::es) pos) (yIR ca cb):=wW (yFI ha.of hb.of) (yDL sT sT)
theorem yJd (ha:ZT X A a ca) (hb:ZW X A (.BoolOp .Or (b::es) pos) cb):ZW X A (.BoolOp .Or (a::b::es) pos) (xOr ca cb):=wW (yIn ha.of hb.of) (yGo sT sT)
theorem yEC (ha:ZT X A a ca):ZW X A (.BoolOp .And [a] pos) ca:=⟨yDe ha.of⟩
theorem yGQ (ha:ZT X A a ca):ZW X A (.BoolOp .Or [a] pos) ca:=⟨yFH ha.of⟩
end
theorem yf:ZA X A [] 0 yu:=wA yrH ynU yux
theorem ya (ha:ZE X A a xa) (hr:ZA X A es n aa) (hs:starEach (a::es) X.env=(false,eval a X.env)::starEach es X.env):ZA X A (a::es) (n+1) (yd xa aa):=wA (ylL ha.of hr.of hs) (yvE sE sA) (yAu hr.len)
theorem ygR (h:ZA X A es n aa):ZO X A (.List es pos) (ymo aa):=wO (yGb h.of) (yDP sA)
theorem ygc {q} (h:ZA X A es n aa):ZE X A (.Tuple es q pos) (ykg aa):=wE (yGa h.of) (yDO sA)
theorem yGR:ZP X A none ynT:=wP yDv ywB
theorem yhU (h:ZE X A a xa):ZP X A (some a) (ylN xa):=wP (yDw h.of) (yAv sE)
section
variable {lo hi:Option Expr}{xl xh:PSt->AH->Option (Option Int×AH)}{p2:Pos}
theorem yKj {r} {q} (hr:SlR X r) (hq:yDR (ckX X A) r q) (ha:ZE X A a xa) (hl:ZP X A lo xl) (hh:ZP X A hi xh):ZE X A (.Subscript a (.Slice lo hi none p2) pos) (xSl q xa xl xh):=wE (yvy hr ha.of hl.of hh.of) (yGr hq sE sP sP)
theorem yyM {r} {q} (hr:SlR X r) (hq:yxW (ckX X A) r q) (ha:ZE X A a xa) (hl:ZP X A lo xl) (hh:ZP X A hi xh):ZO X A (.Subscript a (.Slice lo hi none p2) pos) (yCl q xa xl xh):=wO (yvy hr ha.of hl.of hh.of) (yDS hq sE sP sP)
end
theorem ydG {r:R2}{q:P2}(hr:IxR X r) (hq:ygF (ckX X A) r q) (ha:ZE X A a xa) (hb:ZE X A b xb) (hs:yxJ b):ZE X A (.Subscript a b pos) (xOp q xa xb):=wE (yIx hr ha.of hb.of hs) (yvD hq sE sE)
theorem ybV {cs:List Nat}{f:Str}(hc:∀ k∈cs,Cls X.K (A k)/\NoAttr X.K (A k) f) (ha:ZE X A a xa) (hb:attributeBase a f X.env (eval a X.env)=eval a X.env):ZE X A (.Attribute a f pos) (yfM cs f xa):=wE (yFZ ha.of hb) (yEh (K:=ckX X A) hc sE)
section
variable {f C:Addr}{fd:FuncData}{ps:List Str}{lv:Nat}{fn:Fn}
theorem ybR (F:FnOk X.prog X.w X.K X.mg X.base CX0 lv f fd ps (spE (ckX X A) (n+1) fn)) (hr:Room lv X.A) (m:Nm x) (hg:Gl X x) (hm:X.mg x=some (.ref f)) (hk:PySem.W.keepIn X.K (.ref f)=true) (hb:Binds X.K fd ps [])
  (ha:ZA X A (a::es) (n+1) aa) (he:starEach (a::es) X.env=(false,eval a X.env)::starEach es X.env) (hpl:(backTo pos (starEach es X.env)).any (·.1)=false):ZE X A (.Call (.Name x p) (a::es) [] pos) (ydt fn aa) :=
 wE (yDs F hr hg hm hk hb .nil ywv ha.of m.d he hpl) (yAt sA ha.len)
theorem yog {k:Nat}{fi} (M:Mk X.K (A k) f) (F:FnOk X.prog X.w X.K X.mg X.base CX0 lv f fd ps (spI (ckX X A) (n+1) k fi)) (hr:Room (lv+1) X.A) (m:Nm x) (hg:Gl X x) (hm:X.mg x=some (.ref (A k))) (hb:Binds X.K fd ps [])
  (ha:ZA X A (a::es) (n+1) aa) (he:starEach (a::es) X.env=(false,eval a X.env)::starEach es X.env) (hpl:(backTo pos (starEach es X.env)).any (·.1)=false):ZO X A (.Call (.Name x p) (a::es) [] pos) (yne fi aa) :=
 wO (yDu M F hr hg hm hb .nil ywv ha.of m.d he hpl) (yvH (K:=ckX X A) (k:=k) sA ha.len)
theorem yED {k:Nat}(hm:PySem.W.makesIn X.K (A k)=true) (hi:PySem.W.findIn X.K (.ref (A k)) "__init__" = some (some (.builtin "object.__init__"))) (hk:PySem.W.keepIn X.K (.ref (A k))=true) (m:Nm x) (hg:Gl X x) (hmg:X.mg x=some (.ref (A k))):ZO X A (.Call (.Name x p) [] [] pos) (yvI k) :=
 wO (yAn hm hi hk hg hmg m.d) (yyj (K:=ckX X A))
end
theorem ykQ {id:String}{r} {q} (hc:ykf X (.builtin id) r) (hq:yqw (ckX X A) r q) (m:Nm x) (hg:Gl X x) (hm:X.mg x=none) (hv:bootBuiltins x=some (.builtin id)) (ha:ZA X A (a::es) n aa) (he:starEach (a::es) X.env=(false,eval a X.env)::starEach es X.env) (hpl:(backTo pos (starEach es X.env)).any (·.1)=false):ZE X A (.Call (.Name x p) (a::es) [] pos) (xCB q aa) :=
 wE (yqo hc hg hm hv ha.of m.n m.d he hpl) (yCm hq sA)
theorem yEE {T:String}{r} {q} (hc:ykf X (.type T) r) (hq:yqw (ckX X A) r q) (m:Nm x) (hg:Gl X x) (hm:X.mg x=none) (hv:bootBuiltins x=some (.type T)) (ha:ZA X A (a::es) n aa) (he:starEach (a::es) X.env=(false,eval a X.env)::starEach es X.env) (hpl:(backTo pos (starEach es X.env)).any (·.1)=false):ZE X A (.Call (.Name x p) (a::es) [] pos) (xCB q aa) :=
 wE (yrM hc hg hm hv ha.of m.n m.d he hpl) (yCm hq sA)
theorem ygD {T:String}{r} {q} (hc:ykf X (.type T) r) (hq:ysj (ckX X A) r q) (m:Nm x) (hg:Gl X x) (hm:X.mg x=none) (hv:bootBuiltins x=some (.type T)) (ha:ZA X A (a::es) n aa) (he:starEach (a::es) X.env=(false,eval a X.env)::starEach es X.env) (hpl:(backTo pos (starEach es X.env)).any (·.1)=false):ZO X A (.Call (.Name x p) (a::es) [] pos) (ypf q aa) :=
 wO (yrM hc hg hm hv ha.of m.n m.d he hpl) (yxV hq sA)
section
variable {name:Str}{cpos:Pos}{T id:String}{r:V->List V->Hp->VK->Prop}{cc:PV->AH->Bool}{q:PM}
theorem yxm (pa:PlainAttrs T) (slot:Slot T name id) (hty:typeOf (.builtin id)=pure (.type "method_descriptor")) (hm:MtR X id r) (hq:ysk (ckX X A) T cc r q) (ho:ZE X A o xa) (ha:ZA X A (a::es) n aa)
  (hbase:attributeBase o name X.env (eval o X.env)=eval o X.env)
  (hfew:((backTo cpos (starEach (a::es) X.env)).all (fun x=>!x.1) && (backToKw cpos (keywordEach [] X.env)).all (fun x=>x.1.isSome)
   && decide ((a::es).length+([]:List Keyword).length+(if ([]:List Keyword).isEmpty then 0 else 1)<30))=true)
  (hline:(apos.endLine == cpos.line)=true) (hs:starEach (a::es) X.env=(false,eval a X.env)::starEach es X.env) (hplain:(backTo cpos (starEach es X.env)).any (·.1)=false) :
  ZE X A (.Call (.Attribute o name apos) (a::es) [] cpos) (xBM cc q xa aa):=wE (yGf pa slot hty hm ho.of ha.of hbase hfew hline hs hplain) (yCn (K:=ckX X A) hq sE sA)
theorem yGS (pa:PlainAttrs T) (slot:Slot T name id) (hty:typeOf (.builtin id)=pure (.type "method_descriptor")) (hm:MtR X id r) (hq:ysk (ckX X A) T cc r q) (ho:ZE X A o xa)
  (hbase:attributeBase o name X.env (eval o X.env)=eval o X.env) (hline:(apos.endLine == cpos.line)=true) :
  ZE X A (.Call (.Attribute o name apos) [] [] cpos) (xBM cc q xa yu):=wE (yCf pa slot hty hm ho.of hbase hline) (yDQ (K:=ckX X A) hq sE)
theorem yjR {i:Nat}(ho:PE X o (yBV i)) (ha:ZE X A a xa)
  (hbase:attributeBase o "append" X.env (eval o X.env)=eval o X.env)
  (hfew:((backTo cpos (starEach [a] X.env)).all (fun x=>!x.1) && (backToKw cpos (keywordEach [] X.env)).all (fun x=>x.1.isSome)
   && decide ([a].length+([]:List Keyword).length+(if ([]:List Keyword).isEmpty then 0 else 1)<30))=true)
  (hline:(apos.endLine == cpos.line)=true) (hs:starEach [a] X.env=(false,eval a X.env)::starEach [] X.env) (hplain:(backTo cpos (starEach [] X.env)).any (·.1)=false)
  (hsw:swapsWith (.Call (.Attribute o "append" apos) [a] [] cpos) none pos.line X.env=pure false) :
  ZS X A (.Expr (.Call (.Attribute o "append" apos) [a] [] cpos) pos) (ykh i xa) :=
 wS (yud (yGf PySem.F.plainAttrs_list PySem.F.slot_list_append PySem.F.type_list_append ykE ho (ylL ha.of yrH hs) hbase hfew hline hs hplain) hsw) (yAG (K:=ckX X A) i sE)
end
section
variable {tg:Expr}
theorem yqK (h:ZE X A a xa):ZI X A tg a (xIL xa):=wI (yDh h.of) (yxZ (K:=ckX X A) sE)
theorem yuM (hg:Gl X "range") (hm:X.mg "range" = none) (ha:ZA X A [a] n aa) (hs:starEach [a] X.env=[(false,eval a X.env)]):ZI X A tg (.Call (.Name "range" p) [a] [] pos) (yEb aa):=wI (yxv hg hm ha.of hs) (yya sA)
end
theorem yim {i:Nat}(hN:X.N.Nodup) (hi:X.N[i]?=some x) (hx:Loc X.env.scope x) (hf:X.fn x=true\/X.env.scope.names.lookup x=some .local):ZG X A (.Name x pos) (yJ i):=wG (yqm hN hi hx hf) (ynV i)
theorem yEF:ZGs X A [] yGs:=wGs yDg yAD
theorem yvV {y:XG}{ys:XGs}(h1:ZG X A a y) (h2:ZGs X A es ys) (hs:(assignEach (a::es) X.env).map (·.2)=assign a X.env::(assignEach es X.env).map (·.2)):ZGs X A (a::es) (yuy y ys):=wGs (yAb h1.of h2.of hs) (yxX sG sGs)
theorem yGT {ys:XGs}{q:Nat}(hc:X.calm=true) (h:ZGs X A es ys) (hn:(assignEach es X.env).length=n) (hst:(assignEach es X.env).findIdx? (·.1)=none):ZG X A (.Tuple es q pos) (yFt n ys):=wG (yFS hc h.of hn hst) (yAE (K:=ckX X A) sGs)
theorem yGU {elt iter:Expr}{px:Pos}{scope:Scope}{cpos:Pos}{it:XA}{xe:XE}(ix:List Nat) (fr:List Str) (hc:X.calm=true) (hi:ZI X A (.Name x px) iter it) (hfr:FrOk X scope ix fr)
  (he:∀ (cl:List (Str×Addr)) (C:Addr) (s₃:Shared) (H₃:Hp) (fp:List Addr) (pins:List (Addr×Obj)),ZE (cxC X scope cl C (x::fr) s₃ H₃ fp pins) A elt xe)
  (hnd:(x::fr).Nodup) (hkind:scope.kind=.function) (hcell:∀ y∈scope.names,y.2≠.cell)
  (hnames:∀ y∈scope.names,y.2=.local->scope.names.lookup y.1=some .local) (hfree0:∀ y∈scope.names,y.2=.free->y.1∈fr) (hx:scope.names.lookup x=some .local)
  (hs:∀ v,foldedSetIterable iter X.env v=pure v):ZO X A (.ListComp elt [⟨.Name x px,iter,[],0⟩] scope cpos) (ywC it ix xe) :=
 wO (yDB ix fr hc hi.of hfr (te:=cE (ckX X A) xe) (fun cl C s₃ H₃ fp pins=>(he cl C s₃ H₃ fp pins).of) hnd hkind hcell hnames hfree0 hx hs) (yvF (K:=ckX X A) ix sI sE)
section
variable {st:Stmt}{rest:List Stmt}{s u:XS}
theorem yx (h:ZE X A a xa):ZS X A (.Return (some a) pos) (ycN xa):=wS (yFQ h.of) (yDV sE)
theorem ycO (h:ZE X A a xa) (hs:swapsWith a none pos.line X.env=pure false):ZS X A (.Expr a pos) (yfz xa):=wS (yud h.of hs) (yAB sE)
theorem yH {i:Nat}{pos':Pos}(hN:X.N.Nodup) (hi:X.N[i]?=some x) (hx:Loc X.env.scope x) (h:ZE X A a xa) (hs:swapsWith a (some (.Name x pos')) pos.line X.env=pure false) (hf:X.fn x=true\/X.env.scope.names.lookup x=some .local):ZS X A (.Assign [.Name x pos'] a pos) (yes xa (yJ i)) :=
 wS (yBY hN hi hx h.of hs hf) (yuB sE (ynV i))
theorem yqL {i:Nat}{pos':Pos}(hN:X.N.Nodup) (hi:X.N[i]?=some x) (hx:Loc X.env.scope x) (h:ZO X A a xo) (hs:swapsWith a (some (.Name x pos')) pos.line X.env=pure false) (hf:X.fn x=true\/X.env.scope.names.lookup x=some .local):ZS X A (.Assign [.Name x pos'] a pos) (yuz xo i) :=
 wS (yBY hN hi hx h.of hs hf) (yAF i sO)
theorem yGV {tg:Expr}{y:XG}(h:ZE X A a xa) (hg:ZG X A tg y) (hs:swapsWithSole [tg] a pos.line X.env=pure false) (hw:swappedStores [tg] a X.env=pure none) (h1:(assignEach [tg] X.env).map (·.2)=[assign tg X.env]):ZS X A (.Assign [tg] a pos) (yes xa y):=wS (yBX h.of hg.of hs hw h1) (yuB sE sG)
theorem yev {cs:List Nat}{f:Str}{pos':Pos}{i:Nat}(hc:∀ k∈cs,Cls X.K (A k)/\NoAttr X.K (A k) f) (ho:PE X o (yBV i)) (h:ZE X A a xa) (hs:swapsWith a (some (.Attribute o f pos')) pos.line X.env=pure false):ZF X A (.Assign [.Attribute o f pos'] a pos) (ygG cs i f xa):=wF (yCd ho h.of hs) (yAQ (K:=ckX X A) hc sE)
theorem ybp {ca:XT}{l m:List Stmt}(hc:ZT X A c ca) (ha:ZSs X A l s) (hb:ZSs X A m u):ZS X A (.If c l m pos) (ydH ca s u):=wS (yIp hc.of ha.of hb.of) (yDW sT sS sS)
theorem ypW {tg iter:Expr}{it:XA}{y:XG}(hp:PassesOwn (model X.prog X.w) X.A X.env X.xe) (hc:X.calm=true) (hi:ZI X A tg iter it) (hg:ZG X A tg y) (hb:ZSs X A rest s) (hs:∀ x,foldedSetIterable iter X.env x=pure x):ZS X A (.For tg iter rest [] pos) (yAx it y s):=wS (yCa hp hc hi.of hg.of hb.of hs) (yEc sI sG sS)
theorem yBn {ca:XT}(fu:Nat) (hp:PassesOwn (model X.prog X.w) X.A X.env X.xe) (hc:ZT X A c ca) (hb:ZSs X A rest s):ZS X A (.While c rest [] pos) (ysl fu ca s):=wS (yAc hp hc.of hb.of) (yyb fu sT sS)
theorem yz:ZSs X A [] ybQ:=wSs yDf yAA
theorem yi (h:ZS X A st s):ZSs X A [st] s:=⟨yxs h.of⟩
theorem yg (h:ZS X A st s) (hr:ZSs X A rest u):ZSs X A (st::rest) (yB s u):=wSs (yvr h.of hr.of) (yDU sS sS)
theorem yqM (i:Nat) (h:ZSs X A rest s):ZSs X A rest (yDT i s):=wSs h.of (yDX i sS)
theorem yin (h:ZF X A st s):ZFs X A [st] s:=⟨yxs h.of⟩
theorem yed (h:ZF X A st s) (hr:ZFs X A rest u):ZFs X A (st::rest) (yB s u):=wFs (yvr h.of hr.of) (yAR sF sF)
end
end
section
variable {P:Program}{w:World}{K:PySem.W.Frag}{mg:Str->Option Value}{base:Heap}{A:Nat->Addr}
theorem zfn {x qual:Str}{st:Stmt}{f:Addr}{fd:FuncData}{N ps:List Str}{k:Nat}{s:XS}(F:Fun K x qual st f fd) (S:yq N ps (yc st))
  (h:∀ (cdv:Value) (Ar:Around) (outer:List Env) (sh:Shared) (H:Hp) (E:XK),Room k (Ar.deeper (envOfC qual (yc st) sh.heap.objs.size f cdv))->ZSs (yAk CX0 P w K mg base N qual (yc st) f cdv Ar outer sh H E).nox A (yj st) s) :
  FnOk P w K mg base CX0 (k+1) f fd ps (spE ⟨K,A⟩ ps.length (yho N.length s)) :=
 F.ok S (fun _ _ _ _ h=>yEd h) fun cdv Ar outer sh H vs Q E hr hq=>⟨_,(h cdv Ar outer sh H E hr).of,yAI (K:=⟨K,A⟩) sS hq⟩
theorem zin {x qual:Str}{st:Stmt}{f:Addr}{fd:FuncData}{N ps:List Str}{k kc n:Nat}{s:XS}(F:Fun K x qual st f fd) (S:yq N ps (yc st)) (hn:ps.length=n+1) (hN:n+1<=N.length)
  (h:∀ (cdv:Value) (Ar:Around) (outer:List Env) (sh:Shared) (H:Hp) (E:XK),Room k (Ar.deeper (envOfC qual (yc st) sh.heap.objs.size f cdv))->ZFs (yAk CX0 P w K mg base N qual (yc st) f cdv Ar outer sh H E).nox A (yj st) s) :
  FnOk P w K mg base CX0 (k+1) f fd ps (spI ⟨K,A⟩ n kc (yuC N.length kc s)) :=
 F.ok S (fun _ _ _ _ h=>(yEi h).trans hn.symm) fun cdv Ar outer sh H vs Q E hr hq=>⟨_,(h cdv Ar outer sh H E hr).of,yAS (K:=⟨K,A⟩) hN sF hq⟩
end
end PX
namespace PX
open PySem L2 PySem.Spec PyProof.Rows
section
variable {X:Cx}{A:Nat->Addr}{a b c o i:Expr}{es:List Expr}{xa xb xc xd xk xv:XE}{xo:XO}{aa:XA}{pos p apos cpos pos':Pos}{x:Str}{n k:Nat}
theorem yCJ (hu:X.A.units+1<cLine) (ho:ZE X A o xd) (hi:ZE X A i xk) (hs:yIW i):ZE X A (.Subscript o i pos) (yuH xd xk):=wE (yEm hu ho.of hi.of hs) (yAY sE sE)
theorem yGW (hu:X.A.units+1<cLine) (hi:ZE X A i xk) (ho:ZE X A o xd) (hm:behindInMarks .In o=false):ZT X A (.Compare i [.In] [o] pos) (yU (yyu false xk xd)):=wT (yBW (yGD hu hi.of ho.of) hm) (ynB (yEp sE sE))
theorem yyN (hu:X.A.units+1<cLine) (hi:ZE X A i xk) (ho:ZE X A o xd) (hm:behindInMarks .NotIn o=false):ZT X A (.Compare i [.NotIn] [o] pos) (yU (yyu true xk xd)):=wT (yBW (yyp hu hi.of ho.of) hm) (ynB (ywM sE sE))
theorem yqN (hu:X.A.units+1<cLine) (ho:ZE X A o xd) (hi:ZE X A i xk) (hv:ZE X A a xv) (hs:swapsWith a (some (.Subscript o i pos')) pos.line X.env=pure false):ZS X A (.Assign [.Subscript o i pos'] a pos) (yqF xd xk xv):=wS (yEn hu ho.of hi.of hv.of hs) (yAZ sE sE sE)
theorem ytc:ZO X A (.Dict [] [] pos) ysS:=wO yAV yBa
theorem yEG (hu:X.A.units+1<cLine) (ho:ZE X A o xd) (hi:ZE X A i xk) (hb:ZE X A b xb) (m:M2 X o "get" apos i b cpos):ZE X A (.Call (.Attribute o "get" apos) [i,b] [] cpos) (ysT xd xk xb):=wE (yAW hu ho.of hi.of hb.of m) (yyv sE sE sE)
theorem yoh (h:ZE X A a xv) (ho:ZE X A o xd) (hi:ZE X A i xk)
  (ha:∀ v,assign (.Subscript o i pos') X.env v=(do
   let ov <- holding [v] (eval o X.env)
   let iv <- holding [v,ov] (eval i X.env)
   standAt pos'
   holding [v,ov,iv] (setItem ov iv v)
   release [v,ov,iv] []))
  (hs:swapsWithSole [.Subscript o i pos'] a pos.line X.env=pure false) (hw:swappedStores [.Subscript o i pos'] a X.env=pure none) (h1:(assignEach [.Subscript o i pos'] X.env).map (·.2)=[assign (.Subscript o i pos') X.env]) :
  ZS X A (.Assign [.Subscript o i pos'] a pos) (ynY xd xk xv):=wS (yBX h.of (yFT ho.of hi.of set_list ha) hs hw h1) (yAX sE sE sE)
end
end PX
namespace PX
open PySem L2 PySem.Spec PyProof.Rows
theorem yGX:bootBuiltins "max" = some (.builtin "max"):=by decide +kernel
theorem yoi:bootBuiltins "sorted" = some (.builtin "sorted"):=by decide +kernel
theorem yuN:bootBuiltins "reversed" = some (.type "reversed"):=by decide +kernel
section
variable {X:Cx}{A:Nat->Addr}{a b c o:Expr}{es:List Expr}{xa xb xc:XE}{pos p apos cpos:Pos}{x:Str}{n k:Nat}
end
section
theorem yGY {a b c:Int}(hc:0<c):Builtin.Range.rangeSize a b c=(szR a b c:Int):=by
 unfold Builtin.Range.rangeSize szR
 rw [if_pos hc]
 split
 .have:=Int.ediv_nonneg (a:=b-a-1) (b:=c) (by omega) (by omega)
  omega
 .rfl
theorem yBo {a b c:Int}(h:0<=a/\a<1000000000/\0<=b/\b<1000000000/\0<c/\c<1000000):Builtin.Range.small a b c=true:=by
 obtain ⟨h1,h2,h3,h4,h5,h6⟩:=h
 unfold Builtin.Range.small
 have hs:Builtin.Range.rangeSize a b c<=1000000000/\0<=Builtin.Range.rangeSize a b c:=by
  unfold Builtin.Range.rangeSize
  rw [if_pos h5]
  split
  .have:=Int.ediv_nonneg (a:=b-a-1) (b:=c) (by omega) (by omega)
   have:=Int.ediv_le_self c (show (0:Int)<=b-a-1 by omega)
   omega
  .omega
 simp only [Builtin.Range.rangeFitsLong,Bool.and_eq_true,Bool.or_eq_true,decide_eq_true_eq,beq_iff_eq,show c>0 from h5,if_true]
 omega
theorem yuO {P:Program}{w:World}{K:PySem.W.Frag}{tg:Expr}(it:Addr) (lo st:Int) (n:Nat):Turn P w K tg (yIh lo st n) [it] it (fun i h=>IsRangeIter h it (lo+(i:Nat)*st) ((n:Int)-(i:Nat)) st) where
 mem:=by simp
 obj:=fun i h st b hb=>by
  have e:b=it:=by simpa using hb
  subst e
  exact ⟨_,st,fun v z=>by
   have z':Data.fields _=Data.cell v:=z
   cases z'⟩
 keep:=fun i h h' st k=>k it (by simp) _ st
 item:=by
  intro X hP hw hK hc i pins s σ H E I hf st' hg
  subst hP hw hK
  obtain ⟨f0,f1,f2,f3,f4,f5⟩:=hf it (by simp)
  have W:=Walks.range (prog:=X.prog) (w:=X.w) (I.ok.hd hc) it lo st n
  refine W.item i s _ _ hg st' fun v h' tk hv st'' kk=>?_
  obtain ⟨t,rfl⟩:=hv
  have I1:Inv X pins σ H { s with heap:=h',toks:=tk }:=I.turned (fun b o hb e=>kk b o (by simpa using hb) e) f0 f1 f3 f4 f5
  exact ⟨_,rfl,yAd (s:={ s with heap:=h',toks:=tk }) (n:="range_iterator") st'' rfl rfl (by decide) ⟨.int (lo+i*st),H,I1,⟨t,rfl⟩,⟨rfl,rfl⟩,st'',fun b hb=>(hf b hb).1⟩⟩
 done:=by
  intro X hP hw hK hc i pins s σ H E I hf st hg
  subst hP hw hK
  obtain ⟨f0,f1,f2,f3,f4,f5⟩:=hf it (by simp)
  exact wpAny_pyNext_range_end (I.ok.hd hc) st (by have:n<=i:=hg;omega) fun h' eb=>⟨rfl,I.turned (t':=s.toks) (fun b o hb e=>eb b o hb e) f0 f1 f3 f4 f5⟩
 self:=fun _ _ _ _ _ st h=>wpAny_pyIter_rangeiter st h
variable {X:Cx}{A:Nat->Addr}{tg a b c:Expr}{p pos:Pos}{aa:XA}{n:Nat}
theorem yyO {pins:List (Addr×Obj)}{σ:L2.St}{H:Hp}{s:Shared}{R:It->Hp->Prop}{E:Value->Shared->Prop}{lo hi st:Int}{t u v:Tok}{tk:Nat}(I:Inv X pins σ H s) (h:0<=lo/\lo<1000000000/\0<=hi/\hi<1000000000/\0<st/\st<1000000)
  (q:R (yIh lo st (szR lo hi st)) H):wpAny (model X.prog X.w) X.A (pyIter (.ref s.heap.objs.size)) (PIE X pins σ tg R) E { s with heap:=s.heap.push { cls:=.type "range",data:=.fields #[.int lo t,.int hi u,.int st v] },toks:=tk }:=by
 refine wpAny_pyIter_range (IsRange.new ..) (yBo h) ?_
 have I1:Inv X pins σ H { s with heap:=s.heap.push { cls:=.type "range",data:=.fields #[.int lo t,.int hi u,.int st v] },toks:=tk }:=I.kept fun b o e=>Heap.get?_push_of_some _ e
 refine ⟨(s.heap.push { cls:=.type "range",data:=.fields #[.int lo t,.int hi u,.int st v] }).objs.size,[(s.heap.push { cls:=.type "range",data:=.fields #[.int lo t,.int hi u,.int st v] }).objs.size],_,_,H,rfl,
  I1.kept (t':=tk) fun b o e=>Heap.get?_push_of_some _ e,yuO _ lo st (szR lo hi st),?_,fun b hb=>?_,q⟩
 .have e1:lo+((0:Nat):Int)*st=lo:=by simp
  have e2:((szR lo hi st:Nat):Int)-((0:Nat):Int)=Builtin.Range.rangeSize lo hi st:=by rw [yGY h.2.2.2.2.1];omega
  show IsRangeIter _ _ (lo+((0:Nat):Int)*st) (((szR lo hi st:Nat):Int)-((0:Nat):Int)) st
  rw [e1,e2]
  exact Heap.get?_push_size _ rfl
 .have e:b=(s.heap.push { cls:=.type "range",data:=.fields #[.int lo t,.int hi u,.int st v] }).objs.size:=by simpa using hb
  subst e
  exact I1.fpOk (Nat.le_refl _) (I1.hok.fresh (Nat.le_refl _))
theorem yyP {ta:TA}(hg:Gl X "range") (hm:X.mg "range" = none) (ha:PA X [a,b,c] ta) (hs:starEach [a,b,c] X.env=[(false,eval a X.env),(false,eval b X.env),(false,eval c X.env)]) (hs2:starEach [b,c] X.env=[(false,eval b X.env),(false,eval c X.env)]) :
  PI X tg (.Call (.Name "range" p) [a,b,c] [] pos) (yGI ta):=by
 intro pins s σ H R I h
 refine Call_ (ypH I hg hm boot_range (PyProof.Rows.callWith_type1 (thn (ha pos pins s σ H _ I h) fun us s1 ⟨vs,H1,I1,r1,q1⟩=>?_) (by rw [hs,hs2]) (by rw [hs2];rfl)))
 obtain ⟨i,j,k,e,hc,q⟩:=q1
 subst e
 cases r1 with
 | cons r rr =>
  cases rr with
  | cons r' rr =>
   cases rr with
   | cons r'' rr =>
    cases rr
    obtain ⟨t,rfl⟩:=r
    obtain ⟨t',rfl⟩:=r'
    obtain ⟨t'',rfl⟩:=r''
    exact call_range_3 (by omega) (yyO I1 hc q) (Or.inl (PyProof.noPylong_small (by omega)))
theorem yEH (hg:Gl X "range") (hm:X.mg "range" = none) (ha:ZA X A [a,b,c] n aa) (hs:starEach [a,b,c] X.env=[(false,eval a X.env),(false,eval b X.env),(false,eval c X.env)]) (hs2:starEach [b,c] X.env=[(false,eval b X.env),(false,eval c X.env)]):ZI X A tg (.Call (.Name "range" p) [a,b,c] [] pos) (yGJ aa):=wI (yyP hg hm ha.of hs hs2) (yyA sA)
end
section
theorem ygs {xs:List V}{its:List Value}(r:Vals xs its) {j:Nat}(hj:j<its.toArray.size):∃ x,xs[j]?=some x/\RelV x its.toArray[j]:=by
 have hl:=r.length
 have j1:j<its.length:=by simpa using hj
 have x1:xs[j]?=some xs[j]:=List.getElem?_eq_getElem (by omega)
 obtain ⟨u1,q1,w1⟩:=r.get x1
 have g1:its.toArray[j]=u1:=by
  have:=List.getElem?_eq_getElem j1
  rw [q1] at this
  simpa using (Option.some.inj this).symm
 exact ⟨_,x1,by rw [g1];exact w1⟩
variable {X:Cx}
theorem yvW {pins:List (Addr×Obj)}{σ:L2.St}{H:Hp}{s:Shared}(I:Inv X pins σ H s) {n:Nat}{x y:V}{b:Bool}(r:EqR X.K H n x y b):∀ {A:Around}{u v:Value},RelV x u->RelV y v->A.units+n<cLine->SeqAt.EqAt A s u v b:=by
 induction r with
 | flat fx fy=>exact fun rx ry _=>eqAt_V rx ry fx fy
 | same =>
  intro A u v rx ry _
  cases rx
  cases ry
  exact SeqAt.EqAt.same _
 | odd h =>
  obtain ⟨a,o,ob,h1,h2⟩:=h
  have:=(I.bs a ob (I.ok.mod.kin a ob h2)).2
  rw [h1] at this
  cases this
 | nt hb =>
  intro A u v rx ry hu
  cases rx
  cases ry
  obtain ⟨i2,r2,p2,z2⟩:=I.tuple hb
  exact SeqAt.EqAt.none_tuple p2 (by omega)
 | tn hb =>
  intro A u v rx ry hu
  cases rx
  cases ry
  obtain ⟨i2,r2,p2,z2⟩:=I.tuple hb
  exact SeqAt.EqAt.tuple_none p2 (by omega)
 | @lst n a b xs ys e ha hb hl hne he ih =>
  intro A u v rx ry hu
  cases rx
  cases ry
  obtain ⟨i1,n1,r1,e1,z1⟩:=I.lst ha
  obtain ⟨i2,n2,r2,e2,z2⟩:=I.lst hb
  have l1:=r1.length
  have l2:=r2.length
  rw [show xs.length=i1.toArray.size by simp only [List.size_toArray];omega]
  refine SeqAt.EqAt.of_refs hne (SeqAt.RcAt.lists ⟨_,e1,rfl,n1,rfl⟩ ⟨_,e2,rfl,n2,rfl⟩ (by simp only [List.size_toArray];omega) (by omega) fun j j1 j2=>?_)
  obtain ⟨x1,q1,w1⟩:=ygs r1 j1
  obtain ⟨y1,q2,w2⟩:=ygs r2 j2
  exact ih j x1 y1 q1 q2 w1 w2 (by show A.units+1+n<cLine;omega)
 | @lstN n a b xs ys ha hb hl =>
  intro A u v rx ry hu
  cases rx
  cases ry
  obtain ⟨i1,n1,r1,e1,z1⟩:=I.lst ha
  obtain ⟨i2,n2,r2,e2,z2⟩:=I.lst hb
  have l1:=r1.length
  have l2:=r2.length
  have hne:a≠b:=fun z=>by subst z;rw [ha] at hb;cases hb;exact hl rfl
  exact SeqAt.EqAt.of_refs hne (SeqAt.RcAt.lists_lengths ⟨_,e1,rfl,n1,rfl⟩ ⟨_,e2,rfl,n2,rfl⟩ (by simp only [List.size_toArray,bne_iff_ne];omega) (by omega))
 | @tup n a b xs ys e ha hb hne he ih =>
  intro A u v rx ry hu
  cases rx
  cases ry
  obtain ⟨i1,r1,p1,z1⟩:=I.tuple ha
  obtain ⟨i2,r2,p2,z2⟩:=I.tuple hb
  have l1:=r1.length
  have l2:=r2.length
  rw [show xs.length=i1.toArray.size by simp only [List.size_toArray];omega,show ys.length=i2.toArray.size by simp only [List.size_toArray];omega]
  refine SeqAt.EqAt.of_refs hne (SeqAt.RcAt.tuples p1 p2 (by omega) fun j j1 j2=>?_)
  obtain ⟨x1,q1,w1⟩:=ygs r1 j1
  obtain ⟨y1,q2,w2⟩:=ygs r2 j2
  exact ih j x1 y1 q1 q2 w1 w2 (by show A.units+1+n<cLine;omega)
theorem yyQ (hu:X.A.units+60<cLine):OpR X (compareOp .Eq) (yJK X.K):=by
 intro pins s σ H x y v u Q I rx ry h
 obtain ⟨b,hb,q⟩:=h
 cases hb with
 | nt hb =>
  cases rx
  cases ry
  obtain ⟨i2,r2,p2,z2⟩:=I.tuple hb
  exact SeqAt.RcAt.none_tuple p2 (by omega) _ _ _ _ ⟨.bl _,H,I,rfl,q⟩
 | tn hb =>
  cases rx
  cases ry
  obtain ⟨i2,r2,p2,z2⟩:=I.tuple hb
  exact SeqAt.RcAt.tuple_none p2 (by omega) _ _ _ _ ⟨.bl _,H,I,rfl,q⟩
 | @lst a b xs ys e ha hb hl he =>
  cases rx
  cases ry
  obtain ⟨i1,n1,r1,e1,z1⟩:=I.lst ha
  obtain ⟨i2,n2,r2,e2,z2⟩:=I.lst hb
  have l1:=r1.length
  have l2:=r2.length
  rw [show xs.length=i1.toArray.size by simp only [List.size_toArray];omega] at q
  refine SeqAt.RcAt.lists ⟨_,e1,rfl,n1,rfl⟩ ⟨_,e2,rfl,n2,rfl⟩ (by simp only [List.size_toArray];omega) (by omega) (fun j j1 j2=>?_) _ _ _ _ ⟨.bl _,H,I,rfl,q⟩
  obtain ⟨x1,q1,w1⟩:=ygs r1 j1
  obtain ⟨y1,q2,w2⟩:=ygs r2 j2
  exact yvW I (he j x1 y1 q1 q2) w1 w2 (by show X.A.units+1+40<cLine;omega)
 | @lstN a b xs ys ha hb hl =>
  cases rx
  cases ry
  obtain ⟨i1,n1,r1,e1,z1⟩:=I.lst ha
  obtain ⟨i2,n2,r2,e2,z2⟩:=I.lst hb
  have l1:=r1.length
  have l2:=r2.length
  exact SeqAt.RcAt.lists_lengths ⟨_,e1,rfl,n1,rfl⟩ ⟨_,e2,rfl,n2,rfl⟩ (by simp only [List.size_toArray,bne_iff_ne];omega) (by omega) _ _ _ _ ⟨.bl _,H,I,rfl,q⟩
 | @tup a b xs ys e ha hb he =>
  cases rx
  cases ry
  obtain ⟨i1,r1,p1,z1⟩:=I.tuple ha
  obtain ⟨i2,r2,p2,z2⟩:=I.tuple hb
  have l1:=r1.length
  have l2:=r2.length
  rw [show xs.length=i1.toArray.size by simp only [List.size_toArray];omega,show ys.length=i2.toArray.size by simp only [List.size_toArray];omega] at q
  refine SeqAt.RcAt.tuples p1 p2 (by omega) (fun j j1 j2=>?_) _ _ _ _ ⟨.bl _,H,I,rfl,q⟩
  obtain ⟨x1,q1,w1⟩:=ygs r1 j1
  obtain ⟨y1,q2,w2⟩:=ygs r2 j2
  exact yvW I (he j x1 y1 q1 q2) w1 w2 (by show X.A.units+1+40<cLine;omega)
theorem yGZ (hu:X.A.units+60<cLine):OpR X (compareOp .NotEq) (yJL X.K):=by
 intro pins s σ H x y v u Q I rx ry h
 obtain ⟨b,hb,q⟩:=h
 cases hb with
 | nt hb =>
  cases rx
  cases ry
  obtain ⟨i2,r2,p2,z2⟩:=I.tuple hb
  exact SeqAt.RcNeAt.none_tuple p2 (by omega) _ _ _ _ ⟨.bl _,H,I,rfl,q⟩
 | tn hb =>
  cases rx
  cases ry
  obtain ⟨i2,r2,p2,z2⟩:=I.tuple hb
  exact SeqAt.RcNeAt.tuple_none p2 (by omega) _ _ _ _ ⟨.bl _,H,I,rfl,q⟩
 | @lst a b xs ys e ha hb hl he =>
  cases rx
  cases ry
  obtain ⟨i1,n1,r1,e1,z1⟩:=I.lst ha
  obtain ⟨i2,n2,r2,e2,z2⟩:=I.lst hb
  have l1:=r1.length
  have l2:=r2.length
  rw [show xs.length=i1.toArray.size by simp only [List.size_toArray];omega] at q
  refine SeqAt.RcNeAt.lists ⟨_,e1,rfl,n1,rfl⟩ ⟨_,e2,rfl,n2,rfl⟩ (by simp only [List.size_toArray];omega) (by omega) (fun j j1 j2=>?_) _ _ _ _ ⟨.bl _,H,I,rfl,q⟩
  obtain ⟨x1,q1,w1⟩:=ygs r1 j1
  obtain ⟨y1,q2,w2⟩:=ygs r2 j2
  exact yvW I (he j x1 y1 q1 q2) w1 w2 (by show X.A.units+1+40<cLine;omega)
 | @lstN a b xs ys ha hb hl =>
  cases rx
  cases ry
  obtain ⟨i1,n1,r1,e1,z1⟩:=I.lst ha
  obtain ⟨i2,n2,r2,e2,z2⟩:=I.lst hb
  have l1:=r1.length
  have l2:=r2.length
  exact SeqAt.RcNeAt.lists_lengths ⟨_,e1,rfl,n1,rfl⟩ ⟨_,e2,rfl,n2,rfl⟩ (by simp only [List.size_toArray,bne_iff_ne];omega) (by omega) _ _ _ _ ⟨.bl _,H,I,rfl,q⟩
 | @tup a b xs ys e ha hb he =>
  cases rx
  cases ry
  obtain ⟨i1,r1,p1,z1⟩:=I.tuple ha
  obtain ⟨i2,r2,p2,z2⟩:=I.tuple hb
  have l1:=r1.length
  have l2:=r2.length
  rw [show xs.length=i1.toArray.size by simp only [List.size_toArray];omega,show ys.length=i2.toArray.size by simp only [List.size_toArray];omega] at q
  refine SeqAt.RcNeAt.tuples p1 p2 (by omega) (fun j j1 j2=>?_) _ _ _ _ ⟨.bl _,H,I,rfl,q⟩
  obtain ⟨x1,q1,w1⟩:=ygs r1 j1
  obtain ⟨y1,q2,w2⟩:=ygs r2 j2
  exact yvW I (he j x1 y1 q1 q2) w1 w2 (by show X.A.units+1+40<cLine;omega)
theorem yvX {k:Nat}{A:Around}(r:Room k A):A.units+60<cLine:=by have:=r.un;omega
end
end PX
namespace PX
open PySem L2 PySem.Spec PyProof.Rows
section
variable {X:Cx}{A:Nat->Addr}{o e:Expr}{es:List Expr}{xa xb:XE}{aa:XA}{pos apos pos':Pos}{m f:Str}{n k kc:Nat}{pl:Sem Bool}{p:Fn}{fa:Addr}{fd:FuncData}{ps:List Str}
theorem yQ (ho:ZE X A o xa) (c:Cls X.K (A kc)) (hm:ykC X.K (A kc) m fa) (F:FnOk X.prog X.w X.K X.mg X.base CX0 k fa fd ps (spE (ckX X A) (n+1) p)) (hr:Room k X.A) (hb:Binds X.K fd ps []) (ha:ZA X A (e::es) n aa)
  (hst:starEach (e::es) X.env=(false,eval e X.env)::starEach es X.env) (hpl:(backTo pos (starEach es X.env)).any (·.1)=false)
  (ht:eval (.Call (.Attribute o m apos) (e::es) [] pos) X.env=(do
   let ov <- eval o X.env
   standAt apos.atName
   let (f,first) <- holding [ov] (getMethod ov m pl)
   callWith pos f first (backTo pos (starEach (e::es) X.env)) (backToKw pos (keywordEach [] X.env)))) :
  ZE X A (.Call (.Attribute o m apos) (e::es) [] pos) (yK kc m p xa aa):=wE (yDt ho.of c hm F hr hb .nil ywv ha.of hst hpl ht) (ysY (K:=ckX X A) sE sA ha.len)
theorem yjH (ho:ZE X A o xa) (c:Cls X.K (A kc)) (hm:ykC X.K (A kc) m fa) (F:FnOk X.prog X.w X.K X.mg X.base CX0 k fa fd ps (spE (ckX X A) 1 p)) (hr:Room k X.A) (hb:Binds X.K fd ps [])
  (ht:eval (.Call (.Attribute o m apos) [] [] pos) X.env=(do
   let ov <- eval o X.env
   standAt apos.atName
   let (f,first) <- holding [ov] (getMethod ov m pl)
   callWith pos f first (backTo pos (starEach [] X.env)) (backToKw pos (keywordEach [] X.env)))) :
  ZE X A (.Call (.Attribute o m apos) [] [] pos) (yK kc m p xa yu):=wE (yAi ho.of c hm F hr hb .nil ywv ht) (ysY (K:=ckX X A) (n:=0) sE ynU yux)
theorem yEI {cs:List Nat}{value:Expr}(hc:∀ k∈cs,Cls X.K (A k)/\NoAttr X.K (A k) f) (ho:ZE X A o xa) (hv:ZE X A value xb) (hs:swapsWith value (some (.Attribute o f pos')) pos.line X.env=pure false) :
  ZS X A (.Assign [.Attribute o f pos'] value pos) (yyB cs f xa xb):=wS (yCd ho.of hv.of hs) (yBg (K:=ckX X A) hc sE sE)
end
end PX
namespace KasS
open PySem PySem.W PyProof.Rows
noncomputable def run {α:Type}(lt:Nat->Nat->Bool):KasT α->α
 | .ret a=>a
 | .ask i j k=>run lt (k (lt i j))
theorem yjI {α β:Type}(lt:Nat->Nat->Bool) (f:α->KasT β):∀ t:KasT α,run lt (t.bind f)=run lt (f (run lt t))
 | .ret _=>rfl
 | .ask i j k=>yjI lt f (k (lt i j))
section
variable (key:Nat->Int)
noncomputable def ltK (i j:Nat):Bool:=decide (key i<key j)
noncomputable def Kp (p:Array Nat) (i:Nat):Int:=key (p[i]?.getD 0)
noncomputable def Up (p:Array Nat) (k:Nat):Prop:=∀ i j,i<=j->j<k->Kp key p i<=Kp key p j
noncomputable def Dn (p:Array Nat) (k:Nat):Prop:=∀ i j,i<=j->j<k->Kp key p j<=Kp key p i
variable {key}
theorem yoj (p:Array Nat) (i:Nat):p.getD i 0=p[i]?.getD 0:=by simp [Array.getD_eq_getD_getElem?]
theorem yyR (p:Array Nat) (i j:Nat):ltK key (p.getD i 0) (p.getD j 0)=decide (Kp key p i<Kp key p j):=by rw [yoj,yoj];rfl
theorem Up.succ {p:Array Nat}{n:Nat}(h:Up key p n) (h1:1<=n) (hn:Kp key p (n-1)<=Kp key p n):Up key p (n+1):=fun i j hij hj=>by
 by_cases e:j=n
 .subst e
  by_cases e2:i=j
  .subst e2;exact Int.le_refl _
  .exact Int.le_trans (h i (j-1) (by omega) (by omega)) hn
 .exact h i j hij (by omega)
theorem Dn.succ {p:Array Nat}{n:Nat}(h:Dn key p n) (h1:1<=n) (hn:Kp key p n<=Kp key p (n-1)):Dn key p (n+1):=fun i j hij hj=>by
 by_cases e:j=n
 .subst e
  by_cases e2:i=j
  .subst e2;exact Int.le_refl _
  .exact Int.le_trans hn (h i (j-1) (by omega) (by omega))
 .exact h i j hij (by omega)
theorem yyS (p:Array Nat):∀ (f n:Nat),1<=n->Up key p n->n<=run (ltK key) (kas_asc p f n)/\run (ltK key) (kas_asc p f n)<=n+f/\Up key p (run (ltK key) (kas_asc p f n))/\(run (ltK key) (kas_asc p f n)<n+f->Kp key p (run (ltK key) (kas_asc p f n))<Kp key p (run (ltK key) (kas_asc p f n)-1))
 | 0,n,_,h=>⟨Nat.le_refl _,Nat.le_refl _,h,fun z=>by exact absurd z (Nat.lt_irrefl _)⟩
 | f+1,n,h1,h=>by
  have e:run (ltK key) (kas_asc p (f+1) n)=run (ltK key) (if ltK key (p.getD n 0) (p.getD (n-1) 0)=true then .ret n else kas_asc p f (n+1)):=rfl
  rw [e,yyR]
  by_cases hc:Kp key p n<Kp key p (n-1)
  .rw [decide_eq_true hc,if_pos rfl]
   exact ⟨Nat.le_refl _,by show n<=n+(f+1);omega,h,fun _=>hc⟩
  .rw [decide_eq_false hc,if_neg (by simp)]
   obtain ⟨a,b,c,d⟩:=yyS p f (n+1) (by omega) (h.succ h1 (by omega))
   exact ⟨by omega,by omega,c,fun z=>d (by omega)⟩
theorem yyT {p:Array Nat}{i j:Nat}(hj:j<=p.size) (k:Nat):Kp key (kas_rev p i j) k=if i<=k/\k<j then Kp key p (i+j-1-k) else Kp key p k:=by
 unfold Kp kas_rev
 rw [getElem?_mirror_all hj]
 split<;>rfl
theorem yio (p:Array Nat) (i j:Nat):(kas_rev p i j).size=p.size:=mirror_size _ _ _ _
theorem ygH (p:Array Nat) (i j:Nat):(kas_rev p i j).Perm p:=mirror_perm _ _ _ _
theorem yok {p:Array Nat}{i j:Nat}(hj:j<=p.size) (he:∀ k,i<=k->k<j->Kp key p k=Kp key p (j-1)) (k:Nat):Kp key (kas_rev p i j) k=Kp key p k:=by
 rw [yyT hj]
 split
 .rename_i h
  rw [he (i+j-1-k) (by omega) (by omega),he k h.1 h.2]
 .rfl
theorem yqO:∀ (f:Nat) (p:Array Nat) (n q:Nat),n+f<=p.size->q+1<=n->Dn key p n->(∀ k,n-(q+1)<=k->k<n->Kp key p k=Kp key p (n-1)) ->
  let r:=run (ltK key) (kas_desc f p n q)
  r.1.Perm p/\r.1.size=p.size/\n<=r.2.1/\r.2.1<=n+f/\r.2.2+1<=r.2.1/\Dn key r.1 r.2.1/\(∀ k,r.2.1-(r.2.2+1)<=k->k<r.2.1->Kp key r.1 k=Kp key r.1 (r.2.1-1))
 | 0,p,n,q,hs,hq,hd,he=>⟨Array.Perm.refl _,rfl,Nat.le_refl _,Nat.le_refl _,hq,hd,he⟩
 | f+1,p,n,q,hs,hq,hd,he=>by
  intro r
  have e:r=run (ltK key) (if ltK key (p.getD n 0) (p.getD (n-1) 0)=true then (if q>0 then kas_desc f (kas_rev p (n-(q+1)) n) (n+1) 0 else kas_desc f p (n+1) 0)
   else .ask (p.getD (n-1) 0) (p.getD n 0) fun d=>if d=true then .ret (p,n,q) else kas_desc f p (n+1) (q+1)):=rfl
  rw [yyR] at e
  by_cases hc:Kp key p n<Kp key p (n-1)
  .rw [decide_eq_true hc,if_pos rfl] at e
   by_cases h0:q>0
   .rw [if_pos h0] at e
    have kk:∀ k,Kp key (kas_rev p (n-(q+1)) n) k=Kp key p k:=fun k=>yok (by omega) he k
    have hd':Dn key (kas_rev p (n-(q+1)) n) (n+1):=fun i j hij hj=>by
     rw [kk,kk]
     exact hd.succ (by omega) (by omega) i j hij hj
    obtain ⟨a1,a2,a3,a4,a5,a6,a7⟩:=yqO f (kas_rev p (n-(q+1)) n) (n+1) 0 (by rw [yio];omega) (by omega) hd' (fun k h1 h2=>by rw [show k=n+1-1 by omega])
    rw [e]
    exact ⟨a1.trans (ygH _ _ _),a2.trans (yio _ _ _),by omega,by omega,a5,a6,a7⟩
   .rw [if_neg h0] at e
    obtain ⟨a1,a2,a3,a4,a5,a6,a7⟩:=yqO f p (n+1) 0 (by omega) (by omega) (hd.succ (by omega) (by omega)) (fun k h1 h2=>by rw [show k=n+1-1 by omega])
    rw [e]
    exact ⟨a1,a2,by omega,by omega,a5,a6,a7⟩
  .rw [decide_eq_false hc,if_neg (by simp)] at e
   have e:r=run (ltK key) (if ltK key (p.getD (n-1) 0) (p.getD n 0)=true then .ret (p,n,q) else kas_desc f p (n+1) (q+1)):=e
   rw [yyR] at e
   by_cases hc2:Kp key p (n-1)<Kp key p n
   .rw [decide_eq_true hc2,if_pos rfl] at e
    rw [e]
    exact ⟨Array.Perm.refl _,rfl,Nat.le_refl _,by show n<=n+(f+1);omega,hq,hd,he⟩
   .rw [decide_eq_false hc2,if_neg (by simp)] at e
    have heq:Kp key p n=Kp key p (n-1):=by omega
    obtain ⟨a1,a2,a3,a4,a5,a6,a7⟩:=yqO f p (n+1) (q+1) (by omega) (by omega) (hd.succ (by omega) (by omega)) (fun k h1 h2=>by
     by_cases hk:k=n
     .rw [hk];rfl
     .rw [he k (by omega) (by omega),show n+1-1=n by omega,heq])
    rw [e]
    exact ⟨a1,a2,by omega,by omega,a5,a6,a7⟩
theorem Dn.rev {p:Array Nat}{n:Nat}(hn:n<=p.size) (h:Dn key p n):Up key (kas_rev p 0 n) n:=fun i j hij hj=>by
 rw [yyT hn,yyT hn,if_pos ⟨by omega,by omega⟩,if_pos ⟨by omega,by omega⟩]
 exact h _ _ (by omega) (by omega)
theorem yvY {p:Array Nat}{n nrem:Nat}(h1:1<=n) (hn:n<=nrem) (hs:nrem<=p.size) (h:Dn key p n) :
  let r:=run (ltK key) (kas_tail3 n nrem p)
  r.2.Perm p/\r.2.size=p.size/\1<=r.1/\r.1<=nrem/\Up key r.2 r.1:=by
 intro r
 have e:r=(run (ltK key) (kas_asc (kas_rev p 0 n) (nrem-n) n),kas_rev p 0 n):=by show run _ (KasT.bind _ _)=_;rw [yjI];rfl
 obtain ⟨a,b,c,_⟩:=yyS (kas_rev p 0 n) (nrem-n) n h1 (h.rev (by omega))
 rw [e]
 exact ⟨ygH _ _ _,yio _ _ _,by omega,by omega,c⟩
theorem yol {p:Array Nat}{n nrem:Nat}(h1:1<=n) (hn:n<nrem) (hs:nrem<=p.size) (h:Dn key p (n+1)) :
  let r:=run (ltK key) (kas_descPart n nrem p)
  r.2.Perm p/\r.2.size=p.size/\1<=r.1/\r.1<=nrem/\Up key r.2 r.1:=by
 intro r
 obtain ⟨a1,a2,a3,a4,a5,a6,a7⟩:=yqO (key:=key) (nrem-(n+1)) p (n+1) 0 (by omega) (by omega) h (fun k h1 h2=>by rw [show k=n+1-1 by omega])
 generalize hd:run (ltK key) (kas_desc (nrem-(n+1)) p (n+1) 0)=d at *
 have e:r=run (ltK key) (if d.2.2>0 then kas_tail3 d.2.1 nrem (kas_rev d.1 (d.2.1-(d.2.2+1)) d.2.1) else kas_tail3 d.2.1 nrem d.1):=by show run _ (KasT.bind _ _)=_;rw [yjI,hd]
 by_cases h0:d.2.2>0
 .rw [if_pos h0] at e
  have kk:∀ k,Kp key (kas_rev d.1 (d.2.1-(d.2.2+1)) d.2.1) k=Kp key d.1 k:=fun k=>yok (by omega) a7 k
  obtain ⟨b1,b2,b3,b4,b5⟩:=yvY (key:=key) (p:=kas_rev d.1 (d.2.1-(d.2.2+1)) d.2.1) (n:=d.2.1) (nrem:=nrem) (by omega) (by omega) (by rw [yio];omega) (fun i j hij hj=>by rw [kk,kk];exact a6 i j hij hj)
  rw [e]
  exact ⟨b1.trans ((ygH _ _ _).trans a1),b2.trans ((yio _ _ _).trans a2),b3,b4,b5⟩
 .rw [if_neg h0] at e
  obtain ⟨b1,b2,b3,b4,b5⟩:=yvY (key:=key) (p:=d.1) (n:=d.2.1) (nrem:=nrem) (by omega) (by omega) (by omega) a6
  rw [e]
  exact ⟨b1.trans a1,b2.trans a2,b3,b4,b5⟩
theorem yvZ {p:Array Nat}{nrem:Nat}(h1:1<=nrem) (hs:nrem<=p.size) :
  let r:=run (ltK key) (kas_count nrem p)
  r.2.Perm p/\r.2.size=p.size/\1<=r.1/\r.1<=nrem/\Up key r.2 r.1:=by
 intro r
 obtain ⟨a,b,c,d⟩:=yyS (key:=key) p (nrem-1) 1 (Nat.le_refl _) (fun i j hij hj=>by rw [show i=j by omega];exact Int.le_refl _)
 generalize hn:run (ltK key) (kas_asc p (nrem-1) 1)=n at *
 have e:r=run (ltK key) (if (n == nrem)=true then .ret (n,p) else if n>1 then .ask (p.getD 0 0) (p.getD (n-1) 0) fun c=>if c=true then .ret (n,p) else kas_descPart n nrem (kas_rev p 0 n)
  else kas_descPart n nrem p):=by show run _ (KasT.bind _ _)=_;rw [yjI,hn]
 by_cases e1:n=nrem
 .rw [if_pos (by simp [e1])] at e
  rw [e]
  exact ⟨Array.Perm.refl _,rfl,a,by show n<=nrem;omega,c⟩
 .rw [if_neg (by simp [e1])] at e
  have dn:=d (by omega)
  by_cases h2:n>1
  .rw [if_pos h2] at e
   have e:r=run (ltK key) (if ltK key (p.getD 0 0) (p.getD (n-1) 0)=true then .ret (n,p) else kas_descPart n nrem (kas_rev p 0 n)):=e
   rw [yyR] at e
   by_cases hc:Kp key p 0<Kp key p (n-1)
   .rw [decide_eq_true hc,if_pos rfl] at e
    rw [e]
    exact ⟨Array.Perm.refl _,rfl,a,by show n<=nrem;omega,c⟩
   .rw [decide_eq_false hc,if_neg (by simp)] at e
    have eqs:∀ k,0<=k->k<n->Kp key p k=Kp key p (n-1):=fun k _ hk=>by
     have u1:=c 0 k (by omega) hk
     have u2:=c k (n-1) (by omega) (by omega)
     omega
    have kk:∀ k,Kp key (kas_rev p 0 n) k=Kp key p k:=fun k=>yok (by omega) eqs k
    have hdn:Dn key (kas_rev p 0 n) (n+1):=fun i j hij hj=>by
     rw [kk,kk]
     by_cases ej:j=n
     .subst ej
      by_cases ei:i=j
      .rw [ei];exact Int.le_refl _
      .rw [eqs i (by omega) (by omega)];omega
     .rw [eqs i (by omega) (by omega),eqs j (by omega) (by omega)];exact Int.le_refl _
    obtain ⟨b1,b2,b3,b4,b5⟩:=yol (key:=key) (p:=kas_rev p 0 n) (n:=n) (nrem:=nrem) a (by omega) (by rw [yio];omega) hdn
    rw [e]
    exact ⟨b1.trans (ygH _ _ _),b2.trans (yio _ _ _),b3,b4,b5⟩
  .rw [if_neg h2] at e
   have hn1:n=1:=by omega
   subst hn1
   obtain ⟨b1,b2,b3,b4,b5⟩:=yol (key:=key) (p:=p) (n:=1) (nrem:=nrem) (by omega) (by omega) hs (fun i j hij hj=>by
    by_cases e3:i=j
    .rw [e3];exact Int.le_refl _
    .rw [show i=0 by omega,show j=1 by omega]
     exact Int.le_of_lt dn)
   rw [e]
   exact ⟨b1,b2,b3,b4,b5⟩
theorem yqP {p:Array Nat}{k:Nat}(hu:Up key p k):∀ (f l r:Nat),r<=k->l<=r->r-l<=f->(∀ i,i<l->Kp key p i<=Kp key p k)->(∀ i,r<=i->i<k->Kp key p k<Kp key p i) ->
  let m:=run (ltK key) (kas_place p k f l r)
  m<=k/\(∀ i,i<m->Kp key p i<=Kp key p k)/\(∀ i,m<=i->i<k->Kp key p k<Kp key p i)
 | 0,l,r,hr,hl,hf,h1,h2=>by
  have:l=r:=by omega
  subst this
  exact ⟨hr,h1,h2⟩
 | f+1,l,r,hr,hl,hf,h1,h2=>by
  intro m
  have e:m=run (ltK key) (if l>=r then .ret l else .ask (p.getD k 0) (p.getD ((l+r)/2) 0) fun c=>if c=true then kas_place p k f l ((l+r)/2) else kas_place p k f ((l+r)/2+1) r):=rfl
  by_cases hlr:l>=r
  .rw [if_pos hlr] at e
   have:l=r:=by omega
   subst this
   rw [e]
   exact ⟨hr,h1,h2⟩
  .rw [if_neg hlr] at e
   have e:m=run (ltK key) (if ltK key (p.getD k 0) (p.getD ((l+r)/2) 0)=true then kas_place p k f l ((l+r)/2) else kas_place p k f ((l+r)/2+1) r):=e
   rw [yyR] at e
   by_cases hc:Kp key p k<Kp key p ((l+r)/2)
   .rw [decide_eq_true hc,if_pos rfl] at e
    rw [e]
    exact yqP hu f l ((l+r)/2) (by omega) (by omega) (by omega) h1 (fun i h3 h4=>by have:=hu ((l+r)/2) i h3 h4;omega)
   .rw [decide_eq_false hc,if_neg (by simp)] at e
    rw [e]
    exact yqP hu f ((l+r)/2+1) r hr (by omega) (by omega) (fun i h3=>by have:=hu i ((l+r)/2) (by omega) (by omega);omega) h2
theorem yyU {p:Array Nat}{src d:Nat}(hs:src<p.size) (hd:d<=src) (k:Nat):Kp key (bubble p src d) k=if k=src-d then Kp key p src else if src-d<k/\k<=src then Kp key p (k-1) else Kp key p k:=by
 unfold Kp
 rw [getElem?_bubble hs d hd]
 repeat' split
 all_goals rfl
theorem yCK:∀ (f:Nat) (p:Array Nat) (k:Nat),k+f<=p.size->Up key p k->(run (ltK key) (kas_bin f p k)).Perm p/\Up key (run (ltK key) (kas_bin f p k)) (k+f)
 | 0,p,k,_,h=>⟨Array.Perm.refl _,h⟩
 | f+1,p,k,hs,h=>by
  obtain ⟨a1,a2,a3⟩:=yqP (key:=key) h k 0 k (Nat.le_refl _) (by omega) (by omega) (fun i hi=>by omega) (fun i h1 h2=>by omega)
  generalize hl:run (ltK key) (kas_place p k k 0 k)=l at *
  have e:run (ltK key) (kas_bin (f+1) p k)=run (ltK key) (kas_bin f (bubble p k (k-l)) (k+1)):=by show run _ (KasT.bind _ _)=_;rw [yjI,hl]
  have hk:∀ i,Kp key (bubble p k (k-l)) i=if i=l then Kp key p k else if l<i/\i<=k then Kp key p (i-1) else Kp key p i:=fun i=>by
   rw [yyU (by omega) (by omega),show k-(k-l)=l by omega]
  have hu:Up key (bubble p k (k-l)) (k+1):=fun i j hij hj=>by
   rw [hk,hk]
   by_cases i1:i=l
   .rw [if_pos i1]
    by_cases j1:j=l
    .rw [if_pos j1];exact Int.le_refl _
    .rw [if_neg j1,if_pos ⟨by omega,by omega⟩]
     have:=a3 (j-1) (by omega) (by omega);omega
   .rw [if_neg i1]
    by_cases i2:l<i/\i<=k
    .rw [if_pos i2,if_neg (by omega),if_pos ⟨by omega,by omega⟩]
     exact h _ _ (by omega) (by omega)
    .rw [if_neg i2]
     have il:i<l:=by omega
     by_cases j1:j=l
     .rw [if_pos j1];exact a2 i il
     .rw [if_neg j1]
      split
      .exact h _ _ (by omega) (by omega)
      .exact h _ _ (by omega) (by omega)
  obtain ⟨b1,b2⟩:=yCK f (bubble p k (k-l)) (k+1) (by rw [bubble_size];omega) hu
  rw [e]
  exact ⟨b1.trans (bubble_perm _ _ _),by rw [show k+(f+1)=k+1+f by omega];exact b2⟩
theorem yyV {n:Nat}(h1:1<=n):(run (ltK key) (kas_sort n)).Perm (List.toArray (List.range n))/\Up key (run (ltK key) (kas_sort n)) n:=by
 have hs:(List.toArray (List.range n)).size=n:=by simp
 obtain ⟨a1,a2,a3,a4,a5⟩:=yvZ (key:=key) (p:=List.toArray (List.range n)) (nrem:=n) h1 (by omega)
 generalize hr:run (ltK key) (kas_count n (List.toArray (List.range n)))=r at *
 have e:run (ltK key) (kas_sort n)=run (ltK key) (if r.1<n then kas_bin (n-max r.1 1) r.2 (max r.1 1) else .ret r.2):=by show run _ (KasT.bind _ _)=_;rw [yjI,hr]
 by_cases h:r.1<n
 .rw [if_pos h] at e
  obtain ⟨b1,b2⟩:=yCK (key:=key) (n-max r.1 1) r.2 (max r.1 1) (by omega) (by rw [Nat.max_eq_left a3];exact a5)
  rw [e]
  exact ⟨b1.trans a1,by rw [show max r.1 1+(n-max r.1 1)=n by omega] at b2;exact b2⟩
 .rw [if_neg h] at e
  rw [e]
  exact ⟨a1,by rw [show n=r.1 by omega];exact a5⟩
noncomputable def AskIn {α:Type}(P:Nat->Prop) (lt:Nat->Nat->Bool):KasT α->Prop
 | .ret _=>True
 | .ask i j k=>P i/\P j/\AskIn P lt (k (lt i j))
theorem AskIn.bind {α β:Type}{P:Nat->Prop}{lt:Nat->Nat->Bool}{f:α->KasT β}:∀ {t:KasT α},AskIn P lt t->AskIn P lt (f (run lt t))->AskIn P lt (t.bind f)
 | .ret _,_,h=>h
 | .ask _ _ _,⟨a,b,c⟩,h=>⟨a,b,AskIn.bind c h⟩
theorem yHa {α:Type}{P:Nat->Prop}{lt:Nat->Nat->Bool}{cmp:Nat->Nat->(Bool->Shared->Prop)->Shared->Prop}{s:Shared}(hc:∀ i j C,P i->P j->C (lt i j) s->cmp i j C s) {Q:α->Shared->Prop} :
  ∀ (t:KasT α),AskIn P lt t->Q (run lt t) s->t.kasWp cmp Q s
 | .ret _,_,h=>h
 | .ask i j k,⟨a,b,c⟩,h=>hc i j _ a b (yHa hc (k (lt i j)) c h)
section
variable {P:Nat->Prop}{lt:Nat->Nat->Bool}
noncomputable def All (P:Nat->Prop) (p:Array Nat):Prop:=∀ i,P (p.getD i 0)
theorem All.of_perm {p q:Array Nat}(h0:P 0) (h:All P p) (e:q.Perm p):All P q:=fun i=>by
 rw [yoj]
 by_cases hi:i<q.size
 .rw [Array.getElem?_eq_getElem hi]
  show P q[i]
  have hm:q[i]∈p:=(e.mem_iff).mp (Array.getElem_mem hi)
  obtain ⟨j,hj,e2⟩:=Array.getElem_of_mem hm
  have:=h j
  rw [yoj,Array.getElem?_eq_getElem hj] at this
  rw [<- e2];exact this
 .rw [Array.getElem?_eq_none (by omega)];exact h0
theorem yyW {p:Array Nat}(h:All P p):∀ (f n:Nat),AskIn P lt (kas_asc p f n)
 | 0,_=>trivial
 | f+1,n=>⟨h _,h _,by show AskIn P lt (if _ then _ else _);split;trivial;exact yyW h f (n+1)⟩
theorem yqQ (h0:P 0):∀ (f:Nat) (p:Array Nat) (n q:Nat),All P p->AskIn P lt (kas_desc f p n q)
 | 0,_,_,_,_=>trivial
 | f+1,p,n,q,h=>by
  refine ⟨h _,h _,?_⟩
  show AskIn P lt (if _ then _ else _)
  split
  .split
   .exact yqQ h0 f _ _ _ (h.of_perm h0 (ygH _ _ _))
   .exact yqQ h0 f _ _ _ h
  .refine ⟨h _,h _,?_⟩
   show AskIn P lt (if _ then _ else _)
   split
   .trivial
   .exact yqQ h0 f _ _ _ h
theorem ykR:∀ (f:Nat) (p:Array Nat) (n q:Nat),(run lt (kas_desc f p n q)).1.Perm p
 | 0,_,_,_=>Array.Perm.refl _
 | f+1,p,n,q=>by
  show (run lt (if lt (p.getD n 0) (p.getD (n-1) 0)=true then (if q>0 then kas_desc f (kas_rev p (n-(q+1)) n) (n+1) 0 else kas_desc f p (n+1) 0)
   else .ask (p.getD (n-1) 0) (p.getD n 0) fun d=>if d=true then .ret (p,n,q) else kas_desc f p (n+1) (q+1))).1.Perm p
  split
  .split
   .exact (ykR f _ _ _).trans (ygH _ _ _)
   .exact ykR f _ _ _
  .show (run lt (if lt (p.getD (n-1) 0) (p.getD n 0)=true then .ret (p,n,q) else kas_desc f p (n+1) (q+1))).1.Perm p
   split
   .exact Array.Perm.refl _
   .exact ykR f _ _ _
theorem ywa (h0:P 0) {p:Array Nat}(h:All P p) (n nrem:Nat):AskIn P lt (kas_tail3 n nrem p):=AskIn.bind (yyW (h.of_perm h0 (ygH _ _ _)) _ _) trivial
theorem yom (h0:P 0) {p:Array Nat}(h:All P p) (n nrem:Nat):AskIn P lt (kas_descPart n nrem p):=by
 refine AskIn.bind (yqQ h0 _ _ _ _ h) ?_
 have:=h.of_perm h0 (ykR (lt:=lt) (nrem-(n+1)) p (n+1) 0)
 split
 .exact ywa h0 (this.of_perm h0 (ygH _ _ _)) _ _
 .exact ywa h0 this _ _
theorem yBp (h0:P 0) {p:Array Nat}(h:All P p) (nrem:Nat):AskIn P lt (kas_count nrem p):=by
 refine AskIn.bind (yyW h _ _) ?_
 split
 .trivial
 .split
  .refine ⟨h _,h _,?_⟩
   show AskIn P lt (if _ then _ else _)
   split
   .trivial
   .exact yom h0 (h.of_perm h0 (ygH _ _ _)) _ _
  .exact yom h0 h _ _
theorem yqR {p:Array Nat}(h:All P p) (k:Nat):∀ (f l r:Nat),AskIn P lt (kas_place p k f l r)
 | 0,_,_=>trivial
 | f+1,l,r=>by
  show AskIn P lt (if _ then _ else _)
  split
  .trivial
  .refine ⟨h _,h _,?_⟩
   show AskIn P lt (if _ then _ else _)
   split
   .exact yqR h k f _ _
   .exact yqR h k f _ _
theorem yCL (h0:P 0):∀ (f:Nat) (p:Array Nat) (k:Nat),All P p->AskIn P lt (kas_bin f p k)
 | 0,_,_,_=>trivial
 | f+1,p,k,h=>AskIn.bind (yqR h k _ _ _) (yCL h0 f _ _ (h.of_perm h0 (bubble_perm _ _ _)))
end
theorem yEJ {n:Nat}(h1:1<=n):AskIn (· < n) (ltK key) (kas_sort n):=by
 have h:All (· < n) (List.toArray (List.range n)):=fun i=>by
  rw [yoj]
  by_cases hi:i<n
  .simp [hi]
  .simp [hi];omega
 refine AskIn.bind (yBp (by omega) h n) ?_
 obtain ⟨a1,_⟩:=yvZ (key:=key) (p:=List.toArray (List.range n)) (nrem:=n) h1 (by simp)
 split
 .exact yCL (by omega) _ _ _ (h.of_perm (by omega) a1)
 .trivial
end
end KasS
namespace KasS
open PySem PySem.W PyProof.Rows PySem.Calls
noncomputable def Tps (h:Heap):List Value->List (Int×Tok×Value)->Prop
 | [],[]=>True
 | v::vs,p::ps=>(∃ b o m,v=.ref b/\h.get? b=some o/\o.cls=.type "tuple"/\o.data=.seq #[.int p.1 p.2.1,p.2.2] m)/\Tps h vs ps
 | _,_=>False
theorem Tps.len {h:Heap}:∀ {vs:List Value}{ps:List (Int×Tok×Value)},Tps h vs ps->ps.length=vs.length
 | [],[],_=>rfl
 | _::_,_::_,⟨_,t⟩=>by rw [List.length_cons,List.length_cons,Tps.len t]
 | [],_::_,t=>t.elim
 | _::_,[],t=>t.elim
theorem Tps.get {h:Heap}:∀ {vs:List Value}{ps:List (Int×Tok×Value)},Tps h vs ps->∀ i,i<vs.length->∃ p b o m,ps[i]?=some p/\vs.getD i .none=.ref b/\h.get? b=some o/\o.cls=.type "tuple"/\o.data=.seq #[.int p.1 p.2.1,p.2.2] m
 | _::_,p::_,⟨⟨b,o,m,e1,e2,e3,e4⟩,_⟩,0,_=>⟨p,b,o,m,rfl,by rw [e1];rfl,e2,e3,e4⟩
 | _::vs,_::ps,⟨_,t⟩,i+1,hi=>by
  obtain ⟨p,b,o,m,e1,e2,e3⟩:=Tps.get t i (by simpa using hi)
  exact ⟨p,b,o,m,by simpa using e1,by simpa using e2,e3⟩
 | [],[],_,_,hi=>by simp at hi
 | [],_::_,t,_,_=>t.elim
 | _::_,[],t,_,_=>t.elim
theorem Tps.mono {h h':Heap}:∀ {vs:List Value}{ps:List (Int×Tok×Value)},Tps h vs ps->(∀ b o,Value.ref b∈vs->h.get? b=some o->h'.get? b=some o)->Tps h' vs ps
 | [],[],_,_=>trivial
 | _::_,_::_,⟨⟨b,o,m,e1,e2,e3⟩,t⟩,k=>⟨⟨b,o,m,e1,k b o (by rw [e1];exact List.mem_cons_self) e2,e3⟩,Tps.mono t fun b o hb=>k b o (List.mem_cons_of_mem _ hb)⟩
 | [],_::_,t,_=>t.elim
 | _::_,[],t,_=>t.elim
theorem Tps.kat {h:Heap}:∀ {vs:List Value}{ps:List (Int×Tok×Value)},Tps h vs ps->KatTups h vs (ps.map fun p=>Value.int p.1 p.2.1)
 | [],[],_=>trivial
 | _::_,p::_,⟨⟨b,o,m,e1,e2,e3,e4⟩,t⟩=>⟨⟨b,o,_,m,e1,e2,e3,e4,rfl⟩,Tps.kat t⟩
 | [],_::_,t=>t.elim
 | _::_,[],t=>t.elim
noncomputable def ykm (ps:List (Int×Tok×Value)) (i:Nat):Int:=((ps[i]?).map (·.1)).getD 0
theorem yyX {ps:List (Int×Tok×Value)}(hn:(ps.map (·.1)).Nodup) {i j:Nat}(hi:i<ps.length) (hj:j<ps.length) (e:ykm ps i=ykm ps j):i=j:=by
 unfold ykm at e
 rw [List.getElem?_eq_getElem hi,List.getElem?_eq_getElem hj] at e
 have e:ps[i].1=ps[j].1:=e
 have h1:i<(ps.map (·.1)).length:=by simpa using hi
 have h2:j<(ps.map (·.1)).length:=by simpa using hj
 exact (List.getElem_inj (h₀:=h1) (h₁:=h2) hn).mp (by simpa using e)
section
variable {prog:Program}{w:World}{A:Around}{E:Value->Shared->Prop}{s:Shared}
theorem yEK {vs:List Value}{ps:List (Int×Tok×Value)}(tp:Tps s.heap vs ps) (hn:(ps.map (·.1)).Nodup) (i j:Nat) (C:Bool->Shared->Prop) (hi:i<vs.length) (hj:j<vs.length) (hC:C (ltK (ykm ps) i j) s) :
  kas_ask prog w A (tuples' true) vs i j C s:=by
 obtain ⟨p,b,o,m,e1,e2,e3,e4,e5⟩:=tp.get i hi
 obtain ⟨p',b',o',m',f1,f2,f3,f4,f5⟩:=tp.get j hj
 have k1:ykm ps i=p.1:=by unfold ykm;rw [e1];rfl
 have k2:ykm ps j=p'.1:=by unfold ykm;rw [f1];rfl
 unfold ltK at hC
 rw [k1,k2] at hC
 unfold kas_ask
 rw [e2,f2]
 refine kat_lt e3 e5 f3 f5 ?_
 show KatLex prog w A true (decide (2<2)) C [(Value.int p.1 p.2.1,Value.int p'.1 p'.2.1),(p.2.2,p'.2.2)] 0 s
 refine kat_cons (L2.eqAt_V (y:=.int p.1) (x:=.int p'.1) ⟨_,rfl⟩ ⟨_,rfl⟩ rfl rfl prog w _ _ ?_)
 show KatGo prog w A true _ C _ _ _ 0 (p.1 == p'.1) s
 by_cases e:p.1=p'.1
 .rw [beq_iff_eq.mpr e]
  have hij:i=j:=yyX hn (by rw [tp.len];exact hi) (by rw [tp.len];exact hj) (by rw [k1,k2,e])
  subst hij
  rw [e1] at f1
  cases f1
  refine kat_yes (kat_cons (SeqAt.EqAt.same _ prog w _ _ (kat_yes (kat_nil ?_))))
  rw [decide_eq_false (by omega)] at hC
  exact hC
 .rw [beq_eq_false_iff_ne.mpr e]
  exact kat_no (oneLt_int hC)
theorem yBq {a:Addr}{vs:List Value}{ps:List (Int×Tok×Value)}{n:Nat}{P:PySem.Fin->Shared->Prop}(ho:s.heap.get? a=some (seqObj "list" vs.toArray n)) (tp:Tps s.heap vs ps) (na:Value.ref a∉vs) (hn:(ps.map (·.1)).Nodup) (h64:vs.length<64)
  (h:∀ q:Array Nat,q.Perm (List.toArray (List.range vs.length))->Up (ykm ps) q vs.length->P (.done (.ret .none)) { s with heap:=sortedHeap s.heap a vs (List.toArray (q.toList.map fun i=>vs.getD i Value.none)) }) :
  wpAny (model prog w) A (Builtin.«list.sort» ⟨[.ref a],[]⟩) P E s:=by
 have ha:a<s.heap.objs.size:=Heap.lt_size ho
 have z64:vs.length<=sizeLine:=by rw [sizeLine_eq];omega
 rw [list_sort_plain]
 obtain ⟨e1,ho1⟩:∃ e1,(s.heap.update a (Obj.mapSeq fun _=>(#[]:Array Value))).get? a=some (seqObj "list" #[] e1):=⟨_,get?_update_seq ho _⟩
 refine wpAny_bind (listItems_at ho rfl (wpAny_bind (listUpdate_at ho rfl (wpAny_bind (seqEpoch_at ho1 rfl (wpAny_bind (wpAny_newTuple (wpAny_bind (wpAny_newList (wpAny_holding ?_) (Nat.zero_le _))) (by simpa using z64))))) (by simpa using z64) (Nat.zero_le _))))
 generalize hH:((s.heap.update a (Obj.mapSeq fun _=>(#[]:Array Value))).push (seqObj "tuple" vs.toArray 0)).push (seqObj "list" #[] 0)=H6
 have keep:∀ b o,b≠a->s.heap.get? b=some o->H6.get? b=some o:=fun b o hb e=>by
  rw [<- hH]
  exact Heap.get?_push_of_some _ (Heap.get?_push_of_some _ ((Heap.get?_update_other _ _ (Ne.symm hb)).trans e))
 have ho6:H6.get? a=some (seqObj "list" #[] e1):=by rw [<- hH];exact Heap.get?_push_of_some _ (Heap.get?_push_of_some _ ho1)
 have tp6:Tps H6 vs ps:=tp.mono fun b o hb e=>keep b o (fun z=>na (z ▸ hb)) e
 show wpAny (model prog w) A _ P E { s with heap:=H6 }
 dsimp only
 have fin:∀ q:Array Nat,q.Perm (List.toArray (List.range vs.length))->Up (ykm ps) q vs.length->P (.done (.ret .none)) { s with heap:=H6.update a (Obj.mapSeq fun _=>List.toArray (q.toList.map fun i=>vs.getD i Value.none)) }:=fun q h1 h2=>by
  have:=h q h1 h2
  unfold sortedHeap at this
  rw [show ((s.heap.update a (Obj.mapSeq fun _=>(#[]:Array Value))).push (seqObj "tuple" vs.toArray 0)).push (seqObj "list" #[] 0)=H6 from hH] at this
  exact this
 by_cases h2:vs.toArray.size<2
 .rw [if_pos h2,if_pos h2]
  refine wpAny_bind (wpAny_pure ?_)
  rw [StateT.run_pure]
  have hz:((arrOf (SortSt.mk' general' (vs.toArray.zip vs.toArray) #[] 7 none)).map (·.2))=List.toArray ((List.toArray (List.range vs.length)).toList.map fun i=>vs.getD i Value.none):=by
   show (vs.toArray.zip vs.toArray).map (·.2)=_
   apply Array.toList_inj.mp
   simp only [Array.toList_map,Array.toList_zip,List.map_snd_zip (Nat.le_refl _)]
   apply List.ext_getElem
   .simp
   .intro i h3 h4
    simp
    rw [List.getElem?_eq_getElem (by simpa using h3)];rfl
  refine wpAny_bind (wpAny_pure (wpAny_bind (seqEpoch_at ho6 rfl (wpAny_bind (listUpdate_at ho6 rfl ?_ (Nat.zero_le _) ?_)))))
  .dsimp only
   rw [hz]
   simp only [bne_self_eq_false,Bool.false_eq_true,if_false]
   exact wpAny_pure (fin _ (Array.Perm.refl _) fun i j hij hj=>by rw [show i=j by (simp at h2);omega];exact Int.le_refl _)
  .rw [hz];simp;omega
 .rw [if_neg h2,if_neg h2]
  have hv2:2<=vs.length:=by simp at h2;omega
  refine wpAny_bind (kat_kind (s:={ s with heap:=H6 }) (T:=.type "int") tp6.kat (by rw [List.length_map,tp.len];omega) (fun v hv=>?_) rfl ?_)
  .obtain ⟨p,_,rfl⟩:=List.mem_map.mp hv
   exact .now
  have run1:=kat_run (prog:=prog) (w:=w) (A:=A) (E:=E) (s:={ s with heap:=H6 }) (κ:=tuples' true) (ks:=vs) (vs:=vs)
   (Q:=fun st' s'=>s'={ s with heap:=H6 }/\∃ q:Array Nat,q.Perm (List.toArray (List.range vs.length))/\Up (ykm ps) q vs.length/\(arrOf st').map (·.2)=List.toArray (q.toList.map fun i=>vs.getD i Value.none)/\failedOf st'=none)
   (G:=fun q s'=>s'={ s with heap:=H6 }/\q.Perm (List.toArray (List.range vs.length))/\Up (ykm ps) q vs.length) rfl hv2 h64
   (fun q st' s' z1 z2 z3 z4=>⟨z4.1,q,z4.2.1,z4.2.2,kat_snds rfl z2,z3⟩)
   (yHa (P:=(· < vs.length)) (lt:=ltK (ykm ps)) (fun i j C hi hj hC=>yEK tp6 hn i j C hi hj hC) _ (yEJ (by omega)) ⟨rfl,(yyV (by omega)).1,(yyV (by omega)).2⟩)
  refine wpAny_bind (wpAny_mono run1 ?_ fun _ _ x=>x)
  rintro ⟨⟨⟩,st'⟩ s' ⟨rfl,q,z1,z2,z3,z4⟩
  refine wpAny_bind (seqEpoch_at ho6 rfl (wpAny_bind (listUpdate_at ho6 rfl ?_ (Nat.zero_le _) ?_)))
  .dsimp only
   rw [z3,z4]
   simp only [bne_self_eq_false,Bool.false_eq_true,if_false]
   exact wpAny_pure (fin q z1 z2)
  .dsimp only
   rw [z3]
   have:=z1.size_eq
   simp at this ⊢
   omega
end
end KasS
namespace PXS
open PySem L2 PySem.Spec PyProof.Rows KasS PX
theorem ywb {P:Program}{w:World}{H:Hp}{h:Heap}{a:Addr}{o:HO}(x:ObjOk P w H h a o):∃ u,h.get? a=some u:=by
 cases o with
 | lst xs=>obtain ⟨_,_,_,_,e⟩:=x;exact ⟨_,e⟩
 | tup xs=>obtain ⟨_,_,_,ob,e,_⟩:=x;exact ⟨_,e⟩
 | dK kvs=>obtain ⟨_,_,_,_,o,_,_,e,_⟩:=x;exact ⟨_,e⟩
 | dT kvs=>obtain ⟨_,_,_,_,o,_,_,e,_⟩:=x;exact ⟨_,e⟩
 | set S n=>obtain ⟨o,_,_,_,e,_⟩:=x;exact ⟨_,e⟩
 | ins C dx fs=>obtain ⟨_,_,_,e,_⟩:=x;exact ⟨_,e⟩
 | own y=>obtain ⟨_,e⟩:=x;exact ⟨_,e⟩
 | xd fs=>obtain ⟨_,⟨_,_,_,e,_⟩,_⟩:=x;exact ⟨_,e⟩
 | rng lo hi=>obtain ⟨_,_,_,e⟩:=x;exact ⟨_,e⟩
 | frz ob u=>obtain ⟨e,_⟩:=x;exact ⟨_,e⟩
 | tbl ps=>exact ⟨_,show h.get? a=some _ from x⟩
 | met f y=>exact ⟨_,show h.get? a=some _ from x⟩
 | ext φ=>obtain ⟨_,⟨_,e⟩,_⟩:=x;exact ⟨_,e⟩
section
variable {X:Cx}
theorem yBr:MtM X "dict.items" yCG:=by
 intro pins s σ H x vs v us Q I rx rv h
 obtain ⟨d,kvs,rfl,rfl,hH,q⟩:=h
 cases rx
 have hus:=rv.zero
 subst hus
 obtain ⟨z,sy,ws,kv,hD⟩:=I.hok d _ hH
 refine call_meetsIn PySem.F.slot_dict_items hD.typeIs PySem.F.entry_dict_items (PySem.F.args_dict_items_1 _) (meets_dict_items _ d sy) ⟨⟨ws,hD⟩,?_⟩
 refine ⟨.ref _,_,I.laid (t':=s.toks) (o:=yuK s.heap.objs.size d) (fun _ _ q=>Heap.get?_push_of_some _ q) (Nat.le_refl _) ⟨Heap.get?_push_size _ rfl,⟨_,Heap.get?_push_size _ rfl⟩,fun h1 h2 e k=>k _ e⟩,rfl,q _ I.fresh⟩
theorem yyY {pins:List (Addr×Obj)}{σ:L2.St}{H H':Hp}{s:Shared}{h':Heap}{t':Nat}(I:Inv X pins σ H s) (k:∀ b u,s.heap.get? b=some u->h'.get? b=some u) (sub:∀ b o,H b=some o->H' b=some o)
  (nw:∀ b o,H b=none->H' b=some o->s.heap.get? b=none/\ObjOk X.prog X.w H' h' b o):Inv X pins σ H' { s with heap:=h',toks:=t' }:=by
 refine I.un ⟨fun b u q _ _ _=>k b u q,fun b u q _ _ _=>⟨u.slots,k b u q⟩,fun b u q n _=>?_,fun b u q _=>⟨u,k b u q⟩,fun b xs q=>sub _ _ q,fun b u xs q=>sub _ _ q,fun b ps q=>⟨#[],by rw [sub _ _ q];simp⟩⟩ fun b o e=>?_
 .cases e:H' b with
  | none=>rfl
  | some o=>rw [(nw b o n e).1] at q;cases q
 .cases e2:H b with
  | none=>exact (nw b o e2 e).2
  | some u =>
   have:=sub _ _ e2
   rw [e] at this
   cases this
   exact (I.hok b o e2).stay (fun c v _ q=>k c v q) (fun c q=>sub _ _ q) fun c xs q=>sub _ _ q
theorem yCM {h:Heap}:∀ (as:List Addr) (ws:List (Key×Value)) (ns:List Int),as.length=ws.length->ws.map (·.1)=ns.map Sum.inl ->
  (∀ (j:Nat) (a:Addr),as[j]?=some a->∃ key k x,ws[j]?=some (k,x)/\ytZ k key=true/\h.get? a=some { cls:=.type "tuple",data:=.seq #[key,x] }) ->
  ∃ ps,Tps h (as.map Value.ref) ps/\ps.map (·.1)=ns/\ps.map (·.2.2)=ws.map (·.2)
 | [],[],ns,_,e,_=>⟨[],trivial,by cases ns with|nil=>rfl|cons=>simp at e,rfl⟩
 | [],_::_,_,hl,_,_=>by simp at hl
 | _::_,[],_,hl,_,_=>by simp at hl
 | a::as,(k,x)::ws,ns,hl,e,hp=>by
  cases ns with
  | nil=>simp at e
  | cons n ns =>
   simp only [List.map_cons,List.cons.injEq] at e
   obtain ⟨ps,t,e1,e2⟩:=yCM as ws ns (by simpa using hl) e.2 fun j b hb=>by
    obtain ⟨key,k',x',f1,f2,f3⟩:=hp (j+1) b (by simpa using hb)
    exact ⟨key,k',x',by simpa using f1,f2,f3⟩
   obtain ⟨key,k',x',f1,f2,f3⟩:=hp 0 a rfl
   simp at f1
   obtain ⟨rfl,rfl⟩:=f1
   obtain ⟨j,tk,g1,rfl⟩:∃ j tk,k=Sum.inl j/\key=Value.int j tk:=by
    rcases ybS f2 with ⟨j,tk,g1,g2⟩|⟨y,tk,g1,g2⟩
    .exact ⟨j,tk,g1,g2⟩
    .rw [g1] at e;cases e.1
   rw [g1] at e
   obtain rfl:j=n:=by injection e.1
   exact ⟨(j,tk,x)::ps,⟨⟨a,_,_,rfl,f3,rfl,rfl⟩,t⟩,by rw [List.map_cons,e1],by rw [List.map_cons,e2];rfl⟩
theorem yip {α:Type}:∀ {as:List Addr}{ts:List α}{b:Addr}{t:α},(as.zip ts).lookup b=some t->∃ j:Nat,as[j]?=some b/\ts[j]?=some t
 | [],_,_,_,h=>by simp at h
 | _::_,[],_,_,h=>by simp at h
 | a::as,u::ts,b,t,h=>by
  rw [List.zip_cons_cons,List.lookup_cons] at h
  split at h
  .rename_i hb
   cases h
   exact ⟨0,by rw [eq_of_beq hb];rfl,rfl⟩
  .obtain ⟨j,h1,h2⟩:=yip h
   exact ⟨j+1,by simpa using h1,by simpa using h2⟩
theorem yCN:∀ {kvs:List (Key×V)}{ws:List (Key×Value)},KV kvs ws->ws.map (·.1)=kvs.map (·.1)/\∀ i:Nat,i<kvs.length->RelV ((kvs.map (·.2)).getD i .non) ((ws.map (·.2)).getD i .none):=by
 intro kvs ws h
 induction h with
 | nil=>exact ⟨rfl,fun i hi=>by simp at hi⟩
 | @cons p q _ _ h1 _ ih =>
  refine ⟨by rw [List.map_cons,List.map_cons,ih.1,h1.1],fun i hi=>?_⟩
  cases i with
  | zero=>exact h1.2
  | succ i=>simpa using ih.2 i (by simpa using hi)
theorem ywc {α:Type}{f:α->V}{g:α->Value}:∀ {l:List α},(∀ i∈l,RelV (f i) (g i))->Vals (l.map f) (l.map g)
 | [],_=>.nil
 | i::l,h=>.cons (h i List.mem_cons_self) (ywc fun j hj=>h j (List.mem_cons_of_mem _ hj))
theorem ynj (hc:X.calm=true):ykf X (.builtin "sorted") rSI:=by
 intro pins s σ H xs us Q I rr hh
 obtain ⟨r,d,kvs,ns,rfl,hr,hd,hk,h64,q⟩:=hh
 obtain ⟨u,rfl,rx⟩:=vals1 rr
 cases rx
 obtain ⟨hview,_,_⟩:=I.hok r _ hr
 obtain ⟨z,sy,ws,kv,hD⟩:=I.hok d _ hd
 obtain ⟨ep,hat⟩:=hD.dictAt
 obtain ⟨kv1,kv2⟩:=yCN kv
 have lw:ws.length=kvs.length:=by have:=congrArg List.length kv1;simpa using this
 have ln:ns.length=kvs.length:=by have:=congrArg List.length hk;simpa using this.symm
 have nd:ns.Nodup:=by
  obtain ⟨_,_,_,_,_,_,_,_,n⟩:=hD
  rw [kv1,hk] at n
  exact (List.pairwise_map.mp n).imp fun h e=>h (by rw [e])
 refine Calls.call_function_entry kind_sorted plain_sorted entry_sorted (args_sorted1 _) ?_
 unfold Builtin.«sorted»
 refine wpAny_bind (m:=checkCount "sorted" 1 1 _) (wpAny_pure ?_)
 refine wpAny_bind (PySem.W.kdx_collect (A:=X.A.in1) (knd:=ydz X.prog X.w) (kvs:=ws) (ep:=ep) (I.ok.hd hc) ⟨_,hview,rfl,rfl⟩ hat (by rw [lw];exact z) fun h' tk as keep hl hG=>wpAny_bind (wpAny_newList ?_ (by rw [List.length_map,hl,lw];exact z)))
 obtain ⟨ps,tp,e1,e2⟩:=yCM (h:=h') as ws ns hl (by rw [kv1,hk]) fun j a ha=>hG.pairs j a ha
 have la:as.length=ns.length:=by omega
 have above:∀ a∈as,s.heap.objs.size<a:=hG.above
 have there:∀ a∈as,a<h'.objs.size:=fun a ha=>hG.there ha
 generalize hB:h'.objs.size=B at *
 have noB:s.heap.get? B=none:=by
  cases e:s.heap.get? B with
  | none=>rfl
  | some o=>exact absurd (Heap.lt_size (keep B o e)) (by rw [hB];exact Nat.lt_irrefl _)
 have noA:∀ a∈as,s.heap.get? a=none:=fun a ha=>Heap.get?_none_of_le (Nat.le_of_lt (above a ha))
 have free:∀ b,s.heap.get? b=none->H b=none:=fun b e=>by
  cases e2:H b with
  | none=>rfl
  | some o=>obtain ⟨u,hu⟩:=ywb (I.hok b o e2);rw [e] at hu;cases hu
 have hoL:(h'.push { cls:=.type "list",data:=.seq (as.map Value.ref).toArray }).get? B=some (seqObj "list" (as.map Value.ref).toArray 0):=by rw [<- hB];exact Heap.get?_push_size _ rfl
 refine wpAny_bind (wpAny_holding (wpAny_call_entry PySem.F.slot_list_sort ⟨_,hoL,rfl⟩ PySem.F.entry_list_sort ?body (PySem.F.args_list_sort_1 _)))
 case body =>
  refine yBq (s:={ s with heap:=h'.push { cls:=.type "list",data:=.seq (as.map Value.ref).toArray },toks:=tk }) (ps:=ps) hoL (tp.mono fun b o _ e=>Heap.get?_push_of_some _ e) (fun z=>?_) (by rw [e1];exact nd) (by rw [List.length_map];omega) fun qa z1 z2=>?_
  .obtain ⟨a,ha,e⟩:=List.mem_map.mp z
   cases e
   exact absurd (there B ha) (Nat.lt_irrefl _)
  refine ⟨_,rfl,wpAny_pure ⟨_,rfl,?_⟩⟩
  have lq:qa.toList.length=ns.length:=by have:=z1.size_eq;simpa [la] using this
  have pq:qa.toList.Perm (List.range ns.length):=by have:=Array.perm_iff_toList_perm.mp z1;simpa [la] using this
  have inq:∀ i∈qa.toList,i<ns.length:=fun i hi=>by have:=pq.mem_iff.mp hi;simpa using this
  have nda:as.Nodup:=hG.rise.imp fun h=>Nat.ne_of_lt h
  have ndq:qa.toList.Nodup:=pq.nodup_iff.mpr List.nodup_range
  generalize hS:sortedHeap (h'.push { cls:=.type "list",data:=.seq (as.map Value.ref).toArray }) B (as.map Value.ref) (List.toArray (qa.toList.map fun i=>(as.map Value.ref).getD i Value.none))=S
  have hFa:∀ b o,b≠B->h'.get? b=some o->S.get? b=some o:=fun b o hb e=>by
   rw [<- hS]
   unfold sortedHeap
   exact (Heap.get?_update_other _ _ (Ne.symm hb)).trans (Heap.get?_push_of_some _ (Heap.get?_push_of_some _ ((Heap.get?_update_other _ _ (Ne.symm hb)).trans (Heap.get?_push_of_some _ e))))
  have hFB:∃ c,S.get? B=some (seqObj "list" (List.toArray (qa.toList.map fun i=>(as.map Value.ref).getD i Value.none)) c):=by
   rw [<- hS]
   unfold sortedHeap
   exact ⟨_,get?_update_seq (Heap.get?_push_of_some _ (Heap.get?_push_of_some _ (get?_update_seq hoL _))) _⟩
  have hF:∀ b o,s.heap.get? b=some o->S.get? b=some o:=fun b o e=>hFa b o (fun z=>by rw [z,noB] at e;cases e) (keep b o e)
  have aget:∀ i,i<ns.length->∃ a,as[i]?=some a/\as.getD i 0=a/\a∈as:=fun i hi=>by
   have h1:i<as.length:=by omega
   exact ⟨as[i],List.getElem?_eq_getElem h1,by simp [List.getD,List.getElem?_eq_getElem h1],List.getElem_mem h1⟩
  have mem:∀ a∈(qa.toList.map fun i=>as.getD i 0),a∈as:=fun a ha=>by
   obtain ⟨i,hi,rfl⟩:=List.mem_map.mp ha
   obtain ⟨a,_,e,m⟩:=aget i (inq i hi)
   rw [e];exact m
  have neB:∀ a∈as,a≠B:=fun a ha=>Nat.ne_of_lt (there a ha)
  have kat:∀ i,ykm ps i=ns.getD i 0:=fun i=>by
   unfold ykm
   rw [<- e1]
   simp [List.getD]
  refine ⟨.ref B,yIi H B (qa.toList.map fun i=>as.getD i 0) (qa.toList.map fun i=>[V.int (ns.getD i 0),(kvs.map (·.2)).getD i .non]),?_,rfl,q B _ qa.toList pq ?_ nd (by simp) ?_ ?_⟩
  .show L2.Inv X pins σ _ { s with heap:=S,toks:=tk }
   refine yyY I hF (fun b o e=>?_) fun b o e e2=>?_
   .unfold yIi upd yvQ
    rw [if_neg fun z=>by rw [z,free _ noB] at e;cases e]
    cases e3:List.lookup b ((qa.toList.map fun i=>as.getD i 0).zip (qa.toList.map fun i=>[V.int (ns.getD i 0),(kvs.map (·.2)).getD i .non])) with
    | none=>exact e
    | some t =>
     obtain ⟨j,g1,_⟩:=yip e3
     rw [free _ (noA b (mem b (List.mem_of_getElem? g1)))] at e
     cases e
   .unfold yIi upd yvQ at e2
    split at e2
    .rename_i hb
     subst hb
     cases e2
     obtain ⟨c,hc⟩:=hFB
     refine ⟨noB,by simp [lq];rw [ln];exact z,_,c,?_,hc⟩
     rw [List.map_map]
     refine ywc fun i hi=>?_
     obtain ⟨a,f1,f2,_⟩:=aget i (inq i hi)
     show RelV (V.ref (as.getD i 0)) _
     rw [f2]
     simp [List.getD,f1]
     rfl
    .split at e2
     .rename_i t e3
      cases e2
      obtain ⟨j,g1,g2⟩:=yip e3
      rw [List.getElem?_map] at g1 g2
      cases e4:qa.toList[j]? with
      | none=>rw [e4] at g1;cases g1
      | some i =>
       rw [e4] at g1 g2
       have hi:=inq i (List.mem_of_getElem? e4)
       obtain ⟨a,f1,f2,f3⟩:=aget i hi
       simp only [Option.map_some,Option.some.injEq] at g1 g2
       rw [f2] at g1
       subst g1
       subst g2
       obtain ⟨key,k,x,w1,w2,w3⟩:=hG.pairs i a f1
       have wk:k=Sum.inl (ns.getD i 0):=by
        have h1:(ws.map (·.1))[i]?=some k:=by rw [List.getElem?_map,w1];rfl
        rw [kv1,hk,List.getElem?_map] at h1
        rw [List.getElem?_eq_getElem hi] at h1
        simp [List.getD,List.getElem?_eq_getElem hi] at h1 ⊢
        exact h1.symm
       obtain ⟨tk2,rfl⟩:∃ tk,key=Value.int (ns.getD i 0) tk:=by
        rcases ybS w2 with ⟨j,tk,g1,g2⟩|⟨y,tk,g1,g2⟩
        .rw [wk] at g1;cases g1;exact ⟨tk,g2⟩
        .rw [wk] at g1;cases g1
       have wx:(ws.map (·.2)).getD i .none=x:=by simp [List.getD,w1]
       refine ⟨noA a f3,by simp [sizeLine_eq],[_,x],.cons ⟨_,rfl⟩ (.cons ?_ .nil),_,hFa a _ (neB a f3) w3,rfl,_,rfl⟩
       rw [<- wx]
       exact kv2 i (by omega)
     .rw [e] at e2;cases e2
  .refine List.pairwise_iff_getElem.mpr fun i j hi hj hij=>?_
   have:=z2 i j (Nat.le_of_lt hij) (by simpa [la,lq] using hj)
   unfold Kp at this
   rw [kat,kat] at this
   have hi':i<qa.size:=by simpa using hi
   have hj':j<qa.size:=by simpa using hj
   rw [Array.getElem?_eq_getElem hi',Array.getElem?_eq_getElem hj'] at this
   simpa using this
  .intro a ha
   rcases List.mem_cons.mp ha with rfl|ha
   .exact free _ noB
   .exact free _ (noA a (mem a ha))
  .refine List.nodup_cons.mpr ⟨fun h=>neB _ (mem _ h) rfl,?_⟩
   refine List.pairwise_map.mpr (ndq.imp_of_mem fun {i j} hi hj hij e=>hij ?_)
   obtain ⟨a,f1,f2,_⟩:=aget i (inq i hi)
   obtain ⟨b,g1,g2,_⟩:=aget j (inq j hj)
   rw [f2,g2] at e
   subst e
   exact (List.getElem?_inj (by have:=inq i hi;omega) nda).mp (f1.trans g1.symm)
variable {A:Nat->Addr}{o:Expr}{xa:XE}{pos p apos cpos:Pos}{x:Str}
theorem z_sortI (hc:X.calm=true) (ho:ZE X A o xa) (m:Nm x) (hg:Gl X x) (hm:X.mg x=none) (hv:bootBuiltins x=some (.builtin "sorted"))
  (hbase:attributeBase o "items" X.env (eval o X.env)=eval o X.env) (hline:(apos.endLine == cpos.line)=true)
  (he:starEach [.Call (.Attribute o "items" apos) [] [] cpos] X.env=(false,eval (.Call (.Attribute o "items" apos) [] [] cpos) X.env)::starEach [] X.env) (hpl:(backTo pos (starEach [] X.env)).any (·.1)=false) :
  ZO X A (.Call (.Name x p) [.Call (.Attribute o "items" apos) [] [] cpos] [] pos) (yoe xa) :=
 wO (yqo (ynj hc) hg hm hv (ylL (yCf PySem.F.plainAttrs_dict PySem.F.slot_dict_items PySem.F.type_dict_items yBr ho.of hbase hline) yrH he) m.n m.d he hpl) (yyD (K:=ckX X A) sE)
end
end PXS
namespace PX
open PySem L2 PySem.Spec PyProof.Rows
section
theorem yBs {P:Program}{w:World}{K:PySem.W.Frag}{tg:Expr}(a it:Addr) (m:Nat):Turn P w K tg (ItR K a m) [it] it (fun i h=>i<=m/\h.IsRevIter it a ((m:Int)-1-(i:Nat))) where
 mem:=by simp
 obj:=fun i h st b hb=>by
  have e:b=it:=by simpa using hb
  subst e
  obtain ⟨_,o,e,c,d⟩:=st
  exact ⟨o,e,fun v z=>by rw [d] at z;cases z⟩
 keep:=fun i h h' st k=>⟨st.1,st.2.at fun o e=>k it (by simp) o e⟩
 item:=by
  intro X hP hw hK hc i pins s σ H E I hf st hg
  subst hP hw hK
  obtain ⟨hi,xs,x,hq,hx⟩:=hg
  obtain ⟨its,rv,p,hz⟩:=I.list hq
  obtain ⟨u,hu,ru⟩:=rv.get hx
  obtain ⟨f0,f1,f2,f3,f4,f5⟩:=hf it (by simp)
  have e0:(m:Int)-1-(i:Nat)=((m-1-i:Nat):Int):=by omega
  have st2:=st.2
  rw [e0] at st2
  refine wpAny_pyNext_rev_item st2 p.isList (x:=u) (by simpa using hu) fun h' st' sb=>?_
  have I1:Inv X pins σ H { s with heap:=h' }:=I.turned (t':=s.toks) (fun b o hb e=>(sb.2 b hb).trans e) f0 f1 f3 f4 f5
  obtain ⟨o,e,c,d⟩:=id st'
  have e2:((m-1-i:Nat):Int)-1=(m:Int)-1-((i+1:Nat):Int):=by omega
  rw [e2] at st'
  exact ⟨u,rfl,yAd (s:={ s with heap:=h' }) e c d (by decide) ⟨x,H,I1,ru,⟨rfl,fun ys hy=>by rw [I.list_inj hy hq];exact hx⟩,⟨hi,st'⟩,fun b hb=>(hf b hb).1⟩⟩
 done:=by
  intro X hP hw hK hc i pins s σ H E I hf st hg
  subst hP hw hK
  obtain rfl:i=m:=hg
  obtain ⟨f0,f1,f2,f3,f4,f5⟩:=hf it (by simp)
  have st2:=st.2
  rw [show (i:Int)-1-(i:Nat)=-1 by omega] at st2
  exact wpAny_pyNext_rev_end (I.ok.hd hc) st2 fun h' eb=>⟨rfl,I.turned (t':=s.toks) (fun b o hb e=>eb b o hb e) f0 f1 f3 f4 f5⟩
 self:=fun _ _ _ _ _ st h=>wpAny_pyIter_revIter st.2 h
variable {X:Cx}{A:Nat->Addr}{tg a:Expr}{p pos:Pos}{xa:XE}
theorem yHb {ta:TE}(hg:Gl X "reversed") (hm:X.mg "reversed" = none) (ha:PE X a ta) (he:starEach [a] X.env=(false,eval a X.env)::starEach [] X.env) (hs:starEach [a] X.env=[(false,eval a X.env)]):PI X tg (.Call (.Name "reversed" p) [a] [] pos) (yJN X.K ta):=by
 intro pins s σ H R I h
 refine Call_ (ypH I hg hm yuN (PyProof.Rows.callWith_type1 (thn (ylL ha yrH he pos pins s σ H (fun vs H1=>match vs with|[x]=>∃ b xs,x=.ref b/\SqL X.K H1 b xs/\R (ItR X.K b xs.length) H1|_=>False) I h) fun us s1 ⟨vs,H1,I1,r1,q1⟩=>?_) hs rfl))
 cases r1 with
 | nil=>exact q1.elim
 | cons r rr =>
  cases rr with
  | cons=>exact q1.elim
  | nil =>
  obtain ⟨b,xs,e,hq,q⟩:=q1
  subst e
  cases r
  obtain ⟨its,rv,pp,hz⟩:=I1.list hq
  have hl:=rv.length
  refine call_reversed_list pp.isList (wpAny_pyIter_revIter (s:={ s1 with heap:=s1.heap.push (revObj b ((its.toArray.size:Int)-1)) }) (l:=b) (i:=(its.toArray.size:Int)-1) ⟨_,Heap.get?_push_size _ rfl,rfl,rfl⟩ ?_)
  refine ⟨s1.heap.objs.size,[s1.heap.objs.size],_,_,H1,rfl,I1.kept (t':=s1.toks) fun b o e=>Heap.get?_push_of_some _ e,yBs b _ xs.length,⟨Nat.zero_le _,_,Heap.get?_push_size _ rfl,rfl,?_⟩,fun b hb=>?_,q⟩
  .show Data.fields #[.ref b,rawInt ((its.toArray.size:Int)-1)]=Data.fields #[.ref b,rawInt ((xs.length:Int)-1-((0:Nat):Int))]
   rw [hl]
   simp
  .have e:b=s1.heap.objs.size:=by simpa using hb
   subst e
   exact I1.fpOk (Nat.le_refl _) (I1.hok.fresh (Nat.le_refl _))
theorem yEL {rest:List Stmt}{s:XS}{y:XG}{pos':Pos}(hp:PassesOwn (model X.prog X.w) X.A X.env X.xe) (hc:X.calm=true) (hgl:Gl X "reversed") (hm:X.mg "reversed" = none) (hi:ZE X A a xa) (he:starEach [a] X.env=(false,eval a X.env)::starEach [] X.env) (hs1:starEach [a] X.env=[(false,eval a X.env)])
  (hg:ZG X A tg y) (hb:ZSs X A rest s) (hs:∀ x,foldedSetIterable (.Call (.Name "reversed" p) [a] [] pos') X.env x=pure x):ZS X A (.For tg (.Call (.Name "reversed" p) [a] [] pos') rest [] pos) (yBi true xa y s) :=
 wS (yCa hp hc (yHb hgl hm hi.of he hs1) hg.of hb.of hs) (yBj (K:=ckX X A) sE sG sS)
end
end PX
namespace PX
open PySem L2 PySem.Spec PyProof.Rows
section
variable {X:Cx}{A:Nat->Addr}{a o:Expr}{xa xb:XE}{pos apos cpos:Pos}
theorem yHc:MtM X "dict.update" yJO:=by
 intro pins s σ H x vs v us Q I rx rv h
 obtain ⟨d,b,kvs,more,rfl,rfl,hne,hH,hB,hz,q⟩:=h
 cases rx
 obtain ⟨u,rfl,ru⟩:=rv.one
 cases ru
 obtain ⟨z,hd,vs,rel,dd⟩:=yEj I.hok hH
 obtain ⟨z2,hd2,vs2,rel2,dd2⟩:=yEj I.hok hB
 refine call_meetsIn PySem.F.slot_dict_update dd.typeIs PySem.F.entry_dict_update (PySem.F.args_dict_update_2 _ _) (meets_dict_update (ydz X.prog X.w) d b hne hd2) ⟨vs,vs2,dd,dd2,by rw [<- rel.length,<- rel2.length];exact hz,fun h' dd' _ hs=>?_⟩
 have he:∃ q,h'.get? d=some q:=let ⟨q,_,_,hq,_⟩:=dd';⟨q,hq⟩
 refine ⟨.non,_,yuF (t':=s.toks) I (by rw [hH];exact True.intro) hs he (yCy ?_ hd (rel2.merge rel) dd'),rfl,q⟩
 exact Nat.le_trans (ykM more kvs) hz
end
end PX
namespace L2
open PySem PySem.Spec PyProof.Rows PX
end L2
namespace PX
open PySem L2 PySem.Spec PyProof.Rows
variable {X:Cx}{A:Nat->Addr}{x:Str}
end PX
namespace L2
open PySem PySem.Spec PyProof.Rows PX
theorem yEM {y:Str}{py spos:Pos}{iy:Nat}{X:Cx}{elt iter:Expr}{x:Str}{px:Pos}{scope:Scope}{cpos:Pos}{wi:TI}{te:TE}(ix:List Nat) (fr:List Str) (hc:X.calm=true) (hi:PI X (.Name x px) iter wi) (hfr:FrOk X scope ix fr)
  (he:∀ (cl:List (Str×Addr)) (C:Addr) (s₃:Shared) (H₃:Hp) (fp:List Addr) (pins:List (Addr×Obj)),PE (cxC X scope cl C (x::fr) s₃ H₃ fp pins) elt te)
  (hnd:(x::fr).Nodup) (hkind:scope.kind=.function) (hcell:∀ y∈scope.names,y.2≠.cell)
  (hnames:∀ y∈scope.names,y.2=.local->scope.names.lookup y.1=some .local) (hfree0:∀ y∈scope.names,y.2=.free->y.1∈fr) (hx:scope.names.lookup x=some .local)
  (hs:∀ v,foldedSetIterable iter X.env v=pure v)
  (hN:X.N.Nodup) (hyi:X.N[iy]?=some y) (hyx:Loc X.env.scope y) (hyf:X.fn y=true\/X.env.scope.names.lookup y=some .local) (hsw:swapsWith (.ListComp elt [⟨.Name x px,iter,[],0⟩] scope cpos) (some (.Name y py)) spos.line X.env=pure true) :
  PS X (.Assign [.Name y py] (.ListComp elt [⟨.Name x px,iter,[],0⟩] scope cpos) spos) (yFr (yDy wi ix te) (ywm iy)):=by
 intro pins s σ H D0 I h
 have hfn:X.env.scope.kind=.function:=I.ok.kind
 have hfree:∀ y∈scope.names,y.2=.free->X.env.kindOf y.1=some .cell/\scope.names.lookup y.1=some .free:=fun y hy e=>by
  obtain ⟨j,hj,ej⟩:=List.getElem_of_mem (hfree0 y hy e)
  obtain ⟨i,_,_,h3,h4⟩:=hfr.get (j:=j) (y:=y.1) (by rw [List.getElem?_eq_getElem hj,ej])
  exact ⟨h4,h3⟩
 obtain ⟨cl,ecl,hcl1,hcl2⟩:=yhr (env:=X.env) scope.names [] fun n hn=>I.ok.has n (.inl (hfree _ hn rfl).1)
 have hclos:closureFor scope X.env=pure cl:=by
  unfold closureFor
  have:(forIn scope.names ([]:List (Str×Addr)) (fun (x:Str×NameKind) (r:List (Str×Addr))=>if (x.2 == NameKind.free)=true then do let c <- cellOf X.env x.1;pure (ForInStep.yield ((x.1,c)::r)) else pure (ForInStep.yield r)):Sem (List (Str×Addr)))=pure cl:=ecl
  first
   | exact (by simpa using congrArg (· >>= fun r=>pure r) this)
   | (rw [show (pure cl:Sem (List (Str×Addr)))=(pure cl >>= fun r=>pure r) from rfl,<- this];rfl)
 have hcle:∀ y c,cl.lookup y=some c->X.env.cells.lookup y=some c/\(y,NameKind.free)∈scope.names:=fun y c e=>by
  by_cases hy:(y,NameKind.free)∈scope.names
  .exact ⟨by rw [<- hcl1 y hy];exact e,hy⟩
  .rw [hcl2 y hy] at e;simp at e
 rw [exec_Assign_Name_used _ _ _ _ hsw]
 refine wpAny_bind (wpAny_standAt (wpAny_bind ?_))
 show wpAny _ X.A (do let _ <- comprehension (.ListComp elt [⟨.Name x px,iter,[],0⟩] scope cpos) scope X.env _ (newList []) false (eval iter X.env) (some (assign (.Name y py) X.env))) _ _ s
 refine wpAny_bind (wpAny_mono (wpAny_comprehension_free (use:=some (assign (.Name y py) X.env)) (Q:=fun _ s'=>SP X pins D0 .next s') rfl hs hclos hkind hnames ?_) (fun _ s' hq=>wpAny_pure (wpAny_pure hq)) fun _ _ e=>e)
 refine thn (hi pins s σ H _ I h) fun v s1 h1=>thn h1 fun itv s2 h2=>?_
 obtain ⟨it,fp,tn,J,H2,e,I2,T,st2,f2,q2⟩:=h2
 subst e
 refine wpAny_newObj_type ?_
 generalize hs3:({ s2 with heap:=s2.heap.push { cls:=.type "list",dict:=none,data:=.seq ([]:List Value).toArray } }:Shared)=s3
 generalize hD:s2.heap.objs.size=D
 have hDn:H2 D=none:=by rw [<- hD];exact I2.hok.fresh (Nat.le_refl _)
 have I3:Inv X pins σ (upd H2 D (.lst [])) s3:=by
  rw [<- hs3,<- hD]
  exact I2.lnew (t':=s2.toks) (ys:=[]) (its:=[]) .nil (Nat.zero_le _)
 have k3:∀ b o,s2.heap.get? b=some o->s3.heap.get? b=some o:=fun b o e=>by rw [<- hs3];exact Heap.get?_push_of_some _ e
 have st3:tn 0 s3.heap:=T.keep _ _ _ st2 fun b _ o e=>k3 b o e
 have fne:∀ b∈fp,b≠D:=fun b hb=>by
  obtain ⟨o,e,_⟩:=T.obj _ _ st2 b hb
  rw [<- hD]
  exact Nat.ne_of_lt (Heap.lt_size e)
 have f3:∀ b∈fp,yxt X pins (upd H2 D (.lst [])) b:=fun b hb=>⟨by rw [ybb (fne b hb)];exact (f2 b hb).1,(f2 b hb).2⟩
 have q3:=q2 D hDn
 generalize upd H2 D (.lst [])=H3 at I3 f3 q3
 obtain ⟨W,⟨m0,w0⟩,turn⟩:=q3
 refine wpAny_newFunctionEnv hcell (by intro y hy;simp at hy) (fun h4 hns hsb=>?_) hkind
 try dsimp only at hns hsb ⊢
 generalize hC:s3.heap.objs.size=C at hns hsb ⊢
 have k4:∀ b o,s3.heap.get? b=some o->h4.get? b=some o:=fun b o e=>(hsb.2 b (by rw [<- hC];exact Nat.ne_of_lt (Heap.lt_size e))).trans (Heap.get?_push_of_some _ e)
 have Cne:∀ b o,s3.heap.get? b=some o->b≠C:=fun b o e=>by rw [<- hC];exact Nat.ne_of_lt (Heap.lt_size e)
 have stk:=I3.stkSub
 have pinF:∀ p∈X.pn++pins,p.1∉frs X.stack:=fun p hp z=>by
  obtain ⟨_,_,n1,n2,_⟩:=I3.pin p hp
  rcases List.mem_cons.mp (stk _ z) with z|z
  .exact n1 z
  .exact n2 z
 have okC:(cxC X scope cl C (x::fr) s3 H3 fp pins).Ok:=by
  refine ⟨I3.ok.mod,by show (relabel scope X.env).kind=_;exact hkind,I3.ok.glob,I3.ok.blt,Nat.le_of_eq hC,fun y z c h1 h2=>I3.ok.inj y z c (hcle y c h1).1 (hcle z c h2).1,fun y hy=>?_,fun y c hf _=>(by cases hf),I3.ok.hd,I3.ok.frames,.inl rfl,fun b hb=>⟨?_,fun y c e z=>?_⟩,I3.bs,?_,fun b o e hb=>?_,fun b hb z=>?_,I3.stack,I3.stkFree⟩
  .have hy:((relabel scope X.env).names.lookup y=some .cell)\/((relabel scope X.env).names.lookup y=some .free):=hy
   rw [show (relabel scope X.env).names.lookup y=_ from yet y scope.names] at hy
   cases e:scope.names.lookup y with
   | none=>rw [e] at hy;simp at hy
   | some k =>
    have hm:(y,k)∈scope.names:=PySem.mem_of_lookup e
    have hkf:k=.free:=by
     rw [e] at hy
     cases k<;>simp at hy ⊢
     exact absurd rfl (hcell _ hm)
    subst hkf
    obtain ⟨c,hc'⟩:=I3.ok.has y (.inl (hfree _ hm rfl).1)
    exact ⟨c,by show cl.lookup y=_;rw [hcl1 y hm];exact hc'⟩
  .obtain ⟨o,e,_⟩:=T.obj _ _ st3 b hb
   exact Cne b o e
  .exact (f3 b hb).2.2.2.2.1 y c (hcle y c e).1 z
  .exact Nat.le_trans I3.ok.bsz I3.sz
  .rcases (f3 b hb).2.2.2.1 with z|z
   .exact I3.ok.noex b o e z
   .exact absurd (Nat.lt_of_lt_of_le (Heap.lt_size e) (Nat.le_trans I3.ok.bsz z)) (Nat.lt_irrefl _)
  .rcases List.mem_cons.mp (stk _ z) with z|z
   .exact (f3 b hb).2.1 z
   .exact (f3 b hb).2.2.1 z
 have inn:∀ v,(inner ix σ v)=some v::ix.map fun i=>(σ[i]?).getD none:=fun _=>rfl
 have I4:Inv (cxC X scope cl C (x::fr) s3 H3 fp pins) [] (none::ix.map fun i=>(σ[i]?).getD none) H3 { s3 with heap:=h4,toks:=s3.toks+([]:List (Str×Value)).length }:=by
  refine ⟨okC,rfl,I3.bare,Un.kept k4,⟨_,hns,fun j y v e1 e2 e3=>?_⟩,fun y c e=>?_,I3.hok.fresh (Nat.le_of_eq hC),fun y c e=>I3.freeC y c (hcle y c e).1,fun p hp=>?_,I3.hok.kept k4,?_⟩
  .match j,e1,e2 with
   | 0,e1,e2=>simp at e2
   | j+1,e1,e2 =>
    obtain ⟨i,hi1,hi2,hi3,hi4⟩:=hfr.get (j:=j) (y:=y) (by have e1':(x::fr)[j+1]?=some y:=e1;simpa using e1')
    have e2':σ[i]?=some (some v):=by
     have e2:(ix.map fun i=>(σ[i]?).getD none)[j]?=some (some v):=by simpa using e2
     rw [List.getElem?_map,hi1] at e2
     simp at e2
     cases z:σ[i]? with
     | none=>rw [z] at e2;simp at e2
     | some o=>rw [z] at e2;simp at e2;rw [e2]
    obtain ⟨m,_,hl⟩:=I3.loc
    obtain ⟨u,r,l⟩:=hl i y v hi2 e2' (.inr (.inl hi4))
    refine ⟨u,r,?_⟩
    rcases l with ⟨k,_⟩|⟨k,c,ec,z⟩
    .rw [hi4] at k;cases k
    .have hm:(y,NameKind.free)∈scope.names:=PySem.mem_of_lookup hi3
     refine .inr ⟨.inl ?_,c,by show cl.lookup y=_;rw [hcl1 y hm];exact ec,?_⟩
     .show (relabel scope X.env).names.lookup y=_
      rw [show (relabel scope X.env).names.lookup y=_ from yet y scope.names,hi3]
      simp [hfn,hi4]
     .obtain ⟨o,ho,hd⟩:=z
      exact ⟨o,k4 _ _ ho,hd⟩
  .obtain ⟨v,o,ho,hd⟩:=I3.cell y c (hcle y c e).1
   exact ⟨v,o,k4 _ _ ho,hd⟩
  .have hp:p∈X.pn++pins:=by simpa [cxC] using hp
   obtain ⟨e,n,ne,nf,d⟩:=I3.pin p hp
   exact ⟨k4 _ _ e,n,Cne _ _ e,pinF p hp,d⟩
  .show (none::ix.map fun i=>(σ[i]?).getD none).length=(x::fr).length
   rw [List.length_cons,List.length_cons,List.length_map,hfr.len]
 have st4:tn 0 h4:=T.keep _ _ _ st3 fun b _ o e=>k4 b o e
 have f4:∀ b∈fp,b≠C/\b∉frs X.stack/\(∀ y c,cl.lookup y=some c->c≠b)/\∀ p∈(X.pn++pins)++([]:List (Addr×Obj)),p.1≠b:=fun b hb=>by
  obtain ⟨o,e,_⟩:=T.obj _ _ st3 b hb
  refine ⟨Cne b o e,fun z=>?_,fun y c e=>(f3 b hb).2.2.2.2.1 y c (hcle y c e).1,fun p hp=>(f3 b hb).2.2.2.2.2 p (by simpa using hp)⟩
  rcases List.mem_cons.mp (stk _ z) with z|z
  .exact (f3 b hb).2.1 z
  .exact (f3 b hb).2.2.1 z
 have stat:∀ {H':Hp},(∀ b∈fp,H' b=none)->∀ b∈fp,yxt (cxC X scope cl C (x::fr) s3 H3 fp pins) [] H' b:=fun hn b hb=>⟨hn b hb,(f4 b hb).1,(f4 b hb).2.1,.inl hb,(f4 b hb).2.2.1,(f4 b hb).2.2.2⟩
 have fin:∀ {σ':St}{H':Hp}{s':Shared},Inv (cxC X scope cl C (x::fr) s3 H3 fp pins) [] σ' H' s'->ywm iy (.ref D) σ H' D0.nx->compPost (model X.prog X.w) X.A X.xe (some (assign (.Name y py) X.env)) (fun _ s'=>SP X pins D0 .next s') (.ref D) C (.ok .next) s':=fun {σ' H' s'} I' q'=>by
  obtain ⟨m,hn,_⟩:=I'.loc
  have hCn:H' C=none:=I'.free
  have U:=I'.base
  have U':Un (frs X.stack) fp H3 H' s3.heap s'.heap:=⟨U.keep,U.slot,U.free,U.there,U.tups,U.frzs,U.tbls⟩
  have IX:Inv X pins σ H' s':=I3.call' (s':=s') (by show s'.os=s3.os;exact I'.os) U' I'.hok I'.bare fun b hb=>⟨(f3 b hb).2.2.2.1,(f3 b hb).2.1,(f3 b hb).2.2.2.2.1,(f3 b hb).2.2.2.2.2⟩
  have hCf:yxt X pins H' C:=I3.fpOk (Nat.le_of_eq hC) hCn
  obtain ⟨o,es,ep,eo,r1,r2,r3⟩:=hn
  have IP:=IX.pinned (fp:=[C]) (fun b hb=>by have e:b=C:=(by simpa using hb);subst e;exact hCf) (fun b hb=>by have e:b=C:=(by simpa using hb);subst e;exact ⟨o,eo,fun v z=>by rw [r1] at z;cases z⟩)
  refine thn (yqm hN hyi hyx hyf _ s' σ H' (.ref D) (.ref D) D0.nx IP rfl q') fun _ s2 ⟨σ2,H2',I2',q2'⟩=>?_
  have pc:=I2'.pin (C,o) (List.mem_append_right _ (List.mem_append_right _ (yfy (by simp) eo)))
  exact ⟨m,⟨o,es,ep,pc.1,r1,r2,r3⟩,fun h' sb=>⟨σ2,H2',I2'.unpinned.turned (t':=s2.toks) (fun b ob hb e=>(sb.2 b hb).trans e) pc.2.1 hCf.2.1 hCf.2.2.2.1 hCf.2.2.2.2.1 hCf.2.2.2.2.2,q2'⟩⟩
 have loop:∀ s5:Shared,s5={ s3 with heap:=h4,toks:=s3.toks+([]:List (Str×Value)).length } ->
   codeAny (model X.prog X.w) X.A (.compLoop (.ListComp elt [⟨.Name x px,iter,[],0⟩] scope cpos) 0 (.ref it) (.ref D) (compEnvC scope cl C X.env)) (compPost (model X.prog X.w) X.A X.xe (some (assign (.Name y py) X.env)) (fun _ s'=>SP X pins D0 .next s') (.ref D) C) s5:=by
  rintro s5 rfl
  refine codeAny_loop rfl (fun n s'=>∃ i o H',Inv (cxC X scope cl C (x::fr) s3 H3 fp pins) [] (o::ix.map fun i=>(σ[i]?).getD none) H' s'/\tn i s'.heap/\(∀ b∈fp,H' b=none)/\W i n H') ?_ m0 ⟨0,none,H3,I4,st4,fun b hb=>(f3 b hb).1,w0⟩
  rintro n s6 ⟨i,o,H6,I6,st6,fr6,w6⟩
  show wpAny _ _ ((compTurn (.ListComp elt [⟨.Name x px,iter,[],0⟩] scope cpos) 0 (.ref it) (.ref D) (compEnvC scope cl C X.env)).onRaise (fun x=>do noteFrame x (compEnvC scope cl C X.env);theTreesLotGoes x)) _ _ s6
  refine wpAny_noted ?_
  rw [compTurn_list1]
  rcases turn i n H6 w6 with ⟨stop,qn⟩|⟨go,step⟩
  .refine wpAny_bind (wpAny_standAt (wpAny_bind (thn (T.done (cxC X scope cl C (x::fr) s3 H3 fp pins) rfl rfl rfl hc i [] s6 _ H6 _ I6 (stat fr6) st6 stop) fun r s7 ⟨hr,I7⟩=>?_)))
   subst hr
   exact wpAny_pure (fin I7 qn)
  .refine wpAny_bind (wpAny_standAt (wpAny_bind (thn (T.item (cxC X scope cl C (x::fr) s3 H3 fp pins) rfl rfl rfl hc i [] s6 _ H6 _ I6 (stat fr6) st6 go) fun r s7 ⟨u,hr,h7⟩=>?_)))
   subst hr
   refine wpAny_bind (thn h7 fun _ s8 ⟨y,H8,I8,r8,y8,st8,fr8⟩=>?_)
   have I8':=I8.pinned (stat fr8) (T.obj _ _ st8)
   have hx':Loc (cxC X scope cl C (x::fr) s3 H3 fp pins).env.scope x:=.inl (lookup_relabel_local hx)
   refine wpAny_bind (wpAny_mono (yqm (X:=cxC X scope cl C (x::fr) s3 H3 fp pins) (i:=0) (x:=x) (pos:=px) hnd rfl hx' (.inr (lookup_relabel_local hx)) _ s8 _ H8 y u (fun σ9 H9=>σ9=inner ix σ y/\H9=H8) I8' r8 ⟨rfl,rfl⟩) (fun _ s9 ⟨σ9,H9,I9,e9,e9'⟩=>?_) fun _ _ f=>f.elim)
   subst e9 e9'
   refine wpAny_bind (wpAny_bind (wpAny_mono (he cl C s3 H3 fp pins _ s9 _ _ _ I9 (step y _ y8)) (fun v s10 ⟨z,H10,I10,r10,acc,a10,l10,m',hm',w10⟩=>?_) fun _ _ f=>f.elim))
   refine wpAny_bind (wpAny_mono (ykE (X:=cxC X scope cl C (x::fr) s3 H3 fp pins) _ s10 _ H10 (.ref D) [z] (.ref D) [v] (fun _ H11=>H11=upd H10 D (.lst (acc++[z]))) I10 rfl (.cons r10 .nil) ⟨D,acc,z,rfl,rfl,a10,l10,rfl⟩) (fun _ s11 ⟨_,H11,I11,_,e11⟩=>?_) fun _ _ f=>f.elim)
   subst e11
   refine wpAny_pure (wpAny_pure ⟨rfl,m',hm',i+1,some y,_,I11.unpinned,T.keep _ _ _ st8 fun b hb o e=>(I11.pin (b,o) (List.mem_append_right _ (List.mem_append_right _ (yfy hb e)))).1,fun b hb=>?_,w10⟩)
   obtain ⟨o,e,d⟩:=T.obj _ _ st8 b hb
   exact (I11.pin (b,o) (List.mem_append_right _ (List.mem_append_right _ (yfy hb e)))).2.1
 exact codeAny_compStart_list (loop _ rfl) (T.self X.A 0 _ _ _ st4 (loop _ rfl))
end L2
namespace PX
open PySem L2 PySem.Spec PyProof.Rows
variable {X:Cx}{A:Nat->Addr}{x y:Str}{py spos:Pos}{iy:Nat}
theorem yBt {elt iter:Expr}{px:Pos}{scope:Scope}{cpos:Pos}{it:XA}{xe:XE}(ix:List Nat) (fr:List Str) (hc:X.calm=true) (hi:ZI X A (.Name x px) iter it) (hfr:FrOk X scope ix fr)
  (he:∀ (cl:List (Str×Addr)) (C:Addr) (s₃:Shared) (H₃:Hp) (fp:List Addr) (pins:List (Addr×Obj)),ZE (cxC X scope cl C (x::fr) s₃ H₃ fp pins) A elt xe)
  (hnd:(x::fr).Nodup) (hkind:scope.kind=.function) (hcell:∀ y∈scope.names,y.2≠.cell) (hnames:∀ y∈scope.names,y.2=.local->scope.names.lookup y.1=some .local) (hfree0:∀ y∈scope.names,y.2=.free->y.1∈fr) (hx:scope.names.lookup x=some .local) (hs:∀ v,foldedSetIterable iter X.env v=pure v)
  (hN:X.N.Nodup) (hyi:X.N[iy]?=some y) (hyx:Loc X.env.scope y) (hyf:X.fn y=true\/X.env.scope.names.lookup y=some .local) (hsw:swapsWith (.ListComp elt [⟨.Name x px,iter,[],0⟩] scope cpos) (some (.Name y py)) spos.line X.env=pure true):ZS X A (.Assign [.Name y py] (.ListComp elt [⟨.Name x px,iter,[],0⟩] scope cpos) spos) (yes (ymp (ywC it ix xe)) (yJ iy)) :=
 wS (yEM ix fr hc hi.of hfr (te:=cE (ckX X A) xe) (fun cl C s₃ H₃ fp pins=>(he cl C s₃ H₃ fp pins).of) hnd hkind hcell hnames hfree0 hx hs hN hyi hyx hyf hsw) (yuB (yxU (yvF (K:=ckX X A) ix sI sE)) (ynV iy))
theorem yEN {k lv:Nat}{f:Addr}{fd:FuncData}{ps:List Str}{p pos:Pos}{fi} (M:Mk X.K (A k) f) (F:FnOk X.prog X.w X.K X.mg X.base CX0 lv f fd ps (spI (ckX X A) 0 k fi)) (hr:Room (lv+1) X.A) (m:Nm x) (hg:Gl X x) (hm:X.mg x=some (.ref (A k))) (hb:Binds X.K fd ps []):ZO X A (.Call (.Name x p) [] [] pos) (yne fi yu) :=
 wO (yAj M F hr hg hm hb .nil ywv m.d) (yvH (K:=ckX X A) (k:=k) ynU yux)
end PX
namespace PX
open PySem L2 PySem.Spec PyProof.Rows KasS PXS
section
variable {X:Cx}{A:Nat->Addr}
theorem yyZ:∀ (vs:List Value) (ns:List Int),vs.length=ns.length->(∀ (j:Nat) (v:Value),vs[j]?=some v->∃ t n,ns[j]?=some n/\v=.int n t)->IntsAre vs ns
 | [],[],_,_=>IntsAre.nil
 | [],_::_,h,_=>by cases h
 | _::_,[],h,_=>by cases h
 | v::vs,n::ns,hl,h=>by
  obtain ⟨t,m,e1,e2⟩:=h 0 v rfl
  have e1:some n=some m:=e1
  cases e1
  subst e2
  have ih:=yyZ vs ns (by simpa using hl) fun j v e=>by
   obtain ⟨t,n,e1,e2⟩:=h (j+1) v (by simpa using e)
   exact ⟨t,n,by simpa using e1,e2⟩
  exact .cons _ _ ih
theorem ykF {vs:List Value}{ns:List Int}(h:IntsAre vs ns):Vals (ns.map V.int) vs:=by
 induction h with
 | nil=>exact .nil
 | cons n t _ ih=>exact .cons ⟨t,rfl⟩ ih
theorem yon (hc:X.calm=true):ykf X (.builtin "sorted") rSK:=by
 intro pins s σ H xs us Q I rr hh
 obtain ⟨d,kvs,ns,rfl,hd,hk,h64,q⟩:=hh
 obtain ⟨u,rfl,rx⟩:=vals1 rr
 cases rx
 obtain ⟨z,sy,ws,kv,hD⟩:=I.hok d _ hd
 obtain ⟨ep,hat⟩:=hD.dictAt
 obtain ⟨kv1,kv2⟩:=yCN kv
 have lw:ws.length=kvs.length:=by have:=congrArg List.length kv1;simpa using this
 have ln:ns.length=kvs.length:=by have:=congrArg List.length hk;simpa using this.symm
 refine Calls.call_function_entry kind_sorted plain_sorted entry_sorted (args_sorted1 _) ?_
 unfold Builtin.«sorted»
 refine wpAny_bind (m:=checkCount "sorted" 1 1 _) (wpAny_pure ?_)
 refine wpAny_bind (PySem.W.kdu_collect (A:=X.A.in1) (PySem.W.kdl_dict (knd:=ydz X.prog X.w) (kvs:=ws) (ep:=ep) sy) (I.ok.hd hc) hat (by rw [lw];exact z) fun h' tk acc keep hacc=>?_)
 have hal:acc.toList.length=ns.length:=by rw [Array.length_toList,hacc.1];omega
 refine wpAny_bind (wpAny_newList ?_ (by rw [hal,ln];exact z))
 have ia:IntsAre acc.toList ns:=yyZ _ _ hal fun j v e=>by
  obtain ⟨k,x,e1,e2⟩:=hacc.2 j v (by rw [<- Array.getElem?_toList];exact e)
  have hj:j<ns.length:=by have:=(List.getElem?_eq_some_iff.mp e).1;omega
  have h1:(ws.map (·.1))[j]?=some k:=by rw [List.getElem?_map,e1];rfl
  rw [kv1,hk,List.getElem?_map,List.getElem?_eq_getElem hj] at h1
  have h1:k=.inl ns[j]:=(Option.some.inj h1).symm
  rcases ybS e2 with ⟨i,tk,g1,g2⟩|⟨y,tk,g1,g2⟩
  .rw [h1] at g1;cases g1;exact ⟨tk,_,List.getElem?_eq_getElem hj,g2⟩
  .rw [h1] at g1;cases g1
 generalize hB:h'.objs.size=B
 have noB:s.heap.get? B=none:=by
  cases e:s.heap.get? B with
  | none=>rfl
  | some o=>exact absurd (Heap.lt_size (keep B o e)) (by rw [hB];exact Nat.lt_irrefl _)
 have free:H B=none:=by
  cases e2:H B with
  | none=>rfl
  | some o=>obtain ⟨u,hu⟩:=ywb (I.hok B o e2);rw [noB] at hu;cases hu
 have hoL:(h'.push { cls:=.type "list",data:=.seq acc.toList.toArray }).get? B=some (seqObj "list" acc.toList.toArray 0):=by rw [<- hB];exact Heap.get?_push_size _ rfl
 refine wpAny_bind (wpAny_holding (wpAny_call_entry PySem.F.slot_list_sort ⟨_,hoL,rfl⟩ PySem.F.entry_list_sort ?body (PySem.F.args_list_sort_1 _)))
 case body =>
  refine list_sort_tree (s:={ s with heap:=h'.push { cls:=.type "list",data:=.seq acc.toList.toArray },toks:=tk }) hoL ia (by omega) fun out ms i1 i2 i3=>?_
  refine ⟨_,rfl,wpAny_pure ⟨_,rfl,?_⟩⟩
  generalize hS:sortedHeap (h'.push { cls:=.type "list",data:=.seq acc.toList.toArray }) B acc.toList out=S
  have hFa:∀ b o,b≠B->h'.get? b=some o->S.get? b=some o:=fun b o hb e=>by
   rw [<- hS]
   unfold sortedHeap
   exact (Heap.get?_update_other _ _ (Ne.symm hb)).trans (Heap.get?_push_of_some _ (Heap.get?_push_of_some _ ((Heap.get?_update_other _ _ (Ne.symm hb)).trans (Heap.get?_push_of_some _ e))))
  have hFB:∃ c,S.get? B=some (seqObj "list" out c):=by
   rw [<- hS]
   unfold sortedHeap
   exact ⟨_,get?_update_seq (Heap.get?_push_of_some _ (Heap.get?_push_of_some _ (get?_update_seq hoL _))) _⟩
  refine ⟨.ref B,_,?_,rfl,q B ms i2 i3 free⟩
  show L2.Inv X pins σ _ { s with heap:=S,toks:=tk }
  refine yyY I (fun b o e=>hFa b o (fun z=>by rw [z,noB] at e;cases e) (keep b o e)) (fun b o e=>?_) fun b o e e2=>?_
  .rw [ybb fun z=>by rw [z,free] at e;cases e];exact e
  .by_cases hb:b=B
   .subst hb
    rw [yS] at e2
    cases e2
    obtain ⟨c,hc⟩:=hFB
    refine ⟨noB,by rw [List.length_map,i2.length_eq,ln];exact z,out.toList,c,ykF i1,by simpa using hc⟩
   .rw [ybb hb,e] at e2;cases e2
variable {a:Expr}{xa:XE}{aa:XA}{pos p:Pos}{x:Str}{n:Nat}
theorem yEO (hc:X.calm=true) (ha:ZE X A a xa) (m:Nm x) (hg:Gl X x) (hm:X.mg x=none) (hv:bootBuiltins x=some (.builtin "sorted"))
  (he:starEach [a] X.env=(false,eval a X.env)::starEach [] X.env) (hpl:(backTo pos (starEach [] X.env)).any (·.1)=false):ZO X A (.Call (.Name x p) [a] [] pos) (ypf ypV (yd xa yu)) :=
 wO (yqo (yon hc) hg hm hv (ylL ha.of yrH he) m.n m.d he hpl) (yxV (K:=ckX X A) yEx (yvE sE ynU))
end
end PX
namespace PX
open PySem L2 PySem.Spec PyProof.Rows KasS PXS
section
variable {X:Cx}{A:Nat->Addr}{tg a:Expr}{p pos:Pos}{xa:XE}
end
end PX
namespace PX
open PySem L2 PySem.Spec PyProof.Rows
section
variable {X:Cx}{A:Nat->Addr}
theorem yhV:MtR X "str.find" yxM:=by
 intro pins s σ H x xs v us Q I rx rv h
 obtain ⟨z,c,rfl,rfl,hz,hm,q⟩:=h
 obtain ⟨t,rfl⟩:=rx
 obtain ⟨u,rfl,tu,rfl⟩:=vals1 rv
 rcases yDz z c with ⟨_,h2⟩|⟨r,h1,_⟩
 .exact absurd hm h2
 .refine SC.find ?_
  have e:(Txt.find z ⟨#[c]⟩:Int)=((z.cps.toList.idxOf c:Nat):Int):=by
   unfold Txt.find
   rw [h1]
  rw [e]
  exact ⟨.int _,H,I.tok _,⟨_,rfl⟩,q⟩
variable {pos p apos:Pos}{x m:Str}{e:Expr}{es:List Expr}{aa:XA}{n:Nat}
theorem yoo {a:Addr}{ss:List Str}(nm:Nm x) (hg:Gl X x) (hm:X.mg x=some (.ref a)) (hk:KTp X.K a (ss.map V.str)):ZE X A (.Name x pos) (xC (.tup (ss.map PV.str))):=wE (yul hg hm nm.d) (yBl (K:=ckX X A) hk)
structure yEP (K:PySem.W.Frag) (C:Addr) (m:Str) (f:Addr):Prop where
 rd:PySem.W.readsIn K C (.type "type")=true
 fc:PySem.W.findCls K (.ref C) (.type "type") m=some (.val (.ref f))
 sp:PySem.W.specialIn K (.ref C) "__getattribute__" = some (some (.builtin "type.__getattribute__"))
 kp:PySem.W.keepIn K (.ref f)=true
theorem yEQ {C f:Addr}{k:Nat}{fd:FuncData}{ps:List Str}{sp:Sp}{E:XK}{t:TA}{pl:Sem Bool}{CX:CXT}(c:yEP X.K C m f) (hg:Gl X x) (hm:X.mg x=some (.ref C)) (F:FnOk X.prog X.w X.K X.mg X.base CX k f fd ps sp) (hr:Room k X.A) (hb:Binds X.K fd ps []) (hx:ykD CX X E) (ha:PA X (e::es) t)
  (hd:(x == ("__debug__":Str))=false)
  (hst:starEach (e::es) X.env=(false,eval e X.env)::starEach es X.env) (hpl:(backTo pos (starEach es X.env)).any (·.1)=false)
  (ht:eval (.Call (.Attribute (.Name x p) m apos) (e::es) [] pos) X.env=(do
   let ov <- eval (.Name x p) X.env
   standAt apos.atName
   let (f,first) <- holding [ov] (getMethod ov m pl)
   callWith pos f first (backTo pos (starEach (e::es) X.env)) (backToKw pos (keywordEach [] X.env)))) :
  PE X (.Call (.Attribute (.Name x p) m apos) (e::es) [] pos) (yAh sp [] E t):=by
 intro pins s σ H Q I h
 refine PySem.W.methodCall_KW (pl:=pl) (thn (yul (X:=X) hg hm hd pins s σ H (fun v H1=>v=.ref C/\H1=H) I ⟨rfl,rfl⟩) fun u s1 ⟨v,H1,I1,rx,ex,eh⟩=>?_) ht
 subst ex eh
 obtain rfl:u=Value.ref C:=rx
 refine PySem.W.method_cls I1.kIn c.sp (PySem.W.cls_value I1.kIn c.rd c.fc rfl ?_)
 have I1:=I1.tok (s1.toks+1)
 refine PySem.W.callWith_K (first:=[]) (h₀:=X.base) I.ok.mod.kin c.kp (thn (ha pos pins _ σ H1 _ I1 h) fun us s2 ⟨vs,H2,I2,r,q2⟩=>⟨I2.kIn,?_⟩) hst hpl
 exact yvv (us:=us) (vs:=vs) F hr hb .nil hx I2 r q2
theorem yER {C f:Addr}{lv k:Nat}{fd:FuncData}{ps:List Str}{fi} {pl:Sem Bool}{o:Expr}{sp:Pos}(c:yEP X.K C m f) (nm:Nm x) (hg:Gl X x) (hm:X.mg x=some (.ref C)) (F:FnOk X.prog X.w X.K X.mg X.base CX0 lv f fd ps (spJ (ckX X A) n k fi)) (hr:Room lv X.A) (hb:Binds X.K fd ps [])
  (ho:PE X o (yBV 0)) (ha:ZA X A es n aa) (hst:starEach (o::es) X.env=(false,eval o X.env)::starEach es X.env) (hpl:(backTo pos (starEach es X.env)).any (·.1)=false)
  (ht:eval (.Call (.Attribute (.Name x p) m apos) (o::es) [] pos) X.env=(do
   let ov <- eval (.Name x p) X.env
   standAt apos.atName
   let (f,first) <- holding [ov] (getMethod ov m pl)
   callWith pos f first (backTo pos (starEach (o::es) X.env)) (backToKw pos (keywordEach [] X.env))))
  (hq:swapsWith (.Call (.Attribute (.Name x p) m apos) (o::es) [] pos) none sp.line X.env=pure false):ZF X A (.Expr (.Call (.Attribute (.Name x p) m apos) (o::es) [] pos) sp) (xBI k fi aa) :=
 wF (yud (yEQ (E:=fun _ _ _=>False) c hg hm F hr hb ywv (ylL ho ha.of hst) nm.d hst hpl ht) hq) (yEz (K:=ckX X A) sA ha.len)
end
section
variable {P:Program}{w:World}{K:PySem.W.Frag}{mg:Str->Option Value}{base:Heap}{A:Nat->Addr}
theorem yKk {x qual:Str}{st:Stmt}{f:Addr}{fd:FuncData}{N ps:List Str}{k kc n:Nat}{s:XS}(F:Fun K x qual st f fd) (S:yq N ps (yc st)) (hn:ps.length=n+1) (hN:n+1<=N.length)
  (h:∀ (cdv:Value) (Ar:Around) (outer:List Env) (sh:Shared) (H:Hp) (E:XK),Room k (Ar.deeper (envOfC qual (yc st) sh.heap.objs.size f cdv))->ZFs (yAk CX0 P w K mg base N qual (yc st) f cdv Ar outer sh H E).nox A (yj st) s) :
  FnOk P w K mg base CX0 (k+1) f fd ps (spJ ⟨K,A⟩ n kc (yuC N.length kc s)) :=
 F.ok S (fun _ _ _ _ h=>(yEy h).trans hn.symm) fun cdv Ar outer sh H vs Q E hr hq=>⟨_,(h cdv Ar outer sh H E hr).of,yyI (K:=⟨K,A⟩) hN sF hq⟩
end
end PX
namespace PX
open PySem L2 PySem.Spec PyProof.Rows
section
variable {X:Cx}{A:Nat->Addr}
theorem ymH:ykf X (.type "dict") yyJ:=by
 intro pins s σ H xs us Q I r h
 obtain ⟨a,kvs,rfl,ha,q⟩:=h
 obtain ⟨u,rfl,rx⟩:=vals1 r
 cases rx
 obtain ⟨z,sy,ws,kv,hD⟩:=I.hok a _ ha
 have lw:ws.length=kvs.length:=kv.length.symm
 refine kt_call_dict sy hD (by rw [lw];exact z) fun h' hd sb=>?_
 have kp:∀ b o,s.heap.get? b=some o->h'.get? b=some o:=fun b o e=>(sb.2 b (Nat.ne_of_lt (Heap.lt_size e))).trans (Heap.get?_push_of_some _ e)
 refine ⟨.ref s.heap.objs.size,_,I.laid (t':=s.toks) kp (Nat.le_refl _) (show ObjOk X.prog X.w _ h' _ (.dK kvs) from ⟨z,?_,ws,kv,hd⟩),rfl,q _ (I.hok.fresh (Nat.le_refl _))⟩
 exact beq_eq_false_iff_ne.mpr (Nat.ne_of_gt I.big)
end
end PX
namespace My
open PySem L2 PX
theorem ymI:("abc":Str).length=3:=by decide +kernel
theorem yCO {v0 v1:PV}{h:AH}:yiV [0] "stack" (.ins 0 ["stack","last_seen"] [v0,v1]) h=some (v0,h):=ycK (by decide) (by decide +kernel) (by rw [show List.idxOf ("stack":Str) ["stack","last_seen"]=0 by decide +kernel];rfl)
theorem yxn {v0 v1:PV}{h:AH}:yiV [0] "last_seen" (.ins 0 ["stack","last_seen"] [v0,v1]) h=some (v1,h):=ycK (by decide) (by decide +kernel) (by rw [show List.idxOf ("last_seen":Str) ["stack","last_seen"]=1 by decide +kernel];rfl)
theorem ycU {x:PV}{ρ:PSt}{h:AH}:ynC [0] 0 "stack" (.own (.ins 0 [] [])::ρ) x h=some (.nx (.own (.ins 0 ["stack"] [x])::ρ),h):=yeu (by decide) (by decide) (by decide +kernel)
theorem ybw {v0:PV}{x:PV}{ρ:PSt}{h:AH}:ynC [0] 0 "last_seen" (.own (.ins 0 ["stack"] [v0])::ρ) x h=some (.nx (.own (.ins 0 ["stack","last_seen"] [v0,x])::ρ),h):=yeu (by decide) (by decide) (by decide +kernel)
theorem yBu {v0 v1 v2 v3:PV}{h:AH}:yiV [1] "held" (.ins 1 ["held","width","log","found"] [v0,v1,v2,v3]) h=some (v0,h):=ycK (by decide) (by decide +kernel) (by rw [show List.idxOf ("held":Str) ["held","width","log","found"]=0 by decide +kernel];rfl)
theorem yzU {v0 v1 v2 v3:PV}{h:AH}:yiV [1] "width" (.ins 1 ["held","width","log","found"] [v0,v1,v2,v3]) h=some (v1,h):=ycK (by decide) (by decide +kernel) (by rw [show List.idxOf ("width":Str) ["held","width","log","found"]=1 by decide +kernel];rfl)
theorem yCP {v0 v1 v2 v3:PV}{h:AH}:yiV [1] "log" (.ins 1 ["held","width","log","found"] [v0,v1,v2,v3]) h=some (v2,h):=ycK (by decide) (by decide +kernel) (by rw [show List.idxOf ("log":Str) ["held","width","log","found"]=2 by decide +kernel];rfl)
theorem yzV {v0 v1 v2 v3:PV}{h:AH}:yiV [1] "found" (.ins 1 ["held","width","log","found"] [v0,v1,v2,v3]) h=some (v3,h):=ycK (by decide) (by decide +kernel) (by rw [show List.idxOf ("found":Str) ["held","width","log","found"]=3 by decide +kernel];rfl)
theorem ycs {x:PV}{ρ:PSt}{h:AH}:ynC [1] 0 "held" (.own (.ins 1 [] [])::ρ) x h=some (.nx (.own (.ins 1 ["held"] [x])::ρ),h):=yeu (by decide) (by decide) (by decide +kernel)
theorem yca {v0:PV}{x:PV}{ρ:PSt}{h:AH}:ynC [1] 0 "width" (.own (.ins 1 ["held"] [v0])::ρ) x h=some (.nx (.own (.ins 1 ["held","width"] [v0,x])::ρ),h):=yeu (by decide) (by decide) (by decide +kernel)
theorem ycV {v0 v1:PV}{x:PV}{ρ:PSt}{h:AH}:ynC [1] 0 "log" (.own (.ins 1 ["held","width"] [v0,v1])::ρ) x h=some (.nx (.own (.ins 1 ["held","width","log"] [v0,v1,x])::ρ),h):=yeu (by decide) (by decide) (by decide +kernel)
theorem ycb {v0 v1 v2:PV}{x:PV}{ρ:PSt}{h:AH}:ynC [1] 0 "found" (.own (.ins 1 ["held","width","log"] [v0,v1,v2])::ρ) x h=some (.nx (.own (.ins 1 ["held","width","log","found"] [v0,v1,v2,x])::ρ),h):=yeu (by decide) (by decide) (by decide +kernel)
theorem ydJ {v0 v1:PV}{h:AH}:yiV [3,4,5,6,7,9,10] "slot" (.ins 3 ["slot","number"] [v0,v1]) h=some (v0,h):=ycK (by decide) (by decide +kernel) (by rw [show List.idxOf ("slot":Str) ["slot","number"]=0 by decide +kernel];rfl)
theorem yct {v0 v1:PV}{h:AH}:yiV [3] "number" (.ins 3 ["slot","number"] [v0,v1]) h=some (v1,h):=ycK (by decide) (by decide +kernel) (by rw [show List.idxOf ("number":Str) ["slot","number"]=1 by decide +kernel];rfl)
theorem ydK {x:PV}{ρ:PSt}{h:AH}:ynC [3,4,5,6,7,9,10] 0 "slot" (.own (.ins 3 [] [])::ρ) x h=some (.nx (.own (.ins 3 ["slot"] [x])::ρ),h):=yeu (by decide) (by decide) (by decide +kernel)
theorem ycu {v0:PV}{x:PV}{ρ:PSt}{h:AH}:ynC [3] 0 "number" (.own (.ins 3 ["slot"] [v0])::ρ) x h=some (.nx (.own (.ins 3 ["slot","number"] [v0,x])::ρ),h):=yeu (by decide) (by decide) (by decide +kernel)
theorem ycc {v0 v1 v2 v3:PV}{h:AH}:yiV [4] "word" (.ins 4 ["word","slot","one","other"] [v0,v1,v2,v3]) h=some (v0,h):=ycK (by decide) (by decide +kernel) (by rw [show List.idxOf ("word":Str) ["word","slot","one","other"]=0 by decide +kernel];rfl)
theorem ycd {v0 v1 v2 v3:PV}{h:AH}:yiV [3,4,5,6,7,9,10] "slot" (.ins 4 ["word","slot","one","other"] [v0,v1,v2,v3]) h=some (v1,h):=ycK (by decide) (by decide +kernel) (by rw [show List.idxOf ("slot":Str) ["word","slot","one","other"]=1 by decide +kernel];rfl)
theorem ycv {v0 v1 v2 v3:PV}{h:AH}:yiV [4] "one" (.ins 4 ["word","slot","one","other"] [v0,v1,v2,v3]) h=some (v2,h):=ycK (by decide) (by decide +kernel) (by rw [show List.idxOf ("one":Str) ["word","slot","one","other"]=2 by decide +kernel];rfl)
theorem ybL {v0 v1 v2 v3:PV}{h:AH}:yiV [4] "other" (.ins 4 ["word","slot","one","other"] [v0,v1,v2,v3]) h=some (v3,h):=ycK (by decide) (by decide +kernel) (by rw [show List.idxOf ("other":Str) ["word","slot","one","other"]=3 by decide +kernel];rfl)
theorem yce {x:PV}{ρ:PSt}{h:AH}:ynC [4] 0 "word" (.own (.ins 4 [] [])::ρ) x h=some (.nx (.own (.ins 4 ["word"] [x])::ρ),h):=yeu (by decide) (by decide) (by decide +kernel)
theorem ycf {v0:PV}{x:PV}{ρ:PSt}{h:AH}:ynC [3,4,5,6,7,9,10] 0 "slot" (.own (.ins 4 ["word"] [v0])::ρ) x h=some (.nx (.own (.ins 4 ["word","slot"] [v0,x])::ρ),h):=yeu (by decide) (by decide) (by decide +kernel)
theorem ycw {v0 v1:PV}{x:PV}{ρ:PSt}{h:AH}:ynC [4] 0 "one" (.own (.ins 4 ["word","slot"] [v0,v1])::ρ) x h=some (.nx (.own (.ins 4 ["word","slot","one"] [v0,v1,x])::ρ),h):=yeu (by decide) (by decide) (by decide +kernel)
theorem ybM {v0 v1 v2:PV}{x:PV}{ρ:PSt}{h:AH}:ynC [4] 0 "other" (.own (.ins 4 ["word","slot","one"] [v0,v1,v2])::ρ) x h=some (.nx (.own (.ins 4 ["word","slot","one","other"] [v0,v1,v2,x])::ρ),h):=yeu (by decide) (by decide) (by decide +kernel)
theorem ycW {v0 v1:PV}{h:AH}:yiV [3,4,5,6,7,9,10] "slot" (.ins 5 ["slot","place"] [v0,v1]) h=some (v0,h):=ycK (by decide) (by decide +kernel) (by rw [show List.idxOf ("slot":Str) ["slot","place"]=0 by decide +kernel];rfl)
theorem ycx {v0 v1:PV}{h:AH}:yiV [5,6] "place" (.ins 5 ["slot","place"] [v0,v1]) h=some (v1,h):=ycK (by decide) (by decide +kernel) (by rw [show List.idxOf ("place":Str) ["slot","place"]=1 by decide +kernel];rfl)
theorem ycX {x:PV}{ρ:PSt}{h:AH}:ynC [3,4,5,6,7,9,10] 0 "slot" (.own (.ins 5 [] [])::ρ) x h=some (.nx (.own (.ins 5 ["slot"] [x])::ρ),h):=yeu (by decide) (by decide) (by decide +kernel)
theorem ycy {v0:PV}{x:PV}{ρ:PSt}{h:AH}:ynC [5,6] 0 "place" (.own (.ins 5 ["slot"] [v0])::ρ) x h=some (.nx (.own (.ins 5 ["slot","place"] [v0,x])::ρ),h):=yeu (by decide) (by decide) (by decide +kernel)
theorem ycY {v0 v1:PV}{h:AH}:yiV [5,6] "place" (.ins 6 ["place","slot"] [v0,v1]) h=some (v0,h):=ycK (by decide) (by decide +kernel) (by rw [show List.idxOf ("place":Str) ["place","slot"]=0 by decide +kernel];rfl)
theorem ydL {v0 v1:PV}{h:AH}:yiV [3,4,5,6,7,9,10] "slot" (.ins 6 ["place","slot"] [v0,v1]) h=some (v1,h):=ycK (by decide) (by decide +kernel) (by rw [show List.idxOf ("slot":Str) ["place","slot"]=1 by decide +kernel];rfl)
theorem ycZ {x:PV}{ρ:PSt}{h:AH}:ynC [5,6] 0 "place" (.own (.ins 6 [] [])::ρ) x h=some (.nx (.own (.ins 6 ["place"] [x])::ρ),h):=yeu (by decide) (by decide) (by decide +kernel)
theorem ydM {v0:PV}{x:PV}{ρ:PSt}{h:AH}:ynC [3,4,5,6,7,9,10] 0 "slot" (.own (.ins 6 ["place"] [v0])::ρ) x h=some (.nx (.own (.ins 6 ["place","slot"] [v0,x])::ρ),h):=yeu (by decide) (by decide) (by decide +kernel)
theorem yeT {v0 v1 v2:PV}{h:AH}:yiV [3,4,5,6,7,9,10] "slot" (.ins 7 ["slot","parts","others"] [v0,v1,v2]) h=some (v0,h):=ycK (by decide) (by decide +kernel) (by rw [show List.idxOf ("slot":Str) ["slot","parts","others"]=0 by decide +kernel];rfl)
theorem ydN {v0 v1 v2:PV}{h:AH}:yiV [7,8,9] "parts" (.ins 7 ["slot","parts","others"] [v0,v1,v2]) h=some (v1,h):=ycK (by decide) (by decide +kernel) (by rw [show List.idxOf ("parts":Str) ["slot","parts","others"]=1 by decide +kernel];rfl)
theorem yda {v0 v1 v2:PV}{h:AH}:yiV [7,8,9] "others" (.ins 7 ["slot","parts","others"] [v0,v1,v2]) h=some (v2,h):=ycK (by decide) (by decide +kernel) (by rw [show List.idxOf ("others":Str) ["slot","parts","others"]=2 by decide +kernel];rfl)
theorem yeU {x:PV}{ρ:PSt}{h:AH}:ynC [3,4,5,6,7,9,10] 0 "slot" (.own (.ins 7 [] [])::ρ) x h=some (.nx (.own (.ins 7 ["slot"] [x])::ρ),h):=yeu (by decide) (by decide) (by decide +kernel)
theorem ydO {v0:PV}{x:PV}{ρ:PSt}{h:AH}:ynC [7,8,9] 0 "parts" (.own (.ins 7 ["slot"] [v0])::ρ) x h=some (.nx (.own (.ins 7 ["slot","parts"] [v0,x])::ρ),h):=yeu (by decide) (by decide) (by decide +kernel)
theorem ydb {v0 v1:PV}{x:PV}{ρ:PSt}{h:AH}:ynC [7,8,9] 0 "others" (.own (.ins 7 ["slot","parts"] [v0,v1])::ρ) x h=some (.nx (.own (.ins 7 ["slot","parts","others"] [v0,v1,x])::ρ),h):=yeu (by decide) (by decide) (by decide +kernel)
theorem ybN {v0 v1:PV}{h:AH}:yiV [7,8,9] "parts" (.ins 8 ["parts","others"] [v0,v1]) h=some (v0,h):=ycK (by decide) (by decide +kernel) (by rw [show List.idxOf ("parts":Str) ["parts","others"]=0 by decide +kernel];rfl)
theorem ybx {v0 v1:PV}{h:AH}:yiV [7,8,9] "others" (.ins 8 ["parts","others"] [v0,v1]) h=some (v1,h):=ycK (by decide) (by decide +kernel) (by rw [show List.idxOf ("others":Str) ["parts","others"]=1 by decide +kernel];rfl)
theorem ybO {x:PV}{ρ:PSt}{h:AH}:ynC [7,8,9] 0 "parts" (.own (.ins 8 [] [])::ρ) x h=some (.nx (.own (.ins 8 ["parts"] [x])::ρ),h):=yeu (by decide) (by decide) (by decide +kernel)
theorem yby {v0:PV}{x:PV}{ρ:PSt}{h:AH}:ynC [7,8,9] 0 "others" (.own (.ins 8 ["parts"] [v0])::ρ) x h=some (.nx (.own (.ins 8 ["parts","others"] [v0,x])::ρ),h):=yeu (by decide) (by decide) (by decide +kernel)
section
local macro_rules | `(tactic| simp_all? only [$ls,*])=>`(tactic| simp only [yw,ysn,ynX,ymr,yms,x_c,yyk,ysp,yAT,ykI,ymt,ymu,yCt,ysq,yCu,ynf,yiZ,yqy,ysr,yzS,yss,yst,ypi,x_call,yCv,yqz,yxk,yja,ymv,yjb,ykJ,yjc,ylQ,ysu,yhs,yng,yqA,ylR,ymw,ymx,ymy,yjd,ymz,ysv,ysw,ysx,ysy,ypj,ysz,ysA,ysB,ysC,ysD,x_i,yCw,yje,ymA,ymB,ysE,ysF,ysG,ysH,ysI,ymC,ysJ,ysK,ysL,ysM,ysN,ysO,yCx,ysP,ymD,yht,ykK,ymE,ymF,ymG,yjf,yhR,ykL,yso,Option.bind_some,Option.bind_none,List.set_cons_zero,List.set_cons_succ,List.length_cons,List.length_nil,decide_eq_true_eq,Bool.not_eq_true',decide_eq_false_iff_not,if_true,if_false,ite_true,ite_false,and_self,Int.reducePow,Int.reduceToNat,Int.reduceLT,Int.reduceLE,Int.reduceNeg,Int.reduceAdd,Int.reduceSub,Nat.reduceLT,Nat.reduceLeDiff,Nat.reduceAdd,true_and,and_true,reduceIte,Nat.reduceEqDiff,eq_self,yyy,yyz,yzT,yBc,yCC,ysU,ysV,ysW,ysX,Int.reduceEq,Bool.not_true,Bool.not_false,ymI,ycU,ybw,ycs,yca,ycV,ycb,ydJ,yct,ydK,ycu,ycc,ycd,ycv,ybL,yce,ycf,ycw,ybM,ycW,ycx,ycX,ycy,ycY,ydL,ycZ,ydM,yeT,ydN,yda,yeU,ydO,ydb,ybN,ybx,ybO,yby,yji,yjj,$ls,*])
local macro_rules | `(tactic| walk_at "px")=>`(tactic| simp_all? only [yw])
noncomputable def yR:List (Nat×Nat×Bool):=[(3,3,true),(3,4,false),(3,5,false),(3,6,false),(3,7,false),(3,8,false),(3,9,false),(3,10,false),(3,11,false),(4,3,false),(4,4,true),(4,5,false),(4,6,false),(4,7,false),(4,8,false),(4,9,false),(4,10,false),(4,11,false),(5,3,false),(5,4,false),(5,5,true),(5,6,false),(5,7,false),(5,8,false),(5,9,false),(5,10,false),(5,11,false),(6,3,false),(6,4,false),(6,5,false),(6,6,true),(6,7,false),(6,8,false),(6,9,false),(6,10,false),(6,11,false),(7,3,false),(7,4,false),(7,5,false),(7,6,false),(7,7,true),(7,8,false),(7,9,false),(7,10,false),(7,11,false),(8,3,false),(8,4,false),(8,5,false),(8,6,false),(8,7,false),(8,8,true),(8,9,false),(8,10,false),(8,11,false),(11,3,false),(11,4,false),(11,5,false),(11,6,false),(11,7,false),(11,8,false),(11,9,false),(11,10,false),(11,11,true)]
structure Fa (ck:Ck):Prop where
 fl_stack:∀ k∈([0]:List Nat),Cls ck.K (ck.A k)/\NoAttr ck.K (ck.A k) "stack"
 fl_last_seen:∀ k∈([0]:List Nat),Cls ck.K (ck.A k)/\NoAttr ck.K (ck.A k) "last_seen"
 fl_held:∀ k∈([1]:List Nat),Cls ck.K (ck.A k)/\NoAttr ck.K (ck.A k) "held"
 fl_width:∀ k∈([1]:List Nat),Cls ck.K (ck.A k)/\NoAttr ck.K (ck.A k) "width"
 fl_log:∀ k∈([1]:List Nat),Cls ck.K (ck.A k)/\NoAttr ck.K (ck.A k) "log"
 fl_found:∀ k∈([1]:List Nat),Cls ck.K (ck.A k)/\NoAttr ck.K (ck.A k) "found"
 fl_slot:∀ k∈([3,4,5,6,7,9,10]:List Nat),Cls ck.K (ck.A k)/\NoAttr ck.K (ck.A k) "slot"
 fl_number:∀ k∈([3]:List Nat),Cls ck.K (ck.A k)/\NoAttr ck.K (ck.A k) "number"
 fl_word:∀ k∈([4]:List Nat),Cls ck.K (ck.A k)/\NoAttr ck.K (ck.A k) "word"
 fl_one:∀ k∈([4]:List Nat),Cls ck.K (ck.A k)/\NoAttr ck.K (ck.A k) "one"
 fl_other:∀ k∈([4]:List Nat),Cls ck.K (ck.A k)/\NoAttr ck.K (ck.A k) "other"
 fl_place:∀ k∈([5,6]:List Nat),Cls ck.K (ck.A k)/\NoAttr ck.K (ck.A k) "place"
 fl_parts:∀ k∈([7,8,9]:List Nat),Cls ck.K (ck.A k)/\NoAttr ck.K (ck.A k) "parts"
 fl_others:∀ k∈([7,8,9]:List Nat),Cls ck.K (ck.A k)/\NoAttr ck.K (ck.A k) "others"
 fl_name:∀ k∈([9,10]:List Nat),Cls ck.K (ck.A k)/\NoAttr ck.K (ck.A k) "name"
 isa:∀ r∈yR,∀ (H:Hp) (a dx:Addr) (fs:List (Str×V)),H a=some (.ins (ck.A r.1) dx fs)->IsI ck.K H (.ref a) (.ref (ck.A r.2.1)) r.2.2
noncomputable def yew:List PV->AH->Option (Nd×AH):=yuC 1 0 (yB (ygG [0] 0 "stack" (ymp (ymo (yd (ymp (ysS)) (yu))))) (ygG [0] 0 "last_seen" (ymp (ysS))))
noncomputable def ygS:Fn:=yho 4 (yB (yes (xOp (yiU) (yfM [0] "stack" (yh 0)) (xUn yIe (xC (.int 1)))) (yJ 3)) (yqF (yh 3) (yh 1) (yh 2)))
noncomputable def ygd:Fn:=yho 3 (yB (yBi true (yfM [0] "stack" (yh 0)) (yJ 2) (ydH (yU (yyu false (yh 1) (yh 2))) (ycN (yuH (yh 2) (yh 1))) (ybQ))) (ycN (xC .non)))
noncomputable def ygT:Fn:=yho 1 (yfz (xBM yqD (ywK) (yfM [0] "stack" (yh 0)) (yd (ymp (ysS)) (yu))))
noncomputable def yge:Fn:=yho 3 (yB (yes (xBM yqD (ywL) (yfM [0] "stack" (yh 0)) (yu)) (yJ 1)) (yB (yes (xOp (yiU) (yfM [0] "stack" (yh 0)) (xUn yIe (xC (.int 1)))) (yJ 2)) (yfz (xBM ywQ (yFw) (yh 2) (yd (yh 1) (yu))))))
noncomputable def ygP:Fn:=yho 1 (yfz (xBM yqD (ywL) (yfM [0] "stack" (yh 0)) (yu)))
noncomputable def yjk:Fn:=yho 3 (yqF (yfM [0] "last_seen" (yh 0)) (yh 1) (yh 2))
noncomputable def ygU:Fn:=yho 1 (ycN (ymp (yoe (yfM [0] "last_seen" (yh 0)))))
noncomputable def ygV:Fn:=yho 2 (yB (yes (xOp (yiU) (yfM [0] "stack" (yh 0)) (xC (.int 0))) (yJ 1)) (ycN (ymp (yoe (yh 1)))))
noncomputable def ykS:Fn:=yho 3 (yB (ydH (yU (xOp (oEq) (yh 0) (xC (.str "plus")))) (ycN (xOp oMod (xOp yqx (yh 1) (yh 2)) (xC (.int 18446744073709551616)))) (ybQ)) (yB (ydH (yU (xOp (oEq) (yh 0) (xC (.str "minus")))) (ycN (xOp oMod (xOp yGu (yh 1) (yh 2)) (xC (.int 18446744073709551616)))) (ybQ)) (yB (ydH (yU (xOp (oEq) (yh 0) (xC (.str "times")))) (ycN (xOp oMod (xOp yEe (yh 1) (yh 2)) (xC (.int 18446744073709551616)))) (ybQ)) (yB (ydH (yU (xOp (oEq) (yh 0) (xC (.str "less")))) (ycN (xIf (yU (xOp (oLt) (yh 1) (yh 2))) (xC (.int 1)) (xC (.int 0)))) (ybQ)) (ycN (xIf (yU (xOp (oEq) (yh 1) (yh 2))) (xC (.int 1)) (xC (.int 0))))))))
noncomputable def ydP:Fn:=yho 1 (ycN (xBM isStr (yfb) (xC (.str "abcdefgh")) (yd (yh 0) (yu))))
noncomputable def ydQ:List PV->AH->Option (Nd×AH):=yuC 3 1 (yB (ygG [1] 0 "held" (ymp (ypf (ybU) (yd (yh 1) (yu))))) (yB (ygG [1] 0 "width" (yh 2)) (ygG [1] 0 "log" (ymp (yne yew (yu))))))
noncomputable def yT:Fn:=yho 2 (ycN (xOp (yiU) (yfM [1] "held" (yh 0)) (ydt ydP (yd (yh 1) (yu)))))
noncomputable def ybC:Fn:=yho 3 (ynY (yfM [1] "held" (yh 0)) (ydt ydP (yd (yh 1) (yu))) (yh 2))
noncomputable def ybq:Fn:=yho 2 (ycN (xOp oMod (yK 1 "held_in" yT (yh 0) (yd (yh 1) (yu))) (yfM [1] "width" (yh 0))))
noncomputable def ydu:Fn:=yho 5 (yfz (yK 1 "hold" ybC (yh 0) (yd (yh 2) (yd (ydt ykS (yd (yh 1) (yd (yK 1 "held_in" yT (yh 0) (yd (yh 3) (yu))) (yd (yK 1 "held_in" yT (yh 0) (yd (yh 4) (yu))) (yu))))) (yu)))))
noncomputable def yfc:Fn:=yho 3 (yfz (yK 0 "write" ygS (yfM [1] "log" (yh 0)) (yd (yK 1 "box_at" ybq (yh 0) (yd (yh 1) (yu))) (yd (yK 1 "held_in" yT (yh 0) (yd (yh 2) (yu))) (yu)))))
noncomputable def yex:Fn:=yho 2 (ycN (xOp (yEf) (yK 0 "own" ygd (yfM [1] "log" (yh 0)) (yd (yK 1 "box_at" ybq (yh 0) (yd (yh 1) (yu))) (yu))) (xC .non)))
noncomputable def ydR:Fn:=yho 3 (yfz (yK 1 "hold" ybC (yh 0) (yd (yh 1) (yd (yK 0 "own" ygd (yfM [1] "log" (yh 0)) (yd (yK 1 "box_at" ybq (yh 0) (yd (yh 2) (yu))) (yu))) (yu)))))
noncomputable def ydv:Fn:=yho 5 (yB (yes (yK 1 "box_at" ybq (yh 0) (yd (yh 2) (yu))) (yJ 4)) (yB (yfz (yK 0 "see" yjk (yfM [1] "log" (yh 0)) (yd (yh 4) (yd (xOp (yiU) (yh 3) (yh 4)) (yu))))) (yfz (yK 1 "hold" ybC (yh 0) (yd (yh 1) (yd (xOp (yiU) (yh 3) (yh 4)) (yu)))))))
noncomputable def yey:List PV->AH->Option (Nd×AH):=yuC 3 3 (yB (ygG [3,4,5,6,7,9,10] 0 "slot" (yh 1)) (ygG [3] 0 "number" (yh 2)))
noncomputable def ycP:List PV->AH->Option (Nd×AH):=yuC 5 4 (yB (ygG [4] 0 "word" (yh 1)) (yB (ygG [3,4,5,6,7,9,10] 0 "slot" (yh 2)) (yB (ygG [4] 0 "one" (yh 3)) (ygG [4] 0 "other" (yh 4)))))
noncomputable def ydS:List PV->AH->Option (Nd×AH):=yuC 3 5 (yB (ygG [3,4,5,6,7,9,10] 0 "slot" (yh 1)) (ygG [5,6] 0 "place" (yh 2)))
noncomputable def yez:List PV->AH->Option (Nd×AH):=yuC 3 6 (yB (ygG [5,6] 0 "place" (yh 1)) (ygG [3,4,5,6,7,9,10] 0 "slot" (yh 2)))
noncomputable def ydw:List PV->AH->Option (Nd×AH):=yuC 3 1 (yB (xBI 1 ydQ (yd (yh 2) (yd (xCB (yiW) (yd (yh 1) (yu))) (yu)))) (ygG [1] 0 "found" (xFz (ypf (ybU) (yd (yh 1) (yu))))))
noncomputable def ycQ:Fn:=yho 2 (ydH (yU (yK 1 "sees_at" yex (yh 0) (yd (yfM [5,6] "place" (yh 1)) (yu)))) (yfz (yK 1 "take_seen" ydv (yh 0) (yd (yfM [3,4,5,6,7,9,10] "slot" (yh 1)) (yd (yfM [5,6] "place" (yh 1)) (yd (yfM [1] "found" (yh 0)) (yu)))))) (yfz (yK 1 "take_own" ydR (yh 0) (yd (yfM [3,4,5,6,7,9,10] "slot" (yh 1)) (yd (yfM [5,6] "place" (yh 1)) (yu))))))
noncomputable def ycz:Fn:=yho 2 (yB (ydH (yU (xCB (ycS yR) (yd (yh 1) (yd (xC (.cls 3)) (yu))))) (yfz (yK 1 "hold" ybC (yh 0) (yd (yfM [3,4,5,6,7,9,10] "slot" (yh 1)) (yd (yfM [3] "number" (yh 1)) (yu))))) (ybQ)) (yB (ydH (yU (xCB (ycS yR) (yd (yh 1) (yd (xC (.cls 4)) (yu))))) (yfz (yK 1 "do_reckon" ydu (yh 0) (yd (yfM [4] "word" (yh 1)) (yd (yfM [3,4,5,6,7,9,10] "slot" (yh 1)) (yd (yfM [4] "one" (yh 1)) (yd (yfM [4] "other" (yh 1)) (yu))))))) (ybQ)) (yB (ydH (yU (xCB (ycS yR) (yd (yh 1) (yd (xC (.cls 5)) (yu))))) (yfz (yK 1 "take_done" ycQ (yh 0) (yd (yh 1) (yu)))) (ybQ)) (ydH (yU (xCB (ycS yR) (yd (yh 1) (yd (xC (.cls 6)) (yu))))) (yfz (yK 1 "do_put" yfc (yh 0) (yd (yfM [5,6] "place" (yh 1)) (yd (yfM [3,4,5,6,7,9,10] "slot" (yh 1)) (yu))))) (ybQ)))))
mutual
noncomputable def yZ:Nat->Fn
 | 0=>fun _ _=>none
 | n+1=>yho 4 (yB (yAx (xIL (yh 1)) (yJ 2) (yB (yes (yK 1 "part_end" (yba n) (yh 0) (yd (yh 2) (yu))) (yJ 3)) (ydH (yU (xOp (yCF) (yh 3) (xC (.tup [.str "done"])))) (ycN (yh 3)) (ybQ)))) (ycN (xC (.tup [.str "done"]))))
noncomputable def yba:Nat->Fn
 | 0=>fun _ _=>none
 | n+1=>yho 2 (yB (ydH (yU (xCB (ycS yR) (yd (yh 1) (yd (xC (.cls 7)) (yu))))) (ycN (yK 1 "if_end" (yfN n) (yh 0) (yd (yh 1) (yu)))) (ybQ)) (yB (ydH (yU (xCB (ycS yR) (yd (yh 1) (yd (xC (.cls 8)) (yu))))) (ycN (yK 1 "either_end" (ydC n) (yh 0) (yd (yh 1) (yu)))) (ybQ)) (yB (ydH (yU (xCB (ycS yR) (yd (yh 1) (yd (xC (.cls 9)) (yu))))) (ycN (yK 1 "try_end" (yjl n) (yh 0) (yd (yh 1) (yu)))) (ybQ)) (yB (ydH (yU (xCB (ycS yR) (yd (yh 1) (yd (xC (.cls 10)) (yu))))) (ycN (ykg (yd (xC (.str "fell")) (yd (yfM [9,10] "name" (yh 1)) (yd (yK 1 "held_in" yT (yh 0) (yd (yfM [3,4,5,6,7,9,10] "slot" (yh 1)) (yu))) (yu)))))) (ybQ)) (yB (ydH (yU (xCB (ycS yR) (yd (yh 1) (yd (xC (.cls 11)) (yu))))) (ycN (xC (.tup [.str "waits"]))) (ybQ)) (yB (yfz (yK 1 "plain_done" ycz (yh 0) (yd (yh 1) (yu)))) (ycN (xC (.tup [.str "done"])))))))))
noncomputable def yfN:Nat->Fn
 | 0=>fun _ _=>none
 | n+1=>yho 2 (yB (ydH (yU (xOp (oNe) (yK 1 "held_in" yT (yh 0) (yd (yfM [3,4,5,6,7,9,10] "slot" (yh 1)) (yu))) (xC (.int 0)))) (ycN (yK 1 "list_end" (yZ n) (yh 0) (yd (yfM [7,8,9] "parts" (yh 1)) (yu)))) (ybQ)) (ycN (yK 1 "list_end" (yZ n) (yh 0) (yd (yfM [7,8,9] "others" (yh 1)) (yu)))))
noncomputable def ydC:Nat->Fn
 | 0=>fun _ _=>none
 | n+1=>yho 3 (yB (yes (yK 1 "layered_end" (yck n) (yh 0) (yd (yfM [7,8,9] "parts" (yh 1)) (yu))) (yJ 2)) (yB (ydH (yU (xOp (ywO) (yh 2) (xC (.tup [.str "waits"])))) (ycN (yK 1 "list_end" (yZ n) (yh 0) (yd (yfM [7,8,9] "others" (yh 1)) (yu)))) (ybQ)) (ycN (yh 2))))
noncomputable def yjl:Nat->Fn
 | 0=>fun _ _=>none
 | n+1=>yho 3 (yB (yes (yK 1 "layered_end" (yck n) (yh 0) (yd (yfM [7,8,9] "parts" (yh 1)) (yu))) (yJ 2)) (yB (ydH (yIR (yU (xOp (oEq) (xOp (ygC) (yh 2) (xC (.int 0))) (xC (.str "fell")))) (yU (xOp (oEq) (xOp (ygC) (yh 2) (xC (.int 1))) (yfM [9,10] "name" (yh 1))))) (yB (yfz (yK 1 "hold" ybC (yh 0) (yd (yfM [3,4,5,6,7,9,10] "slot" (yh 1)) (yd (xOp (ygC) (yh 2) (xC (.int 2))) (yu))))) (ycN (yK 1 "list_end" (yZ n) (yh 0) (yd (yfM [7,8,9] "others" (yh 1)) (yu))))) (ybQ)) (ycN (yh 2))))
noncomputable def yck:Nat->Fn
 | 0=>fun _ _=>none
 | n+1=>yho 4 (yB (yes (ymp (ypf (ybU) (yd (yfM [1] "held" (yh 0)) (yu)))) (yJ 2)) (yB (yfz (yK 0 "begin" ygT (yfM [1] "log" (yh 0)) (yu))) (yB (yes (yK 1 "list_end" (yZ n) (yh 0) (yd (yh 1) (yu))) (yJ 3)) (yB (ydH (yU (xOp (ywO) (yh 3) (xC (.tup [.str "done"])))) (yfz (yK 0 "settle" yge (yfM [1] "log" (yh 0)) (yu))) (yB (yfz (yK 0 "drop" ygP (yfM [1] "log" (yh 0)) (yu))) (yyB [1] "held" (yh 0) (yh 2)))) (ycN (yh 3))))))
end
noncomputable def yop:Fn:=yho 5 (yB (yes (ymp (yne ydw (yd (yh 1) (yd (yh 2) (yu))))) (yJ 3)) (yB (yes (yK 1 "list_end" (yZ 20) (yh 3) (yd (yh 0) (yu))) (yJ 4)) (yB (ydH (yU (xOp (ywO) (yh 4) (xC (.tup [.str "done"])))) (ycN (ykg (yd (yh 4) (yd (yK 0 "saw" ygU (yfM [1] "log" (yh 3)) (yu)) (yd (yK 0 "wrote" ygV (yfM [1] "log" (yh 3)) (yu)) (yd (ymp (ypf (ybU) (yd (yfM [1] "held" (yh 3)) (yu)))) (yu))))))) (ybQ)) (ycN (ykg (yd (yh 4) (yd (yK 0 "saw" ygU (yfM [1] "log" (yh 3)) (yu)) (yd (ymp (ymo (yu))) (yd (ymp (ypf (ybU) (yd (yh 2) (yu)))) (yu))))))))))
noncomputable def yfd:List PV->AH->Option (Nd×AH):=yuC 4 7 (yB (ygG [3,4,5,6,7,9,10] 0 "slot" (yh 1)) (yB (ygG [7,8,9] 0 "parts" (xFz (ypf (ybU) (yd (yh 2) (yu))))) (ygG [7,8,9] 0 "others" (xFz (ypf (ybU) (yd (yh 3) (yu)))))))
noncomputable def ycR:List PV->AH->Option (Nd×AH):=yuC 3 8 (yB (ygG [7,8,9] 0 "parts" (xFz (ypf (ybU) (yd (yh 1) (yu))))) (ygG [7,8,9] 0 "others" (xFz (ypf (ybU) (yd (yh 2) (yu))))))
noncomputable def ycg:Fn:=yho 1 (ycN (xOp oMod (xOp yEe (yh 0) (xC (.int 48271))) (xC (.int 999999999989))))
noncomputable def ydc:Fn:=yho 1 (ycN (xOp oMod (xOp yEe (yh 0) (xC (.int 982451653))) (xOp yGv (xC (.int 2)) (xC (.int 64)))))
noncomputable def yv:Nat->Fn
 | 0=>fun _ _=>none
 | n+1=>yho 3 (yB (ydH (yU (xCB (ycS yR) (yd (yh 1) (yd (xC (.ty "int")) (yu))))) (ycN (ywy (xCB (ycS yR) (yd (yh 0) (yd (xC (.ty "int")) (yu)))) (ywy (yAp (xCB (ycS yR) (yd (yh 0) (yd (xC (.ty "bool")) (yu))))) (xOp (oEq) (yh 0) (yh 1))))) (ybQ)) (yB (ydH (yU (xCB (ycS yR) (yd (yh 1) (yd (xC (.ty "str")) (yu))))) (ycN (ywy (xCB (ycS yR) (yd (yh 0) (yd (xC (.ty "str")) (yu)))) (xOp (oEq) (yh 0) (yh 1)))) (ybQ)) (yB (ydH (yU (xCB (ycS yR) (yd (yh 1) (yd (xC (.ty "tuple")) (yu))))) (ydH (yDF (yU (xCB (ycS yR) (yd (yh 0) (yd (xC (.ty "tuple")) (yu)))))) (ycN (xC (.bl false))) (ybQ)) (ydH (yDF (yU (xCB (ycS yR) (yd (yh 0) (yd (xC (.ty "list")) (yu)))))) (ycN (xC (.bl false))) (ybQ))) (yB (ydH (yU (xOp (oNe) (xCB (yiW) (yd (yh 0) (yu))) (xCB (yiW) (yd (yh 1) (yu))))) (ycN (xC (.bl false))) (ybQ)) (yB (yAx (yEb (yd (xCB (yiW) (yd (yh 1) (yu))) (yu))) (yJ 2) (ydH (yDF (yU (ydt (yv n) (yd (xOp (yxl) (yh 0) (yh 2)) (yd (xOp (yxl) (yh 1) (yh 2)) (yu)))))) (ycN (xC (.bl false))) (ybQ))) (ycN (xC (.bl true))))))))
noncomputable def ygf:Fn:=yho 11 (yB (yes (xSl yIf (xC (.str "abcdefgh")) (ynT) (ylN (xOp (yiU) (xFz (ymo (yd (xC (.int 2)) (yd (xC (.int 3)) (yd (xC (.int 8)) (yu)))))) (xOp oMod (yh 0) (xC (.int 3)))))) (yJ 2)) (yB (yes (xCB (yAP) (yd (yh 2) (yu))) (yJ 3)) (yB (yes (xOp oDiv (yh 0) (xC (.int 33))) (yJ 4)) (yB (yes (xOp (yCr) (yh 2) (xOp oMod (yh 4) (yh 3))) (yJ 5)) (yB (yes (xOp (yCr) (yh 2) (xOp oMod (xOp oDiv (yh 4) (yh 3)) (yh 3))) (yJ 6)) (yB (yes (xOp (yCr) (yh 2) (xOp oMod (xOp oDiv (xOp oDiv (yh 4) (yh 3)) (yh 3)) (yh 3))) (yJ 7)) (yB (yes (xOp oMod (xOp oDiv (yh 0) (xC (.int 3))) (xC (.int 11))) (yJ 8)) (yB (ydH (yU (xOp (oEq) (yh 8) (xC (.int 0)))) (ycN (xFz (ymo (yd (ykg (yd (xC (.str "let")) (yd (yh 5) (yd (ydt ydc (yd (yh 1) (yu))) (yu))))) (yu))))) (ybQ)) (yB (ydH (yU (xOp (oLt) (yh 8) (xC (.int 3)))) (ycN (xFz (ymo (yd (ykg (yd (xC (.str "let")) (yd (yh 5) (yd (xOp oMod (xOp oDiv (yh 4) (xC (.int 1000))) (xC (.int 4))) (yu))))) (yu))))) (ybQ)) (yB (ydH (yU (xOp (oLt) (yh 8) (xC (.int 5)))) (yB (yes (xOp (yiU) (xFz (ymo (yd (xC (.str "plus")) (yd (xC (.str "minus")) (yd (xC (.str "times")) (yd (xC (.str "less")) (yd (xC (.str "same")) (yu)))))))) (xOp oMod (xOp oDiv (yh 4) (xC (.int 1000))) (xC (.int 5)))) (yJ 9)) (ycN (xFz (ymo (yd (ykg (yd (xC (.str "reckon")) (yd (yh 9) (yd (yh 5) (yd (yh 6) (yd (yh 7) (yu))))))) (yu)))))) (ybQ)) (yB (ydH (yU (xOp (oLt) (yh 8) (xC (.int 7)))) (ycN (xFz (ymo (yd (ykg (yd (xC (.str "take")) (yd (yh 5) (yd (yh 6) (yu))))) (yu))))) (ybQ)) (yB (ydH (yU (xOp (oLt) (yh 8) (xC (.int 9)))) (ycN (xFz (ymo (yd (ykg (yd (xC (.str "put")) (yd (yh 5) (yd (yh 6) (yu))))) (yu))))) (ybQ)) (yB (yes (xOp (yiU) (xFz (ymo (yd (xC (.str "plus")) (yd (xC (.str "minus")) (yd (xC (.str "times")) (yu)))))) (xOp oMod (xOp oDiv (yh 4) (xC (.int 1000))) (xC (.int 3)))) (yJ 9)) (yB (yes (xFz (ymo (yd (ykg (yd (xC (.str "let")) (yd (yh 5) (yd (xOp oMod (xOp oDiv (yh 4) (xC (.int 3000))) (xC (.int 3))) (yu))))) (yd (ykg (yd (xC (.str "take")) (yd (yh 6) (yd (yh 5) (yu))))) (yu))))) (yJ 10)) (ycN (xFz (yCk yCs (yh 10) (xFz (ymo (yd (ykg (yd (xC (.str "reckon")) (yd (yh 9) (yd (yh 6) (yd (yh 6) (yd (yh 7) (yu))))))) (yd (ykg (yd (xC (.str "put")) (yd (yh 5) (yd (yh 6) (yu))))) (yu))))))))))))))))))))))
noncomputable def ygg:Fn:=yho 4 (yB (yes (xOp (yCr) (xC (.str "abc")) (xOp oMod (xOp oDiv (yh 0) (xC (.int 9))) (xC (.int 3)))) (yJ 3)) (yB (ydH (yU (xOp (oEq) (xOp oMod (yh 0) (xC (.int 4))) (xC (.int 0)))) (ycN (ykg (yd (xC (.str "if")) (yd (yh 3) (yd (yh 1) (yd (yh 2) (yu))))))) (ybQ)) (yB (ydH (yU (xOp (oEq) (xOp oMod (xOp oDiv (yh 0) (xC (.int 4))) (xC (.int 3))) (xC (.int 1)))) (yes (xFz (yCk yCs (yh 1) (xFz (ymo (yd (ykg (yd (xC (.str "wait")) (yu))) (yu)))))) (yJ 1)) (ybQ)) (yB (ydH (yU (xOp (oEq) (xOp oMod (xOp oDiv (yh 0) (xC (.int 4))) (xC (.int 3))) (xC (.int 2)))) (yes (xFz (yCk yCs (yh 1) (xFz (ymo (yd (ykg (yd (xC (.str "if")) (yd (yh 3) (yd (xFz (ymo (yd (ykg (yd (xC (.str "wait")) (yu))) (yu)))) (yd (xFz (ymo (yu))) (yu)))))) (yu)))))) (yJ 1)) (ybQ)) (yB (ydH (yU (xOp (oEq) (xOp oMod (xOp oDiv (yh 0) (xC (.int 27))) (xC (.int 5))) (xC (.int 1)))) (yes (xFz (yCk yCs (yh 2) (xFz (ymo (yd (ykg (yd (xC (.str "wait")) (yu))) (yu)))))) (yJ 2)) (ybQ)) (ycN (ykg (yd (xC (.str "either")) (yd (yh 1) (yd (yh 2) (yu)))))))))))
noncomputable def yeM:Nat->Fn
 | 0=>fun _ _=>none
 | n+1=>yho 10 (yB (yuz (ymo (yu)) 2) (yB (yes (xC (.int 0)) (yJ 3)) (yB (ysl 1000 (yU (xOp (oLt) (yh 3) (xCB (yiW) (yd (yh 0) (yu))))) (yB (yes (xOp (yiU) (yh 0) (yh 3)) (yJ 4)) (yB (yes (ydt ycg (yd (yh 4) (yu))) (yJ 5)) (yB (yes (xOp yqx (yh 3) (xC (.int 1))) (yJ 3)) (ydH (xOr (yU (xOp (oEq) (yh 1) (xC (.int 0)))) (yU (xOp (oLt) (xOp oMod (yh 5) (xC (.int 11))) (xC (.int 6))))) (yDT 2 (yuz (yCk yCs (yh 2) (ydt ygf (yd (xOp oDiv (yh 5) (xC (.int 11))) (yd (yh 4) (yu))))) 2)) (ydH (yU (xOp (oEq) (xOp oMod (yh 5) (xC (.int 33))) (xC (.int 6)))) (ykh 2 (ykg (yd (xC (.str "wait")) (yu)))) (yB (yes (xOp oMod (xOp oDiv (yh 5) (xC (.int 33))) (xC (.int 4))) (yJ 6)) (yB (yes (xOp oMod (xOp oDiv (yh 5) (xC (.int 132))) (xC (.int 3))) (yJ 7)) (yB (yes (ydt (yeM n) (yd (xFz (yCl yAO (yh 0) (ylN (yh 3)) (ylN (xOp yqx (yh 3) (yh 6))))) (yd (xOp yGu (yh 1) (xC (.int 1))) (yu)))) (yJ 8)) (yB (yes (ydt (yeM n) (yd (xFz (yCl yAO (yh 0) (ylN (xOp yqx (yh 3) (yh 6))) (ylN (xOp yqx (xOp yqx (yh 3) (yh 6)) (yh 7))))) (yd (xOp yGu (yh 1) (xC (.int 1))) (yu)))) (yJ 9)) (yB (yes (xOp yqx (xOp yqx (yh 3) (yh 6)) (yh 7)) (yJ 3)) (ykh 2 (ydt ygg (yd (xOp oDiv (yh 5) (xC (.int 396))) (yd (yh 8) (yd (yh 9) (yu))))))))))))))))) (yDT 2 (ycN (yh 2))))))
noncomputable def ydd:Nat->Fn
 | 0=>fun _ _=>none
 | n+1=>yho 3 (yB (yuz (ymo (yu)) 1) (yB (yAx (xIL (yh 0)) (yJ 2) (ydH (yU (xOp (oEq) (xOp (ygC) (yh 2) (xC (.int 0))) (xC (.str "let")))) (ykh 1 (xFz (yne yey (yd (xOp (ygC) (yh 2) (xC (.int 1))) (yd (xOp (ygC) (yh 2) (xC (.int 2))) (yu)))))) (ydH (yU (xOp (oEq) (xOp (ygC) (yh 2) (xC (.int 0))) (xC (.str "reckon")))) (ykh 1 (xFz (yne ycP (yd (xOp (ygC) (yh 2) (xC (.int 1))) (yd (xOp (ygC) (yh 2) (xC (.int 2))) (yd (xOp (ygC) (yh 2) (xC (.int 3))) (yd (xOp (ygC) (yh 2) (xC (.int 4))) (yu)))))))) (ydH (yU (xOp (oEq) (xOp (ygC) (yh 2) (xC (.int 0))) (xC (.str "take")))) (ykh 1 (xFz (yne ydS (yd (xOp (ygC) (yh 2) (xC (.int 1))) (yd (xOp (ygC) (yh 2) (xC (.int 2))) (yu)))))) (ydH (yU (xOp (oEq) (xOp (ygC) (yh 2) (xC (.int 0))) (xC (.str "put")))) (ykh 1 (xFz (yne yez (yd (xOp (ygC) (yh 2) (xC (.int 1))) (yd (xOp (ygC) (yh 2) (xC (.int 2))) (yu)))))) (ydH (yU (xOp (oEq) (xOp (ygC) (yh 2) (xC (.int 0))) (xC (.str "if")))) (ykh 1 (xFz (yne yfd (yd (xOp (ygC) (yh 2) (xC (.int 1))) (yd (ydt (ydd n) (yd (xOp (ygC) (yh 2) (xC (.int 2))) (yu))) (yd (ydt (ydd n) (yd (xOp (ygC) (yh 2) (xC (.int 3))) (yu))) (yu))))))) (ydH (yU (xOp (oEq) (xOp (ygC) (yh 2) (xC (.int 0))) (xC (.str "either")))) (ykh 1 (xFz (yne ycR (yd (ydt (ydd n) (yd (xOp (ygC) (yh 2) (xC (.int 1))) (yu))) (yd (ydt (ydd n) (yd (xOp (ygC) (yh 2) (xC (.int 2))) (yu))) (yu)))))) (ykh 1 (xFz (yvI 11)))))))))) (yDT 1 (ycN (yh 1)))))
noncomputable def ygh:Fn:=yho 6 (yB (yes (ydt ycg (yd (yh 0) (yu))) (yJ 1)) (yB (yes (xOp (yiU) (xFz (ymo (yd (xC (.int 1)) (yd (xC (.int 2)) (yd (xC (.int 3)) (yd (xOp yqx (xC (.int 1)) (xOp oMod (xOp oDiv (yh 1) (xC (.int 4))) (xC (.int 16)))) (yu))))))) (xOp oMod (yh 1) (xC (.int 4)))) (yJ 2)) (yB (yuz (ymo (yu)) 3) (yB (yAx (yEb (yd (yh 2) (yu))) (yJ 4) (yB (yes (xFz (ymo (yd (xOp oMod (xOp oDiv (xOp oDiv (yh 1) (xC (.int 64))) (xOp yqx (yh 4) (xC (.int 1)))) (xC (.int 5))) (yd (ydt ydc (yd (xOp yqx (yh 0) (xOp yEe (yh 4) (yh 4))) (yu))) (yu))))) (yJ 5)) (ykh 3 (xOp (yiU) (yh 5) (xOp oMod (xOp yqx (xOp oDiv (yh 1) (xC (.int 1000))) (yh 4)) (xC (.int 2))))))) (yDT 3 (ycN (yh 3)))))))
noncomputable def ygi:Fn:=yho 3 (yB (yes (ydt ycg (yd (yh 0) (yu))) (yJ 1)) (yB (yes (ymp (ywC (yEb (yd (xC (.int 8)) (yu))) [1] (xOp oMod (xOp oDiv (yh 1) (xOp yqx (xOp yEe (yh 0) (yh 0)) (xC (.int 3)))) (xC (.int 4))))) (yJ 2)) (yB (ynY (yh 2) (xOp oMod (yh 1) (xC (.int 8))) (ydt ydc (yd (yh 0) (yu)))) (ycN (yh 2)))))
noncomputable def yid:Fn:=yho 3 (yB (ydH (yU (xOp (oEq) (yh 0) (xC (.str "less")))) (ycN (xCB (ywH) (yd (xOp (oLt) (yh 1) (yh 2)) (yu)))) (ybQ)) (yB (ydH (yU (xOp (oEq) (yh 0) (xC (.str "same")))) (ycN (xCB (ywH) (yd (xOp (oEq) (yh 1) (yh 2)) (yu)))) (ybQ)) (yB (ydH (yU (xOp (oEq) (yh 0) (xC (.str "plus")))) (ycN (xOp oMod (xOp yqx (yh 1) (yh 2)) (xOp yGv (xC (.int 2)) (xC (.int 64))))) (ybQ)) (yB (ydH (yU (xOp (oEq) (yh 0) (xC (.str "minus")))) (ycN (xOp oMod (xOp yGu (yh 1) (yh 2)) (xOp yGv (xC (.int 2)) (xC (.int 64))))) (ybQ)) (ycN (xOp oMod (xOp yEe (yh 1) (yh 2)) (xOp yGv (xC (.int 2)) (xC (.int 64)))))))))
noncomputable def yeA:Fn:=yho 8 (ydH (yU (xOp (oEq) (xOp (ygC) (yh 0) (xC (.int 0))) (xC (.str "let")))) (ynY (yh 3) (xBM isStr (yfb) (xC (.str "abcdefgh")) (yd (xOp (ygC) (yh 0) (xC (.int 1))) (yu))) (xOp (ygC) (yh 0) (xC (.int 2)))) (ydH (yU (xOp (oEq) (xOp (ygC) (yh 0) (xC (.int 0))) (xC (.str "reckon")))) (yB (yes (xOp (yiU) (yh 3) (xBM isStr (yfb) (xC (.str "abcdefgh")) (yd (xOp (ygC) (yh 0) (xC (.int 3))) (yu)))) (yJ 5)) (yB (yes (xOp (yiU) (yh 3) (xBM isStr (yfb) (xC (.str "abcdefgh")) (yd (xOp (ygC) (yh 0) (xC (.int 4))) (yu)))) (yJ 6)) (ynY (yh 3) (xBM isStr (yfb) (xC (.str "abcdefgh")) (yd (xOp (ygC) (yh 0) (xC (.int 2))) (yu))) (ydt yid (yd (xOp (ygC) (yh 0) (xC (.int 1))) (yd (yh 5) (yd (yh 6) (yu)))))))) (ydH (yU (xOp (oEq) (xOp (ygC) (yh 0) (xC (.int 0))) (xC (.str "put")))) (yB (yes (xOp oMod (xOp (yiU) (yh 3) (xBM isStr (yfb) (xC (.str "abcdefgh")) (yd (xOp (ygC) (yh 0) (xC (.int 1))) (yu)))) (xCB (yiW) (yd (yh 1) (yu)))) (yJ 7)) (yqF (yh 4) (yh 7) (xOp (yiU) (yh 3) (xBM isStr (yfb) (xC (.str "abcdefgh")) (yd (xOp (ygC) (yh 0) (xC (.int 2))) (yu)))))) (yB (yes (xOp oMod (xOp (yiU) (yh 3) (xBM isStr (yfb) (xC (.str "abcdefgh")) (yd (xOp (ygC) (yh 0) (xC (.int 2))) (yu)))) (xCB (yiW) (yd (yh 1) (yu)))) (yJ 7)) (yB (ydH (yU (yyu true (yh 7) (yh 4))) (yqF (yh 2) (yh 7) (xOp (yiU) (yh 1) (yh 7))) (ybQ)) (ynY (yh 3) (xBM isStr (yfb) (xC (.str "abcdefgh")) (yd (xOp (ygC) (yh 0) (xC (.int 1))) (yu))) (ysT (yh 4) (yh 7) (xOp (yiU) (yh 1) (yh 7)))))))))
noncomputable def ydT:Fn:=yho 1 (ycN (xFz (ywC (xIL (xFz (ypf ypV (yd (yh 0) (yu))))) [0] (ykg (yd (yh 0) (yd (yuH (yh 1) (yh 0)) (yu)))))))
mutual
noncomputable def ygj:Nat->Fn
 | 0=>fun _ _=>none
 | n+1=>yho 7 (yB (yAx (xIL (yh 0)) (yJ 5) (yB (yes (ydt (yde n) (yd (yh 5) (yd (yh 1) (yd (yh 2) (yd (yh 3) (yd (yh 4) (yu))))))) (yJ 6)) (yB (ydH (yU (xOp (yEf) (yh 6) (xC .non))) (ycN (xC .non)) (ybQ)) (yes (yh 6) (yFt 2 (yuy (yJ 3) (yuy (yJ 4) (yGs)))))))) (ycN (ykg (yd (yh 3) (yd (yh 4) (yu))))))
noncomputable def yde:Nat->Fn
 | 0=>fun _ _=>none
 | n+1=>yho 7 (yB (ydH (yU (xOp (oEq) (xOp (ygC) (yh 0) (xC (.int 0))) (xC (.str "wait")))) (ycN (xC .non)) (ybQ)) (yB (ydH (yU (xOp (oEq) (xOp (ygC) (yh 0) (xC (.int 0))) (xC (.str "if")))) (yB (yes (xOp yqx (xC (.int 2)) (xCB (ywH) (yd (xOp (oEq) (xOp (yiU) (yh 3) (xBM isStr (yfb) (xC (.str "abcdefgh")) (yd (xOp (ygC) (yh 0) (xC (.int 1))) (yu)))) (xC (.int 0))) (yu)))) (yJ 5)) (ycN (ydt (ygj n) (yd (xOp (ygC) (yh 0) (yh 5)) (yd (yh 1) (yd (yh 2) (yd (yh 3) (yd (yh 4) (yu))))))))) (ybQ)) (yB (ydH (yU (xOp (oEq) (xOp (ygC) (yh 0) (xC (.int 0))) (xC (.str "either")))) (yB (yes (ydt (ygj n) (yd (xOp (ygC) (yh 0) (xC (.int 1))) (yd (yh 1) (yd (yh 2) (yd (ymp (ypf (ybU) (yd (yh 3) (yu)))) (yd (ymp (ypf (ykl) (yd (yh 4) (yu)))) (yu))))))) (yJ 6)) (yB (ydH (yU (xOp (yEf) (yh 6) (xC .non))) (ycN (ydt (ygj n) (yd (xOp (ygC) (yh 0) (xC (.int 2))) (yd (yh 1) (yd (yh 2) (yd (yh 3) (yd (yh 4) (yu)))))))) (ybQ)) (ycN (yh 6)))) (ybQ)) (yB (yes (ymp (ypf (ybU) (yd (yh 3) (yu)))) (yJ 3)) (yB (yes (ymp (ypf (ykl) (yd (yh 4) (yu)))) (yJ 4)) (yB (yfz (ydt yeA (yd (yh 0) (yd (yh 1) (yd (yh 2) (yd (yh 3) (yd (yh 4) (yu)))))))) (ycN (ykg (yd (yh 3) (yd (yh 4) (yu)))))))))))
end
noncomputable def yBv:Fn:=yho 9 (yB (yAx (yGJ (yd (xC (.int 0)) (yd (xCB (yyw) (yd (xC (.int 1)) (yd (xCB (yiW) (yd (yh 0) (yu))) (yu)))) (yd (xC (.int 11)) (yu))))) (yJ 1) (yB (yes (xFz (yCl yAO (yh 0) (ylN (yh 1)) (ylN (xOp yqx (yh 1) (xC (.int 11)))))) (yJ 2)) (yB (yes (ydt (yeM 5) (yd (yh 2) (yd (xC (.int 3)) (yu)))) (yJ 3)) (yB (yes (ydt ygh (yd (xOp yqx (xCB (yFu) (yd (xFz (yCl yAO (yh 2) (ylN (xC (.int 1))) (ylN (xC (.int 2))))) (yu))) (yh 1)) (yu))) (yJ 4)) (yB (yes (ydt ygi (yd (xOp yqx (xCB (yFu) (yd (xFz (yCl yAO (yh 2) (ynT) (ylN (xC (.int 1))))) (yu))) (yh 1)) (yu))) (yJ 5)) (yB (yes (ymp (ysS)) (yJ 6)) (yB (yes (ydt (ygj 20) (yd (yh 3) (yd (yh 4) (yd (yh 6) (yd (ymp (ypf (ybU) (yd (yh 5) (yu)))) (yd (ymp (ysS)) (yu))))))) (yJ 7)) (yB (yes (ykg (yd (ykg (yd (xC (.str "waits")) (yu))) (yd (ydt ydT (yd (yh 6) (yu))) (yd (xFz (ymo (yu))) (yd (yh 5) (yu)))))) (yJ 8)) (yB (ydH (yU (xOp (yAM) (yh 7) (xC .non))) (yes (ykg (yd (ykg (yd (xC (.str "done")) (yu))) (yd (ydt ydT (yd (yh 6) (yu))) (yd (ydt ydT (yd (xOp (yxl) (yh 7) (xC (.int 1))) (yu))) (yd (xOp (yxl) (yh 7) (xC (.int 0))) (yu)))))) (yJ 8)) (ybQ)) (ydH (yDF (yU (ydt (yv 5) (yd (ydt yop (yd (ydt (ydd 7) (yd (yh 3) (yu))) (yd (xFz (ypf (ybU) (yd (yh 4) (yu)))) (yd (xFz (ypf (ybU) (yd (yh 5) (yu)))) (yu))))) (yd (yh 8) (yu)))))) (ycN (xC (.bl false))) (ybQ))))))))))) (ycN (xC (.bl true))))
noncomputable def yCQ:Prop:=False
noncomputable def yJe:Prop:=True
section
variable {h:AH}
noncomputable def Stk (h:AH):List Nat->List (List Key×List PV)->Prop
 | [],[]=>True
 | l::ls,d::ds=>h[l]?=some (.dct d.1 d.2)/\Stk h ls ds
 | _,_=>False
theorem Stk.len {h:AH}:∀ {ls:List Nat}{ds:List (List Key×List PV)},Stk h ls ds->ds.length=ls.length
 | [],[],_=>rfl
 | _::_,_::_,s=>by rw [List.length_cons,List.length_cons,Stk.len s.2]
 | [],_::_,s=>s.elim
 | _::_,[],s=>s.elim
theorem Stk.mono {h h':AH}:∀ {ls:List Nat}{ds:List (List Key×List PV)},Stk h ls ds->(∀ l∈ls,∀ d,h[l]?=some d->h'[l]?=some d)->Stk h' ls ds
 | [],[],_,_=>trivial
 | l::ls,_::_,s,k=>⟨k l List.mem_cons_self _ s.1,Stk.mono s.2 fun l hl=>k l (List.mem_cons_of_mem _ hl)⟩
 | [],_::_,s,_=>s.elim
 | _::_,[],s,_=>s.elim
theorem Stk.app {h:AH}:∀ {ls ms:List Nat}{ds es:List (List Key×List PV)},Stk h ls ds->Stk h ms es->Stk h (ls++ms) (ds++es)
 | [],_,[],_,_,t=>t
 | _::_,_,_::_,_,s,t=>⟨s.1,Stk.app s.2 t⟩
 | [],_,_::_,_,s,_=>s.elim
 | _::_,_,[],_,s,_=>s.elim
theorem Stk.get {h:AH}:∀ {ls:List Nat}{ds:List (List Key×List PV)}(k:Nat),Stk h ls ds->k<ls.length->∃ l d,ls[k]?=some l/\ds[k]?=some d/\h[l]?=some (.dct d.1 d.2)
 | l::ls,d::ds,0,s,_=>⟨l,d,rfl,rfl,s.1⟩
 | l::ls,d::ds,k+1,s,hk=>by
  obtain ⟨l',d',e1,e2,e3⟩:=Stk.get k s.2 (by simpa using hk)
  exact ⟨l',d',by simpa using e1,by simpa using e2,e3⟩
 | [],[],_,_,hk=>by simp at hk
 | [],_::_,_,s,_=>s.elim
 | _::_,[],_,s,_=>s.elim
theorem Stk.split {h:AH}:∀ {ls:List Nat}{t:Nat}{ds:List (List Key×List PV)},Stk h (ls++[t]) ds->∃ es d,ds=es++[d]/\Stk h ls es/\h[t]?=some (.dct d.1 d.2)
 | [],t,[d],s=>⟨[],d,rfl,trivial,s.1⟩
 | [],t,[],s=>s.elim
 | [],t,_::_::_,s=>s.2.elim
 | l::ls,t,[],s=>s.elim
 | l::ls,t,d::ds,s=>by
  obtain ⟨es,d',e,s1,s2⟩:=Stk.split (ls:=ls) s.2
  exact ⟨d::es,d',by rw [e];rfl,⟨s.1,s1⟩,s2⟩
noncomputable def yFx (ds:List (List Key×List PV)) (j:Key):Nat->PV
 | 0=>.non
 | k+1=>match ds[k]? with|some d=>(match yhS d.1 d.2 j with|some x=>x|none=>yFx ds j k)|none=>.non
structure LG (h:AH) (o s b:Nat) (ls:List Nat) (ds:List (List Key×List PV)) (ks:List Key) (xs:List PV):Prop where
 ob:h[o]?=some (.ins 0 ["stack","last_seen"] [.loc s,.loc b])
 st:h[s]?=some (.lst (ls.map .loc))
 sn:h[b]?=some (.dct ks xs)
 dl:Stk h ls ds
theorem ykn {o s b:Nat}(e:h[o]?=some (.ins 0 ["stack","last_seen"] [.loc s,.loc b])):yiV [0] "stack" (.loc o) h=some (.loc s,h):=by
 unfold yiV ykj
 simp only [e]
 rw [if_pos (by decide +kernel),show List.idxOf ("stack":Str) ["stack","last_seen"]=0 by decide +kernel]
 rfl
theorem yza {o s b:Nat}(e:h[o]?=some (.ins 0 ["stack","last_seen"] [.loc s,.loc b])):yiV [0] "last_seen" (.loc o) h=some (.loc b,h):=by
 unfold yiV ykj
 simp only [e]
 rw [if_pos (by decide +kernel),show List.idxOf ("last_seen":Str) ["stack","last_seen"]=1 by decide +kernel]
 rfl
theorem yzb {n:Nat}{l:List Nat}{t:Nat}(e:h[n]?=some (.lst ((l++[t]).map PV.loc))):yiU (.loc n) (.int (-1)) h=some (.loc t,h):=by
 unfold yiU
 simp only [e]
 have:atI ((l++[t]).map PV.loc) (-1)=some (.loc t):=by
  unfold atI ixN
  simp
  rw [if_pos (by omega),Option.bind_some,show (-1+((l.length:Int)+1)).toNat=l.length by omega]
  simp
 rw [this]
theorem yhW {o s b:Nat}{m:Str}{f:Fn}{ys:List PV}{a:XE}{aa:XA}{ρ:PSt}{h0 h2:AH}(e:h[o]?=some (.ins 0 ["stack","last_seen"] [.loc s,.loc b])) (ea:a ρ h0=some (.loc o,h)) (hm:m∉(["stack","last_seen"]:List Str)) (eb:aa ρ h=some (ys,h2)):yK 0 m f a aa ρ h0=f (.loc o::ys) h2:=by
 unfold yK ykj
 rw [ea,yw]
 simp only [e]
 rw [if_pos ⟨trivial,hm⟩,eb,yw]
theorem yES {n:Nat}{ks:List Key}{xs:List PV}{i:Int}{ek ed:XE}{ρ:PSt}(ek':ek ρ h=some (.int i,h)) (ed':ed ρ h=some (.loc n,h)) (e:h[n]?=some (.dct ks xs)):yyu false ek ed ρ h=some (.bl (yhS ks xs (.inl i)).isSome,h):=by
 unfold yyu
 rw [ek',yw,ed',yw]
 unfold yyt
 simp only [e,keyOf]
 rfl
theorem ywd {n:Nat}{ks:List Key}{xs:List PV}{i:Int}{x:PV}{ek ed:XE}{ρ:PSt}(ed':ed ρ h=some (.loc n,h)) (ek':ek ρ h=some (.int i,h)) (e:h[n]?=some (.dct ks xs)) (hx:yhS ks xs (.inl i)=some x):yuH ed ek ρ h=some (x,h):=by
 unfold yuH
 rw [ed',yw,ek',yw]
 unfold yyt
 simp only [e,keyOf,hx]
theorem ynF {n:Nat}{ks:List Key}{xs:List PV}{i:Int}{x:PV}{ed ek ev:XE}{ρ:PSt}(ev':ev ρ h=some (x,h)) (ed':ed ρ h=some (.loc n,h)) (ek':ek ρ h=some (.int i,h)) (e:h[n]?=some (.dct ks xs)) (hl:ks.length<1000) :
  yqF ed ek ev ρ h=some (.nx ρ,h.set n (.dct (yep ks xs (.inl i) x).1 (yep ks xs (.inl i) x).2)):=by
 unfold yqF
 rw [ev',yw,ed',yw,ek',yw]
 simp only [e,keyOf]
 rw [if_pos hl]
end
section
variable {h:AH}{o s b:Nat}{ls:List Nat}{ds:List (List Key×List PV)}{ks:List Key}{xs:List PV}
theorem yBw {i:Int}(g:LG h o s b ls ds ks xs):∀ (k:Nat),k<=ls.length->∀ c:PVar,
  ob (yyE s true (yJ 2) (ydH (yU (yyu false (yh 1) (yh 2))) (ycN (yuH (yh 2) (yh 1))) (ybQ)) k (ls.length-k) [.val (.loc o),.val (.int i),c] h) (fun o h1=>ob (sqK (ycN (xC .non)) o h1) fnK)=some (yFx ds (.inl i) k,h):=by
 intro k
 induction k with
 | zero =>
  intro _ c
  unfold yyE
  simp only [g.st]
  rw [if_pos (by simp),yw,ylQ]
  rfl
 | succ k ih =>
  intro hk c
  unfold yyE
  simp only [g.st]
  obtain ⟨l,d,e1,e2,e3⟩:=g.dl.get k (by omega)
  have e4:(ls.map PV.loc)[k]?=some (.loc l):=by rw [List.getElem?_map,e1];rfl
  simp only [if_true,e4]
  have er:yJ 2 (.loc l) [.val (.loc o),.val (.int i),c]=some [.val (.loc o),.val (.int i),.val (.loc l)]:=rfl
  rw [er,Option.bind_some,yqA,ykI,yES (n:=l) rfl rfl e3,yw,yAT,yw]
  have ek:ls.length-(k+1)+1=ls.length-k:=by omega
  unfold yFx
  simp only [e2]
  cases hg:yhS d.1 d.2 (.inl i) with
  | none =>
   rw [if_neg (by simp),ykJ,yw]
   dsimp only
   rw [ek]
   exact ih (by omega) _
  | some x =>
   rw [if_pos (show (some x).isSome=true from rfl),yng,ywd (n:=l) rfl rfl e3 hg,yw,yw]
   rfl
theorem yHd {i:Int}(g:LG h o s b ls ds ks xs):ygd [.loc o,.int i] h=some (yFx ds (.inl i) ls.length,h):=by
 unfold ygd
 rw [yD]
 show ob (yB _ _ [.val (.loc o),.val (.int i),.no] h) fnK=_
 rw [yjc]
 have:=yBw (i:=i) g ls.length (Nat.le_refl _) .no
 rw [Nat.sub_self] at this
 rw [ynX,<- this]
 unfold yBi
 rw [yje,show yh 0 [PVar.val (.loc o),.val (.int i),.no] h=some (.loc o,h) from rfl,yw,ykn g.ob,yw]
 simp only [g.st,List.length_map]
theorem yBx {i:Int}{v:PV}{t:Nat}{d:List Key×List PV}(g:LG h o s b (ls++[t]) ds ks xs) (ht:h[t]?=some (.dct d.1 d.2)) (hl:d.1.length<1000):ygS [.loc o,.int i,v] h=some (.non,h.set t (.dct (yep d.1 d.2 (.inl i) v).1 (yep d.1 d.2 (.inl i) v).2)):=by
 unfold ygS
 rw [yD,yjc,ylR,yyk,yje,show yh 0 ([PV.loc o,.int i,v].map .val++List.replicate (4-[PV.loc o,.int i,v].length) .no) h=some (.loc o,h) from rfl,yw,ykn g.ob,yw]
 show ob (ob (ob (yiU (.loc s) (.int (-1)) h) _) _) _=_
 rw [yzb g.st,yw]
 show ob (yqF (yh 3) (yh 1) (yh 2) [.val (.loc o),.val (.int i),.val v,.val (.loc t)] h) fnK=_
 rw [ynF (n:=t) (i:=i) (x:=v) rfl rfl rfl ht hl,yw]
 rfl
theorem yBy (g:LG h o s b ls ds ks xs) (hl:ls.length<1000):ygT [.loc o] h=some (.non,(h++[Nd.dct [] []]).set s (.lst ((ls++[h.length]).map .loc))):=by
 have hs:(h++[Nd.dct [] []])[s]?=some (.lst (ls.map .loc)):=by rw [List.getElem?_append_left (List.getElem?_eq_some_iff.mp g.st).1];exact g.st
 unfold ygT
 rw [yD,yhs,yxk,yje,show yh 0 ([PV.loc o].map .val++List.replicate (1-[PV.loc o].length) .no) h=some (.loc o,h) from rfl,yw,ykn g.ob,yw,if_pos (yoa g.st)]
 show ob (ob (ywK (.loc s) [.loc h.length] (h++[Nd.dct [] []])) _) fnK=_
 rw [yEs hs (by rw [List.length_map];omega),yw,yw,List.map_append]
 rfl
theorem yzc {n:Nat}{l:List Nat}{t:Nat}(e:h[n]?=some (.lst ((l++[t]).map PV.loc))):ywL (.loc n) [] h=some (.loc t,h.set n (.lst (l.map .loc))):=by
 unfold ywL
 simp only [e]
 have:((l++[t]).map PV.loc)[((l++[t]).map PV.loc).length-1]?=some (.loc t):=by simp
 rw [this]
 simp
theorem yET {t:Nat}(g:LG h o s b (ls++[t]) ds ks xs):ygP [.loc o] h=some (.non,h.set s (.lst (ls.map .loc))):=by
 unfold ygP
 rw [yD,yhs,yxk,yje,show yh 0 ([PV.loc o].map .val++List.replicate (1-[PV.loc o].length) .no) h=some (.loc o,h) from rfl,yw,ykn g.ob,yw,if_pos (yoa g.st),ynf,yw,yzc g.st,yw,yw]
 rfl
theorem yCR {L:List PV}(g:LG h o s b ls ds ks xs) (e:sortI ks xs=some L):ygU [.loc o] h=some (.loc h.length,h++[.lst L]):=by
 unfold ygU
 rw [yD,yng,ypi]
 unfold yoe
 rw [yje,show yh 0 ([PV.loc o].map .val++List.replicate (1-[PV.loc o].length) .no) h=some (.loc o,h) from rfl,yw,yza g.ob,yw]
 unfold ynh
 simp only [g.sn,e]
 rfl
end
section
variable {h:AH}{o s b:Nat}{ls:List Nat}{ds:List (List Key×List PV)}{ks:List Key}{xs:List PV}
theorem yHe {i:Int}{v:PV}(g:LG h o s b ls ds ks xs) (hl:ks.length<1000):yjk [.loc o,.int i,v] h=some (.non,h.set b (.dct (yep ks xs (.inl i) v).1 (yep ks xs (.inl i) v).2)):=by
 unfold yjk
 rw [yD]
 rw [ynF (n:=b) (i:=i) (x:=v) rfl (by rw [yje];show ob (some (PV.loc o,h)) _=_;rw [yw,yza g.ob]) rfl g.sn hl,yw]
 rfl
end
section
variable {h:AH}{o s b:Nat}{ls:List Nat}{ds:List (List Key×List PV)}{ks:List Key}{xs:List PV}
theorem yzd {t u:Nat}{dt du:List Key×List PV}(g:LG h o s b (ls++[u]++[t]) ds ks xs) (ho:o≠s) (hus:u≠s) (hts:t≠s) (hut:u≠t) (eu:h[u]?=some (.dct du.1 du.2)) (et:h[t]?=some (.dct dt.1 dt.2)) (hl:du.1.length+dt.1.length<1000) :
  yge [.loc o] h=some (.non,(h.set s (.lst ((ls++[u]).map .loc))).set u (.dct (yta dt.1 dt.2 du.1 du.2).1 (yta dt.1 dt.2 du.1 du.2).2)):=by
 have hs:s<h.length:=(List.getElem?_eq_some_iff.mp g.st).1
 have e1:(h.set s (.lst ((ls++[u]).map PV.loc)))[s]?=some (.lst ((ls++[u]).map PV.loc)):=List.getElem?_set_self hs
 have e2:(h.set s (.lst ((ls++[u]).map PV.loc)))[o]?=some (.ins 0 ["stack","last_seen"] [.loc s,.loc b]):=(List.getElem?_set_ne (Ne.symm ho)).trans g.ob
 have e3:(h.set s (.lst ((ls++[u]).map PV.loc)))[u]?=some (.dct du.1 du.2):=(List.getElem?_set_ne (Ne.symm hus)).trans eu
 have e4:(h.set s (.lst ((ls++[u]).map PV.loc)))[t]?=some (.dct dt.1 dt.2):=(List.getElem?_set_ne (Ne.symm hts)).trans et
 unfold yge
 rw [yD,yjc,ylR,yxk,yje,show yh 0 ([PV.loc o].map .val++List.replicate (3-[PV.loc o].length) .no) h=some (.loc o,h) from rfl,yw,ykn g.ob,yw,if_pos (yoa g.st),ynf,yw,yzc g.st,yw]
 generalize hh:h.set s (.lst ((ls++[u]).map PV.loc))=h1 at *
 show ob (yB _ _ [.val (.loc o),.val (.loc t),.no] h1) fnK=_
 rw [yjc,ylR,yyk,yje,show yh 0 [PVar.val (.loc o),.val (.loc t),.no] h1=some (.loc o,h1) from rfl,yw,ykn e2,yw]
 show ob (ob (ob (yiU (.loc s) (.int (-1)) h1) _) _) _=_
 rw [yzb e1,yw]
 show ob (yfz (xBM ywQ yFw (yh 2) (yd (yh 1) yu)) [.val (.loc o),.val (.loc t),.val (.loc u)] h1) fnK=_
 rw [yhs,yxk]
 show ob (ob (if ywQ (.loc u) h1=true then yFw (.loc u) [.loc t] h1 else none) _) fnK=_
 rw [if_pos (by unfold ywQ ynh;simp only [e3];rfl)]
 unfold yFw
 simp only [e3,e4]
 rw [if_pos ⟨hut,hl⟩,yw,yw]
 rfl
end
section
variable {h:AH}
noncomputable def Tl (L:List PV):Prop:=L.length<=1000/\∀ x∈L,∃ a b,x=.tup [.int a,.int b]
theorem yJR {i:Int}:ycS yR [.int i,.ty "int"] h=some (.bl true,h):=rfl
theorem yJS {i:Int}:ycS yR [.int i,.ty "bool"] h=some (.bl false,h):=rfl
theorem yJT {xs}:ycS yR [.tup xs,.ty "int"] h=some (.bl false,h):=rfl
theorem yJU {xs}:ycS yR [.tup xs,.ty "str"] h=some (.bl false,h):=rfl
theorem yJV {xs}:ycS yR [.tup xs,.ty "tuple"] h=some (.bl true,h):=rfl
theorem yJW {xs}:ycS yR [.lst xs,.ty "int"] h=some (.bl false,h):=rfl
theorem yJX {xs}:ycS yR [.lst xs,.ty "str"] h=some (.bl false,h):=rfl
theorem yHf {xs}:ycS yR [.lst xs,.ty "tuple"] h=some (.bl false,h):=rfl
theorem yJY {n:Nat}{xs:List PV}(e:h[n]?=some (.lst xs)):ycS yR [.loc n,.ty "list"] h=some (.bl true,h):=by
 unfold ycS ywI yeL
 simp only [e]
 rfl
theorem yuP {n:Nat}{xs:List PV}{i:Nat}(e:h[n]?=some (.lst xs)) (hi:i<xs.length):yxl (.loc n) (.int i) h=some (xs[i],h):=by
 unfold yxl yiU
 simp only [e]
 rw [yeJ (List.getElem?_eq_getElem hi)]
local macro_rules | `(tactic| walk_at "pt")=>`(tactic| simp_all? only [yJR,yJS,yJT,yJU,yJV,yJW,yJX,yHf,ne_eq,not_true_eq_false])
theorem yqS {n:Nat}{i:Int}:yv (n+1) [.int i,.int i] h=some (.bl true,h):=by
 unfold yv
 rw [yD]
 show ob (yB _ _ [.val (.int i),.val (.int i),.no] h) fnK=_
 walk_at "pt"
theorem yEU {n:Nat}{a b:Int}:yv (n+2) [.tup [.int a,.int b],.tup [.int a,.int b]] h=some (.bl true,h):=by
 unfold yv
 rw [yD]
 show ob (yB _ _ [.val (.tup [.int a,.int b]),.val (.tup [.int a,.int b]),.no] h) fnK=_
 walk_at "pt"
 rw [ypT (j:=2) (h1:=h) (by walk_at "pt";rfl) (by omega) (by omega),yw]
 refine yjh (fun i ρ h1=>h1=h/\∃ c,ρ=[.val (.tup [.int a,.int b]),.val (.tup [.int a,.int b]),c]) ⟨rfl,.no,rfl⟩ ?_ ?_
 .rintro i x ρ h1 hx ⟨rfl,c,rfl⟩
  obtain ⟨hi,rfl⟩:=ynZ hx
  rw [Int.zero_add]
  refine ⟨_,[.val (.tup [.int a,.int b]),.val (.tup [.int a,.int b]),.val (.int i)],h1,rfl,.inl ?_,rfl,_,rfl⟩
  have hi:i<2:=by simpa using hi
  walk_at "pt"
  rw [yeJ (List.getElem?_eq_getElem (show i<[PV.int a,.int b].length by simpa using hi))]
  walk_at "pt"
  match i,hi with
  | 0,_=>show ob (yv (n+1) [.int a,.int a] h1) _=_;rw [yqS];walk_at "pt"
  | 1,_=>show ob (yv (n+1) [.int b,.int b] h1) _=_;rw [yqS];walk_at "pt"
 .rintro ρ' h' ⟨rfl,c,rfl⟩
  walk_at "pt"
theorem yze {f:Nat}{L:List PV}(e:h[f]?=some (.lst L)) (hL:Tl L):yv 4 [.loc f,.lst L] h=some (.bl true,h):=by
 unfold yv
 rw [yD]
 show ob (yB _ _ [.val (.loc f),.val (.lst L),.no] h) fnK=_
 walk_at "pt"
 rw [yJY e]
 walk_at "pt"
 rw [yqG e]
 walk_at "pt"
 rw [ypT (j:=(L.length:Int)) (h1:=h) (by walk_at "pt") (by omega) (by have:=hL.1;omega),yw]
 refine yjh (fun i ρ h1=>h1=h/\∃ c,ρ=[.val (.loc f),.val (.lst L),c]) ⟨rfl,.no,rfl⟩ ?_ ?_
 .rintro i x ρ h1 hx ⟨rfl,c,rfl⟩
  obtain ⟨hi,rfl⟩:=ynZ hx
  rw [Int.zero_add]
  have hi:i<L.length:=by omega
  refine ⟨_,[.val (.loc f),.val (.lst L),.val (.int i)],h1,rfl,.inl ?_,rfl,_,rfl⟩
  walk_at "pt"
  rw [yuP e hi]
  walk_at "pt"
  rw [yeJ (List.getElem?_eq_getElem hi)]
  obtain ⟨a,b,eq⟩:=hL.2 _ (List.getElem_mem hi)
  rw [eq]
  walk_at "pt"
  rw [yEU]
  walk_at "pt"
 .rintro ρ' h' ⟨rfl,c,rfl⟩
  walk_at "pt"
end
theorem ymJ:∀ {l₁ l₂:List (Int×PV)},l₁.Pairwise (fun a b=>a.1<b.1)->l₂.Pairwise (fun a b=>a.1<b.1)->(∀ a,a∈l₁ ↔ a∈l₂)->l₁=l₂
 | [],[],_,_,_=>rfl
 | [],b::_,_,_,h=>absurd ((h b).mpr List.mem_cons_self) (by simp)
 | a::_,[],_,_,h=>absurd ((h a).mp List.mem_cons_self) (by simp)
 | a::r,b::t,h1,h2,h=>by
  obtain ⟨p1,p2⟩:=List.pairwise_cons.mp h1
  obtain ⟨q1,q2⟩:=List.pairwise_cons.mp h2
  have e:a=b:=by
   rcases List.mem_cons.mp ((h a).mp List.mem_cons_self) with e|e
   .exact e
   rcases List.mem_cons.mp ((h b).mpr List.mem_cons_self) with e'|e'
   .exact e'.symm
   have:=q1 a e
   have:=p1 b e'
   omega
  subst e
  rw [ymJ p2 q2 fun x=>⟨fun hx=>?_,fun hx=>?_⟩]
  .rcases List.mem_cons.mp ((h x).mp (List.mem_cons_of_mem _ hx)) with e|e
   .subst e;exact absurd (p1 _ hx) (Int.lt_irrefl _)
   .exact e
  .rcases List.mem_cons.mp ((h x).mpr (List.mem_cons_of_mem _ hx)) with e|e
   .subst e;exact absurd (q1 _ hx) (Int.lt_irrefl _)
   .exact e
theorem ykT {j:Int}{x:PV}:∀ {js:List Int}{xs:List PV},js.Nodup->xs.length=js.length->((j,x)∈js.zip xs ↔ yhS (js.map .inl) xs (.inl j)=some x)
 | [],[],_,_=>by simp [yhS]
 | [],_::_,_,h=>by cases h
 | _::_,[],_,h=>by cases h
 | i::js,y::xs,hn,hl=>by
  obtain ⟨n1,n2⟩:=List.nodup_cons.mp hn
  have ih:=ykT (j:=j) (x:=x) n2 (by simpa using hl)
  rw [List.zip_cons_cons,List.mem_cons]
  show _ ↔ (if (Sum.inl i:Key)=.inl j then some y else yhS (js.map .inl) xs (.inl j))=some x
  by_cases e:i=j
  .subst e
   rw [if_pos rfl]
   constructor
   .rintro (z|z)
    .cases z;rfl
    .exact absurd (List.of_mem_zip z).1 n1
   .intro z;cases z;exact .inl rfl
  .rw [if_neg fun z=>e (by cases z;rfl),<- ih]
   constructor
   .rintro (z|z)
    .cases z;exact absurd rfl e
    .exact z
   .exact .inr
theorem hasK_int {j:Int}:∀ {js:List Int},ypR (js.map .inl) (.inl j)=true ↔ j∈js
 | []=>by simp [ypR]
 | i::js=>by
  show (if (Sum.inl i:Key)=.inl j then true else ypR (js.map .inl) (.inl j))=true ↔ _
  by_cases e:i=j
  .subst e;simp
  .rw [if_neg fun z=>e (by cases z;rfl),hasK_int,List.mem_cons]
   exact ⟨.inr,fun z=>z.elim (fun z=>absurd z.symm e) id⟩
theorem ywe {k:Key}{v:Int}:∀ (ks:List Key) (vs:List Int),∃ ws:List Int,setK ks (vs.map PV.int) k (.int v)=ws.map .int/\ws.length=vs.length
 | [],vs=>⟨vs,by cases vs<;>rfl,rfl⟩
 | _::_,[]=>⟨[],rfl,rfl⟩
 | i::ks,w::vs=>by
  obtain ⟨ws,e,l⟩:=ywe (k:=k) (v:=v) ks vs
  show ∃ ws:List Int,(if i=k then PV.int v::setK ks (vs.map PV.int) k (.int v) else .int w::setK ks (vs.map PV.int) k (.int v))=ws.map .int/\_
  split
  .exact ⟨v::ws,by rw [e];rfl,by simp [l]⟩
  .exact ⟨w::ws,by rw [e];rfl,by simp [l]⟩
structure ID (js vs:List Int):Prop where
 nd:js.Nodup
 rg:∀ j∈js,0<=j/\j<16
 ln:vs.length=js.length
theorem ID.put {js vs:List Int}(d:ID js vs) {j v:Int}(hj:0<=j/\j<16):∃ js' vs',yep (js.map .inl) (vs.map PV.int) (.inl j) (.int v)=(js'.map .inl,vs'.map .int)/\ID js' vs'/\js'.length<=js.length+1:=by
 unfold yep
 by_cases h:j∈js
 .rw [if_pos (hasK_int.mpr h)]
  obtain ⟨ws,e,l⟩:=ywe (k:=.inl j) (v:=v) (js.map .inl) vs
  exact ⟨js,ws,by rw [e],⟨d.nd,d.rg,by rw [l,d.ln]⟩,Nat.le_succ _⟩
 .rw [if_neg fun z=>h (hasK_int.mp z)]
  refine ⟨js++[j],vs++[v],by simp,⟨?_,?_,by simp [d.ln]⟩,by simp⟩
  .rw [List.nodup_append]
   exact ⟨d.nd,by simp,fun a ha b hb z=>by
    have:b=j:=by simpa using hb
    subst this;subst z;exact h ha⟩
  .intro i hi
   rcases List.mem_append.mp hi with hi|hi
   .exact d.rg i hi
   .have:i=j:=by simpa using hi
    subst this;exact hj
theorem yoq:∀ (js:List Int),ywP (js.map .inl)=some js
 | []=>rfl
 | j::js=>by
  show (ywP (js.map .inl)).map (j::·)=_
  rw [yoq js];rfl
noncomputable def iv16:List Int:=(List.range 16).map fun (k:Nat)=>(0:Int)+(k:Int)
noncomputable def pk (js vs:List Int) (i:Int):Option (Int×PV):=(yhS (js.map .inl) (vs.map PV.int) (.inl i)).map fun x=>(i,x)
theorem yzf {js vs:List Int}(d:ID js vs):yqI (js.zip (vs.map PV.int))=iv16.filterMap (pk js vs):=by
 have hl:(vs.map PV.int).length=js.length:=by simp [d.ln]
 have hk:(js.zip (vs.map PV.int)).map (·.1)=js:=List.map_fst_zip (by omega)
 refine ymJ ?_ ?_ fun a=>?_
 .have h1:=ynE (js.zip (vs.map PV.int))
  have h2:((yqI (js.zip (vs.map PV.int))).map (·.1)).Nodup:=by
   have:=((yfA (js.zip (vs.map PV.int))).map (·.1))
   rw [hk] at this
   exact this.nodup_iff.mpr d.nd
  exact (h1.and (List.pairwise_map.mp h2)).imp fun ⟨a,b⟩=>by omega
 .refine List.Pairwise.filterMap (R:=fun a b=>a<b) (pk js vs) (fun a a' hlt b hb b' hb'=>?_) (by decide)
  unfold pk at hb hb'
  obtain ⟨x,_,rfl⟩:=Option.map_eq_some_iff.mp hb
  obtain ⟨x',_,rfl⟩:=Option.map_eq_some_iff.mp hb'
  exact hlt
 .obtain ⟨j,x⟩:=a
  rw [(yfA _).mem_iff,ykT d.nd hl,List.mem_filterMap]
  constructor
  .intro e
   have hj:j∈js:=(List.of_mem_zip ((ykT d.nd hl).mpr e)).1
   obtain ⟨r1,r2⟩:=d.rg j hj
   refine ⟨j,?_,by unfold pk;rw [e];rfl⟩
   unfold iv16
   exact List.mem_map.mpr ⟨j.toNat,List.mem_range.mpr (by omega),by omega⟩
  .rintro ⟨i,_,e⟩
   unfold pk at e
   obtain ⟨y,e1,e2⟩:=Option.map_eq_some_iff.mp e
   cases e2
   exact e1
noncomputable def yuQ (js vs:List Int):List PV:=(iv16.filterMap (pk js vs)).map fun p=>.tup [.int p.1,p.2]
theorem ywf {js vs:List Int}(d:ID js vs) (h64:js.length<64):sortI (js.map .inl) (vs.map PV.int)=some (yuQ js vs):=by
 unfold sortI
 rw [yoq]
 dsimp only
 rw [if_pos h64,yzf d]
 rfl
theorem yBz {ks:List Key}{j:Key}:∀ {vs:List Int}{x:PV},yhS ks (vs.map PV.int) j=some x->∃ v,x=.int v:=by
 induction ks with
 | nil=>intro vs x e;cases vs<;>cases e
 | cons k ks ih =>
  intro vs x e
  cases vs with
  | nil=>cases e
  | cons v vs =>
   have e:(if k=j then some (PV.int v) else yhS ks (vs.map PV.int) j)=some x:=e
   split at e
   .cases e;exact ⟨v,rfl⟩
   .exact ih e
inductive T where
 | let_ (r:Str) (n:Int)
 | reckon (w r s t:Str)
 | take (r s:Str)
 | put (s t:Str)
 | if_ (r:Str) (a b:List T)
 | either (a b:List T)
 | try_ (a:List T) (nm r:Str) (b:List T)
 | throw (nm r:Str)
 | wait
mutual
noncomputable def ypX:T->Nat
 | .if_ _ a b=>1+max (ydU a) (ydU b)
 | .either a b=>1+max (ydU a) (ydU b)
 | .try_ a _ _ b=>1+max (ydU a) (ydU b)
 | _=>0
noncomputable def ydU:List T->Nat
 | []=>0
 | t::r=>max (ypX t) (ydU r)
end
mutual
noncomputable def yfB:T->PV
 | .let_ r n=>.ins 3 ["slot","number"] [.str r,.int n]
 | .reckon w r s t=>.ins 4 ["word","slot","one","other"] [.str w,.str r,.str s,.str t]
 | .take r s=>.ins 5 ["slot","place"] [.str r,.str s]
 | .put s t=>.ins 6 ["place","slot"] [.str s,.str t]
 | .if_ r a b=>.ins 7 ["slot","parts","others"] [.str r,.lst (ybA a),.lst (ybA b)]
 | .either a b=>.ins 8 ["parts","others"] [.lst (ybA a),.lst (ybA b)]
 | .try_ a nm r b=>.ins 9 ["parts","name","slot","others"] [.lst (ybA a),.str nm,.str r,.lst (ybA b)]
 | .throw nm r=>.ins 10 ["name","slot"] [.str nm,.str r]
 | .wait=>.ins 11 [] []
noncomputable def ybA:List T->List PV
 | []=>[]
 | t::r=>yfB t::ybA r
end
theorem ypY:∀ ts:List T,ybA ts=ts.map yfB
 | []=>rfl
 | t::r=>by show yfB t::ybA r=_;rw [ypY r];rfl
noncomputable def SL:List Str:=["a","b","c","d","e","f","g","h"]
noncomputable def okS (r:Str):Prop:=r∈SL
noncomputable def sx (r:Str):Nat:=SL.idxOf r
noncomputable def WDS:List Str:=["plus","minus","times","less","same"]
noncomputable def okW (w:Str):Prop:=w∈WDS
noncomputable def N64 (v:Int):Prop:=0<=v/\v<18446744073709551616
mutual
noncomputable def okT:T->Prop
 | .let_ r n=>okS r/\N64 n
 | .reckon w r s t=>okW w/\okS r/\okS s/\okS t
 | .take r s=>okS r/\okS s
 | .put s t=>okS s/\okS t
 | .if_ r a b=>okS r/\okL a/\okL b
 | .either a b=>yJe/\okL a/\okL b
 | .try_ a _ r b=>yCQ/\okS r/\okL a/\okL b
 | .throw _ r=>yCQ/\okS r
 | .wait=>True
noncomputable def okL:List T->Prop
 | []=>True
 | t::r=>okT t/\okL r
end
theorem yqT {r:Str}(h:okS r):sx r<8:=List.idxOf_lt_length_of_mem h
inductive En where|done|waits|fell (nm:Str) (v:Int)
noncomputable def enV:En->PV
 | .done=>.tup [.str "done"]
 | .waits=>.tup [.str "waits"]
 | .fell nm v=>.tup [.str "fell",.str nm,.int v]
noncomputable abbrev Vw:=Int->Option Int
noncomputable def upV (f:Vw) (j v:Int):Vw:=fun i=>if i=j then some v else f i
structure AS where
 hs:List Int
 v:Vw
 s:Vw
noncomputable def rk (w:Str) (a b:Int):Int :=
 if w = "plus" then (a+b)%18446744073709551616 else if w = "minus" then (a-b)%18446744073709551616 else if w = "times" then a*b%18446744073709551616 else if w = "less" then (if a<b then 1 else 0) else if a=b then 1 else 0
noncomputable def AS.at_ (σ:AS) (r:Str):Int:=σ.hs.getD (sx r) 0
noncomputable def AS.put_ (σ:AS) (r:Str) (v:Int):AS:=⟨σ.hs.set (sx r) v,σ.v,σ.s⟩
noncomputable def AS.box (σ:AS) (bx:List Int) (r:Str):Int:=σ.at_ r%bx.length
noncomputable def tkV (bx:List Int) (σ:AS) (r:Str) (j:Int):Option Int->AS
 | some v=>σ.put_ r v
 | none=>(⟨σ.hs,σ.v,upV σ.s j (bx.getD j.toNat 0)⟩:AS).put_ r (bx.getD j.toNat 0)
noncomputable def evP (bx:List Int):T->AS->AS
 | .let_ r n,σ=>σ.put_ r n
 | .reckon w r s t,σ=>σ.put_ r (rk w (σ.at_ s) (σ.at_ t))
 | .take r s,σ=>tkV bx σ r (σ.box bx s) (σ.v (σ.box bx s))
 | .put s t,σ=>⟨σ.hs,upV σ.v (σ.box bx s) (σ.at_ t),σ.s⟩
 | _,σ=>σ
mutual
noncomputable def evT (bx:List Int):T->AS->En×AS
 | .if_ r a b,σ=>if σ.at_ r≠0 then evL bx a σ else evL bx b σ
 | .either a b,σ=>(match evL bx a σ with
  | (.waits,τ)=>evL bx b ⟨σ.hs,σ.v,τ.s⟩
  | (.fell nm v,τ)=>(.fell nm v,⟨σ.hs,σ.v,τ.s⟩)
  | (.done,τ)=>(.done,τ))
 | .try_ a nm r b,σ=>(match evL bx a σ with
  | (.fell m v,τ)=>if m=nm then evL bx b ((⟨σ.hs,σ.v,τ.s⟩:AS).put_ r v) else (.fell m v,⟨σ.hs,σ.v,τ.s⟩)
  | (.waits,τ)=>(.waits,⟨σ.hs,σ.v,τ.s⟩)
  | (.done,τ)=>(.done,τ))
 | .throw nm r,σ=>(.fell nm (σ.at_ r),σ)
 | .wait,σ=>(.waits,σ)
 | .let_ r n,σ=>(.done,evP bx (.let_ r n) σ)
 | .reckon w r s t,σ=>(.done,evP bx (.reckon w r s t) σ)
 | .take r s,σ=>(.done,evP bx (.take r s) σ)
 | .put s t,σ=>(.done,evP bx (.put s t) σ)
noncomputable def evL (bx:List Int):List T->AS->En×AS
 | [],σ=>(.done,σ)
 | t::r,σ=>(match evT bx t σ with
  | (.done,τ)=>evL bx r τ
  | (.waits,τ)=>(.waits,τ)
  | (.fell nm v,τ)=>(.fell nm v,τ))
end
noncomputable def gI (d:List Key×List PV) (j:Int):Option Int:=match yhS d.1 d.2 (.inl j) with|some (.int v)=>some v|_=>none
noncomputable def orV:Option Int->Option Int->Option Int
 | some v,_=>some v
 | none,b=>b
noncomputable def vwN (ds:List (List Key×List PV)) (j:Int):Nat->Option Int
 | 0=>none
 | k+1=>match ds[k]? with|some d=>orV (gI d j) (vwN ds j k)|none=>none
noncomputable def ofO:Option Int->PV|none=>.non|some v=>.int v
section
variable {h h':AH}
theorem ykU {i:Nat}{d:Nd}(e:h[i]?=some d):i<h.length:=(List.getElem?_eq_some_iff.mp e).1
theorem ydA {i:Nat}{d x:Nd}(e:h[i]?=some d):(h++[x])[i]?=some d:=by rw [List.getElem?_append_left (ykU e)];exact e
theorem yA {i t:Nat}{d x:Nd}(hi:i≠t) (e:h[i]?=some d):(h.set t x)[i]?=some d:=(List.getElem?_set_ne (Ne.symm hi)).trans e
theorem set_same {t:Nat}{d x:Nd}(e:h[t]?=some d):(h.set t x)[t]?=some x:=List.getElem?_set_self (ykU e)
theorem Stk.lt:∀ {ls:List Nat}{ds:List (List Key×List PV)},Stk h ls ds->∀ l∈ls,l<h.length
 | _::_,_::_,s,l,hl=>by
  rcases List.mem_cons.mp hl with rfl|hl
  .exact ykU s.1
  .exact Stk.lt s.2 l hl
 | [],_,_,l,hl=>by simp at hl
 | _::_,[],s,_,_=>s.elim
noncomputable def Frm (X:Nat->Prop) (h h':AH):Prop:=h.length<=h'.length/\∀ n,n<h.length->X n->h'[n]?=h[n]?
theorem Frm.refl {X:Nat->Prop}:Frm X h h:=⟨Nat.le_refl _,fun _ _ _=>rfl⟩
theorem Frm.trans {X:Nat->Prop}{h1 h2:AH}(a:Frm X h h1) (b:Frm X h1 h2):Frm X h h2:=⟨Nat.le_trans a.1 b.1,fun n hn hx=>(b.2 n (Nat.lt_of_lt_of_le hn a.1) hx).trans (a.2 n hn hx)⟩
theorem Frm.set {X:Nat->Prop}{t:Nat}{x:Nd}(a:Frm X h h') (ht:¬ X t):Frm X h (h'.set t x):=⟨by rw [List.length_set];exact a.1,fun n hn hx=>(List.getElem?_set_ne (fun (z:t=n)=>ht (by rw [z];exact hx))).trans (a.2 n hn hx)⟩
theorem Frm.app {X:Nat->Prop}{x:Nd}(a:Frm X h h'):Frm X h (h'++[x]):=by
 refine ⟨by rw [List.length_append];exact Nat.le_trans a.1 (Nat.le_add_right _ _),fun n hn hx=>?_⟩
 rw [List.getElem?_append_left (by have:=a.1;omega),a.2 n hn hx]
theorem Frm.imp {X Y:Nat->Prop}(a:Frm X h h') (k:∀ n,Y n->X n):Frm Y h h':=⟨a.1,fun n hn hy=>a.2 n hn (k n hy)⟩
theorem Frm.get {X:Nat->Prop}{n:Nat}{d:Nd}(a:Frm X h h') (hx:X n) (e:h[n]?=some d):h'[n]?=some d:=(a.2 n (ykU e) hx).trans e
noncomputable def isID (d:List Key×List PV):Prop:=∃ js vs,d=(js.map .inl,vs.map .int)/\ID js vs
theorem ID.le {js vs:List Int}(d:ID js vs):js.length<=16:=by
 have:js.length<=iv16.length:=List.Nodup.length_le_of_subset d.nd fun j hj=>by
  obtain ⟨r1,r2⟩:=d.rg j hj
  unfold iv16
  exact List.mem_map.mpr ⟨j.toNat,List.mem_range.mpr (by omega),by omega⟩
 exact this
theorem isID.put {d:List Key×List PV}(hd:isID d) {j v:Int}(hj:0<=j/\j<16):isID (yep d.1 d.2 (.inl j) (.int v)):=by
 obtain ⟨js,vs,rfl,d⟩:=hd
 obtain ⟨js',vs',e,d',_⟩:=d.put (v:=v) hj
 exact ⟨js',vs',e,d'⟩
theorem isID.mrg:∀ (js us:List Int) {d:List Key×List PV},isID d->(∀ j∈js,0<=j/\j<16)->isID (yta (js.map .inl) (us.map PV.int) d.1 d.2)
 | [],us,d,hd,_=>by
  have:yta (([]:List Int).map .inl) (us.map PV.int) d.1 d.2=d:=by cases us<;>rfl
  rw [this];exact hd
 | j::js,[],d,hd,_=>by
  have:yta ((j::js).map .inl) (([]:List Int).map PV.int) d.1 d.2=d:=rfl
  rw [this];exact hd
 | j::js,u::us,d,hd,hr=>isID.mrg js us (hd.put (v:=u) (hr j List.mem_cons_self)) fun i hi=>hr i (List.mem_cons_of_mem _ hi)
theorem isID.len {d:List Key×List PV}(hd:isID d):d.1.length<=16:=by
 obtain ⟨js,vs,rfl,d⟩:=hd
 show (js.map _).length<=16
 rw [List.length_map];exact d.le
theorem isID.nil:isID ([],[]):=⟨[],[],rfl,by simp,by simp,rfl⟩
theorem yBA {ks:List Key}{xs:List PV}{k j:Key}{x:PV}(hl:xs.length=ks.length):yhS (yep ks xs k x).1 (yep ks xs k x).2 j=if k=j then some x else yhS ks xs j:=by
 unfold yep
 have app:∀ (ks:List Key) (xs:List PV),xs.length=ks.length->ypR ks k=false->yhS (ks++[k]) (xs++[x]) j=if k=j then some x else yhS ks xs j:=by
  intro ks
  induction ks with
  | nil=>intro xs hl _;have:xs=[]:=(by simpa using hl);subst this;show (if k=j then some x else none)=_;split<;>rfl
  | cons i ks ih =>
   intro xs hl hh
   cases xs with
   | nil=>simp at hl
   | cons y xs =>
    have hh:(if i=k then true else ypR ks k)=false:=hh
    have hik:¬ i=k:=fun z=>by rw [if_pos z] at hh;cases hh
    rw [if_neg hik] at hh
    show (if i=j then some y else yhS (ks++[k]) (xs++[x]) j)=if k=j then some x else if i=j then some y else yhS ks xs j
    rw [ih xs (by simpa using hl) hh]
    by_cases h1:i=j
    .rw [if_pos h1,if_neg fun z=>hik (h1.trans z.symm),if_pos h1]
    .rw [if_neg h1,if_neg h1]
 have st:∀ (ks:List Key) (xs:List PV),xs.length=ks.length->ypR ks k=true->yhS ks (setK ks xs k x) j=if k=j then some x else yhS ks xs j:=by
  intro ks
  induction ks with
  | nil=>intro xs hl hh;cases hh
  | cons i ks ih =>
   intro xs hl hh
   cases xs with
   | nil=>simp at hl
   | cons y xs =>
    by_cases hik:i=k
    .subst hik
     have e:setK (i::ks) (y::xs) i x=x::setK ks xs i x:=if_pos rfl
     rw [e]
     show (if i=j then some x else yhS ks (setK ks xs i x) j)=if i=j then some x else if i=j then some y else yhS ks xs j
     by_cases h1:i=j
     .rw [if_pos h1,if_pos h1]
     .rw [if_neg h1,if_neg h1,if_neg h1]
      by_cases h2:ypR ks i=true
      .rw [ih xs (by simpa using hl) h2,if_neg h1]
      .have:∀ (ks:List Key) (xs:List PV),ypR ks i=false->setK ks xs i x=xs:=by
        intro ks
        induction ks with
        | nil=>intro xs _;cases xs<;>rfl
        | cons a ks ih2 =>
         intro xs hh
         have hh:(if a=i then true else ypR ks i)=false:=hh
         have hai:¬ a=i:=fun z=>by rw [if_pos z] at hh;cases hh
         rw [if_neg hai] at hh
         cases xs with
         | nil=>rfl
         | cons b xs =>
          show (if a=i then x::setK ks xs i x else b::setK ks xs i x)=_
          rw [if_neg hai,ih2 xs hh]
       rw [this ks xs (by simpa using h2)]
    .have hh:(if i=k then true else ypR ks k)=true:=hh
     rw [if_neg hik] at hh
     have e:setK (i::ks) (y::xs) k x=y::setK ks xs k x:=if_neg hik
     rw [e]
     show (if i=j then some y else yhS ks (setK ks xs k x) j)=if k=j then some x else if i=j then some y else yhS ks xs j
     rw [ih xs (by simpa using hl) hh]
     by_cases h1:i=j
     .rw [if_pos h1,if_neg fun z=>hik (h1.trans z.symm),if_pos h1]
     .rw [if_neg h1,if_neg h1]
 by_cases hh:ypR ks k=true
 .rw [if_pos hh];exact st ks xs hl hh
 .rw [if_neg hh];exact app ks xs hl (by simpa using hh)
theorem isID.ln {d:List Key×List PV}(hd:isID d):d.2.length=d.1.length:=by
 obtain ⟨js,vs,rfl,d⟩:=hd
 simp [d.ln]
theorem isID.get {d:List Key×List PV}(hd:isID d) (j:Int):yhS d.1 d.2 (.inl j)=(gI d j).map .int:=by
 obtain ⟨js,vs,rfl,_⟩:=hd
 unfold gI
 cases e:yhS (js.map .inl) (vs.map PV.int) (.inl j) with
 | none=>rfl
 | some x=>obtain ⟨v,rfl⟩:=yBz e;rfl
theorem ytd {d:List Key×List PV}(hd:isID d) {k j v:Int}:gI (yep d.1 d.2 (.inl k) (.int v)) j=if j=k then some v else gI d j:=by
 unfold gI
 rw [yBA hd.ln]
 by_cases h:j=k
 .subst h;rw [if_pos rfl,if_pos rfl]
 .rw [if_neg fun z=>h (by cases z;rfl),if_neg h]
theorem yHg {j:Int}:gI ([],[]) j=none:=rfl
theorem yCS:∀ (js us:List Int) {d:List Key×List PV},isID d->(∀ j∈js,0<=j/\j<16)->js.Nodup->us.length=js.length->∀ j,gI (yta (js.map .inl) (us.map PV.int) d.1 d.2) j=orV (gI (js.map .inl,us.map PV.int) j) (gI d j)
 | [],us,d,hd,_,_,hl,j=>by
  have:us=[]:=by simpa using hl
  subst this
  rfl
 | i::js,[],d,hd,_,_,hl,j=>by simp at hl
 | i::js,u::us,d,hd,hr,hn,hl,j=>by
  obtain ⟨n1,n2⟩:=List.nodup_cons.mp hn
  have ih:=yCS js us (hd.put (v:=u) (hr i List.mem_cons_self)) (fun i hi=>hr i (List.mem_cons_of_mem _ hi)) n2 (by simpa using hl) j
  show gI (yta (js.map .inl) (us.map PV.int) (yep d.1 d.2 (.inl i) (.int u)).1 (yep d.1 d.2 (.inl i) (.int u)).2) j=_
  rw [ih,ytd hd]
  have e:gI ((i::js).map .inl,(u::us).map PV.int) j=if j=i then some u else gI (js.map .inl,us.map PV.int) j:=by
   unfold gI
   show (match (if (Sum.inl i:Key)=.inl j then some (PV.int u) else yhS (js.map .inl) (us.map PV.int) (.inl j)) with|some (.int v)=>some v|_=>none)=_
   by_cases h:j=i
   .subst h;rw [if_pos rfl,if_pos rfl]
   .rw [if_neg fun z=>h (by cases z;rfl),if_neg h]
  rw [e]
  by_cases h:j=i
  .subst h
   rw [if_pos rfl,if_pos rfl]
   have:gI (js.map .inl,us.map PV.int) j=none:=by
    unfold gI
    have:yhS (js.map .inl) (us.map PV.int) (.inl j)=none:=by
     cases e:yhS (js.map .inl) (us.map PV.int) (.inl j) with
     | none=>rfl
     | some x=>exact absurd (List.of_mem_zip ((ykT n2 (by simpa using hl)).mpr e)).1 n1
    simp only [this]
   rw [this]
   rfl
  .rw [if_neg h,if_neg h]
theorem yzg {ds:List (List Key×List PV)}(hi:∀ d∈ds,isID d) {j:Int}:∀ k,yFx ds (.inl j) k=ofO (vwN ds j k)
 | 0=>rfl
 | k+1=>by
  unfold yFx vwN
  cases e:ds[k]? with
  | none=>rfl
  | some d =>
   have:=(hi d (List.mem_of_getElem? e)).get j
   simp only [this]
   cases gI d j with
   | none=>exact yzg hi k
   | some v=>rfl
theorem yzh {es fs:List (List Key×List PV)}{j:Int}:∀ k,k<=es.length->vwN (es++fs) j k=vwN es j k
 | 0,_=>rfl
 | k+1,hk=>by
  unfold vwN
  rw [List.getElem?_append_left (by omega),yzh k (by omega)]
theorem yzi {es:List (List Key×List PV)}{d:List Key×List PV}{j:Int}:vwN (es++[d]) j (es++[d]).length=orV (gI d j) (vwN es j es.length):=by
 rw [List.length_append]
 show vwN (es++[d]) j (es.length+1)=_
 rw [vwN]
 rw [List.getElem?_append_right (Nat.le_refl _),Nat.sub_self,yzh es.length (Nat.le_refl _)]
 rfl
end
theorem yqU:(("minus":Str) = "plus")=False:=eq_false (by decide +kernel)
theorem yqV:(("plus":Str) = "minus")=False:=eq_false (by decide +kernel)
theorem yqW:(("times":Str) = "plus")=False:=eq_false (by decide +kernel)
theorem yqX:(("plus":Str) = "times")=False:=eq_false (by decide +kernel)
theorem ypk:(("times":Str) = "minus")=False:=eq_false (by decide +kernel)
theorem ypl:(("minus":Str) = "times")=False:=eq_false (by decide +kernel)
theorem yte:(("less":Str) = "plus")=False:=eq_false (by decide +kernel)
theorem ytf:(("plus":Str) = "less")=False:=eq_false (by decide +kernel)
theorem yqY:(("less":Str) = "minus")=False:=eq_false (by decide +kernel)
theorem yqZ:(("minus":Str) = "less")=False:=eq_false (by decide +kernel)
theorem yra:(("less":Str) = "times")=False:=eq_false (by decide +kernel)
theorem yrb:(("times":Str) = "less")=False:=eq_false (by decide +kernel)
theorem ytg:(("same":Str) = "plus")=False:=eq_false (by decide +kernel)
theorem yth:(("plus":Str) = "same")=False:=eq_false (by decide +kernel)
theorem yrc:(("same":Str) = "minus")=False:=eq_false (by decide +kernel)
theorem yrd:(("minus":Str) = "same")=False:=eq_false (by decide +kernel)
theorem yre:(("same":Str) = "times")=False:=eq_false (by decide +kernel)
theorem yrf:(("times":Str) = "same")=False:=eq_false (by decide +kernel)
theorem yti:(("same":Str) = "less")=False:=eq_false (by decide +kernel)
local macro_rules | `(tactic| walk_at "pw")=>`(tactic| simp_all? only [yqU,yqV,yqW,yqX,ypk,ypl,yte,ytf,yqY,yqZ,yra,yrb,ytg,yth,yrc,yrd,yre,yrf,yti])
section
variable {h:AH}
structure DG (h:AH) (X:Nat->Prop) (d hl o s b:Nat) (l:List Nat) (t:Nat) (es:List (List Key×List PV)) (bx hs:List Int) (top:List Key×List PV) (sj sv:List Int):Prop where
 ob:h[d]?=some (.ins 1 ["held","width","log","found"] [.loc hl,.int bx.length,.loc o,.lst (bx.map .int)])
 hh:h[hl]?=some (.lst (hs.map .int))
 g:LG h o s b (l++[t]) (es++[top]) (sj.map .inl) (sv.map .int)
 st:Stk h l es
 tp:h[t]?=some (.dct top.1 top.2)
 nd:(d::hl::o::s::b::(l++[t])).Nodup
 ge:∀ x∈d::hl::o::s::b::(l++[t]),¬ X x
 idT:isID top
 idE:∀ e∈es,isID e
 idS:ID sj sv
 h8:hs.length=8
 b1:1<=bx.length
 b16:bx.length<=16
 xl:∀ n,X n->n<h.length
variable {X:Nat->Prop}{d hl o s b t:Nat}{l:List Nat}{es:List (List Key×List PV)}{bx hs:List Int}{top:List Key×List PV}{sj sv:List Int}
theorem ywg {u1 u2 u3 u4:PV}(e:h[d]?=some (.ins 1 ["held","width","log","found"] [u1,u2,u3,u4])):yiV [1] "held" (.loc d) h=some (u1,h):=by
 unfold yiV ykj
 simp only [e]
 rw [if_pos (by decide +kernel),show List.idxOf ("held":Str) ["held","width","log","found"]=0 by decide +kernel]
 rfl
theorem yEV {u1 u2 u3 u4:PV}(e:h[d]?=some (.ins 1 ["held","width","log","found"] [u1,u2,u3,u4])):yiV [1] "width" (.loc d) h=some (u2,h):=by
 unfold yiV ykj
 simp only [e]
 rw [if_pos (by decide +kernel),show List.idxOf ("width":Str) ["held","width","log","found"]=1 by decide +kernel]
 rfl
theorem ypm {u1 u2 u3 u4:PV}(e:h[d]?=some (.ins 1 ["held","width","log","found"] [u1,u2,u3,u4])):yiV [1] "log" (.loc d) h=some (u3,h):=by
 unfold yiV ykj
 simp only [e]
 rw [if_pos (by decide +kernel),show List.idxOf ("log":Str) ["held","width","log","found"]=2 by decide +kernel]
 rfl
theorem yEW {u1 u2 u3 u4:PV}(e:h[d]?=some (.ins 1 ["held","width","log","found"] [u1,u2,u3,u4])):yiV [1] "found" (.loc d) h=some (u4,h):=by
 unfold yiV ykj
 simp only [e]
 rw [if_pos (by decide +kernel),show List.idxOf ("found":Str) ["held","width","log","found"]=3 by decide +kernel]
 rfl
theorem yjS {u1 u2 u3 u4:PV}{m:Str}{f:Fn}{ys:List PV}{a:XE}{aa:XA}{ρ:PSt}{h0 h2:AH}(e:h[d]?=some (.ins 1 ["held","width","log","found"] [u1,u2,u3,u4])) (ea:a ρ h0=some (.loc d,h)) (hm:m∉(["held","width","log","found"]:List Str)) (eb:aa ρ h=some (ys,h2)):yK 1 m f a aa ρ h0=f (.loc d::ys) h2:=by
 unfold yK ykj
 rw [ea,yw]
 simp only [e]
 rw [if_pos ⟨trivial,hm⟩,eb,yw]
theorem ygW {r:Str}(hr:okS r):yfb (.str "abcdefgh") [.str r] h=some (.int (sx r),h):=by
 unfold okS SL at hr
 simp only [List.mem_cons,List.not_mem_nil,or_false] at hr
 rcases hr with rfl|rfl|rfl|rfl|rfl|rfl|rfl|rfl<;>(unfold yfb;simp only [];rfl)
theorem ykV {r:Str}(hr:okS r):ydP [.str r] h=some (.int (sx r),h):=by
 unfold ydP
 rw [yD]
 show ob (ycN _ [.val (.str r)] h) fnK=_
 walk_at "px"
 rw [ygW hr,yw]
theorem yuR {n:Nat}{xs:List Int}{i:Nat}(e:h[n]?=some (.lst (xs.map .int))) (hi:i<xs.length):yiU (.loc n) (.int i) h=some (.int (xs.getD i 0),h):=by
 unfold yiU
 simp only [e]
 have:(xs.map PV.int)[i]?=some (.int (xs.getD i 0)):=by
  rw [List.getElem?_map,List.getElem?_eq_getElem hi,List.getD_eq_getElem?_getD,List.getElem?_eq_getElem hi];rfl
 rw [yeJ this]
theorem DG.nx (D:DG h X d hl o s b l t es bx hs top sj sv):d≠hl/\d≠o/\d≠s/\d≠b/\d∉l++[t]/\hl≠o/\hl≠s/\hl≠b/\hl∉l++[t]/\o≠s/\o≠b/\o∉l++[t]/\s≠b/\s∉l++[t]/\b∉l++[t]/\(l++[t]).Nodup:=by
 obtain ⟨n1,r⟩:=List.nodup_cons.mp D.nd
 obtain ⟨n2,r⟩:=List.nodup_cons.mp r
 obtain ⟨n3,r⟩:=List.nodup_cons.mp r
 obtain ⟨n4,r⟩:=List.nodup_cons.mp r
 obtain ⟨n5,r⟩:=List.nodup_cons.mp r
 simp only [List.mem_cons,not_or] at n1 n2 n3 n4 n5
 exact ⟨n1.1,n1.2.1,n1.2.2.1,n1.2.2.2.1,n1.2.2.2.2,n2.1,n2.2.1,n2.2.2.1,n2.2.2.2,n3.1,n3.2.1,n3.2.2,n4.1,n4.2,n5,r⟩
theorem yie {r:Str}(D:DG h X d hl o s b l t es bx hs top sj sv) (hr:okS r):yT [.loc d,.str r] h=some (.int (hs.getD (sx r) 0),h):=by
 unfold yT
 rw [yD]
 show ob (ycN _ [.val (.loc d),.val (.str r)] h) fnK=_
 walk_at "px"
 rw [ywg D.ob,yw,ykV hr,yw,yuR D.hh (by rw [D.h8];exact yqT hr),yw]
theorem yrg {r:Str}{v:Int}(D:DG h X d hl o s b l t es bx hs top sj sv) (hr:okS r):ybC [.loc d,.str r,.int v] h=some (.non,h.set hl (.lst ((hs.set (sx r) v).map .int))):=by
 unfold ybC
 rw [yD]
 show ob (ynY _ _ _ [.val (.loc d),.val (.str r),.val (.int v)] h) fnK=_
 unfold ynY
 show ob (ob (some (PV.int v,h)) _) _=_
 rw [yw]
 walk_at "px"
 rw [ywg D.ob,yw,ykV hr,yw]
 have hi:sx r<hs.length:=by rw [D.h8];exact yqT hr
 have e:ixN (hs.map PV.int).length (sx r:Nat)=some (sx r):=by
  unfold ixN
  simp [hi]
 simp only [D.hh,e]
 rw [yw,List.map_set]
 rfl
theorem ykW {r:Str}(D:DG h X d hl o s b l t es bx hs top sj sv) (hr:okS r):ybq [.loc d,.str r] h=some (.int (hs.getD (sx r) 0%bx.length),h):=by
 unfold ybq
 rw [yD]
 show ob (ycN _ [.val (.loc d),.val (.str r)] h) fnK=_
 walk_at "px"
 rw [yjS D.ob rfl (by decide +kernel) rfl,yie D hr,yw,yEV D.ob,yw]
 have:=D.b1
 walk_at "px"
 rw [if_pos (by omega)]
theorem yJf {w:Str}{x y:Int}(hw:okW w) (hx:N64 x):ykS [.str w,.int x,.int y] h=some (.int (rk w x y),h):=by
 have hm:MulOk x y:=.inl ⟨by have:=hx.1;omega,hx.2⟩
 unfold ykS
 rw [yD]
 show ob (yB _ _ [.val (.str w),.val (.int x),.val (.int y)] h) fnK=_
 unfold okW WDS at hw
 simp only [List.mem_cons,List.not_mem_nil,or_false] at hw
 unfold rk
 rcases hw with rfl|rfl|rfl|rfl|rfl
 .walk_at "pw"
 .walk_at "pw"
 .walk_at "pw"
  rw [if_pos hm]
 .walk_at "pw"
  split<;>rfl
 .walk_at "pw"
  split<;>rfl
theorem ytj {w r p q:Str}(D:DG h X d hl o s b l t es bx hs top sj sv) (hw:okW w) (hr:okS r) (hp:okS p) (hq:okS q) (hN:∀ v∈hs,N64 v):ydu [.loc d,.str w,.str r,.str p,.str q] h=some (.non,h.set hl (.lst ((hs.set (sx r) (rk w (hs.getD (sx p) 0) (hs.getD (sx q) 0))).map .int))):=by
 have hi:sx p<hs.length:=by rw [D.h8];exact yqT hp
 have hv:N64 (hs.getD (sx p) 0):=hN _ (by rw [List.getD_eq_getElem?_getD,List.getElem?_eq_getElem hi];exact List.getElem_mem hi)
 unfold ydu
 rw [yD]
 show ob (yfz _ [.val (.loc d),.val (.str w),.val (.str r),.val (.str p),.val (.str q)] h) fnK=_
 rw [yhs,yjS (h2:=h) (ys:=[.str r,.int (rk w (hs.getD (sx p) 0) (hs.getD (sx q) 0))]) D.ob rfl (by decide +kernel) (by
  walk_at "px"
  rw [yjS D.ob rfl (by decide +kernel) rfl,yie D hp,yw,yjS D.ob rfl (by decide +kernel) rfl,yie D hq,yw,yJf hw hv]
  walk_at "px"),yrg D hr,yw,yw]
 rfl
theorem yzj {p q:Str}(D:DG h X d hl o s b l t es bx hs top sj sv) (hp:okS p) (hq:okS q):yfc [.loc d,.str p,.str q] h=some (.non,h.set t (.dct (yep top.1 top.2 (.inl (hs.getD (sx p) 0%bx.length)) (.int (hs.getD (sx q) 0))).1 (yep top.1 top.2 (.inl (hs.getD (sx p) 0%bx.length)) (.int (hs.getD (sx q) 0))).2)):=by
 unfold yfc
 rw [yD]
 show ob (yfz _ [.val (.loc d),.val (.str p),.val (.str q)] h) fnK=_
 have hl':=D.idT.len
 rw [yhs,yhW (h:=h) (h2:=h) (ys:=[.int (hs.getD (sx p) 0%bx.length),.int (hs.getD (sx q) 0)]) D.g.ob (by
  walk_at "px"
  rw [ypm D.ob]) (by decide +kernel) (by
  walk_at "px"
  rw [yjS D.ob rfl (by decide +kernel) rfl,ykW D hp,yw,yjS D.ob rfl (by decide +kernel) rfl,yie D hq,yw]),yBx D.g D.tp (by omega),yw,yw]
 rfl
theorem yCT {p:Str}(D:DG h X d hl o s b l t es bx hs top sj sv) (j:Int):ygd [.loc o,.int j] h=some (ofO (orV (gI top j) (vwN es j es.length)),h):=by
 rw [yHd D.g,yzg (fun e he=>by
  rcases List.mem_append.mp he with he|he
  .exact D.idE e he
  .rw [List.mem_singleton.mp he];exact D.idT),show (l++[t]).length=(es++[top]).length by rw [List.length_append,List.length_append,D.st.len];rfl,yzi]
theorem ywS {p:Str}(D:DG h X d hl o s b l t es bx hs top sj sv) (hp:okS p):yex [.loc d,.str p] h=some (.bl (isN (ofO (orV (gI top (hs.getD (sx p) 0%bx.length)) (vwN es (hs.getD (sx p) 0%bx.length) es.length)))),h):=by
 unfold yex
 rw [yD]
 show ob (ycN _ [.val (.loc d),.val (.str p)] h) fnK=_
 walk_at "px"
 rw [yhW (h:=h) (h2:=h) (ys:=[.int (hs.getD (sx p) 0%bx.length)]) D.g.ob (by
  walk_at "px"
  rw [ypm D.ob]) (by decide +kernel) (by
  walk_at "px"
  rw [yjS D.ob rfl (by decide +kernel) rfl,ykW D hp,yw]),yCT (p:=p) D]
 walk_at "px"
theorem yuS {r p:Str}{v:Int}(D:DG h X d hl o s b l t es bx hs top sj sv) (hr:okS r) (hp:okS p) (hv:(orV (gI top (hs.getD (sx p) 0%bx.length)) (vwN es (hs.getD (sx p) 0%bx.length) es.length))=some v):ydR [.loc d,.str r,.str p] h=some (.non,h.set hl (.lst ((hs.set (sx r) v).map .int))):=by
 unfold ydR
 rw [yD]
 show ob (yfz _ [.val (.loc d),.val (.str r),.val (.str p)] h) fnK=_
 rw [yhs,yjS (h2:=h) (ys:=[.str r,.int v]) D.ob rfl (by decide +kernel) (by
  walk_at "px"
  rw [yhW (h:=h) (h2:=h) (ys:=[.int (hs.getD (sx p) 0%bx.length)]) D.g.ob (by
   walk_at "px"
   rw [ypm D.ob]) (by decide +kernel) (by
   walk_at "px"
   rw [yjS D.ob rfl (by decide +kernel) rfl,ykW D hp,yw]),yCT (p:=p) D,hv]
  walk_at "px"
  rfl),yrg D hr,yw,yw]
 rfl
end
section
variable {h:AH}{X:Nat->Prop}{d hl o s b t:Nat}{l:List Nat}{es:List (List Key×List PV)}{bx hs:List Int}{top:List Key×List PV}{sj sv:List Int}
theorem DG.hold {hs':List Int}(D:DG h X d hl o s b l t es bx hs top sj sv) (h8:hs'.length=8):DG (h.set hl (.lst (hs'.map .int))) X d hl o s b l t es bx hs' top sj sv:=by
 obtain ⟨n1,n2,n3,n4,n5,n6,n7,n8,n9,n10,n11,n12,n13,n14,n15,n16⟩:=D.nx
 have ne:∀ x∈l++[t],x≠hl:=fun x hx z=>n9 (z ▸ hx)
 exact { D with
  ob:=yA n1 D.ob
  hh:=set_same D.hh
  g:=⟨yA (Ne.symm n6) D.g.ob,yA (Ne.symm n7) D.g.st,yA (Ne.symm n8) D.g.sn,D.g.dl.mono fun x hx d e=>yA (ne x hx) e⟩
  st:=D.st.mono fun x hx d e=>yA (ne x (List.mem_append_left _ hx)) e
  tp:=yA (ne t (by simp)) D.tp
  h8:=h8
  xl:=fun n hn=>by rw [List.length_set];exact D.xl n hn }
theorem DG.write {top':List Key×List PV}(D:DG h X d hl o s b l t es bx hs top sj sv) (hi:isID top'):DG (h.set t (.dct top'.1 top'.2)) X d hl o s b l t es bx hs top' sj sv:=by
 obtain ⟨n1,n2,n3,n4,n5,n6,n7,n8,n9,n10,n11,n12,n13,n14,n15,n16⟩:=D.nx
 have m:t∈l++[t]:=by simp
 have ne:∀ x∈l,x≠t:=fun x hx=>(List.nodup_append.mp n16).2.2 x hx t (by simp)
 have st':Stk (h.set t (.dct top'.1 top'.2)) l es:=D.st.mono fun x hx d e=>yA (ne x hx) e
 exact { D with
  ob:=yA (fun z=>n5 (z ▸ m)) D.ob
  hh:=yA (fun z=>n9 (z ▸ m)) D.hh
  g:=⟨yA (fun z=>n12 (z ▸ m)) D.g.ob,yA (fun z=>n14 (z ▸ m)) D.g.st,yA (fun z=>n15 (z ▸ m)) D.g.sn,st'.app ⟨set_same D.tp,trivial⟩⟩
  st:=st'
  tp:=set_same D.tp
  idT:=hi
  xl:=fun n hn=>by rw [List.length_set];exact D.xl n hn }
theorem DG.see {sj' sv':List Int}(D:DG h X d hl o s b l t es bx hs top sj sv) (hi:ID sj' sv'):DG (h.set b (.dct (sj'.map .inl) (sv'.map .int))) X d hl o s b l t es bx hs top sj' sv':=by
 obtain ⟨n1,n2,n3,n4,n5,n6,n7,n8,n9,n10,n11,n12,n13,n14,n15,n16⟩:=D.nx
 have ne:∀ x∈l++[t],x≠b:=fun x hx z=>n15 (z ▸ hx)
 exact { D with
  ob:=yA n4 D.ob
  hh:=yA n8 D.hh
  g:=⟨yA n11 D.g.ob,yA n13 D.g.st,set_same D.g.sn,D.g.dl.mono fun x hx d e=>yA (ne x hx) e⟩
  st:=D.st.mono fun x hx d e=>yA (ne x (List.mem_append_left _ hx)) e
  tp:=yA (ne t (by simp)) D.tp
  idS:=hi
  xl:=fun n hn=>by rw [List.length_set];exact D.xl n hn }
theorem ixF {i:Int}(h0:0<=i) (h1:i<bx.length):atI (bx.map PV.int) i=some (.int (bx.getD i.toNat 0)):=by
 obtain ⟨n,rfl⟩:=Int.eq_ofNat_of_zero_le h0
 have hi:n<bx.length:=by omega
 have:(bx.map PV.int)[n]?=some (.int (bx.getD n 0)):=by
  rw [List.getElem?_map,List.getElem?_eq_getElem hi,List.getD_eq_getElem?_getD,List.getElem?_eq_getElem hi];rfl
 exact yeJ this
theorem ytk (x:Int) (h1:1<=bx.length) (h16:bx.length<=16):0<=x%bx.length/\x%bx.length<bx.length/\x%bx.length<16:=by
 have a:=Int.emod_nonneg x (b:=(bx.length:Int)) (by omega)
 have c:=Int.emod_lt_of_pos x (b:=(bx.length:Int)) (by omega)
 exact ⟨a,c,by omega⟩
theorem ytl {r p:Str}{sj' sv':List Int}(D:DG h X d hl o s b l t es bx hs top sj sv) (hr:okS r) (hp:okS p)
  (hput:yep (sj.map .inl) (sv.map PV.int) (.inl (hs.getD (sx p) 0%bx.length)) (.int (bx.getD (hs.getD (sx p) 0%bx.length).toNat 0))=(sj'.map .inl,sv'.map .int)) (hi:ID sj' sv') :
  ydv [.loc d,.str r,.str p,.lst (bx.map .int)] h=some (.non,(h.set b (.dct (sj'.map .inl) (sv'.map .int))).set hl (.lst ((hs.set (sx r) (bx.getD (hs.getD (sx p) 0%bx.length).toNat 0)).map .int))):=by
 obtain ⟨i1,i2,i3⟩:=ytk (bx:=bx) (hs.getD (sx p) 0) D.b1 D.b16
 have sl:=D.idS.le
 unfold ydv
 rw [yD]
 show ob (yB _ _ [.val (.loc d),.val (.str r),.val (.str p),.val (.lst (bx.map .int)),.no] h) fnK=_
 walk_at "px"
 rw [yjS D.ob rfl (by decide +kernel) rfl,ykW D hp,yw]
 rw [yhW (h:=h) (h2:=h) (ys:=[.int (hs.getD (sx p) 0%bx.length),.int (bx.getD (hs.getD (sx p) 0%bx.length).toNat 0)]) D.g.ob (by
  walk_at "px"
  rw [ypm D.ob]) (by decide +kernel) (by
  walk_at "px"
  rw [ixF i1 i2]
  rfl),yHe D.g (by rw [List.length_map];omega),hput,yw]
 have D1:=D.see hi
 rw [yjS (h2:=h.set b (.dct (sj'.map .inl) (sv'.map .int))) (ys:=[.str r,.int (bx.getD (hs.getD (sx p) 0%bx.length).toNat 0)]) D1.ob rfl (by decide +kernel) (by
  walk_at "px"
  rw [ixF i1 i2]
  rfl),yrg D1 hr,yw]
structure PR (h:AH) (X:Nat->Prop) (d o s b:Nat) (l:List Nat) (t:Nat) (es:List (List Key×List PV)) (bx:List Int) (σ:AS):Prop where
 ex:∃ hl top sj sv,DG h X d hl o s b l t es bx σ.hs top sj sv/\(∀ j,orV (gI top j) (vwN es j es.length)=σ.v j)/\∀ j,gI (sj.map .inl,sv.map PV.int) j=σ.s j
 nh:∀ v∈σ.hs,N64 v
 nv:∀ j v,σ.v j=some v->N64 v
 nb:∀ v∈bx,N64 v
theorem yJZ {w:Str}{x y:Int}:N64 (rk w x y):=by
 unfold rk N64
 repeat' split
 all_goals omega
theorem yBB {hs:List Int}{i:Nat}{v:Int}(hN:∀ v∈hs,N64 v) (hv:N64 v):∀ u∈hs.set i v,N64 u:=fun u hu=>by
 rcases List.mem_or_eq_of_mem_set hu with z|z
 .exact hN u z
 .rw [z];exact hv
theorem yzk {hs:List Int}{i:Nat}(hN:∀ v∈hs,N64 v):N64 (hs.getD i 0):=by
 rw [List.getD_eq_getElem?_getD]
 cases e:hs[i]? with
 | none=>exact ⟨Int.le_refl _,by decide⟩
 | some v=>exact hN v (List.mem_of_getElem? e)
end
theorem yHh {ns:List Str}{xs:List PV}{h:AH}:ycS yR [.ins 3 ns xs,.cls 3] h=some (.bl true,h):=id rfl
theorem yHi {ns:List Str}{xs:List PV}{h:AH}:ycS yR [.ins 3 ns xs,.cls 4] h=some (.bl false,h):=id rfl
theorem yHj {ns:List Str}{xs:List PV}{h:AH}:ycS yR [.ins 3 ns xs,.cls 5] h=some (.bl false,h):=id rfl
theorem yHk {ns:List Str}{xs:List PV}{h:AH}:ycS yR [.ins 3 ns xs,.cls 6] h=some (.bl false,h):=id rfl
theorem yHl {ns:List Str}{xs:List PV}{h:AH}:ycS yR [.ins 3 ns xs,.cls 7] h=some (.bl false,h):=id rfl
theorem yHm {ns:List Str}{xs:List PV}{h:AH}:ycS yR [.ins 3 ns xs,.cls 8] h=some (.bl false,h):=id rfl
theorem yHn {ns:List Str}{xs:List PV}{h:AH}:ycS yR [.ins 3 ns xs,.cls 9] h=some (.bl false,h):=id rfl
theorem yEX {ns:List Str}{xs:List PV}{h:AH}:ycS yR [.ins 3 ns xs,.cls 10] h=some (.bl false,h):=id rfl
theorem yEY {ns:List Str}{xs:List PV}{h:AH}:ycS yR [.ins 3 ns xs,.cls 11] h=some (.bl false,h):=id rfl
theorem yHo {ns:List Str}{xs:List PV}{h:AH}:ycS yR [.ins 4 ns xs,.cls 3] h=some (.bl false,h):=id rfl
theorem yHp {ns:List Str}{xs:List PV}{h:AH}:ycS yR [.ins 4 ns xs,.cls 4] h=some (.bl true,h):=id rfl
theorem yHq {ns:List Str}{xs:List PV}{h:AH}:ycS yR [.ins 4 ns xs,.cls 5] h=some (.bl false,h):=id rfl
theorem yHr {ns:List Str}{xs:List PV}{h:AH}:ycS yR [.ins 4 ns xs,.cls 6] h=some (.bl false,h):=id rfl
theorem yHs {ns:List Str}{xs:List PV}{h:AH}:ycS yR [.ins 4 ns xs,.cls 7] h=some (.bl false,h):=id rfl
theorem yHt {ns:List Str}{xs:List PV}{h:AH}:ycS yR [.ins 4 ns xs,.cls 8] h=some (.bl false,h):=id rfl
theorem yHu {ns:List Str}{xs:List PV}{h:AH}:ycS yR [.ins 4 ns xs,.cls 9] h=some (.bl false,h):=id rfl
theorem yEZ {ns:List Str}{xs:List PV}{h:AH}:ycS yR [.ins 4 ns xs,.cls 10] h=some (.bl false,h):=id rfl
theorem yFa {ns:List Str}{xs:List PV}{h:AH}:ycS yR [.ins 4 ns xs,.cls 11] h=some (.bl false,h):=id rfl
theorem yHv {ns:List Str}{xs:List PV}{h:AH}:ycS yR [.ins 5 ns xs,.cls 3] h=some (.bl false,h):=id rfl
theorem yHw {ns:List Str}{xs:List PV}{h:AH}:ycS yR [.ins 5 ns xs,.cls 4] h=some (.bl false,h):=id rfl
theorem yHx {ns:List Str}{xs:List PV}{h:AH}:ycS yR [.ins 5 ns xs,.cls 5] h=some (.bl true,h):=id rfl
theorem yHy {ns:List Str}{xs:List PV}{h:AH}:ycS yR [.ins 5 ns xs,.cls 6] h=some (.bl false,h):=id rfl
theorem yHz {ns:List Str}{xs:List PV}{h:AH}:ycS yR [.ins 5 ns xs,.cls 7] h=some (.bl false,h):=id rfl
theorem yHA {ns:List Str}{xs:List PV}{h:AH}:ycS yR [.ins 5 ns xs,.cls 8] h=some (.bl false,h):=id rfl
theorem yHB {ns:List Str}{xs:List PV}{h:AH}:ycS yR [.ins 5 ns xs,.cls 9] h=some (.bl false,h):=id rfl
theorem yFb {ns:List Str}{xs:List PV}{h:AH}:ycS yR [.ins 5 ns xs,.cls 10] h=some (.bl false,h):=id rfl
theorem yFc {ns:List Str}{xs:List PV}{h:AH}:ycS yR [.ins 5 ns xs,.cls 11] h=some (.bl false,h):=id rfl
theorem yHC {ns:List Str}{xs:List PV}{h:AH}:ycS yR [.ins 6 ns xs,.cls 3] h=some (.bl false,h):=id rfl
theorem yHD {ns:List Str}{xs:List PV}{h:AH}:ycS yR [.ins 6 ns xs,.cls 4] h=some (.bl false,h):=id rfl
theorem yHE {ns:List Str}{xs:List PV}{h:AH}:ycS yR [.ins 6 ns xs,.cls 5] h=some (.bl false,h):=id rfl
theorem yHF {ns:List Str}{xs:List PV}{h:AH}:ycS yR [.ins 6 ns xs,.cls 6] h=some (.bl true,h):=id rfl
theorem yHG {ns:List Str}{xs:List PV}{h:AH}:ycS yR [.ins 6 ns xs,.cls 7] h=some (.bl false,h):=id rfl
theorem yHH {ns:List Str}{xs:List PV}{h:AH}:ycS yR [.ins 6 ns xs,.cls 8] h=some (.bl false,h):=id rfl
theorem yHI {ns:List Str}{xs:List PV}{h:AH}:ycS yR [.ins 6 ns xs,.cls 9] h=some (.bl false,h):=id rfl
theorem yFd {ns:List Str}{xs:List PV}{h:AH}:ycS yR [.ins 6 ns xs,.cls 10] h=some (.bl false,h):=id rfl
theorem yFe {ns:List Str}{xs:List PV}{h:AH}:ycS yR [.ins 6 ns xs,.cls 11] h=some (.bl false,h):=id rfl
theorem yHJ {ns:List Str}{xs:List PV}{h:AH}:ycS yR [.ins 7 ns xs,.cls 7] h=some (.bl true,h):=id rfl
theorem yHK {ns:List Str}{xs:List PV}{h:AH}:ycS yR [.ins 8 ns xs,.cls 7] h=some (.bl false,h):=id rfl
theorem yHL {ns:List Str}{xs:List PV}{h:AH}:ycS yR [.ins 8 ns xs,.cls 8] h=some (.bl true,h):=id rfl
theorem yFf {ns:List Str}{xs:List PV}{h:AH}:ycS yR [.ins 11 ns xs,.cls 7] h=some (.bl false,h):=id rfl
theorem yFg {ns:List Str}{xs:List PV}{h:AH}:ycS yR [.ins 11 ns xs,.cls 8] h=some (.bl false,h):=id rfl
theorem yFh {ns:List Str}{xs:List PV}{h:AH}:ycS yR [.ins 11 ns xs,.cls 9] h=some (.bl false,h):=id rfl
theorem yBC {ns:List Str}{xs:List PV}{h:AH}:ycS yR [.ins 11 ns xs,.cls 10] h=some (.bl false,h):=id rfl
theorem yBD {ns:List Str}{xs:List PV}{h:AH}:ycS yR [.ins 11 ns xs,.cls 11] h=some (.bl true,h):=id rfl
local macro_rules | `(tactic| walk_at "pi")=>`(tactic| simp_all? only [yHh,yHi,yHj,yHk,yHl,yHm,yHn,yEX,yEY,yHo,yHp,yHq,yHr,yHs,yHt,yHu,yEZ,yFa,yHv,yHw,yHx,yHy,yHz,yHA,yHB,yFb,yFc,yHC,yHD,yHE,yHF,yHG,yHH,yHI,yFd,yFe,yHJ,yHK,yHL,yFf,yFg,yFh,yBC,yBD])
section
variable {h:AH}{X:Nat->Prop}{d o s b t:Nat}{l:List Nat}{es:List (List Key×List PV)}{bx:List Int}{σ:AS}
noncomputable def ywh:T->Prop
 | .let_ ..=>True
 | .reckon ..=>True
 | .take ..=>True
 | .put ..=>True
 | _=>False
theorem yBE {u:T}(hp:ywh u) (hu:okT u) (R:PR h X d o s b l t es bx σ):∃ h',ycz [.loc d,yfB u] h=some (.non,h')/\PR h' X d o s b l t es bx (evP bx u σ)/\Frm X h h':=by
 obtain ⟨⟨hl,top,sj,sv,D,hv,hs⟩,nh,nv,nb⟩:=R
 have gh:¬ X hl:=D.ge hl (by simp)
 have gb:¬ X b:=D.ge b (by simp)
 have gt:¬ X t:=D.ge t (by simp)
 have len8:∀ {i:Nat}{v:Int},(σ.hs.set i v).length=8:=by intro i v;rw [List.length_set];exact D.h8
 unfold ycz
 cases u with
 | let_ r n =>
  obtain ⟨k1,k2⟩:=hu
  refine ⟨_,?_,⟨⟨hl,top,sj,sv,D.hold (hs':=σ.hs.set (sx r) n) len8,hv,hs⟩,yBB nh k2,nv,nb⟩,Frm.refl.set gh⟩
  rw [yD]
  show ob (yB _ _ [.val (.loc d),.val (.ins 3 ["slot","number"] [.str r,.int n])] h) fnK=_
  walk_at "pi"
  rw [yjS (h2:=h) (ys:=[.str r,.int n]) D.ob rfl (by decide +kernel) (by walk_at "pi"),yrg D k1,yw]
 | reckon w r p q =>
  obtain ⟨k0,k1,k2,k3⟩:=hu
  refine ⟨_,?_,⟨⟨hl,top,sj,sv,D.hold (hs':=σ.hs.set (sx r) (rk w (σ.hs.getD (sx p) 0) (σ.hs.getD (sx q) 0))) len8,hv,hs⟩,yBB nh yJZ,nv,nb⟩,Frm.refl.set gh⟩
  rw [yD]
  show ob (yB _ _ [.val (.loc d),.val (.ins 4 ["word","slot","one","other"] [.str w,.str r,.str p,.str q])] h) fnK=_
  walk_at "pi"
  rw [yjS (h2:=h) (ys:=[.str w,.str r,.str p,.str q]) D.ob rfl (by decide +kernel) (by walk_at "pi"),ytj D k0 k1 k2 k3 nh,yw]
 | take r p =>
  obtain ⟨k1,k2⟩:=hu
  obtain ⟨i1,i2,i3⟩:=ytk (bx:=bx) (σ.hs.getD (sx p) 0) D.b1 D.b16
  have hj:=hv (σ.hs.getD (sx p) 0%bx.length)
  have key:∃ h',ycQ [.loc d,.ins 5 ["slot","place"] [.str r,.str p]] h=some (.non,h')/\PR h' X d o s b l t es bx (evP bx (.take r p) σ)/\Frm X h h':=by
   unfold ycQ
   rw [yD]
   show ∃ h',ob (ydH _ _ _ [.val (.loc d),.val (.ins 5 ["slot","place"] [.str r,.str p])] h) fnK=_/\_
   walk_at "pi"
   rw [yjS (h2:=h) (ys:=[.str p]) D.ob rfl (by decide +kernel) (by walk_at "pi"),ywS D k2,yw]
   cases e:orV (gI top (σ.hs.getD (sx p) 0%bx.length)) (vwN es (σ.hs.getD (sx p) 0%bx.length) es.length) with
   | some v =>
    rw [e] at hj
    have ev:evP bx (.take r p) σ=⟨σ.hs.set (sx r) v,σ.v,σ.s⟩:=by
     show tkV bx σ r (σ.hs.getD (sx p) 0%bx.length) (σ.v (σ.hs.getD (sx p) 0%bx.length))=_
     rw [<- hj]
     rfl
    refine ⟨_,?_,by rw [ev];exact ⟨⟨hl,top,sj,sv,D.hold (hs':=σ.hs.set (sx r) v) len8,hv,hs⟩,yBB nh (nv _ _ hj.symm),nv,nb⟩,Frm.refl.set gh⟩
    show ob (oB (.bl false) h) _=_
    walk_at "pi"
    rw [yjS (h2:=h) (ys:=[.str r,.str p]) D.ob rfl (by decide +kernel) (by walk_at "pi"),yuS D k1 k2 e,yw]
   | none =>
    rw [e] at hj
    obtain ⟨sj',sv',hput,hi,_⟩:=D.idS.put (v:=bx.getD (σ.hs.getD (sx p) 0%bx.length).toNat 0) ⟨i1,i3⟩
    have ev:evP bx (.take r p) σ=⟨σ.hs.set (sx r) (bx.getD (σ.hs.getD (sx p) 0%bx.length).toNat 0),σ.v,upV σ.s (σ.hs.getD (sx p) 0%bx.length) (bx.getD (σ.hs.getD (sx p) 0%bx.length).toNat 0)⟩:=by
     show tkV bx σ r (σ.hs.getD (sx p) 0%bx.length) (σ.v (σ.hs.getD (sx p) 0%bx.length))=_
     rw [<- hj]
     rfl
    have D2:=(D.see hi).hold (hs':=σ.hs.set (sx r) (bx.getD (σ.hs.getD (sx p) 0%bx.length).toNat 0)) len8
    rw [ev]
    refine ⟨_,?_,⟨⟨hl,top,sj',sv',D2,hv,fun j=>?_⟩,yBB nh (yzk nb),nv,nb⟩,(Frm.refl.set gb).set gh⟩
    .show ob (oB (.bl true) h) _=_
     walk_at "pi"
     rw [yjS (h2:=h) (ys:=[.str r,.str p,.lst (bx.map .int)]) D.ob rfl (by decide +kernel) (by
      walk_at "pi"
      rw [yEW D.ob]
      rfl),ytl D k1 k2 hput hi,yw]
    .have hd:isID (sj.map .inl,sv.map PV.int):=⟨sj,sv,rfl,D.idS⟩
     have:=ytd hd (k:=σ.hs.getD (sx p) 0%bx.length) (j:=j) (v:=bx.getD (σ.hs.getD (sx p) 0%bx.length).toNat 0)
     rw [hput] at this
     rw [this,hs]
     rfl
  obtain ⟨h',e1,R',F⟩:=key
  refine ⟨h',?_,R',F⟩
  rw [yD]
  show ob (yB _ _ [.val (.loc d),.val (.ins 5 ["slot","place"] [.str r,.str p])] h) fnK=_
  walk_at "pi"
  rw [yjS (h2:=h) (ys:=[.ins 5 ["slot","place"] [.str r,.str p]]) D.ob rfl (by decide +kernel) (by walk_at "pi"),e1,yw]
 | put p q =>
  obtain ⟨k1,k2⟩:=hu
  obtain ⟨i1,i2,i3⟩:=ytk (bx:=bx) (σ.hs.getD (sx p) 0) D.b1 D.b16
  have D2:=D.write (D.idT.put (v:=σ.hs.getD (sx q) 0) ⟨i1,i3⟩)
  refine ⟨_,?_,⟨⟨hl,_,sj,sv,D2,fun j=>?_,hs⟩,nh,fun j v e=>?_,nb⟩,Frm.refl.set gt⟩
  .rw [yD]
   show ob (yB _ _ [.val (.loc d),.val (.ins 6 ["place","slot"] [.str p,.str q])] h) fnK=_
   walk_at "pi"
   rw [yjS (h2:=h) (ys:=[.str p,.str q]) D.ob rfl (by decide +kernel) (by walk_at "pi"),yzj D k1 k2,yw]
  .rw [ytd D.idT]
   show _=upV σ.v (σ.hs.getD (sx p) 0%bx.length) (σ.hs.getD (sx q) 0) j
   unfold upV
   by_cases hj:j=σ.hs.getD (sx p) 0%bx.length
   .rw [if_pos hj,if_pos hj];rfl
   .rw [if_neg hj,if_neg hj];exact hv j
  .have e:(if j=σ.hs.getD (sx p) 0%bx.length then some (σ.hs.getD (sx q) 0) else σ.v j)=some v:=e
   split at e
   .cases e;exact yzk nh
   .exact nv j v e
 | if_ _ _ _=>exact hp.elim
 | either _ _=>exact hp.elim
 | try_ _ _ _ _=>exact hp.elim
 | throw _ _=>exact hp.elim
 | wait=>exact hp.elim
end
section
variable {h:AH}{X:Nat->Prop}{d o s b t:Nat}{l:List Nat}{es:List (List Key×List PV)}{bx hs:List Int}{σ:AS}
theorem PR.ob (R:PR h X d o s b l t es bx σ):∃ hl,h[d]?=some (.ins 1 ["held","width","log","found"] [.loc hl,.int bx.length,.loc o,.lst (bx.map .int)]):=let ⟨hl,_,_,_,D,_⟩:=R.ex;⟨hl,D.ob⟩
theorem ywT (e:En):yCF (enV e) (.tup [.str "done"]) h=some (.bl (match e with|.done=>false|_=>true),h):=by
 cases e with
 | done =>
  unfold yCF enV pairE
  simp [yni,eqP,sv,eqV]
 | waits =>
  have z:¬ ("waits":Str) = "done":=by decide +kernel
  unfold yCF enV pairE
  simp [yni,eqP,sv,eqV,z]
 | fell nm v =>
  have z:¬ ("fell":Str) = "done":=by decide +kernel
  unfold yCF enV pairE
  simp [yni,eqP,sv,eqV,z]
theorem ypZ (e:En):ywO (enV e) (.tup [.str "done"]) h=some (.bl (match e with|.done=>true|_=>false),h):=by
 cases e with
 | done =>
  unfold ywO enV pairE
  simp [yni,eqP,sv,eqV]
 | waits =>
  have z:¬ ("waits":Str) = "done":=by decide +kernel
  unfold ywO enV pairE
  simp [yni,eqP,sv,eqV,z]
 | fell nm v =>
  have z:¬ ("fell":Str) = "done":=by decide +kernel
  unfold ywO enV pairE
  simp [yni,eqP,sv,eqV,z]
theorem yuT (e:En):ywO (enV e) (.tup [.str "waits"]) h=some (.bl (match e with|.waits=>true|_=>false),h):=by
 cases e with
 | done =>
  have z:¬ ("done":Str) = "waits":=by decide +kernel
  unfold ywO enV pairE
  simp [yni,eqP,sv,eqV,z]
 | waits =>
  unfold ywO enV pairE
  simp [yni,eqP,sv,eqV]
 | fell nm v =>
  have z:¬ ("fell":Str) = "waits":=by decide +kernel
  unfold ywO enV pairE
  simp [yni,eqP,sv,eqV,z]
theorem yeV {n:Nat}{u:T}(hp:ywh u) (hu:okT u) (R:PR h X d o s b l t es bx σ):∃ h',yba (n+1) [.loc d,yfB u] h=some (.tup [.str "done"],h')/\PR h' X d o s b l t es bx (evP bx u σ)/\Frm X h h':=by
 obtain ⟨h',e,R',F⟩:=yBE hp hu R
 obtain ⟨hl,eo⟩:=R.ob
 refine ⟨h',?_,R',F⟩
 unfold yba
 rw [yD]
 cases u with
 | let_ r n =>
  show ob (yB _ _ [.val (.loc d),.val (.ins 3 ["slot","number"] [.str r,.int n])] h) fnK=_
  walk_at "pi"
  rw [yjS (h2:=h) (ys:=[yfB (.let_ r n)]) eo rfl (by decide +kernel) rfl,e,yw]
 | reckon w r p q =>
  show ob (yB _ _ [.val (.loc d),.val (.ins 4 ["word","slot","one","other"] [.str w,.str r,.str p,.str q])] h) fnK=_
  walk_at "pi"
  rw [yjS (h2:=h) (ys:=[yfB (.reckon w r p q)]) eo rfl (by decide +kernel) rfl,e,yw]
 | take r p =>
  show ob (yB _ _ [.val (.loc d),.val (.ins 5 ["slot","place"] [.str r,.str p])] h) fnK=_
  walk_at "pi"
  rw [yjS (h2:=h) (ys:=[yfB (.take r p)]) eo rfl (by decide +kernel) rfl,e,yw]
 | put p q =>
  show ob (yB _ _ [.val (.loc d),.val (.ins 6 ["place","slot"] [.str p,.str q])] h) fnK=_
  walk_at "pi"
  rw [yjS (h2:=h) (ys:=[yfB (.put p q)]) eo rfl (by decide +kernel) rfl,e,yw]
 | if_ _ _ _=>exact hp.elim
 | either _ _=>exact hp.elim
 | try_ _ _ _ _=>exact hp.elim
 | throw _ _=>exact hp.elim
 | wait=>exact hp.elim
noncomputable def EnN:En->Prop
 | .fell _ v=>N64 v
 | _=>True
noncomputable def ywi (n:Nat):Prop:=∀ (X:Nat->Prop) (d o s b t:Nat) (l:List Nat) (es:List (List Key×List PV)) (bx:List Int) (us:List T) (h:AH) (σ:AS),4*ydU us+2<=n->okL us->l.length+ydU us<=60->PR h X d o s b l t es bx σ ->
 ∃ h',yZ n [.loc d,.lst (ybA us)] h=some (enV (evL bx us σ).1,h')/\PR h' X d o s b l t es bx (evL bx us σ).2/\Frm X h h'/\EnN (evL bx us σ).1
noncomputable def yCU (n:Nat):Prop:=∀ (X:Nat->Prop) (d o s b t:Nat) (l:List Nat) (es:List (List Key×List PV)) (bx:List Int) (u:T) (h:AH) (σ:AS),4*ypX u+1<=n->okT u->l.length+ypX u<=60->PR h X d o s b l t es bx σ ->
 ∃ h',yba n [.loc d,yfB u] h=some (enV (evT bx u σ).1,h')/\PR h' X d o s b l t es bx (evT bx u σ).2/\Frm X h h'/\EnN (evT bx u σ).1
theorem ymK {n:Nat}(G:yCU n):ywi (n+1):=by
 intro X d o s b t l es bx us h σ hd hu hl R
 have key:∀ (ds:List PV) (us:List T) (h:AH) (σ:AS) (c2 c3:PVar),4*ydU us+1<=n->okL us->l.length+ydU us<=60->PR h X d o s b l t es bx σ->∃ h',
   ob (yph (yJ 2) (yB (yes (yK 1 "part_end" (yba n) (yh 0) (yd (yh 2) (yu))) (yJ 3)) (ydH (yU (xOp (yCF) (yh 3) (xC (.tup [.str "done"])))) (ycN (yh 3)) (ybQ))) (ybA us) [.val (.loc d),.val (.lst ds),c2,c3] h)
    (fun o h1=>ob (sqK (ycN (xC (.tup [.str "done"]))) o h1) fnK)=some (enV (evL bx us σ).1,h')/\PR h' X d o s b l t es bx (evL bx us σ).2/\Frm X h h'/\EnN (evL bx us σ).1:=by
  intro ds us
  induction us with
  | nil =>
   intro h σ c2 c3 _ _ _ R
   exact ⟨h,rfl,R,Frm.refl,trivial⟩
  | cons u us ih =>
   intro h σ c2 c3 hd hu hl R
   have hd:4*max (ypX u) (ydU us)+1<=n:=hd
   have hl:l.length+max (ypX u) (ydU us)<=60:=hl
   obtain ⟨h1,e1,R1,F1,E1⟩:=G X d o s b t l es bx u h σ (by omega) hu.1 (by omega) R
   obtain ⟨hl0,eo⟩:=R.ob
   show ∃ h',ob (yph _ _ (yfB u::ybA us) _ h) _=some (enV (match evT bx u σ with|(.done,τ)=>evL bx us τ|(.waits,τ)=>(.waits,τ)|(.fell nm v,τ)=>(.fell nm v,τ)).1,h')/\PR h' X d o s b l t es bx (match evT bx u σ with|(.done,τ)=>evL bx us τ|(.waits,τ)=>(.waits,τ)|(.fell nm v,τ)=>(.fell nm v,τ)).2/\Frm X h h'/\EnN (match evT bx u σ with|(.done,τ)=>evL bx us τ|(.waits,τ)=>(.waits,τ)|(.fell nm v,τ)=>(.fell nm v,τ)).1
   rw [yyl,show yJ 2 (yfB u) [.val (.loc d),.val (.lst ds),c2,c3]=some [.val (.loc d),.val (.lst ds),.val (yfB u),c3] from rfl,Option.bind_some,yjc,ylR,yjS (h2:=h) (ys:=[yfB u]) eo rfl (by decide +kernel) rfl,e1,yw]
   generalize evT bx u σ=r at *
   obtain ⟨e,τ⟩:=r
   rw [show yJ 3 (enV e) [.val (.loc d),.val (.lst ds),.val (yfB u),c3]=some [.val (.loc d),.val (.lst ds),.val (yfB u),.val (enV e)] from rfl,Option.bind_some,yw,ylQ]
   walk_at "pi"
   rw [ywT]
   cases e with
   | done =>
    obtain ⟨h2,e2,R2,F2,E2⟩:=ih h1 τ (.val (yfB u)) (.val (enV .done)) (by omega) hu.2 (by omega) R1
    exact ⟨h2,e2,R2,F1.trans F2,E2⟩
   | waits=>exact ⟨h1,rfl,R1,F1,trivial⟩
   | fell nm v=>exact ⟨h1,rfl,R1,F1,E1⟩
 obtain ⟨h',e,R',F,E'⟩:=key (ybA us) us h σ .no .no (by omega) hu hl R
 refine ⟨h',?_,R',F,E'⟩
 unfold yZ
 rw [yD]
 show ob (yB _ _ [.val (.loc d),.val (.lst (ybA us)),.no,.no] h) fnK=_
 rw [yjc,ypj,show xIL (yh 1) [.val (.loc d),.val (.lst (ybA us)),.no,.no] h=some (ybA us,h) from rfl,yw,ynX]
 exact e
end
section
variable {h:AH}{X:Nat->Prop}{d hl o s b t:Nat}{l:List Nat}{es:List (List Key×List PV)}{bx hs:List Int}{top:List Key×List PV}{sj sv:List Int}{σ:AS}
theorem DG.ext {x:Nd}(D:DG h X d hl o s b l t es bx hs top sj sv):DG (h++[x]) X d hl o s b l t es bx hs top sj sv :=
 { D with
  ob:=ydA D.ob
  hh:=ydA D.hh
  g:=⟨ydA D.g.ob,ydA D.g.st,ydA D.g.sn,D.g.dl.mono fun _ _ _ e=>ydA e⟩
  st:=D.st.mono fun _ _ _ e=>ydA e
  tp:=ydA D.tp
  xl:=fun n hn=>by rw [List.length_append];exact Nat.lt_add_right _ (D.xl n hn) }
theorem DG.begin {B:Nat}{nb:Nd}(D:DG h X d hl o s b l t es bx hs top sj sv) (hB:h[B]?=some nb) (nB:B∉d::hl::o::s::b::(l++[t])) :
  DG ((h++[Nd.dct [] []]).set s (.lst ((l++[t]++[h.length]).map .loc))) (fun n=>X n\/n=B) d hl o s b (l++[t]) h.length (es++[top]) bx hs ([],[]) sj sv:=by
 obtain ⟨n1,n2,n3,n4,n5,n6,n7,n8,n9,n10,n11,n12,n13,n14,n15,n16⟩:=D.nx
 have new:∀ {i y},h[i]?=some y->i≠h.length:=fun e=>Nat.ne_of_lt (ykU e)
 have lm:∀ x∈l++[t],x≠h.length:=fun x hx=>Nat.ne_of_lt (D.g.dl.lt x hx)
 have up:∀ {x y},x≠s->h[x]?=some y->((h++[Nd.dct [] []]).set s (.lst ((l++[t]++[h.length]).map .loc)))[x]?=some y:=fun hx e=>yA hx (ydA e)
 have st':Stk ((h++[Nd.dct [] []]).set s (.lst ((l++[t]++[h.length]).map .loc))) (l++[t]) (es++[top]):=D.g.dl.mono fun x hx y e=>up (fun z=>n14 (z ▸ hx)) e
 have tp':((h++[Nd.dct [] []]).set s (.lst ((l++[t]++[h.length]).map .loc)))[h.length]?=some (.dct [] []):=yA (Ne.symm (new D.g.st)) (by simp)
 refine ⟨up n3 D.ob,up n7 D.hh,⟨up n10 D.g.ob,set_same (ydA D.g.st),up (Ne.symm n13) D.g.sn,st'.app ⟨tp',trivial⟩⟩,st',tp',?_,?_,isID.nil,fun e he=>?_,D.idS,D.h8,D.b1,D.b16,fun n hn=>?_⟩
 .have nd:=D.nd
  have q:∀ x∈d::hl::o::s::b::(l++[t]),x≠h.length:=fun x hx=>by
   simp only [List.mem_cons] at hx
   rcases hx with rfl|rfl|rfl|rfl|rfl|hx
   .exact new D.ob
   .exact new D.hh
   .exact new D.g.ob
   .exact new D.g.st
   .exact new D.g.sn
   .exact lm x hx
  rw [show d::hl::o::s::b::(l++[t]++[h.length])=(d::hl::o::s::b::(l++[t]))++[h.length] by simp,List.nodup_append]
  exact ⟨nd,by simp,fun x hx y hy=>by rw [List.mem_singleton.mp hy];exact q x hx⟩
 .intro x hx
  rw [show d::hl::o::s::b::(l++[t]++[h.length])=(d::hl::o::s::b::(l++[t]))++[h.length] by simp] at hx
  rcases List.mem_append.mp hx with hx|hx
  .rintro (z|z)
   .exact D.ge x hx z
   .exact nB (z ▸ hx)
  .rw [List.mem_singleton.mp hx]
   rintro (z|z)
   .exact Nat.lt_irrefl _ (D.xl _ z)
   .exact new hB z.symm
 .rcases List.mem_append.mp he with he|he
  .exact D.idE e he
  .rw [List.mem_singleton.mp he];exact D.idT
 .rw [List.length_set,List.length_append]
  rcases hn with hn|hn
  .exact Nat.lt_add_right _ (D.xl n hn)
  .rw [hn];exact Nat.lt_add_right _ (ykU hB)
theorem DG.drop {Y:Nat->Prop}{t':Nat}{inn:List Key×List PV}(D:DG h Y d hl o s b (l++[t]) t' (es++[top]) bx hs inn sj sv) (hX:∀ n,X n->Y n):DG (h.set s (.lst ((l++[t]).map .loc))) X d hl o s b l t es bx hs top sj sv:=by
 obtain ⟨n1,n2,n3,n4,n5,n6,n7,n8,n9,n10,n11,n12,n13,n14,n15,n16⟩:=D.nx
 have m:∀ x∈l++[t],x∈l++[t]++[t']:=fun x hx=>List.mem_append_left _ hx
 have up:∀ {x y},x≠s->h[x]?=some y->(h.set s (.lst ((l++[t]).map .loc)))[x]?=some y:=fun hx e=>yA hx e
 obtain ⟨fs,f,ef,s1,s2⟩:=D.st.split
 obtain ⟨e1,e2⟩:=List.append_inj' ef rfl
 cases e2
 subst e1
 have st':Stk (h.set s (.lst ((l++[t]).map .loc))) (l++[t]) (es++[top]):=D.st.mono fun x hx y e=>up (fun z=>n14 (z ▸ m x hx)) e
 refine ⟨up n3 D.ob,up n7 D.hh,⟨up n10 D.g.ob,set_same D.g.st,up (Ne.symm n13) D.g.sn,st'⟩,s1.mono fun x hx y e=>up (fun z=>n14 (m _ (by rw [<- z];exact List.mem_append_left _ hx))) e,up (fun z=>n14 (m _ (by rw [<- z];simp))) s2,?_,fun x hx z=>?_,D.idE top (by simp),fun e he=>D.idE e (List.mem_append_left _ he),D.idS,D.h8,D.b1,D.b16,fun n hn=>by rw [List.length_set];exact D.xl n (hX n hn)⟩
 .have nd:=D.nd
  rw [show d::hl::o::s::b::(l++[t]++[t'])=(d::hl::o::s::b::(l++[t]))++[t'] by simp] at nd
  exact (List.nodup_append.mp nd).1
 .refine D.ge x ?_ (hX x z)
  rw [show d::hl::o::s::b::(l++[t]++[t'])=(d::hl::o::s::b::(l++[t]))++[t'] by simp]
  exact List.mem_append_left _ hx
end
section
variable {h:AH}{X:Nat->Prop}{d hl o s b t:Nat}{l:List Nat}{es:List (List Key×List PV)}{bx hs:List Int}{top:List Key×List PV}{sj sv:List Int}{σ:AS}
theorem DG.reheld {B:Nat}{hs':List Int}(D:DG h X d hl o s b l t es bx hs top sj sv) (hB:h[B]?=some (.lst (hs'.map .int))) (h8:hs'.length=8) (nB:B∉d::o::s::b::(l++[t])) (xB:¬ X B) :
  DG (h.set d (.ins 1 ["held","width","log","found"] [.loc B,.int bx.length,.loc o,.lst (bx.map .int)])) X d B o s b l t es bx hs' top sj sv:=by
 obtain ⟨n1,n2,n3,n4,n5,n6,n7,n8,n9,n10,n11,n12,n13,n14,n15,n16⟩:=D.nx
 simp only [List.mem_cons,not_or] at nB
 obtain ⟨m1,m2,m3,m4,m5⟩:=nB
 have ne:∀ x∈l++[t],x≠d:=fun x hx z=>n5 (z ▸ hx)
 refine ⟨set_same D.ob,yA m1 hB,⟨yA (Ne.symm n2) D.g.ob,yA (Ne.symm n3) D.g.st,yA (Ne.symm n4) D.g.sn,D.g.dl.mono fun x hx y e=>yA (ne x hx) e⟩,D.st.mono fun x hx y e=>yA (ne x (List.mem_append_left _ hx)) e,yA (ne t (by simp)) D.tp,?_,fun x hx=>?_,D.idT,D.idE,D.idS,h8,D.b1,D.b16,fun n hn=>by rw [List.length_set];exact D.xl n hn⟩
 .simp only [List.nodup_cons,List.mem_cons,not_or]
  exact ⟨⟨Ne.symm m1,n2,n3,n4,n5⟩,⟨m2,m3,m4,m5⟩,⟨n10,n11,n12⟩,⟨n13,n14⟩,n15,n16⟩
 .simp only [List.mem_cons] at hx
  rcases hx with rfl|rfl|rfl|rfl|rfl|hx
  .exact D.ge _ (by simp)
  .exact xB
  .exact D.ge _ (by simp)
  .exact D.ge _ (by simp)
  .exact D.ge _ (by simp)
  .exact D.ge x (by simp only [List.mem_cons];simp [hx])
noncomputable def yKl (σ:AS):En×AS->AS
 | (.done,τ)=>τ
 | (.waits,τ)=>⟨σ.hs,σ.v,τ.s⟩
 | (.fell _ _,τ)=>⟨σ.hs,σ.v,τ.s⟩
theorem yzl {a b c:Option Int}:orV (orV a b) c=orV a (orV b c):=by cases a<;>rfl
theorem yHM {n:Nat}(G:ywi n) {us:List T}(hd:4*ydU us+2<=n) (hu:okL us) (hl':l.length+1+ydU us<=60) (R:PR h X d o s b l t es bx σ) :
  ∃ h',yck (n+1) [.loc d,.lst (ybA us)] h=some (enV (evL bx us σ).1,h')/\PR h' X d o s b l t es bx (yKl σ (evL bx us σ))/\Frm X h h'/\EnN (evL bx us σ).1:=by
 obtain ⟨⟨hl,top,sj,sv,D,hv,hs⟩,nh,nv,nb⟩:=R
 have gs:¬ X s:=D.ge s (by simp)
 have gt:¬ X t:=D.ge t (by simp)
 have gd:¬ X d:=D.ge d (by simp)
 have D0:=D.ext (x:=.lst (σ.hs.map .int))
 have hB:(h++[Nd.lst (σ.hs.map .int)])[h.length]?=some (.lst (σ.hs.map .int)):=by simp
 have nB:h.length∉d::hl::o::s::b::(l++[t]):=fun z=>by
  simp only [List.mem_cons] at z
  rcases z with z|z|z|z|z|z
  .exact absurd (ykU D.ob) (by omega)
  .exact absurd (ykU D.hh) (by omega)
  .exact absurd (ykU D.g.ob) (by omega)
  .exact absurd (ykU D.g.st) (by omega)
  .exact absurd (ykU D.g.sn) (by omega)
  .exact absurd (D.g.dl.lt _ z) (by omega)
 have xB:¬ X h.length:=fun z=>Nat.lt_irrefl _ (D.xl _ z)
 have D1:=D0.begin hB nB
 have ll:(l++[t]).length<1000:=by simp;omega
 have be:=yBy D0.g ll
 have F1:Frm X h (((h++[Nd.lst (σ.hs.map .int)])++[Nd.dct [] []]).set s (.lst ((l++[t]++[(h++[Nd.lst (σ.hs.map .int)]).length]).map .loc))):=((Frm.refl.app).app).set gs
 have hB1:(((h++[Nd.lst (σ.hs.map .int)])++[Nd.dct [] []]).set s (.lst ((l++[t]++[(h++[Nd.lst (σ.hs.map .int)]).length]).map .loc)))[h.length]?=some (.lst (σ.hs.map .int)):=yA (fun z=>nB (by rw [z];simp)) (ydA hB)
 generalize ((h++[Nd.lst (σ.hs.map .int)])++[Nd.dct [] []]).set s (.lst ((l++[t]++[(h++[Nd.lst (σ.hs.map .int)]).length]).map .loc))=h1 at *
 generalize (h++[Nd.lst (σ.hs.map .int)]).length=t' at *
 have R1:PR h1 (fun n=>X n\/n=h.length) d o s b (l++[t]) t' (es++[top]) bx σ:=⟨⟨hl,([],[]),sj,sv,D1,fun j=>by rw [yHg,yzi];exact hv j,hs⟩,nh,nv,nb⟩
 obtain ⟨h2,e2,R2,F2,E2⟩:=G _ d o s b t' (l++[t]) (es++[top]) bx us h1 σ hd hu (by simp;omega) R1
 have hB2:h2[h.length]?=some (.lst (σ.hs.map .int)):=F2.get (.inr rfl) hB1
 have F12:Frm X h h2:=F1.trans (F2.imp fun n hn=>.inl hn)
 generalize hev:evL bx us σ=r at *
 obtain ⟨e,τ⟩:=r
 obtain ⟨⟨hl2,inn,sj2,sv2,D2,hv2,hs2⟩,nh2,nv2,_⟩:=R2
 obtain ⟨n1,n2,n3,n4,n5,n6,n7,n8,n9,n10,n11,n12,n13,n14,n15,n16⟩:=D2.nx
 have D3:=D2.drop (X:=X) fun n hn=>.inl hn
 unfold yck
 rw [yD]
 show ∃ h',ob (yB _ _ [.val (.loc d),.val (.lst (ybA us)),.no,.no] h) fnK=_/\_
 walk_at "pi"
 rw [ywg D.ob,yw,yjG D.hh]
 walk_at "pi"
 rw [yhW (h:=h++[Nd.lst (σ.hs.map .int)]) D0.g.ob (by
  walk_at "pi"
  rw [ypm D0.ob]) (by decide +kernel) rfl,be,yw]
 rw [yjS (h2:=h1) (ys:=[.lst (ybA us)]) D1.ob rfl (by decide +kernel) rfl,e2,yw,ypZ,yw]
 have stop:∀ (τ':AS),τ'=⟨σ.hs,σ.v,τ.s⟩->∃ h',(ob (yK 0 "drop" ygP (yfM [1] "log" (yh 0)) yu [.val (.loc d),.val (.lst (ybA us)),.val (.loc h.length),.val (enV e)] h2) fun x k=>ob (yyB [1] "held" (yh 0) (yh 2) [.val (.loc d),.val (.lst (ybA us)),.val (.loc h.length),.val (enV e)] k) fun x k=>ob (sqK (ycN (yh 3)) x k) fnK)=some (enV e,h')/\PR h' X d o s b l t es bx τ'/\Frm X h h':=by
  rintro τ' rfl
  have D4:=D3.reheld (hs':=σ.hs) (yA (fun z=>nB (by rw [z];simp)) hB2) D.h8 (fun z=>nB (by
   simp only [List.mem_cons] at z ⊢
   rcases z with z|z|z|z|z<;>simp [z])) xB
  refine ⟨_,?_,⟨⟨h.length,top,sj2,sv2,D4,hv,hs2⟩,nh,nv,nb⟩,?_⟩
  .rw [yhW (h:=h2) D2.g.ob (by
    walk_at "pi"
    rw [ypm D2.ob]) (by decide +kernel) rfl,yET D2.g,yw]
   unfold yyB
   show ob (ob (some (PV.loc h.length,_)) _) _=_
   rw [yw]
   show ob (ob (some (PV.loc d,_)) _) _=_
   rw [yw]
   simp only [D3.ob]
   rw [if_pos (by decide +kernel),show putN "held" (PV.loc h.length) ["held","width","log","found"] [PV.loc hl2,.int bx.length,.loc o,.lst (bx.map .int)]=(((["held","width","log","found"]:List Str)),[PV.loc h.length,.int bx.length,.loc o,.lst (bx.map .int)]) from by unfold putN;rw [if_pos (by decide +kernel)];rfl,yw,ylQ]
   rfl
  .exact (F12.set gs).set gd
 cases e with
 | done =>
  obtain ⟨ij,iv,rfl,iID⟩:=D2.idT
  have tID:isID top:=D.idT
  have hl1:=tID.len
  have hl2':=iID.le
  have ut:t≠t':=(List.nodup_append.mp n16).2.2 t (by simp) t' (by simp)
  have us_:t≠s:=fun z=>n14 (by rw [<- z];simp)
  have ts_:t'≠s:=fun z=>n14 (by rw [<- z];simp)
  obtain ⟨fs,f,ef,s1,s2⟩:=D2.st.split
  obtain ⟨q1,q2⟩:=List.append_inj' ef rfl
  cases q2
  subst q1
  have hM:isID (yta (ij.map .inl) (iv.map PV.int) top.1 top.2):=isID.mrg ij iv tID iID.rg
  have D4:=D3.write hM
  refine ⟨_,?_,⟨⟨hl2,_,sj2,sv2,D4,fun j=>?_,hs2⟩,nh2,nv2,nb⟩,(F12.set gs).set gt,E2⟩
  .show ob (oB (.bl true) h2) _=_
   walk_at "pi"
   rw [yhW (h:=h2) D2.g.ob (by
    walk_at "pi"
    rw [ypm D2.ob]) (by decide +kernel) rfl,yzd D2.g n10 us_ ts_ ut s2 D2.tp (by rw [List.length_map];omega),yw]
  .rw [yCS ij iv tID iID.rg iID.nd iID.ln,yzl]
   have:=hv2 j
   rw [yzi] at this
   exact this
 | waits =>
  obtain ⟨h',q1,q2,q3⟩:=stop _ rfl
  refine ⟨h',?_,q2,q3,E2⟩
  show ob (oB (.bl false) h2) _=_
  walk_at "pi"
  exact q1
 | fell nm v =>
  obtain ⟨h',q1,q2,q3⟩:=stop _ rfl
  refine ⟨h',?_,q2,q3,E2⟩
  show ob (oB (.bl false) h2) _=_
  walk_at "pi"
  exact q1
theorem yFi {n:Nat}(G:∀ m,m<=n->ywi m):yCU (n+2):=by
 intro X d o s b t l es bx u h σ hd hu hl R
 obtain ⟨hl0,eo⟩:=R.ob
 obtain ⟨hlR,topR,sjR,svR,DR,hvR,hsR⟩:=R.ex
 have pp:∀ {P:AH->Prop}{Q:AH->Prop}{S:AH->Prop},(∃ h',P h'/\Q h'/\S h')->∃ h',P h'/\Q h'/\S h'/\True:=fun ⟨h',p,q,r⟩=>⟨h',p,q,r,trivial⟩
 cases u with
 | let_ r n=>exact pp (yeV (u:=.let_ r n) trivial hu R)
 | reckon w r p q=>exact pp (yeV (u:=.reckon w r p q) trivial hu R)
 | take r p=>exact pp (yeV (u:=.take r p) trivial hu R)
 | put p q=>exact pp (yeV (u:=.put p q) trivial hu R)
 | wait =>
  refine ⟨h,?_,R,Frm.refl,trivial⟩
  unfold yba
  rw [yD]
  show ob (yB _ _ [.val (.loc d),.val (.ins 11 [] [])] h) fnK=_
  walk_at "pi"
  rfl
 | throw nm r=>exact hu.1.elim
 | if_ r x y =>
  have hd:4*(1+max (ydU x) (ydU y))+1<=n+2:=hd
  have hl:l.length+(1+max (ydU x) (ydU y))<=60:=hl
  obtain ⟨k1,k2,k3⟩:=hu
  obtain ⟨m,rfl⟩:∃ m,n=m+1:=⟨n-1,by omega⟩
  have key:∃ h',yfN (m+2) [.loc d,yfB (.if_ r x y)] h=some (enV (evT bx (.if_ r x y) σ).1,h')/\PR h' X d o s b l t es bx (evT bx (.if_ r x y) σ).2/\Frm X h h'/\EnN (evT bx (.if_ r x y) σ).1:=by
   unfold yfN
   rw [yD]
   show ∃ h',ob (yB _ _ [.val (.loc d),.val (.ins 7 ["slot","parts","others"] [.str r,.lst (ybA x),.lst (ybA y)])] h) fnK=some (enV (if σ.at_ r≠0 then evL bx x σ else evL bx y σ).1,h')/\PR h' X d o s b l t es bx (if σ.at_ r≠0 then evL bx x σ else evL bx y σ).2/\_/\EnN (if σ.at_ r≠0 then evL bx x σ else evL bx y σ).1
   walk_at "pi"
   rw [yjS (h2:=h) (ys:=[.str r]) eo rfl (by decide +kernel) (by walk_at "pi"),yie DR k1,yw]
   walk_at "pi"
   by_cases hz:σ.hs.getD (sx r) 0=0
   .obtain ⟨h',e,R',F,E'⟩:=G (m+1) (Nat.le_refl _) X d o s b t l es bx y h σ (by omega) k3 (by omega) R
    rw [if_neg (show ¬ σ.at_ r≠0 from fun z=>z hz)]
    refine ⟨h',?_,R',F,E'⟩
    rw [if_neg (fun z=>z hz),yjS (h2:=h) (ys:=[.lst (ybA y)]) eo rfl (by decide +kernel) (by walk_at "pi"),e,yw]
   .obtain ⟨h',e,R',F,E'⟩:=G (m+1) (Nat.le_refl _) X d o s b t l es bx x h σ (by omega) k2 (by omega) R
    rw [if_pos (show σ.at_ r≠0 from hz)]
    refine ⟨h',?_,R',F,E'⟩
    rw [if_pos hz,yjS (h2:=h) (ys:=[.lst (ybA x)]) eo rfl (by decide +kernel) (by walk_at "pi"),e,yw]
  obtain ⟨h',e,R',F,E'⟩:=key
  refine ⟨h',?_,R',F,E'⟩
  unfold yba
  rw [yD]
  show ob (yB _ _ [.val (.loc d),.val (.ins 7 ["slot","parts","others"] [.str r,.lst (ybA x),.lst (ybA y)])] h) fnK=_
  walk_at "pi"
  rw [yjS (h2:=h) (ys:=[yfB (.if_ r x y)]) eo rfl (by decide +kernel) rfl,e,yw]
 | either x y =>
  have hd:4*(1+max (ydU x) (ydU y))+1<=n+2:=hd
  have hl:l.length+(1+max (ydU x) (ydU y))<=60:=hl
  obtain ⟨-,k2,k3⟩:=hu
  obtain ⟨m,rfl⟩:∃ m,n=m+1:=⟨n-1,by omega⟩
  obtain ⟨h1,e1,R1,F1,E1⟩:=yHM (G m (by omega)) (us:=x) (by omega) k2 (by omega) R
  obtain ⟨hl1,eo1⟩:=R1.ob
  have key:∃ h',ydC (m+2) [.loc d,yfB (.either x y)] h=some (enV (evT bx (.either x y) σ).1,h')/\PR h' X d o s b l t es bx (evT bx (.either x y) σ).2/\Frm X h h'/\EnN (evT bx (.either x y) σ).1:=by
   unfold ydC
   rw [yD]
   show ∃ h',ob (yB _ _ [.val (.loc d),.val (.ins 8 ["parts","others"] [.lst (ybA x),.lst (ybA y)]),.no] h) fnK=some (enV (match evL bx x σ with|(.waits,τ)=>evL bx y ⟨σ.hs,σ.v,τ.s⟩|(.fell nm v,τ)=>(.fell nm v,⟨σ.hs,σ.v,τ.s⟩)|(.done,τ)=>(.done,τ)).1,h')/\PR h' X d o s b l t es bx (match evL bx x σ with|(.waits,τ)=>evL bx y ⟨σ.hs,σ.v,τ.s⟩|(.fell nm v,τ)=>(.fell nm v,⟨σ.hs,σ.v,τ.s⟩)|(.done,τ)=>(.done,τ)).2/\_/\EnN (match evL bx x σ with|(.waits,τ)=>evL bx y ⟨σ.hs,σ.v,τ.s⟩|(.fell nm v,τ)=>(.fell nm v,⟨σ.hs,σ.v,τ.s⟩)|(.done,τ)=>(.done,τ)).1
   walk_at "pi"
   rw [yjS (h2:=h) (ys:=[.lst (ybA x)]) eo rfl (by decide +kernel) (by walk_at "pi"),e1,yw]
   generalize evL bx x σ=r at *
   obtain ⟨e,τ⟩:=r
   rw [yuT,yw]
   cases e with
   | waits =>
    obtain ⟨h',e',R',F',E'⟩:=G (m+1) (Nat.le_refl _) X d o s b t l es bx y h1 ⟨σ.hs,σ.v,τ.s⟩ (by omega) k3 (by omega) R1
    refine ⟨h',?_,R',F1.trans F',E'⟩
    show ob (oB (.bl true) h1) _=_
    walk_at "pi"
    rw [yjS (h2:=h1) (ys:=[.lst (ybA y)]) eo1 rfl (by decide +kernel) (by walk_at "pi"),e',yw]
   | done =>
    refine ⟨h1,?_,R1,F1,trivial⟩
    show ob (oB (.bl false) h1) _=_
    walk_at "pi"
   | fell nm v =>
    refine ⟨h1,?_,R1,F1,E1⟩
    show ob (oB (.bl false) h1) _=_
    walk_at "pi"
  obtain ⟨h',e,R',F,E'⟩:=key
  refine ⟨h',?_,R',F,E'⟩
  unfold yba
  rw [yD]
  show ob (yB _ _ [.val (.loc d),.val (.ins 8 ["parts","others"] [.lst (ybA x),.lst (ybA y)])] h) fnK=_
  walk_at "pi"
  rw [yjS (h2:=h) (ys:=[yfB (.either x y)]) eo rfl (by decide +kernel) rfl,e,yw]
 | try_ x nm r y=>exact hu.1.elim
theorem yzm:∀ n,ywi n
 | 0=>fun X d o s b t l es bx us h σ hd=>by omega
 | 1=>fun X d o s b t l es bx us h σ hd=>by omega
 | 2=>ymK (n:=1) (by
  intro X d o s b t l es bx u h σ hd hu hl R
  obtain ⟨hlR,topR,sjR,svR,DR,hvR,hsR⟩:=R.ex
  have pp:∀ {P:AH->Prop}{Q:AH->Prop}{S:AH->Prop},(∃ h',P h'/\Q h'/\S h')->∃ h',P h'/\Q h'/\S h'/\True:=fun ⟨h',p,q,r⟩=>⟨h',p,q,r,trivial⟩
  cases u with
  | let_ r n=>exact pp (yeV (n:=0) (u:=.let_ r n) trivial hu R)
  | reckon w r p q=>exact pp (yeV (n:=0) (u:=.reckon w r p q) trivial hu R)
  | take r p=>exact pp (yeV (n:=0) (u:=.take r p) trivial hu R)
  | put p q=>exact pp (yeV (n:=0) (u:=.put p q) trivial hu R)
  | wait =>
   refine ⟨h,?_,R,Frm.refl,trivial⟩
   unfold yba
   rw [yD]
   show ob (yB _ _ [.val (.loc d),.val (.ins 11 [] [])] h) fnK=_
   walk_at "pi"
   rfl
  | throw nm r=>exact hu.1.elim
  | if_ r x y=>exact absurd (show 4*(1+max (ydU x) (ydU y))+1<=1 from hd) (by omega)
  | either x y=>exact absurd (show 4*(1+max (ydU x) (ydU y))+1<=1 from hd) (by omega)
  | try_ x nm r y=>exact absurd (show 4*(1+max (ydU x) (ydU y))+1<=1 from hd) (by omega))
 | n+3=>ymK (yFi fun m hm=>yzm m)
end
section
variable {h:AH}
noncomputable def yjQ (f:Vw):List PV:=(iv16.filterMap fun i=>(f i).map fun v=>(i,PV.int v)).map fun p=>.tup [.int p.1,p.2]
theorem yuU {js vs:List Int}(d:ID js vs) {f:Vw}(hf:∀ j,gI (js.map .inl,vs.map PV.int) j=f j):yuQ js vs=yjQ f:=by
 unfold yuQ yjQ
 congr 2
 funext i
 unfold pk
 rw [(show isID (js.map .inl,vs.map PV.int) from ⟨js,vs,rfl,d⟩).get i,hf]
 cases f i<;>rfl
theorem yrh (f:Vw):Tl (yjQ f):=by
 refine ⟨?_,fun x hx=>?_⟩
 .unfold yjQ
  rw [List.length_map]
  have:=List.length_filterMap_le (fun i=>(f i).map fun v=>(i,PV.int v)) iv16
  have h:iv16.length=16:=rfl
  omega
 .unfold yjQ at hx
  obtain ⟨⟨i,y⟩,h1,rfl⟩:=List.mem_map.mp hx
  obtain ⟨a,_,h2⟩:=List.mem_filterMap.mp h1
  obtain ⟨z,h3,h4⟩:=Option.map_eq_some_iff.mp h2
  cases h4
  exact ⟨_,z,rfl⟩
theorem yzn {ρ:PSt}:ysS ρ h=some (.dct [] [],h):=id rfl
theorem yFj:yew [] h=some (.ins 0 ["stack","last_seen"] [.loc (h.length+1),.loc (h.length+2)],h++[Nd.dct [] []]++[Nd.lst [.loc h.length]]++[Nd.dct [] []]):=by
 unfold yew
 rw [yil]
 show ob (yB _ _ [.own (.ins 0 [] [])] h) inK=_
 walk_at "px"
 simp only [yzn,yw]
 simp
end
section
variable {h:AH}{X:Nat->Prop}{d o s b t:Nat}{l:List Nat}{es:List (List Key×List PV)}{bx hs:List Int}{σ:AS}
noncomputable def LV (h:AH) (x:PV) (xs:List PV):Prop:=∀ e:List Nd,ybU [x] (h++e)=some (.lst xs,h++e)/\yiW [x] (h++e)=some (.int xs.length,h++e)
theorem LV.lst {xs:List PV}:LV h (.lst xs) xs:=fun e=>⟨yhR,ykK⟩
theorem LV.at_ {x:PV}{xs:List PV}(v:LV h x xs):ybU [x] h=some (.lst xs,h)/\yiW [x] h=some (.int xs.length,h):=by have:=v [];rwa [List.append_nil] at this
local macro_rules | `(tactic| walk_at "pj")=>`(tactic| simp_all? only [yFj])
theorem yzo {y:PV}{w:Int}(v:LV h y (hs.map .int)):ydQ [y,.int w] h=some (.ins 1 ["held","width","log"] [.loc h.length,.int w,.loc (h.length+4)],
  h++[Nd.lst (hs.map .int),.dct [] [],.lst [.loc (h.length+1)],.dct [] [],.ins 0 ["stack","last_seen"] [.loc (h.length+2),.loc (h.length+3)]]):=by
 unfold ydQ
 rw [yil]
 show ob (yB _ _ [.own (.ins 1 [] []),.val y,.val (.int w)] h) inK=_
 walk_at "pj"
 rw [v.at_.1]
 walk_at "pj"
 simp
theorem ywU {x y:PV}(vx:LV h x (bx.map .int)) (vy:LV h y (hs.map .int)):ydw [x,y] h=some (.ins 1 ["held","width","log","found"] [.loc h.length,.int bx.length,.loc (h.length+4),.lst (bx.map .int)],
  h++[Nd.lst (hs.map .int),.dct [] [],.lst [.loc (h.length+1)],.dct [] [],.ins 0 ["stack","last_seen"] [.loc (h.length+2),.loc (h.length+3)]]):=by
 unfold ydw
 rw [yil]
 show ob (yB _ _ [.own (.ins 1 [] []),.val x,.val y] h) inK=_
 rw [yjc,yKi rfl]
 walk_at "pj"
 rw [vx.at_.2,yw,yzo vy,yw,List.length_map]
 walk_at "pj"
 rw [(vx _).1]
 walk_at "pj"
theorem yBF (h8:hs.length=8) (b1:1<=bx.length) (b16:bx.length<=16) (nh:∀ v∈hs,N64 v) (nb:∀ v∈bx,N64 v) :
  PR (h++[Nd.lst (hs.map .int),.dct [] [],.lst [.loc (h.length+1)],.dct [] [],.ins 0 ["stack","last_seen"] [.loc (h.length+2),.loc (h.length+3)]]++[.ins 1 ["held","width","log","found"] [.loc h.length,.int bx.length,.loc (h.length+4),.lst (bx.map .int)]])
   (· < h.length) (h.length+5) (h.length+4) (h.length+2) (h.length+3) [] (h.length+1) [] bx ⟨hs,fun _=>none,fun _=>none⟩:=by
 have gx:∀ (X:List Nd) (k:Nat),(h++X)[h.length+k]?=X[k]?:=fun X k=>by rw [List.getElem?_append_right (Nat.le_add_right _ _),Nat.add_sub_cancel_left]
 rw [List.append_assoc]
 refine ⟨⟨h.length,([],[]),[],[],⟨gx _ 5,gx _ 0,⟨gx _ 4,gx _ 2,gx _ 3,⟨gx _ 1,trivial⟩⟩,trivial,gx _ 1,by simp,by simp,isID.nil,by simp,⟨by simp,by simp,rfl⟩,h8,b1,b16,fun n hn=>by simp only [List.length_append];omega⟩,fun j=>rfl,fun j=>rfl⟩,nh,(fun j v e=>nomatch e),nb⟩
theorem yBG {l:Nat}{r:List Nat}{ds:List (List Key×List PV)}{ks:List Key}{xs:List PV}{js vs:List Int}(g:LG h o s b (l::r) ds ks xs) (e:h[l]?=some (.dct (js.map .inl) (vs.map PV.int))) (d:ID js vs):ygV [.loc o] h=some (.loc h.length,h++[.lst (yuQ js vs)]):=by
 have ix:yiU (.loc s) (.int 0) h=some (.loc l,h):=by
  unfold yiU
  simp only [g.st]
  have:atI ((l::r).map PV.loc) 0=some (.loc l):=yeJ (j:=0) rfl
  rw [this]
 unfold ygV
 rw [yD,yjc,ylR,yyk,yje,show yh 0 ([PV.loc o].map .val++List.replicate (2-[PV.loc o].length) .no) h=some (.loc o,h) from rfl,yw,ykn g.ob,yw]
 show ob (ob (ob (yiU (.loc s) (.int 0) h) _) _) _=_
 rw [ix,yw]
 show ob (ycN (ymp (yoe (yh 1))) [.val (.loc o),.val (.loc l)] h) fnK=_
 rw [yng,ypi]
 unfold yoe
 show ob (ob (ob (ob (some (PV.loc l,h)) _) _) _) _=_
 rw [yw]
 unfold ynh
 have:=d.le
 simp only [e,ywf d (by omega)]
 rfl
noncomputable def wrE:En->AS->List PV
 | .done,τ=>yjQ τ.v
 | _,_=>[]
noncomputable def hsE:En->AS->List Int->List Int
 | .done,τ,_=>τ.hs
 | _,_,hs=>hs
structure Res (h h2:AH) (r:PV) (e:En) (τ:AS) (hs:List Int):Prop where
 ex:∃ a,r=.tup [enV e,.loc a,.loc (a+1),.loc (a+2)]/\h.length<=a/\h2[a]?=some (.lst (yjQ τ.s))/\h2[a+1]?=some (.lst (wrE e τ))/\h2[a+2]?=some (.lst ((hsE e τ hs).map .int))
 fr:Frm (· < h.length) h h2
 h8:(hsE e τ hs).length=8
theorem yzp {us:List T}{x y:PV}(hu:okL us) (hd:ydU us<=4) (vx:LV h x (bx.map .int)) (vy:LV h y (hs.map .int)) (vy2:∀ h2:AH,Frm (· < h.length) h h2->ybU [y] h2=some (.lst (hs.map .int),h2)) (h8:hs.length=8) (b1:1<=bx.length) (b16:bx.length<=16) (nh:∀ v∈hs,N64 v) (nb:∀ v∈bx,N64 v) :
  ∃ h2 r,yop [.lst (ybA us),x,y] h=some (r,h2)/\Res h h2 r (evL bx us ⟨hs,fun _=>none,fun _=>none⟩).1 (evL bx us ⟨hs,fun _=>none,fun _=>none⟩).2 hs:=by
 have R0:=yBF (h:=h) h8 b1 b16 nh nb
 obtain ⟨h2,e,R,F,_⟩:=yzm 20 _ _ _ _ _ _ _ _ _ us _ _ (by omega) hu (by simp;omega) R0
 obtain ⟨hl0,eo0⟩:=R0.ob
 have FF:Frm (· < h.length) h h2:=by
  refine ⟨Nat.le_trans (by simp) F.1,fun n hn hx=>(F.2 n (by simp only [List.length_append];omega) hx).trans ?_⟩
  rw [List.append_assoc,List.getElem?_append_left hn]
 unfold yop
 rw [yD]
 show ∃ h2 r,ob (yB _ _ [.val (.lst (ybA us)),.val x,.val y,.no,.no] h) fnK=_/\_
 walk_at "pj"
 rw [ywU vx vy,yw]
 rw [show (h++[Nd.lst (hs.map .int),.dct [] [],.lst [.loc (h.length+1)],.dct [] [],.ins 0 ["stack","last_seen"] [.loc (h.length+2),.loc (h.length+3)]]).length=h.length+5 by simp]
 rw [yjS eo0 rfl (by decide +kernel) rfl,e,yw,ypZ,yw]
 generalize evL bx us ⟨hs,fun _=>none,fun _=>none⟩=q at *
 obtain ⟨en,τ⟩:=q
 obtain ⟨⟨hl,top,sj,sv,D,hv,hs'⟩,_⟩:=R
 obtain ⟨js,vs,rfl,hID⟩:=D.idT
 have sl:=D.idS.le
 have so:=ywf D.idS (by omega)
 rw [yuU D.idS hs'] at so
 have D1:=D.ext (x:=.lst (yjQ τ.s))
 have hlen:=FF.1
 have get:∀ (x1 x2 x3:Nd),(h2++[x1]++[x2]++[x3])[h2.length]?=some x1/\(h2++[x1]++[x2]++[x3])[h2.length+1]?=some x2/\(h2++[x1]++[x2]++[x3])[h2.length+2]?=some x3:=fun x1 x2 x3=>by
  refine ⟨?_,?_,?_⟩<;>simp
 have stop:en≠.done->∃ h3 r,(ob (yK 0 "saw" ygU (yfM [1] "log" (yh 3)) (yu) [.val (.lst (ybA us)),.val x,.val y,.val (.loc (h.length+5)),.val (enV en)] h2) fun x h=>ob (ybU [y] (h++[Nd.lst []])) fun x_1 h_1=>some (PV.tup [enV en,x,.loc h.length,.loc h_1.length],h_1++[x_1]))=some (r,h3)/\Res h h3 r en τ hs:=by
  intro ne
  refine ⟨_,_,?_,⟨⟨h2.length,rfl,FF.1,(get _ _ _).1,(get _ _ _).2.1,(get _ _ _).2.2⟩,FF.app.app.app,?_⟩⟩
  .rw [yhW (h:=h2) D.g.ob (by
    walk_at "pj"
    rw [ypm D.ob]) (by decide +kernel) rfl,yCR D.g so,yw]
   rw [vy2 _ FF.app.app,yw]
   have w1:wrE en τ=[]:=by cases en<;>first|rfl|exact absurd rfl ne
   have w2:hsE en τ hs=hs:=by cases en<;>first|rfl|exact absurd rfl ne
   rw [w1,w2]
   simp
  .have w2:hsE en τ hs=hs:=by cases en<;>first|rfl|exact absurd rfl ne
   rw [w2];exact h8
 cases en with
 | done =>
  refine ⟨_,_,?_,⟨⟨h2.length,rfl,FF.1,(get _ _ _).1,(get _ _ _).2.1,(get _ _ _).2.2⟩,FF.app.app.app,D.h8⟩⟩
  show ob (oB (.bl true) h2) _=_
  walk_at "pj"
  rw [yhW (h:=h2) D.g.ob (by
   walk_at "pj"
   rw [ypm D.ob]) (by decide +kernel) rfl,yCR D.g so,yw]
  rw [yhW D1.g.ob (by
   walk_at "pj"
   rw [ypm D1.ob]) (by decide +kernel) rfl,yBG D1.g D1.tp hID,yw]
  have e2:yuQ js vs=yjQ τ.v:=yuU hID fun j=>by
   rw [<- hv j]
   show _=orV _ none
   cases gI (js.map .inl,vs.map PV.int) j<;>rfl
  rw [e2]
  have D2:=D1.ext (x:=.lst (yjQ τ.v))
  rw [ywg D2.ob,yw,yjG D2.hh,yw]
  show _=some (PV.tup [enV .done,.loc h2.length,.loc (h2.length+1),.loc (h2.length+2)],h2++[Nd.lst (yjQ τ.s)]++[Nd.lst (yjQ τ.v)]++[Nd.lst (τ.hs.map .int)])
  simp
 | waits =>
  obtain ⟨h3,r,q1,q2⟩:=stop (by simp)
  refine ⟨h3,r,?_,q2⟩
  show ob (oB (.bl false) h2) _=_
  walk_at "pj"
  exact q1
 | fell nm v =>
  obtain ⟨h3,r,q1,q2⟩:=stop (by simp)
  refine ⟨h3,r,?_,q2⟩
  show ob (oB (.bl false) h2) _=_
  walk_at "pj"
  exact q1
end
theorem ykX:(("let":Str) = "reckon")=False:=eq_false (by decide +kernel)
theorem yor:(("let":Str) = "take")=False:=eq_false (by decide +kernel)
theorem yqa:(("let":Str) = "put")=False:=eq_false (by decide +kernel)
theorem ytm:(("let":Str) = "if")=False:=eq_false (by decide +kernel)
theorem ykY:(("let":Str) = "either")=False:=eq_false (by decide +kernel)
theorem yos:(("let":Str) = "wait")=False:=eq_false (by decide +kernel)
theorem ykZ:(("reckon":Str) = "let")=False:=eq_false (by decide +kernel)
theorem yjT:(("reckon":Str) = "take")=False:=eq_false (by decide +kernel)
theorem yla:(("reckon":Str) = "put")=False:=eq_false (by decide +kernel)
theorem ymL:(("reckon":Str) = "if")=False:=eq_false (by decide +kernel)
theorem yiN:(("reckon":Str) = "either")=False:=eq_false (by decide +kernel)
theorem yjU:(("reckon":Str) = "wait")=False:=eq_false (by decide +kernel)
theorem yot:(("take":Str) = "let")=False:=eq_false (by decide +kernel)
theorem yjV:(("take":Str) = "reckon")=False:=eq_false (by decide +kernel)
theorem you:(("take":Str) = "put")=False:=eq_false (by decide +kernel)
theorem yqb:(("take":Str) = "if")=False:=eq_false (by decide +kernel)
theorem yjW:(("take":Str) = "either")=False:=eq_false (by decide +kernel)
theorem ymM:(("take":Str) = "wait")=False:=eq_false (by decide +kernel)
theorem yqc:(("put":Str) = "let")=False:=eq_false (by decide +kernel)
theorem ylb:(("put":Str) = "reckon")=False:=eq_false (by decide +kernel)
theorem yov:(("put":Str) = "take")=False:=eq_false (by decide +kernel)
theorem ytn:(("put":Str) = "if")=False:=eq_false (by decide +kernel)
theorem ylc:(("put":Str) = "either")=False:=eq_false (by decide +kernel)
theorem yow:(("put":Str) = "wait")=False:=eq_false (by decide +kernel)
theorem yto:(("if":Str) = "let")=False:=eq_false (by decide +kernel)
theorem ymN:(("if":Str) = "reckon")=False:=eq_false (by decide +kernel)
theorem yqd:(("if":Str) = "take")=False:=eq_false (by decide +kernel)
theorem ytp:(("if":Str) = "put")=False:=eq_false (by decide +kernel)
theorem ymO:(("if":Str) = "either")=False:=eq_false (by decide +kernel)
theorem yqe:(("if":Str) = "wait")=False:=eq_false (by decide +kernel)
theorem yle:(("either":Str) = "let")=False:=eq_false (by decide +kernel)
theorem yiO:(("either":Str) = "reckon")=False:=eq_false (by decide +kernel)
theorem yjX:(("either":Str) = "take")=False:=eq_false (by decide +kernel)
theorem ylf:(("either":Str) = "put")=False:=eq_false (by decide +kernel)
theorem ymP:(("either":Str) = "if")=False:=eq_false (by decide +kernel)
theorem yjY:(("either":Str) = "wait")=False:=eq_false (by decide +kernel)
theorem yox:(("wait":Str) = "let")=False:=eq_false (by decide +kernel)
theorem yjZ:(("wait":Str) = "reckon")=False:=eq_false (by decide +kernel)
theorem ymQ:(("wait":Str) = "take")=False:=eq_false (by decide +kernel)
theorem yoy:(("wait":Str) = "put")=False:=eq_false (by decide +kernel)
theorem yqf:(("wait":Str) = "if")=False:=eq_false (by decide +kernel)
theorem yka:(("wait":Str) = "either")=False:=eq_false (by decide +kernel)
section
variable {h:AH}
mutual
noncomputable def ypn:T->PV
 | .let_ r n=>.tup [.str "let",.str r,.int n]
 | .reckon w r s t=>.tup [.str "reckon",.str w,.str r,.str s,.str t]
 | .take r s=>.tup [.str "take",.str r,.str s]
 | .put s t=>.tup [.str "put",.str s,.str t]
 | .if_ r a b=>.tup [.str "if",.str r,.lst (ycl a),.lst (ycl b)]
 | .either a b=>.tup [.str "either",.lst (ycl a),.lst (ycl b)]
 | .try_ a nm r b=>.tup [.str "try",.lst (ycl a),.str nm,.str r,.lst (ycl b)]
 | .throw nm r=>.tup [.str "throw",.str nm,.str r]
 | .wait=>.tup [.str "wait"]
noncomputable def ycl:List T->List PV
 | []=>[]
 | t::r=>ypn t::ycl r
end
theorem ylg:∀ ts:List T,ycl ts=ts.map ypn
 | []=>rfl
 | t::r=>by show ypn t::ycl r=_;rw [ylg r];rfl
theorem yFk {z:Str}:isStr (.str z) h=true:=rfl
theorem yHN {w:Str}{x y:Int}(hw:okW w) (hx:N64 x):yid [.str w,.int x,.int y] h=some (.int (rk w x y),h):=by
 have hm:MulOk x y:=.inl ⟨by have:=hx.1;omega,hx.2⟩
 unfold yid
 rw [yD]
 show ob (yB _ _ [.val (.str w),.val (.int x),.val (.int y)] h) fnK=_
 unfold okW WDS at hw
 simp only [List.mem_cons,List.not_mem_nil,or_false] at hw
 unfold rk
 rcases hw with rfl|rfl|rfl|rfl|rfl
 .walk_at "pw"
 .walk_at "pw"
 .walk_at "pw"
  rw [if_pos hm]
 .walk_at "pw"
 .walk_at "pw"
end
local macro_rules | `(tactic| walk_at "pk")=>`(tactic| simp_all? only [ykX,yor,yqa,ytm,ykY,yos,ykZ,yjT,yla,ymL,yiN,yjU,yot,yjV,you,yqb,yjW,ymM,yqc,ylb,yov,ytn,ylc,yow,yto,ymN,yqd,ytp,ymO,yqe,yle,yiO,yjX,ylf,ymP,yjY,yox,yjZ,ymQ,yoy,yqf,yka,yFk])
section
variable {h:AH}
theorem ylh {n:Nat}{xs:List Int}{i:Nat}{v:Int}{eo ei ev:XE}{ρ:PSt}(e1:ev ρ h=some (.int v,h)) (e2:eo ρ h=some (.loc n,h)) (e3:ei ρ h=some (.int i,h)) (e:h[n]?=some (.lst (xs.map .int))) (hi:i<xs.length):ynY eo ei ev ρ h=some (.nx ρ,h.set n (.lst ((xs.set i v).map .int))):=by
 unfold ynY
 rw [e1,yw,e2,yw,e3,yw]
 have e4:ixN (xs.map PV.int).length (i:Nat)=some i:=by
  unfold ixN
  simp [hi]
 simp only [e,e4]
 rw [List.map_set]
theorem ywV {n:Nat}{ks:List Key}{xs:List PV}{i:Int}{ek ed:XE}{ρ:PSt}(ek':ek ρ h=some (.int i,h)) (ed':ed ρ h=some (.loc n,h)) (e:h[n]?=some (.dct ks xs)):yyu true ek ed ρ h=some (.bl (!(yhS ks xs (.inl i)).isSome),h):=by
 unfold yyu
 rw [ek',yw,ed',yw]
 unfold yyt
 simp only [e,keyOf]
 rfl
theorem ytq {n:Nat}{ks:List Key}{xs:List PV}{i:Int}{y:PV}{ek ed ey:XE}{ρ:PSt}(ed':ed ρ h=some (.loc n,h)) (ek':ek ρ h=some (.int i,h)) (ey':ey ρ h=some (y,h)) (e:h[n]?=some (.dct ks xs)):ysT ed ek ey ρ h=some ((yhS ks xs (.inl i)).getD y,h):=by
 have hd:yyt (.loc n) h=some (ks,xs):=by unfold yyt;simp only [e]
 unfold ysT
 rw [ed',yw,hd,if_pos (show (some (ks,xs)).isSome=true from rfl),ek',yw,ey',yw,hd]
 rfl
structure LS (h:AH) (a c w:Nat) (σ:AS):Prop where
 ex:∃ sj sv wj wv,h[c]?=some (.dct (sj.map .inl) (sv.map PV.int))/\h[w]?=some (.dct (wj.map .inl) (wv.map PV.int))/\ID sj sv/\ID wj wv/\(∀ j,gI (sj.map .inl,sv.map PV.int) j=σ.s j)/\∀ j,gI (wj.map .inl,wv.map PV.int) j=σ.v j
 hh:h[a]?=some (.lst (σ.hs.map .int))
 ne:a≠c/\a≠w/\c≠w
 h8:σ.hs.length=8
 nh:∀ v∈σ.hs,N64 v
 nv:∀ j v,σ.v j=some v->N64 v
noncomputable def Fr3 (a c w:Nat) (h h':AH):Prop:=h'.length=h.length/\∀ n,n≠a->n≠c->n≠w->h'[n]?=h[n]?
theorem Fr3.refl {a c w:Nat}:Fr3 a c w h h:=⟨rfl,fun _ _ _ _=>rfl⟩
theorem Fr3.set {a c w t:Nat}{h':AH}{x:Nd}(f:Fr3 a c w h h') (ht:t=a\/t=c\/t=w):Fr3 a c w h (h'.set t x):=⟨by rw [List.length_set];exact f.1,fun n h1 h2 h3=>(List.getElem?_set_ne (by rcases ht with rfl|rfl|rfl<;>exact fun z=>(by first|exact h1 z.symm|exact h2 z.symm|exact h3 z.symm))).trans (f.2 n h1 h2 h3)⟩
variable {a c w:Nat}{σ:AS}{bx:List Int}
theorem ywW {u:T}(hp:ywh u) (hu:okT u) (b1:1<=bx.length) (b16:bx.length<=16) (nb:∀ v∈bx,N64 v) (L:LS h a c w σ):∃ h',yeA [ypn u,.lst (bx.map .int),.loc c,.loc a,.loc w] h=some (.non,h')/\LS h' a c w (evP bx u σ)/\Fr3 a c w h h':=by
 obtain ⟨⟨sj,sv,wj,wv,e1,e2,i1,i2,f1,f2⟩,hh,⟨n1,n2,n3⟩,h8,nh,nv⟩:=L
 have ix:∀ {r:Str},okS r->yiU (.loc a) (.int (sx r)) h=some (.int (σ.hs.getD (sx r) 0),h):=fun hr=>yuR hh (by rw [h8];exact yqT hr)
 have len8:∀ {i:Nat}{v:Int},(σ.hs.set i v).length=8:=by intro i v;rw [List.length_set];exact h8
 unfold yeA
 cases u with
 | let_ r n =>
  obtain ⟨k1,k2⟩:=hu
  refine ⟨_,?_,⟨⟨sj,sv,wj,wv,yA (Ne.symm n1) e1,yA (Ne.symm n2) e2,i1,i2,f1,f2⟩,set_same hh,⟨n1,n2,n3⟩,len8,yBB nh k2,nv⟩,Fr3.refl.set (.inl rfl)⟩
  rw [yD]
  show ob (ydH _ _ _ [.val (.tup [.str "let",.str r,.int n]),.val (.lst (bx.map .int)),.val (.loc c),.val (.loc a),.val (.loc w),.no,.no,.no] h) fnK=_
  walk_at "pk"
  rw [ylh (n:=a) (i:=sx r) (v:=n) rfl rfl (by
   walk_at "pk"
   rw [ygW k1]) hh (by rw [h8];exact yqT k1),yw]
  rfl
 | reckon q r x y =>
  obtain ⟨k0,k1,k2,k3⟩:=hu
  refine ⟨_,?_,⟨⟨sj,sv,wj,wv,yA (Ne.symm n1) e1,yA (Ne.symm n2) e2,i1,i2,f1,f2⟩,set_same hh,⟨n1,n2,n3⟩,len8,yBB nh yJZ,nv⟩,Fr3.refl.set (.inl rfl)⟩
  rw [yD]
  show ob (ydH _ _ _ [.val (.tup [.str "reckon",.str q,.str r,.str x,.str y]),.val (.lst (bx.map .int)),.val (.loc c),.val (.loc a),.val (.loc w),.no,.no,.no] h) fnK=_
  walk_at "pk"
  rw [ygW k2,yw,ix k2,yw,ygW k3,yw,ix k3,yw]
  rw [ylh (n:=a) (i:=sx r) (v:=rk q (σ.hs.getD (sx x) 0) (σ.hs.getD (sx y) 0)) (by
   walk_at "pk"
   rw [yHN k0 (yzk nh)]) rfl (by
   walk_at "pk"
   rw [ygW k1]) hh (by rw [h8];exact yqT k1),yw]
  rfl
 | take r p =>
  obtain ⟨k1,k2⟩:=hu
  obtain ⟨b2,b3,b4⟩:=ytk (bx:=bx) (σ.hs.getD (sx p) 0) b1 b16
  have hj:=f2 (σ.hs.getD (sx p) 0%bx.length)
  have hg:=(show isID (wj.map .inl,wv.map PV.int) from ⟨wj,wv,rfl,i2⟩).get (σ.hs.getD (sx p) 0%bx.length)
  rw [yD]
  show ∃ h',ob (ydH _ _ _ [.val (.tup [.str "take",.str r,.str p]),.val (.lst (bx.map .int)),.val (.loc c),.val (.loc a),.val (.loc w),.no,.no,.no] h) fnK=_/\_
  walk_at "pk"
  rw [ygW k2,yw,ix k2,yw]
  rw [List.length_map]
  walk_at "pk"
  rw [if_pos (by omega)]
  rw [ywV (n:=w) (i:=σ.hs.getD (sx p) 0%bx.length) rfl rfl e2,yw,hg,hj]
  cases hv:σ.v (σ.hs.getD (sx p) 0%bx.length) with
  | some v =>
   rw [hv] at hj
   have ev:evP bx (.take r p) σ=⟨σ.hs.set (sx r) v,σ.v,σ.s⟩:=by
    show tkV bx σ r (σ.hs.getD (sx p) 0%bx.length) (σ.v (σ.hs.getD (sx p) 0%bx.length))=_
    rw [hv]
    rfl
   rw [ev]
   refine ⟨_,?_,⟨⟨sj,sv,wj,wv,yA (Ne.symm n1) e1,yA (Ne.symm n2) e2,i1,i2,f1,f2⟩,set_same hh,⟨n1,n2,n3⟩,len8,yBB nh (nv _ _ hv),nv⟩,Fr3.refl.set (.inl rfl)⟩
   show ob (oB (.bl false) h) _=_
   walk_at "pk"
   rw [ylh (n:=a) (i:=sx r) (v:=v) (by
    rw [ytq (n:=w) (i:=σ.hs.getD (sx p) 0%bx.length) (y:=.int (bx.getD (σ.hs.getD (sx p) 0%bx.length).toNat 0)) rfl rfl (by
     walk_at "pk"
     rw [ixF b2 b3]
     rfl) e2,hg,hj]
    rfl) rfl (by
    walk_at "pk"
    rw [ygW k1]) hh (by rw [h8];exact yqT k1),yw]
   rfl
  | none =>
   rw [hv] at hj
   obtain ⟨sj',sv',hput,hi,_⟩:=i1.put (v:=bx.getD (σ.hs.getD (sx p) 0%bx.length).toNat 0) ⟨b2,b4⟩
   have ev:evP bx (.take r p) σ=⟨σ.hs.set (sx r) (bx.getD (σ.hs.getD (sx p) 0%bx.length).toNat 0),σ.v,upV σ.s (σ.hs.getD (sx p) 0%bx.length) (bx.getD (σ.hs.getD (sx p) 0%bx.length).toNat 0)⟩:=by
    show tkV bx σ r (σ.hs.getD (sx p) 0%bx.length) (σ.v (σ.hs.getD (sx p) 0%bx.length))=_
    rw [hv]
    rfl
   rw [ev]
   have hd:isID (sj.map .inl,sv.map PV.int):=⟨sj,sv,rfl,i1⟩
   have sl:=i1.le
   refine ⟨(h.set c (.dct (sj'.map .inl) (sv'.map .int))).set a (.lst ((σ.hs.set (sx r) (bx.getD (σ.hs.getD (sx p) 0%bx.length).toNat 0)).map .int)),?_,⟨⟨sj',sv',wj,wv,yA (Ne.symm n1) (set_same e1),yA (Ne.symm n2) (yA (Ne.symm n3) e2),hi,i2,fun j=>?_,f2⟩,set_same (yA n1 hh),⟨n1,n2,n3⟩,len8,yBB nh (yzk nb),nv⟩,(Fr3.refl.set (.inr (.inl rfl))).set (.inl rfl)⟩
   .show ob (oB (.bl true) h) _=_
    walk_at "pk"
    rw [ynF (n:=c) (i:=σ.hs.getD (sx p) 0%bx.length) (x:=.int (bx.getD (σ.hs.getD (sx p) 0%bx.length).toNat 0)) (by
     walk_at "pk"
     rw [ixF b2 b3]
     rfl) rfl rfl e1 (by rw [List.length_map];omega),hput,yw,ylQ]
    rw [ylh (n:=a) (i:=sx r) (v:=bx.getD (σ.hs.getD (sx p) 0%bx.length).toNat 0) (by
     rw [ytq (n:=w) (i:=σ.hs.getD (sx p) 0%bx.length) (y:=.int (bx.getD (σ.hs.getD (sx p) 0%bx.length).toNat 0)) rfl rfl (by
      walk_at "pk"
      rw [ixF b2 b3]
      rfl) (yA (Ne.symm n3) e2),hg,hj]
     rfl) rfl (by
     walk_at "pk"
     rw [ygW k1]) (yA n1 hh) (by rw [h8];exact yqT k1),yw]
    rfl
   .have:=ytd hd (k:=σ.hs.getD (sx p) 0%bx.length) (j:=j) (v:=bx.getD (σ.hs.getD (sx p) 0%bx.length).toNat 0)
    rw [hput] at this
    rw [this,f1]
    rfl
 | put p q =>
  obtain ⟨k1,k2⟩:=hu
  obtain ⟨b2,b3,b4⟩:=ytk (bx:=bx) (σ.hs.getD (sx p) 0) b1 b16
  obtain ⟨wj',wv',hput,hi,_⟩:=i2.put (v:=σ.hs.getD (sx q) 0) ⟨b2,b4⟩
  have hd:isID (wj.map .inl,wv.map PV.int):=⟨wj,wv,rfl,i2⟩
  have sl:=i2.le
  refine ⟨h.set w (.dct (wj'.map .inl) (wv'.map .int)),?_,⟨⟨sj,sv,wj',wv',yA n3 e1,set_same e2,i1,hi,f1,fun j=>?_⟩,yA n2 hh,⟨n1,n2,n3⟩,h8,nh,fun j v e=>?_⟩,Fr3.refl.set (.inr (.inr rfl))⟩
  .rw [yD]
   show ob (ydH _ _ _ [.val (.tup [.str "put",.str p,.str q]),.val (.lst (bx.map .int)),.val (.loc c),.val (.loc a),.val (.loc w),.no,.no,.no] h) fnK=_
   walk_at "pk"
   rw [ygW k1,yw,ix k1,yw,List.length_map]
   walk_at "pk"
   rw [if_pos (by omega)]
   rw [ynF (n:=w) (i:=σ.hs.getD (sx p) 0%bx.length) (x:=.int (σ.hs.getD (sx q) 0)) (by
    walk_at "pk"
    rw [ygW k2,yw,ix k2]) rfl rfl e2 (by rw [List.length_map];omega),hput,yw]
   rfl
  .have:=ytd hd (k:=σ.hs.getD (sx p) 0%bx.length) (j:=j) (v:=σ.hs.getD (sx q) 0)
   rw [hput] at this
   rw [this,f2]
   rfl
  .have e:(if j=σ.hs.getD (sx p) 0%bx.length then some (σ.hs.getD (sx q) 0) else σ.v j)=some v:=e
   split at e
   .cases e;exact yzk nh
   .exact nv j v e
 | if_ _ _ _=>exact hp.elim
 | either _ _=>exact hp.elim
 | try_ _ _ _ _=>exact hp.elim
 | throw _ _=>exact hp.elim
 | wait=>exact hp.elim
end
section
variable {h:AH}
theorem yzq {js vs:List Int}(d:ID js vs):(yqI (js.zip (vs.map PV.int))).map (·.1)=yof js:=by
 have hl:(vs.map PV.int).length=js.length:=by simp [d.ln]
 have hk:(js.zip (vs.map PV.int)).map (·.1)=js:=List.map_fst_zip (by omega)
 refine yvS ?_ ?_
 .have:=(yfA (js.zip (vs.map PV.int))).map (·.1)
  rw [hk] at this
  exact this
 .exact List.pairwise_map.mpr (ynE _)
theorem yzr {js vs:List Int}{e:XE}{inn:PV->PSt}(d:ID js vs) (he:∀ (j:Int) (x:PV),yhS (js.map .inl) (vs.map PV.int) (.inl j)=some x->e (inn (.int j)) h=some (.tup [.int j,x],h)) :
  yAz e inn ((yof js).map .int) h=some (yuQ js vs,h):=by
 have hl:(vs.map PV.int).length=js.length:=by simp [d.ln]
 have e1:(yof js).map PV.int=(yqI (js.zip (vs.map PV.int))).map fun p=>.int p.1:=by
  rw [<- yzq d,List.map_map];rfl
 rw [e1,yuJ (fun p:Int×PV=>.int p.1) (fun p=>.tup [.int p.1,p.2]) fun p hp=>he p.1 p.2 ?_]
 .unfold yuQ
  rw [yzf d]
 .exact (ykT d.nd hl).mp ((yfA _).mem_iff.mp hp)
theorem ynG {n:Nat}{js vs:List Int}(e:h[n]?=some (.dct (js.map .inl) (vs.map PV.int))) (d:ID js vs) {f:Vw}(hf:∀ j,gI (js.map .inl,vs.map PV.int) j=f j):ydT [.loc n] h=some (.lst (yjQ f),h):=by
 have hl:=d.le
 rw [<- yuU d hf]
 unfold ydT
 rw [yD]
 show ob (ycN _ [.val (.loc n)] h) fnK=_
 rw [yng,yzS,ykL]
 have il:xIL (xFz (ypf ypV (yd (yh 0) yu))) [.val (.loc n)] h=some ((yof js).map .int,h):=by
  unfold xIL
  rw [yzS,yqz,yiZ,show yh 0 [PVar.val (.loc n)] h=some (.loc n,h) from rfl,yw,ynf,yw,yw]
  unfold ypV ynh
  simp only [e,yoq]
  rw [if_pos (by omega),yw]
  rfl
 have sl:((yof js).map PV.int).length<=100000:=by rw [List.length_map,(ylU js).length_eq];omega
 rw [il,yw,if_pos sl,yzr d fun j x hx=>?_]
 .rfl
 .show ykg _ [.val (.int j),.val (.loc n)] h=_
  rw [yqy,yiZ,show yh 0 [PVar.val (.int j),.val (.loc n)] h=some (.int j,h) from rfl,yw,yiZ,ywd (n:=n) (i:=j) rfl rfl e hx,yw,ynf,yw,yw,yw,if_pos (by simp)]
theorem yHO {r n:PV}:yey [r,n] h=some (.ins 3 ["slot","number"] [r,n],h):=by
 unfold yey
 rw [yil]
 show ob (yB _ _ [.own (.ins 3 [] []),.val r,.val n] h) inK=_
 walk_at "px"
theorem yzs {w r s t:PV}:ycP [w,r,s,t] h=some (.ins 4 ["word","slot","one","other"] [w,r,s,t],h):=by
 unfold ycP
 rw [yil]
 show ob (yB _ _ [.own (.ins 4 [] []),.val w,.val r,.val s,.val t] h) inK=_
 walk_at "px"
theorem yFl {r s:PV}:ydS [r,s] h=some (.ins 5 ["slot","place"] [r,s],h):=by
 unfold ydS
 rw [yil]
 show ob (yB _ _ [.own (.ins 5 [] []),.val r,.val s] h) inK=_
 walk_at "px"
theorem yHP {r s:PV}:yez [r,s] h=some (.ins 6 ["place","slot"] [r,s],h):=by
 unfold yez
 rw [yil]
 show ob (yB _ _ [.own (.ins 6 [] []),.val r,.val s] h) inK=_
 walk_at "px"
mutual
noncomputable def wT:T->Nat
 | .if_ _ a b=>1+wL a+wL b
 | .either a b=>1+wL a+wL b
 | .try_ a _ _ b=>1+wL a+wL b
 | _=>1
noncomputable def wL:List T->Nat
 | []=>0
 | t::r=>wT t+wL r
end
theorem yHQ (t:T):1<=wT t:=by cases t<;>(simp only [wT];omega)
theorem ywX:∀ ts:List T,ts.length<=wL ts
 | []=>Nat.le_refl _
 | t::r=>by
  have:=ywX r
  have:=yHQ t
  show r.length+1<=wT t+wL r
  omega
theorem yqg:∀ (a b:List T),wL (a++b)=wL a+wL b
 | [],b=>by simp [wL]
 | t::r,b=>by
  show wT t+wL (r++b)=wT t+wL r+wL b
  rw [yqg r b];omega
theorem yjJ:∀ (a b:List T),ydU (a++b)=max (ydU a) (ydU b)
 | [],b=>by simp [ydU]
 | t::r,b=>by
  show max (ypX t) (ydU (r++b))=max (max (ypX t) (ydU r)) (ydU b)
  rw [yjJ r b];omega
theorem ylV:∀ {a b:List T},okL a->okL b->okL (a++b)
 | [],_,_,k=>k
 | _::_,_,h,k=>⟨h.1,ylV h.2 k⟩
theorem yzt {t:T}:∀ {ts:List T},t∈ts->wT t<=wL ts/\ypX t<=ydU ts/\(okL ts->okT t)
 | u::r,hm=>by
  show wT t<=wT u+wL r/\ypX t<=max (ypX u) (ydU r)/\(okT u/\okL r->okT t)
  rcases List.mem_cons.mp hm with rfl|hm
  .exact ⟨by omega,by omega,fun k=>k.1⟩
  .obtain ⟨a,b,c⟩:=yzt hm
   exact ⟨by omega,by omega,fun k=>c k.2⟩
 | [],hm=>by simp at hm
theorem yfe {a b:List T}:ycl (a++b)=ycl a++ycl b:=by simp only [ylg,List.map_append]
theorem yli {a:List T}:(ycl a).length=a.length:=by rw [ylg,List.length_map]
theorem yJg {r:PV}{xs ys:List PV}:yfd [r,.lst xs,.lst ys] h=some (.ins 7 ["slot","parts","others"] [r,.lst xs,.lst ys],h):=by
 unfold yfd
 rw [yil]
 show ob (yB _ _ [.own (.ins 7 [] []),.val r,.val (.lst xs),.val (.lst ys)] h) inK=_
 walk_at "px"
theorem yzu {xs ys:List PV}:ycR [.lst xs,.lst ys] h=some (.ins 8 ["parts","others"] [.lst xs,.lst ys],h):=by
 unfold ycR
 rw [yil]
 show ob (yB _ _ [.own (.ins 8 [] []),.val (.lst xs),.val (.lst ys)] h) inK=_
 walk_at "px"
local macro_rules | `(tactic| walk_at "pm")=>`(tactic| simp_all? only [yHO,yzs,yFl,yHP,yJg,yzu,ykX,yor,yqa,ytm,ykY,yos,ykZ,yjT,yla,ymL,yiN,yjU,yot,yjV,you,yqb,yjW,ymM,yqc,ylb,yov,ytn,ylc,yow,yto,ymN,yqd,ytp,ymO,yqe,yle,yiO,yjX,ylf,ymP,yjY,yox,yjZ,ymQ,yoy,yqf,yka])
theorem yuV:∀ (n:Nat) (us:List T),ydU us+1<=n->wL us<=1000->okL us->ydd n [.lst (ycl us)] h=some (.lst (ybA us),h)
 | 0,us,hn,_,_=>by omega
 | n+1,us,hn,hw,hu=>by
  have G:=yuV n
  have wl:=ywX us
  unfold ydd
  rw [yD,ylg,ypY]
  show ob (yB _ _ [.val (.lst (us.map ypn)),.no,.no] h) fnK=_
  walk_at "pm"
  rw [show xIL (yh 0) [PVar.val (.lst (us.map ypn)),.own (.lst []),.no] h=some (us.map ypn,h) from rfl,yw]
  refine yjh (fun i ρ h1=>h1=h/\∃ c,ρ=[.val (.lst (us.map ypn)),.own (.lst ((us.take i).map yfB)),c]) ⟨rfl,.no,rfl⟩ ?_ ?_
  .rintro i x ρ h1 hx ⟨rfl,c,rfl⟩
   rw [List.getElem?_map] at hx
   obtain ⟨u,hu1,rfl⟩:=Option.map_eq_some_iff.mp hx
   have hi:=(List.getElem?_eq_some_iff.mp hu1).1
   obtain ⟨k1,k2,k3⟩:=yzt (List.mem_of_getElem? hu1)
   replace k3:=k3 hu
   have ht:us.take (i+1)=us.take i++[u]:=by
    rw [List.take_add_one,hu1];rfl
   refine ⟨_,[.val (.lst (us.map ypn)),.own (.lst ((us.take (i+1)).map yfB)),.val (ypn u)],h1,rfl,.inl ?_,rfl,_,rfl⟩
   have hb:((us.take i).map yfB).length<100000:=by rw [List.length_map,List.length_take];omega
   rw [ht,List.map_append]
   cases u<;>simp only [ypn]<;>try walk_at "pm"
   case if_ r a b =>
    have hd:1+max (ydU a) (ydU b)<=ydU us:=k2
    have hw':1+wL a+wL b<=wL us:=k1
    rw [ypU (xs:=(us.take i).map yfB) rfl]
    walk_at "pm"
    rw [G a (by omega) (by omega) k3.2.1,yw,G b (by omega) (by omega) k3.2.2,yw]
    walk_at "pm"
    rw [if_pos hb]
    rfl
   case either a b =>
    have hd:1+max (ydU a) (ydU b)<=ydU us:=k2
    have hw':1+wL a+wL b<=wL us:=k1
    rw [ypU (xs:=(us.take i).map yfB) rfl]
    walk_at "pm"
    rw [G a (by omega) (by omega) k3.2.1,yw,G b (by omega) (by omega) k3.2.2,yw]
    walk_at "pm"
    rw [if_pos hb]
    rfl
   case try_=>exact k3.1.elim
   case throw=>exact k3.1.elim
   all_goals
    rw [ypU (xs:=(us.take i).map yfB) rfl]
    walk_at "pm"
    rw [if_pos hb]
    rfl
  .rintro ρ' h' ⟨rfl,c,rfl⟩
   rw [List.length_map,List.take_length]
   walk_at "pm"
end
section
variable {h:AH}
theorem yif (a:Int) {b:Int}(h:0<b):0<=a%b/\a%b<b:=⟨Int.emod_nonneg a (by omega),Int.emod_lt_of_pos a h⟩
noncomputable def yIj (c:Int):Int:=c*48271%999999999989
theorem yri (c:Int):ycg [.int c] h=some (.int (yIj c),h):=by
 unfold ycg
 rw [yD]
 show ob (ycN _ [.val (.int c)] h) fnK=_
 walk_at "px"
 rfl
noncomputable def yuW (c:Int):Int:=c*982451653%18446744073709551616
theorem yuX (c:Int):ydc [.int c] h=some (.int (yuW c),h):=by
 unfold ydc
 rw [yD]
 show ob (ycN _ [.val (.int c)] h) fnK=_
 walk_at "px"
 rfl
theorem yzv (c:Int):N64 (yuW c):=yif _ (by decide)
theorem yBH {α:Type}(xs:List α) (i n:Int) (hn:xs.length=n) (h0:0<=i) (h1:i<n):∃ x,atI xs i=some x/\x∈xs:=by
 obtain ⟨j,rfl⟩:∃ j:Nat,i=(j:Int):=⟨i.toNat,by omega⟩
 have hj:j<xs.length:=by omega
 exact ⟨xs[j],yeJ (List.getElem?_eq_getElem hj),List.getElem_mem hj⟩
theorem ywY (m:Int):∃ (L:Int) (z:Str),atI [PV.int 2,PV.int 3,PV.int 8] (m%3)=some (.int L)/\yIf (.str "abcdefgh") none (some L) h=some (.str z,h)/\(z.length:Int)=L/\0<L/\L<=8/\(z.cps.toList.length:Int)=L/\∀ n∈z.cps.toList,(⟨#[n]⟩:Str)∈SL:=by
 have b:m%3=0\/m%3=1\/m%3=2:=by omega
 rcases b with e|e|e
 .exact ⟨2,"ab",by rw [e];exact yyy,rfl,by decide +kernel,by decide,by decide,by decide +kernel,by decide +kernel⟩
 .exact ⟨3,"abc",by rw [e];exact yyz,rfl,by decide +kernel,by decide,by decide,by decide +kernel,by decide +kernel⟩
 .exact ⟨8,"abcdefgh",by rw [e];exact yzT,rfl,by decide +kernel,by decide,by decide,by decide +kernel,by decide +kernel⟩
theorem yCV {c:XT}{s:XS}(I:Nat->PSt->AH->Prop) (E:PSt->AH->Prop)
  (step:∀ m ρ h,I m ρ h->(c ρ h=some (false,h)/\E ρ h)\/∃ ρ' m',c ρ h=some (true,h)/\s ρ h=some (.nx ρ',h)/\m'<m/\I m' ρ' h) :
  ∀ (fuel m:Nat) (ρ:PSt) (h:AH),m<fuel->I m ρ h->∃ ρ',whl c s fuel ρ h=some (.nx ρ',h)/\E ρ' h
 | 0,_,_,_,hm,_=>by omega
 | fuel+1,m,ρ,h,hm,hI=>by
  rw [yBb]
  rcases step m ρ h hI with ⟨e1,e2⟩|⟨ρ',m',e1,e2,e3,e4⟩
  .rw [e1,yw]
   exact ⟨ρ,rfl,e2⟩
  .obtain ⟨ρ2,q1,q2⟩:=yCV I E step fuel m' ρ' h (by omega) e4
   rw [e1,yw,if_pos rfl,e2,yw]
   exact ⟨ρ2,q1,q2⟩
theorem yHR {c:XT}{s:XS}{β:Type}{P:Option β->Prop}{k:Out->AH->Option β}{ρ:PSt}{h:AH}{fuel:Nat}(I:Nat->PSt->AH->Prop) (E:PSt->AH->Prop) (m:Nat) (hm:m<fuel) (h0:I m ρ h)
  (step:∀ m ρ h,I m ρ h->(c ρ h=some (false,h)/\E ρ h)\/∃ ρ' m',c ρ h=some (true,h)/\s ρ h=some (.nx ρ',h)/\m'<m/\I m' ρ' h)
  (fin:∀ ρ',E ρ' h->P (k (.nx ρ') h)):P (ob (ysl fuel c s ρ h) k):=by
 obtain ⟨ρ',e,q⟩:=yCV I E step fuel m ρ h hm h0
 rw [show ysl fuel c s ρ h=_ from e,yw]
 exact fin ρ' q
structure Pl (ts:List T) (w d:Nat):Prop where
 w:wL ts<=w
 d:ydU ts<=d
 ok:okL ts
theorem pl1 {t:T}(h1:wT t=1) (h2:ypX t=0) (h3:okT t):Pl [t] 4 0:=⟨by show wT t+0<=4;omega,by show max (ypX t) 0<=0;omega,h3,trivial⟩
theorem yBI (m c:Int):∃ ts,Pl ts 4 0/\ygf [.int m,.int c] h=some (.lst (ycl ts),h):=by
 unfold ygf
 rw [yD]
 show ∃ ts,Pl ts 4 0/\ob (yB _ _ [.val (.int m),.val (.int c),.no,.no,.no,.no,.no,.no,.no,.no,.no] h) fnK=_
 obtain ⟨L,z,e1,e2,e3,e4,e5,e6,e7⟩:=ywY (h:=h) m
 have ix:∀ k:Int,∃ n,atI z.cps.toList (k%L)=some n/\okS ⟨#[n]⟩:=fun k=>by
  obtain ⟨x,hx,hm⟩:=yBH z.cps.toList (k%L) L e6 (yif k e4).1 (yif k e4).2
  exact ⟨x,hx,e7 x hm⟩
 have hz:z.length<=100000:=by omega
 have hL:0<L/\L<1073741824:=by omega
 obtain ⟨n1,i1,o1⟩:=ix (m/33)
 obtain ⟨n2,i2,o2⟩:=ix (m/33/L)
 obtain ⟨n3,i3,o3⟩:=ix (m/33/L/L)
 have m5:=yif (m/33/1000) (show (0:Int)<5 by decide)
 have m3:=yif (m/33/1000) (show (0:Int)<3 by decide)
 obtain ⟨x5,a5,j5⟩:=yBH (WDS.map PV.str) (m/33/1000%5) 5 rfl m5.1 m5.2
 obtain ⟨w5',hw5,rfl⟩:=List.mem_map.mp j5
 obtain ⟨x3,a3,j3⟩:=yBH ((["plus","minus","times"]:List Str).map PV.str) (m/33/1000%3) 3 rfl m3.1 m3.2
 obtain ⟨w3',hw3,rfl⟩:=List.mem_map.mp j3
 have hw3:okW w3':=by
  simp only [List.mem_cons,List.not_mem_nil,or_false] at hw3
  rcases hw3 with rfl|rfl|rfl<;>simp [okW,WDS]
 have a5:atI [PV.str "plus",PV.str "minus",PV.str "times",PV.str "less",PV.str "same"] (m/33/1000%5)=some (.str w5'):=a5
 have a3:atI [PV.str "plus",PV.str "minus",PV.str "times"] (m/33/1000%3)=some (.str w3'):=a3
 have sm4:N64 (m/33/1000%4):=by have:=yif (m/33/1000) (show (0:Int)<4 by decide);exact ⟨this.1,by omega⟩
 have sm3:N64 (m/33/3000%3):=by have:=yif (m/33/3000) (show (0:Int)<3 by decide);exact ⟨this.1,by omega⟩
 (try walk_at "px")
 rw [e1]
 (try walk_at "px")
 rw [e2]
 (try walk_at "px")
 rw [if_pos hz]
 (try walk_at "px")
 rw [e3]
 (try simp only [e4,hL,and_self,if_true])
 rw [i1,i2,i3]
 simp only [Option.bind_some,hz,if_true,yw,yuX,a5,a3]
 (try walk_at "px")
 simp only [sgn]
 generalize (⟨#[n1]⟩:Str)=s1 at *
 generalize (⟨#[n2]⟩:Str)=s2 at *
 generalize (⟨#[n3]⟩:Str)=s3 at *
 split
 .exact ⟨[.let_ s1 (yuW c)],pl1 rfl rfl ⟨o1,yzv c⟩,rfl⟩
 split
 .exact ⟨[.let_ s1 _],pl1 rfl rfl ⟨o1,sm4⟩,rfl⟩
 split
 .exact ⟨[.reckon w5' s1 s2 s3],pl1 rfl rfl ⟨hw5,o1,o2,o3⟩,rfl⟩
 split
 .exact ⟨[.take s1 s2],pl1 rfl rfl ⟨o1,o2⟩,rfl⟩
 split
 .exact ⟨[.put s1 s2],pl1 rfl rfl ⟨o1,o2⟩,rfl⟩
 .exact ⟨[.let_ s1 _,.take s2 s1,.reckon w3' s2 s2 s3,.put s1 s2],⟨by show 1+(1+(1+(1+0)))<=4;omega,by show max 0 (max 0 (max 0 (max 0 0)))<=0;omega,⟨o1,sm3⟩,⟨o2,o1⟩,⟨hw3,o2,o2,o3⟩,⟨o1,o2⟩,trivial⟩,rfl⟩
theorem yBJ (c:Int):∃ bx:List Int,1<=bx.length/\bx.length<=16/\(∀ v∈bx,N64 v)/\ygh [.int c] h=some (.lst (bx.map .int),h):=by
 unfold ygh
 rw [yD]
 show ∃ bx:List Int,1<=bx.length/\bx.length<=16/\(∀ v∈bx,N64 v)/\ob (yB _ _ [.val (.int c),.no,.no,.no,.no,.no] h) fnK=_
 walk_at "px"
 rw [yri]
 walk_at "px"
 generalize yIj c=m
 have b16:=yif (m/4) (show (0:Int)<16 by decide)
 obtain ⟨n,en,n1,n16⟩:∃ n:Nat,atI [PV.int 1,.int 2,.int 3,.int (1+m/4%16)] (m%4)=some (.int n)/\1<=n/\n<=16:=by
  have b4:m%4=0\/m%4=1\/m%4=2\/m%4=3:=by omega
  rcases b4 with e|e|e|e<;>rw [e]
  .exact ⟨1,yyy,by omega,by omega⟩
  .exact ⟨2,yyz,by omega,by omega⟩
  .exact ⟨3,yzT,by omega,by omega⟩
  .exact ⟨(1+m/4%16).toNat,by rw [yBc];congr 2;omega,by omega,by omega⟩
 rw [en,Option.bind_some,yw]
 rw [ypT (j:=(n:Int)) (h1:=h) (by walk_at "px") (by omega) (by omega),yw]
 refine yyx (P:=fun (q:Option (PV×AH))=>∃ bx:List Int,1<=bx.length/\bx.length<=16/\(∀ v∈bx,N64 v)/\q=some (.lst (bx.map .int),h)) (fun i ρ h1=>h1=h/\∃ bx:List Int,bx.length=i/\(∀ v∈bx,N64 v)/\∃ c4 c5:PVar,ρ=[.val (.int c),.val (.int m),.val (.int n),.own (.lst (bx.map .int)),c4,c5]) (fun _ _=>False) ⟨rfl,[],rfl,by simp,.no,.no,rfl⟩ ?_ ?_ (fun _ _ z=>z.elim)
 .rintro i x ρ h1 hx ⟨rfl,bx,hb,hN,c4,c5,rfl⟩
  obtain ⟨hi,rfl⟩:=ynZ hx
  rw [Int.zero_add]
  have hi:i<n:=by simpa using hi
  have m5:=yif (m/64/((i:Int)+1)) (show (0:Int)<5 by decide)
  obtain ⟨v,ev,hv⟩:∃ v:Int,atI [PV.int (m/64/((i:Int)+1)%5),.int (yuW (c+(i:Int)*i))] ((m/1000+i)%2)=some (.int v)/\N64 v:=by
   have b2:(m/1000+i)%2=0\/(m/1000+i)%2=1:=by omega
   rcases b2 with e|e<;>rw [e]
   .exact ⟨_,yyy,m5.1,by omega⟩
   .exact ⟨_,yyz,yzv _⟩
  refine ⟨_,.nx [.val (.int c),.val (.int m),.val (.int n),.own (.lst ((bx++[v]).map .int)),.val (.int i),.val (.lst [.int (m/64/((i:Int)+1)%5),.int (yuW (c+(i:Int)*i))])],h1,rfl,?_,rfl,bx++[v],by simp [hb],fun u hu=>?_,_,_,rfl⟩
  .walk_at "px"
   rw [if_pos (by omega),if_pos (show MulOk i i from .inl ⟨by omega,by omega⟩),yuX,yw,ypU (xs:=bx.map .int) rfl]
   walk_at "px"
   rw [ev,Option.bind_some,yw,if_pos (by rw [List.length_map];omega),List.map_append]
   rfl
  .rcases List.mem_append.mp hu with hu|hu
   .exact hN u hu
   .rw [List.mem_singleton.mp hu];exact hv
 .rintro ρ' h' ⟨rfl,bx,hb,hN,c4,c5,rfl⟩
  walk_at "px"
  have hb:bx.length=n:=by rw [hb];simp [ywE]
  exact ⟨bx,by omega,by omega,hN,rfl⟩
theorem yBK (c:Int):∃ hs:List Int,hs.length=8/\(∀ v∈hs,N64 v)/\ygi [.int c] h=some (.loc h.length,h++[.lst (hs.map .int)]):=by
 unfold ygi
 rw [yD]
 show ∃ hs:List Int,hs.length=8/\(∀ v∈hs,N64 v)/\ob (yB _ _ [.val (.int c),.no,.no] h) fnK=_
 walk_at "px"
 rw [yri]
 walk_at "px"
 generalize yIj c=m
 rw [ypT (j:=8) (h1:=h) (by walk_at "px") (by omega) (by omega),yw]
 have e8:ywE 0 (8:Int).toNat=([0,1,2,3,4,5,6,7]:List Int).map .int:=rfl
 rw [e8,if_pos (by decide),yuJ (fun k:Int=>PV.int k) (fun k:Int=>.int (m/(k*k+3)%4)) fun k hk=>?_]
 .have m8:=yif m (show (0:Int)<8 by decide)
  obtain ⟨i,hi⟩:=Int.eq_ofNat_of_zero_le m8.1
  have hN:∀ v∈([0,1,2,3,4,5,6,7]:List Int).map (fun k=>m/(k*k+3)%4),N64 v:=fun v hv=>by
   obtain ⟨k,_,rfl⟩:=List.mem_map.mp hv
   have:=yif (m/(k*k+3)) (show (0:Int)<4 by decide)
   exact ⟨this.1,by omega⟩
  refine ⟨(([0,1,2,3,4,5,6,7]:List Int).map (fun k=>m/(k*k+3)%4)).set i (yuW c),by simp,yBB hN (yzv c),?_⟩
  rw [show ([0,1,2,3,4,5,6,7]:List Int).map (fun k:Int=>PV.int (m/(k*k+3)%4))=(([0,1,2,3,4,5,6,7]:List Int).map (fun k=>m/(k*k+3)%4)).map .int by rw [List.map_map];rfl]
  generalize hl:([0,1,2,3,4,5,6,7]:List Int).map (fun k=>m/(k*k+3)%4)=hs0
  have h8:hs0.length=8:=by rw [<- hl];rfl
  walk_at "px"
  rw [ylh (n:=h.length) (xs:=hs0) (i:=i) (v:=yuW c) (by
   walk_at "px"
   rw [yuX]) rfl (by
   walk_at "px"
   rw [hi]) (by simp) (by omega),yw,ylQ]
  walk_at "px"
  simp
 .show xOp _ _ _ [.val (.int k),.val (.int m)] h=_
  simp only [List.mem_cons,List.not_mem_nil,or_false] at hk
  rcases hk with rfl|rfl|rfl|rfl|rfl|rfl|rfl|rfl<;>(walk_at "px";rfl)
theorem yHS (k:Int):∃ n,atI ("abc":Str).cps.toList (k%3)=some n/\okS ⟨#[n]⟩:=by
 obtain ⟨x,hx,hm⟩:=yBH ("abc":Str).cps.toList (k%3) 3 (by decide +kernel) (yif k (by decide)).1 (yif k (by decide)).2
 exact ⟨x,hx,(show ∀ n∈("abc":Str).cps.toList,(⟨#[n]⟩:Str)∈SL by decide +kernel) x hm⟩
theorem yKm:("abc":Str).length=3:=by decide +kernel
theorem ynH (cs:List Int) (lo hi:Option Int):ysm (cs.map PV.int) lo hi=(ysm cs lo hi).map .int:=by
 unfold ysm
 rw [List.length_map,List.map_take,List.map_drop]
theorem yuY (cs:List Int) (i j:Nat) (hij:i<=j):(ysm cs (some (i:Int)) (some (j:Int))).length=min j cs.length-min i cs.length:=by
 unfold ysm
 rw [HT.sIx_nat,HT.sIx_nat,List.length_take,List.length_drop]
 omega
theorem yFm {s:Str}{u:T}(hs:okS s) (h1:wT u=1) (h2:ypX u=0) (h3:okT u):(wL [u]<=2/\ydU [u]<=1/\okL [u])/\wL [.if_ s [u] []]<=2/\ydU [.if_ s [u] []]<=1/\okL [.if_ s [u] []] :=
 ⟨⟨by show wT u+0<=2;omega,by show max (ypX u) 0<=1;omega,h3,trivial⟩,by show 1+(wT u+0)+0+0<=2;omega,by show max (1+max (max (ypX u) 0) 0) 0<=1;omega,⟨hs,⟨h3,trivial⟩,trivial⟩,trivial⟩
theorem yBL (m:Int) (one other:List T) (ho:wL one<=1000) (hr:wL other<=1000) (io:okL one) (ir:okL other):∃ t,wT t<=4+wL one+wL other/\ypX t<=1+max (max (ydU one) 1) (ydU other)/\okT t /\
  ygg [.int m,.lst (ycl one),.lst (ycl other)] h=some (ypn t,h):=by
 unfold ygg
 rw [yD]
 show ∃ t,_/\_/\_/\ob (yB _ _ [.val (.int m),.val (.lst (ycl one)),.val (.lst (ycl other)),.no] h) fnK=_
 obtain ⟨n1,i1,o1⟩:=yHS (m/9)
 have l1:=ywX one
 have l2:=ywX other
 have q1:(ycl one).length<=99999:=by rw [yli];omega
 have q2:(ycl other).length<=99999:=by rw [yli];omega
 (try walk_at "px")
 rw [i1]
 simp only [Option.bind_some,yKm,sgn]
 (try walk_at "px")
 generalize (⟨#[n1]⟩:Str)=s1 at *
 by_cases e:m%4=0
 .rw [if_pos e]
  exact ⟨.if_ s1 one other,by show 1+wL one+wL other<=_;omega,by show 1+max (ydU one) (ydU other)<=_;omega,⟨o1,io,ir⟩,rfl⟩
 .simp only [e,if_false]
  have fin:∀ b1 b2:List T,wL b1<=2->ydU b1<=1->okL b1->wL b2<=1->ydU b2=0->okL b2->∃ t,wT t<=4+wL one+wL other/\ypX t<=1+max (max (ydU one) 1) (ydU other)/\okT t/\ypn t=.tup [.str "either",.lst (ycl (one++b1)),.lst (ycl (other++b2))]:=by
   intro b1 b2 w1 d1 k1 w2 d2 k2
   refine ⟨.either (one++b1) (other++b2),?_,?_,⟨trivial,ylV io k1,ylV ir k2⟩,rfl⟩
   .show 1+wL (one++b1)+wL (other++b2)<=_
    rw [yqg,yqg];omega
   .show 1+max (ydU (one++b1)) (ydU (other++b2))<=_
    rw [yjJ,yjJ];omega
  obtain ⟨⟨u1,u2,u3⟩,v1,v2,v3⟩:=yFm (u:=.wait) o1 rfl rfl trivial
  have c3:m/4%3=0\/m/4%3=1\/m/4%3=2:=by omega
  have b1:∃ b2:List T,wL b2<=1/\ydU b2=0/\okL b2/\(b2=[]/\¬ m/27%5=1\/b2=[.wait]/\m/27%5=1):=by
   by_cases f:m/27%5=1
   .exact ⟨[.wait],by decide,by decide,⟨trivial,trivial⟩,.inr ⟨rfl,f⟩⟩
   .exact ⟨[],by decide,by decide,trivial,.inl ⟨rfl,f⟩⟩
  obtain ⟨b2,w2,d2,k2,hb2⟩:=b1
  rcases c3 with f|f|f<;>rcases hb2 with ⟨rfl,g⟩|⟨rfl,g⟩<;>simp only [f,g,q1,q2,Int.reduceEq,if_true,if_false]
  .obtain ⟨t,t1,t2,t3,t4⟩:=fin [] [] (by decide) (by decide) trivial w2 d2 k2
   exact ⟨t,t1,t2,t3,by rw [t4];simp only [List.append_nil]⟩
  .obtain ⟨t,t1,t2,t3,t4⟩:=fin [] [.wait] (by decide) (by decide) trivial w2 d2 k2
   exact ⟨t,t1,t2,t3,by rw [t4];simp only [List.append_nil,yfe];rfl⟩
  .obtain ⟨t,t1,t2,t3,t4⟩:=fin [.wait] [] u1 u2 u3 w2 d2 k2
   exact ⟨t,t1,t2,t3,by rw [t4];simp only [List.append_nil,yfe];rfl⟩
  .obtain ⟨t,t1,t2,t3,t4⟩:=fin [.wait] [.wait] u1 u2 u3 w2 d2 k2
   exact ⟨t,t1,t2,t3,by rw [t4];simp only [yfe];rfl⟩
  .obtain ⟨t,t1,t2,t3,t4⟩:=fin [.if_ s1 [.wait] []] [] v1 v2 v3 w2 d2 k2
   exact ⟨t,t1,t2,t3,by rw [t4];simp only [List.append_nil,yfe];rfl⟩
  .obtain ⟨t,t1,t2,t3,t4⟩:=fin [.if_ s1 [.wait] []] [.wait] v1 v2 v3 w2 d2 k2
   exact ⟨t,t1,t2,t3,by rw [t4];simp only [yfe];rfl⟩
theorem yzw:∀ (n d:Nat) (h:AH) (cells:List Int),d+1<=n->cells.length<=12->∃ ts,Pl ts (4*cells.length) (d+1)/\yeM n [.lst (cells.map .int),.int (d:Int)] h=some (.lst (ycl ts),h)
 | 0,_,_,_,hn,_=>by omega
 | n+1,d,h,cells,hn,hl=>by
  have G:=yzw n
  unfold yeM
  rw [yD]
  show ∃ ts,Pl ts (4*cells.length) (d+1)/\ob (yB _ _ [.val (.lst (cells.map .int)),.val (.int (d:Int)),.no,.no,.no,.no,.no,.no,.no,.no] h) fnK=_
  walk_at "px"
  refine yHR (fuel:=1000) (P:=fun (q:Option (PV×AH))=>∃ ts,Pl ts (4*cells.length) (d+1)/\q=some (.lst (ycl ts),h)) (fun m ρ h1=>h1=h/\∃ (k:Nat) (ts:List T) (c4 c5 c6 c7 c8 c9:PVar),m=cells.length-k/\wL ts<=4*min k cells.length/\ydU ts<=d+1/\okL ts/\ρ=[.val (.lst (cells.map .int)),.val (.int (d:Int)),.own (.lst (ycl ts)),.val (.int (k:Int)),c4,c5,c6,c7,c8,c9]) (fun ρ h1=>∃ (k:Nat) (ts:List T) (c4 c5 c6 c7 c8 c9:PVar),wL ts<=4*cells.length/\ydU ts<=d+1/\okL ts/\ρ=[.val (.lst (cells.map .int)),.val (.int (d:Int)),.own (.lst (ycl ts)),.val (.int (k:Int)),c4,c5,c6,c7,c8,c9]) cells.length (by omega) ⟨rfl,0,[],.no,.no,.no,.no,.no,.no,rfl,by show 0<=_;omega,by show 0<=_;omega,trivial,rfl⟩ ?_ ?_
  .rintro m ρ h1 ⟨rfl,k,ts,c4,c5,c6,c7,c8,c9,hm,q1,q2,q3,rfl⟩
   by_cases hk:k<cells.length
   .right
    obtain ⟨cell,hcell⟩:∃ cell,cells[k]?=some cell:=⟨_,List.getElem?_eq_getElem hk⟩
    have r0:atI (cells.map PV.int) (k:Int)=some (.int cell):=yeJ (by rw [List.getElem?_map,hcell];rfl)
    have wc:=ywX ts
    have hlen:(ycl ts).length<50000:=by rw [yli];omega
    have hc:decide ((k:Int)<((cells.map PV.int).length:Int))=true:=by rw [List.length_map,decide_eq_true (by omega)]
    generalize hx:yIj cell=x
    have e0:ycg [.int cell] h1=some (.int x,h1):=by rw [yri,hx]
    by_cases b1:d=0\/x%11<6
    .obtain ⟨ps,pp,ep⟩:=yBI (h:=h1) (x/11) cell
     have hpl:=ywX ps
     have hpw:=pp.w
     have hpd:=pp.d
     refine ⟨[.val (.lst (cells.map .int)),.val (.int (d:Int)),.own (.lst (ycl (ts++ps))),.val (.int ((k+1:Nat):Int)),.val (.int cell),.val (.int x),c6,c7,c8,c9],cells.length-(k+1),?_,?_,by omega,rfl,k+1,ts++ps,_,_,_,_,_,_,rfl,?_,?_,ylV q3 pp.ok,rfl⟩
     .walk_at "px"
      rw [hc]
     .try walk_at "px"
      rw [r0]
      (try walk_at "px")
      rw [e0]
      (try walk_at "px")
      rw [ep]
      have hle:(ycl ts).length+(ycl ps).length<=100000:=by rw [yli (a:=ps)];omega
      (try walk_at "px")
      by_cases hd0:(d:Int)=0
      .rw [if_pos hd0,if_pos hle,yfe];rfl
      .rw [if_neg hd0,if_pos (by rcases b1 with b1|b1;exact absurd (by omega) hd0;exact b1),if_pos hle,yfe];rfl
     .rw [yqg];omega
     .rw [yjJ];omega
    .have hd0:¬ (d:Int)=0:=fun z=>b1 (.inl (by omega))
     have hb6:¬ x%11<6:=fun z=>b1 (.inr z)
     by_cases b2:x%33=6
     .refine ⟨[.val (.lst (cells.map .int)),.val (.int (d:Int)),.own (.lst (ycl (ts++[.wait]))),.val (.int ((k+1:Nat):Int)),.val (.int cell),.val (.int x),c6,c7,c8,c9],cells.length-(k+1),?_,?_,by omega,rfl,k+1,ts++[.wait],_,_,_,_,_,_,rfl,?_,?_,ylV (b:=[.wait]) q3 ⟨trivial,trivial⟩,rfl⟩
      .walk_at "px"
       rw [hc]
      .try walk_at "px"
       rw [r0]
       (try walk_at "px")
       rw [e0]
       (try walk_at "px")
       rw [if_neg hd0,if_neg hb6,if_pos b2,ypU rfl]
       (try walk_at "px")
       rw [if_pos (by omega),yfe]
       rfl
      .rw [yqg]
       show wL ts+(1+0)<=_
       omega
      .rw [yjJ]
       show max (ydU ts) (max 0 0)<=_
       omega
     .obtain ⟨d',rfl⟩:∃ d',d=d'+1:=⟨d-1,by omega⟩
      obtain ⟨u,hu⟩:∃ u:Nat,x/33%4=(u:Int):=⟨(x/33%4).toNat,by omega⟩
      obtain ⟨v,hv⟩:∃ v:Nat,x/132%3=(v:Int):=⟨(x/132%3).toNat,by omega⟩
      have l1:=yuY cells (k+1) (k+1+u) (by omega)
      have l2:=yuY cells (k+1+u) (k+1+u+v) (by omega)
      obtain ⟨one,p1,g1⟩:=G d' h1 (ysm cells (some ((k+1:Nat):Int)) (some ((k+1+u:Nat):Int))) (by omega) (by omega)
      obtain ⟨oth,p2,g2⟩:=G d' h1 (ysm cells (some ((k+1+u:Nat):Int)) (some ((k+1+u+v:Nat):Int))) (by omega) (by omega)
      have w1:=p1.w
      have w2:=p2.w
      rw [l1] at w1
      rw [l2] at w2
      obtain ⟨t,t1,t2,t3,t4⟩:=yBL (h:=h1) (x/396) one oth (by omega) (by omega) p1.ok p2.ok
      have dd1:=p1.d
      have dd2:=p2.d
      refine ⟨[.val (.lst (cells.map .int)),.val (.int ((d'+1:Nat):Int)),.own (.lst (ycl (ts++[t]))),.val (.int ((k+1+u+v:Nat):Int)),.val (.int cell),.val (.int x),.val (.int (u:Int)),.val (.int (v:Int)),.val (.lst (ycl one)),.val (.lst (ycl oth))],cells.length-(k+1+u+v),?_,?_,by omega,rfl,k+1+u+v,ts++[t],_,_,_,_,_,_,rfl,?_,?_,ylV q3 ⟨t3,trivial⟩,rfl⟩
      .walk_at "px"
       rw [hc]
      .try walk_at "px"
       rw [r0]
       (try walk_at "px")
       rw [e0]
       (try walk_at "px")
       rw [if_neg hd0,if_neg hb6,if_neg b2,hu,hv]
       rw [show ((d'+1:Nat):Int)-1=(d':Int) by omega,show (k:Int)+1+(u:Int)+(v:Int)=((k+1+u+v:Nat):Int) by omega,show (k:Int)+1+(u:Int)=((k+1+u:Nat):Int) by omega,show (k:Int)+1=((k+1:Nat):Int) by omega]
       rw [ynH,ynH,g1]
       (try walk_at "px")
       rw [g2]
       (try walk_at "px")
       rw [ypU rfl]
       (try walk_at "px")
       rw [t4]
       (try walk_at "px")
       rw [if_pos (by omega),yfe]
       rfl
      .rw [yqg]
       show wL ts+(wT t+0)<=_
       omega
      .rw [yjJ]
       show max (ydU ts) (max (ypX t) 0)<=_
       omega
   .left
    refine ⟨?_,k,ts,c4,c5,c6,c7,c8,c9,by omega,q2,q3,rfl⟩
    walk_at "px"
    rw [List.length_map,decide_eq_false (by omega)]
  .rintro ρ' ⟨k,ts,c4,c5,c6,c7,c8,c9,q1,q2,q3,rfl⟩
   refine ⟨ts,⟨q1,q2,q3⟩,?_⟩
   walk_at "px"
end
section
variable {h:AH}
theorem yJh {z:Str}:ycS yR [.str z,.ty "int"] h=some (.bl false,h):=rfl
theorem yJi {z:Str}:ycS yR [.str z,.ty "str"] h=some (.bl true,h):=rfl
theorem yJj {n:Nat}{xs:List PV}(e:h[n]?=some (.lst xs)):ycS yR [.loc n,.ty "int"] h=some (.bl false,h):=by
 unfold ycS ywI yeL
 simp only [e]
 rfl
theorem yJk {n:Nat}{xs:List PV}(e:h[n]?=some (.lst xs)):ycS yR [.loc n,.ty "str"] h=some (.bl false,h):=by
 unfold ycS ywI yeL
 simp only [e]
 rfl
theorem yJl {n:Nat}{xs:List PV}(e:h[n]?=some (.lst xs)):ycS yR [.loc n,.ty "tuple"] h=some (.bl false,h):=by
 unfold ycS ywI yeL
 simp only [e]
 rfl
local macro_rules | `(tactic| walk_at "pt")=>`(tactic| simp_all? only [yJR,yJS,yJT,yJU,yJV,yJW,yJX,yHf,yJh,yJi,ne_eq,not_true_eq_false])
theorem yrj {n:Nat}{z:Str}:yv (n+1) [.str z,.str z] h=some (.bl true,h):=by
 unfold yv
 rw [yD]
 show ob (yB _ _ [.val (.str z),.val (.str z),.no] h) fnK=_
 walk_at "pt"
theorem ynI {n:Nat}{xs ys:List PV}(hl:xs.length=ys.length) (hs:ys.length<=1000) (k:∀ (i:Nat) (x y:PV),xs[i]?=some x->ys[i]?=some y->yv n [x,y] h=some (.bl true,h)):yv (n+1) [.tup xs,.tup ys] h=some (.bl true,h):=by
 unfold yv
 rw [yD]
 show ob (yB _ _ [.val (.tup xs),.val (.tup ys),.no] h) fnK=_
 walk_at "pt"
 rw [hl]
 walk_at "pt"
 rw [ypT (j:=(ys.length:Int)) (h1:=h) (by walk_at "pt") (by omega) (by omega),yw]
 refine yjh (fun i ρ h1=>h1=h/\∃ c,ρ=[.val (.tup xs),.val (.tup ys),c]) ⟨rfl,.no,rfl⟩ ?_ ?_
 .rintro i x ρ h1 hx ⟨rfl,c,rfl⟩
  obtain ⟨hi,rfl⟩:=ynZ hx
  rw [Int.zero_add]
  have hi:i<ys.length:=by omega
  refine ⟨_,[.val (.tup xs),.val (.tup ys),.val (.int i)],h1,rfl,.inl ?_,rfl,_,rfl⟩
  walk_at "pt"
  rw [yeJ (List.getElem?_eq_getElem (show i<xs.length by omega)),yeJ (List.getElem?_eq_getElem hi)]
  walk_at "pt"
  rw [k i _ _ (List.getElem?_eq_getElem (show i<xs.length by omega)) (List.getElem?_eq_getElem hi)]
  walk_at "pt"
 .rintro ρ' h' ⟨rfl,c,rfl⟩
  walk_at "pt"
theorem yBM {n f g:Nat}{xs:List Int}(e1:h[f]?=some (.lst (xs.map .int))) (e2:h[g]?=some (.lst (xs.map .int))) (hs:xs.length<=1000):yv (n+2) [.loc f,.loc g] h=some (.bl true,h):=by
 unfold yv
 rw [yD]
 show ob (yB _ _ [.val (.loc f),.val (.loc g),.no] h) fnK=_
 walk_at "pt"
 rw [yJj e2]
 walk_at "pt"
 rw [yJk e2]
 walk_at "pt"
 rw [yJl e2]
 walk_at "pt"
 rw [yJY e1]
 walk_at "pt"
 rw [yqG e1]
 walk_at "pt"
 rw [yqG e2]
 walk_at "pt"
 rw [ypT (j:=(xs.length:Int)) (h1:=h) (by walk_at "pt";rw [yqG e2,List.length_map];walk_at "pt") (by omega) (by omega),yw]
 refine yjh (fun i ρ h1=>h1=h/\∃ c,ρ=[.val (.loc f),.val (.loc g),c]) ⟨rfl,.no,rfl⟩ ?_ ?_
 .rintro i x ρ h1 hx ⟨rfl,c,rfl⟩
  obtain ⟨hi,rfl⟩:=ynZ hx
  rw [Int.zero_add]
  have hi:i<(xs.map PV.int).length:=by rw [List.length_map];omega
  refine ⟨_,[.val (.loc f),.val (.loc g),.val (.int i)],h1,rfl,.inl ?_,rfl,_,rfl⟩
  walk_at "pt"
  rw [yuP e1 hi,yw,yuP e2 hi,yw,List.getElem_map,yqS]
  walk_at "pt"
 .rintro ρ' h' ⟨rfl,c,rfl⟩
  walk_at "pt"
theorem yHT:Tl []:=⟨by simp,fun x hx=>by simp at hx⟩
theorem yBN {n:Nat}(e:En):yv (n+2) [enV e,enV e] h=some (.bl true,h):=by
 cases e with
 | done =>
  refine ynI rfl (by simp) fun i x y hx hy=>?_
  match i,hx,hy with
  | 0,hx,hy=>cases hx;cases hy;exact yrj
 | waits =>
  refine ynI rfl (by simp) fun i x y hx hy=>?_
  match i,hx,hy with
  | 0,hx,hy=>cases hx;cases hy;exact yrj
 | fell nm v =>
  refine ynI rfl (by simp) fun i x y hx hy=>?_
  match i,hx,hy with
  | 0,hx,hy=>cases hx;cases hy;exact yrj
  | 1,hx,hy=>cases hx;cases hy;exact yrj
  | 2,hx,hy=>cases hx;cases hy;exact yqS
theorem ytr {a1 a2 a3 lf:Nat}{e:En}{xs ys:List PV}{hs:List Int}(e1:h[a1]?=some (.lst xs)) (e2:h[a2]?=some (.lst ys)) (e3:h[a3]?=some (.lst (hs.map .int))) (e4:h[lf]?=some (.lst (hs.map .int))) (h8:hs.length=8) (t1:Tl xs) (t2:Tl ys) :
  yv 5 [.tup [enV e,.loc a1,.loc a2,.loc a3],.tup [enV e,.lst xs,.lst ys,.loc lf]] h=some (.bl true,h):=by
 refine ynI rfl (by simp) fun i x y hx hy=>?_
 match i,hx,hy with
 | 0,hx,hy=>cases hx;cases hy;exact yBN e
 | 1,hx,hy=>cases hx;cases hy;exact yze e1 t1
 | 2,hx,hy=>cases hx;cases hy;exact yze e2 t2
 | 3,hx,hy=>cases hx;cases hy;exact yBM e3 e4 (by omega)
end
section
variable {h:AH}{a c w:Nat}{σ:AS}{bx:List Int}
noncomputable def yzx (h:AH) (c:Nat) (s:Vw):Prop:=∃ sj sv,h[c]?=some (.dct (sj.map .inl) (sv.map PV.int))/\ID sj sv/\∀ j,gI (sj.map .inl,sv.map PV.int) j=s j
theorem LS.seen (L:LS h a c w σ):yzx h c σ.s:=by
 obtain ⟨⟨sj,sv,_,_,e1,_,i1,_,f1,_⟩,_⟩:=L
 exact ⟨sj,sv,e1,i1,f1⟩
theorem LS.re {h':AH}{s:Vw}(L:LS h a c w σ) (F:Frm (·≠c) h h') (S:yzx h' c s):LS h' a c w ⟨σ.hs,σ.v,s⟩:=by
 obtain ⟨⟨sj,sv,wj,wv,e1,e2,i1,i2,f1,f2⟩,hh,⟨n1,n2,n3⟩,h8,nh,nv⟩:=L
 obtain ⟨sj',sv',g1,g2,g3⟩:=S
 exact ⟨⟨sj',sv',wj,wv,g1,F.get (Ne.symm n3) e2,g2,i2,g3,f2⟩,F.get n1 hh,⟨n1,n2,n3⟩,h8,nh,nv⟩
theorem LS.copy (L:LS h a c w σ):∃ d:Nd,ybU [.loc a] h=some (.lst (σ.hs.map .int),h)/\ykl [.loc w] (h++[Nd.lst (σ.hs.map .int)])=some (d,h++[Nd.lst (σ.hs.map .int)])/\LS (h++[Nd.lst (σ.hs.map .int)]++[d]) h.length c (h.length+1) σ:=by
 obtain ⟨⟨sj,sv,wj,wv,e1,e2,i1,i2,f1,f2⟩,hh,⟨n1,n2,n3⟩,h8,nh,nv⟩:=L
 have lc:=ykU e1
 exact ⟨_,yjG hh,yBm (ydA e2),⟨⟨sj,sv,wj,wv,ydA (ydA e1),by simp,i1,i2,f1,f2⟩,by simp,⟨by omega,by omega,by omega⟩,h8,nh,nv⟩⟩
noncomputable def yFy (h:AH) (c:Nat) (y:PV):En×AS->Prop
 | (.done,τ)=>∃ a w,y=.tup [.loc a,.loc w]/\LS h a c w τ
 | (.waits,τ)=>y=.non/\yzx h c τ.s
 | (.fell ..,_)=>False
noncomputable def yJm (bx:List Int) (c n:Nat):Prop:=∀ (us:List T) (h:AH) (a w:Nat) (σ:AS),2*ydU us+2<=n->okL us->LS h a c w σ ->
 ∃ h' y,ygj n [.lst (ycl us),.lst (bx.map .int),.loc c,.loc a,.loc w] h=some (y,h')/\yFy h' c y (evL bx us σ)/\Frm (·≠c) h h'
noncomputable def yKa (bx:List Int) (c n:Nat):Prop:=∀ (u:T) (h:AH) (a w:Nat) (σ:AS),2*ypX u+1<=n->okT u->LS h a c w σ ->
 ∃ h' y,yde n [ypn u,.lst (bx.map .int),.loc c,.loc a,.loc w] h=some (y,h')/\yFy h' c y (evT bx u σ)/\Frm (·≠c) h h'
theorem yJn {n:Nat}(G:yKa bx c n):yJm bx c (n+1):=by
 intro us h a w σ hd hu L
 have key:∀ (ds:List PV) (us:List T) (h:AH) (a w:Nat) (σ:AS) (c5 c6:PVar),2*ydU us+1<=n->okL us->LS h a c w σ->∃ h' y,
   ob (yph (yJ 5) (yB (yes (ydt (yde n) (yd (yh 5) (yd (yh 1) (yd (yh 2) (yd (yh 3) (yd (yh 4) (yu))))))) (yJ 6)) (yB (ydH (yU (xOp (yEf) (yh 6) (xC .non))) (ycN (xC .non)) (ybQ)) (yes (yh 6) (yFt 2 (yuy (yJ 3) (yuy (yJ 4) (yGs))))))) (ycl us) [.val (.lst ds),.val (.lst (bx.map .int)),.val (.loc c),.val (.loc a),.val (.loc w),c5,c6] h)
    (fun o h1=>ob (sqK (ycN (ykg (yd (yh 3) (yd (yh 4) (yu))))) o h1) fnK)=some (y,h')/\yFy h' c y (evL bx us σ)/\Frm (·≠c) h h':=by
  intro ds us
  induction us with
  | nil =>
   intro h a w σ c5 c6 _ _ L
   exact ⟨h,_,rfl,⟨a,w,rfl,L⟩,Frm.refl⟩
  | cons u us ih =>
   intro h a w σ c5 c6 hd hu L
   have hd:2*max (ypX u) (ydU us)+1<=n:=hd
   obtain ⟨h1,y,e1,O,F1⟩:=G u h a w σ (by omega) hu.1 L
   show ∃ h' y,ob (yph _ _ (ypn u::ycl us) _ h) _=some (y,h')/\yFy h' c y (match evT bx u σ with|(.done,τ)=>evL bx us τ|(.waits,τ)=>(.waits,τ)|(.fell nm v,τ)=>(.fell nm v,τ))/\_
   rw [yyl,show yJ 5 (ypn u) [.val (.lst ds),.val (.lst (bx.map .int)),.val (.loc c),.val (.loc a),.val (.loc w),c5,c6]=some [.val (.lst ds),.val (.lst (bx.map .int)),.val (.loc c),.val (.loc a),.val (.loc w),.val (ypn u),c6] from rfl,Option.bind_some]
   walk_at "pk"
   rw [e1,yw]
   generalize evT bx u σ=r at *
   obtain ⟨e,τ⟩:=r
   cases e with
   | done =>
    obtain ⟨a',w',rfl,L1⟩:=O
    obtain ⟨h2,y2,e2,O2,F2⟩:=ih h1 a' w' τ (.val (ypn u)) (.val (.tup [.loc a',.loc w'])) (by omega) hu.2 L1
    refine ⟨h2,y2,?_,O2,F1.trans F2⟩
    walk_at "pk"
    exact e2
   | waits =>
    obtain ⟨rfl,S⟩:=O
    exact ⟨h1,.non,rfl,⟨rfl,S⟩,F1⟩
   | fell nm v=>exact O.elim
 obtain ⟨h',y,e,O,F⟩:=key (ycl us) us h a w σ .no .no (by omega) hu L
 refine ⟨h',y,?_,O,F⟩
 unfold ygj
 rw [yD]
 show ob (yB _ _ [.val (.lst (ycl us)),.val (.lst (bx.map .int)),.val (.loc c),.val (.loc a),.val (.loc w),.no,.no] h) fnK=_
 rw [yjc,ypj,show xIL (yh 0) [PVar.val (.lst (ycl us)),.val (.lst (bx.map .int)),.val (.loc c),.val (.loc a),.val (.loc w),.no,.no] h=some (ycl us,h) from rfl,yw,ynX]
 exact e
theorem yhu {n:Nat}{u:T}(hp:ywh u) (hu:okT u) (b1:1<=bx.length) (b16:bx.length<=16) (nb:∀ v∈bx,N64 v) (L:LS h a c w σ):∃ h' y,yde (n+1) [ypn u,.lst (bx.map .int),.loc c,.loc a,.loc w] h=some (y,h')/\(∃ a w,y=.tup [.loc a,.loc w]/\LS h' a c w (evP bx u σ))/\Frm (·≠c) h h':=by
 obtain ⟨d,k1,k2,L1⟩:=L.copy
 obtain ⟨h',e,L2,F⟩:=ywW hp hu b1 b16 nb L1
 have F':Frm (·≠c) h h':=by
  refine ⟨by rw [F.1];simp,fun n hn hx=>(F.2 n (by omega) hx (by omega)).trans ?_⟩
  rw [List.append_assoc,List.getElem?_append_left hn]
 refine ⟨h',_,?_,⟨_,_,rfl,L2⟩,F'⟩
 unfold yde
 rw [yD]
 show ob (yB _ _ [.val (ypn u),.val (.lst (bx.map .int)),.val (.loc c),.val (.loc a),.val (.loc w),.no,.no] h) fnK=_
 cases u<;>first|exact hp.elim|skip
 all_goals
  simp only [ypn] at e ⊢
  walk_at "pk"
  rw [k1,yw,k2]
  walk_at "pk"
  rw [List.length_append]
  rw [show h.length+[Nd.lst (σ.hs.map .int)].length=h.length+1 from rfl,e,yw]
theorem yJo {n:Nat}(G:yJm bx c n) (b1:1<=bx.length) (b16:bx.length<=16) (nb:∀ v∈bx,N64 v):yKa bx c (n+1):=by
 intro u h a w σ hd hu L
 cases u with
 | let_ r n=>exact yhu (u:=.let_ r n) trivial hu b1 b16 nb L
 | reckon v r p q=>exact yhu (u:=.reckon v r p q) trivial hu b1 b16 nb L
 | take r p=>exact yhu (u:=.take r p) trivial hu b1 b16 nb L
 | put p q=>exact yhu (u:=.put p q) trivial hu b1 b16 nb L
 | try_ x nm r y=>exact hu.1.elim
 | throw nm r=>exact hu.1.elim
 | wait =>
  refine ⟨h,.non,?_,⟨rfl,L.seen⟩,Frm.refl⟩
  unfold yde
  rw [yD]
  show ob (yB _ _ [.val (.tup [.str "wait"]),.val (.lst (bx.map .int)),.val (.loc c),.val (.loc a),.val (.loc w),.no,.no] h) fnK=_
  walk_at "pk"
 | if_ r x y =>
  have hd:2*(1+max (ydU x) (ydU y))+1<=n+1:=hd
  obtain ⟨k1,k2,k3⟩:=hu
  have ix:=yuR L.hh (show sx r<σ.hs.length by rw [L.h8];exact yqT k1)
  unfold yde
  rw [yD]
  show ∃ h' z,ob (yB _ _ [.val (.tup [.str "if",.str r,.lst (ycl x),.lst (ycl y)]),.val (.lst (bx.map .int)),.val (.loc c),.val (.loc a),.val (.loc w),.no,.no] h) fnK=some (z,h')/\yFy h' c z (if σ.at_ r≠0 then evL bx x σ else evL bx y σ)/\_
  walk_at "pk"
  rw [ygW k1,yw,ix]
  walk_at "pk"
  by_cases hz:σ.hs.getD (sx r) 0=0
  .obtain ⟨h',z,e,O,F⟩:=G y h a w σ (by omega) k3 L
   rw [if_neg (show ¬ σ.at_ r≠0 from fun q=>q hz)]
   refine ⟨h',z,?_,O,F⟩
   simp only [hz]
   walk_at "pk"
   rw [e,yw]
  .obtain ⟨h',z,e,O,F⟩:=G x h a w σ (by omega) k2 L
   rw [if_pos (show σ.at_ r≠0 from hz)]
   refine ⟨h',z,?_,O,F⟩
   simp only [hz]
   walk_at "pk"
   rw [e,yw]
 | either x y =>
  have hd:2*(1+max (ydU x) (ydU y))+1<=n+1:=hd
  obtain ⟨-,k2,k3⟩:=hu
  obtain ⟨d,c1,c2,L1⟩:=L.copy
  obtain ⟨h1,z,e1,O1,F1⟩:=G x _ _ _ σ (by omega) k2 L1
  have F0:Frm (·≠c) h h1:=(Frm.refl.app.app).trans F1
  unfold yde
  rw [yD]
  show ∃ h' z,ob (yB _ _ [.val (.tup [.str "either",.lst (ycl x),.lst (ycl y)]),.val (.lst (bx.map .int)),.val (.loc c),.val (.loc a),.val (.loc w),.no,.no] h) fnK=some (z,h')/\yFy h' c z (match evL bx x σ with|(.waits,τ)=>evL bx y ⟨σ.hs,σ.v,τ.s⟩|(.fell nm v,τ)=>(.fell nm v,⟨σ.hs,σ.v,τ.s⟩)|(.done,τ)=>(.done,τ))/\_
  walk_at "pk"
  rw [c1,yw,c2]
  walk_at "pk"
  rw [List.length_append,show h.length+[Nd.lst (σ.hs.map .int)].length=h.length+1 from rfl,e1,yw]
  generalize evL bx x σ=r at *
  obtain ⟨e,τ⟩:=r
  cases e with
  | done =>
   obtain ⟨a',w',rfl,L2⟩:=O1
   exact ⟨h1,_,rfl,⟨a',w',rfl,L2⟩,F0⟩
  | waits =>
   obtain ⟨rfl,S⟩:=O1
   obtain ⟨h',z,e,O,F⟩:=G y h1 a w _ (by omega) k3 (L.re F0 S)
   refine ⟨h',z,?_,O,F0.trans F⟩
   rw [if_pos (show isN PV.non=true from rfl),e,yw]
  | fell nm v=>exact O1.elim
theorem yHU (b1:1<=bx.length) (b16:bx.length<=16) (nb:∀ v∈bx,N64 v):∀ n,yJm bx c n
 | 0=>fun us h a w σ hd=>by omega
 | 1=>fun us h a w σ hd=>by omega
 | n+2=>yJn (yJo (yHU b1 b16 nb n) b1 b16 nb)
end
section
variable {h:AH}
theorem yFn {g:XG}{x:PV}{ρ ρ1:PSt}{s:XS}{h:AH}{M:Out->AH->Prop}(e:g x ρ=some ρ1) (q:∃ r,s ρ1 h=some r/\M r.1 r.2):∃ ρ1 o h',g x ρ=some ρ1/\s ρ1 h=some (o,h')/\M o h' :=
 let ⟨r,q1,q2⟩:=q;⟨ρ1,r.1,r.2,e,q1,q2⟩
theorem yHV (ns:List Int) (hl:ns.length<=63):∃ h',yBv [.scr ns] h=some (.bl true,h'):=by
 unfold yBv
 rw [yD]
 show ∃ h',ob (yB _ _ [.val (.scr ns),.no,.no,.no,.no,.no,.no,.no,.no] h) fnK=_
 walk_at "px"
 have hmax:yyw [.int 1,.int (ns.length:Int)] h=some (.int (max 1 (ns.length:Int)),h):=by
  unfold yyw
  show some (PV.int (if (ns.length:Int)>1 then (ns.length:Int) else 1),h)=_
  congr 3
  split<;>omega
 rw [yGK (i:=0) (j:=max 1 (ns.length:Int)) (c:=11) (h1:=h) (by walk_at "px";rw [hmax];walk_at "px") (by omega),yw]
 refine yyx (P:=fun (q:Option (PV×AH))=>∃ h',q=some (.bl true,h')) (fun i ρ h1=>∃ c1 c2 c3 c4 c5 c6 c7 c8:PVar,ρ=[.val (.scr ns),c1,c2,c3,c4,c5,c6,c7,c8]) (fun _ _=>False) ⟨.no,.no,.no,.no,.no,.no,.no,.no,rfl⟩ ?_ ?_ (fun _ _ z=>z.elim)
 .rintro i x ρ h1 hx ⟨c1,c2,c3,c4,c5,c6,c7,c8,rfl⟩
  obtain ⟨k,rfl⟩:∃ k:Nat,x=.int (k:Int):=by
   unfold yCD at hx
   rw [List.getElem?_map] at hx
   obtain ⟨j,hj,rfl⟩:=Option.map_eq_some_iff.mp hx
   exact ⟨j*11,by simp⟩
  have hcl:(ysm ns (some (k:Int)) (some ((k:Int)+11))).length<=12:=by
   have:=yuY ns k (k+11) (by omega)
   rw [show (k:Int)+11=((k+11:Nat):Int) by omega]
   omega
  generalize hcs:ysm ns (some (k:Int)) (some ((k:Int)+11))=cs at hcl
  have hs:∀ lo hi,yFu [.lst (ysm (cs.map PV.int) lo hi)] h1=some (.int (ysm cs lo hi).sum,h1):=fun lo hi=>by
   rw [ynH]
   unfold yFu yeL
   simp only [ypN]
  obtain ⟨ts,pl,et⟩:=yzw 5 3 h1 cs (by omega) hcl
  have wl:=pl.w
  have dl:=pl.d
  obtain ⟨bx,b1,b16,nb,eb⟩:=yBJ (h:=h1) ((ysm cs (some 1) (some 2)).sum+k)
  obtain ⟨sl,h8,nh,es⟩:=yBK (h:=h1) ((ysm cs none (some 1)).sum+k)
  have gx:∀ (X:List Nd) (k:Nat),(h1++X)[h1.length+k]?=X[k]?:=fun X k=>by rw [List.getElem?_append_right (Nat.le_add_right _ _),Nat.add_sub_cancel_left]
  have L0:LS (h1++[Nd.lst (sl.map .int)]++[Nd.dct [] []]++[Nd.lst (sl.map .int)]++[Nd.dct [] []]) (h1.length+2) (h1.length+1) (h1.length+3) ⟨sl,fun _=>none,fun _=>none⟩:=by
   rw [show h1++[Nd.lst (sl.map .int)]++[Nd.dct [] []]++[Nd.lst (sl.map .int)]++[Nd.dct [] []]=h1++[Nd.lst (sl.map .int),.dct [] [],.lst (sl.map .int),.dct [] []] by simp]
   exact ⟨⟨[],[],[],[],gx _ 1,gx _ 3,⟨by simp,by simp,rfl⟩,⟨by simp,by simp,rfl⟩,fun _=>rfl,fun _=>rfl⟩,gx _ 2,by omega,h8,nh,fun j v e=>nomatch e⟩
  obtain ⟨h6,y,e6,O,F6⟩:=yHU b1 b16 nb 20 ts _ _ _ _ (by omega) pl.ok L0
  have eS:h6[h1.length]?=some (.lst (sl.map .int)):=F6.get (show h1.length≠h1.length+1 by omega) (ydA (ydA (ydA (by simp))))
  obtain ⟨h7,r,e7,⟨a1,rfl,ha,g1,g2,g3⟩,F7,g8⟩:=yzp (h:=h6) (us:=ts) (x:=.lst (bx.map .int)) (y:=.lst (sl.map .int)) pl.ok (by omega) LV.lst LV.lst (fun h2 _=>yhR) h8 b1 b16 nh nb
  have eS7:=F7.get (ykU eS) eS
  refine yFn rfl ?_
  walk_at "px"
  rw [ynH,hcs,show (3:Int)=((3:Nat):Int) from rfl,et]
  walk_at "px"
  rw [hs]
  walk_at "px"
  rw [eb]
  walk_at "px"
  rw [hs]
  walk_at "px"
  rw [es]
  walk_at "px"
  simp only [yzn,yw]
  rw [yjG (n:=h1.length) (xs:=sl.map .int) (ydA (by simp))]
  simp only [yzn,yw]
  simp only [List.length_append,List.length_cons,List.length_nil,Nat.zero_add,Nat.add_assoc,Nat.reduceAdd]
  rw [e6]
  generalize evL bx ts ⟨sl,fun _=>none,fun _=>none⟩=q at *
  obtain ⟨e,τ⟩:=q
  dsimp only at e7 g1 g2 g3 g8
  cases e with
  | fell nm v=>exact O.elim
  | waits =>
   obtain ⟨rfl,sj,sv,q1,q2,q3⟩:=O
   rw [yw,ynG q1 q2 q3,yw,if_neg (show ¬ isN PV.non=false from fun z=>by cases z)]
   rw [yuV 7 ts (by omega) (by omega) pl.ok]
   walk_at "px"
   rw [yjG eS]
   walk_at "px"
   rw [e7,yw]
   have al:yv 5 [.tup [enV .waits,.loc a1,.loc (a1+1),.loc (a1+2)],.tup [.tup [.str "waits"],.lst (yjQ τ.s),.lst [],.loc h1.length]] h7=some (.bl true,h7):=ytr (e:=.waits) g1 g2 g3 eS7 g8 (yrh _) yHT
   rw [al]
   walk_at "px"
   exact ⟨_,rfl,_,_,_,_,_,_,_,_,rfl⟩
  | done =>
   obtain ⟨a,w,rfl,⟨⟨sj,sv,wj,wv,q1,q2,i1,i2,f1,f2⟩,hh,_⟩⟩:=O
   rw [yw,ynG q1 i1 f1,yw,if_pos (show isN (PV.tup [.loc a,.loc w])=false from rfl),ynG q1 i1 f1,yw]
   walk_at "px"
   rw [ynG q2 i2 f2]
   walk_at "px"
   rw [yuV 7 ts (by omega) (by omega) pl.ok]
   walk_at "px"
   rw [yjG eS]
   walk_at "px"
   rw [e7,yw]
   have al:yv 5 [.tup [enV .done,.loc a1,.loc (a1+1),.loc (a1+2)],.tup [.tup [.str "done"],.lst (yjQ τ.s),.lst (yjQ τ.v),.loc a]] h7=some (.bl true,h7):=ytr (e:=.done) g1 g2 g3 (F7.get (ykU hh) hh) g8 (yrh _) (yrh _)
   rw [al]
   walk_at "px"
   exact ⟨_,rfl,_,_,_,_,_,_,_,_,rfl⟩
 .rintro ρ' h' ⟨c1,c2,c3,c4,c5,c6,c7,c8,rfl⟩
  (try walk_at "px")
  exact ⟨_,rfl⟩
end
end
noncomputable def top (i:Nat):Stmt:=PySem.Challenge.pw_retryhall_k17_alone_either.main.body.getD i (.Pass ⟨0,0,0,0⟩)
noncomputable abbrev ybD:Stmt:=inClass (top 2) 0
noncomputable abbrev ydf:Stmt:=inClass (top 2) 1
noncomputable abbrev yff:Stmt:=inClass (top 2) 2
noncomputable abbrev ydg:Stmt:=inClass (top 2) 3
noncomputable abbrev ycA:Stmt:=inClass (top 2) 4
noncomputable abbrev yee:Stmt:=inClass (top 2) 5
noncomputable abbrev yfg:Stmt:=inClass (top 2) 7
noncomputable abbrev yfh:Stmt:=inClass (top 2) 8
noncomputable abbrev ydh:Stmt:=inClass (top 2) 9
noncomputable abbrev ygI:Stmt:=top 6
noncomputable abbrev ycB:Stmt:=top 7
noncomputable abbrev ybr:Stmt:=inClass (top 9) 0
noncomputable abbrev ybE:Stmt:=inClass (top 9) 1
noncomputable abbrev ydi:Stmt:=inClass (top 9) 2
noncomputable abbrev ybW:Stmt:=inClass (top 9) 3
noncomputable abbrev ybi:Stmt:=inClass (top 9) 4
noncomputable abbrev ybX:Stmt:=inClass (top 9) 5
noncomputable abbrev ybF:Stmt:=inClass (top 9) 6
noncomputable abbrev ybs:Stmt:=inClass (top 9) 7
noncomputable abbrev ybj:Stmt:=inClass (top 9) 8
noncomputable abbrev ybG:Stmt:=inClass (top 12) 0
noncomputable abbrev ybd:Stmt:=inClass (top 13) 0
noncomputable abbrev ybt:Stmt:=inClass (top 14) 0
noncomputable abbrev ybH:Stmt:=inClass (top 15) 0
noncomputable abbrev ybk:Stmt:=inClass (top 25) 0
noncomputable abbrev ybe:Stmt:=inClass (top 25) 8
noncomputable abbrev yV:Stmt:=inClass (top 25) 7
noncomputable abbrev ybl:Stmt:=inClass (top 25) 1
noncomputable abbrev ybm:Stmt:=inClass (top 25) 2
noncomputable abbrev ybI:Stmt:=inClass (top 25) 3
noncomputable abbrev yW:Stmt:=inClass (top 25) 4
noncomputable abbrev ybu:Stmt:=inClass (top 25) 5
noncomputable abbrev yL:Stmt:=inClass (top 25) 6
noncomputable abbrev yiq:Stmt:=top 24
noncomputable abbrev ybY:Stmt:=inClass (top 16) 0
noncomputable abbrev ybf:Stmt:=inClass (top 17) 0
noncomputable abbrev ycC:Stmt:=top 27
noncomputable abbrev ydj:Stmt:=top 28
noncomputable abbrev ycD:Stmt:=top 29
noncomputable abbrev ycE:Stmt:=top 30
noncomputable abbrev ycF:Stmt:=top 31
noncomputable abbrev ydk:Stmt:=top 32
noncomputable abbrev ydl:Stmt:=top 33
noncomputable abbrev ycG:Stmt:=top 34
noncomputable abbrev ycH:Stmt:=top 35
noncomputable abbrev yef:Stmt:=top 36
noncomputable abbrev ybJ:Stmt:=top 37
noncomputable abbrev ycI:Stmt:=top 38
noncomputable abbrev yfi:Stmt:=top 39
noncomputable abbrev ydm:Stmt:=top 40
noncomputable abbrev ynk:Stmt:=top 41
theorem yoz:yq ["self"] ["self"] (yc ybD):=⟨rfl,rfl,rfl,by decide +kernel,rfl,by decide +kernel,by decide +kernel⟩
theorem ymR:yq ["self","box","number","top"] ["self","box","number"] (yc ydf):=⟨rfl,rfl,rfl,by decide +kernel,rfl,by decide +kernel,by decide +kernel⟩
theorem yqh:yq ["self","box","layer"] ["self","box"] (yc yff):=⟨rfl,rfl,rfl,by decide +kernel,rfl,by decide +kernel,by decide +kernel⟩
theorem yts:yq ["self"] ["self"] (yc ydg):=⟨rfl,rfl,rfl,by decide +kernel,rfl,by decide +kernel,by decide +kernel⟩
theorem yir:yq ["self","top","beneath"] ["self"] (yc ycA):=⟨rfl,rfl,rfl,by decide +kernel,rfl,by decide +kernel,by decide +kernel⟩
theorem yuZ:yq ["self"] ["self"] (yc yee):=⟨rfl,rfl,rfl,by decide +kernel,rfl,by decide +kernel,by decide +kernel⟩
theorem ywZ:yq ["self","box","number"] ["self","box","number"] (yc yfg):=⟨rfl,rfl,rfl,by decide +kernel,rfl,by decide +kernel,by decide +kernel⟩
theorem yxa:yq ["self"] ["self"] (yc yfh):=⟨rfl,rfl,rfl,by decide +kernel,rfl,by decide +kernel,by decide +kernel⟩
theorem ymS:yq ["self","lowest"] ["self"] (yc ydh):=⟨rfl,rfl,rfl,by decide +kernel,rfl,by decide +kernel,by decide +kernel⟩
theorem yzy:yq ["word","one","other"] ["word","one","other"] (yc ygI):=⟨rfl,rfl,rfl,by decide +kernel,rfl,by decide +kernel,by decide +kernel⟩
theorem yrk:yq ["slot"] ["slot"] (yc ycB):=⟨rfl,rfl,rfl,by decide +kernel,rfl,by decide +kernel,by decide +kernel⟩
theorem ynl:yq ["self","slots","width"] ["self","slots","width"] (yc ybr):=⟨rfl,rfl,rfl,by decide +kernel,rfl,by decide +kernel,by decide +kernel⟩
theorem yoA:yq ["self","slot"] ["self","slot"] (yc ybE):=⟨rfl,rfl,rfl,by decide +kernel,rfl,by decide +kernel,by decide +kernel⟩
theorem ytt:yq ["self","slot","number"] ["self","slot","number"] (yc ydi):=⟨rfl,rfl,rfl,by decide +kernel,rfl,by decide +kernel,by decide +kernel⟩
theorem ypo:yq ["self","place"] ["self","place"] (yc ybW):=⟨rfl,rfl,rfl,by decide +kernel,rfl,by decide +kernel,by decide +kernel⟩
theorem ylW:yq ["self","word","slot","one","other"] ["self","word","slot","one","other"] (yc ybi):=⟨rfl,rfl,rfl,by decide +kernel,rfl,by decide +kernel,by decide +kernel⟩
theorem ypp:yq ["self","place","slot"] ["self","place","slot"] (yc ybX):=⟨rfl,rfl,rfl,by decide +kernel,rfl,by decide +kernel,by decide +kernel⟩
theorem yoB:yq ["self","place"] ["self","place"] (yc ybF):=⟨rfl,rfl,rfl,by decide +kernel,rfl,by decide +kernel,by decide +kernel⟩
theorem ynm:yq ["self","slot","place"] ["self","slot","place"] (yc ybs):=⟨rfl,rfl,rfl,by decide +kernel,rfl,by decide +kernel,by decide +kernel⟩
theorem yig:yq ["self","slot","place","numbers","box"] ["self","slot","place","numbers"] (yc ybj):=⟨rfl,rfl,rfl,by decide +kernel,rfl,by decide +kernel,by decide +kernel⟩
theorem yoC:yq ["self","slot","number"] ["self","slot","number"] (yc ybG):=⟨rfl,rfl,rfl,by decide +kernel,rfl,by decide +kernel,by decide +kernel⟩
theorem ylj:yq ["self","word","slot","one","other"] ["self","word","slot","one","other"] (yc ybd):=⟨rfl,rfl,rfl,by decide +kernel,rfl,by decide +kernel,by decide +kernel⟩
theorem ynn:yq ["self","slot","place"] ["self","slot","place"] (yc ybt):=⟨rfl,rfl,rfl,by decide +kernel,rfl,by decide +kernel,by decide +kernel⟩
theorem yoD:yq ["self","place","slot"] ["self","place","slot"] (yc ybH):=⟨rfl,rfl,rfl,by decide +kernel,rfl,by decide +kernel,by decide +kernel⟩
theorem ylX:yq ["self","boxes","slots"] ["self","boxes","slots"] (yc ybk):=⟨rfl,rfl,rfl,by decide +kernel,rfl,by decide +kernel,by decide +kernel⟩
theorem ylk:yq ["self","part"] ["self","part"] (yc ybe):=⟨rfl,rfl,rfl,by decide +kernel,rfl,by decide +kernel,by decide +kernel⟩
theorem yko:yq ["self","part"] ["self","part"] (yc yV):=⟨rfl,rfl,rfl,by decide +kernel,rfl,by decide +kernel,by decide +kernel⟩
theorem yfC:yq ["self","parts","part","end"] ["self","parts"] (yc ybl):=⟨rfl,rfl,rfl,by decide +kernel,rfl,by decide +kernel,by decide +kernel⟩
theorem ylY:yq ["self","part"] ["self","part"] (yc ybm):=⟨rfl,rfl,rfl,by decide +kernel,rfl,by decide +kernel,by decide +kernel⟩
theorem yoE:yq ["self","part"] ["self","part"] (yc ybI):=⟨rfl,rfl,rfl,by decide +kernel,rfl,by decide +kernel,by decide +kernel⟩
theorem ygX:yq ["self","part","end"] ["self","part"] (yc yW):=⟨rfl,rfl,rfl,by decide +kernel,rfl,by decide +kernel,by decide +kernel⟩
theorem yiP:yq ["self","part","end"] ["self","part"] (yc ybu):=⟨rfl,rfl,rfl,by decide +kernel,rfl,by decide +kernel,by decide +kernel⟩
theorem yeq:yq ["self","parts","before","end"] ["self","parts"] (yc yL):=⟨rfl,rfl,rfl,by decide +kernel,rfl,by decide +kernel,by decide +kernel⟩
theorem sc_alone:yq ["deed","boxes","slots","doing","end"] ["deed","boxes","slots"] (yc yiq):=⟨rfl,rfl,rfl,by decide +kernel,rfl,by decide +kernel,by decide +kernel⟩
theorem ypq:yq ["self","slot","parts","others"] ["self","slot","parts","others"] (yc ybY):=⟨rfl,rfl,rfl,by decide +kernel,rfl,by decide +kernel,by decide +kernel⟩
theorem yll:yq ["self","parts","others"] ["self","parts","others"] (yc ybf):=⟨rfl,rfl,rfl,by decide +kernel,rfl,by decide +kernel,by decide +kernel⟩
theorem yrl:yq ["_law_cell"] ["_law_cell"] (yc ycC):=⟨rfl,rfl,rfl,by decide +kernel,rfl,by decide +kernel,by decide +kernel⟩
theorem ytu:yq ["_law_cell"] ["_law_cell"] (yc ydj):=⟨rfl,rfl,rfl,by decide +kernel,rfl,by decide +kernel,by decide +kernel⟩
theorem ylm:yq ["_law_found","_law_due","_law_k"] ["_law_found","_law_due"] (yc ycD):=⟨rfl,rfl,rfl,by decide +kernel,rfl,by decide +kernel,by decide +kernel⟩
theorem ybv:yq ["_law_mixed_here","_law_cell","_law_letters","_law_many","_law_rest","_law_one","_law_other","_law_third","_law_way","_law_word","_law_tree_here"] ["_law_mixed_here","_law_cell"] (yc ycE):=⟨rfl,rfl,rfl,by decide +kernel,rfl,by decide +kernel,by decide +kernel⟩
theorem yfj:yq ["_law_mixed_here","_law_one","_law_other","_law_slot"] ["_law_mixed_here","_law_one","_law_other"] (yc ycF):=⟨rfl,rfl,rfl,by decide +kernel,rfl,by decide +kernel,by decide +kernel⟩
theorem ybz:yq ["_law_cells","_law_depth","_law_tree_here","_law_at","_law_cell","_law_mixed_here","_law_many","_law_more","_law_one","_law_other"] ["_law_cells","_law_depth"] (yc ydk):=⟨rfl,rfl,rfl,by decide +kernel,rfl,by decide +kernel,by decide +kernel⟩
theorem yjm:yq ["_law_tree_here","_law_made_here","_law_part_here"] ["_law_tree_here"] (yc ydl):=⟨rfl,rfl,rfl,by decide +kernel,rfl,by decide +kernel,by decide +kernel⟩
theorem yeg:yq ["_law_cell","_law_mixed_here","_law_many","_law_boxes_here","_law_k","_law_some"] ["_law_cell"] (yc ycG):=⟨rfl,rfl,rfl,by decide +kernel,rfl,by decide +kernel,by decide +kernel⟩
theorem yis:yq ["_law_cell","_law_mixed_here","_law_slots_here"] ["_law_cell"] (yc ycH):=⟨rfl,rfl,rfl,by decide +kernel,rfl,by decide +kernel,by decide +kernel⟩
theorem yva:yq ["_law_word","_law_one","_law_other"] ["_law_word","_law_one","_law_other"] (yc yef):=⟨rfl,rfl,rfl,by decide +kernel,rfl,by decide +kernel,by decide +kernel⟩
theorem ydV:yq ["_law_part_here","_law_boxes_here","_law_saw","_law_slots_here","_law_written","_law_one","_law_other","_law_box"] ["_law_part_here","_law_boxes_here","_law_saw","_law_slots_here","_law_written"] (yc ybJ):=⟨rfl,rfl,rfl,by decide +kernel,rfl,by decide +kernel,by decide +kernel⟩
theorem yrm:yq ["_law_found"] ["_law_found"] (yc ycI):=⟨rfl,rfl,rfl,by decide +kernel,rfl,by decide +kernel,by decide +kernel⟩
theorem yih:yq ["_law_tree_here","_law_boxes_here","_law_saw","_law_slots_here","_law_written","_law_part_here","_law_found"] ["_law_tree_here","_law_boxes_here","_law_saw","_law_slots_here","_law_written"] (yc yfi):=⟨rfl,rfl,rfl,by decide +kernel,rfl,by decide +kernel,by decide +kernel⟩
theorem ygk:yq ["_law_part_here","_law_boxes_here","_law_saw","_law_slots_here","_law_written","_law_side","_law_found"] ["_law_part_here","_law_boxes_here","_law_saw","_law_slots_here","_law_written"] (yc ydm):=⟨rfl,rfl,rfl,by decide +kernel,rfl,by decide +kernel,by decide +kernel⟩
theorem sc_law:yq ["_law_script","_law_at","_law_cells","_law_tree_here","_law_boxes_here","_law_slots_here","_law_saw","_law_found","_law_due"] ["_law_script"] (yc ynk):=⟨rfl,rfl,rfl,by decide +kernel,rfl,by decide +kernel,by decide +kernel⟩
structure Ads where
 A:Nat->Addr
 yfO:Addr
 yfP:FuncData
 yit:Addr
 yiu:FuncData
 yjn:Addr
 yjo:FuncData
 yiv:Addr
 yiw:FuncData
 yhv:Addr
 yhw:FuncData
 yjK:Addr
 yjL:FuncData
 yln:Addr
 ylo:FuncData
 ylp:Addr
 ylq:FuncData
 yix:Addr
 yiy:FuncData
 a_reckon:Addr
 d_reckon:FuncData
 ygl:Addr
 ygm:FuncData
 ydW:Addr
 yfk:FuncData
 ycL:Addr
 ycM:FuncData
 ydX:Addr
 ydY:FuncData
 ydn:Addr
 ydo:FuncData
 yeB:Addr
 yeC:FuncData
 ygJ:Addr
 ygK:FuncData
 yfQ:Addr
 yfR:FuncData
 yfl:Addr
 yfm:FuncData
 yeD:Addr
 yeE:FuncData
 yfS:Addr
 yfT:FuncData
 yeh:Addr
 yei:FuncData
 yfn:Addr
 yfo:FuncData
 yfU:Addr
 yfV:FuncData
 yeF:Addr
 yeG:FuncData
 yej:Addr
 yek:FuncData
 ydD:Addr
 ydE:FuncData
 yeH:Addr
 yeI:FuncData
 ygt:Addr
 ygu:FuncData
 yhX:Addr
 yhY:FuncData
 yfp:Addr
 yfq:FuncData
 ygY:Addr
 ygZ:FuncData
 yeN:Addr
 yeO:FuncData
 a_alone:Addr
 d_alone:FuncData
 ygL:Addr
 ygM:FuncData
 yel:Addr
 yem:FuncData
 yeW:Addr
 yeX:FuncData
 yfD:Addr
 yfE:FuncData
 yhx:Addr
 yhy:FuncData
 yhz:Addr
 yhA:FuncData
 yhB:Addr
 yhC:FuncData
 yiz:Addr
 yiA:FuncData
 yiB:Addr
 yiC:FuncData
 yhD:Addr
 yhE:FuncData
 yhF:Addr
 yhG:FuncData
 yjM:Addr
 yjN:FuncData
 yfW:Addr
 yfX:FuncData
 yhH:Addr
 yhI:FuncData
 ylr:Addr
 yls:FuncData
 ykp:Addr
 ykq:FuncData
 a_law:Addr
 d_law:FuncData
 k_DONE:Addr
 k_SLOTS:Tok
 k_WAITS:Addr
 k_WIDE:Tok
noncomputable abbrev ybB (K:PySem.W.Frag) (t:Ads):Ck:=⟨K,t.A⟩
structure Txt (K:PySem.W.Frag) (mg:Str->Option Value) (t:Ads):Prop where
 ypr:Fun K "__init__" "Log.__init__" ybD t.yfO t.yfP
 yps:Binds K t.yfP ["self"] []
 yvb:Fun K "write" "Log.write" ydf t.yit t.yiu
 yvc:Binds K t.yiu ["self","box","number"] []
 yzz:Fun K "own" "Log.own" yff t.yjn t.yjo
 ytv:Binds K t.yjo ["self","box"] []
 yvd:Fun K "begin" "Log.begin" ydg t.yiv t.yiw
 yve:Binds K t.yiw ["self"] []
 ytw:Fun K "settle" "Log.settle" ycA t.yhv t.yhw
 ytx:Binds K t.yhw ["self"] []
 yxb:Fun K "drop" "Log.drop" yee t.yjK t.yjL
 yxc:Binds K t.yjL ["self"] []
 yzA:Fun K "see" "Log.see" yfg t.yln t.ylo
 yzB:Binds K t.ylo ["self","box","number"] []
 yzC:Fun K "saw" "Log.saw" yfh t.ylp t.ylq
 yty:Binds K t.ylq ["self"] []
 yvf:Fun K "wrote" "Log.wrote" ydh t.yix t.yiy
 yvg:Binds K t.yiy ["self"] []
 F_reckon:Fun K "reckon" "reckon" ygI t.a_reckon t.d_reckon
 b_reckon:Binds K t.d_reckon ["word","one","other"] []
 m_reckon:mg "reckon" = some (.ref t.a_reckon)
 yjp:Fun K "slot_index" "slot_index" ycB t.ygl t.ygm
 ymT:Binds K t.ygm ["slot"] []
 ymU:mg "slot_index" = some (.ref t.ygl)
 yoF:Fun K "__init__" "Doer.__init__" ybr t.ydW t.yfk
 yoG:Binds K t.yfk ["self","slots","width"] []
 ypt:Fun K "held_in" "Doer.held_in" ybE t.ycL t.ycM
 ydy:Binds K t.ycM ["self","slot"] []
 yvh:Fun K "hold" "Doer.hold" ydi t.ydX t.ydY
 yha:Binds K t.ydY ["self","slot","number"] []
 yrn:Fun K "box_at" "Doer.box_at" ybW t.ydn t.ydo
 ygN:Binds K t.ydo ["self","place"] []
 yno:Fun K "do_reckon" "Doer.do_reckon" ybi t.yeB t.yeC
 ynp:Binds K t.yeC ["self","word","slot","one","other"] []
 yro:Fun K "do_put" "Doer.do_put" ybX t.ygJ t.ygK
 yrp:Binds K t.ygK ["self","place","slot"] []
 ypu:Fun K "sees_at" "Doer.sees_at" ybF t.yfQ t.yfR
 ypv:Binds K t.yfR ["self","place"] []
 yoH:Fun K "take_own" "Doer.take_own" ybs t.yfl t.yfm
 yoI:Binds K t.yfm ["self","slot","place"] []
 ynq:Fun K "take_seen" "Doer.take_seen" ybj t.yeD t.yeE
 ynr:Binds K t.yeE ["self","slot","place","numbers"] []
 ypw:Fun K "__init__" "Let.__init__" ybG t.yfS t.yfT
 ypx:Binds K t.yfT ["self","slot","number"] []
 ylZ:Fun K "__init__" "Reckon.__init__" ybd t.yeh t.yei
 yma:Binds K t.yei ["self","word","slot","one","other"] []
 yoJ:Fun K "__init__" "Take.__init__" ybt t.yfn t.yfo
 yoK:Binds K t.yfo ["self","slot","place"] []
 ypy:Fun K "__init__" "Put.__init__" ybH t.yfU t.yfV
 ypz:Binds K t.yfV ["self","place","slot"] []
 yns:Fun K "__init__" "Doing.__init__" ybk t.yeF t.yeG
 ynt:Binds K t.yeG ["self","boxes","slots"] []
 ymb:Fun K "take_done" "Doing.take_done" ybe t.yej t.yek
 ymc:Binds K t.yek ["self","part"] []
 ylt:Fun K "plain_done" "Doing.plain_done" yV t.ydD t.ydE
 ylu:Binds K t.ydE ["self","part"] []
 ynu:Fun K "list_end" "Doing.list_end" ybl t.yeH t.yeI
 ycp:Binds K t.yeI ["self","parts"] []
 ynv:Fun K "part_end" "Doing.part_end" ybm t.ygt t.ygu
 ynw:Binds K t.ygu ["self","part"] []
 ypA:Fun K "if_end" "Doing.if_end" ybI t.yhX t.yhY
 ypB:Binds K t.yhY ["self","part"] []
 ylv:Fun K "either_end" "Doing.either_end" yW t.yfp t.yfq
 ylw:Binds K t.yfq ["self","part"] []
 yoL:Fun K "try_end" "Doing.try_end" ybu t.ygY t.ygZ
 yoM:Binds K t.ygZ ["self","part"] []
 ykr:Fun K "layered_end" "Doing.layered_end" yL t.yeN t.yeO
 yhb:Binds K t.yeO ["self","parts"] []
 F_alone:Fun K "alone" "alone" yiq t.a_alone t.d_alone
 b_alone:Binds K t.d_alone ["deed","boxes","slots"] []
 m_alone:mg "alone" = some (.ref t.a_alone)
 yrq:Fun K "__init__" "If.__init__" ybY t.ygL t.ygM
 yrr:Binds K t.ygM ["self","slot","parts","others"] []
 ymd:Fun K "__init__" "Either.__init__" ybf t.yel t.yem
 yme:Binds K t.yem ["self","parts","others"] []
 yhJ:Fun K "_law_mixed" "_law_mixed" ycC t.yeW t.yeX
 yjq:Binds K t.yeX ["_law_cell"] []
 yjr:mg "_law_mixed" = some (.ref t.yeW)
 yiD:Fun K "_law_wide" "_law_wide" ydj t.yfD t.yfE
 yks:Binds K t.yfE ["_law_cell"] []
 ykt:mg "_law_wide" = some (.ref t.yfD)
 yjs:Fun K "_law_alike" "_law_alike" ycD t.yhx t.yhy
 ymV:Binds K t.yhy ["_law_found","_law_due"] []
 ymW:mg "_law_alike" = some (.ref t.yhx)
 ymX:Fun K "_law_plain" "_law_plain" ycE t.yhz t.yhA
 ytz:Binds K t.yhA ["_law_mixed_here","_law_cell"] []
 ytA:mg "_law_plain" = some (.ref t.yhz)
 ymY:Fun K "_law_sided" "_law_sided" ycF t.yhB t.yhC
 ytB:Binds K t.yhC ["_law_mixed_here","_law_one","_law_other"] []
 ytC:mg "_law_sided" = some (.ref t.yhB)
 yiE:Fun K "_law_tree" "_law_tree" ydk t.yiz t.yiA
 yku:Binds K t.yiA ["_law_cells","_law_depth"] []
 ykv:mg "_law_tree" = some (.ref t.yiz)
 yfF:Fun K "_law_made" "_law_made" ydl t.yiB t.yiC
 yhc:Binds K t.yiC ["_law_tree_here"] []
 yhd:mg "_law_made" = some (.ref t.yiB)
 ymZ:Fun K "_law_boxes" "_law_boxes" ycG t.yhD t.yhE
 ytD:Binds K t.yhE ["_law_cell"] []
 ytE:mg "_law_boxes" = some (.ref t.yhD)
 yna:Fun K "_law_slots" "_law_slots" ycH t.yhF t.yhG
 ytF:Binds K t.yhG ["_law_cell"] []
 ytG:mg "_law_slots" = some (.ref t.yhF)
 yqi:Fun K "_law_sum" "_law_sum" yef t.yjM t.yjN
 yxd:Binds K t.yjN ["_law_word","_law_one","_law_other"] []
 yxe:mg "_law_sum" = some (.ref t.yjM)
 ykb:Fun K "_law_plainly" "_law_plainly" ybJ t.yfW t.yfX
 ypC:Binds K t.yfX ["_law_part_here","_law_boxes_here","_law_saw","_law_slots_here","_law_written"] []
 ypD:mg "_law_plainly" = some (.ref t.yfW)
 yhK:Fun K "_law_pairs" "_law_pairs" ycI t.yhH t.yhI
 yjt:Binds K t.yhI ["_law_found"] []
 yju:mg "_law_pairs" = some (.ref t.yhH)
 yjv:Fun K "_law_do" "_law_do" yfi t.ylr t.yls
 ylx:Binds K t.yls ["_law_tree_here","_law_boxes_here","_law_saw","_law_slots_here","_law_written"] []
 yly:mg "_law_do" = some (.ref t.ylr)
 yoN:Fun K "_law_part" "_law_part" ydm t.ykp t.ykq
 yvi:Binds K t.ykq ["_law_part_here","_law_boxes_here","_law_saw","_law_slots_here","_law_written"] []
 yvj:mg "_law_part" = some (.ref t.ykp)
 F_law:Fun K "law" "law" ynk t.a_law t.d_law
 b_law:Binds K t.d_law ["_law_script"] []
 m_law:mg "law" = some (.ref t.a_law)
 m_Log:mg "Log" = some (.ref (t.A 0))
 mk_Log:Mk K (t.A 0) t.yfO
 m_Doing:mg "Doing" = some (.ref (t.A 1))
 mk_Doing:Mk K (t.A 1) t.yeF
 m_Doer:mg "Doer" = some (.ref (t.A 2))
 mk_Doer:Mk K (t.A 2) t.ydW
 m_Let:mg "Let" = some (.ref (t.A 3))
 mk_Let:Mk K (t.A 3) t.yfS
 m_Reckon:mg "Reckon" = some (.ref (t.A 4))
 mk_Reckon:Mk K (t.A 4) t.yeh
 m_Take:mg "Take" = some (.ref (t.A 5))
 mk_Take:Mk K (t.A 5) t.yfn
 m_Put:mg "Put" = some (.ref (t.A 6))
 mk_Put:Mk K (t.A 6) t.yfU
 m_If:mg "If" = some (.ref (t.A 7))
 mk_If:Mk K (t.A 7) t.ygL
 m_Either:mg "Either" = some (.ref (t.A 8))
 mk_Either:Mk K (t.A 8) t.yel
 m_Try:mg "Try" = some (.ref (t.A 9))
 m_Throw:mg "Throw" = some (.ref (t.A 10))
 m_Wait:mg "Wait" = some (.ref (t.A 11))
 mk_Wait:PySem.W.makesIn K (t.A 11)=true
 io_Wait:PySem.W.findIn K (.ref (t.A 11)) "__init__" = some (some (.builtin "object.__init__"))
 kp_Wait:PySem.W.keepIn K (.ref (t.A 11))=true
 ytH:ykC K (t.A 0) "write" t.yit
 yqj:ykC K (t.A 0) "own" t.yjn
 ytI:ykC K (t.A 0) "begin" t.yiv
 yrs:ykC K (t.A 0) "settle" t.yhv
 yvk:ykC K (t.A 0) "drop" t.yjK
 yxf:ykC K (t.A 0) "see" t.yln
 yqk:ykC K (t.A 0) "saw" t.ylp
 ytJ:ykC K (t.A 0) "wrote" t.yix
 ms_Doing_held_in:ykC K (t.A 1) "held_in" t.ycL
 ms_Doing_hold:ykC K (t.A 1) "hold" t.ydX
 ms_Doing_box_at:ykC K (t.A 1) "box_at" t.ydn
 ms_Doing_do_reckon:ykC K (t.A 1) "do_reckon" t.yeB
 ms_Doing_do_put:ykC K (t.A 1) "do_put" t.ygJ
 ms_Doing_sees_at:ykC K (t.A 1) "sees_at" t.yfQ
 ms_Doing_take_own:ykC K (t.A 1) "take_own" t.yfl
 ms_Doing_take_seen:ykC K (t.A 1) "take_seen" t.yeD
 ylz:ykC K (t.A 1) "take_done" t.yej
 ykw:ykC K (t.A 1) "plain_done" t.ydD
 yci:ykC K (t.A 1) "list_end" t.yeH
 ymf:ykC K (t.A 1) "part_end" t.ygt
 yoO:ykC K (t.A 1) "if_end" t.yhX
 ykx:ykC K (t.A 1) "either_end" t.yfp
 ynx:ykC K (t.A 1) "try_end" t.ygY
 ygE:ykC K (t.A 1) "layered_end" t.yeN
 cf_Doer:yEP K (t.A 2) "__init__" t.ydW
 cl:∀ k,Cls K (t.A k)
 fa:Fa (ybB K t)
 z_bool:mg "bool" = none
 z_dict:mg "dict" = none
 z_int:mg "int" = none
 z_isinstance:mg "isinstance" = none
 z_len:mg "len" = none
 z_list:mg "list" = none
 z_max:mg "max" = none
 z_range:mg "range" = none
 z_reversed:mg "reversed" = none
 z_sorted:mg "sorted" = none
 z_str:mg "str" = none
 z_sum:mg "sum" = none
 z_tuple:mg "tuple" = none
 m_DONE:mg "DONE" = some (.ref t.k_DONE)
 kt_DONE:KTp K t.k_DONE ((["done"]:List Str).map V.str)
 m_SLOTS:mg "SLOTS" = some (.str "abcdefgh" t.k_SLOTS)
 m_WAITS:mg "WAITS" = some (.ref t.k_WAITS)
 kt_WAITS:KTp K t.k_WAITS ((["waits"]:List Str).map V.str)
 m_WIDE:mg "WIDE" = some (.int 18446744073709551616 t.k_WIDE)
theorem yoP:Nm "DONE":=⟨by decide +kernel,by decide +kernel,by decide +kernel⟩
theorem yFo:Nm "Doer":=⟨by decide +kernel,by decide +kernel,by decide +kernel⟩
theorem yBO:Nm "Doing":=⟨by decide +kernel,by decide +kernel,by decide +kernel⟩
theorem ytK:Nm "Either":=⟨by decide +kernel,by decide +kernel,by decide +kernel⟩
theorem yHW:Nm "If":=⟨by decide +kernel,by decide +kernel,by decide +kernel⟩
theorem yCW:Nm "Let":=⟨by decide +kernel,by decide +kernel,by decide +kernel⟩
theorem yHX:Nm "Log":=⟨by decide +kernel,by decide +kernel,by decide +kernel⟩
theorem yCX:Nm "Put":=⟨by decide +kernel,by decide +kernel,by decide +kernel⟩
theorem ytL:Nm "Reckon":=⟨by decide +kernel,by decide +kernel,by decide +kernel⟩
theorem yBP:Nm "SLOTS":=⟨by decide +kernel,by decide +kernel,by decide +kernel⟩
theorem yzD:Nm "Take":=⟨by decide +kernel,by decide +kernel,by decide +kernel⟩
theorem yBQ:Nm "Throw":=⟨by decide +kernel,by decide +kernel,by decide +kernel⟩
theorem yHY:Nm "Try":=⟨by decide +kernel,by decide +kernel,by decide +kernel⟩
theorem ywj:Nm "WAITS":=⟨by decide +kernel,by decide +kernel,by decide +kernel⟩
theorem yvl:Nm "WIDE":=⟨by decide +kernel,by decide +kernel,by decide +kernel⟩
theorem yzE:Nm "Wait":=⟨by decide +kernel,by decide +kernel,by decide +kernel⟩
theorem ylA:Nm "_law_alike":=⟨by decide +kernel,by decide +kernel,by decide +kernel⟩
theorem ycq:Nm "_law_at":=⟨by decide +kernel,by decide +kernel,by decide +kernel⟩
theorem ydZ:Nm "_law_box":=⟨by decide +kernel,by decide +kernel,by decide +kernel⟩
theorem yrt:Nm "_law_boxes":=⟨by decide +kernel,by decide +kernel,by decide +kernel⟩
theorem yr:Nm "_law_boxes_here":=⟨by decide +kernel,by decide +kernel,by decide +kernel⟩
theorem ycJ:Nm "_law_cell":=⟨by decide +kernel,by decide +kernel,by decide +kernel⟩
theorem ydp:Nm "_law_cells":=⟨by decide +kernel,by decide +kernel,by decide +kernel⟩
theorem yiF:Nm "_law_depth":=⟨by decide +kernel,by decide +kernel,by decide +kernel⟩
theorem yjO:Nm "_law_do":=⟨by decide +kernel,by decide +kernel,by decide +kernel⟩
theorem ydq:Nm "_law_due":=⟨by decide +kernel,by decide +kernel,by decide +kernel⟩
theorem yy:Nm "_law_found":=⟨by decide +kernel,by decide +kernel,by decide +kernel⟩
theorem ygn:Nm "_law_k":=⟨by decide +kernel,by decide +kernel,by decide +kernel⟩
theorem yfr:Nm "_law_letters":=⟨by decide +kernel,by decide +kernel,by decide +kernel⟩
theorem ygo:Nm "_law_made":=⟨by decide +kernel,by decide +kernel,by decide +kernel⟩
theorem yt:Nm "_law_made_here":=⟨by decide +kernel,by decide +kernel,by decide +kernel⟩
theorem ybP:Nm "_law_many":=⟨by decide +kernel,by decide +kernel,by decide +kernel⟩
theorem yiG:Nm "_law_mixed":=⟨by decide +kernel,by decide +kernel,by decide +kernel⟩
theorem yo:Nm "_law_mixed_here":=⟨by decide +kernel,by decide +kernel,by decide +kernel⟩
theorem ynb:Nm "_law_more":=⟨by decide +kernel,by decide +kernel,by decide +kernel⟩
theorem yM:Nm "_law_one":=⟨by decide +kernel,by decide +kernel,by decide +kernel⟩
theorem yE:Nm "_law_other":=⟨by decide +kernel,by decide +kernel,by decide +kernel⟩
theorem yiH:Nm "_law_pairs":=⟨by decide +kernel,by decide +kernel,by decide +kernel⟩
theorem ytM:Nm "_law_part":=⟨by decide +kernel,by decide +kernel,by decide +kernel⟩
theorem ye:Nm "_law_part_here":=⟨by decide +kernel,by decide +kernel,by decide +kernel⟩
theorem yru:Nm "_law_plain":=⟨by decide +kernel,by decide +kernel,by decide +kernel⟩
theorem yoQ:Nm "_law_plainly":=⟨by decide +kernel,by decide +kernel,by decide +kernel⟩
theorem yea:Nm "_law_rest":=⟨by decide +kernel,by decide +kernel,by decide +kernel⟩
theorem ydr:Nm "_law_saw":=⟨by decide +kernel,by decide +kernel,by decide +kernel⟩
theorem ykc:Nm "_law_script":=⟨by decide +kernel,by decide +kernel,by decide +kernel⟩
theorem ytN:Nm "_law_side":=⟨by decide +kernel,by decide +kernel,by decide +kernel⟩
theorem yrv:Nm "_law_sided":=⟨by decide +kernel,by decide +kernel,by decide +kernel⟩
theorem ync:Nm "_law_slot":=⟨by decide +kernel,by decide +kernel,by decide +kernel⟩
theorem yrw:Nm "_law_slots":=⟨by decide +kernel,by decide +kernel,by decide +kernel⟩
theorem ym:Nm "_law_slots_here":=⟨by decide +kernel,by decide +kernel,by decide +kernel⟩
theorem ytO:Nm "_law_some":=⟨by decide +kernel,by decide +kernel,by decide +kernel⟩
theorem yvm:Nm "_law_sum":=⟨by decide +kernel,by decide +kernel,by decide +kernel⟩
theorem ylB:Nm "_law_third":=⟨by decide +kernel,by decide +kernel,by decide +kernel⟩
theorem yjw:Nm "_law_tree":=⟨by decide +kernel,by decide +kernel,by decide +kernel⟩
theorem yI:Nm "_law_tree_here":=⟨by decide +kernel,by decide +kernel,by decide +kernel⟩
theorem yhe:Nm "_law_way":=⟨by decide +kernel,by decide +kernel,by decide +kernel⟩
theorem yjx:Nm "_law_wide":=⟨by decide +kernel,by decide +kernel,by decide +kernel⟩
theorem yeY:Nm "_law_word":=⟨by decide +kernel,by decide +kernel,by decide +kernel⟩
theorem yY:Nm "_law_written":=⟨by decide +kernel,by decide +kernel,by decide +kernel⟩
theorem yBR:Nm "alone":=⟨by decide +kernel,by decide +kernel,by decide +kernel⟩
theorem yzF:Nm "before":=⟨by decide +kernel,by decide +kernel,by decide +kernel⟩
theorem yxg:Nm "beneath":=⟨by decide +kernel,by decide +kernel,by decide +kernel⟩
theorem yFp:Nm "bool":=⟨by decide +kernel,by decide +kernel,by decide +kernel⟩
theorem yoR:Nm "box":=⟨by decide +kernel,by decide +kernel,by decide +kernel⟩
theorem yrx:Nm "boxes":=⟨by decide +kernel,by decide +kernel,by decide +kernel⟩
theorem yFq:Nm "deed":=⟨by decide +kernel,by decide +kernel,by decide +kernel⟩
theorem yzG:Nm "dict":=⟨by decide +kernel,by decide +kernel,by decide +kernel⟩
theorem ylC:Nm "doing":=⟨by decide +kernel,by decide +kernel,by decide +kernel⟩
theorem yii:Nm "end":=⟨by decide +kernel,by decide +kernel,by decide +kernel⟩
theorem ytP:Nm "int":=⟨by decide +kernel,by decide +kernel,by decide +kernel⟩
theorem yF:Nm "isinstance":=⟨by decide +kernel,by decide +kernel,by decide +kernel⟩
theorem ywk:Nm "layer":=⟨by decide +kernel,by decide +kernel,by decide +kernel⟩
theorem ylD:Nm "len":=⟨by decide +kernel,by decide +kernel,by decide +kernel⟩
theorem yeP:Nm "list":=⟨by decide +kernel,by decide +kernel,by decide +kernel⟩
theorem yzH:Nm "lowest":=⟨by decide +kernel,by decide +kernel,by decide +kernel⟩
theorem yHZ:Nm "max":=⟨by decide +kernel,by decide +kernel,by decide +kernel⟩
theorem ylE:Nm "number":=⟨by decide +kernel,by decide +kernel,by decide +kernel⟩
theorem yql:Nm "numbers":=⟨by decide +kernel,by decide +kernel,by decide +kernel⟩
theorem yoS:Nm "one":=⟨by decide +kernel,by decide +kernel,by decide +kernel⟩
theorem yiI:Nm "other":=⟨by decide +kernel,by decide +kernel,by decide +kernel⟩
theorem ytQ:Nm "others":=⟨by decide +kernel,by decide +kernel,by decide +kernel⟩
theorem yN:Nm "part":=⟨by decide +kernel,by decide +kernel,by decide +kernel⟩
theorem ynJ:Nm "parts":=⟨by decide +kernel,by decide +kernel,by decide +kernel⟩
theorem yiJ:Nm "place":=⟨by decide +kernel,by decide +kernel,by decide +kernel⟩
theorem yzI:Nm "reckon":=⟨by decide +kernel,by decide +kernel,by decide +kernel⟩
theorem yl:Nm "self":=⟨by decide +kernel,by decide +kernel,by decide +kernel⟩
theorem ygv:Nm "slot":=⟨by decide +kernel,by decide +kernel,by decide +kernel⟩
theorem ylF:Nm "slot_index":=⟨by decide +kernel,by decide +kernel,by decide +kernel⟩
theorem ynK:Nm "slots":=⟨by decide +kernel,by decide +kernel,by decide +kernel⟩
theorem yoT:Nm "sorted":=⟨by decide +kernel,by decide +kernel,by decide +kernel⟩
theorem yCY:Nm "str":=⟨by decide +kernel,by decide +kernel,by decide +kernel⟩
theorem yCZ:Nm "sum":=⟨by decide +kernel,by decide +kernel,by decide +kernel⟩
theorem yDa:Nm "top":=⟨by decide +kernel,by decide +kernel,by decide +kernel⟩
theorem ywl:Nm "tuple":=⟨by decide +kernel,by decide +kernel,by decide +kernel⟩
theorem yBS:Nm "width":=⟨by decide +kernel,by decide +kernel,by decide +kernel⟩
theorem ymg:Nm "word":=⟨by decide +kernel,by decide +kernel,by decide +kernel⟩
section
variable {P:Program}{w:World}{K:PySem.W.Frag}{mg:Str->Option Value}{base:Heap}{t:Ads}
theorem yzJ {n:Nat}{ck:Ck}{vs:List V}{H:Hp}{Q:VK}{E:XK}(h:spE ck n (fun _ _=>none) vs H Q E):False:=by
 obtain ⟨_,_,_,_,_,_,_,_,q,_⟩:=h
 cases q
theorem yhf {f:Addr}{fd:FuncData}{ps:List Str}{k n:Nat}{ck:Ck}:FnOk P w K mg base CX0 k f fd ps (spE ck n fun _ _=>none):=⟨fun vs H Q E h=>(yzJ h).elim,fun A outer s H args us vs Q E _ _ _ _ h=>(yzJ h).elim⟩
theorem yoU (T:Txt K mg t) :FnOk P w K mg base CX0 (0+1) t.yfO t.yfP ["self"] (spI (ybB K t) 0 0 yew):=by
 have fa:=T.fa
 exact zin T.ypr yoz rfl (by decide) fun cdv Ar outer sh H E hr=>(yed (yev fa.fl_stack (ybT (i:=0) rfl (Or.inl rfl) yl.d yl.c) (yic (ygR (ya (yic ytc) yf rfl))) rfl) (yin (yev fa.fl_last_seen (ybT (i:=0) rfl (Or.inl rfl) yl.d yl.c) (yic ytc) rfl)))
theorem ytR (T:Txt K mg t) :FnOk P w K mg base CX0 (0+1) t.yit t.yiu ["self","box","number"] (spE (ybB K t) 3 ygS):=by
 have fa:=T.fa
 exact zfn T.yvb ymR fun cdv Ar outer sh H E hr=>(yg (yH (i:=3) ymR.nd rfl (Or.inl rfl) (ydG ix_list yhQ (ybV fa.fl_stack (yb (i:=0) yl rfl (Or.inl rfl)) rfl) (yJP yCb yGw z_int) (fun _ _=>rfl)) rfl (Or.inl rfl)) (yi (yqN (yqq hr) (yb (i:=3) yDa rfl (Or.inl rfl)) (yb (i:=1) yoR rfl (Or.inl rfl)) (yb (i:=2) ylE rfl (Or.inl rfl)) rfl)))
theorem yxh (T:Txt K mg t) :FnOk P w K mg base CX0 (0+1) t.yjn t.yjo ["self","box"] (spE (ybB K t) 2 ygd):=by
 have fa:=T.fa
 exact zfn T.yzz yqh fun cdv Ar outer sh H E hr=>(yg (yEL PassesOwn.never rfl rfl T.z_reversed (ybV fa.fl_stack (yb (i:=0) yl rfl (Or.inl rfl)) rfl) rfl rfl (yim (i:=2) yqh.nd rfl (Or.inl rfl) (Or.inl rfl)) (yi (ybp (yGW (yqq hr) (yb (i:=1) yoR rfl (Or.inl rfl)) (yb (i:=2) ywk rfl (Or.inl rfl)) (by with_unfolding_all rfl)) (yi (yx (yCJ (yqq hr) (yb (i:=2) ywk rfl (Or.inl rfl)) (yb (i:=1) yoR rfl (Or.inl rfl)) (fun _ _=>rfl)))) yz)) (fun _=>rfl)) (yi (yx yuL)))
theorem ytS (T:Txt K mg t) :FnOk P w K mg base CX0 (0+1) t.yiv t.yiw ["self"] (spE (ybB K t) 1 ygT):=by
 have fa:=T.fa
 exact zfn T.yvd yts fun cdv Ar outer sh H E hr=>(yi (ycO (yxm PySem.F.plainAttrs_list PySem.F.slot_list_append PySem.F.type_list_append ykE yGG (ybV fa.fl_stack (yb (i:=0) yl rfl (Or.inl rfl)) rfl) (ya (yic ytc) yf rfl) rfl rfl rfl rfl rfl) rfl))
theorem yry (T:Txt K mg t) :FnOk P w K mg base CX0 (0+1) t.yhv t.yhw ["self"] (spE (ybB K t) 1 yge):=by
 have fa:=T.fa
 exact zfn T.ytw yir fun cdv Ar outer sh H E hr=>(yg (yH (i:=1) yir.nd rfl (Or.inl rfl) (yGS PySem.F.plainAttrs_list PySem.F.slot_list_pop PySem.F.type_list_pop yCg yCB (ybV fa.fl_stack (yb (i:=0) yl rfl (Or.inl rfl)) rfl) rfl rfl) rfl (Or.inl rfl)) (yg (yH (i:=2) yir.nd rfl (Or.inl rfl) (ydG ix_list yhQ (ybV fa.fl_stack (yb (i:=0) yl rfl (Or.inl rfl)) rfl) (yJP yCb yGw z_int) (fun _ _=>rfl)) rfl (Or.inl rfl)) (yi (ycO (yxm PySem.F.plainAttrs_dict PySem.F.slot_dict_update PySem.F.type_dict_update yHc yJb (yb (i:=2) yxg rfl (Or.inl rfl)) (ya (yb (i:=1) yDa rfl (Or.inl rfl)) yf rfl) rfl rfl rfl rfl rfl) rfl))))
theorem yvn (T:Txt K mg t) :FnOk P w K mg base CX0 (0+1) t.yjK t.yjL ["self"] (spE (ybB K t) 1 ygP):=by
 have fa:=T.fa
 exact zfn T.yxb yuZ fun cdv Ar outer sh H E hr=>(yi (ycO (yGS PySem.F.plainAttrs_list PySem.F.slot_list_pop PySem.F.type_list_pop yCg yCB (ybV fa.fl_stack (yb (i:=0) yl rfl (Or.inl rfl)) rfl) rfl rfl) rfl))
theorem yxi (T:Txt K mg t) :FnOk P w K mg base CX0 (0+1) t.yln t.ylo ["self","box","number"] (spE (ybB K t) 3 yjk):=by
 have fa:=T.fa
 exact zfn T.yzA ywZ fun cdv Ar outer sh H E hr=>(yi (yqN (yqq hr) (ybV fa.fl_last_seen (yb (i:=0) yl rfl (Or.inl rfl)) rfl) (yb (i:=1) yoR rfl (Or.inl rfl)) (yb (i:=2) ylE rfl (Or.inl rfl)) rfl))
theorem yxj (T:Txt K mg t) :FnOk P w K mg base CX0 (0+1) t.ylp t.ylq ["self"] (spE (ybB K t) 1 ygU):=by
 have fa:=T.fa
 exact zfn T.yzC yxa fun cdv Ar outer sh H E hr=>(yi (yx (yic (PXS.z_sortI rfl (ybV fa.fl_last_seen (yb (i:=0) yl rfl (Or.inl rfl)) rfl) yoT rfl T.z_sorted yoi rfl rfl rfl rfl))))
theorem ytT (T:Txt K mg t) :FnOk P w K mg base CX0 (0+1) t.yix t.yiy ["self"] (spE (ybB K t) 1 ygV):=by
 have fa:=T.fa
 exact zfn T.yvf ymS fun cdv Ar outer sh H E hr=>(yg (yH (i:=1) ymS.nd rfl (Or.inl rfl) (ydG ix_list yhQ (ybV fa.fl_stack (yb (i:=0) yl rfl (Or.inl rfl)) rfl) z_int (fun _ _=>rfl)) rfl (Or.inl rfl)) (yi (yx (yic (PXS.z_sortI rfl (yb (i:=1) yzH rfl (Or.inl rfl)) yoT rfl T.z_sorted yoi rfl rfl rfl rfl)))))
theorem yzK (T:Txt K mg t) :FnOk P w K mg base CX0 (0+1) t.a_reckon t.d_reckon ["word","one","other"] (spE (ybB K t) 3 ykS):=by
 have fa:=T.fa
 exact zfn T.F_reckon yzy fun cdv Ar outer sh H E hr=>(yg (ybp (ybc yec yjF (yb (i:=0) ymg rfl (Or.inl rfl)) z_str (yO _)) (yi (yx (ycr ybK ydI (ycr yfx yiT (yb (i:=1) yoS rfl (Or.inl rfl)) (yb (i:=2) yiI rfl (Or.inl rfl))) (yyK yvl rfl T.m_WIDE)))) yz) (yg (ybp (ybc yec yjF (yb (i:=0) ymg rfl (Or.inl rfl)) z_str (yO _)) (yi (yx (ycr ybK ydI (ycr yvt yAK (yb (i:=1) yoS rfl (Or.inl rfl)) (yb (i:=2) yiI rfl (Or.inl rfl))) (yyK yvl rfl T.m_WIDE)))) yz) (yg (ybp (ybc yec yjF (yb (i:=0) ymg rfl (Or.inl rfl)) z_str (yO _)) (yi (yx (ycr ybK ydI (ycr ypI ywF (yb (i:=1) yoS rfl (Or.inl rfl)) (yb (i:=2) yiI rfl (Or.inl rfl))) (yyK yvl rfl T.m_WIDE)))) yz) (yg (ybp (ybc yec yjF (yb (i:=0) ymg rfl (Or.inl rfl)) z_str (yO _)) (yi (yx (yGO (ybc yrG yCq (yb (i:=1) yoS rfl (Or.inl rfl)) (yb (i:=2) yiI rfl (Or.inl rfl)) (yO _)) z_int z_int))) yz) (yi (yx (yGO (ybc yec yjF (yb (i:=1) yoS rfl (Or.inl rfl)) (yb (i:=2) yiI rfl (Or.inl rfl)) (yO _)) z_int z_int)))))))
theorem yrz (T:Txt K mg t) :FnOk P w K mg base CX0 (0+1) t.ygl t.ygm ["slot"] (spE (ybB K t) 1 ydP):=by
 have fa:=T.fa
 exact zfn T.yjp yrk fun cdv Ar outer sh H E hr=>(yi (yx (yxm PySem.F.plainAttrs_str PySem.F.slot_str_find PySem.F.type_str_find yhV yfL (yGM yBP rfl T.m_SLOTS) (ya (yb (i:=0) ygv rfl (Or.inl rfl)) yf rfl) rfl rfl rfl rfl rfl)))
theorem yoV (T:Txt K mg t) (yeZ:FnOk P w K mg base CX0 (1) t.ygl t.ygm ["slot"] (spE (ybB K t) 1 ydP)):FnOk P w K mg base CX0 (1+1) t.ycL t.ycM ["self","slot"] (spE (ybB K t) 2 yT):=by
 have fa:=T.fa
 exact zfn T.ypt yoA fun cdv Ar outer sh H E hr=>(yi (yx (ydG ix_list yhQ (ybV fa.fl_held (yb (i:=0) yl rfl (Or.inl rfl)) rfl) (ybR yeZ (hr.mono (by omega)) ylF rfl T.ymU T.yjp.kp T.ymT (ya (yb (i:=1) ygv rfl (Or.inl rfl)) yf rfl) rfl rfl) (fun _ _=>rfl))))
theorem ytU (T:Txt K mg t) (yeZ:FnOk P w K mg base CX0 (1) t.ygl t.ygm ["slot"] (spE (ybB K t) 1 ydP)):FnOk P w K mg base CX0 (1+1) t.ydX t.ydY ["self","slot","number"] (spE (ybB K t) 3 ybC):=by
 have fa:=T.fa
 exact zfn T.yvh ytt fun cdv Ar outer sh H E hr=>(yi (yoh (yb (i:=2) ylE rfl (Or.inl rfl)) (ybV fa.fl_held (yb (i:=0) yl rfl (Or.inl rfl)) rfl) (ybR yeZ (hr.mono (by omega)) ylF rfl T.ymU T.yjp.kp T.ymT (ya (yb (i:=1) ygv rfl (Or.inl rfl)) yf rfl) rfl rfl) (fun _=>rfl) rfl rfl rfl))
theorem ypE (T:Txt K mg t) (yG:FnOk P w K mg base CX0 (2) t.ycL t.ycM ["self","slot"] (spE (ybB K t) 2 yT)):FnOk P w K mg base CX0 (2+1) t.ydn t.ydo ["self","place"] (spE (ybB K t) 2 ybq):=by
 have fa:=T.fa
 exact zfn T.yrn ypo fun cdv Ar outer sh H E hr=>(yi (yx (ycr ybK ydI (yQ (yb (i:=0) yl rfl (Or.inl rfl)) (T.cl 1) T.ms_Doing_held_in yG (hr.mono (by omega)) T.ydy (ya (yb (i:=1) yiJ rfl (Or.inl rfl)) yf rfl) rfl rfl rfl) (ybV fa.fl_width (yb (i:=0) yl rfl (Or.inl rfl)) rfl))))
theorem yny (T:Txt K mg t) (yhZ:FnOk P w K mg base CX0 (1) t.yfO t.yfP ["self"] (spI (ybB K t) 0 0 yew)):FnOk P w K mg base CX0 (2+1) t.ydW t.yfk ["self","slots","width"] (spJ (ybB K t) 2 1 ydQ):=by
 have fa:=T.fa
 exact yKk T.yoF ynl rfl (by decide) fun cdv Ar outer sh H E hr=>(yed (yev fa.fl_held (ybT (i:=0) rfl (Or.inl rfl) yl.d yl.c) (yic (ygD ybh ydB yeP rfl T.z_list yeK (ya (yb (i:=1) ynK rfl (Or.inl rfl)) yf rfl) rfl rfl)) rfl) (yed (yev fa.fl_width (ybT (i:=0) rfl (Or.inl rfl) yl.d yl.c) (yb (i:=2) yBS rfl (Or.inl rfl)) rfl) (yin (yev fa.fl_log (ybT (i:=0) rfl (Or.inl rfl) yl.d yl.c) (yic (yEN T.mk_Log yhZ (hr.mono (by omega)) yHX rfl T.m_Log T.yps)) rfl))))
theorem ymh (T:Txt K mg t) (yG:FnOk P w K mg base CX0 (2) t.ycL t.ycM ["self","slot"] (spE (ybB K t) 2 yT)) (ybg:FnOk P w K mg base CX0 (2) t.ydX t.ydY ["self","slot","number"] (spE (ybB K t) 3 ybC)) (G_reckon:FnOk P w K mg base CX0 (1) t.a_reckon t.d_reckon ["word","one","other"] (spE (ybB K t) 3 ykS)):FnOk P w K mg base CX0 (2+1) t.yeB t.yeC ["self","word","slot","one","other"] (spE (ybB K t) 5 ydu):=by
 have fa:=T.fa
 exact zfn T.yno ylW fun cdv Ar outer sh H E hr=>(yi (ycO (yQ (yb (i:=0) yl rfl (Or.inl rfl)) (T.cl 1) T.ms_Doing_hold ybg (hr.mono (by omega)) T.yha (ya (yb (i:=2) ygv rfl (Or.inl rfl)) (ya (ybR G_reckon (hr.mono (by omega)) yzI rfl T.m_reckon T.F_reckon.kp T.b_reckon (ya (yb (i:=1) ymg rfl (Or.inl rfl)) (ya (yQ (yb (i:=0) yl rfl (Or.inl rfl)) (T.cl 1) T.ms_Doing_held_in yG (hr.mono (by omega)) T.ydy (ya (yb (i:=3) yoS rfl (Or.inl rfl)) yf rfl) rfl rfl rfl) (ya (yQ (yb (i:=0) yl rfl (Or.inl rfl)) (T.cl 1) T.ms_Doing_held_in yG (hr.mono (by omega)) T.ydy (ya (yb (i:=4) yiI rfl (Or.inl rfl)) yf rfl) rfl rfl rfl) yf rfl) rfl) rfl) rfl rfl) yf rfl) rfl) rfl rfl rfl) rfl))
theorem ypF (T:Txt K mg t) (ybn:FnOk P w K mg base CX0 (3) t.ydn t.ydo ["self","place"] (spE (ybB K t) 2 ybq)) (yG:FnOk P w K mg base CX0 (2) t.ycL t.ycM ["self","slot"] (spE (ybB K t) 2 yT)) (yky:FnOk P w K mg base CX0 (1) t.yit t.yiu ["self","box","number"] (spE (ybB K t) 3 ygS)):FnOk P w K mg base CX0 (3+1) t.ygJ t.ygK ["self","place","slot"] (spE (ybB K t) 3 yfc):=by
 have fa:=T.fa
 exact zfn T.yro ypp fun cdv Ar outer sh H E hr=>(yi (ycO (yQ (ybV fa.fl_log (yb (i:=0) yl rfl (Or.inl rfl)) rfl) (T.cl 0) T.ytH yky (hr.mono (by omega)) T.yvc (ya (yQ (yb (i:=0) yl rfl (Or.inl rfl)) (T.cl 1) T.ms_Doing_box_at ybn (hr.mono (by omega)) T.ygN (ya (yb (i:=1) yiJ rfl (Or.inl rfl)) yf rfl) rfl rfl rfl) (ya (yQ (yb (i:=0) yl rfl (Or.inl rfl)) (T.cl 1) T.ms_Doing_held_in yG (hr.mono (by omega)) T.ydy (ya (yb (i:=2) ygv rfl (Or.inl rfl)) yf rfl) rfl rfl rfl) yf rfl) rfl) rfl rfl rfl) rfl))
theorem yoW (T:Txt K mg t) (ybn:FnOk P w K mg base CX0 (3) t.ydn t.ydo ["self","place"] (spE (ybB K t) 2 ybq)) (yij:FnOk P w K mg base CX0 (1) t.yjn t.yjo ["self","box"] (spE (ybB K t) 2 ygd)):FnOk P w K mg base CX0 (3+1) t.yfQ t.yfR ["self","place"] (spE (ybB K t) 2 yex):=by
 have fa:=T.fa
 exact zfn T.ypu yoB fun cdv Ar outer sh H E hr=>(yi (yx (ywR yxA yEg (yQ (ybV fa.fl_log (yb (i:=0) yl rfl (Or.inl rfl)) rfl) (T.cl 0) T.yqj yij (hr.mono (by omega)) T.ytv (ya (yQ (yb (i:=0) yl rfl (Or.inl rfl)) (T.cl 1) T.ms_Doing_box_at ybn (hr.mono (by omega)) T.ygN (ya (yb (i:=1) yiJ rfl (Or.inl rfl)) yf rfl) rfl rfl rfl) yf rfl) rfl rfl rfl) yuL (yO _))))
theorem ynz (T:Txt K mg t) (ybn:FnOk P w K mg base CX0 (3) t.ydn t.ydo ["self","place"] (spE (ybB K t) 2 ybq)) (ybg:FnOk P w K mg base CX0 (2) t.ydX t.ydY ["self","slot","number"] (spE (ybB K t) 3 ybC)) (yij:FnOk P w K mg base CX0 (1) t.yjn t.yjo ["self","box"] (spE (ybB K t) 2 ygd)):FnOk P w K mg base CX0 (3+1) t.yfl t.yfm ["self","slot","place"] (spE (ybB K t) 3 ydR):=by
 have fa:=T.fa
 exact zfn T.yoH ynm fun cdv Ar outer sh H E hr=>(yi (ycO (yQ (yb (i:=0) yl rfl (Or.inl rfl)) (T.cl 1) T.ms_Doing_hold ybg (hr.mono (by omega)) T.yha (ya (yb (i:=1) ygv rfl (Or.inl rfl)) (ya (yQ (ybV fa.fl_log (yb (i:=0) yl rfl (Or.inl rfl)) rfl) (T.cl 0) T.yqj yij (hr.mono (by omega)) T.ytv (ya (yQ (yb (i:=0) yl rfl (Or.inl rfl)) (T.cl 1) T.ms_Doing_box_at ybn (hr.mono (by omega)) T.ygN (ya (yb (i:=2) yiJ rfl (Or.inl rfl)) yf rfl) rfl rfl rfl) yf rfl) rfl rfl rfl) yf rfl) rfl) rfl rfl rfl) rfl))
theorem ymi (T:Txt K mg t) (ybn:FnOk P w K mg base CX0 (3) t.ydn t.ydo ["self","place"] (spE (ybB K t) 2 ybq)) (ybg:FnOk P w K mg base CX0 (2) t.ydX t.ydY ["self","slot","number"] (spE (ybB K t) 3 ybC)) (yoX:FnOk P w K mg base CX0 (1) t.yln t.ylo ["self","box","number"] (spE (ybB K t) 3 yjk)):FnOk P w K mg base CX0 (3+1) t.yeD t.yeE ["self","slot","place","numbers"] (spE (ybB K t) 4 ydv):=by
 have fa:=T.fa
 exact zfn T.ynq yig fun cdv Ar outer sh H E hr=>(yg (yH (i:=4) yig.nd rfl (Or.inl rfl) (yQ (yb (i:=0) yl rfl (Or.inl rfl)) (T.cl 1) T.ms_Doing_box_at ybn (hr.mono (by omega)) T.ygN (ya (yb (i:=2) yiJ rfl (Or.inl rfl)) yf rfl) rfl rfl rfl) rfl (Or.inl rfl)) (yg (ycO (yQ (ybV fa.fl_log (yb (i:=0) yl rfl (Or.inl rfl)) rfl) (T.cl 0) T.yxf yoX (hr.mono (by omega)) T.yzB (ya (yb (i:=4) yoR rfl (Or.inl rfl)) (ya (ydG ix_list yhQ (yb (i:=3) yql rfl (Or.inl rfl)) (yb (i:=4) yoR rfl (Or.inl rfl)) (fun _ _=>rfl)) yf rfl) rfl) rfl rfl rfl) rfl) (yi (ycO (yQ (yb (i:=0) yl rfl (Or.inl rfl)) (T.cl 1) T.ms_Doing_hold ybg (hr.mono (by omega)) T.yha (ya (yb (i:=1) ygv rfl (Or.inl rfl)) (ya (ydG ix_list yhQ (yb (i:=3) yql rfl (Or.inl rfl)) (yb (i:=4) yoR rfl (Or.inl rfl)) (fun _ _=>rfl)) yf rfl) rfl) rfl rfl rfl) rfl))))
theorem yoY (T:Txt K mg t) :FnOk P w K mg base CX0 (0+1) t.yfS t.yfT ["self","slot","number"] (spI (ybB K t) 2 3 yey):=by
 have fa:=T.fa
 exact zin T.ypw yoC rfl (by decide) fun cdv Ar outer sh H E hr=>(yed (yev fa.fl_slot (ybT (i:=0) rfl (Or.inl rfl) yl.d yl.c) (yb (i:=1) ygv rfl (Or.inl rfl)) rfl) (yin (yev fa.fl_number (ybT (i:=0) rfl (Or.inl rfl) yl.d yl.c) (yb (i:=2) ylE rfl (Or.inl rfl)) rfl)))
theorem ylG (T:Txt K mg t) :FnOk P w K mg base CX0 (0+1) t.yeh t.yei ["self","word","slot","one","other"] (spI (ybB K t) 4 4 ycP):=by
 have fa:=T.fa
 exact zin T.ylZ ylj rfl (by decide) fun cdv Ar outer sh H E hr=>(yed (yev fa.fl_word (ybT (i:=0) rfl (Or.inl rfl) yl.d yl.c) (yb (i:=1) ymg rfl (Or.inl rfl)) rfl) (yed (yev fa.fl_slot (ybT (i:=0) rfl (Or.inl rfl) yl.d yl.c) (yb (i:=2) ygv rfl (Or.inl rfl)) rfl) (yed (yev fa.fl_one (ybT (i:=0) rfl (Or.inl rfl) yl.d yl.c) (yb (i:=3) yoS rfl (Or.inl rfl)) rfl) (yin (yev fa.fl_other (ybT (i:=0) rfl (Or.inl rfl) yl.d yl.c) (yb (i:=4) yiI rfl (Or.inl rfl)) rfl)))))
theorem ynA (T:Txt K mg t) :FnOk P w K mg base CX0 (0+1) t.yfn t.yfo ["self","slot","place"] (spI (ybB K t) 2 5 ydS):=by
 have fa:=T.fa
 exact zin T.yoJ ynn rfl (by decide) fun cdv Ar outer sh H E hr=>(yed (yev fa.fl_slot (ybT (i:=0) rfl (Or.inl rfl) yl.d yl.c) (yb (i:=1) ygv rfl (Or.inl rfl)) rfl) (yin (yev fa.fl_place (ybT (i:=0) rfl (Or.inl rfl) yl.d yl.c) (yb (i:=2) yiJ rfl (Or.inl rfl)) rfl)))
theorem yoZ (T:Txt K mg t) :FnOk P w K mg base CX0 (0+1) t.yfU t.yfV ["self","place","slot"] (spI (ybB K t) 2 6 yez):=by
 have fa:=T.fa
 exact zin T.ypy yoD rfl (by decide) fun cdv Ar outer sh H E hr=>(yed (yev fa.fl_place (ybT (i:=0) rfl (Or.inl rfl) yl.d yl.c) (yb (i:=1) yiJ rfl (Or.inl rfl)) rfl) (yin (yev fa.fl_slot (ybT (i:=0) rfl (Or.inl rfl) yl.d yl.c) (yb (i:=2) ygv rfl (Or.inl rfl)) rfl)))
theorem ypG (T:Txt K mg t) :FnOk P w K mg base CX0 (0+1) t.ygL t.ygM ["self","slot","parts","others"] (spI (ybB K t) 3 7 yfd):=by
 have fa:=T.fa
 exact zin T.yrq ypq rfl (by decide) fun cdv Ar outer sh H E hr=>(yed (yev fa.fl_slot (ybT (i:=0) rfl (Or.inl rfl) yl.d yl.c) (yb (i:=1) ygv rfl (Or.inl rfl)) rfl) (yed (yev fa.fl_parts (ybT (i:=0) rfl (Or.inl rfl) yl.d yl.c) (yhT (ygD ybh ydB yeP rfl T.z_list yeK (ya (yb (i:=2) ynJ rfl (Or.inl rfl)) yf rfl) rfl rfl)) rfl) (yin (yev fa.fl_others (ybT (i:=0) rfl (Or.inl rfl) yl.d yl.c) (yhT (ygD ybh ydB yeP rfl T.z_list yeK (ya (yb (i:=3) ytQ rfl (Or.inl rfl)) yf rfl) rfl rfl)) rfl))))
theorem ylH (T:Txt K mg t) :FnOk P w K mg base CX0 (0+1) t.yel t.yem ["self","parts","others"] (spI (ybB K t) 2 8 ycR):=by
 have fa:=T.fa
 exact zin T.ymd yll rfl (by decide) fun cdv Ar outer sh H E hr=>(yed (yev fa.fl_parts (ybT (i:=0) rfl (Or.inl rfl) yl.d yl.c) (yhT (ygD ybh ydB yeP rfl T.z_list yeK (ya (yb (i:=1) ynJ rfl (Or.inl rfl)) yf rfl) rfl rfl)) rfl) (yin (yev fa.fl_others (ybT (i:=0) rfl (Or.inl rfl) yl.d yl.c) (yhT (ygD ybh ydB yeP rfl T.z_list yeK (ya (yb (i:=2) ytQ rfl (Or.inl rfl)) yf rfl) rfl rfl)) rfl)))
theorem ymj (T:Txt K mg t) (yhg:FnOk P w K mg base CX0 (3) t.ydW t.yfk ["self","slots","width"] (spJ (ybB K t) 2 1 ydQ)):FnOk P w K mg base CX0 (4+1) t.yeF t.yeG ["self","boxes","slots"] (spI (ybB K t) 2 1 ydw):=by
 have fa:=T.fa
 exact zin T.yns ylX rfl (by decide) fun cdv Ar outer sh H E hr=>(yed (yER T.cf_Doer yFo rfl T.m_Doer yhg (hr.mono (by omega)) T.yoG (ybT (i:=0) rfl (Or.inl rfl) yl.d yl.c) (ya (yb (i:=2) ynK rfl (Or.inl rfl)) (ya (ykQ ycT ymq ylD rfl T.z_len ykG (ya (yb (i:=1) yrx rfl (Or.inl rfl)) yf rfl) rfl rfl) yf rfl) rfl) rfl rfl rfl rfl) (yin (yev fa.fl_found (ybT (i:=0) rfl (Or.inl rfl) yl.d yl.c) (yhT (ygD ybh ydB yeP rfl T.z_list yeK (ya (yb (i:=1) yrx rfl (Or.inl rfl)) yf rfl) rfl rfl)) rfl)))
theorem ylI (T:Txt K mg t) (yia:FnOk P w K mg base CX0 (4) t.yfQ t.yfR ["self","place"] (spE (ybB K t) 2 yex)) (yhh:FnOk P w K mg base CX0 (4) t.yfl t.yfm ["self","slot","place"] (spE (ybB K t) 3 ydR)) (ygw:FnOk P w K mg base CX0 (4) t.yeD t.yeE ["self","slot","place","numbers"] (spE (ybB K t) 4 ydv)):FnOk P w K mg base CX0 (4+1) t.yej t.yek ["self","part"] (spE (ybB K t) 2 ycQ):=by
 have fa:=T.fa
 exact zfn T.ymb ylk fun cdv Ar outer sh H E hr=>(yi (ybp (ygb (yQ (yb (i:=0) yl rfl (Or.inl rfl)) (T.cl 1) T.ms_Doing_sees_at yia (hr.mono (by omega)) T.ypv (ya (ybV fa.fl_place (yb (i:=1) yN rfl (Or.inl rfl)) rfl) yf rfl) rfl rfl rfl) (fun _=>rfl)) (yi (ycO (yQ (yb (i:=0) yl rfl (Or.inl rfl)) (T.cl 1) T.ms_Doing_take_seen ygw (hr.mono (by omega)) T.ynr (ya (ybV fa.fl_slot (yb (i:=1) yN rfl (Or.inl rfl)) rfl) (ya (ybV fa.fl_place (yb (i:=1) yN rfl (Or.inl rfl)) rfl) (ya (ybV fa.fl_found (yb (i:=0) yl rfl (Or.inl rfl)) rfl) yf rfl) rfl) rfl) rfl rfl rfl) rfl)) (yi (ycO (yQ (yb (i:=0) yl rfl (Or.inl rfl)) (T.cl 1) T.ms_Doing_take_own yhh (hr.mono (by omega)) T.yoI (ya (ybV fa.fl_slot (yb (i:=1) yN rfl (Or.inl rfl)) rfl) (ya (ybV fa.fl_place (yb (i:=1) yN rfl (Or.inl rfl)) rfl) yf rfl) rfl) rfl rfl rfl) rfl))))
theorem ykz (T:Txt K mg t) (yiK:FnOk P w K mg base CX0 (4) t.ygJ t.ygK ["self","place","slot"] (spE (ybB K t) 3 yfc)) (ygx:FnOk P w K mg base CX0 (3) t.yeB t.yeC ["self","word","slot","one","other"] (spE (ybB K t) 5 ydu)) (ybg:FnOk P w K mg base CX0 (2) t.ydX t.ydY ["self","slot","number"] (spE (ybB K t) 3 ybC)) (yfG:FnOk P w K mg base CX0 (5) t.yej t.yek ["self","part"] (spE (ybB K t) 2 ycQ)):FnOk P w K mg base CX0 (5+1) t.ydD t.ydE ["self","part"] (spE (ybB K t) 2 ycz):=by
 have fa:=T.fa
 exact zfn T.ylt yko fun cdv Ar outer sh H E hr=>(yg (ybp (ygb (ykQ yX (yiY (K:=ckX _ _) fa.isa) yF rfl T.z_isinstance yC (ya (yb (i:=1) yN rfl (Or.inl rfl)) (ya (ykP yCW rfl T.m_Let) yf rfl) rfl) rfl rfl) (fun _=>rfl)) (yi (ycO (yQ (yb (i:=0) yl rfl (Or.inl rfl)) (T.cl 1) T.ms_Doing_hold ybg (hr.mono (by omega)) T.yha (ya (ybV fa.fl_slot (yb (i:=1) yN rfl (Or.inl rfl)) rfl) (ya (ybV fa.fl_number (yb (i:=1) yN rfl (Or.inl rfl)) rfl) yf rfl) rfl) rfl rfl rfl) rfl)) yz) (yg (ybp (ygb (ykQ yX (yiY (K:=ckX _ _) fa.isa) yF rfl T.z_isinstance yC (ya (yb (i:=1) yN rfl (Or.inl rfl)) (ya (ykP ytL rfl T.m_Reckon) yf rfl) rfl) rfl rfl) (fun _=>rfl)) (yi (ycO (yQ (yb (i:=0) yl rfl (Or.inl rfl)) (T.cl 1) T.ms_Doing_do_reckon ygx (hr.mono (by omega)) T.ynp (ya (ybV fa.fl_word (yb (i:=1) yN rfl (Or.inl rfl)) rfl) (ya (ybV fa.fl_slot (yb (i:=1) yN rfl (Or.inl rfl)) rfl) (ya (ybV fa.fl_one (yb (i:=1) yN rfl (Or.inl rfl)) rfl) (ya (ybV fa.fl_other (yb (i:=1) yN rfl (Or.inl rfl)) rfl) yf rfl) rfl) rfl) rfl) rfl rfl rfl) rfl)) yz) (yg (ybp (ygb (ykQ yX (yiY (K:=ckX _ _) fa.isa) yF rfl T.z_isinstance yC (ya (yb (i:=1) yN rfl (Or.inl rfl)) (ya (ykP yzD rfl T.m_Take) yf rfl) rfl) rfl rfl) (fun _=>rfl)) (yi (ycO (yQ (yb (i:=0) yl rfl (Or.inl rfl)) (T.cl 1) T.ylz yfG (hr.mono (by omega)) T.ymc (ya (yb (i:=1) yN rfl (Or.inl rfl)) yf rfl) rfl rfl rfl) rfl)) yz) (yi (ybp (ygb (ykQ yX (yiY (K:=ckX _ _) fa.isa) yF rfl T.z_isinstance yC (ya (yb (i:=1) yN rfl (Or.inl rfl)) (ya (ykP yCX rfl T.m_Put) yf rfl) rfl) rfl rfl) (fun _=>rfl)) (yi (ycO (yQ (yb (i:=0) yl rfl (Or.inl rfl)) (T.cl 1) T.ms_Doing_do_put yiK (hr.mono (by omega)) T.yrp (ya (ybV fa.fl_place (yb (i:=1) yN rfl (Or.inl rfl)) rfl) (ya (ybV fa.fl_slot (yb (i:=1) yN rfl (Or.inl rfl)) rfl) yf rfl) rfl) rfl rfl rfl) rfl)) yz)))))
structure yKn (P:Program) (w:World) (K:PySem.W.Frag) (mg:Str->Option Value) (base:Heap) (t:Ads) (n:Nat):Prop where
 yiQ:FnOk P w K mg base CX0 (n+8) t.yeH t.yeI ["self","parts"] (spE (ybB K t) 2 (yZ n))
 yiR:FnOk P w K mg base CX0 (n+8) t.ygt t.ygu ["self","part"] (spE (ybB K t) 2 (yba n))
 ykd:FnOk P w K mg base CX0 (n+8) t.yhX t.yhY ["self","part"] (spE (ybB K t) 2 (yfN n))
 yhL:FnOk P w K mg base CX0 (n+8) t.yfp t.yfq ["self","part"] (spE (ybB K t) 2 (ydC n))
 yjy:FnOk P w K mg base CX0 (n+8) t.ygY t.ygZ ["self","part"] (spE (ybB K t) 2 (yjl n))
 yhi:FnOk P w K mg base CX0 (n+8) t.yeN t.yeO ["self","parts"] (spE (ybB K t) 2 (yck n))
theorem yzL (T:Txt K mg t) (yG:FnOk P w K mg base CX0 (2) t.ycL t.ycM ["self","slot"] (spE (ybB K t) 2 yT)) (ybg:FnOk P w K mg base CX0 (2) t.ydX t.ydY ["self","slot","number"] (spE (ybB K t) 3 ybC)) (ydF:FnOk P w K mg base CX0 (6) t.ydD t.ydE ["self","part"] (spE (ybB K t) 2 ycz)) (yiL:FnOk P w K mg base CX0 (1) t.yiv t.yiw ["self"] (spE (ybB K t) 1 ygT)) (yjP:FnOk P w K mg base CX0 (1) t.yjK t.yjL ["self"] (spE (ybB K t) 1 ygP)) (yhM:FnOk P w K mg base CX0 (1) t.yhv t.yhw ["self"] (spE (ybB K t) 1 yge)) :∀ n,yKn P w K mg base t n
 | 0=>⟨yhf,yhf,yhf,yhf,yhf,yhf⟩
 | n+1=>by
  have fa:=T.fa
  have I:=yzL T yG ybg ydF yiL yjP yhM n
  have ybo:=I.yiQ
  have yiS:=I.yiR
  have yke:=I.ykd
  have yhN:=I.yhL
  have yjz:=I.yjy
  have yeQ:=I.yhi
  exact ⟨zfn T.ynu yfC fun cdv Ar outer sh H E hr=>(yg (ypW PassesOwn.never rfl (yqK (yb (i:=1) ynJ rfl (Or.inl rfl))) (yim (i:=2) yfC.nd rfl (Or.inl rfl) (Or.inl rfl)) (yg (yH (i:=3) yfC.nd rfl (Or.inl rfl) (yQ (yb (i:=0) yl rfl (Or.inl rfl)) (T.cl 1) T.ymf yiS (hr.mono (by omega)) T.ynw (ya (yb (i:=2) yN rfl (Or.inl rfl)) yf rfl) rfl rfl rfl) rfl (Or.inl rfl)) (yi (ybp (ybc (yGZ (yvX hr)) yIY (yb (i:=3) yii rfl (Or.inl rfl)) (yoo (ss:=["done"]) yoP rfl T.m_DONE T.kt_DONE) (yO _)) (yi (yx (yb (i:=3) yii rfl (Or.inl rfl)))) yz))) (fun _=>rfl)) (yi (yx (yoo (ss:=["done"]) yoP rfl T.m_DONE T.kt_DONE)))),
   zfn T.ynv ylY fun cdv Ar outer sh H E hr=>(yg (ybp (ygb (ykQ yX (yiY (K:=ckX _ _) fa.isa) yF rfl T.z_isinstance yC (ya (yb (i:=1) yN rfl (Or.inl rfl)) (ya (ykP yHW rfl T.m_If) yf rfl) rfl) rfl rfl) (fun _=>rfl)) (yi (yx (yQ (yb (i:=0) yl rfl (Or.inl rfl)) (T.cl 1) T.yoO yke (hr.mono (by omega)) T.ypB (ya (yb (i:=1) yN rfl (Or.inl rfl)) yf rfl) rfl rfl rfl))) yz) (yg (ybp (ygb (ykQ yX (yiY (K:=ckX _ _) fa.isa) yF rfl T.z_isinstance yC (ya (yb (i:=1) yN rfl (Or.inl rfl)) (ya (ykP ytK rfl T.m_Either) yf rfl) rfl) rfl rfl) (fun _=>rfl)) (yi (yx (yQ (yb (i:=0) yl rfl (Or.inl rfl)) (T.cl 1) T.ykx yhN (hr.mono (by omega)) T.ylw (ya (yb (i:=1) yN rfl (Or.inl rfl)) yf rfl) rfl rfl rfl))) yz) (yg (ybp (ygb (ykQ yX (yiY (K:=ckX _ _) fa.isa) yF rfl T.z_isinstance yC (ya (yb (i:=1) yN rfl (Or.inl rfl)) (ya (ykP yHY rfl T.m_Try) yf rfl) rfl) rfl rfl) (fun _=>rfl)) (yi (yx (yQ (yb (i:=0) yl rfl (Or.inl rfl)) (T.cl 1) T.ynx yjz (hr.mono (by omega)) T.yoM (ya (yb (i:=1) yN rfl (Or.inl rfl)) yf rfl) rfl rfl rfl))) yz) (yg (ybp (ygb (ykQ yX (yiY (K:=ckX _ _) fa.isa) yF rfl T.z_isinstance yC (ya (yb (i:=1) yN rfl (Or.inl rfl)) (ya (ykP yBQ rfl T.m_Throw) yf rfl) rfl) rfl rfl) (fun _=>rfl)) (yi (yx (ygc (ya z_str (ya (ybV fa.fl_name (yb (i:=1) yN rfl (Or.inl rfl)) rfl) (ya (yQ (yb (i:=0) yl rfl (Or.inl rfl)) (T.cl 1) T.ms_Doing_held_in yG (hr.mono (by omega)) T.ydy (ya (ybV fa.fl_slot (yb (i:=1) yN rfl (Or.inl rfl)) rfl) yf rfl) rfl rfl rfl) yf rfl) rfl) rfl)))) yz) (yg (ybp (ygb (ykQ yX (yiY (K:=ckX _ _) fa.isa) yF rfl T.z_isinstance yC (ya (yb (i:=1) yN rfl (Or.inl rfl)) (ya (ykP yzE rfl T.m_Wait) yf rfl) rfl) rfl rfl) (fun _=>rfl)) (yi (yx (yoo (ss:=["waits"]) ywj rfl T.m_WAITS T.kt_WAITS))) yz) (yg (ycO (yQ (yb (i:=0) yl rfl (Or.inl rfl)) (T.cl 1) T.ykw ydF (hr.mono (by omega)) T.ylu (ya (yb (i:=1) yN rfl (Or.inl rfl)) yf rfl) rfl rfl rfl) rfl) (yi (yx (yoo (ss:=["done"]) yoP rfl T.m_DONE T.kt_DONE))))))))),
   zfn T.ypA yoE fun cdv Ar outer sh H E hr=>(yg (ybp (ybc yFX yJH (yQ (yb (i:=0) yl rfl (Or.inl rfl)) (T.cl 1) T.ms_Doing_held_in yG (hr.mono (by omega)) T.ydy (ya (ybV fa.fl_slot (yb (i:=1) yN rfl (Or.inl rfl)) rfl) yf rfl) rfl rfl rfl) z_int (yO _)) (yi (yx (yQ (yb (i:=0) yl rfl (Or.inl rfl)) (T.cl 1) T.yci ybo (hr.mono (by omega)) T.ycp (ya (ybV fa.fl_parts (yb (i:=1) yN rfl (Or.inl rfl)) rfl) yf rfl) rfl rfl rfl))) yz) (yi (yx (yQ (yb (i:=0) yl rfl (Or.inl rfl)) (T.cl 1) T.yci ybo (hr.mono (by omega)) T.ycp (ya (ybV fa.fl_others (yb (i:=1) yN rfl (Or.inl rfl)) rfl) yf rfl) rfl rfl rfl)))),
   zfn T.ylv ygX fun cdv Ar outer sh H E hr=>(yg (yH (i:=2) ygX.nd rfl (Or.inl rfl) (yQ (yb (i:=0) yl rfl (Or.inl rfl)) (T.cl 1) T.ygE yeQ (hr.mono (by omega)) T.yhb (ya (ybV fa.fl_parts (yb (i:=1) yN rfl (Or.inl rfl)) rfl) yf rfl) rfl rfl rfl) rfl (Or.inl rfl)) (yg (ybp (ybc (yyQ (yvX hr)) yEv (yb (i:=2) yii rfl (Or.inl rfl)) (yoo (ss:=["waits"]) ywj rfl T.m_WAITS T.kt_WAITS) (yO _)) (yi (yx (yQ (yb (i:=0) yl rfl (Or.inl rfl)) (T.cl 1) T.yci ybo (hr.mono (by omega)) T.ycp (ya (ybV fa.fl_others (yb (i:=1) yN rfl (Or.inl rfl)) rfl) yf rfl) rfl rfl rfl))) yz) (yi (yx (yb (i:=2) yii rfl (Or.inl rfl)))))),
   zfn T.yoL yiP fun cdv Ar outer sh H E hr=>(yg (yH (i:=2) yiP.nd rfl (Or.inl rfl) (yQ (yb (i:=0) yl rfl (Or.inl rfl)) (T.cl 1) T.ygE yeQ (hr.mono (by omega)) T.yhb (ya (ybV fa.fl_parts (yb (i:=1) yN rfl (Or.inl rfl)) rfl) yf rfl) rfl rfl rfl) rfl (Or.inl rfl)) (yg (ybp (yJQ (yGP (ybc yec yjF (ydG ix_tup ycn (yb (i:=2) yii rfl (Or.inl rfl)) z_int (fun _ _=>rfl)) z_str (yO _)) (yEC (ybc yec yjF (ydG ix_tup ycn (yb (i:=2) yii rfl (Or.inl rfl)) z_int (fun _ _=>rfl)) (ybV fa.fl_name (yb (i:=1) yN rfl (Or.inl rfl)) rfl) (yO _))))) (yg (ycO (yQ (yb (i:=0) yl rfl (Or.inl rfl)) (T.cl 1) T.ms_Doing_hold ybg (hr.mono (by omega)) T.yha (ya (ybV fa.fl_slot (yb (i:=1) yN rfl (Or.inl rfl)) rfl) (ya (ydG ix_tup ycn (yb (i:=2) yii rfl (Or.inl rfl)) z_int (fun _ _=>rfl)) yf rfl) rfl) rfl rfl rfl) rfl) (yi (yx (yQ (yb (i:=0) yl rfl (Or.inl rfl)) (T.cl 1) T.yci ybo (hr.mono (by omega)) T.ycp (ya (ybV fa.fl_others (yb (i:=1) yN rfl (Or.inl rfl)) rfl) yf rfl) rfl rfl rfl)))) yz) (yi (yx (yb (i:=2) yii rfl (Or.inl rfl)))))),
   zfn T.ykr yeq fun cdv Ar outer sh H E hr=>(yg (yH (i:=2) yeq.nd rfl (Or.inl rfl) (yic (ygD ybh ydB yeP rfl T.z_list yeK (ya (ybV fa.fl_held (yb (i:=0) yl rfl (Or.inl rfl)) rfl) yf rfl) rfl rfl)) rfl (Or.inl rfl)) (yg (ycO (yjH (ybV fa.fl_log (yb (i:=0) yl rfl (Or.inl rfl)) rfl) (T.cl 0) T.ytI yiL (hr.mono (by omega)) T.yve rfl) rfl) (yg (yH (i:=3) yeq.nd rfl (Or.inl rfl) (yQ (yb (i:=0) yl rfl (Or.inl rfl)) (T.cl 1) T.yci ybo (hr.mono (by omega)) T.ycp (ya (yb (i:=1) ynJ rfl (Or.inl rfl)) yf rfl) rfl rfl rfl) rfl (Or.inl rfl)) (yg (ybp (ybc (yyQ (yvX hr)) yEv (yb (i:=3) yii rfl (Or.inl rfl)) (yoo (ss:=["done"]) yoP rfl T.m_DONE T.kt_DONE) (yO _)) (yi (ycO (yjH (ybV fa.fl_log (yb (i:=0) yl rfl (Or.inl rfl)) rfl) (T.cl 0) T.yrs yhM (hr.mono (by omega)) T.ytx rfl) rfl)) (yg (ycO (yjH (ybV fa.fl_log (yb (i:=0) yl rfl (Or.inl rfl)) rfl) (T.cl 0) T.yvk yjP (hr.mono (by omega)) T.yxc rfl) rfl) (yi (yEI fa.fl_held (yb (i:=0) yl rfl (Or.inl rfl)) (yb (i:=2) yzF rfl (Or.inl rfl)) rfl)))) (yi (yx (yb (i:=3) yii rfl (Or.inl rfl))))))))⟩
theorem yBT (T:Txt K mg t) (ygy:FnOk P w K mg base CX0 (5) t.yeF t.yeG ["self","boxes","slots"] (spI (ybB K t) 2 1 ydw)) (ybo:FnOk P w K mg base CX0 (28) t.yeH t.yeI ["self","parts"] (spE (ybB K t) 2 (yZ 20))) (ylJ:FnOk P w K mg base CX0 (1) t.ylp t.ylq ["self"] (spE (ybB K t) 1 ygU)) (ykA:FnOk P w K mg base CX0 (1) t.yix t.yiy ["self"] (spE (ybB K t) 1 ygV)):FnOk P w K mg base CX0 (28+1) t.a_alone t.d_alone ["deed","boxes","slots"] (spE (ybB K t) 3 yop):=by
 have fa:=T.fa
 exact zfn T.F_alone sc_alone fun cdv Ar outer sh H E hr=>(yg (yH (i:=3) sc_alone.nd rfl (Or.inl rfl) (yic (yog T.mk_Doing ygy (hr.mono (by omega)) yBO rfl T.m_Doing T.ynt (ya (yb (i:=1) yrx rfl (Or.inl rfl)) (ya (yb (i:=2) ynK rfl (Or.inl rfl)) yf rfl) rfl) rfl rfl)) rfl (Or.inl rfl)) (yg (yH (i:=4) sc_alone.nd rfl (Or.inl rfl) (yQ (yb (i:=3) ylC rfl (Or.inl rfl)) (T.cl 1) T.yci ybo (hr.mono (by omega)) T.ycp (ya (yb (i:=0) yFq rfl (Or.inl rfl)) yf rfl) rfl rfl rfl) rfl (Or.inl rfl)) (yg (ybp (ybc (yyQ (yvX hr)) yEv (yb (i:=4) yii rfl (Or.inl rfl)) (yoo (ss:=["done"]) yoP rfl T.m_DONE T.kt_DONE) (yO _)) (yi (yx (ygc (ya (yb (i:=4) yii rfl (Or.inl rfl)) (ya (yjH (ybV fa.fl_log (yb (i:=3) ylC rfl (Or.inl rfl)) rfl) (T.cl 0) T.yqk ylJ (hr.mono (by omega)) T.yty rfl) (ya (yjH (ybV fa.fl_log (yb (i:=3) ylC rfl (Or.inl rfl)) rfl) (T.cl 0) T.ytJ ykA (hr.mono (by omega)) T.yvg rfl) (ya (yic (ygD ybh ydB yeP rfl T.z_list yeK (ya (ybV fa.fl_held (yb (i:=3) ylC rfl (Or.inl rfl)) rfl) yf rfl) rfl rfl)) yf rfl) rfl) rfl) rfl)))) yz) (yi (yx (ygc (ya (yb (i:=4) yii rfl (Or.inl rfl)) (ya (yjH (ybV fa.fl_log (yb (i:=3) ylC rfl (Or.inl rfl)) rfl) (T.cl 0) T.yqk ylJ (hr.mono (by omega)) T.yty rfl) (ya (yic (ygR yf)) (ya (yic (ygD ybh ydB yeP rfl T.z_list yeK (ya (yb (i:=2) ynK rfl (Or.inl rfl)) yf rfl) rfl rfl)) yf rfl) rfl) rfl) rfl)))))))
theorem yrA (T:Txt K mg t) :FnOk P w K mg base CX0 (0+1) t.yeW t.yeX ["_law_cell"] (spE (ybB K t) 1 ycg):=by
 have fa:=T.fa
 exact zfn T.yhJ yrl fun cdv Ar outer sh H E hr=>(yi (yx (ycr ybK ydI (ycr ypI ywF (yb (i:=0) ycJ rfl (Or.inl rfl)) z_int) z_int)))
theorem ytV (T:Txt K mg t) :FnOk P w K mg base CX0 (0+1) t.yfD t.yfE ["_law_cell"] (spE (ybB K t) 1 ydc):=by
 have fa:=T.fa
 exact zfn T.yiD ytu fun cdv Ar outer sh H E hr=>(yi (yx (ycr ybK ydI (ycr ypI ywF (yb (i:=0) ycJ rfl (Or.inl rfl)) z_int) (ycr yvu yAL z_int z_int))))
structure yKo (P:Program) (w:World) (K:PySem.W.Frag) (mg:Str->Option Value) (base:Heap) (t:Ads) (n:Nat):Prop where
 ynd:FnOk P w K mg base CX0 (n+3) t.yhx t.yhy ["_law_found","_law_due"] (spE (ybB K t) 2 (yv n))
theorem yzM (T:Txt K mg t)  :∀ n,yKo P w K mg base t n
 | 0=>⟨yhf⟩
 | n+1=>by
  have fa:=T.fa
  have I:=yzM T  n
  have ygp:=I.ynd
  exact ⟨zfn T.yjs ylm fun cdv Ar outer sh H E hr=>(yg (ybp (ygb (ykQ yX (yiY (K:=ckX _ _) fa.isa) yF rfl T.z_isinstance yC (ya (yb (i:=1) ydq rfl (Or.inl rfl)) (ya (ytb ytP rfl T.z_int yrU) yf rfl) rfl) rfl rfl) (fun _=>rfl)) (yi (yx (yEB (ykQ yX (yiY (K:=ckX _ _) fa.isa) yF rfl T.z_isinstance yC (ya (yb (i:=0) yy rfl (Or.inl rfl)) (ya (ytb ytP rfl T.z_int yrU) yf rfl) rfl) rfl rfl) (yEB (yJc (ykQ yX (yiY (K:=ckX _ _) fa.isa) yF rfl T.z_isinstance yC (ya (yb (i:=0) yy rfl (Or.inl rfl)) (ya (ytb yFp rfl T.z_bool yDC) yf rfl) rfl) rfl rfl)) (yGN (ywR yec yjF (yb (i:=0) yy rfl (Or.inl rfl)) (yb (i:=1) ydq rfl (Or.inl rfl)) (yO _))))))) yz) (yg (ybp (ygb (ykQ yX (yiY (K:=ckX _ _) fa.isa) yF rfl T.z_isinstance yC (ya (yb (i:=1) ydq rfl (Or.inl rfl)) (ya (ytb yCY rfl T.z_str yCj) yf rfl) rfl) rfl rfl) (fun _=>rfl)) (yi (yx (yEB (ykQ yX (yiY (K:=ckX _ _) fa.isa) yF rfl T.z_isinstance yC (ya (yb (i:=0) yy rfl (Or.inl rfl)) (ya (ytb yCY rfl T.z_str yCj) yf rfl) rfl) rfl rfl) (yGN (ywR yec yjF (yb (i:=0) yy rfl (Or.inl rfl)) (yb (i:=1) ydq rfl (Or.inl rfl)) (yO _)))))) yz) (yg (ybp (ygb (ykQ yX (yiY (K:=ckX _ _) fa.isa) yF rfl T.z_isinstance yC (ya (yb (i:=1) ydq rfl (Or.inl rfl)) (ya (ytb ywl rfl T.z_tuple yvB) yf rfl) rfl) rfl rfl) (fun _=>rfl)) (yi (ybp (yvU (ygb (ykQ yX (yiY (K:=ckX _ _) fa.isa) yF rfl T.z_isinstance yC (ya (yb (i:=0) yy rfl (Or.inl rfl)) (ya (ytb ywl rfl T.z_tuple yvB) yf rfl) rfl) rfl rfl) (fun _=>rfl))) (yi (yx yEA)) yz)) (yi (ybp (yvU (ygb (ykQ yX (yiY (K:=ckX _ _) fa.isa) yF rfl T.z_isinstance yC (ya (yb (i:=0) yy rfl (Or.inl rfl)) (ya (ytb yeP rfl T.z_list yeK) yf rfl) rfl) rfl rfl) (fun _=>rfl))) (yi (yx yEA)) yz))) (yg (ybp (ybc yFX yJH (ykQ ycT ymq ylD rfl T.z_len ykG (ya (yb (i:=0) yy rfl (Or.inl rfl)) yf rfl) rfl rfl) (ykQ ycT ymq ylD rfl T.z_len ykG (ya (yb (i:=1) ydq rfl (Or.inl rfl)) yf rfl) rfl rfl) (yO _)) (yi (yx yEA)) yz) (yg (ypW PassesOwn.never rfl (yuM rfl T.z_range (ya (ykQ ycT ymq ylD rfl T.z_len ykG (ya (yb (i:=1) ydq rfl (Or.inl rfl)) yf rfl) rfl rfl) yf rfl) rfl) (yim (i:=2) ylm.nd rfl (Or.inl rfl) (Or.inl rfl)) (yi (ybp (yvU (ygb (ybR ygp (hr.mono (by omega)) ylA rfl T.ymW T.yjs.kp T.ymV (ya (ydG yvz yBd (yb (i:=0) yy rfl (Or.inl rfl)) (yb (i:=2) ygn rfl (Or.inl rfl)) (fun _ _=>rfl)) (ya (ydG yvz yBd (yb (i:=1) ydq rfl (Or.inl rfl)) (yb (i:=2) ygn rfl (Or.inl rfl)) (fun _ _=>rfl)) yf rfl) rfl) rfl rfl) (fun _=>rfl))) (yi (yx yEA)) yz)) (fun _=>rfl)) (yi (yx yEA)))))))⟩
theorem yrB (T:Txt K mg t) (yds:FnOk P w K mg base CX0 (1) t.yfD t.yfE ["_law_cell"] (spE (ybB K t) 1 ydc)):FnOk P w K mg base CX0 (1+1) t.yhz t.yhA ["_law_mixed_here","_law_cell"] (spE (ybB K t) 2 ygf):=by
 have fa:=T.fa
 exact zfn T.ymX ybv fun cdv Ar outer sh H E hr=>(yg (yH (i:=2) ybv.nd rfl (Or.inl rfl) (yKj yGi yIU z_str yGR (yhU (ydG ix_list yhQ (yhT (ygR (ya z_int (ya z_int (ya z_int yf rfl) rfl) rfl))) (ycr ybK ydI (yb (i:=0) yo rfl (Or.inl rfl)) z_int) (fun _ _=>rfl)))) rfl (Or.inl rfl)) (yg (yH (i:=3) ybv.nd rfl (Or.inl rfl) (ykQ yrP yGy ylD rfl T.z_len ykG (ya (yb (i:=2) yfr rfl (Or.inl rfl)) yf rfl) rfl rfl) rfl (Or.inl rfl)) (yg (yH (i:=4) ybv.nd rfl (Or.inl rfl) (ycr ycm yhp (yb (i:=0) yo rfl (Or.inl rfl)) z_int) rfl (Or.inl rfl)) (yg (yH (i:=5) ybv.nd rfl (Or.inl rfl) (ydG yrN yAN (yb (i:=2) yfr rfl (Or.inl rfl)) (ycr ybK ydI (yb (i:=4) yea rfl (Or.inl rfl)) (yb (i:=3) ybP rfl (Or.inl rfl))) (fun _ _=>rfl)) rfl (Or.inl rfl)) (yg (yH (i:=6) ybv.nd rfl (Or.inl rfl) (ydG yrN yAN (yb (i:=2) yfr rfl (Or.inl rfl)) (ycr ybK ydI (ycr ycm yhp (yb (i:=4) yea rfl (Or.inl rfl)) (yb (i:=3) ybP rfl (Or.inl rfl))) (yb (i:=3) ybP rfl (Or.inl rfl))) (fun _ _=>rfl)) rfl (Or.inl rfl)) (yg (yH (i:=7) ybv.nd rfl (Or.inl rfl) (ydG yrN yAN (yb (i:=2) yfr rfl (Or.inl rfl)) (ycr ybK ydI (ycr ycm yhp (ycr ycm yhp (yb (i:=4) yea rfl (Or.inl rfl)) (yb (i:=3) ybP rfl (Or.inl rfl))) (yb (i:=3) ybP rfl (Or.inl rfl))) (yb (i:=3) ybP rfl (Or.inl rfl))) (fun _ _=>rfl)) rfl (Or.inl rfl)) (yg (yH (i:=8) ybv.nd rfl (Or.inl rfl) (ycr ybK ydI (ycr ycm yhp (yb (i:=0) yo rfl (Or.inl rfl)) z_int) z_int) rfl (Or.inl rfl)) (yg (ybp (ybc yec yjF (yb (i:=8) yhe rfl (Or.inl rfl)) z_int (yO _)) (yi (yx (yhT (ygR (ya (ygc (ya z_str (ya (yb (i:=5) yM rfl (Or.inl rfl)) (ya (ybR yds (hr.mono (by omega)) yjx rfl T.ykt T.yiD.kp T.yks (ya (yb (i:=1) ycJ rfl (Or.inl rfl)) yf rfl) rfl rfl) yf rfl) rfl) rfl)) yf rfl))))) yz) (yg (ybp (ybc yrG yCq (yb (i:=8) yhe rfl (Or.inl rfl)) z_int (yO _)) (yi (yx (yhT (ygR (ya (ygc (ya z_str (ya (yb (i:=5) yM rfl (Or.inl rfl)) (ya (ycr ybK ydI (ycr ycm yhp (yb (i:=4) yea rfl (Or.inl rfl)) z_int) z_int) yf rfl) rfl) rfl)) yf rfl))))) yz) (yg (ybp (ybc yrG yCq (yb (i:=8) yhe rfl (Or.inl rfl)) z_int (yO _)) (yg (yH (i:=9) ybv.nd rfl (Or.inl rfl) (ydG ix_list yhQ (yhT (ygR (ya z_str (ya z_str (ya z_str (ya z_str (ya z_str yf rfl) rfl) rfl) rfl) rfl))) (ycr ybK ydI (ycr ycm yhp (yb (i:=4) yea rfl (Or.inl rfl)) z_int) z_int) (fun _ _=>rfl)) rfl (Or.inl rfl)) (yi (yx (yhT (ygR (ya (ygc (ya z_str (ya (yb (i:=9) yeY rfl (Or.inl rfl)) (ya (yb (i:=5) yM rfl (Or.inl rfl)) (ya (yb (i:=6) yE rfl (Or.inl rfl)) (ya (yb (i:=7) ylB rfl (Or.inl rfl)) yf rfl) rfl) rfl) rfl) rfl)) yf rfl)))))) yz) (yg (ybp (ybc yrG yCq (yb (i:=8) yhe rfl (Or.inl rfl)) z_int (yO _)) (yi (yx (yhT (ygR (ya (ygc (ya z_str (ya (yb (i:=5) yM rfl (Or.inl rfl)) (ya (yb (i:=6) yE rfl (Or.inl rfl)) yf rfl) rfl) rfl)) yf rfl))))) yz) (yg (ybp (ybc yrG yCq (yb (i:=8) yhe rfl (Or.inl rfl)) z_int (yO _)) (yi (yx (yhT (ygR (ya (ygc (ya z_str (ya (yb (i:=5) yM rfl (Or.inl rfl)) (ya (yb (i:=6) yE rfl (Or.inl rfl)) yf rfl) rfl) rfl)) yf rfl))))) yz) (yg (yH (i:=9) ybv.nd rfl (Or.inl rfl) (ydG ix_list yhQ (yhT (ygR (ya z_str (ya z_str (ya z_str yf rfl) rfl) rfl))) (ycr ybK ydI (ycr ycm yhp (yb (i:=4) yea rfl (Or.inl rfl)) z_int) z_int) (fun _ _=>rfl)) rfl (Or.inl rfl)) (yg (yH (i:=10) ybv.nd rfl (Or.inl rfl) (yhT (ygR (ya (ygc (ya z_str (ya (yb (i:=5) yM rfl (Or.inl rfl)) (ya (ycr ybK ydI (ycr ycm yhp (yb (i:=4) yea rfl (Or.inl rfl)) z_int) z_int) yf rfl) rfl) rfl)) (ya (ygc (ya z_str (ya (yb (i:=6) yE rfl (Or.inl rfl)) (ya (yb (i:=5) yM rfl (Or.inl rfl)) yf rfl) rfl) rfl)) yf rfl) rfl))) rfl (Or.inl rfl)) (yi (yx (yhT (yyL yrQ yyg (yb (i:=10) yI rfl (Or.inl rfl)) (yhT (ygR (ya (ygc (ya z_str (ya (yb (i:=9) yeY rfl (Or.inl rfl)) (ya (yb (i:=6) yE rfl (Or.inl rfl)) (ya (yb (i:=6) yE rfl (Or.inl rfl)) (ya (yb (i:=7) ylB rfl (Or.inl rfl)) yf rfl) rfl) rfl) rfl) rfl)) (ya (ygc (ya z_str (ya (yb (i:=5) yM rfl (Or.inl rfl)) (ya (yb (i:=6) yE rfl (Or.inl rfl)) yf rfl) rfl) rfl)) yf rfl) rfl)))))))))))))))))))))
theorem yrC (T:Txt K mg t) :FnOk P w K mg base CX0 (0+1) t.yhB t.yhC ["_law_mixed_here","_law_one","_law_other"] (spE (ybB K t) 3 ygg):=by
 have fa:=T.fa
 exact zfn T.ymY yfj fun cdv Ar outer sh H E hr=>(yg (yH (i:=3) yfj.nd rfl (Or.inl rfl) (ydG yrN yAN z_str (ycr ybK ydI (ycr ycm yhp (yb (i:=0) yo rfl (Or.inl rfl)) z_int) z_int) (fun _ _=>rfl)) rfl (Or.inl rfl)) (yg (ybp (ybc yec yjF (ycr ybK ydI (yb (i:=0) yo rfl (Or.inl rfl)) z_int) z_int (yO _)) (yi (yx (ygc (ya z_str (ya (yb (i:=3) ync rfl (Or.inl rfl)) (ya (yb (i:=1) yM rfl (Or.inl rfl)) (ya (yb (i:=2) yE rfl (Or.inl rfl)) yf rfl) rfl) rfl) rfl)))) yz) (yg (ybp (ybc yec yjF (ycr ybK ydI (ycr ycm yhp (yb (i:=0) yo rfl (Or.inl rfl)) z_int) z_int) z_int (yO _)) (yi (yH (i:=1) yfj.nd rfl (Or.inl rfl) (yhT (yyL yrQ yyg (yb (i:=1) yM rfl (Or.inl rfl)) (yhT (ygR (ya (ygc (ya z_str yf rfl)) yf rfl))))) rfl (Or.inl rfl))) yz) (yg (ybp (ybc yec yjF (ycr ybK ydI (ycr ycm yhp (yb (i:=0) yo rfl (Or.inl rfl)) z_int) z_int) z_int (yO _)) (yi (yH (i:=1) yfj.nd rfl (Or.inl rfl) (yhT (yyL yrQ yyg (yb (i:=1) yM rfl (Or.inl rfl)) (yhT (ygR (ya (ygc (ya z_str (ya (yb (i:=3) ync rfl (Or.inl rfl)) (ya (yhT (ygR (ya (ygc (ya z_str yf rfl)) yf rfl))) (ya (yhT (ygR yf)) yf rfl) rfl) rfl) rfl)) yf rfl))))) rfl (Or.inl rfl))) yz) (yg (ybp (ybc yec yjF (ycr ybK ydI (ycr ycm yhp (yb (i:=0) yo rfl (Or.inl rfl)) z_int) z_int) z_int (yO _)) (yi (yH (i:=2) yfj.nd rfl (Or.inl rfl) (yhT (yyL yrQ yyg (yb (i:=2) yE rfl (Or.inl rfl)) (yhT (ygR (ya (ygc (ya z_str yf rfl)) yf rfl))))) rfl (Or.inl rfl))) yz) (yi (yx (ygc (ya z_str (ya (yb (i:=1) yM rfl (Or.inl rfl)) (ya (yb (i:=2) yE rfl (Or.inl rfl)) yf rfl) rfl) rfl)))))))))
structure yKp (P:Program) (w:World) (K:PySem.W.Frag) (mg:Str->Option Value) (base:Heap) (t:Ads) (n:Nat):Prop where
 ypa:FnOk P w K mg base CX0 (n+3) t.yiz t.yiA ["_law_cells","_law_depth"] (spE (ybB K t) 2 (yeM n))
theorem yzN (T:Txt K mg t) (ych:FnOk P w K mg base CX0 (1) t.yeW t.yeX ["_law_cell"] (spE (ybB K t) 1 ycg)) (yhO:FnOk P w K mg base CX0 (2) t.yhz t.yhA ["_law_mixed_here","_law_cell"] (spE (ybB K t) 2 ygf)) (yhP:FnOk P w K mg base CX0 (1) t.yhB t.yhC ["_law_mixed_here","_law_one","_law_other"] (spE (ybB K t) 3 ygg)) :∀ n,yKp P w K mg base t n
 | 0=>⟨yhf⟩
 | n+1=>by
  have fa:=T.fa
  have I:=yzN T ych yhO yhP n
  have yfH:=I.ypa
  exact ⟨zfn T.yiE ybz fun cdv Ar outer sh H E hr=>(yg (yqL (i:=2) ybz.nd rfl (Or.inl rfl) (ygR yf) rfl (Or.inl rfl)) (yg (yH (i:=3) ybz.nd rfl (Or.inl rfl) z_int rfl (Or.inl rfl)) (yg (yBn 1000 PassesOwn.never (ybc yrG yCq (yb (i:=3) ycq rfl (Or.inl rfl)) (ykQ ycT ymq ylD rfl T.z_len ykG (ya (yb (i:=0) ydp rfl (Or.inl rfl)) yf rfl) rfl rfl) (yO _)) (yg (yH (i:=4) ybz.nd rfl (Or.inl rfl) (ydG ix_list yhQ (yb (i:=0) ydp rfl (Or.inl rfl)) (yb (i:=3) ycq rfl (Or.inl rfl)) (fun _ _=>rfl)) rfl (Or.inl rfl)) (yg (yH (i:=5) ybz.nd rfl (Or.inl rfl) (ybR ych (hr.mono (by omega)) yiG rfl T.yjr T.yhJ.kp T.yjq (ya (yb (i:=4) ycJ rfl (Or.inl rfl)) yf rfl) rfl rfl) rfl (Or.inl rfl)) (yg (yH (i:=3) ybz.nd rfl (Or.inl rfl) (ycr yfx yiT (yb (i:=3) ycq rfl (Or.inl rfl)) z_int) rfl (Or.inl rfl)) (yi (ybp (yJQ (yJd (ybc yec yjF (yb (i:=1) yiF rfl (Or.inl rfl)) z_int (yO _)) (yGQ (ybc yrG yCq (ycr ybK ydI (yb (i:=5) yo rfl (Or.inl rfl)) z_int) z_int (yO _))))) (yqM 2 (yi (yqL (i:=2) ybz.nd rfl (Or.inl rfl) (yyL yrQ yyg (yb (i:=2) yI rfl (Or.inl rfl)) (ybR yhO (hr.mono (by omega)) yru rfl T.ytA T.ymX.kp T.ytz (ya (ycr ycm yhp (yb (i:=5) yo rfl (Or.inl rfl)) z_int) (ya (yb (i:=4) ycJ rfl (Or.inl rfl)) yf rfl) rfl) rfl rfl)) rfl (Or.inl rfl)))) (yi (ybp (ybc yec yjF (ycr ybK ydI (yb (i:=5) yo rfl (Or.inl rfl)) z_int) z_int (yO _)) (yi (yjR (ybT (i:=2) rfl (Or.inl rfl) yI.d yI.c) (ygc (ya z_str yf rfl)) rfl rfl rfl rfl rfl rfl)) (yg (yH (i:=6) ybz.nd rfl (Or.inl rfl) (ycr ybK ydI (ycr ycm yhp (yb (i:=5) yo rfl (Or.inl rfl)) z_int) z_int) rfl (Or.inl rfl)) (yg (yH (i:=7) ybz.nd rfl (Or.inl rfl) (ycr ybK ydI (ycr ycm yhp (yb (i:=5) yo rfl (Or.inl rfl)) z_int) z_int) rfl (Or.inl rfl)) (yg (yH (i:=8) ybz.nd rfl (Or.inl rfl) (ybR yfH (hr.mono (by omega)) yjw rfl T.ykv T.yiE.kp T.yku (ya (yhT (yyM ynR yyf (yb (i:=0) ydp rfl (Or.inl rfl)) (yhU (yb (i:=3) ycq rfl (Or.inl rfl))) (yhU (ycr yfx yiT (yb (i:=3) ycq rfl (Or.inl rfl)) (yb (i:=6) ybP rfl (Or.inl rfl)))))) (ya (ycr yvt yAK (yb (i:=1) yiF rfl (Or.inl rfl)) z_int) yf rfl) rfl) rfl rfl) rfl (Or.inl rfl)) (yg (yH (i:=9) ybz.nd rfl (Or.inl rfl) (ybR yfH (hr.mono (by omega)) yjw rfl T.ykv T.yiE.kp T.yku (ya (yhT (yyM ynR yyf (yb (i:=0) ydp rfl (Or.inl rfl)) (yhU (ycr yfx yiT (yb (i:=3) ycq rfl (Or.inl rfl)) (yb (i:=6) ybP rfl (Or.inl rfl)))) (yhU (ycr yfx yiT (ycr yfx yiT (yb (i:=3) ycq rfl (Or.inl rfl)) (yb (i:=6) ybP rfl (Or.inl rfl))) (yb (i:=7) ynb rfl (Or.inl rfl)))))) (ya (ycr yvt yAK (yb (i:=1) yiF rfl (Or.inl rfl)) z_int) yf rfl) rfl) rfl rfl) rfl (Or.inl rfl)) (yg (yH (i:=3) ybz.nd rfl (Or.inl rfl) (ycr yfx yiT (ycr yfx yiT (yb (i:=3) ycq rfl (Or.inl rfl)) (yb (i:=6) ybP rfl (Or.inl rfl))) (yb (i:=7) ynb rfl (Or.inl rfl))) rfl (Or.inl rfl)) (yi (yjR (ybT (i:=2) rfl (Or.inl rfl) yI.d yI.c) (ybR yhP (hr.mono (by omega)) yrv rfl T.ytC T.ymY.kp T.ytB (ya (ycr ycm yhp (yb (i:=5) yo rfl (Or.inl rfl)) z_int) (ya (yb (i:=8) yM rfl (Or.inl rfl)) (ya (yb (i:=9) yE rfl (Or.inl rfl)) yf rfl) rfl) rfl) rfl rfl) rfl rfl rfl rfl rfl rfl))))))))))))))) (yqM 2 (yi (yx (yb (i:=2) yI rfl (Or.inl rfl))))))))⟩
structure yKq (P:Program) (w:World) (K:PySem.W.Frag) (mg:Str->Option Value) (base:Heap) (t:Ads) (n:Nat):Prop where
 ypb:FnOk P w K mg base CX0 (n+3) t.yiB t.yiC ["_law_tree_here"] (spE (ybB K t) 1 (ydd n))
theorem yzO (T:Txt K mg t) (yen:FnOk P w K mg base CX0 (1) t.yel t.yem ["self","parts","others"] (spI (ybB K t) 2 8 ycR)) (ygO:FnOk P w K mg base CX0 (1) t.ygL t.ygM ["self","slot","parts","others"] (spI (ybB K t) 3 7 yfd)) (yfY:FnOk P w K mg base CX0 (1) t.yfS t.yfT ["self","slot","number"] (spI (ybB K t) 2 3 yey)) (yfZ:FnOk P w K mg base CX0 (1) t.yfU t.yfV ["self","place","slot"] (spI (ybB K t) 2 6 yez)) (yeo:FnOk P w K mg base CX0 (1) t.yeh t.yei ["self","word","slot","one","other"] (spI (ybB K t) 4 4 ycP)) (yfs:FnOk P w K mg base CX0 (1) t.yfn t.yfo ["self","slot","place"] (spI (ybB K t) 2 5 ydS)) :∀ n,yKq P w K mg base t n
 | 0=>⟨yhf⟩
 | n+1=>by
  have fa:=T.fa
  have I:=yzO T yen ygO yfY yfZ yeo yfs n
  have yeb:=I.ypb
  exact ⟨zfn T.yfF yjm fun cdv Ar outer sh H E hr=>(yg (yqL (i:=1) yjm.nd rfl (Or.inl rfl) (ygR yf) rfl (Or.inl rfl)) (yg (ypW PassesOwn.never rfl (yqK (yb (i:=0) yI rfl (Or.inl rfl))) (yim (i:=2) yjm.nd rfl (Or.inl rfl) (Or.inl rfl)) (yi (ybp (ybc yec yjF (ydG ix_tup ycn (yb (i:=2) ye rfl (Or.inl rfl)) z_int (fun _ _=>rfl)) z_str (yO _)) (yi (yjR (ybT (i:=1) rfl (Or.inl rfl) yt.d yt.c) (yhT (yog T.mk_Let yfY (hr.mono (by omega)) yCW rfl T.m_Let T.ypx (ya (ydG ix_tup ycn (yb (i:=2) ye rfl (Or.inl rfl)) z_int (fun _ _=>rfl)) (ya (ydG ix_tup ycn (yb (i:=2) ye rfl (Or.inl rfl)) z_int (fun _ _=>rfl)) yf rfl) rfl) rfl rfl)) rfl rfl rfl rfl rfl rfl)) (yi (ybp (ybc yec yjF (ydG ix_tup ycn (yb (i:=2) ye rfl (Or.inl rfl)) z_int (fun _ _=>rfl)) z_str (yO _)) (yi (yjR (ybT (i:=1) rfl (Or.inl rfl) yt.d yt.c) (yhT (yog T.mk_Reckon yeo (hr.mono (by omega)) ytL rfl T.m_Reckon T.yma (ya (ydG ix_tup ycn (yb (i:=2) ye rfl (Or.inl rfl)) z_int (fun _ _=>rfl)) (ya (ydG ix_tup ycn (yb (i:=2) ye rfl (Or.inl rfl)) z_int (fun _ _=>rfl)) (ya (ydG ix_tup ycn (yb (i:=2) ye rfl (Or.inl rfl)) z_int (fun _ _=>rfl)) (ya (ydG ix_tup ycn (yb (i:=2) ye rfl (Or.inl rfl)) z_int (fun _ _=>rfl)) yf rfl) rfl) rfl) rfl) rfl rfl)) rfl rfl rfl rfl rfl rfl)) (yi (ybp (ybc yec yjF (ydG ix_tup ycn (yb (i:=2) ye rfl (Or.inl rfl)) z_int (fun _ _=>rfl)) z_str (yO _)) (yi (yjR (ybT (i:=1) rfl (Or.inl rfl) yt.d yt.c) (yhT (yog T.mk_Take yfs (hr.mono (by omega)) yzD rfl T.m_Take T.yoK (ya (ydG ix_tup ycn (yb (i:=2) ye rfl (Or.inl rfl)) z_int (fun _ _=>rfl)) (ya (ydG ix_tup ycn (yb (i:=2) ye rfl (Or.inl rfl)) z_int (fun _ _=>rfl)) yf rfl) rfl) rfl rfl)) rfl rfl rfl rfl rfl rfl)) (yi (ybp (ybc yec yjF (ydG ix_tup ycn (yb (i:=2) ye rfl (Or.inl rfl)) z_int (fun _ _=>rfl)) z_str (yO _)) (yi (yjR (ybT (i:=1) rfl (Or.inl rfl) yt.d yt.c) (yhT (yog T.mk_Put yfZ (hr.mono (by omega)) yCX rfl T.m_Put T.ypz (ya (ydG ix_tup ycn (yb (i:=2) ye rfl (Or.inl rfl)) z_int (fun _ _=>rfl)) (ya (ydG ix_tup ycn (yb (i:=2) ye rfl (Or.inl rfl)) z_int (fun _ _=>rfl)) yf rfl) rfl) rfl rfl)) rfl rfl rfl rfl rfl rfl)) (yi (ybp (ybc yec yjF (ydG ix_tup ycn (yb (i:=2) ye rfl (Or.inl rfl)) z_int (fun _ _=>rfl)) z_str (yO _)) (yi (yjR (ybT (i:=1) rfl (Or.inl rfl) yt.d yt.c) (yhT (yog T.mk_If ygO (hr.mono (by omega)) yHW rfl T.m_If T.yrr (ya (ydG ix_tup ycn (yb (i:=2) ye rfl (Or.inl rfl)) z_int (fun _ _=>rfl)) (ya (ybR yeb (hr.mono (by omega)) ygo rfl T.yhd T.yfF.kp T.yhc (ya (ydG ix_tup ycn (yb (i:=2) ye rfl (Or.inl rfl)) z_int (fun _ _=>rfl)) yf rfl) rfl rfl) (ya (ybR yeb (hr.mono (by omega)) ygo rfl T.yhd T.yfF.kp T.yhc (ya (ydG ix_tup ycn (yb (i:=2) ye rfl (Or.inl rfl)) z_int (fun _ _=>rfl)) yf rfl) rfl rfl) yf rfl) rfl) rfl) rfl rfl)) rfl rfl rfl rfl rfl rfl)) (yi (ybp (ybc yec yjF (ydG ix_tup ycn (yb (i:=2) ye rfl (Or.inl rfl)) z_int (fun _ _=>rfl)) z_str (yO _)) (yi (yjR (ybT (i:=1) rfl (Or.inl rfl) yt.d yt.c) (yhT (yog T.mk_Either yen (hr.mono (by omega)) ytK rfl T.m_Either T.yme (ya (ybR yeb (hr.mono (by omega)) ygo rfl T.yhd T.yfF.kp T.yhc (ya (ydG ix_tup ycn (yb (i:=2) ye rfl (Or.inl rfl)) z_int (fun _ _=>rfl)) yf rfl) rfl rfl) (ya (ybR yeb (hr.mono (by omega)) ygo rfl T.yhd T.yfF.kp T.yhc (ya (ydG ix_tup ycn (yb (i:=2) ye rfl (Or.inl rfl)) z_int (fun _ _=>rfl)) yf rfl) rfl rfl) yf rfl) rfl) rfl rfl)) rfl rfl rfl rfl rfl rfl)) (yi (yjR (ybT (i:=1) rfl (Or.inl rfl) yt.d yt.c) (yhT (yED T.mk_Wait T.io_Wait T.kp_Wait yzE rfl T.m_Wait)) rfl rfl rfl rfl rfl rfl)))))))))))))) (fun _=>rfl)) (yqM 1 (yi (yx (yb (i:=1) yt rfl (Or.inl rfl)))))))⟩
theorem yrD (T:Txt K mg t) (ych:FnOk P w K mg base CX0 (1) t.yeW t.yeX ["_law_cell"] (spE (ybB K t) 1 ycg)) (yds:FnOk P w K mg base CX0 (1) t.yfD t.yfE ["_law_cell"] (spE (ybB K t) 1 ydc)):FnOk P w K mg base CX0 (1+1) t.yhD t.yhE ["_law_cell"] (spE (ybB K t) 1 ygh):=by
 have fa:=T.fa
 exact zfn T.ymZ yeg fun cdv Ar outer sh H E hr=>(yg (yH (i:=1) yeg.nd rfl (Or.inl rfl) (ybR ych (hr.mono (by omega)) yiG rfl T.yjr T.yhJ.kp T.yjq (ya (yb (i:=0) ycJ rfl (Or.inl rfl)) yf rfl) rfl rfl) rfl (Or.inl rfl)) (yg (yH (i:=2) yeg.nd rfl (Or.inl rfl) (ydG ix_list yhQ (yhT (ygR (ya z_int (ya z_int (ya z_int (ya (ycr yfx yiT z_int (ycr ybK ydI (ycr ycm yhp (yb (i:=1) yo rfl (Or.inl rfl)) z_int) z_int)) yf rfl) rfl) rfl) rfl))) (ycr ybK ydI (yb (i:=1) yo rfl (Or.inl rfl)) z_int) (fun _ _=>rfl)) rfl (Or.inl rfl)) (yg (yqL (i:=3) yeg.nd rfl (Or.inl rfl) (ygR yf) rfl (Or.inl rfl)) (yg (ypW PassesOwn.never rfl (yuM rfl T.z_range (ya (yb (i:=2) ybP rfl (Or.inl rfl)) yf rfl) rfl) (yim (i:=4) yeg.nd rfl (Or.inl rfl) (Or.inl rfl)) (yg (yH (i:=5) yeg.nd rfl (Or.inl rfl) (yhT (ygR (ya (ycr ybK ydI (ycr ycm yhp (ycr ycm yhp (yb (i:=1) yo rfl (Or.inl rfl)) z_int) (ycr yfx yiT (yb (i:=4) ygn rfl (Or.inl rfl)) z_int)) z_int) (ya (ybR yds (hr.mono (by omega)) yjx rfl T.ykt T.yiD.kp T.yks (ya (ycr yfx yiT (yb (i:=0) ycJ rfl (Or.inl rfl)) (ycr ypI ywF (yb (i:=4) ygn rfl (Or.inl rfl)) (yb (i:=4) ygn rfl (Or.inl rfl)))) yf rfl) rfl rfl) yf rfl) rfl))) rfl (Or.inl rfl)) (yi (yjR (ybT (i:=3) rfl (Or.inl rfl) yr.d yr.c) (ydG ix_list yhQ (yb (i:=5) ytO rfl (Or.inl rfl)) (ycr ybK ydI (ycr yfx yiT (ycr ycm yhp (yb (i:=1) yo rfl (Or.inl rfl)) z_int) (yb (i:=4) ygn rfl (Or.inl rfl))) z_int) (fun _ _=>rfl)) rfl rfl rfl rfl rfl rfl))) (fun _=>rfl)) (yqM 3 (yi (yx (yb (i:=3) yr rfl (Or.inl rfl)))))))))
theorem yrE (T:Txt K mg t) (ych:FnOk P w K mg base CX0 (1) t.yeW t.yeX ["_law_cell"] (spE (ybB K t) 1 ycg)) (yds:FnOk P w K mg base CX0 (1) t.yfD t.yfE ["_law_cell"] (spE (ybB K t) 1 ydc)):FnOk P w K mg base CX0 (1+1) t.yhF t.yhG ["_law_cell"] (spE (ybB K t) 1 ygi):=by
 have fa:=T.fa
 exact zfn T.yna yis fun cdv Ar outer sh H E hr=>(yg (yH (i:=1) yis.nd rfl (Or.inr rfl) (ybR ych (hr.mono (by omega)) yiG rfl T.yjr T.yhJ.kp T.yjq (ya (yb (i:=0) ycJ rfl (Or.inl rfl)) yf rfl) rfl rfl) rfl (Or.inl rfl)) (yg (yBt (iy:=2) [1] ["_law_mixed_here"] rfl (yuM rfl T.z_range (ya z_int yf rfl) rfl) ⟨rfl,rfl,rfl,True.intro⟩ (fun _ _ _ _ _ _=>(ycr ybK ydI (ycr ycm yhp (yb (i:=1) yo rfl (Or.inr (Or.inl rfl))) (ycr yfx yiT (ycr ypI ywF (yb (i:=0) ygn rfl (Or.inl rfl)) (yb (i:=0) ygn rfl (Or.inl rfl))) z_int)) z_int)) (by decide +kernel) rfl (by decide +kernel) (by decide +kernel) (by decide +kernel) rfl (fun _=>rfl) yis.nd rfl (Or.inl rfl) (Or.inl rfl) rfl) (yg (yoh (ybR yds (hr.mono (by omega)) yjx rfl T.ykt T.yiD.kp T.yks (ya (yb (i:=0) ycJ rfl (Or.inl rfl)) yf rfl) rfl rfl) (yb (i:=2) ym rfl (Or.inl rfl)) (ycr ybK ydI (yb (i:=1) yo rfl (Or.inr (Or.inl rfl))) z_int) (fun _=>rfl) rfl rfl rfl) (yi (yx (yb (i:=2) ym rfl (Or.inl rfl)))))))
theorem yvo (T:Txt K mg t) :FnOk P w K mg base CX0 (0+1) t.yjM t.yjN ["_law_word","_law_one","_law_other"] (spE (ybB K t) 3 yid):=by
 have fa:=T.fa
 exact zfn T.yqi yva fun cdv Ar outer sh H E hr=>(yg (ybp (ybc yec yjF (yb (i:=0) yeY rfl (Or.inl rfl)) z_str (yO _)) (yi (yx (yEE ynM yyi ytP rfl T.z_int yrU (ya (ywR yrG yCq (yb (i:=1) yM rfl (Or.inl rfl)) (yb (i:=2) yE rfl (Or.inl rfl)) (yO _)) yf rfl) rfl rfl))) yz) (yg (ybp (ybc yec yjF (yb (i:=0) yeY rfl (Or.inl rfl)) z_str (yO _)) (yi (yx (yEE ynM yyi ytP rfl T.z_int yrU (ya (ywR yec yjF (yb (i:=1) yM rfl (Or.inl rfl)) (yb (i:=2) yE rfl (Or.inl rfl)) (yO _)) yf rfl) rfl rfl))) yz) (yg (ybp (ybc yec yjF (yb (i:=0) yeY rfl (Or.inl rfl)) z_str (yO _)) (yi (yx (ycr ybK ydI (ycr yfx yiT (yb (i:=1) yM rfl (Or.inl rfl)) (yb (i:=2) yE rfl (Or.inl rfl))) (ycr yvu yAL z_int z_int)))) yz) (yg (ybp (ybc yec yjF (yb (i:=0) yeY rfl (Or.inl rfl)) z_str (yO _)) (yi (yx (ycr ybK ydI (ycr yvt yAK (yb (i:=1) yM rfl (Or.inl rfl)) (yb (i:=2) yE rfl (Or.inl rfl))) (ycr yvu yAL z_int z_int)))) yz) (yi (yx (ycr ybK ydI (ycr ypI ywF (yb (i:=1) yM rfl (Or.inl rfl)) (yb (i:=2) yE rfl (Or.inl rfl))) (ycr yvu yAL z_int z_int))))))))
theorem ypc (T:Txt K mg t) (ymk:FnOk P w K mg base CX0 (1) t.yjM t.yjN ["_law_word","_law_one","_law_other"] (spE (ybB K t) 3 yid)):FnOk P w K mg base CX0 (1+1) t.yfW t.yfX ["_law_part_here","_law_boxes_here","_law_saw","_law_slots_here","_law_written"] (spE (ybB K t) 5 yeA):=by
 have fa:=T.fa
 exact zfn T.ykb ydV fun cdv Ar outer sh H E hr=>(yi (ybp (ybc yec yjF (ydG ix_tup ycn (yb (i:=0) ye rfl (Or.inl rfl)) z_int (fun _ _=>rfl)) z_str (yO _)) (yi (yoh (ydG ix_tup ycn (yb (i:=0) ye rfl (Or.inl rfl)) z_int (fun _ _=>rfl)) (yb (i:=3) ym rfl (Or.inl rfl)) (yxm PySem.F.plainAttrs_str PySem.F.slot_str_find PySem.F.type_str_find yhV yfL z_str (ya (ydG ix_tup ycn (yb (i:=0) ye rfl (Or.inl rfl)) z_int (fun _ _=>rfl)) yf rfl) rfl rfl rfl rfl rfl) (fun _=>rfl) rfl rfl rfl)) (yi (ybp (ybc yec yjF (ydG ix_tup ycn (yb (i:=0) ye rfl (Or.inl rfl)) z_int (fun _ _=>rfl)) z_str (yO _)) (yg (yH (i:=5) ydV.nd rfl (Or.inl rfl) (ydG ix_list yhQ (yb (i:=3) ym rfl (Or.inl rfl)) (yxm PySem.F.plainAttrs_str PySem.F.slot_str_find PySem.F.type_str_find yhV yfL z_str (ya (ydG ix_tup ycn (yb (i:=0) ye rfl (Or.inl rfl)) z_int (fun _ _=>rfl)) yf rfl) rfl rfl rfl rfl rfl) (fun _ _=>rfl)) rfl (Or.inl rfl)) (yg (yH (i:=6) ydV.nd rfl (Or.inl rfl) (ydG ix_list yhQ (yb (i:=3) ym rfl (Or.inl rfl)) (yxm PySem.F.plainAttrs_str PySem.F.slot_str_find PySem.F.type_str_find yhV yfL z_str (ya (ydG ix_tup ycn (yb (i:=0) ye rfl (Or.inl rfl)) z_int (fun _ _=>rfl)) yf rfl) rfl rfl rfl rfl rfl) (fun _ _=>rfl)) rfl (Or.inl rfl)) (yi (yoh (ybR ymk (hr.mono (by omega)) yvm rfl T.yxe T.yqi.kp T.yxd (ya (ydG ix_tup ycn (yb (i:=0) ye rfl (Or.inl rfl)) z_int (fun _ _=>rfl)) (ya (yb (i:=5) yM rfl (Or.inl rfl)) (ya (yb (i:=6) yE rfl (Or.inl rfl)) yf rfl) rfl) rfl) rfl rfl) (yb (i:=3) ym rfl (Or.inl rfl)) (yxm PySem.F.plainAttrs_str PySem.F.slot_str_find PySem.F.type_str_find yhV yfL z_str (ya (ydG ix_tup ycn (yb (i:=0) ye rfl (Or.inl rfl)) z_int (fun _ _=>rfl)) yf rfl) rfl rfl rfl rfl rfl) (fun _=>rfl) rfl rfl rfl)))) (yi (ybp (ybc yec yjF (ydG ix_tup ycn (yb (i:=0) ye rfl (Or.inl rfl)) z_int (fun _ _=>rfl)) z_str (yO _)) (yg (yH (i:=7) ydV.nd rfl (Or.inl rfl) (ycr ybK ydI (ydG ix_list yhQ (yb (i:=3) ym rfl (Or.inl rfl)) (yxm PySem.F.plainAttrs_str PySem.F.slot_str_find PySem.F.type_str_find yhV yfL z_str (ya (ydG ix_tup ycn (yb (i:=0) ye rfl (Or.inl rfl)) z_int (fun _ _=>rfl)) yf rfl) rfl rfl rfl rfl rfl) (fun _ _=>rfl)) (ykQ ycT ymq ylD rfl T.z_len ykG (ya (yb (i:=1) yr rfl (Or.inl rfl)) yf rfl) rfl rfl)) rfl (Or.inl rfl)) (yi (yqN (yqq hr) (yb (i:=4) yY rfl (Or.inl rfl)) (yb (i:=7) ydZ rfl (Or.inl rfl)) (ydG ix_list yhQ (yb (i:=3) ym rfl (Or.inl rfl)) (yxm PySem.F.plainAttrs_str PySem.F.slot_str_find PySem.F.type_str_find yhV yfL z_str (ya (ydG ix_tup ycn (yb (i:=0) ye rfl (Or.inl rfl)) z_int (fun _ _=>rfl)) yf rfl) rfl rfl rfl rfl rfl) (fun _ _=>rfl)) rfl))) (yg (yH (i:=7) ydV.nd rfl (Or.inl rfl) (ycr ybK ydI (ydG ix_list yhQ (yb (i:=3) ym rfl (Or.inl rfl)) (yxm PySem.F.plainAttrs_str PySem.F.slot_str_find PySem.F.type_str_find yhV yfL z_str (ya (ydG ix_tup ycn (yb (i:=0) ye rfl (Or.inl rfl)) z_int (fun _ _=>rfl)) yf rfl) rfl rfl rfl rfl rfl) (fun _ _=>rfl)) (ykQ ycT ymq ylD rfl T.z_len ykG (ya (yb (i:=1) yr rfl (Or.inl rfl)) yf rfl) rfl rfl)) rfl (Or.inl rfl)) (yg (ybp (yyN (yqq hr) (yb (i:=7) ydZ rfl (Or.inl rfl)) (yb (i:=4) yY rfl (Or.inl rfl)) (by with_unfolding_all rfl)) (yi (yqN (yqq hr) (yb (i:=2) ydr rfl (Or.inl rfl)) (yb (i:=7) ydZ rfl (Or.inl rfl)) (ydG ix_list yhQ (yb (i:=1) yr rfl (Or.inl rfl)) (yb (i:=7) ydZ rfl (Or.inl rfl)) (fun _ _=>rfl)) rfl)) yz) (yi (yoh (yEG (yqq hr) (yb (i:=4) yY rfl (Or.inl rfl)) (yb (i:=7) ydZ rfl (Or.inl rfl)) (ydG ix_list yhQ (yb (i:=1) yr rfl (Or.inl rfl)) (yb (i:=7) ydZ rfl (Or.inl rfl)) (fun _ _=>rfl)) ⟨rfl,rfl,rfl,rfl⟩) (yb (i:=3) ym rfl (Or.inl rfl)) (yxm PySem.F.plainAttrs_str PySem.F.slot_str_find PySem.F.type_str_find yhV yfL z_str (ya (ydG ix_tup ycn (yb (i:=0) ye rfl (Or.inl rfl)) z_int (fun _ _=>rfl)) yf rfl) rfl rfl rfl rfl rfl) (fun _=>rfl) rfl rfl rfl))))))))))
theorem yrF (T:Txt K mg t) :FnOk P w K mg base CX0 (0+1) t.yhH t.yhI ["_law_found"] (spE (ybB K t) 1 ydT):=by
 have fa:=T.fa
 exact zfn T.yhK yrm fun cdv Ar outer sh H E hr=>(yi (yx (yhT (yGU [0] ["_law_found"] rfl (yqK (yhT (yEO rfl (yb (i:=0) yy rfl (Or.inr (Or.inl rfl))) yoT rfl T.z_sorted yoi rfl rfl))) ⟨rfl,rfl,rfl,True.intro⟩ (fun _ _ _ _ _ _=>(ygc (ya (yb (i:=0) ydZ rfl (Or.inl rfl)) (ya (yCJ (yqq hr) (yb (i:=1) yy rfl (Or.inr (Or.inl rfl))) (yb (i:=0) ydZ rfl (Or.inl rfl)) (fun _ _=>rfl)) yf rfl) rfl))) (by decide +kernel) rfl (by decide +kernel) (by decide +kernel) (by decide +kernel) rfl (fun _=>rfl)))))
structure yKr (P:Program) (w:World) (K:PySem.W.Frag) (mg:Str->Option Value) (base:Heap) (t:Ads) (n:Nat):Prop where
 ytW:FnOk P w K mg base CX0 (n+4) t.ylr t.yls ["_law_tree_here","_law_boxes_here","_law_saw","_law_slots_here","_law_written"] (spE (ybB K t) 5 (ygj n))
 ypd:FnOk P w K mg base CX0 (n+4) t.ykp t.ykq ["_law_part_here","_law_boxes_here","_law_saw","_law_slots_here","_law_written"] (spE (ybB K t) 5 (yde n))
theorem yzP (T:Txt K mg t) (yga:FnOk P w K mg base CX0 (2) t.yfW t.yfX ["_law_part_here","_law_boxes_here","_law_saw","_law_slots_here","_law_written"] (spE (ybB K t) 5 yeA)) :∀ n,yKr P w K mg base t n
 | 0=>⟨yhf,yhf⟩
 | n+1=>by
  have fa:=T.fa
  have I:=yzP T yga n
  have yhj:=I.ytW
  have ype:=I.ypd
  exact ⟨zfn T.yjv yih fun cdv Ar outer sh H E hr=>(yg (ypW PassesOwn.never rfl (yqK (yb (i:=0) yI rfl (Or.inl rfl))) (yim (i:=5) yih.nd rfl (Or.inl rfl) (Or.inl rfl)) (yg (yH (i:=6) yih.nd rfl (Or.inl rfl) (ybR ype (hr.mono (by omega)) ytM rfl T.yvj T.yoN.kp T.yvi (ya (yb (i:=5) ye rfl (Or.inl rfl)) (ya (yb (i:=1) yr rfl (Or.inl rfl)) (ya (yb (i:=2) ydr rfl (Or.inl rfl)) (ya (yb (i:=3) ym rfl (Or.inl rfl)) (ya (yb (i:=4) yY rfl (Or.inl rfl)) yf rfl) rfl) rfl) rfl) rfl) rfl rfl) rfl (Or.inl rfl)) (yg (ybp (ybc yxA yEg (yb (i:=6) yy rfl (Or.inl rfl)) yuL (yO _)) (yi (yx yuL)) yz) (yi (yGV (yb (i:=6) yy rfl (Or.inl rfl)) (yGT rfl (yvV (yim (i:=3) yih.nd rfl (Or.inl rfl) (Or.inl rfl)) (yvV (yim (i:=4) yih.nd rfl (Or.inl rfl) (Or.inl rfl)) yEF rfl) rfl) rfl rfl) rfl rfl rfl)))) (fun _=>rfl)) (yi (yx (ygc (ya (yb (i:=3) ym rfl (Or.inl rfl)) (ya (yb (i:=4) yY rfl (Or.inl rfl)) yf rfl) rfl))))),
   zfn T.yoN ygk fun cdv Ar outer sh H E hr=>(yg (ybp (ybc yec yjF (ydG ix_tup ycn (yb (i:=0) ye rfl (Or.inl rfl)) z_int (fun _ _=>rfl)) z_str (yO _)) (yi (yx yuL)) yz) (yg (ybp (ybc yec yjF (ydG ix_tup ycn (yb (i:=0) ye rfl (Or.inl rfl)) z_int (fun _ _=>rfl)) z_str (yO _)) (yg (yH (i:=5) ygk.nd rfl (Or.inl rfl) (ycr yfx yiT z_int (yEE ynM yyi ytP rfl T.z_int yrU (ya (ywR yec yjF (ydG ix_list yhQ (yb (i:=3) ym rfl (Or.inl rfl)) (yxm PySem.F.plainAttrs_str PySem.F.slot_str_find PySem.F.type_str_find yhV yfL z_str (ya (ydG ix_tup ycn (yb (i:=0) ye rfl (Or.inl rfl)) z_int (fun _ _=>rfl)) yf rfl) rfl rfl rfl rfl rfl) (fun _ _=>rfl)) z_int (yO _)) yf rfl) rfl rfl)) rfl (Or.inl rfl)) (yi (yx (ybR yhj (hr.mono (by omega)) yjO rfl T.yly T.yjv.kp T.ylx (ya (ydG ix_tup ycn (yb (i:=0) ye rfl (Or.inl rfl)) (yb (i:=5) ytN rfl (Or.inl rfl)) (fun _ _=>rfl)) (ya (yb (i:=1) yr rfl (Or.inl rfl)) (ya (yb (i:=2) ydr rfl (Or.inl rfl)) (ya (yb (i:=3) ym rfl (Or.inl rfl)) (ya (yb (i:=4) yY rfl (Or.inl rfl)) yf rfl) rfl) rfl) rfl) rfl) rfl rfl)))) yz) (yg (ybp (ybc yec yjF (ydG ix_tup ycn (yb (i:=0) ye rfl (Or.inl rfl)) z_int (fun _ _=>rfl)) z_str (yO _)) (yg (yH (i:=6) ygk.nd rfl (Or.inl rfl) (ybR yhj (hr.mono (by omega)) yjO rfl T.yly T.yjv.kp T.ylx (ya (ydG ix_tup ycn (yb (i:=0) ye rfl (Or.inl rfl)) z_int (fun _ _=>rfl)) (ya (yb (i:=1) yr rfl (Or.inl rfl)) (ya (yb (i:=2) ydr rfl (Or.inl rfl)) (ya (yic (ygD ybh ydB yeP rfl T.z_list yeK (ya (yb (i:=3) ym rfl (Or.inl rfl)) yf rfl) rfl rfl)) (ya (yic (ygD ymH yvT yzG rfl T.z_dict yxP (ya (yb (i:=4) yY rfl (Or.inl rfl)) yf rfl) rfl rfl)) yf rfl) rfl) rfl) rfl) rfl) rfl rfl) rfl (Or.inl rfl)) (yg (ybp (ybc yxA yEg (yb (i:=6) yy rfl (Or.inl rfl)) yuL (yO _)) (yi (yx (ybR yhj (hr.mono (by omega)) yjO rfl T.yly T.yjv.kp T.ylx (ya (ydG ix_tup ycn (yb (i:=0) ye rfl (Or.inl rfl)) z_int (fun _ _=>rfl)) (ya (yb (i:=1) yr rfl (Or.inl rfl)) (ya (yb (i:=2) ydr rfl (Or.inl rfl)) (ya (yb (i:=3) ym rfl (Or.inl rfl)) (ya (yb (i:=4) yY rfl (Or.inl rfl)) yf rfl) rfl) rfl) rfl) rfl) rfl rfl))) yz) (yi (yx (yb (i:=6) yy rfl (Or.inl rfl)))))) yz) (yg (yH (i:=3) ygk.nd rfl (Or.inl rfl) (yic (ygD ybh ydB yeP rfl T.z_list yeK (ya (yb (i:=3) ym rfl (Or.inl rfl)) yf rfl) rfl rfl)) rfl (Or.inl rfl)) (yg (yH (i:=4) ygk.nd rfl (Or.inl rfl) (yic (ygD ymH yvT yzG rfl T.z_dict yxP (ya (yb (i:=4) yY rfl (Or.inl rfl)) yf rfl) rfl rfl)) rfl (Or.inl rfl)) (yg (ycO (ybR yga (hr.mono (by omega)) yoQ rfl T.ypD T.ykb.kp T.ypC (ya (yb (i:=0) ye rfl (Or.inl rfl)) (ya (yb (i:=1) yr rfl (Or.inl rfl)) (ya (yb (i:=2) ydr rfl (Or.inl rfl)) (ya (yb (i:=3) ym rfl (Or.inl rfl)) (ya (yb (i:=4) yY rfl (Or.inl rfl)) yf rfl) rfl) rfl) rfl) rfl) rfl rfl) rfl) (yi (yx (ygc (ya (yb (i:=3) ym rfl (Or.inl rfl)) (ya (yb (i:=4) yY rfl (Or.inl rfl)) yf rfl) rfl))))))))))⟩
theorem yIa (T:Txt K mg t) (ygp:FnOk P w K mg base CX0 (8) t.yhx t.yhy ["_law_found","_law_due"] (spE (ybB K t) 2 (yv 5))) (yjA:FnOk P w K mg base CX0 (2) t.yhD t.yhE ["_law_cell"] (spE (ybB K t) 1 ygh)) (yhj:FnOk P w K mg base CX0 (24) t.ylr t.yls ["_law_tree_here","_law_boxes_here","_law_saw","_law_slots_here","_law_written"] (spE (ybB K t) 5 (ygj 20))) (yeb:FnOk P w K mg base CX0 (10) t.yiB t.yiC ["_law_tree_here"] (spE (ybB K t) 1 (ydd 7))) (ygq:FnOk P w K mg base CX0 (1) t.yhH t.yhI ["_law_found"] (spE (ybB K t) 1 ydT)) (yjB:FnOk P w K mg base CX0 (2) t.yhF t.yhG ["_law_cell"] (spE (ybB K t) 1 ygi)) (yfH:FnOk P w K mg base CX0 (8) t.yiz t.yiA ["_law_cells","_law_depth"] (spE (ybB K t) 2 (yeM 5))) (G_alone:FnOk P w K mg base CX0 (29) t.a_alone t.d_alone ["deed","boxes","slots"] (spE (ybB K t) 3 yop)):FnOk P w K mg base CX0 (29+1) t.a_law t.d_law ["_law_script"] (spE (ybB K t) 1 yBv):=by
 have fa:=T.fa
 exact zfn T.F_law sc_law fun cdv Ar outer sh H E hr=>(yg (ypW PassesOwn.never rfl (yEH rfl T.z_range (ya z_int (ya (ykQ (yxB rfl) yGH yHZ rfl T.z_max yGX (ya z_int (ya (ykQ ycT ymq ylD rfl T.z_len ykG (ya (yb (i:=0) ykc rfl (Or.inl rfl)) yf rfl) rfl rfl) yf rfl) rfl) rfl rfl) (ya z_int yf rfl) rfl) rfl) rfl rfl) (yim (i:=1) sc_law.nd rfl (Or.inl rfl) (Or.inl rfl)) (yg (yH (i:=2) sc_law.nd rfl (Or.inl rfl) (yhT (yyM ynR yyf (yb (i:=0) ykc rfl (Or.inl rfl)) (yhU (yb (i:=1) ycq rfl (Or.inl rfl))) (yhU (ycr yfx yiT (yb (i:=1) ycq rfl (Or.inl rfl)) z_int)))) rfl (Or.inl rfl)) (yg (yH (i:=3) sc_law.nd rfl (Or.inl rfl) (ybR yfH (hr.mono (by omega)) yjw rfl T.ykv T.yiE.kp T.yku (ya (yb (i:=2) ydp rfl (Or.inl rfl)) (ya z_int yf rfl) rfl) rfl rfl) rfl (Or.inl rfl)) (yg (yH (i:=4) sc_law.nd rfl (Or.inl rfl) (ybR yjA (hr.mono (by omega)) yrt rfl T.ytE T.ymZ.kp T.ytD (ya (ycr yfx yiT (ykQ (yvA rfl) yGz yCZ rfl T.z_sum yCi (ya (yhT (yyM ynR yyf (yb (i:=2) ydp rfl (Or.inl rfl)) (yhU z_int) (yhU z_int))) yf rfl) rfl rfl) (yb (i:=1) ycq rfl (Or.inl rfl))) yf rfl) rfl rfl) rfl (Or.inl rfl)) (yg (yH (i:=5) sc_law.nd rfl (Or.inl rfl) (ybR yjB (hr.mono (by omega)) yrw rfl T.ytG T.yna.kp T.ytF (ya (ycr yfx yiT (ykQ (yvA rfl) yGz yCZ rfl T.z_sum yCi (ya (yhT (yyM ynR yyf (yb (i:=2) ydp rfl (Or.inl rfl)) yGR (yhU z_int))) yf rfl) rfl rfl) (yb (i:=1) ycq rfl (Or.inl rfl))) yf rfl) rfl rfl) rfl (Or.inl rfl)) (yg (yH (i:=6) sc_law.nd rfl (Or.inl rfl) (yic ytc) rfl (Or.inl rfl)) (yg (yH (i:=7) sc_law.nd rfl (Or.inl rfl) (ybR yhj (hr.mono (by omega)) yjO rfl T.yly T.yjv.kp T.ylx (ya (yb (i:=3) yI rfl (Or.inl rfl)) (ya (yb (i:=4) yr rfl (Or.inl rfl)) (ya (yb (i:=6) ydr rfl (Or.inl rfl)) (ya (yic (ygD ybh ydB yeP rfl T.z_list yeK (ya (yb (i:=5) ym rfl (Or.inl rfl)) yf rfl) rfl rfl)) (ya (yic ytc) yf rfl) rfl) rfl) rfl) rfl) rfl rfl) rfl (Or.inl rfl)) (yg (yH (i:=8) sc_law.nd rfl (Or.inl rfl) (ygc (ya (ygc (ya z_str yf rfl)) (ya (ybR ygq (hr.mono (by omega)) yiH rfl T.yju T.yhK.kp T.yjt (ya (yb (i:=6) ydr rfl (Or.inl rfl)) yf rfl) rfl rfl) (ya (yhT (ygR yf)) (ya (yb (i:=5) ym rfl (Or.inl rfl)) yf rfl) rfl) rfl) rfl)) rfl (Or.inl rfl)) (yg (ybp (ybc yDj yGx (yb (i:=7) yy rfl (Or.inl rfl)) yuL (yO _)) (yi (yH (i:=8) sc_law.nd rfl (Or.inl rfl) (ygc (ya (ygc (ya z_str yf rfl)) (ya (ybR ygq (hr.mono (by omega)) yiH rfl T.yju T.yhK.kp T.yjt (ya (yb (i:=6) ydr rfl (Or.inl rfl)) yf rfl) rfl rfl) (ya (ybR ygq (hr.mono (by omega)) yiH rfl T.yju T.yhK.kp T.yjt (ya (ydG yvz yBd (yb (i:=7) yy rfl (Or.inl rfl)) z_int (fun _ _=>rfl)) yf rfl) rfl rfl) (ya (ydG yvz yBd (yb (i:=7) yy rfl (Or.inl rfl)) z_int (fun _ _=>rfl)) yf rfl) rfl) rfl) rfl)) rfl (Or.inl rfl))) yz) (yi (ybp (yvU (ygb (ybR ygp (hr.mono (by omega)) ylA rfl T.ymW T.yjs.kp T.ymV (ya (ybR G_alone (hr.mono (by omega)) yBR rfl T.m_alone T.F_alone.kp T.b_alone (ya (ybR yeb (hr.mono (by omega)) ygo rfl T.yhd T.yfF.kp T.yhc (ya (yb (i:=3) yI rfl (Or.inl rfl)) yf rfl) rfl rfl) (ya (yhT (ygD ybh ydB yeP rfl T.z_list yeK (ya (yb (i:=4) yr rfl (Or.inl rfl)) yf rfl) rfl rfl)) (ya (yhT (ygD ybh ydB yeP rfl T.z_list yeK (ya (yb (i:=5) ym rfl (Or.inl rfl)) yf rfl) rfl rfl)) yf rfl) rfl) rfl) rfl rfl) (ya (yb (i:=8) ydq rfl (Or.inl rfl)) yf rfl) rfl) rfl rfl) (fun _=>rfl))) (yi (yx yEA)) yz)))))))))) (fun _=>rfl)) (yi (yx yEA)))
noncomputable def yBU (K:PySem.W.Frag):Sp:=fun vs H Q _=>∃ (a:Addr) (ns:List Int),vs=[.ref a]/\SqL K H a (ns.map V.int)/\ns.length<=63/\∀ H',Q (.bl true) H'
theorem yIb {A:Nat->Addr}:∀ vs H Q E,yBU K vs H Q E->spE ⟨K,A⟩ 1 yBv vs H Q E:=by
 rintro _ H Q E ⟨a,ns,rfl,hS,hl,q⟩
 obtain ⟨h',e⟩:=yHV (h:=[]) ns hl
 exact ⟨⟨H,H,[],[]⟩,[.scr ns],.bl true,h',rfl,⟨Same.refl _,rfl,List.nodup_nil,fun n d a e=>by simp at e⟩,⟨.ref a,[],rfl,⟨a,rfl,hS⟩,rfl⟩,rfl,e,fun v W' _ _ rv=>by rw [show v=_ from rv];exact q _⟩
end
theorem all_mk {l:PySem.W.OpenLaw}{w:World}{K:PySem.W.Frag}{h:Heap}{mg:Str->Option Value}{fa CLog CDoing CDoer CLet CReckon CTake CPut CIf CEither CTry CThrow CWait f1 f2 f3 f4 f5 f6 f7 f8 f9 f10 f11 f12 f13 f14 f15 f16 f17 f18 f19 f20 f21 f22 f23 f24 f25 f26 f27 f28 f29 f30 f31 f32 f33 f34 f35 f36 f37 f38 f39 f40 f41 f42 f43 f44 f45 f46 f47 f48 f49 f50 f51 u1 u3:Addr}{u2 u4:Tok}(X:K.In h) (G:h.Ns mainGlobals mg) (hfa:mg "law" = some (.ref fa))
  {od1 an1:Option Addr}{sl1:Array (Option Value)}{oc1 kV1 dc1 pm1 cd1 ct1:Value}{od2 an2:Option Addr}{sl2:Array (Option Value)}{oc2 kV2 dc2 pm2 cd2 ct2:Value}{od3 an3:Option Addr}{sl3:Array (Option Value)}{oc3 kV3 dc3 pm3 cd3 ct3:Value}{od4 an4:Option Addr}{sl4:Array (Option Value)}{oc4 kV4 dc4 pm4 cd4 ct4:Value}{od5 an5:Option Addr}{sl5:Array (Option Value)}{oc5 kV5 dc5 pm5 cd5 ct5:Value}{od6 an6:Option Addr}{sl6:Array (Option Value)}{oc6 kV6 dc6 pm6 cd6 ct6:Value}{od7 an7:Option Addr}{sl7:Array (Option Value)}{oc7 kV7 dc7 pm7 cd7 ct7:Value}{od8 an8:Option Addr}{sl8:Array (Option Value)}{oc8 kV8 dc8 pm8 cd8 ct8:Value}{od9 an9:Option Addr}{sl9:Array (Option Value)}{oc9 kV9 dc9 pm9 cd9 ct9:Value}{od10 an10:Option Addr}{sl10:Array (Option Value)}{oc10 kV10 dc10 pm10 cd10 ct10:Value}{od11 an11:Option Addr}{sl11:Array (Option Value)}{oc11 kV11 dc11 pm11 cd11 ct11:Value}{od12 an12:Option Addr}{sl12:Array (Option Value)}{oc12 kV12 dc12 pm12 cd12 ct12:Value}{od13 an13:Option Addr}{sl13:Array (Option Value)}{oc13 kV13 dc13 pm13 cd13 ct13:Value}{od14 an14:Option Addr}{sl14:Array (Option Value)}{oc14 kV14 dc14 pm14 cd14 ct14:Value}{od15 an15:Option Addr}{sl15:Array (Option Value)}{oc15 kV15 dc15 pm15 cd15 ct15:Value}{od16 an16:Option Addr}{sl16:Array (Option Value)}{oc16 kV16 dc16 pm16 cd16 ct16:Value}{od17 an17:Option Addr}{sl17:Array (Option Value)}{oc17 kV17 dc17 pm17 cd17 ct17:Value}{od18 an18:Option Addr}{sl18:Array (Option Value)}{oc18 kV18 dc18 pm18 cd18 ct18:Value}{od19 an19:Option Addr}{sl19:Array (Option Value)}{oc19 kV19 dc19 pm19 cd19 ct19:Value}{od20 an20:Option Addr}{sl20:Array (Option Value)}{oc20 kV20 dc20 pm20 cd20 ct20:Value}{od21 an21:Option Addr}{sl21:Array (Option Value)}{oc21 kV21 dc21 pm21 cd21 ct21:Value}{od22 an22:Option Addr}{sl22:Array (Option Value)}{oc22 kV22 dc22 pm22 cd22 ct22:Value}{od23 an23:Option Addr}{sl23:Array (Option Value)}{oc23 kV23 dc23 pm23 cd23 ct23:Value}{od24 an24:Option Addr}{sl24:Array (Option Value)}{oc24 kV24 dc24 pm24 cd24 ct24:Value}{od25 an25:Option Addr}{sl25:Array (Option Value)}{oc25 kV25 dc25 pm25 cd25 ct25:Value}{od26 an26:Option Addr}{sl26:Array (Option Value)}{oc26 kV26 dc26 pm26 cd26 ct26:Value}{od27 an27:Option Addr}{sl27:Array (Option Value)}{oc27 kV27 dc27 pm27 cd27 ct27:Value}{od28 an28:Option Addr}{sl28:Array (Option Value)}{oc28 kV28 dc28 pm28 cd28 ct28:Value}{od29 an29:Option Addr}{sl29:Array (Option Value)}{oc29 kV29 dc29 pm29 cd29 ct29:Value}{od30 an30:Option Addr}{sl30:Array (Option Value)}{oc30 kV30 dc30 pm30 cd30 ct30:Value}{od31 an31:Option Addr}{sl31:Array (Option Value)}{oc31 kV31 dc31 pm31 cd31 ct31:Value}{od32 an32:Option Addr}{sl32:Array (Option Value)}{oc32 kV32 dc32 pm32 cd32 ct32:Value}{od33 an33:Option Addr}{sl33:Array (Option Value)}{oc33 kV33 dc33 pm33 cd33 ct33:Value}{od34 an34:Option Addr}{sl34:Array (Option Value)}{oc34 kV34 dc34 pm34 cd34 ct34:Value}{od35 an35:Option Addr}{sl35:Array (Option Value)}{oc35 kV35 dc35 pm35 cd35 ct35:Value}{od36 an36:Option Addr}{sl36:Array (Option Value)}{oc36 kV36 dc36 pm36 cd36 ct36:Value}{od37 an37:Option Addr}{sl37:Array (Option Value)}{oc37 kV37 dc37 pm37 cd37 ct37:Value}{od38 an38:Option Addr}{sl38:Array (Option Value)}{oc38 kV38 dc38 pm38 cd38 ct38:Value}{od39 an39:Option Addr}{sl39:Array (Option Value)}{oc39 kV39 dc39 pm39 cd39 ct39:Value}{od40 an40:Option Addr}{sl40:Array (Option Value)}{oc40 kV40 dc40 pm40 cd40 ct40:Value}{od41 an41:Option Addr}{sl41:Array (Option Value)}{oc41 kV41 dc41 pm41 cd41 ct41:Value}{od42 an42:Option Addr}{sl42:Array (Option Value)}{oc42 kV42 dc42 pm42 cd42 ct42:Value}{od43 an43:Option Addr}{sl43:Array (Option Value)}{oc43 kV43 dc43 pm43 cd43 ct43:Value}{od44 an44:Option Addr}{sl44:Array (Option Value)}{oc44 kV44 dc44 pm44 cd44 ct44:Value}{od45 an45:Option Addr}{sl45:Array (Option Value)}{oc45 kV45 dc45 pm45 cd45 ct45:Value}{od46 an46:Option Addr}{sl46:Array (Option Value)}{oc46 kV46 dc46 pm46 cd46 ct46:Value}{od47 an47:Option Addr}{sl47:Array (Option Value)}{oc47 kV47 dc47 pm47 cd47 ct47:Value}{od48 an48:Option Addr}{sl48:Array (Option Value)}{oc48 kV48 dc48 pm48 cd48 ct48:Value}{od49 an49:Option Addr}{sl49:Array (Option Value)}{oc49 kV49 dc49 pm49 cd49 ct49:Value}{od50 an50:Option Addr}{sl50:Array (Option Value)}{oc50 kV50 dc50 pm50 cd50 ct50:Value}{od51 an51:Option Addr}{sl51:Array (Option Value)}{oc51 kV51 dc51 pm51 cd51 ct51:Value}{qd1:Option Addr}{qn1:Nat}{qs1:Array (Option Value)}{qt1_0:Tok}{qd3:Option Addr}{qn3:Nat}{qs3:Array (Option Value)}{qt3_0:Tok}
  (nCLog:PySem.W.nsIn K mainGlobals "Log" = some (some (.ref CLog)))
  (nCDoing:PySem.W.nsIn K mainGlobals "Doing" = some (some (.ref CDoing)))
  (nCDoer:PySem.W.nsIn K mainGlobals "Doer" = some (some (.ref CDoer)))
  (nCLet:PySem.W.nsIn K mainGlobals "Let" = some (some (.ref CLet)))
  (nCReckon:PySem.W.nsIn K mainGlobals "Reckon" = some (some (.ref CReckon)))
  (nCTake:PySem.W.nsIn K mainGlobals "Take" = some (some (.ref CTake)))
  (nCPut:PySem.W.nsIn K mainGlobals "Put" = some (some (.ref CPut)))
  (nCIf:PySem.W.nsIn K mainGlobals "If" = some (some (.ref CIf)))
  (nCEither:PySem.W.nsIn K mainGlobals "Either" = some (some (.ref CEither)))
  (nCTry:PySem.W.nsIn K mainGlobals "Try" = some (some (.ref CTry)))
  (nCThrow:PySem.W.nsIn K mainGlobals "Throw" = some (some (.ref CThrow)))
  (nCWait:PySem.W.nsIn K mainGlobals "Wait" = some (some (.ref CWait)))
  (yhk:PySem.W.findIn K (.ref CLog) "__init__" = some (some (.ref f1)))
  (yfI:PySem.W.findIn K (.ref CDoing) "__init__" = some (some (.ref f25)))
  (ygz:PySem.W.findIn K (.ref CDoer) "__init__" = some (some (.ref f12)))
  (yhl:PySem.W.findIn K (.ref CLet) "__init__" = some (some (.ref f21)))
  (yft:PySem.W.findIn K (.ref CReckon) "__init__" = some (some (.ref f22)))
  (ygA:PySem.W.findIn K (.ref CTake) "__init__" = some (some (.ref f23)))
  (yhm:PySem.W.findIn K (.ref CPut) "__init__" = some (some (.ref f24)))
  (yib:PySem.W.findIn K (.ref CIf) "__init__" = some (some (.ref f35)))
  (yfu:PySem.W.findIn K (.ref CEither) "__init__" = some (some (.ref f36)))
  (yjC:PySem.W.findIn K (.ref CLog) "write" = some (some (.ref f2)))
  (yml:PySem.W.findIn K (.ref CLog) "own" = some (some (.ref f3)))
  (yjD:PySem.W.findIn K (.ref CLog) "begin" = some (some (.ref f4)))
  (yiM:PySem.W.findIn K (.ref CLog) "settle" = some (some (.ref f5)))
  (ykB:PySem.W.findIn K (.ref CLog) "drop" = some (some (.ref f6)))
  (ymm:PySem.W.findIn K (.ref CLog) "see" = some (some (.ref f7)))
  (ymn:PySem.W.findIn K (.ref CLog) "saw" = some (some (.ref f8)))
  (yjE:PySem.W.findIn K (.ref CLog) "wrote" = some (some (.ref f9)))
  (fs_Doing_held_in:PySem.W.findIn K (.ref CDoing) "held_in" = some (some (.ref f13)))
  (fs_Doing_hold:PySem.W.findIn K (.ref CDoing) "hold" = some (some (.ref f14)))
  (fs_Doing_box_at:PySem.W.findIn K (.ref CDoing) "box_at" = some (some (.ref f15)))
  (fs_Doing_do_reckon:PySem.W.findIn K (.ref CDoing) "do_reckon" = some (some (.ref f16)))
  (fs_Doing_do_put:PySem.W.findIn K (.ref CDoing) "do_put" = some (some (.ref f17)))
  (fs_Doing_sees_at:PySem.W.findIn K (.ref CDoing) "sees_at" = some (some (.ref f18)))
  (fs_Doing_take_own:PySem.W.findIn K (.ref CDoing) "take_own" = some (some (.ref f19)))
  (fs_Doing_take_seen:PySem.W.findIn K (.ref CDoing) "take_seen" = some (some (.ref f20)))
  (yfv:PySem.W.findIn K (.ref CDoing) "take_done" = some (some (.ref f26)))
  (yeR:PySem.W.findIn K (.ref CDoing) "plain_done" = some (some (.ref f27)))
  (yfJ:PySem.W.findIn K (.ref CDoing) "list_end" = some (some (.ref f28)))
  (yfK:PySem.W.findIn K (.ref CDoing) "part_end" = some (some (.ref f29)))
  (yhn:PySem.W.findIn K (.ref CDoing) "if_end" = some (some (.ref f30)))
  (yeS:PySem.W.findIn K (.ref CDoing) "either_end" = some (some (.ref f31)))
  (ygB:PySem.W.findIn K (.ref CDoing) "try_end" = some (some (.ref f32)))
  (yer:PySem.W.findIn K (.ref CDoing) "layered_end" = some (some (.ref f33)))
  (cr_Doer:PySem.W.readsIn K CDoer (.type "type")=true)
  (cc_Doer:PySem.W.findCls K (.ref CDoer) (.type "type") "__init__" = some (.val (.ref f12)))
  (cs_Doer:PySem.W.specialIn K (.ref CDoer) "__getattribute__" = some (some (.builtin "type.__getattribute__")))
  (i1:PySem.W.isFn K (.ref f1)=true)
  (l1:K.lookup f1=some ⟨oc1,od1,.func (PySem.W.fnOf "__init__" "Log.__init__" (yk ybD) (yj ybD) (yc ybD) .none kV1 dc1 pm1 an1 cd1 ct1),sl1⟩)
  (c1:PySem.W.codeIn K cd1 "Log.__init__" = true)
  (k1:PySem.W.keepIn K (.ref f1)=true)
  (i2:PySem.W.isFn K (.ref f2)=true)
  (l2:K.lookup f2=some ⟨oc2,od2,.func (PySem.W.fnOf "write" "Log.write" (yk ydf) (yj ydf) (yc ydf) .none kV2 dc2 pm2 an2 cd2 ct2),sl2⟩)
  (c2:PySem.W.codeIn K cd2 "Log.write" = true)
  (k2:PySem.W.keepIn K (.ref f2)=true)
  (i3:PySem.W.isFn K (.ref f3)=true)
  (l3:K.lookup f3=some ⟨oc3,od3,.func (PySem.W.fnOf "own" "Log.own" (yk yff) (yj yff) (yc yff) .none kV3 dc3 pm3 an3 cd3 ct3),sl3⟩)
  (c3:PySem.W.codeIn K cd3 "Log.own" = true)
  (k3:PySem.W.keepIn K (.ref f3)=true)
  (i4:PySem.W.isFn K (.ref f4)=true)
  (l4:K.lookup f4=some ⟨oc4,od4,.func (PySem.W.fnOf "begin" "Log.begin" (yk ydg) (yj ydg) (yc ydg) .none kV4 dc4 pm4 an4 cd4 ct4),sl4⟩)
  (c4:PySem.W.codeIn K cd4 "Log.begin" = true)
  (k4:PySem.W.keepIn K (.ref f4)=true)
  (i5:PySem.W.isFn K (.ref f5)=true)
  (l5:K.lookup f5=some ⟨oc5,od5,.func (PySem.W.fnOf "settle" "Log.settle" (yk ycA) (yj ycA) (yc ycA) .none kV5 dc5 pm5 an5 cd5 ct5),sl5⟩)
  (c5:PySem.W.codeIn K cd5 "Log.settle" = true)
  (k5:PySem.W.keepIn K (.ref f5)=true)
  (i6:PySem.W.isFn K (.ref f6)=true)
  (l6:K.lookup f6=some ⟨oc6,od6,.func (PySem.W.fnOf "drop" "Log.drop" (yk yee) (yj yee) (yc yee) .none kV6 dc6 pm6 an6 cd6 ct6),sl6⟩)
  (c6:PySem.W.codeIn K cd6 "Log.drop" = true)
  (k6:PySem.W.keepIn K (.ref f6)=true)
  (i7:PySem.W.isFn K (.ref f7)=true)
  (l7:K.lookup f7=some ⟨oc7,od7,.func (PySem.W.fnOf "see" "Log.see" (yk yfg) (yj yfg) (yc yfg) .none kV7 dc7 pm7 an7 cd7 ct7),sl7⟩)
  (c7:PySem.W.codeIn K cd7 "Log.see" = true)
  (k7:PySem.W.keepIn K (.ref f7)=true)
  (i8:PySem.W.isFn K (.ref f8)=true)
  (l8:K.lookup f8=some ⟨oc8,od8,.func (PySem.W.fnOf "saw" "Log.saw" (yk yfh) (yj yfh) (yc yfh) .none kV8 dc8 pm8 an8 cd8 ct8),sl8⟩)
  (c8:PySem.W.codeIn K cd8 "Log.saw" = true)
  (k8:PySem.W.keepIn K (.ref f8)=true)
  (i9:PySem.W.isFn K (.ref f9)=true)
  (l9:K.lookup f9=some ⟨oc9,od9,.func (PySem.W.fnOf "wrote" "Log.wrote" (yk ydh) (yj ydh) (yc ydh) .none kV9 dc9 pm9 an9 cd9 ct9),sl9⟩)
  (c9:PySem.W.codeIn K cd9 "Log.wrote" = true)
  (k9:PySem.W.keepIn K (.ref f9)=true)
  (a10:PySem.W.nsIn K mainGlobals "reckon" = some (some (.ref f10)))
  (l10:K.lookup f10=some ⟨oc10,od10,.func (PySem.W.fnOf "reckon" "reckon" (yk ygI) (yj ygI) (yc ygI) .none kV10 dc10 pm10 an10 cd10 ct10),sl10⟩)
  (c10:PySem.W.codeIn K cd10 "reckon" = true)
  (k10:PySem.W.keepIn K (.ref f10)=true)
  (a11:PySem.W.nsIn K mainGlobals "slot_index" = some (some (.ref f11)))
  (l11:K.lookup f11=some ⟨oc11,od11,.func (PySem.W.fnOf "slot_index" "slot_index" (yk ycB) (yj ycB) (yc ycB) .none kV11 dc11 pm11 an11 cd11 ct11),sl11⟩)
  (c11:PySem.W.codeIn K cd11 "slot_index" = true)
  (k11:PySem.W.keepIn K (.ref f11)=true)
  (i12:PySem.W.isFn K (.ref f12)=true)
  (l12:K.lookup f12=some ⟨oc12,od12,.func (PySem.W.fnOf "__init__" "Doer.__init__" (yk ybr) (yj ybr) (yc ybr) .none kV12 dc12 pm12 an12 cd12 ct12),sl12⟩)
  (c12:PySem.W.codeIn K cd12 "Doer.__init__" = true)
  (k12:PySem.W.keepIn K (.ref f12)=true)
  (i13:PySem.W.isFn K (.ref f13)=true)
  (l13:K.lookup f13=some ⟨oc13,od13,.func (PySem.W.fnOf "held_in" "Doer.held_in" (yk ybE) (yj ybE) (yc ybE) .none kV13 dc13 pm13 an13 cd13 ct13),sl13⟩)
  (c13:PySem.W.codeIn K cd13 "Doer.held_in" = true)
  (k13:PySem.W.keepIn K (.ref f13)=true)
  (i14:PySem.W.isFn K (.ref f14)=true)
  (l14:K.lookup f14=some ⟨oc14,od14,.func (PySem.W.fnOf "hold" "Doer.hold" (yk ydi) (yj ydi) (yc ydi) .none kV14 dc14 pm14 an14 cd14 ct14),sl14⟩)
  (c14:PySem.W.codeIn K cd14 "Doer.hold" = true)
  (k14:PySem.W.keepIn K (.ref f14)=true)
  (i15:PySem.W.isFn K (.ref f15)=true)
  (l15:K.lookup f15=some ⟨oc15,od15,.func (PySem.W.fnOf "box_at" "Doer.box_at" (yk ybW) (yj ybW) (yc ybW) .none kV15 dc15 pm15 an15 cd15 ct15),sl15⟩)
  (c15:PySem.W.codeIn K cd15 "Doer.box_at" = true)
  (k15:PySem.W.keepIn K (.ref f15)=true)
  (i16:PySem.W.isFn K (.ref f16)=true)
  (l16:K.lookup f16=some ⟨oc16,od16,.func (PySem.W.fnOf "do_reckon" "Doer.do_reckon" (yk ybi) (yj ybi) (yc ybi) .none kV16 dc16 pm16 an16 cd16 ct16),sl16⟩)
  (c16:PySem.W.codeIn K cd16 "Doer.do_reckon" = true)
  (k16:PySem.W.keepIn K (.ref f16)=true)
  (i17:PySem.W.isFn K (.ref f17)=true)
  (l17:K.lookup f17=some ⟨oc17,od17,.func (PySem.W.fnOf "do_put" "Doer.do_put" (yk ybX) (yj ybX) (yc ybX) .none kV17 dc17 pm17 an17 cd17 ct17),sl17⟩)
  (c17:PySem.W.codeIn K cd17 "Doer.do_put" = true)
  (k17:PySem.W.keepIn K (.ref f17)=true)
  (i18:PySem.W.isFn K (.ref f18)=true)
  (l18:K.lookup f18=some ⟨oc18,od18,.func (PySem.W.fnOf "sees_at" "Doer.sees_at" (yk ybF) (yj ybF) (yc ybF) .none kV18 dc18 pm18 an18 cd18 ct18),sl18⟩)
  (c18:PySem.W.codeIn K cd18 "Doer.sees_at" = true)
  (k18:PySem.W.keepIn K (.ref f18)=true)
  (i19:PySem.W.isFn K (.ref f19)=true)
  (l19:K.lookup f19=some ⟨oc19,od19,.func (PySem.W.fnOf "take_own" "Doer.take_own" (yk ybs) (yj ybs) (yc ybs) .none kV19 dc19 pm19 an19 cd19 ct19),sl19⟩)
  (c19:PySem.W.codeIn K cd19 "Doer.take_own" = true)
  (k19:PySem.W.keepIn K (.ref f19)=true)
  (i20:PySem.W.isFn K (.ref f20)=true)
  (l20:K.lookup f20=some ⟨oc20,od20,.func (PySem.W.fnOf "take_seen" "Doer.take_seen" (yk ybj) (yj ybj) (yc ybj) .none kV20 dc20 pm20 an20 cd20 ct20),sl20⟩)
  (c20:PySem.W.codeIn K cd20 "Doer.take_seen" = true)
  (k20:PySem.W.keepIn K (.ref f20)=true)
  (i21:PySem.W.isFn K (.ref f21)=true)
  (l21:K.lookup f21=some ⟨oc21,od21,.func (PySem.W.fnOf "__init__" "Let.__init__" (yk ybG) (yj ybG) (yc ybG) .none kV21 dc21 pm21 an21 cd21 ct21),sl21⟩)
  (c21:PySem.W.codeIn K cd21 "Let.__init__" = true)
  (k21:PySem.W.keepIn K (.ref f21)=true)
  (i22:PySem.W.isFn K (.ref f22)=true)
  (l22:K.lookup f22=some ⟨oc22,od22,.func (PySem.W.fnOf "__init__" "Reckon.__init__" (yk ybd) (yj ybd) (yc ybd) .none kV22 dc22 pm22 an22 cd22 ct22),sl22⟩)
  (c22:PySem.W.codeIn K cd22 "Reckon.__init__" = true)
  (k22:PySem.W.keepIn K (.ref f22)=true)
  (i23:PySem.W.isFn K (.ref f23)=true)
  (l23:K.lookup f23=some ⟨oc23,od23,.func (PySem.W.fnOf "__init__" "Take.__init__" (yk ybt) (yj ybt) (yc ybt) .none kV23 dc23 pm23 an23 cd23 ct23),sl23⟩)
  (c23:PySem.W.codeIn K cd23 "Take.__init__" = true)
  (k23:PySem.W.keepIn K (.ref f23)=true)
  (i24:PySem.W.isFn K (.ref f24)=true)
  (l24:K.lookup f24=some ⟨oc24,od24,.func (PySem.W.fnOf "__init__" "Put.__init__" (yk ybH) (yj ybH) (yc ybH) .none kV24 dc24 pm24 an24 cd24 ct24),sl24⟩)
  (c24:PySem.W.codeIn K cd24 "Put.__init__" = true)
  (k24:PySem.W.keepIn K (.ref f24)=true)
  (i25:PySem.W.isFn K (.ref f25)=true)
  (l25:K.lookup f25=some ⟨oc25,od25,.func (PySem.W.fnOf "__init__" "Doing.__init__" (yk ybk) (yj ybk) (yc ybk) .none kV25 dc25 pm25 an25 cd25 ct25),sl25⟩)
  (c25:PySem.W.codeIn K cd25 "Doing.__init__" = true)
  (k25:PySem.W.keepIn K (.ref f25)=true)
  (i26:PySem.W.isFn K (.ref f26)=true)
  (l26:K.lookup f26=some ⟨oc26,od26,.func (PySem.W.fnOf "take_done" "Doing.take_done" (yk ybe) (yj ybe) (yc ybe) .none kV26 dc26 pm26 an26 cd26 ct26),sl26⟩)
  (c26:PySem.W.codeIn K cd26 "Doing.take_done" = true)
  (k26:PySem.W.keepIn K (.ref f26)=true)
  (i27:PySem.W.isFn K (.ref f27)=true)
  (l27:K.lookup f27=some ⟨oc27,od27,.func (PySem.W.fnOf "plain_done" "Doing.plain_done" (yk yV) (yj yV) (yc yV) .none kV27 dc27 pm27 an27 cd27 ct27),sl27⟩)
  (c27:PySem.W.codeIn K cd27 "Doing.plain_done" = true)
  (k27:PySem.W.keepIn K (.ref f27)=true)
  (i28:PySem.W.isFn K (.ref f28)=true)
  (l28:K.lookup f28=some ⟨oc28,od28,.func (PySem.W.fnOf "list_end" "Doing.list_end" (yk ybl) (yj ybl) (yc ybl) .none kV28 dc28 pm28 an28 cd28 ct28),sl28⟩)
  (c28:PySem.W.codeIn K cd28 "Doing.list_end" = true)
  (k28:PySem.W.keepIn K (.ref f28)=true)
  (i29:PySem.W.isFn K (.ref f29)=true)
  (l29:K.lookup f29=some ⟨oc29,od29,.func (PySem.W.fnOf "part_end" "Doing.part_end" (yk ybm) (yj ybm) (yc ybm) .none kV29 dc29 pm29 an29 cd29 ct29),sl29⟩)
  (c29:PySem.W.codeIn K cd29 "Doing.part_end" = true)
  (k29:PySem.W.keepIn K (.ref f29)=true)
  (i30:PySem.W.isFn K (.ref f30)=true)
  (l30:K.lookup f30=some ⟨oc30,od30,.func (PySem.W.fnOf "if_end" "Doing.if_end" (yk ybI) (yj ybI) (yc ybI) .none kV30 dc30 pm30 an30 cd30 ct30),sl30⟩)
  (c30:PySem.W.codeIn K cd30 "Doing.if_end" = true)
  (k30:PySem.W.keepIn K (.ref f30)=true)
  (i31:PySem.W.isFn K (.ref f31)=true)
  (l31:K.lookup f31=some ⟨oc31,od31,.func (PySem.W.fnOf "either_end" "Doing.either_end" (yk yW) (yj yW) (yc yW) .none kV31 dc31 pm31 an31 cd31 ct31),sl31⟩)
  (c31:PySem.W.codeIn K cd31 "Doing.either_end" = true)
  (k31:PySem.W.keepIn K (.ref f31)=true)
  (i32:PySem.W.isFn K (.ref f32)=true)
  (l32:K.lookup f32=some ⟨oc32,od32,.func (PySem.W.fnOf "try_end" "Doing.try_end" (yk ybu) (yj ybu) (yc ybu) .none kV32 dc32 pm32 an32 cd32 ct32),sl32⟩)
  (c32:PySem.W.codeIn K cd32 "Doing.try_end" = true)
  (k32:PySem.W.keepIn K (.ref f32)=true)
  (i33:PySem.W.isFn K (.ref f33)=true)
  (l33:K.lookup f33=some ⟨oc33,od33,.func (PySem.W.fnOf "layered_end" "Doing.layered_end" (yk yL) (yj yL) (yc yL) .none kV33 dc33 pm33 an33 cd33 ct33),sl33⟩)
  (c33:PySem.W.codeIn K cd33 "Doing.layered_end" = true)
  (k33:PySem.W.keepIn K (.ref f33)=true)
  (a34:PySem.W.nsIn K mainGlobals "alone" = some (some (.ref f34)))
  (l34:K.lookup f34=some ⟨oc34,od34,.func (PySem.W.fnOf "alone" "alone" (yk yiq) (yj yiq) (yc yiq) .none kV34 dc34 pm34 an34 cd34 ct34),sl34⟩)
  (c34:PySem.W.codeIn K cd34 "alone" = true)
  (k34:PySem.W.keepIn K (.ref f34)=true)
  (i35:PySem.W.isFn K (.ref f35)=true)
  (l35:K.lookup f35=some ⟨oc35,od35,.func (PySem.W.fnOf "__init__" "If.__init__" (yk ybY) (yj ybY) (yc ybY) .none kV35 dc35 pm35 an35 cd35 ct35),sl35⟩)
  (c35:PySem.W.codeIn K cd35 "If.__init__" = true)
  (k35:PySem.W.keepIn K (.ref f35)=true)
  (i36:PySem.W.isFn K (.ref f36)=true)
  (l36:K.lookup f36=some ⟨oc36,od36,.func (PySem.W.fnOf "__init__" "Either.__init__" (yk ybf) (yj ybf) (yc ybf) .none kV36 dc36 pm36 an36 cd36 ct36),sl36⟩)
  (c36:PySem.W.codeIn K cd36 "Either.__init__" = true)
  (k36:PySem.W.keepIn K (.ref f36)=true)
  (a37:PySem.W.nsIn K mainGlobals "_law_mixed" = some (some (.ref f37)))
  (l37:K.lookup f37=some ⟨oc37,od37,.func (PySem.W.fnOf "_law_mixed" "_law_mixed" (yk ycC) (yj ycC) (yc ycC) .none kV37 dc37 pm37 an37 cd37 ct37),sl37⟩)
  (c37:PySem.W.codeIn K cd37 "_law_mixed" = true)
  (k37:PySem.W.keepIn K (.ref f37)=true)
  (a38:PySem.W.nsIn K mainGlobals "_law_wide" = some (some (.ref f38)))
  (l38:K.lookup f38=some ⟨oc38,od38,.func (PySem.W.fnOf "_law_wide" "_law_wide" (yk ydj) (yj ydj) (yc ydj) .none kV38 dc38 pm38 an38 cd38 ct38),sl38⟩)
  (c38:PySem.W.codeIn K cd38 "_law_wide" = true)
  (k38:PySem.W.keepIn K (.ref f38)=true)
  (a39:PySem.W.nsIn K mainGlobals "_law_alike" = some (some (.ref f39)))
  (l39:K.lookup f39=some ⟨oc39,od39,.func (PySem.W.fnOf "_law_alike" "_law_alike" (yk ycD) (yj ycD) (yc ycD) .none kV39 dc39 pm39 an39 cd39 ct39),sl39⟩)
  (c39:PySem.W.codeIn K cd39 "_law_alike" = true)
  (k39:PySem.W.keepIn K (.ref f39)=true)
  (a40:PySem.W.nsIn K mainGlobals "_law_plain" = some (some (.ref f40)))
  (l40:K.lookup f40=some ⟨oc40,od40,.func (PySem.W.fnOf "_law_plain" "_law_plain" (yk ycE) (yj ycE) (yc ycE) .none kV40 dc40 pm40 an40 cd40 ct40),sl40⟩)
  (c40:PySem.W.codeIn K cd40 "_law_plain" = true)
  (k40:PySem.W.keepIn K (.ref f40)=true)
  (a41:PySem.W.nsIn K mainGlobals "_law_sided" = some (some (.ref f41)))
  (l41:K.lookup f41=some ⟨oc41,od41,.func (PySem.W.fnOf "_law_sided" "_law_sided" (yk ycF) (yj ycF) (yc ycF) .none kV41 dc41 pm41 an41 cd41 ct41),sl41⟩)
  (c41:PySem.W.codeIn K cd41 "_law_sided" = true)
  (k41:PySem.W.keepIn K (.ref f41)=true)
  (a42:PySem.W.nsIn K mainGlobals "_law_tree" = some (some (.ref f42)))
  (l42:K.lookup f42=some ⟨oc42,od42,.func (PySem.W.fnOf "_law_tree" "_law_tree" (yk ydk) (yj ydk) (yc ydk) .none kV42 dc42 pm42 an42 cd42 ct42),sl42⟩)
  (c42:PySem.W.codeIn K cd42 "_law_tree" = true)
  (k42:PySem.W.keepIn K (.ref f42)=true)
  (a43:PySem.W.nsIn K mainGlobals "_law_made" = some (some (.ref f43)))
  (l43:K.lookup f43=some ⟨oc43,od43,.func (PySem.W.fnOf "_law_made" "_law_made" (yk ydl) (yj ydl) (yc ydl) .none kV43 dc43 pm43 an43 cd43 ct43),sl43⟩)
  (c43:PySem.W.codeIn K cd43 "_law_made" = true)
  (k43:PySem.W.keepIn K (.ref f43)=true)
  (a44:PySem.W.nsIn K mainGlobals "_law_boxes" = some (some (.ref f44)))
  (l44:K.lookup f44=some ⟨oc44,od44,.func (PySem.W.fnOf "_law_boxes" "_law_boxes" (yk ycG) (yj ycG) (yc ycG) .none kV44 dc44 pm44 an44 cd44 ct44),sl44⟩)
  (c44:PySem.W.codeIn K cd44 "_law_boxes" = true)
  (k44:PySem.W.keepIn K (.ref f44)=true)
  (a45:PySem.W.nsIn K mainGlobals "_law_slots" = some (some (.ref f45)))
  (l45:K.lookup f45=some ⟨oc45,od45,.func (PySem.W.fnOf "_law_slots" "_law_slots" (yk ycH) (yj ycH) (yc ycH) .none kV45 dc45 pm45 an45 cd45 ct45),sl45⟩)
  (c45:PySem.W.codeIn K cd45 "_law_slots" = true)
  (k45:PySem.W.keepIn K (.ref f45)=true)
  (a46:PySem.W.nsIn K mainGlobals "_law_sum" = some (some (.ref f46)))
  (l46:K.lookup f46=some ⟨oc46,od46,.func (PySem.W.fnOf "_law_sum" "_law_sum" (yk yef) (yj yef) (yc yef) .none kV46 dc46 pm46 an46 cd46 ct46),sl46⟩)
  (c46:PySem.W.codeIn K cd46 "_law_sum" = true)
  (k46:PySem.W.keepIn K (.ref f46)=true)
  (a47:PySem.W.nsIn K mainGlobals "_law_plainly" = some (some (.ref f47)))
  (l47:K.lookup f47=some ⟨oc47,od47,.func (PySem.W.fnOf "_law_plainly" "_law_plainly" (yk ybJ) (yj ybJ) (yc ybJ) .none kV47 dc47 pm47 an47 cd47 ct47),sl47⟩)
  (c47:PySem.W.codeIn K cd47 "_law_plainly" = true)
  (k47:PySem.W.keepIn K (.ref f47)=true)
  (a48:PySem.W.nsIn K mainGlobals "_law_pairs" = some (some (.ref f48)))
  (l48:K.lookup f48=some ⟨oc48,od48,.func (PySem.W.fnOf "_law_pairs" "_law_pairs" (yk ycI) (yj ycI) (yc ycI) .none kV48 dc48 pm48 an48 cd48 ct48),sl48⟩)
  (c48:PySem.W.codeIn K cd48 "_law_pairs" = true)
  (k48:PySem.W.keepIn K (.ref f48)=true)
  (a49:PySem.W.nsIn K mainGlobals "_law_do" = some (some (.ref f49)))
  (l49:K.lookup f49=some ⟨oc49,od49,.func (PySem.W.fnOf "_law_do" "_law_do" (yk yfi) (yj yfi) (yc yfi) .none kV49 dc49 pm49 an49 cd49 ct49),sl49⟩)
  (c49:PySem.W.codeIn K cd49 "_law_do" = true)
  (k49:PySem.W.keepIn K (.ref f49)=true)
  (a50:PySem.W.nsIn K mainGlobals "_law_part" = some (some (.ref f50)))
  (l50:K.lookup f50=some ⟨oc50,od50,.func (PySem.W.fnOf "_law_part" "_law_part" (yk ydm) (yj ydm) (yc ydm) .none kV50 dc50 pm50 an50 cd50 ct50),sl50⟩)
  (c50:PySem.W.codeIn K cd50 "_law_part" = true)
  (k50:PySem.W.keepIn K (.ref f50)=true)
  (a51:PySem.W.nsIn K mainGlobals "law" = some (some (.ref f51)))
  (l51:K.lookup f51=some ⟨oc51,od51,.func (PySem.W.fnOf "law" "law" (yk ynk) (yj ynk) (yc ynk) .none kV51 dc51 pm51 an51 cd51 ct51),sl51⟩)
  (c51:PySem.W.codeIn K cd51 "law" = true)
  (k51:PySem.W.keepIn K (.ref f51)=true)
  (pgLog:PySem.W.plainGet K CLog Str.empty=true)
  (hdLog:PySem.W.hasDictIn K CLog=true)
  (poLog:PySem.W.plainOver K CLog=true)
  (saLog:PySem.W.findIn K (.ref CLog) "__setattr__" = some (some (.builtin "object.__setattr__")))
  (mkLog:PySem.W.makesIn K CLog=true)
  (kcLog:PySem.W.keepIn K (.ref CLog)=true)
  (pgDoing:PySem.W.plainGet K CDoing Str.empty=true)
  (hdDoing:PySem.W.hasDictIn K CDoing=true)
  (poDoing:PySem.W.plainOver K CDoing=true)
  (saDoing:PySem.W.findIn K (.ref CDoing) "__setattr__" = some (some (.builtin "object.__setattr__")))
  (mkDoing:PySem.W.makesIn K CDoing=true)
  (kcDoing:PySem.W.keepIn K (.ref CDoing)=true)
  (pgDoer:PySem.W.plainGet K CDoer Str.empty=true)
  (hdDoer:PySem.W.hasDictIn K CDoer=true)
  (poDoer:PySem.W.plainOver K CDoer=true)
  (saDoer:PySem.W.findIn K (.ref CDoer) "__setattr__" = some (some (.builtin "object.__setattr__")))
  (mkDoer:PySem.W.makesIn K CDoer=true)
  (kcDoer:PySem.W.keepIn K (.ref CDoer)=true)
  (pgLet:PySem.W.plainGet K CLet Str.empty=true)
  (hdLet:PySem.W.hasDictIn K CLet=true)
  (poLet:PySem.W.plainOver K CLet=true)
  (saLet:PySem.W.findIn K (.ref CLet) "__setattr__" = some (some (.builtin "object.__setattr__")))
  (mkLet:PySem.W.makesIn K CLet=true)
  (kcLet:PySem.W.keepIn K (.ref CLet)=true)
  (haLet:PySem.W.findIn K (.ref CLet) "__class__" = some (some (.builtin "object.__class__")))
  (hmLet:PySem.W.mroIn K CLet (.type "object")=some true)
  (pgReckon:PySem.W.plainGet K CReckon Str.empty=true)
  (hdReckon:PySem.W.hasDictIn K CReckon=true)
  (poReckon:PySem.W.plainOver K CReckon=true)
  (saReckon:PySem.W.findIn K (.ref CReckon) "__setattr__" = some (some (.builtin "object.__setattr__")))
  (mkReckon:PySem.W.makesIn K CReckon=true)
  (kcReckon:PySem.W.keepIn K (.ref CReckon)=true)
  (haReckon:PySem.W.findIn K (.ref CReckon) "__class__" = some (some (.builtin "object.__class__")))
  (hmReckon:PySem.W.mroIn K CReckon (.type "object")=some true)
  (pgTake:PySem.W.plainGet K CTake Str.empty=true)
  (hdTake:PySem.W.hasDictIn K CTake=true)
  (poTake:PySem.W.plainOver K CTake=true)
  (saTake:PySem.W.findIn K (.ref CTake) "__setattr__" = some (some (.builtin "object.__setattr__")))
  (mkTake:PySem.W.makesIn K CTake=true)
  (kcTake:PySem.W.keepIn K (.ref CTake)=true)
  (haTake:PySem.W.findIn K (.ref CTake) "__class__" = some (some (.builtin "object.__class__")))
  (hmTake:PySem.W.mroIn K CTake (.type "object")=some true)
  (pgPut:PySem.W.plainGet K CPut Str.empty=true)
  (hdPut:PySem.W.hasDictIn K CPut=true)
  (poPut:PySem.W.plainOver K CPut=true)
  (saPut:PySem.W.findIn K (.ref CPut) "__setattr__" = some (some (.builtin "object.__setattr__")))
  (mkPut:PySem.W.makesIn K CPut=true)
  (kcPut:PySem.W.keepIn K (.ref CPut)=true)
  (haPut:PySem.W.findIn K (.ref CPut) "__class__" = some (some (.builtin "object.__class__")))
  (hmPut:PySem.W.mroIn K CPut (.type "object")=some true)
  (pgIf:PySem.W.plainGet K CIf Str.empty=true)
  (hdIf:PySem.W.hasDictIn K CIf=true)
  (poIf:PySem.W.plainOver K CIf=true)
  (saIf:PySem.W.findIn K (.ref CIf) "__setattr__" = some (some (.builtin "object.__setattr__")))
  (mkIf:PySem.W.makesIn K CIf=true)
  (kcIf:PySem.W.keepIn K (.ref CIf)=true)
  (haIf:PySem.W.findIn K (.ref CIf) "__class__" = some (some (.builtin "object.__class__")))
  (hmIf:PySem.W.mroIn K CIf (.type "object")=some true)
  (pgEither:PySem.W.plainGet K CEither Str.empty=true)
  (hdEither:PySem.W.hasDictIn K CEither=true)
  (poEither:PySem.W.plainOver K CEither=true)
  (saEither:PySem.W.findIn K (.ref CEither) "__setattr__" = some (some (.builtin "object.__setattr__")))
  (mkEither:PySem.W.makesIn K CEither=true)
  (kcEither:PySem.W.keepIn K (.ref CEither)=true)
  (haEither:PySem.W.findIn K (.ref CEither) "__class__" = some (some (.builtin "object.__class__")))
  (hmEither:PySem.W.mroIn K CEither (.type "object")=some true)
  (pgTry:PySem.W.plainGet K CTry Str.empty=true)
  (hdTry:PySem.W.hasDictIn K CTry=true)
  (poTry:PySem.W.plainOver K CTry=true)
  (saTry:PySem.W.findIn K (.ref CTry) "__setattr__" = some (some (.builtin "object.__setattr__")))
  (haTry:PySem.W.findIn K (.ref CTry) "__class__" = some (some (.builtin "object.__class__")))
  (hmTry:PySem.W.mroIn K CTry (.type "object")=some true)
  (pgThrow:PySem.W.plainGet K CThrow Str.empty=true)
  (hdThrow:PySem.W.hasDictIn K CThrow=true)
  (poThrow:PySem.W.plainOver K CThrow=true)
  (saThrow:PySem.W.findIn K (.ref CThrow) "__setattr__" = some (some (.builtin "object.__setattr__")))
  (haThrow:PySem.W.findIn K (.ref CThrow) "__class__" = some (some (.builtin "object.__class__")))
  (hmThrow:PySem.W.mroIn K CThrow (.type "object")=some true)
  (pgWait:PySem.W.plainGet K CWait Str.empty=true)
  (hdWait:PySem.W.hasDictIn K CWait=true)
  (poWait:PySem.W.plainOver K CWait=true)
  (saWait:PySem.W.findIn K (.ref CWait) "__setattr__" = some (some (.builtin "object.__setattr__")))
  (mkWait:PySem.W.makesIn K CWait=true)
  (kcWait:PySem.W.keepIn K (.ref CWait)=true)
  (ioWait:PySem.W.findIn K (.ref CWait) "__init__" = some (some (.builtin "object.__init__")))
  (haWait:PySem.W.findIn K (.ref CWait) "__class__" = some (some (.builtin "object.__class__")))
  (hmWait:PySem.W.mroIn K CWait (.type "object")=some true)
  (naLog_stack:PySem.W.findIn K (.ref CLog) "stack" = some none)
  (naLog_last_seen:PySem.W.findIn K (.ref CLog) "last_seen" = some none)
  (naDoing_held:PySem.W.findIn K (.ref CDoing) "held" = some none)
  (naDoing_width:PySem.W.findIn K (.ref CDoing) "width" = some none)
  (naDoing_log:PySem.W.findIn K (.ref CDoing) "log" = some none)
  (naDoing_found:PySem.W.findIn K (.ref CDoing) "found" = some none)
  (naLet_slot:PySem.W.findIn K (.ref CLet) "slot" = some none)
  (naReckon_slot:PySem.W.findIn K (.ref CReckon) "slot" = some none)
  (naTake_slot:PySem.W.findIn K (.ref CTake) "slot" = some none)
  (naPut_slot:PySem.W.findIn K (.ref CPut) "slot" = some none)
  (naIf_slot:PySem.W.findIn K (.ref CIf) "slot" = some none)
  (naTry_slot:PySem.W.findIn K (.ref CTry) "slot" = some none)
  (naThrow_slot:PySem.W.findIn K (.ref CThrow) "slot" = some none)
  (naLet_number:PySem.W.findIn K (.ref CLet) "number" = some none)
  (naReckon_word:PySem.W.findIn K (.ref CReckon) "word" = some none)
  (naReckon_one:PySem.W.findIn K (.ref CReckon) "one" = some none)
  (naReckon_other:PySem.W.findIn K (.ref CReckon) "other" = some none)
  (naTake_place:PySem.W.findIn K (.ref CTake) "place" = some none)
  (naPut_place:PySem.W.findIn K (.ref CPut) "place" = some none)
  (naIf_parts:PySem.W.findIn K (.ref CIf) "parts" = some none)
  (naEither_parts:PySem.W.findIn K (.ref CEither) "parts" = some none)
  (naTry_parts:PySem.W.findIn K (.ref CTry) "parts" = some none)
  (naIf_others:PySem.W.findIn K (.ref CIf) "others" = some none)
  (naEither_others:PySem.W.findIn K (.ref CEither) "others" = some none)
  (naTry_others:PySem.W.findIn K (.ref CTry) "others" = some none)
  (naTry_name:PySem.W.findIn K (.ref CTry) "name" = some none)
  (naThrow_name:PySem.W.findIn K (.ref CThrow) "name" = some none)
  (sb3_4:PySem.W.subIn K (.ref CLet) (.ref CReckon)=some false)
  (ne3_4:(CLet == CReckon)=false)
  (sb3_5:PySem.W.subIn K (.ref CLet) (.ref CTake)=some false)
  (ne3_5:(CLet == CTake)=false)
  (sb3_6:PySem.W.subIn K (.ref CLet) (.ref CPut)=some false)
  (ne3_6:(CLet == CPut)=false)
  (sb3_7:PySem.W.subIn K (.ref CLet) (.ref CIf)=some false)
  (ne3_7:(CLet == CIf)=false)
  (sb3_8:PySem.W.subIn K (.ref CLet) (.ref CEither)=some false)
  (ne3_8:(CLet == CEither)=false)
  (sb3_9:PySem.W.subIn K (.ref CLet) (.ref CTry)=some false)
  (ne3_9:(CLet == CTry)=false)
  (sb3_10:PySem.W.subIn K (.ref CLet) (.ref CThrow)=some false)
  (ne3_10:(CLet == CThrow)=false)
  (sb3_11:PySem.W.subIn K (.ref CLet) (.ref CWait)=some false)
  (ne3_11:(CLet == CWait)=false)
  (sb4_3:PySem.W.subIn K (.ref CReckon) (.ref CLet)=some false)
  (ne4_3:(CReckon == CLet)=false)
  (sb4_5:PySem.W.subIn K (.ref CReckon) (.ref CTake)=some false)
  (ne4_5:(CReckon == CTake)=false)
  (sb4_6:PySem.W.subIn K (.ref CReckon) (.ref CPut)=some false)
  (ne4_6:(CReckon == CPut)=false)
  (sb4_7:PySem.W.subIn K (.ref CReckon) (.ref CIf)=some false)
  (ne4_7:(CReckon == CIf)=false)
  (sb4_8:PySem.W.subIn K (.ref CReckon) (.ref CEither)=some false)
  (ne4_8:(CReckon == CEither)=false)
  (sb4_9:PySem.W.subIn K (.ref CReckon) (.ref CTry)=some false)
  (ne4_9:(CReckon == CTry)=false)
  (sb4_10:PySem.W.subIn K (.ref CReckon) (.ref CThrow)=some false)
  (ne4_10:(CReckon == CThrow)=false)
  (sb4_11:PySem.W.subIn K (.ref CReckon) (.ref CWait)=some false)
  (ne4_11:(CReckon == CWait)=false)
  (sb5_3:PySem.W.subIn K (.ref CTake) (.ref CLet)=some false)
  (ne5_3:(CTake == CLet)=false)
  (sb5_4:PySem.W.subIn K (.ref CTake) (.ref CReckon)=some false)
  (ne5_4:(CTake == CReckon)=false)
  (sb5_6:PySem.W.subIn K (.ref CTake) (.ref CPut)=some false)
  (ne5_6:(CTake == CPut)=false)
  (sb5_7:PySem.W.subIn K (.ref CTake) (.ref CIf)=some false)
  (ne5_7:(CTake == CIf)=false)
  (sb5_8:PySem.W.subIn K (.ref CTake) (.ref CEither)=some false)
  (ne5_8:(CTake == CEither)=false)
  (sb5_9:PySem.W.subIn K (.ref CTake) (.ref CTry)=some false)
  (ne5_9:(CTake == CTry)=false)
  (sb5_10:PySem.W.subIn K (.ref CTake) (.ref CThrow)=some false)
  (ne5_10:(CTake == CThrow)=false)
  (sb5_11:PySem.W.subIn K (.ref CTake) (.ref CWait)=some false)
  (ne5_11:(CTake == CWait)=false)
  (sb6_3:PySem.W.subIn K (.ref CPut) (.ref CLet)=some false)
  (ne6_3:(CPut == CLet)=false)
  (sb6_4:PySem.W.subIn K (.ref CPut) (.ref CReckon)=some false)
  (ne6_4:(CPut == CReckon)=false)
  (sb6_5:PySem.W.subIn K (.ref CPut) (.ref CTake)=some false)
  (ne6_5:(CPut == CTake)=false)
  (sb6_7:PySem.W.subIn K (.ref CPut) (.ref CIf)=some false)
  (ne6_7:(CPut == CIf)=false)
  (sb6_8:PySem.W.subIn K (.ref CPut) (.ref CEither)=some false)
  (ne6_8:(CPut == CEither)=false)
  (sb6_9:PySem.W.subIn K (.ref CPut) (.ref CTry)=some false)
  (ne6_9:(CPut == CTry)=false)
  (sb6_10:PySem.W.subIn K (.ref CPut) (.ref CThrow)=some false)
  (ne6_10:(CPut == CThrow)=false)
  (sb6_11:PySem.W.subIn K (.ref CPut) (.ref CWait)=some false)
  (ne6_11:(CPut == CWait)=false)
  (sb7_3:PySem.W.subIn K (.ref CIf) (.ref CLet)=some false)
  (ne7_3:(CIf == CLet)=false)
  (sb7_4:PySem.W.subIn K (.ref CIf) (.ref CReckon)=some false)
  (ne7_4:(CIf == CReckon)=false)
  (sb7_5:PySem.W.subIn K (.ref CIf) (.ref CTake)=some false)
  (ne7_5:(CIf == CTake)=false)
  (sb7_6:PySem.W.subIn K (.ref CIf) (.ref CPut)=some false)
  (ne7_6:(CIf == CPut)=false)
  (sb7_8:PySem.W.subIn K (.ref CIf) (.ref CEither)=some false)
  (ne7_8:(CIf == CEither)=false)
  (sb7_9:PySem.W.subIn K (.ref CIf) (.ref CTry)=some false)
  (ne7_9:(CIf == CTry)=false)
  (sb7_10:PySem.W.subIn K (.ref CIf) (.ref CThrow)=some false)
  (ne7_10:(CIf == CThrow)=false)
  (sb7_11:PySem.W.subIn K (.ref CIf) (.ref CWait)=some false)
  (ne7_11:(CIf == CWait)=false)
  (sb8_3:PySem.W.subIn K (.ref CEither) (.ref CLet)=some false)
  (ne8_3:(CEither == CLet)=false)
  (sb8_4:PySem.W.subIn K (.ref CEither) (.ref CReckon)=some false)
  (ne8_4:(CEither == CReckon)=false)
  (sb8_5:PySem.W.subIn K (.ref CEither) (.ref CTake)=some false)
  (ne8_5:(CEither == CTake)=false)
  (sb8_6:PySem.W.subIn K (.ref CEither) (.ref CPut)=some false)
  (ne8_6:(CEither == CPut)=false)
  (sb8_7:PySem.W.subIn K (.ref CEither) (.ref CIf)=some false)
  (ne8_7:(CEither == CIf)=false)
  (sb8_9:PySem.W.subIn K (.ref CEither) (.ref CTry)=some false)
  (ne8_9:(CEither == CTry)=false)
  (sb8_10:PySem.W.subIn K (.ref CEither) (.ref CThrow)=some false)
  (ne8_10:(CEither == CThrow)=false)
  (sb8_11:PySem.W.subIn K (.ref CEither) (.ref CWait)=some false)
  (ne8_11:(CEither == CWait)=false)
  (sb11_3:PySem.W.subIn K (.ref CWait) (.ref CLet)=some false)
  (ne11_3:(CWait == CLet)=false)
  (sb11_4:PySem.W.subIn K (.ref CWait) (.ref CReckon)=some false)
  (ne11_4:(CWait == CReckon)=false)
  (sb11_5:PySem.W.subIn K (.ref CWait) (.ref CTake)=some false)
  (ne11_5:(CWait == CTake)=false)
  (sb11_6:PySem.W.subIn K (.ref CWait) (.ref CPut)=some false)
  (ne11_6:(CWait == CPut)=false)
  (sb11_7:PySem.W.subIn K (.ref CWait) (.ref CIf)=some false)
  (ne11_7:(CWait == CIf)=false)
  (sb11_8:PySem.W.subIn K (.ref CWait) (.ref CEither)=some false)
  (ne11_8:(CWait == CEither)=false)
  (sb11_9:PySem.W.subIn K (.ref CWait) (.ref CTry)=some false)
  (ne11_9:(CWait == CTry)=false)
  (sb11_10:PySem.W.subIn K (.ref CWait) (.ref CThrow)=some false)
  (ne11_10:(CWait == CThrow)=false)
  (ty3:PySem.W.typeIn K (.ref CLet)=some (.type "type"))
  (ty4:PySem.W.typeIn K (.ref CReckon)=some (.type "type"))
  (ty5:PySem.W.typeIn K (.ref CTake)=some (.type "type"))
  (ty6:PySem.W.typeIn K (.ref CPut)=some (.type "type"))
  (ty7:PySem.W.typeIn K (.ref CIf)=some (.type "type"))
  (ty8:PySem.W.typeIn K (.ref CEither)=some (.type "type"))
  (ty9:PySem.W.typeIn K (.ref CTry)=some (.type "type"))
  (ty10:PySem.W.typeIn K (.ref CThrow)=some (.type "type"))
  (ty11:PySem.W.typeIn K (.ref CWait)=some (.type "type"))
  (hn:PySem.W.specialIn K (.builtin "object.__class__") "__get__" = some (some (.builtin "getset_descriptor.__get__")))
  (htk:PySem.W.takesIn K (.builtin "object.__class__")=some true)
  (z1:PySem.W.nsIn K mainGlobals "bool" = some none)
  (z2:PySem.W.nsIn K mainGlobals "dict" = some none)
  (z3:PySem.W.nsIn K mainGlobals "int" = some none)
  (z4:PySem.W.nsIn K mainGlobals "isinstance" = some none)
  (z5:PySem.W.nsIn K mainGlobals "len" = some none)
  (z6:PySem.W.nsIn K mainGlobals "list" = some none)
  (z7:PySem.W.nsIn K mainGlobals "max" = some none)
  (z8:PySem.W.nsIn K mainGlobals "range" = some none)
  (z9:PySem.W.nsIn K mainGlobals "reversed" = some none)
  (z10:PySem.W.nsIn K mainGlobals "sorted" = some none)
  (z11:PySem.W.nsIn K mainGlobals "str" = some none)
  (z12:PySem.W.nsIn K mainGlobals "sum" = some none)
  (z13:PySem.W.nsIn K mainGlobals "tuple" = some none)
  (q1:PySem.W.nsIn K mainGlobals "DONE" = some (some (.ref u1)))
  (qk1:K.lookup u1=some ⟨.type "tuple",qd1,.seq #[.str "done" qt1_0] qn1,qs1⟩)
  (q2:PySem.W.nsIn K mainGlobals "SLOTS" = some (some (.str "abcdefgh" u2)))
  (q3:PySem.W.nsIn K mainGlobals "WAITS" = some (some (.ref u3)))
  (qk3:K.lookup u3=some ⟨.type "tuple",qd3,.seq #[.str "waits" qt3_0] qn3,qs3⟩)
  (q4:PySem.W.nsIn K mainGlobals "WIDE" = some (some (.int 18446744073709551616 u4))) :
  ∃ fd:FuncData,(∀ (s:Shared) (v:Value),BindsTo s fd ⟨[v],[]⟩ [("_law_script",v)])/\∀ base:Heap,K.In base->base.Ns mainGlobals mg->FnOk l.prog w K mg base CX0 30 fa fd ["_law_script"] (yBU K):=by
 have e:=hfa.symm.trans (PySem.W.mg_of X G a51)
 cases e
 have F1:=yP (st:=ybD) l1 c1 k1
 have b1:=F1.binds (ps:=["self"]) fun _ _ _ _ _ _ us hl=>match us,hl with|[_],_=>rfl
 have F2:=yP (st:=ydf) l2 c2 k2
 have b2:=F2.binds (ps:=["self","box","number"]) fun _ _ _ _ _ _ us hl=>match us,hl with|[_,_,_],_=>rfl
 have F3:=yP (st:=yff) l3 c3 k3
 have b3:=F3.binds (ps:=["self","box"]) fun _ _ _ _ _ _ us hl=>match us,hl with|[_,_],_=>rfl
 have F4:=yP (st:=ydg) l4 c4 k4
 have b4:=F4.binds (ps:=["self"]) fun _ _ _ _ _ _ us hl=>match us,hl with|[_],_=>rfl
 have F5:=yP (st:=ycA) l5 c5 k5
 have b5:=F5.binds (ps:=["self"]) fun _ _ _ _ _ _ us hl=>match us,hl with|[_],_=>rfl
 have F6:=yP (st:=yee) l6 c6 k6
 have b6:=F6.binds (ps:=["self"]) fun _ _ _ _ _ _ us hl=>match us,hl with|[_],_=>rfl
 have F7:=yP (st:=yfg) l7 c7 k7
 have b7:=F7.binds (ps:=["self","box","number"]) fun _ _ _ _ _ _ us hl=>match us,hl with|[_,_,_],_=>rfl
 have F8:=yP (st:=yfh) l8 c8 k8
 have b8:=F8.binds (ps:=["self"]) fun _ _ _ _ _ _ us hl=>match us,hl with|[_],_=>rfl
 have F9:=yP (st:=ydh) l9 c9 k9
 have b9:=F9.binds (ps:=["self"]) fun _ _ _ _ _ _ us hl=>match us,hl with|[_],_=>rfl
 have F10:=yP (st:=ygI) l10 c10 k10
 have b10:=F10.binds (ps:=["word","one","other"]) fun _ _ _ _ _ _ us hl=>match us,hl with|[_,_,_],_=>rfl
 have F11:=yP (st:=ycB) l11 c11 k11
 have b11:=F11.binds (ps:=["slot"]) fun _ _ _ _ _ _ us hl=>match us,hl with|[_],_=>rfl
 have F12:=yP (st:=ybr) l12 c12 k12
 have b12:=F12.binds (ps:=["self","slots","width"]) fun _ _ _ _ _ _ us hl=>match us,hl with|[_,_,_],_=>rfl
 have F13:=yP (st:=ybE) l13 c13 k13
 have b13:=F13.binds (ps:=["self","slot"]) fun _ _ _ _ _ _ us hl=>match us,hl with|[_,_],_=>rfl
 have F14:=yP (st:=ydi) l14 c14 k14
 have b14:=F14.binds (ps:=["self","slot","number"]) fun _ _ _ _ _ _ us hl=>match us,hl with|[_,_,_],_=>rfl
 have F15:=yP (st:=ybW) l15 c15 k15
 have b15:=F15.binds (ps:=["self","place"]) fun _ _ _ _ _ _ us hl=>match us,hl with|[_,_],_=>rfl
 have F16:=yP (st:=ybi) l16 c16 k16
 have b16:=F16.binds (ps:=["self","word","slot","one","other"]) fun _ _ _ _ _ _ us hl=>match us,hl with|[_,_,_,_,_],_=>rfl
 have F17:=yP (st:=ybX) l17 c17 k17
 have b17:=F17.binds (ps:=["self","place","slot"]) fun _ _ _ _ _ _ us hl=>match us,hl with|[_,_,_],_=>rfl
 have F18:=yP (st:=ybF) l18 c18 k18
 have b18:=F18.binds (ps:=["self","place"]) fun _ _ _ _ _ _ us hl=>match us,hl with|[_,_],_=>rfl
 have F19:=yP (st:=ybs) l19 c19 k19
 have b19:=F19.binds (ps:=["self","slot","place"]) fun _ _ _ _ _ _ us hl=>match us,hl with|[_,_,_],_=>rfl
 have F20:=yP (st:=ybj) l20 c20 k20
 have b20:=F20.binds (ps:=["self","slot","place","numbers"]) fun _ _ _ _ _ _ us hl=>match us,hl with|[_,_,_,_],_=>rfl
 have F21:=yP (st:=ybG) l21 c21 k21
 have b21:=F21.binds (ps:=["self","slot","number"]) fun _ _ _ _ _ _ us hl=>match us,hl with|[_,_,_],_=>rfl
 have F22:=yP (st:=ybd) l22 c22 k22
 have b22:=F22.binds (ps:=["self","word","slot","one","other"]) fun _ _ _ _ _ _ us hl=>match us,hl with|[_,_,_,_,_],_=>rfl
 have F23:=yP (st:=ybt) l23 c23 k23
 have b23:=F23.binds (ps:=["self","slot","place"]) fun _ _ _ _ _ _ us hl=>match us,hl with|[_,_,_],_=>rfl
 have F24:=yP (st:=ybH) l24 c24 k24
 have b24:=F24.binds (ps:=["self","place","slot"]) fun _ _ _ _ _ _ us hl=>match us,hl with|[_,_,_],_=>rfl
 have F25:=yP (st:=ybk) l25 c25 k25
 have b25:=F25.binds (ps:=["self","boxes","slots"]) fun _ _ _ _ _ _ us hl=>match us,hl with|[_,_,_],_=>rfl
 have F26:=yP (st:=ybe) l26 c26 k26
 have b26:=F26.binds (ps:=["self","part"]) fun _ _ _ _ _ _ us hl=>match us,hl with|[_,_],_=>rfl
 have F27:=yP (st:=yV) l27 c27 k27
 have b27:=F27.binds (ps:=["self","part"]) fun _ _ _ _ _ _ us hl=>match us,hl with|[_,_],_=>rfl
 have F28:=yP (st:=ybl) l28 c28 k28
 have b28:=F28.binds (ps:=["self","parts"]) fun _ _ _ _ _ _ us hl=>match us,hl with|[_,_],_=>rfl
 have F29:=yP (st:=ybm) l29 c29 k29
 have b29:=F29.binds (ps:=["self","part"]) fun _ _ _ _ _ _ us hl=>match us,hl with|[_,_],_=>rfl
 have F30:=yP (st:=ybI) l30 c30 k30
 have b30:=F30.binds (ps:=["self","part"]) fun _ _ _ _ _ _ us hl=>match us,hl with|[_,_],_=>rfl
 have F31:=yP (st:=yW) l31 c31 k31
 have b31:=F31.binds (ps:=["self","part"]) fun _ _ _ _ _ _ us hl=>match us,hl with|[_,_],_=>rfl
 have F32:=yP (st:=ybu) l32 c32 k32
 have b32:=F32.binds (ps:=["self","part"]) fun _ _ _ _ _ _ us hl=>match us,hl with|[_,_],_=>rfl
 have F33:=yP (st:=yL) l33 c33 k33
 have b33:=F33.binds (ps:=["self","parts"]) fun _ _ _ _ _ _ us hl=>match us,hl with|[_,_],_=>rfl
 have F34:=yP (st:=yiq) l34 c34 k34
 have b34:=F34.binds (ps:=["deed","boxes","slots"]) fun _ _ _ _ _ _ us hl=>match us,hl with|[_,_,_],_=>rfl
 have F35:=yP (st:=ybY) l35 c35 k35
 have b35:=F35.binds (ps:=["self","slot","parts","others"]) fun _ _ _ _ _ _ us hl=>match us,hl with|[_,_,_,_],_=>rfl
 have F36:=yP (st:=ybf) l36 c36 k36
 have b36:=F36.binds (ps:=["self","parts","others"]) fun _ _ _ _ _ _ us hl=>match us,hl with|[_,_,_],_=>rfl
 have F37:=yP (st:=ycC) l37 c37 k37
 have b37:=F37.binds (ps:=["_law_cell"]) fun _ _ _ _ _ _ us hl=>match us,hl with|[_],_=>rfl
 have F38:=yP (st:=ydj) l38 c38 k38
 have b38:=F38.binds (ps:=["_law_cell"]) fun _ _ _ _ _ _ us hl=>match us,hl with|[_],_=>rfl
 have F39:=yP (st:=ycD) l39 c39 k39
 have b39:=F39.binds (ps:=["_law_found","_law_due"]) fun _ _ _ _ _ _ us hl=>match us,hl with|[_,_],_=>rfl
 have F40:=yP (st:=ycE) l40 c40 k40
 have b40:=F40.binds (ps:=["_law_mixed_here","_law_cell"]) fun _ _ _ _ _ _ us hl=>match us,hl with|[_,_],_=>rfl
 have F41:=yP (st:=ycF) l41 c41 k41
 have b41:=F41.binds (ps:=["_law_mixed_here","_law_one","_law_other"]) fun _ _ _ _ _ _ us hl=>match us,hl with|[_,_,_],_=>rfl
 have F42:=yP (st:=ydk) l42 c42 k42
 have b42:=F42.binds (ps:=["_law_cells","_law_depth"]) fun _ _ _ _ _ _ us hl=>match us,hl with|[_,_],_=>rfl
 have F43:=yP (st:=ydl) l43 c43 k43
 have b43:=F43.binds (ps:=["_law_tree_here"]) fun _ _ _ _ _ _ us hl=>match us,hl with|[_],_=>rfl
 have F44:=yP (st:=ycG) l44 c44 k44
 have b44:=F44.binds (ps:=["_law_cell"]) fun _ _ _ _ _ _ us hl=>match us,hl with|[_],_=>rfl
 have F45:=yP (st:=ycH) l45 c45 k45
 have b45:=F45.binds (ps:=["_law_cell"]) fun _ _ _ _ _ _ us hl=>match us,hl with|[_],_=>rfl
 have F46:=yP (st:=yef) l46 c46 k46
 have b46:=F46.binds (ps:=["_law_word","_law_one","_law_other"]) fun _ _ _ _ _ _ us hl=>match us,hl with|[_,_,_],_=>rfl
 have F47:=yP (st:=ybJ) l47 c47 k47
 have b47:=F47.binds (ps:=["_law_part_here","_law_boxes_here","_law_saw","_law_slots_here","_law_written"]) fun _ _ _ _ _ _ us hl=>match us,hl with|[_,_,_,_,_],_=>rfl
 have F48:=yP (st:=ycI) l48 c48 k48
 have b48:=F48.binds (ps:=["_law_found"]) fun _ _ _ _ _ _ us hl=>match us,hl with|[_],_=>rfl
 have F49:=yP (st:=yfi) l49 c49 k49
 have b49:=F49.binds (ps:=["_law_tree_here","_law_boxes_here","_law_saw","_law_slots_here","_law_written"]) fun _ _ _ _ _ _ us hl=>match us,hl with|[_,_,_,_,_],_=>rfl
 have F50:=yP (st:=ydm) l50 c50 k50
 have b50:=F50.binds (ps:=["_law_part_here","_law_boxes_here","_law_saw","_law_slots_here","_law_written"]) fun _ _ _ _ _ _ us hl=>match us,hl with|[_,_,_,_,_],_=>rfl
 have F51:=yP (st:=ynk) l51 c51 k51
 have b51:=F51.binds (ps:=["_law_script"]) fun _ _ _ _ _ _ us hl=>match us,hl with|[_],_=>rfl
 let AA:Nat->Addr:=fun k=>match k with|0=>CLog|1=>CDoing|2=>CDoer|3=>CLet|4=>CReckon|5=>CTake|6=>CPut|7=>CIf|8=>CEither|9=>CTry|10=>CThrow|11=>CWait|_=>CLog
 have CL:∀ k,Cls K (AA k):=fun k=>match k with|0=>⟨pgLog,hdLog,poLog,saLog⟩|1=>⟨pgDoing,hdDoing,poDoing,saDoing⟩|2=>⟨pgDoer,hdDoer,poDoer,saDoer⟩|3=>⟨pgLet,hdLet,poLet,saLet⟩|4=>⟨pgReckon,hdReckon,poReckon,saReckon⟩|5=>⟨pgTake,hdTake,poTake,saTake⟩|6=>⟨pgPut,hdPut,poPut,saPut⟩|7=>⟨pgIf,hdIf,poIf,saIf⟩|8=>⟨pgEither,hdEither,poEither,saEither⟩|9=>⟨pgTry,hdTry,poTry,saTry⟩|10=>⟨pgThrow,hdThrow,poThrow,saThrow⟩|11=>⟨pgWait,hdWait,poWait,saWait⟩|_+12=>⟨pgLog,hdLog,poLog,saLog⟩
 have TY3:∀ (H:Hp) (a dx:Addr) (fs:List (Str×V)),H a=some (.ins CLet dx fs)->ynQ K H (.ref a) (.ref CLet):=fun H a dx fs e=>.ins e (CL 3) haLet hn htk hmLet
 have TY4:∀ (H:Hp) (a dx:Addr) (fs:List (Str×V)),H a=some (.ins CReckon dx fs)->ynQ K H (.ref a) (.ref CReckon):=fun H a dx fs e=>.ins e (CL 4) haReckon hn htk hmReckon
 have TY5:∀ (H:Hp) (a dx:Addr) (fs:List (Str×V)),H a=some (.ins CTake dx fs)->ynQ K H (.ref a) (.ref CTake):=fun H a dx fs e=>.ins e (CL 5) haTake hn htk hmTake
 have TY6:∀ (H:Hp) (a dx:Addr) (fs:List (Str×V)),H a=some (.ins CPut dx fs)->ynQ K H (.ref a) (.ref CPut):=fun H a dx fs e=>.ins e (CL 6) haPut hn htk hmPut
 have TY7:∀ (H:Hp) (a dx:Addr) (fs:List (Str×V)),H a=some (.ins CIf dx fs)->ynQ K H (.ref a) (.ref CIf):=fun H a dx fs e=>.ins e (CL 7) haIf hn htk hmIf
 have TY8:∀ (H:Hp) (a dx:Addr) (fs:List (Str×V)),H a=some (.ins CEither dx fs)->ynQ K H (.ref a) (.ref CEither):=fun H a dx fs e=>.ins e (CL 8) haEither hn htk hmEither
 have TY9:∀ (H:Hp) (a dx:Addr) (fs:List (Str×V)),H a=some (.ins CTry dx fs)->ynQ K H (.ref a) (.ref CTry):=fun H a dx fs e=>.ins e (CL 9) haTry hn htk hmTry
 have TY10:∀ (H:Hp) (a dx:Addr) (fs:List (Str×V)),H a=some (.ins CThrow dx fs)->ynQ K H (.ref a) (.ref CThrow):=fun H a dx fs e=>.ins e (CL 10) haThrow hn htk hmThrow
 have TY11:∀ (H:Hp) (a dx:Addr) (fs:List (Str×V)),H a=some (.ins CWait dx fs)->ynQ K H (.ref a) (.ref CWait):=fun H a dx fs e=>.ins e (CL 11) haWait hn htk hmWait
 have T:Txt K mg ⟨AA,f1,PySem.W.fnOf "__init__" "Log.__init__" (yk ybD) (yj ybD) (yc ybD) .none kV1 dc1 pm1 an1 cd1 ct1,f2,PySem.W.fnOf "write" "Log.write" (yk ydf) (yj ydf) (yc ydf) .none kV2 dc2 pm2 an2 cd2 ct2,f3,PySem.W.fnOf "own" "Log.own" (yk yff) (yj yff) (yc yff) .none kV3 dc3 pm3 an3 cd3 ct3,f4,PySem.W.fnOf "begin" "Log.begin" (yk ydg) (yj ydg) (yc ydg) .none kV4 dc4 pm4 an4 cd4 ct4,f5,PySem.W.fnOf "settle" "Log.settle" (yk ycA) (yj ycA) (yc ycA) .none kV5 dc5 pm5 an5 cd5 ct5,f6,PySem.W.fnOf "drop" "Log.drop" (yk yee) (yj yee) (yc yee) .none kV6 dc6 pm6 an6 cd6 ct6,f7,PySem.W.fnOf "see" "Log.see" (yk yfg) (yj yfg) (yc yfg) .none kV7 dc7 pm7 an7 cd7 ct7,f8,PySem.W.fnOf "saw" "Log.saw" (yk yfh) (yj yfh) (yc yfh) .none kV8 dc8 pm8 an8 cd8 ct8,f9,PySem.W.fnOf "wrote" "Log.wrote" (yk ydh) (yj ydh) (yc ydh) .none kV9 dc9 pm9 an9 cd9 ct9,f10,PySem.W.fnOf "reckon" "reckon" (yk ygI) (yj ygI) (yc ygI) .none kV10 dc10 pm10 an10 cd10 ct10,f11,PySem.W.fnOf "slot_index" "slot_index" (yk ycB) (yj ycB) (yc ycB) .none kV11 dc11 pm11 an11 cd11 ct11,f12,PySem.W.fnOf "__init__" "Doer.__init__" (yk ybr) (yj ybr) (yc ybr) .none kV12 dc12 pm12 an12 cd12 ct12,f13,PySem.W.fnOf "held_in" "Doer.held_in" (yk ybE) (yj ybE) (yc ybE) .none kV13 dc13 pm13 an13 cd13 ct13,f14,PySem.W.fnOf "hold" "Doer.hold" (yk ydi) (yj ydi) (yc ydi) .none kV14 dc14 pm14 an14 cd14 ct14,f15,PySem.W.fnOf "box_at" "Doer.box_at" (yk ybW) (yj ybW) (yc ybW) .none kV15 dc15 pm15 an15 cd15 ct15,f16,PySem.W.fnOf "do_reckon" "Doer.do_reckon" (yk ybi) (yj ybi) (yc ybi) .none kV16 dc16 pm16 an16 cd16 ct16,f17,PySem.W.fnOf "do_put" "Doer.do_put" (yk ybX) (yj ybX) (yc ybX) .none kV17 dc17 pm17 an17 cd17 ct17,f18,PySem.W.fnOf "sees_at" "Doer.sees_at" (yk ybF) (yj ybF) (yc ybF) .none kV18 dc18 pm18 an18 cd18 ct18,f19,PySem.W.fnOf "take_own" "Doer.take_own" (yk ybs) (yj ybs) (yc ybs) .none kV19 dc19 pm19 an19 cd19 ct19,f20,PySem.W.fnOf "take_seen" "Doer.take_seen" (yk ybj) (yj ybj) (yc ybj) .none kV20 dc20 pm20 an20 cd20 ct20,f21,PySem.W.fnOf "__init__" "Let.__init__" (yk ybG) (yj ybG) (yc ybG) .none kV21 dc21 pm21 an21 cd21 ct21,f22,PySem.W.fnOf "__init__" "Reckon.__init__" (yk ybd) (yj ybd) (yc ybd) .none kV22 dc22 pm22 an22 cd22 ct22,f23,PySem.W.fnOf "__init__" "Take.__init__" (yk ybt) (yj ybt) (yc ybt) .none kV23 dc23 pm23 an23 cd23 ct23,f24,PySem.W.fnOf "__init__" "Put.__init__" (yk ybH) (yj ybH) (yc ybH) .none kV24 dc24 pm24 an24 cd24 ct24,f25,PySem.W.fnOf "__init__" "Doing.__init__" (yk ybk) (yj ybk) (yc ybk) .none kV25 dc25 pm25 an25 cd25 ct25,f26,PySem.W.fnOf "take_done" "Doing.take_done" (yk ybe) (yj ybe) (yc ybe) .none kV26 dc26 pm26 an26 cd26 ct26,f27,PySem.W.fnOf "plain_done" "Doing.plain_done" (yk yV) (yj yV) (yc yV) .none kV27 dc27 pm27 an27 cd27 ct27,f28,PySem.W.fnOf "list_end" "Doing.list_end" (yk ybl) (yj ybl) (yc ybl) .none kV28 dc28 pm28 an28 cd28 ct28,f29,PySem.W.fnOf "part_end" "Doing.part_end" (yk ybm) (yj ybm) (yc ybm) .none kV29 dc29 pm29 an29 cd29 ct29,f30,PySem.W.fnOf "if_end" "Doing.if_end" (yk ybI) (yj ybI) (yc ybI) .none kV30 dc30 pm30 an30 cd30 ct30,f31,PySem.W.fnOf "either_end" "Doing.either_end" (yk yW) (yj yW) (yc yW) .none kV31 dc31 pm31 an31 cd31 ct31,f32,PySem.W.fnOf "try_end" "Doing.try_end" (yk ybu) (yj ybu) (yc ybu) .none kV32 dc32 pm32 an32 cd32 ct32,f33,PySem.W.fnOf "layered_end" "Doing.layered_end" (yk yL) (yj yL) (yc yL) .none kV33 dc33 pm33 an33 cd33 ct33,f34,PySem.W.fnOf "alone" "alone" (yk yiq) (yj yiq) (yc yiq) .none kV34 dc34 pm34 an34 cd34 ct34,f35,PySem.W.fnOf "__init__" "If.__init__" (yk ybY) (yj ybY) (yc ybY) .none kV35 dc35 pm35 an35 cd35 ct35,f36,PySem.W.fnOf "__init__" "Either.__init__" (yk ybf) (yj ybf) (yc ybf) .none kV36 dc36 pm36 an36 cd36 ct36,f37,PySem.W.fnOf "_law_mixed" "_law_mixed" (yk ycC) (yj ycC) (yc ycC) .none kV37 dc37 pm37 an37 cd37 ct37,f38,PySem.W.fnOf "_law_wide" "_law_wide" (yk ydj) (yj ydj) (yc ydj) .none kV38 dc38 pm38 an38 cd38 ct38,f39,PySem.W.fnOf "_law_alike" "_law_alike" (yk ycD) (yj ycD) (yc ycD) .none kV39 dc39 pm39 an39 cd39 ct39,f40,PySem.W.fnOf "_law_plain" "_law_plain" (yk ycE) (yj ycE) (yc ycE) .none kV40 dc40 pm40 an40 cd40 ct40,f41,PySem.W.fnOf "_law_sided" "_law_sided" (yk ycF) (yj ycF) (yc ycF) .none kV41 dc41 pm41 an41 cd41 ct41,f42,PySem.W.fnOf "_law_tree" "_law_tree" (yk ydk) (yj ydk) (yc ydk) .none kV42 dc42 pm42 an42 cd42 ct42,f43,PySem.W.fnOf "_law_made" "_law_made" (yk ydl) (yj ydl) (yc ydl) .none kV43 dc43 pm43 an43 cd43 ct43,f44,PySem.W.fnOf "_law_boxes" "_law_boxes" (yk ycG) (yj ycG) (yc ycG) .none kV44 dc44 pm44 an44 cd44 ct44,f45,PySem.W.fnOf "_law_slots" "_law_slots" (yk ycH) (yj ycH) (yc ycH) .none kV45 dc45 pm45 an45 cd45 ct45,f46,PySem.W.fnOf "_law_sum" "_law_sum" (yk yef) (yj yef) (yc yef) .none kV46 dc46 pm46 an46 cd46 ct46,f47,PySem.W.fnOf "_law_plainly" "_law_plainly" (yk ybJ) (yj ybJ) (yc ybJ) .none kV47 dc47 pm47 an47 cd47 ct47,f48,PySem.W.fnOf "_law_pairs" "_law_pairs" (yk ycI) (yj ycI) (yc ycI) .none kV48 dc48 pm48 an48 cd48 ct48,f49,PySem.W.fnOf "_law_do" "_law_do" (yk yfi) (yj yfi) (yc yfi) .none kV49 dc49 pm49 an49 cd49 ct49,f50,PySem.W.fnOf "_law_part" "_law_part" (yk ydm) (yj ydm) (yc ydm) .none kV50 dc50 pm50 an50 cd50 ct50,fa,PySem.W.fnOf "law" "law" (yk ynk) (yj ynk) (yc ynk) .none kV51 dc51 pm51 an51 cd51 ct51,u1,u2,u3,u4⟩:=⟨F1,b1,F2,b2,F3,b3,F4,b4,F5,b5,F6,b6,F7,b7,F8,b8,F9,b9,F10,b10,PySem.W.mg_of X G a10,F11,b11,PySem.W.mg_of X G a11,F12,b12,F13,b13,F14,b14,F15,b15,F16,b16,F17,b17,F18,b18,F19,b19,F20,b20,F21,b21,F22,b22,F23,b23,F24,b24,F25,b25,F26,b26,F27,b27,F28,b28,F29,b29,F30,b30,F31,b31,F32,b32,F33,b33,F34,b34,PySem.W.mg_of X G a34,F35,b35,F36,b36,F37,b37,PySem.W.mg_of X G a37,F38,b38,PySem.W.mg_of X G a38,F39,b39,PySem.W.mg_of X G a39,F40,b40,PySem.W.mg_of X G a40,F41,b41,PySem.W.mg_of X G a41,F42,b42,PySem.W.mg_of X G a42,F43,b43,PySem.W.mg_of X G a43,F44,b44,PySem.W.mg_of X G a44,F45,b45,PySem.W.mg_of X G a45,F46,b46,PySem.W.mg_of X G a46,F47,b47,PySem.W.mg_of X G a47,F48,b48,PySem.W.mg_of X G a48,F49,b49,PySem.W.mg_of X G a49,F50,b50,PySem.W.mg_of X G a50,F51,b51,PySem.W.mg_of X G a51,PySem.W.mg_of X G nCLog,⟨mkLog,yhk,i1,kcLog⟩,PySem.W.mg_of X G nCDoing,⟨mkDoing,yfI,i25,kcDoing⟩,PySem.W.mg_of X G nCDoer,⟨mkDoer,ygz,i12,kcDoer⟩,PySem.W.mg_of X G nCLet,⟨mkLet,yhl,i21,kcLet⟩,PySem.W.mg_of X G nCReckon,⟨mkReckon,yft,i22,kcReckon⟩,PySem.W.mg_of X G nCTake,⟨mkTake,ygA,i23,kcTake⟩,PySem.W.mg_of X G nCPut,⟨mkPut,yhm,i24,kcPut⟩,PySem.W.mg_of X G nCIf,⟨mkIf,yib,i35,kcIf⟩,PySem.W.mg_of X G nCEither,⟨mkEither,yfu,i36,kcEither⟩,PySem.W.mg_of X G nCTry,PySem.W.mg_of X G nCThrow,PySem.W.mg_of X G nCWait,mkWait,ioWait,kcWait,⟨yjC,i2,k2⟩,⟨yml,i3,k3⟩,⟨yjD,i4,k4⟩,⟨yiM,i5,k5⟩,⟨ykB,i6,k6⟩,⟨ymm,i7,k7⟩,⟨ymn,i8,k8⟩,⟨yjE,i9,k9⟩,⟨fs_Doing_held_in,i13,k13⟩,⟨fs_Doing_hold,i14,k14⟩,⟨fs_Doing_box_at,i15,k15⟩,⟨fs_Doing_do_reckon,i16,k16⟩,⟨fs_Doing_do_put,i17,k17⟩,⟨fs_Doing_sees_at,i18,k18⟩,⟨fs_Doing_take_own,i19,k19⟩,⟨fs_Doing_take_seen,i20,k20⟩,⟨yfv,i26,k26⟩,⟨yeR,i27,k27⟩,⟨yfJ,i28,k28⟩,⟨yfK,i29,k29⟩,⟨yhn,i30,k30⟩,⟨yeS,i31,k31⟩,⟨ygB,i32,k32⟩,⟨yer,i33,k33⟩,⟨cr_Doer,cc_Doer,cs_Doer,k12⟩,CL,⟨all_cons ⟨CL 0,naLog_stack⟩ (fun k hk=>absurd hk (by simp)),all_cons ⟨CL 0,naLog_last_seen⟩ (fun k hk=>absurd hk (by simp)),all_cons ⟨CL 1,naDoing_held⟩ (fun k hk=>absurd hk (by simp)),all_cons ⟨CL 1,naDoing_width⟩ (fun k hk=>absurd hk (by simp)),all_cons ⟨CL 1,naDoing_log⟩ (fun k hk=>absurd hk (by simp)),all_cons ⟨CL 1,naDoing_found⟩ (fun k hk=>absurd hk (by simp)),all_cons ⟨CL 3,naLet_slot⟩ (all_cons ⟨CL 4,naReckon_slot⟩ (all_cons ⟨CL 5,naTake_slot⟩ (all_cons ⟨CL 6,naPut_slot⟩ (all_cons ⟨CL 7,naIf_slot⟩ (all_cons ⟨CL 9,naTry_slot⟩ (all_cons ⟨CL 10,naThrow_slot⟩ (fun k hk=>absurd hk (by simp)))))))),all_cons ⟨CL 3,naLet_number⟩ (fun k hk=>absurd hk (by simp)),all_cons ⟨CL 4,naReckon_word⟩ (fun k hk=>absurd hk (by simp)),all_cons ⟨CL 4,naReckon_one⟩ (fun k hk=>absurd hk (by simp)),all_cons ⟨CL 4,naReckon_other⟩ (fun k hk=>absurd hk (by simp)),all_cons ⟨CL 5,naTake_place⟩ (all_cons ⟨CL 6,naPut_place⟩ (fun k hk=>absurd hk (by simp))),all_cons ⟨CL 7,naIf_parts⟩ (all_cons ⟨CL 8,naEither_parts⟩ (all_cons ⟨CL 9,naTry_parts⟩ (fun k hk=>absurd hk (by simp)))),all_cons ⟨CL 7,naIf_others⟩ (all_cons ⟨CL 8,naEither_others⟩ (all_cons ⟨CL 9,naTry_others⟩ (fun k hk=>absurd hk (by simp)))),all_cons ⟨CL 9,naTry_name⟩ (all_cons ⟨CL 10,naThrow_name⟩ (fun k hk=>absurd hk (by simp))),all_cons (fun H p dx fs e=>⟨_,_,TY3 H p dx fs e,rfl,yik⟩) (all_cons (fun H p dx fs e=>⟨_,_,TY3 H p dx fs e,rfl,yp ne3_4 hmReckon ty4 sb3_4⟩) (all_cons (fun H p dx fs e=>⟨_,_,TY3 H p dx fs e,rfl,yp ne3_5 hmTake ty5 sb3_5⟩) (all_cons (fun H p dx fs e=>⟨_,_,TY3 H p dx fs e,rfl,yp ne3_6 hmPut ty6 sb3_6⟩) (all_cons (fun H p dx fs e=>⟨_,_,TY3 H p dx fs e,rfl,yp ne3_7 hmIf ty7 sb3_7⟩) (all_cons (fun H p dx fs e=>⟨_,_,TY3 H p dx fs e,rfl,yp ne3_8 hmEither ty8 sb3_8⟩) (all_cons (fun H p dx fs e=>⟨_,_,TY3 H p dx fs e,rfl,yp ne3_9 hmTry ty9 sb3_9⟩) (all_cons (fun H p dx fs e=>⟨_,_,TY3 H p dx fs e,rfl,yp ne3_10 hmThrow ty10 sb3_10⟩) (all_cons (fun H p dx fs e=>⟨_,_,TY3 H p dx fs e,rfl,yp ne3_11 hmWait ty11 sb3_11⟩) (all_cons (fun H p dx fs e=>⟨_,_,TY4 H p dx fs e,rfl,yp ne4_3 hmLet ty3 sb4_3⟩) (all_cons (fun H p dx fs e=>⟨_,_,TY4 H p dx fs e,rfl,yik⟩) (all_cons (fun H p dx fs e=>⟨_,_,TY4 H p dx fs e,rfl,yp ne4_5 hmTake ty5 sb4_5⟩) (all_cons (fun H p dx fs e=>⟨_,_,TY4 H p dx fs e,rfl,yp ne4_6 hmPut ty6 sb4_6⟩) (all_cons (fun H p dx fs e=>⟨_,_,TY4 H p dx fs e,rfl,yp ne4_7 hmIf ty7 sb4_7⟩) (all_cons (fun H p dx fs e=>⟨_,_,TY4 H p dx fs e,rfl,yp ne4_8 hmEither ty8 sb4_8⟩) (all_cons (fun H p dx fs e=>⟨_,_,TY4 H p dx fs e,rfl,yp ne4_9 hmTry ty9 sb4_9⟩) (all_cons (fun H p dx fs e=>⟨_,_,TY4 H p dx fs e,rfl,yp ne4_10 hmThrow ty10 sb4_10⟩) (all_cons (fun H p dx fs e=>⟨_,_,TY4 H p dx fs e,rfl,yp ne4_11 hmWait ty11 sb4_11⟩) (all_cons (fun H p dx fs e=>⟨_,_,TY5 H p dx fs e,rfl,yp ne5_3 hmLet ty3 sb5_3⟩) (all_cons (fun H p dx fs e=>⟨_,_,TY5 H p dx fs e,rfl,yp ne5_4 hmReckon ty4 sb5_4⟩) (all_cons (fun H p dx fs e=>⟨_,_,TY5 H p dx fs e,rfl,yik⟩) (all_cons (fun H p dx fs e=>⟨_,_,TY5 H p dx fs e,rfl,yp ne5_6 hmPut ty6 sb5_6⟩) (all_cons (fun H p dx fs e=>⟨_,_,TY5 H p dx fs e,rfl,yp ne5_7 hmIf ty7 sb5_7⟩) (all_cons (fun H p dx fs e=>⟨_,_,TY5 H p dx fs e,rfl,yp ne5_8 hmEither ty8 sb5_8⟩) (all_cons (fun H p dx fs e=>⟨_,_,TY5 H p dx fs e,rfl,yp ne5_9 hmTry ty9 sb5_9⟩) (all_cons (fun H p dx fs e=>⟨_,_,TY5 H p dx fs e,rfl,yp ne5_10 hmThrow ty10 sb5_10⟩) (all_cons (fun H p dx fs e=>⟨_,_,TY5 H p dx fs e,rfl,yp ne5_11 hmWait ty11 sb5_11⟩) (all_cons (fun H p dx fs e=>⟨_,_,TY6 H p dx fs e,rfl,yp ne6_3 hmLet ty3 sb6_3⟩) (all_cons (fun H p dx fs e=>⟨_,_,TY6 H p dx fs e,rfl,yp ne6_4 hmReckon ty4 sb6_4⟩) (all_cons (fun H p dx fs e=>⟨_,_,TY6 H p dx fs e,rfl,yp ne6_5 hmTake ty5 sb6_5⟩) (all_cons (fun H p dx fs e=>⟨_,_,TY6 H p dx fs e,rfl,yik⟩) (all_cons (fun H p dx fs e=>⟨_,_,TY6 H p dx fs e,rfl,yp ne6_7 hmIf ty7 sb6_7⟩) (all_cons (fun H p dx fs e=>⟨_,_,TY6 H p dx fs e,rfl,yp ne6_8 hmEither ty8 sb6_8⟩) (all_cons (fun H p dx fs e=>⟨_,_,TY6 H p dx fs e,rfl,yp ne6_9 hmTry ty9 sb6_9⟩) (all_cons (fun H p dx fs e=>⟨_,_,TY6 H p dx fs e,rfl,yp ne6_10 hmThrow ty10 sb6_10⟩) (all_cons (fun H p dx fs e=>⟨_,_,TY6 H p dx fs e,rfl,yp ne6_11 hmWait ty11 sb6_11⟩) (all_cons (fun H p dx fs e=>⟨_,_,TY7 H p dx fs e,rfl,yp ne7_3 hmLet ty3 sb7_3⟩) (all_cons (fun H p dx fs e=>⟨_,_,TY7 H p dx fs e,rfl,yp ne7_4 hmReckon ty4 sb7_4⟩) (all_cons (fun H p dx fs e=>⟨_,_,TY7 H p dx fs e,rfl,yp ne7_5 hmTake ty5 sb7_5⟩) (all_cons (fun H p dx fs e=>⟨_,_,TY7 H p dx fs e,rfl,yp ne7_6 hmPut ty6 sb7_6⟩) (all_cons (fun H p dx fs e=>⟨_,_,TY7 H p dx fs e,rfl,yik⟩) (all_cons (fun H p dx fs e=>⟨_,_,TY7 H p dx fs e,rfl,yp ne7_8 hmEither ty8 sb7_8⟩) (all_cons (fun H p dx fs e=>⟨_,_,TY7 H p dx fs e,rfl,yp ne7_9 hmTry ty9 sb7_9⟩) (all_cons (fun H p dx fs e=>⟨_,_,TY7 H p dx fs e,rfl,yp ne7_10 hmThrow ty10 sb7_10⟩) (all_cons (fun H p dx fs e=>⟨_,_,TY7 H p dx fs e,rfl,yp ne7_11 hmWait ty11 sb7_11⟩) (all_cons (fun H p dx fs e=>⟨_,_,TY8 H p dx fs e,rfl,yp ne8_3 hmLet ty3 sb8_3⟩) (all_cons (fun H p dx fs e=>⟨_,_,TY8 H p dx fs e,rfl,yp ne8_4 hmReckon ty4 sb8_4⟩) (all_cons (fun H p dx fs e=>⟨_,_,TY8 H p dx fs e,rfl,yp ne8_5 hmTake ty5 sb8_5⟩) (all_cons (fun H p dx fs e=>⟨_,_,TY8 H p dx fs e,rfl,yp ne8_6 hmPut ty6 sb8_6⟩) (all_cons (fun H p dx fs e=>⟨_,_,TY8 H p dx fs e,rfl,yp ne8_7 hmIf ty7 sb8_7⟩) (all_cons (fun H p dx fs e=>⟨_,_,TY8 H p dx fs e,rfl,yik⟩) (all_cons (fun H p dx fs e=>⟨_,_,TY8 H p dx fs e,rfl,yp ne8_9 hmTry ty9 sb8_9⟩) (all_cons (fun H p dx fs e=>⟨_,_,TY8 H p dx fs e,rfl,yp ne8_10 hmThrow ty10 sb8_10⟩) (all_cons (fun H p dx fs e=>⟨_,_,TY8 H p dx fs e,rfl,yp ne8_11 hmWait ty11 sb8_11⟩) (all_cons (fun H p dx fs e=>⟨_,_,TY11 H p dx fs e,rfl,yp ne11_3 hmLet ty3 sb11_3⟩) (all_cons (fun H p dx fs e=>⟨_,_,TY11 H p dx fs e,rfl,yp ne11_4 hmReckon ty4 sb11_4⟩) (all_cons (fun H p dx fs e=>⟨_,_,TY11 H p dx fs e,rfl,yp ne11_5 hmTake ty5 sb11_5⟩) (all_cons (fun H p dx fs e=>⟨_,_,TY11 H p dx fs e,rfl,yp ne11_6 hmPut ty6 sb11_6⟩) (all_cons (fun H p dx fs e=>⟨_,_,TY11 H p dx fs e,rfl,yp ne11_7 hmIf ty7 sb11_7⟩) (all_cons (fun H p dx fs e=>⟨_,_,TY11 H p dx fs e,rfl,yp ne11_8 hmEither ty8 sb11_8⟩) (all_cons (fun H p dx fs e=>⟨_,_,TY11 H p dx fs e,rfl,yp ne11_9 hmTry ty9 sb11_9⟩) (all_cons (fun H p dx fs e=>⟨_,_,TY11 H p dx fs e,rfl,yp ne11_10 hmThrow ty10 sb11_10⟩) (all_cons (fun H p dx fs e=>⟨_,_,TY11 H p dx fs e,rfl,yik⟩) (fun k hk=>absurd hk (by simp [yR]))))))))))))))))))))))))))))))))))))))))))))))))))))))))))))))))⟩,PySem.W.mg_none_of X G z1,PySem.W.mg_none_of X G z2,PySem.W.mg_none_of X G z3,PySem.W.mg_none_of X G z4,PySem.W.mg_none_of X G z5,PySem.W.mg_none_of X G z6,PySem.W.mg_none_of X G z7,PySem.W.mg_none_of X G z8,PySem.W.mg_none_of X G z9,PySem.W.mg_none_of X G z10,PySem.W.mg_none_of X G z11,PySem.W.mg_none_of X G z12,PySem.W.mg_none_of X G z13,PySem.W.mg_of X G q1,⟨_,_,_,qk1,rfl,rfl,(by show 1<=sizeLine;decide),.cons ⟨_,rfl⟩ (.nil)⟩,PySem.W.mg_of X G q2,PySem.W.mg_of X G q3,⟨_,_,_,qk3,rfl,rfl,(by show 1<=sizeLine;decide),.cons ⟨_,rfl⟩ (.nil)⟩,PySem.W.mg_of X G q4⟩
 refine ⟨PySem.W.fnOf "law" "law" (yk ynk) (yj ynk) (yc ynk) .none kV51 dc51 pm51 an51 cd51 ct51,fun s v=>.of_eq rfl,fun base _ _=>?_⟩
 have yhZ:=yoU (P:=l.prog) (w:=w) (base:=base) T
 have yky:=ytR (P:=l.prog) (w:=w) (base:=base) T
 have yij:=yxh (P:=l.prog) (w:=w) (base:=base) T
 have yiL:=ytS (P:=l.prog) (w:=w) (base:=base) T
 have yhM:=yry (P:=l.prog) (w:=w) (base:=base) T
 have yjP:=yvn (P:=l.prog) (w:=w) (base:=base) T
 have yoX:=yxi (P:=l.prog) (w:=w) (base:=base) T
 have ylJ:=yxj (P:=l.prog) (w:=w) (base:=base) T
 have ykA:=ytT (P:=l.prog) (w:=w) (base:=base) T
 have G_reckon:=yzK (P:=l.prog) (w:=w) (base:=base) T
 have yeZ:=yrz (P:=l.prog) (w:=w) (base:=base) T
 have yG:=yoV (P:=l.prog) (w:=w) (base:=base) T yeZ
 have ybg:=ytU (P:=l.prog) (w:=w) (base:=base) T yeZ
 have ybn:=ypE (P:=l.prog) (w:=w) (base:=base) T yG
 have yhg:=yny (P:=l.prog) (w:=w) (base:=base) T yhZ
 have ygx:=ymh (P:=l.prog) (w:=w) (base:=base) T yG ybg G_reckon
 have yiK:=ypF (P:=l.prog) (w:=w) (base:=base) T ybn yG yky
 have yia:=yoW (P:=l.prog) (w:=w) (base:=base) T ybn yij
 have yhh:=ynz (P:=l.prog) (w:=w) (base:=base) T ybn ybg yij
 have ygw:=ymi (P:=l.prog) (w:=w) (base:=base) T ybn ybg yoX
 have yfY:=yoY (P:=l.prog) (w:=w) (base:=base) T
 have yeo:=ylG (P:=l.prog) (w:=w) (base:=base) T
 have yfs:=ynA (P:=l.prog) (w:=w) (base:=base) T
 have yfZ:=yoZ (P:=l.prog) (w:=w) (base:=base) T
 have ygO:=ypG (P:=l.prog) (w:=w) (base:=base) T
 have yen:=ylH (P:=l.prog) (w:=w) (base:=base) T
 have ygy:=ymj (P:=l.prog) (w:=w) (base:=base) T yhg
 have yfG:=ylI (P:=l.prog) (w:=w) (base:=base) T yia yhh ygw
 have ydF:=ykz (P:=l.prog) (w:=w) (base:=base) T yiK ygx ybg yfG
 have GR4:=yzL (P:=l.prog) (w:=w) (base:=base) T yG ybg ydF yiL yjP yhM 20
 have ybo:=GR4.yiQ
 have yiS:=GR4.yiR
 have yke:=GR4.ykd
 have yhN:=GR4.yhL
 have yjz:=GR4.yjy
 have yeQ:=GR4.yhi
 have G_alone:=yBT (P:=l.prog) (w:=w) (base:=base) T ygy ybo ylJ ykA
 have ych:=yrA (P:=l.prog) (w:=w) (base:=base) T
 have yds:=ytV (P:=l.prog) (w:=w) (base:=base) T
 have GR0:=yzM (P:=l.prog) (w:=w) (base:=base) T  5
 have ygp:=GR0.ynd
 have yhO:=yrB (P:=l.prog) (w:=w) (base:=base) T yds
 have yhP:=yrC (P:=l.prog) (w:=w) (base:=base) T
 have GR1:=yzN (P:=l.prog) (w:=w) (base:=base) T ych yhO yhP 5
 have yfH:=GR1.ypa
 have GR2:=yzO (P:=l.prog) (w:=w) (base:=base) T yen ygO yfY yfZ yeo yfs 7
 have yeb:=GR2.ypb
 have yjA:=yrD (P:=l.prog) (w:=w) (base:=base) T ych yds
 have yjB:=yrE (P:=l.prog) (w:=w) (base:=base) T ych yds
 have ymk:=yvo (P:=l.prog) (w:=w) (base:=base) T
 have yga:=ypc (P:=l.prog) (w:=w) (base:=base) T ymk
 have ygq:=yrF (P:=l.prog) (w:=w) (base:=base) T
 have GR3:=yzP (P:=l.prog) (w:=w) (base:=base) T yga 20
 have yhj:=GR3.ytW
 have ype:=GR3.ypd
 have G_law:=yIa (P:=l.prog) (w:=w) (base:=base) T ygp yjA yhj yeb ygq yjB yfH G_alone
 exact G_law.imp yIb
theorem walk {l:PySem.W.OpenLaw}{q:Program}{loose:List Str}{XP:(Str->Option Value)->Heap->Prop}{YP:World->Heap->Prop}{d:DefRec}{K:Params->PySem.W.Frag}(hn:l.most=some 63) (hdf:d.params.defaults=[])
  (hY:∀ (w:World) (h:Heap),YP w h->(K w.params).In h)
  (F:∀ (w:World) (mg:Str->Option Value) (fa:Addr) (h:Heap),(K w.params).In h->h.Ns mainGlobals mg->mg d.name=some (.ref fa) ->
   ∃ fd:FuncData,(∀ (s:Shared) (u:Value),BindsTo s fd ⟨[u],[]⟩ [("_law_script",u)])/\∀ base:Heap,(K w.params).In base->base.Ns mainGlobals mg->FnOk l.prog w (K w.params) mg base CX0 30 fa fd ["_law_script"] (yBU (K w.params))) :
  PySem.W.WalkO q loose XP YP l.row.toRowW d [] (fun f vs=>PySem.call f vs) :=
 L2.walk_of (n:=63) (k:=30) (x:="_law_script") (CX:=fun _=>CX0) (sp:=fun w=>yBU (K w.params)) hn (by decide) hdf ⟨rfl,by decide,by decide⟩ hY F (fun _ _ a ns hl _ hS=>⟨a,ns,rfl,hS,hl,fun _=>rfl⟩) fun _ _ _ _ _ z=>z
end My
namespace PySem.W.Fast
def tw14655905600638510158:=()
def tw12788851109178851427:=()
def tw17074010607830789167:=()
def tw668858759708007183:=()
def tw4149914543063158316:=()
def tw9550190836595507729:=()
def tw1938735068607638786:=()
def tw6918797748392761509:=()
def tw15037376874296803890:=()
def tw17864608282278167588:=()
def tw3608690816751522762:=()
def tw13560767679057926412:=()
def tw4511303010937769457:=()
def tw2955547822671755290:=()
def tw8709977195068759140:=()
def tw6545629723511002755:=()
def tw15993975921145329754:=()
def tw7208932499123152021:=()
def tw7836798684053094444:=()
def tw1968924940635557187:=()
def tw8447397407378665655:=()
def tw13769962257763928741:=()
def tw6792621703945783669:=()
def tw6776958883865018112:=()
def tw1090983871936644464:=()
def tw16626747433140877814:=()
def tw15731827574579349343:=()
def tw16966530776873416234:=()
def tw1232218402730134028:=()
def tw11764454334510432493:=()
def tw14856399027473032251:=()
def tw3511464974251371992:=()
def tw6555202367760929957:=()
def tw11283195758006831416:=()
def tw7022079540512186152:=()
def tw4636056421428697297:=()
def tw11409350615222879620:=()
def tw16923339715759609764:=()
def tw14485870900947948388:=()
def tw9898658926314290757:=()
def tw6790092128052957618:=()
def tw1655024390221553658:=()
def tw17497570494252449661:=()
def tw7545602667238814594:=()
def tw13799298971539249980:=()
def tw12949694704098879273:=()
def tw5068133439954885525:=()
def tw960468087400335642:=()
def tw6086099460722608610:=()
def tw13878326976023626421:=()
def tw17982982189563308644:=()
def tw8594527541779282541:=()
def tw6381959242976757077:=()
def tw14557313162312578824:=()
def tw145201766444246157:=()
def tw12003349472760795227:=()
def tw12514197968446588986:=()
def tw6754172703120315431:=()
def tw8315797211213535145:=()
def tw17994204082293943203:=()
def tw16747983792952569232:=()
def tw13235927610177441659:=()
def tw12452804867002128011:=()
def tw7488528873454537867:=()
def tw540490166663545178:=()
def tw18014576937943318660:=()
def tw3397386302054107264:=()
def tw13513164512343797485:=()
def tw10961769436105281153:=()
def tw7960537253590209239:=()
def tw11187830801238910759:=()
def tw15403558494056214644:=()
def tw6234631132526204759:=()
def tw5397588169133529617:=()
def tw11361067708364090248:=()
def tw17581637102399681238:=()
def tw5876895679956073337:=()
def tw15275166637429692250:=()
def tw9479312516557184607:=()
def tw10159100927449829657:=()
def tw4577869080810601901:=()
def tw4038056357601729753:=()
def tw8765437133514704221:=()
def tw8468281093481205040:=()
def tw11756277839287696529:=()
def tw10764541995810065344:=()
def tw3436953862144059079:=()
def tw3817594039766871295:=()
def tw7080621479093382253:=()
def tw15054170991956394985:=()
def tw17132652399284886070:=()
def tw8576636529680154810:=()
def tw12395364838680872960:=()
def tw6600015739598328018:=()
def tw7139277691145396463:=()
def tw2602269052164851318:=()
def tw11199784800338380981:=()
def tw15506603732405341600:=()
def tw14056424143516247211:=()
def tw12551533202488104139:=()
def tw13849298818932025171:=()
def tw16285876148038533987:=()
def tw6245122940097570243:=()
def tw6342118947254002212:=()
def tw4751644052751479298:=()
def tw12840687644559567540:=()
def tw11305559448100383213:=()
def tw4877137779439973519:=()
def tw7398755055906546659:=()
def tw1787871979225122887:=()
def tw4536386139133110527:=()
def tw17503953566282908216:=()
def tw13213266412722054008:=()
def tw4743952129735457313:=()
def tw6053107581666517395:=()
def tw4409134466338633090:=()
def tw3462152882125031596:=()
def tw1587667975372340978:=()
def tw8079422560224917744:=()
def tw12239772090196063228:=()
def tw16041941052833529028:=()
def tw17906300981061898955:=()
def tw12736634888876356428:=()
def tw16437793240416685508:=()
def tw4728046105460555355:=()
def tw14082272737157487674:=()
def tw17154412158143225604:=()
def tw2029689812666775130:=()
def tw16723571025903291551:=()
def tw17806985712925549694:=()
def tw13968325160769229605:=()
def tw8895384316457811855:=()
def tw13546354372098193830:=()
def tw15762777921943465284:=()
def tw2615375948658990717:=()
def tw17534682942451285554:=()
def tw11813089581914161853:=()
def tw5564812748086376974:=()
def tw5660625151027148281:=()
def tw450543687237408869:=()
def tw13879205753407282484:=()
def tw6772034008168011781:=()
def tw17865906408091691595:=()
def tw15099904129816750325:=()
def tw7451251496268653474:=()
def tw3220771508641843048:=()
def tw4153679199800925162:=()
def tw13041968879434364794:=()
def tw14983080033705388371:=()
def tw7333057596909298841:=()
def tw4404476322679621077:=()
def tw5149702830606785912:=()
def tw14234740218039513404:=()
def tw4518226999296844392:=()
def tw15445259676773882607:=()
def tw11572256528705296511:=()
def tw1487378852782459567:=()
def tw8583766862360493314:=()
def tw17292019464112158097:=()
def tw3388060060293074350:=()
def tw11944718158863608701:=()
def tw5077195692096041018:=()
def tw16105886328461199724:=()
def tw9278055872519190752:=()
def tw10372120013666851014:=()
def tw5352543917913435341:=()
def tw9095102799536783480:=()
def tw17289485591578338312:=()
def tw11515636720423088587:=()
def tw1773195778708150424:=()
def tw7173840919512363933:=()
def tw1532575427121213346:=()
def tw9574913124185905762:=()
def tw10866934094316320922:=()
def tw4393275108421418546:=()
def tw1596250266893363613:=()
def tw1360908654345883732:=()
def tw3937512085516579106:=()
def tw361589160502984327:=()
def tw12707043698414406222:=()
def tw15629197524434188383:=()
def tw2951056834868688910:=()
def tw5860537896970995058:=()
def tw14207774082232291367:=()
def tw11932253137359873051:=()
def tw10096578737074512137:=()
def tw13035561138016407373:=()
def tw14304801983754689815:=()
def tw4849067834830993050:=()
def tw12987129032841604708:=()
def tw1278599386274830927:=()
def tw13117044867870696913:=()
def tw13043202031181805295:=()
def tw14094711506368281219:=()
def tw14525238453186473779:=()
def tw4477946132832506967:=()
def tw15079438395054634995:=()
def tw10904103641652744828:=()
def tw804956405467918202:=()
def tw2414791112358477964:=()
def tw15924081306748721713:=()
def tw11623978592212726495:=()
def tw5996212123658154106:=()
def tw1704929553189058929:=()
def tw6944026902106431169:=()
def tw14607995298520515993:=()
def tw13558194014016544959:=()
def tw10584509075844107465:=()
def tw4640468821991992127:=()
def tw9887437286366996342:=()
def tw6576759899744658389:=()
def tw13894116265166686143:=()
def tw3359793172443584762:=()
def tw7632735969011269875:=()
def tw818811809778945219:=()
def tw13759306465185899197:=()
def tw12881788002438335447:=()
def tw3148219170960480657:=()
def tw9281654669137202447:=()
def tw17584133573637419382:=()
def tw4212514059180213741:=()
def tw17569264546757236080:=()
def tw771173605427565884:=()
def tw6897564610966630978:=()
def tw3049587069846726499:=()
def tw16848388882715395615:=()
def tw5298067030071526153:=()
def tw18047662647728228402:=()
def tw3507237758457864420:=()
def tw6885440381542436765:=()
def tw7802104606285921679:=()
def tw16531713548620547021:=()
def tw12834885038013955790:=()
def tw339628238478675272:=()
def tw18053515221284875410:=()
def tw10662930797979013518:=()
def tw1058342961852340262:=()
def tw10833237796077192914:=()
def tw8351971612162628766:=()
def tw17649320382737635553:=()
def tw7465339924732413998:=()
def tw15452154417390084121:=()
def tw284864259803264735:=()
def tw4111606142825447872:=()
def tw1588560389714365052:=()
def tw7190242527323267873:=()
def tw9338028816821509951:=()
def tw8244192267199164895:=()
def tw4054578352678640349:=()
def tw16044131440737339267:=()
def tw15043866252103536323:=()
def tw13248532040292023445:=()
def tw6399558758832491808:=()
def tw14475951071147574338:=()
def tw14981837036155559374:=()
def tw5179082528007607858:=()
def tw1438806200604073381:=()
def tw5025320397146205177:=()
def tw17365056282584897097:=()
def tw5730958783537867929:=()
def tw7004283120673571385:=()
def tw12660708055912644326:=()
def tw16014518940963946322:=()
def tw6259924460602305355:=()
def tw703900788077310131:=()
def tw18221234547233658033:=()
def tw7522515973816999764:=()
def tw8703825765166078808:=()
def tw6076014602065386432:=()
def tw6254661099496140639:=()
def tw18076872566799485212:=()
def tw2973270556200442995:=()
def tw14906073485529295683:=()
def tw4065621307218742176:=()
def tw12778777063741051694:=()
def tw10457915493811819650:=()
def tw10310914436699316682:=()
def tw12785162575188233363:=()
def tw10501567452597439865:=()
def tw2047191092232639959:=()
def tw9264658505403363479:=()
def tw15432631259618197719:=()
def tw14192511188689193679:=()
def tw9156686537366752219:=()
def tw17019372721826483651:=()
def tw13329106135734313765:=()
def tw5376304276440303275:=()
def tw13568219774654096020:=()
def tw9723209264348120687:=()
def tw4568873669198900872:=()
def tw2450186006634285933:=()
def tw13280963083959575635:=()
def tw5021512943408046:=()
def tw156425443521865667:=()
def tw5796843446057735971:=()
def tw515819711231354774:=()
def tw17484538668660166170:=()
def tw15000350870171233126:=()
def tw3123570677351526409:=()
def tw5880986569811342441:=()
def tw9676643456600330468:=()
def tw2338349702205482118:=()
def tw17178752482900519801:=()
def tw8457149153185009533:=()
def tw8142467990314198683:=()
def tw13285506472548584682:=()
def tw7958658222677645706:=()
def tw14723278319730513136:=()
def tw11296844705672578219:=()
def tw18292408587795797566:=()
def tw5172029880025304543:=()
def tw16269436805807944061:=()
def tw8130970021398726608:=()
def tw9769930885158304430:=()
def tw8787711480651358365:=()
def tw388654623164514443:=()
def tw4733767249647153098:=()
def tw1338239202909769769:=()
def tw9482305881989886293:=()
def tw2512730703944775550:=()
def tw3599537380269554941:=()
def tw3165654137076780744:=()
def tw2876300993017245732:=()
def tw16708631879114298033:=()
def tw16202059827365877869:=()
def tw9037278208050028381:=()
def tw4406835913644346056:=()
def tw9978573105351034451:=()
def tw14702018302607123932:=()
def tw14921722617746698072:=()
def tw15841011610652062844:=()
def tw17131039509168538845:=()
def tw7382837410034713581:=()
def tw16391037999537438011:=()
def tw12650038600437710159:=()
def tw7941441524819757238:=()
def tw14760600147310397589:=()
def tw14401527885074385804:=()
def tw1351360434666488800:=()
def tw1037462597848644367:=()
def tw2343471101397317417:=()
def tw6711008884387205075:=()
def tw4631078580632135398:=()
def tw14052210618438240107:=()
def tw17801683964959387619:=()
def tw8043900829689559813:=()
def tw7035416467514974490:=()
def tw15234035449872782299:=()
def tw4004001748723495151:=()
def tw5205681000076951034:=()
def tw7665067235151405531:=()
def tw4614564762741260490:=()
def tw9035344742253124690:=()
def tw18391553772661265183:=()
def tw19728092454588690:=()
def tw14473076883249688597:=()
def tw10870988279490963184:=()
def tw2243242033234305071:=()
def tw11762944907208250483:=()
def tw16212002080245866418:=()
def tw11819765135702176213:=()
def tw15548843760168065985:=()
def tw13692396761712512762:=()
def tw11170342543407901805:=()
def tw430677945422577655:=()
def tw20964862950457407:=()
def tw2828068034428688731:=()
def tw5374113059401008146:=()
def tw835755847239938551:=()
def tw15103248874831942844:=()
def tw9723886430937991972:=()
def tw9046264654283730353:=()
def tw17017979450237353033:=()
def tw8013279986127962041:=()
def tw1974381972621652897:=()
def tw15574721143818373664:=()
def tw17456738889053926888:=()
def tw2678825790947637416:=()
def tw4795734105422767043:=()
def tw10609124225123537154:=()
def tw12409447716428435347:=()
def tw2561218004458511974:=()
def tw15577738685113663163:=()
def tw7998779328917887399:=()
def tw1363114708620811360:=()
def tw17353679691443975162:=()
def tw16362148485713261186:=()
def tw4668871863204962169:=()
def tw4987586266342723573:=()
def tw5513728524815401942:=()
def tw11496867780584507434:=()
def tw441887732392535262:=()
def tw15201525080037366506:=()
def tw5348430224396016474:=()
def tw14258371278088169666:=()
def tw15572663160779653267:=()
def tw6189645648027153821:=()
def tw5975720250885843862:=()
def tw14054279331642553051:=()
def tw14710862903664088786:=()
def tw5874363445288730928:=()
def tw15584897700001143615:=()
def tw15379445896026106898:=()
def tw5620134179519424036:=()
def tw9181105571875924965:=()
def tw14806054561455135597:=()
def tw3488691731380682391:=()
def tw374029854542826776:=()
def tw10624666022659757862:=()
def tw17179603426928504511:=()
def tw2380559695579447007:=()
def tw3878326240880837095:=()
def tw16332390162233745048:=()
def tw9413744907617006585:=()
def tw9443017110757045025:=()
def tw5105280797728546873:=()
def tw13071913837077650944:=()
def tw14758442254956673820:=()
def tw14386759898586569162:=()
def tw6229691741758611727:=()
def tw2850052523893984837:=()
def tw5441384928388370686:=()
def tw11179087560158098292:=()
def tw8853442423798698026:=()
def tw7605008390665344526:=()
def tw6988681575844922121:=()
def tw11933583791363951961:=()
def tw16189646337771647994:=()
def tw15542775704804129406:=()
def tw12370921265639920109:=()
def tw18294597737016495149:=()
def tw9815113945141395731:=()
def tw10327354212303999048:=()
def tw10597094841717938267:=()
def tw1376958345103677149:=()
def tw1753350057879888362:=()
def tw10866267027736589963:=()
def tw16109727993008014691:=()
def tw14428598084676760428:=()
def tw11152441877897127000:=()
def tw986149569850884052:=()
def tw9540814128161547878:=()
def tw10361889680756087737:=()
def tw18405524202600394606:=()
def tw17242310005329808336:=()
def tw9544833928593642961:=()
def tw2148749797647879465:=()
def tw12736241126450857777:=()
def tw10205349699459905159:=()
def tw12866470648391856144:=()
def tw4640373817075650385:=()
def tw9795054080290827491:=()
def tw17165372977594917505:=()
def tw2443915989887064698:=()
def tw12533284973289346069:=()
def tw927750870886087644:=()
def tw5138889284653431247:=()
def tw12533648679347421346:=()
def tw5317292538951631273:=()
def tw1643231748056821173:=()
def tw16773932060719481611:=()
def tw3700829160725100499:=()
def tw8624815553311063952:=()
def tw2816635101302316114:=()
def tw6109464307932366184:=()
def tw7925397117055193195:=()
def tw5961444665880873838:=()
def tw7331080069860484322:=()
def tw11788849889257203565:=()
def tw13652098125282612777:=()
def tw13877582881977184554:=()
def tw11244255515955599776:=()
def tw5152446820138076154:=()
def tw6403520798328251670:=()
def tw18441986251017122677:=()
def tw9368772939099366165:=()
def tw7903067302161716225:=()
def tw14447928868011156741:=()
def tw14334486949118701408:=()
def tw1897434323602737225:=()
def tw15367649860281667621:=()
def tw15370667437772766804:=()
def tw1192537982324211804:=()
def tw16837998551223386643:=()
def tw6593306480968909797:=()
def tw4277711744280556358:=()
def tw9207978722017075835:=()
def tw1229041960294363234:=()
def tw15296249837265271866:=()
def tw255192475491409495:=()
def tw11845277330622945941:=()
def tw15689940558297306385:=()
def tw2837265323881728392:=()
def tw6637810867872947470:=()
def tw625526641493064211:=()
def tw164291376681628503:=()
def tw71339873169771646:=()
def tw3134205558816947383:=()
def tw13321790773231965369:=()
def tw11574034372909463135:=()
def tw17147145755124021647:=()
def tw12439646043312189101:=()
def tw10006417552420319728:=()
def tw17113451007966840166:=()
def tw7115987614397780742:=()
def tw1770237537065048916:=()
def tw9798570926219589908:=()
def tw8105550348481759863:=()
def tw5479423997222434613:=()
def tw16309565255858193061:=()
def tw9950143506328583403:=()
def tw1754787072037129328:=()
def tw16249948529393094603:=()
def tw13190346471832774375:=()
def tw10831161398393656372:=()
def tw16729169920365687206:=()
def tw11565421742683967252:=()
def tw14743065436448686371:=()
def tw2719656099523401441:=()
def tw7245843006605042627:=()
def tw1396531263531966968:=()
def tw12455624707988598096:=()
def tw8773149788764911554:=()
def tw2302830935755070588:=()
def tw10484482866588343623:=()
def tw11093421485114690719:=()
def tw3049564954909750014:=()
def tw6327345807120059023:=()
def tw6504931815726781852:=()
def tw389497365722431508:=()
def tw9367294532916139609:=()
def tw1915753967940745768:=()
def tw5238272514738205099:=()
def tw2902748757598520474:=()
def tw2478884536616052858:=()
def tw16434647598600761738:=()
def tw18017294226169116765:=()
def tw13523666341702404765:=()
def tw16330732361563179819:=()
def tw11637433136924280566:=()
def tw14899982249681197642:=()
def tw117126402148862523:=()
def tw14465432382957704784:=()
def tw11527701440067111651:=()
def tw15780807883574366537:=()
def tw8283900620000969748:=()
def tw350636268971355874:=()
def tw13941549630594580961:=()
def tw12183384926642254156:=()
def tw13042690109371089262:=()
def tw17447614914286705320:=()
def tw10172432896736465636:=()
def tw1622899273706799994:=()
def tw4441446732714454158:=()
def tw4388119021653340106:=()
def tw15345586585916617552:=()
def tw4162900505770878538:=()
def tw1138234306493407523:=()
def tw10046303465104802927:=()
def tw643333121834665816:=()
def tw8488582425753296754:=()
def tw18145532944207451014:=()
def tw4374490143970336529:=()
def tw4306994526411794987:=()
def tw12469400330654167206:=()
def tw1008722318194147989:=()
def tw10984756962991583564:=()
def tw8662414591391239785:=()
def tw16564535776660627669:=()
def tw9600359337370756230:=()
def tw8402464492374174925:=()
def tw7644704754075234964:=()
def tw1400412970538371716:=()
def tw16418985053584334531:=()
def tw3771580696473266543:=()
def tw2724949609109565955:=()
def tw8666332316224349990:=()
def tw16275868756473415129:=()
def tw15231734138725724664:=()
def tw7268291732668783934:=()
def tw5156921979758272012:=()
def tw17038454940487788147:=()
def tw15251144444937730673:=()
def tw7779447231807926319:=()
def tw10038035580399836090:=()
def tw11422629048252374210:=()
def tw7199043823944183523:=()
def tw4215827624921223891:=()
def tw17566812197432668082:=()
def tw15510899613142956075:=()
def tw14666320209225127770:=()
def tw14129168073250774022:=()
def tw8820714021854429374:=()
def tw1584368361229698550:=()
def tw17315018888174533601:=()
def tw15575849276381487657:=()
def tw444061369564015857:=()
def tw3507537203662318918:=()
def tw12306628253476568186:=()
def tw8210555398658041096:=()
def tw17175497301322431636:=()
def tw3500308371459066044:=()
def tw5699620889176536406:=()
def tw6962856506113230454:=()
def tw7857542282324667105:=()
def tw2078682219629059374:=()
def tw16556842749581367591:=()
def tw10301396785385472921:=()
def tw15507659646734067917:=()
def tw6403116592647435988:=()
def tw3779558664760619587:=()
def tw13456665270279059931:=()
def tw6178644983293190288:=()
def tw9877838453712074359:=()
def tw13364336520180788365:=()
def tw6988667856322679819:=()
def tw7057353710985082654:=()
def tw791411790635587805:=()
def tw11288298503710954636:=()
def tw10912125963569096332:=()
def tw16409045715191273614:=()
def tw15712026195174260562:=()
def tw8513674888385525410:=()
def tw9098533062435301535:=()
def tw172732652076140612:=()
def tw5176394823522964267:=()
def tw14612294943068001534:=()
def tw17225666360251758833:=()
def tw16818562883316985584:=()
def tw9479791533050156529:=()
def tw12069356467795974158:=()
def tw13105864951727092308:=()
def tw15210026482828266276:=()
def tw15223466276538090461:=()
def tw1286563661972525487:=()
def tw8954301078212881946:=()
def tw9668375923762464080:=()
def tw12900305889426735365:=()
def tw8996539105785373432:=()
def tw3769036021796120383:=()
def tw10397125593282574343:=()
def tw15281966861386056104:=()
def tw14879433940603949431:=()
def tw8126696684065693060:=()
def tw4630388741010798167:=()
def tw8851812821870247682:=()
def tw13173924667906077666:=()
def tw11718229567905870935:=()
def tw1913312185281998408:=()
def tw13232312741608701980:=()
def tw14829149242999731709:=()
def tw12733819256897623221:=()
def tw10551470926246153301:=()
def tw10890382848935642051:=()
def tw3644062161657497219:=()
def tw6169548478333677530:=()
def tw16477960002568185422:=()
def tw5905098512214984168:=()
def tw3526209103248309269:=()
def tw15004714473286315646:=()
def tw18144450321438461170:=()
def tw3238065249574989441:=()
def tw11337277648315440603:=()
def tw15718902942829390656:=()
def tw2682888673561936986:=()
def tw17664828853572588519:=()
def tw12847287254485384696:=()
def tw8111127821029653043:=()
def tw1455031261966572655:=()
end PySem.W.Fast
open PySem PySem.W PyProof.Rows
set_option maxRecDepth 100000 in
set_option maxHeartbeats 0 in
theorem PySem.Challenge.cw_retryhall_k17_alone_either_holds : PySem.Challenge.rw_retryhall_k17_alone_either.Holds := by
 w_on;o_law;k_head;(case hw=>w_witness2)
 k_fill
 refine My.walk (l:=PySem.Challenge.rw_retryhall_k17_alone_either) rfl rfl (fun w h Y=>PySem.W.kIn_of Y) ?F
 case F =>
  intro w mg fa h KX G hmg
  refine' My.all_mk KX G hmg ?nCLog ?nCDoing ?nCDoer ?nCLet ?nCReckon ?nCTake ?nCPut ?nCIf ?nCEither ?nCTry ?nCThrow ?nCWait ?yhk ?yfI ?ygz ?yhl ?yft ?ygA ?yhm ?yib ?yfu ?yjC ?yml ?yjD ?yiM ?ykB ?ymm ?ymn ?yjE ?fs_Doing_held_in ?fs_Doing_hold ?fs_Doing_box_at ?fs_Doing_do_reckon ?fs_Doing_do_put ?fs_Doing_sees_at ?fs_Doing_take_own ?fs_Doing_take_seen ?yfv ?yeR ?yfJ ?yfK ?yhn ?yeS ?ygB ?yer ?cr_Doer ?cc_Doer ?cs_Doer ?i1 ?l1 ?c1 ?k1 ?i2 ?l2 ?c2 ?k2 ?i3 ?l3 ?c3 ?k3 ?i4 ?l4 ?c4 ?k4 ?i5 ?l5 ?c5 ?k5 ?i6 ?l6 ?c6 ?k6 ?i7 ?l7 ?c7 ?k7 ?i8 ?l8 ?c8 ?k8 ?i9 ?l9 ?c9 ?k9 ?a10 ?l10 ?c10 ?k10 ?a11 ?l11 ?c11 ?k11 ?i12 ?l12 ?c12 ?k12 ?i13 ?l13 ?c13 ?k13 ?i14 ?l14 ?c14 ?k14 ?i15 ?l15 ?c15 ?k15 ?i16 ?l16 ?c16 ?k16 ?i17 ?l17 ?c17 ?k17 ?i18 ?l18 ?c18 ?k18 ?i19 ?l19 ?c19 ?k19 ?i20 ?l20 ?c20 ?k20 ?i21 ?l21 ?c21 ?k21 ?i22 ?l22 ?c22 ?k22 ?i23 ?l23 ?c23 ?k23 ?i24 ?l24 ?c24 ?k24 ?i25 ?l25 ?c25 ?k25 ?i26 ?l26 ?c26 ?k26 ?i27 ?l27 ?c27 ?k27 ?i28 ?l28 ?c28 ?k28 ?i29 ?l29 ?c29 ?k29 ?i30 ?l30 ?c30 ?k30 ?i31 ?l31 ?c31 ?k31 ?i32 ?l32 ?c32 ?k32 ?i33 ?l33 ?c33 ?k33 ?a34 ?l34 ?c34 ?k34 ?i35 ?l35 ?c35 ?k35 ?i36 ?l36 ?c36 ?k36 ?a37 ?l37 ?c37 ?k37 ?a38 ?l38 ?c38 ?k38 ?a39 ?l39 ?c39 ?k39 ?a40 ?l40 ?c40 ?k40 ?a41 ?l41 ?c41 ?k41 ?a42 ?l42 ?c42 ?k42 ?a43 ?l43 ?c43 ?k43 ?a44 ?l44 ?c44 ?k44 ?a45 ?l45 ?c45 ?k45 ?a46 ?l46 ?c46 ?k46 ?a47 ?l47 ?c47 ?k47 ?a48 ?l48 ?c48 ?k48 ?a49 ?l49 ?c49 ?k49 ?a50 ?l50 ?c50 ?k50 ?a51 ?l51 ?c51 ?k51 ?pgLog ?hdLog ?poLog ?saLog ?mkLog ?kcLog ?pgDoing ?hdDoing ?poDoing ?saDoing ?mkDoing ?kcDoing ?pgDoer ?hdDoer ?poDoer ?saDoer ?mkDoer ?kcDoer ?pgLet ?hdLet ?poLet ?saLet ?mkLet ?kcLet ?haLet ?hmLet ?pgReckon ?hdReckon ?poReckon ?saReckon ?mkReckon ?kcReckon ?haReckon ?hmReckon ?pgTake ?hdTake ?poTake ?saTake ?mkTake ?kcTake ?haTake ?hmTake ?pgPut ?hdPut ?poPut ?saPut ?mkPut ?kcPut ?haPut ?hmPut ?pgIf ?hdIf ?poIf ?saIf ?mkIf ?kcIf ?haIf ?hmIf ?pgEither ?hdEither ?poEither ?saEither ?mkEither ?kcEither ?haEither ?hmEither ?pgTry ?hdTry ?poTry ?saTry ?haTry ?hmTry ?pgThrow ?hdThrow ?poThrow ?saThrow ?haThrow ?hmThrow ?pgWait ?hdWait ?poWait ?saWait ?mkWait ?kcWait ?ioWait ?haWait ?hmWait ?naLog_stack ?naLog_last_seen ?naDoing_held ?naDoing_width ?naDoing_log ?naDoing_found ?naLet_slot ?naReckon_slot ?naTake_slot ?naPut_slot ?naIf_slot ?naTry_slot ?naThrow_slot ?naLet_number ?naReckon_word ?naReckon_one ?naReckon_other ?naTake_place ?naPut_place ?naIf_parts ?naEither_parts ?naTry_parts ?naIf_others ?naEither_others ?naTry_others ?naTry_name ?naThrow_name ?sb3_4 ?ne3_4 ?sb3_5 ?ne3_5 ?sb3_6 ?ne3_6 ?sb3_7 ?ne3_7 ?sb3_8 ?ne3_8 ?sb3_9 ?ne3_9 ?sb3_10 ?ne3_10 ?sb3_11 ?ne3_11 ?sb4_3 ?ne4_3 ?sb4_5 ?ne4_5 ?sb4_6 ?ne4_6 ?sb4_7 ?ne4_7 ?sb4_8 ?ne4_8 ?sb4_9 ?ne4_9 ?sb4_10 ?ne4_10 ?sb4_11 ?ne4_11 ?sb5_3 ?ne5_3 ?sb5_4 ?ne5_4 ?sb5_6 ?ne5_6 ?sb5_7 ?ne5_7 ?sb5_8 ?ne5_8 ?sb5_9 ?ne5_9 ?sb5_10 ?ne5_10 ?sb5_11 ?ne5_11 ?sb6_3 ?ne6_3 ?sb6_4 ?ne6_4 ?sb6_5 ?ne6_5 ?sb6_7 ?ne6_7 ?sb6_8 ?ne6_8 ?sb6_9 ?ne6_9 ?sb6_10 ?ne6_10 ?sb6_11 ?ne6_11 ?sb7_3 ?ne7_3 ?sb7_4 ?ne7_4 ?sb7_5 ?ne7_5 ?sb7_6 ?ne7_6 ?sb7_8 ?ne7_8 ?sb7_9 ?ne7_9 ?sb7_10 ?ne7_10 ?sb7_11 ?ne7_11 ?sb8_3 ?ne8_3 ?sb8_4 ?ne8_4 ?sb8_5 ?ne8_5 ?sb8_6 ?ne8_6 ?sb8_7 ?ne8_7 ?sb8_9 ?ne8_9 ?sb8_10 ?ne8_10 ?sb8_11 ?ne8_11 ?sb11_3 ?ne11_3 ?sb11_4 ?ne11_4 ?sb11_5 ?ne11_5 ?sb11_6 ?ne11_6 ?sb11_7 ?ne11_7 ?sb11_8 ?ne11_8 ?sb11_9 ?ne11_9 ?sb11_10 ?ne11_10 ?ty3 ?ty4 ?ty5 ?ty6 ?ty7 ?ty8 ?ty9 ?ty10 ?ty11 ?hn ?htk ?z1 ?z2 ?z3 ?z4 ?z5 ?z6 ?z7 ?z8 ?z9 ?z10 ?z11 ?z12 ?z13 ?q1 ?qk1 ?q2 ?q3 ?qk3 ?q4
  (case nCLog=>k_is)
  (case nCDoing=>k_is)
  (case nCDoer=>k_is)
  (case nCLet=>k_is)
  (case nCReckon=>k_is)
  (case nCTake=>k_is)
  (case nCPut=>k_is)
  (case nCIf=>k_is)
  (case nCEither=>k_is)
  (case nCTry=>k_is)
  (case nCThrow=>k_is)
  (case nCWait=>k_is)
  (case yhk=>k_is)
  (case yfI=>k_is)
  (case ygz=>k_is)
  (case yhl=>k_is)
  (case yft=>k_is)
  (case ygA=>k_is)
  (case yhm=>k_is)
  (case yib=>k_is)
  (case yfu=>k_is)
  (case yjC=>k_is)
  (case yml=>k_is)
  (case yjD=>k_is)
  (case yiM=>k_is)
  (case ykB=>k_is)
  (case ymm=>k_is)
  (case ymn=>k_is)
  (case yjE=>k_is)
  (case fs_Doing_held_in=>k_is)
  (case fs_Doing_hold=>k_is)
  (case fs_Doing_box_at=>k_is)
  (case fs_Doing_do_reckon=>k_is)
  (case fs_Doing_do_put=>k_is)
  (case fs_Doing_sees_at=>k_is)
  (case fs_Doing_take_own=>k_is)
  (case fs_Doing_take_seen=>k_is)
  (case yfv=>k_is)
  (case yeR=>k_is)
  (case yfJ=>k_is)
  (case yfK=>k_is)
  (case yhn=>k_is)
  (case yeS=>k_is)
  (case ygB=>k_is)
  (case yer=>k_is)
  (case cr_Doer=>k_is)
  (case cc_Doer=>k_is)
  (case cs_Doer=>k_is)
  (case i1=>k_is)
  (case l1=>k_is)
  (case c1=>k_is)
  (case k1=>k_is)
  (case i2=>k_is)
  (case l2=>k_is)
  (case c2=>k_is)
  (case k2=>k_is)
  (case i3=>k_is)
  (case l3=>k_is)
  (case c3=>k_is)
  (case k3=>k_is)
  (case i4=>k_is)
  (case l4=>k_is)
  (case c4=>k_is)
  (case k4=>k_is)
  (case i5=>k_is)
  (case l5=>k_is)
  (case c5=>k_is)
  (case k5=>k_is)
  (case i6=>k_is)
  (case l6=>k_is)
  (case c6=>k_is)
  (case k6=>k_is)
  (case i7=>k_is)
  (case l7=>k_is)
  (case c7=>k_is)
  (case k7=>k_is)
  (case i8=>k_is)
  (case l8=>k_is)
  (case c8=>k_is)
  (case k8=>k_is)
  (case i9=>k_is)
  (case l9=>k_is)
  (case c9=>k_is)
  (case k9=>k_is)
  (case a10=>k_is)
  (case l10=>k_is)
  (case c10=>k_is)
  (case k10=>k_is)
  (case a11=>k_is)
  (case l11=>k_is)
  (case c11=>k_is)
  (case k11=>k_is)
  (case i12=>k_is)
  (case l12=>k_is)
  (case c12=>k_is)
  (case k12=>k_is)
  (case i13=>k_is)
  (case l13=>k_is)
  (case c13=>k_is)
  (case k13=>k_is)
  (case i14=>k_is)
  (case l14=>k_is)
  (case c14=>k_is)
  (case k14=>k_is)
  (case i15=>k_is)
  (case l15=>k_is)
  (case c15=>k_is)
  (case k15=>k_is)
  (case i16=>k_is)
  (case l16=>k_is)
  (case c16=>k_is)
  (case k16=>k_is)
  (case i17=>k_is)
  (case l17=>k_is)
  (case c17=>k_is)
  (case k17=>k_is)
  (case i18=>k_is)
  (case l18=>k_is)
  (case c18=>k_is)
  (case k18=>k_is)
  (case i19=>k_is)
  (case l19=>k_is)
  (case c19=>k_is)
  (case k19=>k_is)
  (case i20=>k_is)
  (case l20=>k_is)
  (case c20=>k_is)
  (case k20=>k_is)
  (case i21=>k_is)
  (case l21=>k_is)
  (case c21=>k_is)
  (case k21=>k_is)
  (case i22=>k_is)
  (case l22=>k_is)
  (case c22=>k_is)
  (case k22=>k_is)
  (case i23=>k_is)
  (case l23=>k_is)
  (case c23=>k_is)
  (case k23=>k_is)
  (case i24=>k_is)
  (case l24=>k_is)
  (case c24=>k_is)
  (case k24=>k_is)
  (case i25=>k_is)
  (case l25=>k_is)
  (case c25=>k_is)
  (case k25=>k_is)
  (case i26=>k_is)
  (case l26=>k_is)
  (case c26=>k_is)
  (case k26=>k_is)
  (case i27=>k_is)
  (case l27=>k_is)
  (case c27=>k_is)
  (case k27=>k_is)
  (case i28=>k_is)
  (case l28=>k_is)
  (case c28=>k_is)
  (case k28=>k_is)
  (case i29=>k_is)
  (case l29=>k_is)
  (case c29=>k_is)
  (case k29=>k_is)
  (case i30=>k_is)
  (case l30=>k_is)
  (case c30=>k_is)
  (case k30=>k_is)
  (case i31=>k_is)
  (case l31=>k_is)
  (case c31=>k_is)
  (case k31=>k_is)
  (case i32=>k_is)
  (case l32=>k_is)
  (case c32=>k_is)
  (case k32=>k_is)
  (case i33=>k_is)
  (case l33=>k_is)
  (case c33=>k_is)
  (case k33=>k_is)
  (case a34=>k_is)
  (case l34=>k_is)
  (case c34=>k_is)
  (case k34=>k_is)
  (case i35=>k_is)
  (case l35=>k_is)
  (case c35=>k_is)
  (case k35=>k_is)
  (case i36=>k_is)
  (case l36=>k_is)
  (case c36=>k_is)
  (case k36=>k_is)
  (case a37=>k_is)
  (case l37=>k_is)
  (case c37=>k_is)
  (case k37=>k_is)
  (case a38=>k_is)
  (case l38=>k_is)
  (case c38=>k_is)
  (case k38=>k_is)
  (case a39=>k_is)
  (case l39=>k_is)
  (case c39=>k_is)
  (case k39=>k_is)
  (case a40=>k_is)
  (case l40=>k_is)
  (case c40=>k_is)
  (case k40=>k_is)
  (case a41=>k_is)
  (case l41=>k_is)
  (case c41=>k_is)
  (case k41=>k_is)
  (case a42=>k_is)
  (case l42=>k_is)
  (case c42=>k_is)
  (case k42=>k_is)
  (case a43=>k_is)
  (case l43=>k_is)
  (case c43=>k_is)
  (case k43=>k_is)
  (case a44=>k_is)
  (case l44=>k_is)
  (case c44=>k_is)
  (case k44=>k_is)
  (case a45=>k_is)
  (case l45=>k_is)
  (case c45=>k_is)
  (case k45=>k_is)
  (case a46=>k_is)
  (case l46=>k_is)
  (case c46=>k_is)
  (case k46=>k_is)
  (case a47=>k_is)
  (case l47=>k_is)
  (case c47=>k_is)
  (case k47=>k_is)
  (case a48=>k_is)
  (case l48=>k_is)
  (case c48=>k_is)
  (case k48=>k_is)
  (case a49=>k_is)
  (case l49=>k_is)
  (case c49=>k_is)
  (case k49=>k_is)
  (case a50=>k_is)
  (case l50=>k_is)
  (case c50=>k_is)
  (case k50=>k_is)
  (case a51=>k_is)
  (case l51=>k_is)
  (case c51=>k_is)
  (case k51=>k_is)
  (case pgLog=>k_is)
  (case hdLog=>k_is)
  (case poLog=>k_is)
  (case saLog=>k_is)
  (case mkLog=>k_is)
  (case kcLog=>k_is)
  (case pgDoing=>k_is)
  (case hdDoing=>k_is)
  (case poDoing=>k_is)
  (case saDoing=>k_is)
  (case mkDoing=>k_is)
  (case kcDoing=>k_is)
  (case pgDoer=>k_is)
  (case hdDoer=>k_is)
  (case poDoer=>k_is)
  (case saDoer=>k_is)
  (case mkDoer=>k_is)
  (case kcDoer=>k_is)
  (case pgLet=>k_is)
  (case hdLet=>k_is)
  (case poLet=>k_is)
  (case saLet=>k_is)
  (case mkLet=>k_is)
  (case kcLet=>k_is)
  (case haLet=>k_is)
  (case hmLet=>k_is)
  (case pgReckon=>k_is)
  (case hdReckon=>k_is)
  (case poReckon=>k_is)
  (case saReckon=>k_is)
  (case mkReckon=>k_is)
  (case kcReckon=>k_is)
  (case haReckon=>k_is)
  (case hmReckon=>k_is)
  (case pgTake=>k_is)
  (case hdTake=>k_is)
  (case poTake=>k_is)
  (case saTake=>k_is)
  (case mkTake=>k_is)
  (case kcTake=>k_is)
  (case haTake=>k_is)
  (case hmTake=>k_is)
  (case pgPut=>k_is)
  (case hdPut=>k_is)
  (case poPut=>k_is)
  (case saPut=>k_is)
  (case mkPut=>k_is)
  (case kcPut=>k_is)
  (case haPut=>k_is)
  (case hmPut=>k_is)
  (case pgIf=>k_is)
  (case hdIf=>k_is)
  (case poIf=>k_is)
  (case saIf=>k_is)
  (case mkIf=>k_is)
  (case kcIf=>k_is)
  (case haIf=>k_is)
  (case hmIf=>k_is)
  (case pgEither=>k_is)
  (case hdEither=>k_is)
  (case poEither=>k_is)
  (case saEither=>k_is)
  (case mkEither=>k_is)
  (case kcEither=>k_is)
  (case haEither=>k_is)
  (case hmEither=>k_is)
  (case pgTry=>k_is)
  (case hdTry=>k_is)
  (case poTry=>k_is)
  (case saTry=>k_is)
  (case haTry=>k_is)
  (case hmTry=>k_is)
  (case pgThrow=>k_is)
  (case hdThrow=>k_is)
  (case poThrow=>k_is)
  (case saThrow=>k_is)
  (case haThrow=>k_is)
  (case hmThrow=>k_is)
  (case pgWait=>k_is)
  (case hdWait=>k_is)
  (case poWait=>k_is)
  (case saWait=>k_is)
  (case mkWait=>k_is)
  (case kcWait=>k_is)
  (case ioWait=>k_is)
  (case haWait=>k_is)
  (case hmWait=>k_is)
  (case naLog_stack=>k_is)
  (case naLog_last_seen=>k_is)
  (case naDoing_held=>k_is)
  (case naDoing_width=>k_is)
  (case naDoing_log=>k_is)
  (case naDoing_found=>k_is)
  (case naLet_slot=>k_is)
  (case naReckon_slot=>k_is)
  (case naTake_slot=>k_is)
  (case naPut_slot=>k_is)
  (case naIf_slot=>k_is)
  (case naTry_slot=>k_is)
  (case naThrow_slot=>k_is)
  (case naLet_number=>k_is)
  (case naReckon_word=>k_is)
  (case naReckon_one=>k_is)
  (case naReckon_other=>k_is)
  (case naTake_place=>k_is)
  (case naPut_place=>k_is)
  (case naIf_parts=>k_is)
  (case naEither_parts=>k_is)
  (case naTry_parts=>k_is)
  (case naIf_others=>k_is)
  (case naEither_others=>k_is)
  (case naTry_others=>k_is)
  (case naTry_name=>k_is)
  (case naThrow_name=>k_is)
  (case sb3_4=>k_is)
  (case ne3_4=>decide)
  (case sb3_5=>k_is)
  (case ne3_5=>decide)
  (case sb3_6=>k_is)
  (case ne3_6=>decide)
  (case sb3_7=>k_is)
  (case ne3_7=>decide)
  (case sb3_8=>k_is)
  (case ne3_8=>decide)
  (case sb3_9=>k_is)
  (case ne3_9=>decide)
  (case sb3_10=>k_is)
  (case ne3_10=>decide)
  (case sb3_11=>k_is)
  (case ne3_11=>decide)
  (case sb4_3=>k_is)
  (case ne4_3=>decide)
  (case sb4_5=>k_is)
  (case ne4_5=>decide)
  (case sb4_6=>k_is)
  (case ne4_6=>decide)
  (case sb4_7=>k_is)
  (case ne4_7=>decide)
  (case sb4_8=>k_is)
  (case ne4_8=>decide)
  (case sb4_9=>k_is)
  (case ne4_9=>decide)
  (case sb4_10=>k_is)
  (case ne4_10=>decide)
  (case sb4_11=>k_is)
  (case ne4_11=>decide)
  (case sb5_3=>k_is)
  (case ne5_3=>decide)
  (case sb5_4=>k_is)
  (case ne5_4=>decide)
  (case sb5_6=>k_is)
  (case ne5_6=>decide)
  (case sb5_7=>k_is)
  (case ne5_7=>decide)
  (case sb5_8=>k_is)
  (case ne5_8=>decide)
  (case sb5_9=>k_is)
  (case ne5_9=>decide)
  (case sb5_10=>k_is)
  (case ne5_10=>decide)
  (case sb5_11=>k_is)
  (case ne5_11=>decide)
  (case sb6_3=>k_is)
  (case ne6_3=>decide)
  (case sb6_4=>k_is)
  (case ne6_4=>decide)
  (case sb6_5=>k_is)
  (case ne6_5=>decide)
  (case sb6_7=>k_is)
  (case ne6_7=>decide)
  (case sb6_8=>k_is)
  (case ne6_8=>decide)
  (case sb6_9=>k_is)
  (case ne6_9=>decide)
  (case sb6_10=>k_is)
  (case ne6_10=>decide)
  (case sb6_11=>k_is)
  (case ne6_11=>decide)
  (case sb7_3=>k_is)
  (case ne7_3=>decide)
  (case sb7_4=>k_is)
  (case ne7_4=>decide)
  (case sb7_5=>k_is)
  (case ne7_5=>decide)
  (case sb7_6=>k_is)
  (case ne7_6=>decide)
  (case sb7_8=>k_is)
  (case ne7_8=>decide)
  (case sb7_9=>k_is)
  (case ne7_9=>decide)
  (case sb7_10=>k_is)
  (case ne7_10=>decide)
  (case sb7_11=>k_is)
  (case ne7_11=>decide)
  (case sb8_3=>k_is)
  (case ne8_3=>decide)
  (case sb8_4=>k_is)
  (case ne8_4=>decide)
  (case sb8_5=>k_is)
  (case ne8_5=>decide)
  (case sb8_6=>k_is)
  (case ne8_6=>decide)
  (case sb8_7=>k_is)
  (case ne8_7=>decide)
  (case sb8_9=>k_is)
  (case ne8_9=>decide)
  (case sb8_10=>k_is)
  (case ne8_10=>decide)
  (case sb8_11=>k_is)
  (case ne8_11=>decide)
  (case sb11_3=>k_is)
  (case ne11_3=>decide)
  (case sb11_4=>k_is)
  (case ne11_4=>decide)
  (case sb11_5=>k_is)
  (case ne11_5=>decide)
  (case sb11_6=>k_is)
  (case ne11_6=>decide)
  (case sb11_7=>k_is)
  (case ne11_7=>decide)
  (case sb11_8=>k_is)
  (case ne11_8=>decide)
  (case sb11_9=>k_is)
  (case ne11_9=>decide)
  (case sb11_10=>k_is)
  (case ne11_10=>decide)
  (case ty3=>k_is)
  (case ty4=>k_is)
  (case ty5=>k_is)
  (case ty6=>k_is)
  (case ty7=>k_is)
  (case ty8=>k_is)
  (case ty9=>k_is)
  (case ty10=>k_is)
  (case ty11=>k_is)
  (case hn=>k_is)
  (case htk=>k_is)
  (case z1=>k_is)
  (case z2=>k_is)
  (case z3=>k_is)
  (case z4=>k_is)
  (case z5=>k_is)
  (case z6=>k_is)
  (case z7=>k_is)
  (case z8=>k_is)
  (case z9=>k_is)
  (case z10=>k_is)
  (case z11=>k_is)
  (case z12=>k_is)
  (case z13=>k_is)
  (case q1=>k_is)
  (case qk1=>k_is)
  (case q2=>k_is)
  (case q3=>k_is)
  (case qk3=>k_is)
  (case q4=>k_is)
